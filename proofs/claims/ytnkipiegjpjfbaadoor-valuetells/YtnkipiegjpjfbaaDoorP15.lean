/- Layer 3: the walk of the statement ValueTells. -/
import Derived.Test.YtnkipiegjpjfbaaDoorP13
import Derived.Test.YtnkipiegjpjfbaaDoorP14
import Derived.Test.YtnkipiegjpjfbaaDoorP12
import Derived.ProofKit
import Derived.Deep.Grids
import Derived.Lib.SmallJoins
namespace Go.Proofs.YtnkipiegjpjfbaaDoor
open Go.RowKit

/-- No Parts of it lie in that block. -/
def Vl.Off (B : Nat) : Vl → Prop
  | .dm => True
  | .mk _ _ _ b _ len _ ps => ∀ i, i < len → b ≠ B ∧ Vl.Off B (ps i)
theorem voff_of_at {w : World} {B : Nat} (hB : w.heap.size ≤ B) : ∀ {t : Vl}, t.At w → t.Off B
  | .dm, _ => trivial
  | .mk _ _ _ _ _ _ _ _, h => fun i hi => ⟨by have := World.block_lt_of_cell? w _ (h.2.2 i hi).1.c0; intro e; simp only at this; omega, voff_of_at hB (h.2.2 i hi).2⟩
theorem C3.of_block {w w' : World} {b o : Nat} {t : Vl} (h : C3 w b o t) (e : w'.heap[b]? = w.heap[b]?) : C3 w' b o t :=
  ⟨(World.cell?_of_block (w := w) (a := ⟨b, o, none⟩) e).trans h.c0, (World.cell?_of_block (w := w) (a := ⟨b, o + 1, none⟩) e).trans h.c1, (World.cell?_of_block (w := w) (a := ⟨b, o + 2, none⟩) e).trans h.c2⟩
theorem vat_of_off {w w' : World} {B : Nat} (he : ∀ b, b ≠ B → w'.heap[b]? = w.heap[b]?) : ∀ {t : Vl}, t.At w → t.Off B → t.At w'
  | .dm, h, _ => h.elim
  | .mk _ _ _ _ _ _ _ _, h, o => ⟨h.1, h.2.1, fun i hi => ⟨(h.2.2 i hi).1.of_block (he _ (o i hi).1), vat_of_off he (h.2.2 i hi).2 (o i hi).2⟩⟩

/-- Three cells written. -/
def World.put3 (w : World) (B : Nat) (v0 v1 v2 : Value) : World := ((w.setCell ⟨B, 0, none⟩ v0).setCell ⟨B, 1, none⟩ v1).setCell ⟨B, 2, none⟩ v2
theorem put3_heap (w : World) (B : Nat) (v0 v1 v2 : Value) {b : Nat} (h : b ≠ B) : (World.put3 w B v0 v1 v2).heap[b]? = w.heap[b]? := by
  unfold World.put3
  rw [Below.heap_setCell _ _ _ _ h, Below.heap_setCell _ _ _ _ h, Below.heap_setCell _ _ _ _ h]
theorem put3_below {w w1 : World} {B : Nat} (hB : w.heap.size ≤ B) (h : Below w.heap.size w w1) (v0 v1 v2 : Value) : Below w.heap.size w (World.put3 w1 B v0 v1 v2) :=
  ((h.setCell hB _).setCell hB _).setCell hB _
theorem put3_frozen (w : World) (B : Nat) (v0 v1 v2 : Value) (a : Addr) : (World.put3 w B v0 v1 v2).frozen? a = w.frozen? a := by
  unfold World.put3
  rw [World.frozen?_setCell, World.frozen?_setCell, World.frozen?_setCell]
theorem put3_cells {w : World} {B : Nat} (v0 v1 v2 : Value) {t : Vl} (h : Bv w B t) (hf : ∀ i, i < 3 → w.frozen? ⟨B, i, none⟩ = false) : (World.put3 w B v0 v1 v2).cell? ⟨B, 0, none⟩ = some v0 ∧ (World.put3 w B v0 v1 v2).cell? ⟨B, 1, none⟩ = some v1 ∧ (World.put3 w B v0 v1 v2).cell? ⟨B, 2, none⟩ = some v2 := by
  have key := World.rangeAt_setCells_same w B 0 [v0, v1, v2] (fun j hj => ?_)
  · exact ⟨key 0 v0 rfl, key 1 v1 rfl, key 2 v2 rfl⟩
  · have hj' : j < 3 := hj
    rw [Nat.zero_add]
    refine ⟨?_, hf j hj'⟩
    match j, hj' with
    | 0, _ => rw [h.c0]; rfl
    | 1, _ => rw [h.c1]; rfl
    | 2, _ => rw [h.c2]; rfl
theorem wpList_store3 {w : World} {ops : Array Oper} {rest : List Oper} {o : Oper} {a : Act} {Q : Exit → Act → World → Prop} (hgd : o.guard = none) (hdst : o.dst = none) (p x : Operand) (ho : o.op = .store 24 p x) (B : Nat) (v0 v1 v2 : Value)
    (hp : a.eval p = .pointer (some ⟨B, 0, none⟩)) (hx : a.eval x = .agg #[v0, v1, v2]) (h0 : v0.oneCell' = true) (h1 : v1.oneCell' = true) (h2 : v2.oneCell' = true) {t : Vl} (hb : Bv w B t) (hf : ∀ i, i < 3 → w.frozen? ⟨B, i, none⟩ = false)
    (h : wpList Tryd.prog ops Q rest a (World.put3 w B v0 v1 v2)) : wpList Tryd.prog ops Q (o :: rest) a w := by
  refine wpList_store_mid hgd 24 p x ho B 0 #[v0, v1, v2] hp hx (fun j hj => ?_) (by kernel_rfl) (by simp [h0, h1, h2]) ?_
  · have hj' : j < 3 := hj
    rw [Nat.zero_add]
    refine ⟨?_, hf j hj'⟩
    match j, hj' with
    | 0, _ => rw [hb.c0]; rfl
    | 1, _ => rw [hb.c1]; rfl
    | 2, _ => rw [hb.c2]; rfl
  · rw [hdst]
    exact h

/-- A Pair of the same twice. -/
def Vl.dbl (t : Vl) (A : Nat) : Vl := .mk 3 0 (some ⟨A, 0, none⟩) A 0 2 2 (fun _ => t)
/-- Within the loop. -/
structure VF (w wr : World) (t : Vl) : Prop where
  X : Bv wr w.heap.size t
  F : ∀ i, i < 3 → wr.frozen? ⟨w.heap.size, i, none⟩ = false
  A : t.At wr
  O : t.Off w.heap.size
  B : Below w.heap.size w wr
  R : t.rng
theorem VF.kept {w wr w' : World} {t : Vl} (h : VF w wr t) (hb : Below wr.heap.size wr w') : VF w w' t :=
  ⟨h.X.kept hb, fun i hi => by rw [hb.frozen (p := ⟨w.heap.size, i, none⟩) (by have := World.block_lt_of_cell? wr _ h.X.c0; exact this)]; exact h.F i hi, h.A.kept hb, h.O, h.B.trans (hb.mono h.B.size), h.R⟩
theorem VF.dbl {w wr : World} {t : Vl} (h : VF w wr t) : VF w (World.put3 (wr.alloc (.cells #[.int .i64 t.k, .int .i64 t.m, .slice t.ao t.len t.cap, .int .i64 t.k, .int .i64 t.m, .slice t.ao t.len t.cap] 24)) w.heap.size (.int .i64 3) (.int .i64 0) (.slice (some ⟨wr.heap.size, 0, none⟩) 2 2)) (t.dbl wr.heap.size) := by
  have hlt : w.heap.size < wr.heap.size := World.block_lt_of_cell? wr _ h.X.c0
  have k := h.kept (below_alloc wr (.cells #[.int .i64 t.k, .int .i64 t.m, .slice t.ao t.len t.cap, .int .i64 t.k, .int .i64 t.m, .slice t.ao t.len t.cap] 24))
  have N0 : C3 (wr.alloc (.cells #[.int .i64 t.k, .int .i64 t.m, .slice t.ao t.len t.cap, .int .i64 t.k, .int .i64 t.m, .slice t.ao t.len t.cap] 24)) wr.heap.size 0 t := by constructor <;> simp
  have N1 : C3 (wr.alloc (.cells #[.int .i64 t.k, .int .i64 t.m, .slice t.ao t.len t.cap, .int .i64 t.k, .int .i64 t.m, .slice t.ao t.len t.cap] 24)) wr.heap.size 3 t := by constructor <;> simp
  generalize wr.alloc (.cells #[.int .i64 t.k, .int .i64 t.m, .slice t.ao t.len t.cap, .int .i64 t.k, .int .i64 t.m, .slice t.ao t.len t.cap] 24) = w1 at k N0 N1 ⊢
  have he : ∀ b, b ≠ w.heap.size → (World.put3 w1 w.heap.size (.int .i64 3) (.int .i64 0) (.slice (some ⟨wr.heap.size, 0, none⟩) 2 2)).heap[b]? = w1.heap[b]? := fun b hb => put3_heap _ _ _ _ _ hb
  obtain ⟨e0, e1, e2⟩ := put3_cells (.int .i64 3) (.int .i64 0) (.slice (some ⟨wr.heap.size, 0, none⟩) 2 2) k.X k.F
  refine ⟨⟨e0, e1, e2⟩, fun i hi => by rw [put3_frozen]; exact k.F i hi, ?_, ?_, put3_below (Nat.le_refl _) k.B _ _ _, ?_⟩
  · refine ⟨fun _ => rfl, by omega, fun i hi => ⟨?_, vat_of_off he k.A k.O⟩⟩
    match i, hi with
    | 0, _ => exact N0.of_block (he _ (by omega))
    | 1, _ => exact N1.of_block (he _ (by omega))
  · exact fun i _ => ⟨by omega, k.O⟩
  · exact ⟨⟨by omega, by omega⟩, fun _ _ => k.R⟩

set_option maxRecDepth 100000 in
set_option maxHeartbeats 8000000 in
theorem valueTells_any (v u : Vl) (x : Int) (w : World) (hv : v.At w) (hu : u.At w) (hT : Tab w) (hr : v.rng) (hx0 : 0 ≤ x) (hx1 : x ≤ 255) :
    Calls Tryd.prog 3 #[.agg #[.int .i64 v.k, .int .i64 v.m, .slice v.ao v.len v.cap], .agg #[.int .i64 u.k, .int .i64 u.m, .slice u.ao u.len u.cap], .int .u8 x] w fun e w' => e = .returned (.bool true) ∧ Below w.heap.size w w' := by
  obtain ⟨X0, Y0, B0⟩ := start_vv w v u
  have T0 : VF w ((w.alloc (vlO v)).alloc (vlO u)) v := ⟨X0, fun i hi => by
    match i, hi with
    | 0, _ => simp [vlO]
    | 1, _ => simp [vlO]
    | 2, _ => simp [vlO], hv.kept B0, voff_of_at (Nat.le_refl _) hv, B0, hr⟩
  have HT : Hid (Tab w) := hT
  have HU : Hid (u.At w) := hu
  clear X0 B0 hT hu hv hr
  unfold vlO at *
  go_enter Tryd.func3, Tryd.ntmps3
  go_wp2_with fail
  refine (vawake_any _ (HT.out.kept T0.B)).mono ?_
  rintro e w1 ⟨rfl, hb1⟩
  have T1 := T0.kept hb1
  have Y1 := Y0.kept hb1
  clear T0 Y0 hb1
  have x0 := T1.X.c0
  have x1 := T1.X.c1
  have x2 := T1.X.c2
  go_wp2_with fail
  refine (rvSmall_any v _ T1.A).mono ?_
  rintro e w2 ⟨rfl, hb2⟩
  have T2 := T1.kept hb2
  have Y2 := Y1.kept hb2
  clear T1 Y1 hb2 x0 x1 x2
  by_cases s1 : v.nodes ≤ 2000
  · rw [decide_eq_true s1]
    have y0 := Y2.c0
    have y1 := Y2.c1
    have y2 := Y2.c2
    have HN1 : Hid (v.nodes ≤ 2000) := s1
    clear s1
    go_wp2_with fail
    refine (rvSmall_any u _ (HU.out.kept T2.B)).mono ?_
    rintro e w3 ⟨rfl, hb3⟩
    have T3 := T2.kept hb3
    have Y3 := Y2.kept hb3
    clear T2 Y2 hb3 y0 y1 y2
    by_cases s2 : u.nodes ≤ 2000
    · rw [decide_eq_true s2]
      clear s2
      have H1 := fun z (hz : Below w3.heap.size w3 z) => vSame_any v u z (T3.A.kept hz) (HU.out.kept (Below.next T3.B hz)) (by have := HN1.out; have := vpn_nodes v; omega)
      have H2 := fun z (hz : Below w3.heap.size w3 z) => rvSame_any v u z (T3.A.kept hz) (HU.out.kept (Below.next T3.B hz))
      generalize v.same u = V at H1 H2
      have x0 := fun x => Gr.cell x T3.X.c0
      have x1 := fun x => Gr.cell x T3.X.c1
      have x2 := fun x => Gr.cell x T3.X.c2
      have y0 := fun x => Gr.cell x Y3.c0
      have y1 := fun x => Gr.cell x Y3.c1
      have y2 := fun x => Gr.cell x Y3.c2
      go_wp2
      have hNE : Nonempty (Gr w3) := ⟨⟨_, Below.refl _ _⟩⟩
      refine wp_region_gr (by kernel_rfl) (by kernel_rfl) ?_
      repeat (first | go_big_quiet_step ((first | (go_at_call 10; exact Calls.gr _ (H1 _ (Gr.bl _))) | (go_at_call 11; exact Calls.gr _ (H2 _ (Gr.bl _))))))
      refine wpQuiet_nil ?_
      rintro w4 ⟨x4w, rfl⟩
      have HT4 : Hid (VF w x4w.w v) := T3.kept x4w.bl
      generalize x4w.w = w4 at HT4 ⊢
      clear x4w hNE x0 x1 x2 y0 y1 y2 H1 H2 T3 Y3
      go_wp2
      go_loopw [7] (fun i wr => ∃ (j : Nat) (t' : Vl), i = .int .i64 j ∧ j ≤ 11 ∧ Hid (VF w wr t')) (fun i _ => 12 - (intOf i).toNat)
      case atStart => exact ⟨0, v, rfl, by omega, HT4.out⟩
      case round =>
        obtain ⟨j, t', rfl, hj, HR⟩ := hrel
        clear HT4
        by_cases hlt : (j : Int) < x % 12
        · have HJ : Hid ((j : Int) < x % 12) := hlt
          have X := HR.out.X
          have x0 := X.c0
          have x1 := X.c1
          have x2 := X.c2
          have K : VF w _ t' := HR.out.kept (below_alloc wr (.cells #[.int .i64 t'.k, .int .i64 t'.m, .slice t'.ao t'.len t'.cap, .int .i64 t'.k, .int .i64 t'.m, .slice t'.ao t'.len t'.cap] 24))
          have X5 := K.X
          have F5 := K.F
          clear K X
          go_wp2_with (refine wpList_store3 rfl rfl _ _ rfl w.heap.size _ _ _ rfl rfl rfl rfl rfl X5 F5 ?_)
          go_roundw
          case rel => exact ⟨j + 1, _, by go_num, by have := HJ.out; omega, HR.out.dbl⟩
          case measure => simp [intOf]; omega
        · have T3 := HR.out
          have x0 := T3.X.c0
          have x1 := T3.X.c1
          have x2 := T3.X.c2
          have hC1 := text_any t' wr T3.A (HT.out.kept T3.B) T3.R
          go_wp2_with fail
          refine hC1.mono ?_
          rintro e w5 ⟨rfl, hb5⟩
          have T5 := T3.kept hb5
          clear T3 hb5 x0 x1 x2 hC1 HR
          have x0 := T5.X.c0
          have x1 := T5.X.c1
          have x2 := T5.X.c2
          go_wp2_with fail
          refine (rText_any t' _ T5.A T5.R).mono ?_
          rintro e w6 ⟨rfl, hb6⟩
          have T6 := T5.kept hb6
          clear T5 hb6 x0 x1 x2
          have HT6 : Hid (VF w w6 t') := T6
          have H1 := fun z (hz : Below w6.heap.size w6 z) => vFormed_any t' z (HT6.out.A.kept hz)
          have H2 := fun z (hz : Below w6.heap.size w6 z) => rvFormed_any t' z (HT6.out.A.kept hz)
          have H3 := fun z (hz : Below w6.heap.size w6 z) => vNodes_any t' z (HT6.out.A.kept hz)
          have H4 := fun z (hz : Below w6.heap.size w6 z) => rvNodes_any t' z (HT6.out.A.kept hz)
          have x0 := fun x => Gr.cell x HT6.out.X.c0
          have x1 := fun x => Gr.cell x HT6.out.X.c1
          have x2 := fun x => Gr.cell x HT6.out.X.c2
          have B6 := T6.B
          clear T6
          go_wp2
          generalize t'.tx = tx
          generalize t'.te = te
          generalize t'.ok = V at H1 H2
          generalize min t'.nodes 2001 = U at H3 H4
          have hNE : Nonempty (Gr w6) := ⟨⟨_, Below.refl _ _⟩⟩
          refine wp_region_gr (by kernel_rfl) (by kernel_rfl) ?_
          repeat (first | go_big_quiet_step ((first | (go_at_call 14; exact Calls.gr _ (H1 _ (Gr.bl _))) | (go_at_call 15; exact Calls.gr _ (H2 _ (Gr.bl _))) | (go_at_call 16; exact Calls.gr _ (H3 _ (Gr.bl _))) | (go_at_call 17; exact Calls.gr _ (H4 _ (Gr.bl _))))))
          refine wpQuiet_nil ?_
          rintro w7 ⟨x7w, rfl⟩
          have B7 := x7w.bl
          generalize x7w.w = w7 at B7 ⊢
          clear x7w hNE x0 x1 x2 H1 H2 H3 H4
          go_wp2
          go_ret
          exact ⟨rfl, Below.next B6 B7⟩
    · rw [decide_eq_false s2]
      clear s2
      go_wp2_with fail
      refine (vawake_any _ (HT.out.kept T3.B)).mono ?_
      rintro e w4 ⟨rfl, hb4⟩
      go_wp2
      go_ret
      exact ⟨rfl, Below.next T3.B hb4⟩
  · rw [decide_eq_false s1]
    clear s1
    go_wp2_with fail
    refine (vawake_any _ (HT.out.kept T2.B)).mono ?_
    rintro e w3 ⟨rfl, hb3⟩
    go_wp2
    go_ret
    exact ⟨rfl, Below.next T2.B hb3⟩
end Go.Proofs.YtnkipiegjpjfbaaDoor

/- A value that comes in, opened. -/
namespace Go.Proofs.YtnkipiegjpjfbaaDoor
open Go.ChangeShapes Go.WideShapes Go.ChangeAt Go.RowKit Go.Deep Go.Joins

theorem Tryd.cInt : Tryd.prog.cellsOf 3 = 1 := by kernel_rfl
theorem Tryd.cInt64 : Tryd.prog.cellsOf 2 = 1 := by kernel_rfl
theorem Tryd.cVls : Tryd.prog.cellsOf 22 = 1 := by kernel_rfl
theorem Tryd.cVl : Tryd.prog.cellsOf 24 = 3 := by kernel_rfl
theorem addr_vl (b off i : Nat) : (⟨b, off, none⟩ : Addr).add i = ⟨b, off + i, none⟩ := by unfold Addr.add; split <;> simp_all
theorem wf_i64v {n : Int} (h : (Lit.int .i64 n).wf = true) : -9223372036854775808 ≤ n ∧ n ≤ 9223372036854775807 := by
  have h' : IntKind.i64.min ≤ n ∧ n ≤ IntKind.i64.max := by simpa [Lit.wf] using h
  have e1 : IntKind.i64.min = -9223372036854775808 := by decide
  have e2 : IntKind.i64.max = 9223372036854775807 := by decide
  omega

section
variable {H : Type} {enc : TypeId × Value → H} {W : World} {base : Nat}

def Vl.cs (t : Vl) : List Value := [.int .i64 t.k, .int .i64 t.m, .slice t.ao t.len t.cap]

set_option maxRecDepth 100000 in
theorem open_vl : ∀ (fuel : Nat) (cs : List Value) (x : DataW H × List MemPlace), DataW.trod enc Tryd.prog W base (fun _ => true) true fuel 24 cs = some x → ∃ t : Vl, cs = t.cs ∧ t.At W ∧ t.rng := by
  intro fuel
  induction fuel using Nat.strongRecOn with
  | _ fuel ih =>
    intro cs x h
    obtain ⟨xs, n, rfl, _, hl, hlen, hf⟩ := DataW.trod_struct Tryd.underlying24 h
    rw [Tryd.cVl] at hl
    match cs, hl with
    | [c0, c1, c2], _ =>
      have hlen3 : xs.length = 3 := hlen
      match xs, hlen3 with
      | [y0, y1, y2], _ =>
        have f0 : DataW.trod enc Tryd.prog W base (fun _ => true) true n 3 [c0] = some y0 := by simpa [Tryd.cInt] using hf 0 _ rfl
        have f1 : DataW.trod enc Tryd.prog W base (fun _ => true) true n 2 [c1] = some y1 := by simpa [Tryd.cInt64] using hf 1 _ rfl
        have f2 : DataW.trod enc Tryd.prog W base (fun _ => true) true n 22 [c2] = some y2 := by simpa [Tryd.cVls] using hf 2 _ rfl
        obtain ⟨k, q0, _⟩ := DataW.trod_int Tryd.underlying3 f0
        obtain ⟨m0, q1, _, wm⟩ := DataW.trod_int Tryd.underlying2 f1
        simp only [List.cons.injEq, and_true] at q0 q1
        subst q0 q1
        rcases DataW.trod_slice Tryd.underlying22 f2 with ⟨hcs, _⟩ | ⟨a, len, cap, elems, rest, m, hm, hcs, _, _, hlc, hmx, hel, hx, _, _⟩
        · simp only [List.cons.injEq, and_true] at hcs
          subst hcs
          exact ⟨.mk k m0 none 0 0 0 0 (fun _ => .dm), rfl, ⟨fun h => absurd h (Nat.lt_irrefl _), Nat.zero_le _, fun _ h => absurd h (Nat.not_lt_zero _)⟩, ⟨wf_i64v wm, fun _ h => absurd h (Nat.not_lt_zero _)⟩⟩
        · simp only [List.cons.injEq, and_true] at hcs
          subst hcs hm
          unfold maxLen at hmx
          have each : ∀ i, i < len → ∃ t : Vl, (∀ j, j < 3 → W.cell? (a.add (i * 3 + j)) = t.cs[j]?) ∧ t.At W ∧ t.rng := by
            intro i hi
            have h1 := hx i hi
            rw [Tryd.cVl] at h1
            cases hc : W.cells? base (a.add (i * 3)) 3 with
            | none => rw [hc] at h1; simp at h1; omega
            | some cs' =>
              rw [hc] at h1
              have h2 : DataW.trod enc Tryd.prog W base (fun _ => true) true m 24 cs' = some elems[i] := by
                rw [List.getElem?_eq_getElem (by omega)] at h1
                simpa using h1
              obtain ⟨t, rfl, hA⟩ := ih m (by omega) cs' _ h2
              obtain ⟨_, _, hcell⟩ := World.cells?_some hc
              exact ⟨t, fun j hj => by rw [← hcell j hj, add_add], hA⟩
          have hspot : 0 < len → a = ⟨a.block, a.off, none⟩ := fun hp => by
            obtain ⟨t, ht, _⟩ := each 0 hp
            have hs := World.cell?_spot (a := a.add (0 * 3 + 0)) (v := .int .i64 t.k) (by rw [ht 0 (by omega)]; rfl)
            obtain ⟨ab, ao, asp⟩ := a
            have : asp = none := by simpa [Addr.add] using hs
            subst this; rfl
          refine ⟨.mk k m0 (some a) a.block a.off len cap (fun i => if h : i < len then Classical.choose (each i h) else .dm), rfl, ⟨fun hp => congrArg some (hspot hp), by omega, fun i hi => ?_⟩, ⟨wf_i64v wm, fun i hi => ?_⟩⟩
          · simp only [dif_pos hi]
            obtain ⟨ht, hA, _⟩ := Classical.choose_spec (each i hi)
            generalize Classical.choose (each i hi) = t at ht hA
            have ea := hspot (by omega)
            have get : ∀ j, j < 3 → W.cell? ⟨a.block, a.off + i * 3 + j, none⟩ = t.cs[j]? := fun j hj => by
              have := ht j hj
              rw [ea, addr_vl, ← Nat.add_assoc] at this
              exact this
            exact ⟨⟨get 0 (by omega), get 1 (by omega), get 2 (by omega)⟩, hA⟩
          · simp only [dif_pos hi]
            exact (Classical.choose_spec (each i hi)).2.2
set_option maxRecDepth 100000 in
theorem open_value {v : Value} {d : DataW H} {p : List MemPlace} {b0 : Nat} (hv : Value.okWide Tryd.prog W .any b0 24 v) (h : DataW.Trod enc Tryd.prog W base (fun _ => true) true 24 v d p) :
    ∃ t : Vl, v = .agg #[.int .i64 t.k, .int .i64 t.m, .slice t.ao t.len t.cap] ∧ t.At W ∧ t.rng := by
  obtain ⟨cs, rfl, _⟩ := okWide_struct Tryd.underlying24 hv
  obtain ⟨fuel, hf⟩ := h
  obtain ⟨t, ht, hA⟩ := open_vl fuel _ _ hf
  refine ⟨t, ?_, hA⟩
  have : cs.toList = t.cs := by simpa [Value.cells] using ht
  obtain ⟨l⟩ := cs
  have e : l = t.cs := this
  rw [e]; rfl
end
end Go.Proofs.YtnkipiegjpjfbaaDoor
