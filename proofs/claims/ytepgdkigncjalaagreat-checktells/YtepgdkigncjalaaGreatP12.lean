/- Variables as whole blocks. -/
import Derived.Test.YtepgdkigncjalaaGreatP9
import Derived.Test.YtepgdkigncjalaaGreatP11
namespace Go.Proofs.YtepgdkigncjalaaGreat
open Go Go.RowKit

/-- A block that holds just these values, unmarked. -/
def Blk (w : World) (B : Nat) (c : List Value) (t : TypeId) : Prop := w.heap[B]? = some (.cells c.toArray t (0, 0))
theorem Blk.lt {w : World} {B : Nat} {c : List Value} {t : TypeId} (h : Blk w B c t) : B < w.heap.size := eblock_lt h
theorem Blk.kept {w w' : World} {B : Nat} {c : List Value} {t : TypeId} (h : Blk w B c t) (hb : Below w.heap.size w w') : Blk w' B c t := by
  unfold Blk; rw [hb.block B h.lt]; exact h
theorem Blk.cell {w : World} {B : Nat} {c : List Value} {t : TypeId} (h : Blk w B c t) (i : Nat) {v : Value} (hv : c[i]? = some v) : w.cell? ⟨B, i, none⟩ = some v := by
  unfold Blk at h
  simp [World.cell?, h, hv]
theorem Blk.frozen {w : World} {B : Nat} {c : List Value} {t : TypeId} (h : Blk w B c t) (i : Nat) : w.frozen? ⟨B, i, none⟩ = false := by
  unfold Blk at h
  simp [World.frozen?, h]
theorem Blk.there {w : World} {B : Nat} {c : List Value} {t : TypeId} (h : Blk w B c t) : w.there B 0 c.length := there_of h
theorem Blk.range {w : World} {B : Nat} {c : List Value} {t : TypeId} (h : Blk w B c t) : w.rangeAt B 0 c := fun j v hv => by rw [Nat.zero_add]; exact h.cell j hv
theorem Blk.new (w : World) (c : List Value) (t : TypeId) : Blk (w.alloc (.cells c.toArray t)) w.heap.size c t := heap_alloc_new _ _
theorem Blk.plain {w : World} {B : Nat} {c : List Value} {t : TypeId} (h : Blk w B c t) : PlainAt w B := ⟨_, _, h⟩
/-- One block written, all else as it was. -/
structure WroteB (w w' : World) (B : Nat) (c : List Value) (t : TypeId) : Prop where
  blk : Blk w' B c t
  other : ∀ b, b ≠ B → w'.heap[b]? = w.heap[b]?
  size : w'.heap.size = w.heap.size
  below : ∀ {B0 : Nat} {a : World}, B0 ≤ B → Below B0 a w → Below B0 a w'
theorem WroteB.keep {w w' : World} {B B' : Nat} {c c' : List Value} {t t' : TypeId} (h : WroteB w w' B c t) (hb : Blk w B' c' t') (hne : B' ≠ B) : Blk w' B' c' t' := by unfold Blk; rw [h.other _ hne]; exact hb
theorem setCells_heap (b : Nat) : ∀ (vs : List Value) (o : Nat) (w : World) (k : Nat), k ≠ b → (w.setCells b o vs).heap[k]? = w.heap[k]?
  | [], _, _, _, _ => rfl
  | v :: vs, o, w, k, h => by
    rw [World.setCells, setCells_heap b vs (o + 1) _ k h, Below.heap_setCell _ _ _ _ h]
theorem setCells_size (b : Nat) : ∀ (vs : List Value) (o : Nat) (w : World), (w.setCells b o vs).heap.size = w.heap.size
  | [], _, _ => rfl
  | v :: vs, o, w => by rw [World.setCells, setCells_size b vs (o + 1)]; simp [World.setCell]
theorem setCells_blk (t : TypeId) : ∀ (vs pre post : List Value) (w : World) (B : Nat), post.length = vs.length → Blk w B (pre ++ post) t → Blk (w.setCells B pre.length vs) B (pre ++ vs) t
  | [], pre, post, w, B, h, hb => by
    have e : post = [] := List.eq_nil_of_length_eq_zero h
    subst e; exact hb
  | v :: vs, pre, [], w, B, h, hb => by simp at h
  | v :: vs, pre, p :: post, w, B, h, hb => by
    rw [World.setCells]
    have h1 : Blk (w.setCell ⟨B, pre.length, none⟩ v) B ((pre ++ [v]) ++ post) t := by
      have hl := hb.lt
      unfold Blk at hb ⊢
      have e : ((pre ++ p :: post).toArray.setIfInBounds pre.length v) = ((pre ++ [v]) ++ post).toArray := by
        apply Array.toList_inj.1
        simp
      rw [← e]
      simp [World.setCell, Array.getElem?_modify, hb]
    have k := setCells_blk t vs (pre ++ [v]) post _ B (by simpa using h) h1
    rw [show (pre ++ [v]).length = pre.length + 1 by simp] at k
    simpa using k
theorem wrote_setCells {w : World} {B : Nat} {c : List Value} {t : TypeId} (h : Blk w B c t) (vs : List Value) (hl : c.length = vs.length) : WroteB w (w.setCells B 0 vs) B vs t :=
  ⟨setCells_blk t vs [] c w B hl (by simpa using h), fun b hb => setCells_heap _ _ _ _ _ hb, setCells_size _ _ _ _, fun hB hb => below_setCells hB _ _ _ hb⟩
/-- A value stored whole. -/
theorem wpList_store_blk {w : World} {ops : Array Oper} {rest : List Oper} {o : Oper} {a : Act} {Q : Exit → Act → World → Prop} (hgd : o.guard = none) (hdst : o.dst = none) (t : TypeId) (p x : Operand) (ho : o.op = .store t p x) (B : Nat) (vs : List Value)
    (hp : a.eval p = .pointer (some ⟨B, 0, none⟩)) (hx : a.eval x = .agg vs.toArray) (h1 : vs.all (·.oneCell') = true) {c : List Value} (hb : Blk w B c t) (hl : c.length = vs.length) (hi : (Tryz.prog.info? t).map (·.size) = some vs.toArray.size)
    (h : ∀ w', WroteB w w' B vs t → wpList Tryz.prog ops Q rest a w') : wpList Tryz.prog ops Q (o :: rest) a w := by
  refine wpList_store_mid hgd t p x ho B 0 vs.toArray hp hx ?_ hi (by simpa using h1) ?_
  · have := hb.there; rw [hl] at this; simpa using this
  · rw [hdst]
    exact h _ (wrote_setCells hb vs hl)
/-- Blocks made one behind the other. -/
theorem allocs_heap : ∀ (os : List Obj) (w : World) (i : Nat), i < os.length → (os.foldl World.alloc w).heap[w.heap.size + i]? = os[i]?
  | [], _, i, h => absurd h (Nat.not_lt_zero i)
  | o :: os, w, 0, _ => by
    show (os.foldl World.alloc (w.alloc o)).heap[w.heap.size + 0]? = some o
    have key : ∀ (os : List Obj) (w : World) (k : Nat), k < w.heap.size → (os.foldl World.alloc w).heap[k]? = w.heap[k]? := by
      intro os
      induction os with
      | nil => intro w k _; rfl
      | cons o os ih => intro w k hk; show (os.foldl World.alloc (w.alloc o)).heap[k]? = _; rw [ih _ k (by simp; omega), Below.heap_alloc _ _ _ hk]
    rw [Nat.add_zero, key os _ _ (by simp), heap_alloc_new]
  | o :: os, w, i + 1, h => by
    have := allocs_heap os (w.alloc o) i (by simpa using h)
    show (os.foldl World.alloc (w.alloc o)).heap[w.heap.size + (i + 1)]? = os[i]?
    rw [alloc_size] at this
    rw [← this, show w.heap.size + 1 + i = w.heap.size + (i + 1) by omega]
theorem allocs_below : ∀ (os : List Obj) (w : World), Below w.heap.size w (os.foldl World.alloc w)
  | [], _ => Below.refl _ _
  | o :: os, w => Below.next (below_alloc w o) (allocs_below os (w.alloc o))
theorem allocs_size : ∀ (os : List Obj) (w : World), (os.foldl World.alloc w).heap.size = w.heap.size + os.length
  | [], _ => rfl
  | o :: os, w => by
    show (os.foldl World.alloc (w.alloc o)).heap.size = _
    rw [allocs_size os, alloc_size]; simp; omega
end Go.Proofs.YtepgdkigncjalaaGreat

/- Layer 2: Formed. -/
namespace Go.Proofs.YtepgdkigncjalaaGreat
open Go.RowKit

theorem boundsFormed_mk (n : Strs) (g : Grid) (k l h e : Int) (ao : Option Addr) (b o len cap : Nat) (ps : Nat → Ty) (w : World) (hn : n.At w) : Calls Tryz.prog 67 #[.agg #[.slice n.ao n.len n.cap, .slice g.ao g.len g.cap], .agg #[.int .i64 k, .int .i64 l, .slice ao len cap, .int .i64 h, .int .i64 e]] w fun r w' => r = .returned (.bool (bndI n.len k h e)) ∧ Below w.heap.size w w' :=
  boundsFormed_any n g (.mk k l h e ao b o len cap ps) w hn
theorem fm_eq (N : Nat) (k l h e : Int) (ao : Option Addr) (b o len cap : Nat) (ps : Nat → Ty) (d : Nat) : Ty.fm N (.mk k l h e ao b o len cap ps) d = ((((decide (d ≤ 6) && ((len : Int) == arityI k)) && inR N l) && bndI N k h e) && decide (∀ i, i < len → Ty.fm N (ps i) (d + 1) = true)) := rfl
theorem fm_cases (N : Nat) (k l h e : Int) (ao : Option Addr) (b o len cap : Nat) (ps : Nat → Ty) (d : Nat) :
    (6 < d ∧ Ty.fm N (.mk k l h e ao b o len cap ps) d = false) ∨ (d ≤ 6 ∧ ((len : Int) != arityI k) = true ∧ Ty.fm N (.mk k l h e ao b o len cap ps) d = false) ∨ (d ≤ 6 ∧ ((len : Int) != arityI k) = false ∧ inR N l = false ∧ Ty.fm N (.mk k l h e ao b o len cap ps) d = false) ∨
    (d ≤ 6 ∧ ((len : Int) != arityI k) = false ∧ inR N l = true ∧ bndI N k h e = false ∧ Ty.fm N (.mk k l h e ao b o len cap ps) d = false) ∨ (d ≤ 6 ∧ ((len : Int) != arityI k) = false ∧ inR N l = true ∧ bndI N k h e = true ∧ Ty.fm N (.mk k l h e ao b o len cap ps) d = decide (∀ i, i < len → Ty.fm N (ps i) (d + 1) = true)) := by
  rw [fm_eq]
  by_cases h1 : 6 < d
  · left; exact ⟨h1, by rw [show decide (d ≤ 6) = false from decide_eq_false (by omega)]; rfl⟩
  have h1' : decide (d ≤ 6) = true := decide_eq_true (by omega)
  right
  rw [h1']
  cases h2 : ((len : Int) == arityI k)
  · left; exact ⟨by omega, by simp [bne, h2], rfl⟩
  right
  cases h3 : inR N l
  · left; exact ⟨by omega, by simp [bne, h2], rfl, rfl⟩
  right
  cases h4 : bndI N k h e
  · left; exact ⟨by omega, by simp [bne, h2], rfl, rfl, rfl⟩
  right
  exact ⟨by omega, by simp [bne, h2], rfl, rfl, by simp⟩

set_option maxRecDepth 100000 in
set_option maxHeartbeats 8000000 in
theorem formedT_any (n : Strs) (g : Grid) : ∀ (t : Ty) (d : Nat) (w : World), d ≤ 7 → n.At w → t.At w → Calls Tryz.prog 41 #[.agg #[.slice n.ao n.len n.cap, .slice g.ao g.len g.cap], .agg #[.int .i64 t.k, .int .i64 t.l, .slice t.ao t.len t.cap, .int .i64 t.h, .int .i64 t.e], .int .i64 d] w fun e w' => e = .returned (.bool (t.fm n.len d)) ∧ Below w.heap.size w w' := by
  intro t
  induction t with
  | dm => intro d w _ _ hAt; exact hAt.elim
  | mk k l h e ao b o len cap ps ih =>
    intro d w hd hn hAt
    show Calls Tryz.prog 41 #[.agg #[.slice n.ao n.len n.cap, .slice g.ao g.len g.cap], .agg #[.int .i64 k, .int .i64 l, .slice ao len cap, .int .i64 h, .int .i64 e], .int .i64 d] w fun r w' => r = .returned (.bool (Ty.fm n.len (.mk k l h e ao b o len cap ps) d)) ∧ Below w.heap.size w w'
    obtain ⟨L0, X0, B0⟩ := start_lt w n g (.mk k l h e ao b o len cap ps)
    have hn2 := hn.kept B0
    have hA2 := hAt.kept B0
    have hb : len ≤ 9223372036854775807 := hAt.bound
    have hnil : 0 < len → ao = some ⟨b, o, none⟩ := hAt.nil
    unfold latO tyO at *
    have l0 := fun x => Gr.cell x L0.c0
    have l1 := fun x => Gr.cell x L0.c1
    have x0 := fun x => Gr.cell x X0.c0
    have x1 := fun x => Gr.cell x X0.c1
    have x2 := fun x => Gr.cell x X0.c2
    have x3 := fun x => Gr.cell x X0.c3
    have x4c := fun x => Gr.cell x X0.c4
    have hNE : Nonempty (Gr ((w.alloc (.cells #[.slice n.ao n.len n.cap, .slice g.ao g.len g.cap] 25)).alloc (.cells #[.int .i64 k, .int .i64 l, .slice ao len cap, .int .i64 h, .int .i64 e] 34))) := ⟨⟨_, Below.refl _ _⟩⟩
    simp only [Ty.k, Ty.l, Ty.h, Ty.e, Ty.ao, Ty.len, Ty.cap] at B0 L0 X0 hn2 hA2 l0 l1 x0 x1 x2 x3 x4c
    clear hn hAt
    rcases fm_cases n.len k l h e ao b o len cap ps d with ⟨h1, hE⟩ | ⟨h1, h2, hE⟩ | ⟨h1, h2, h3, hE⟩ | ⟨h1, h2, h3, h4, hE⟩ | ⟨h1, h2, h3, h4, hE⟩
    · have d1 : decide ((6 : Int) < d) = true := by simp; omega
      have HE : Hid (Ty.fm n.len (.mk k l h e ao b o len cap ps) d = false) := hE
      clear hE
      go_enter Tryz.func41, Tryz.ntmps41
      go_wp2
      refine wp_region_gr (by kernel_rfl) (by kernel_rfl) ?_
      repeat (first | go_big_quiet_step ((first | (go_at_call 65; exact Calls.gr _ (arity_any k _)) | (go_at_call 66; exact Calls.gr _ (isLabel_any n g l _ (hn2.kept (Gr.bl _)))) | (go_at_call 67; exact Calls.gr _ (boundsFormed_mk n g k l h e ao b o len cap ps _ (hn2.kept (Gr.bl _)))))))
      refine wpQuiet_nil ?_
      rintro w4 ⟨x4, rfl⟩
      have B4 := x4.bl
      generalize x4.w = w4 at B4 ⊢
      clear x4 l0 l1 x0 x1 x2 x3 x4c hNE
      go_wp2
      go_ret
      exact ⟨ret_bool HE.out.symm, Below.next B0 B4⟩
    · have d1 : decide ((6 : Int) < d) = false := by simp; omega
      have HE : Hid (Ty.fm n.len (.mk k l h e ao b o len cap ps) d = false) := hE
      clear hE
      go_enter Tryz.func41, Tryz.ntmps41
      go_wp2
      refine wp_region_gr (by kernel_rfl) (by kernel_rfl) ?_
      repeat (first | go_big_quiet_step ((first | (go_at_call 65; exact Calls.gr _ (arity_any k _)) | (go_at_call 66; exact Calls.gr _ (isLabel_any n g l _ (hn2.kept (Gr.bl _)))) | (go_at_call 67; exact Calls.gr _ (boundsFormed_mk n g k l h e ao b o len cap ps _ (hn2.kept (Gr.bl _)))))))
      refine wpQuiet_nil ?_
      rintro w4 ⟨x4, rfl⟩
      have B4 := x4.bl
      generalize x4.w = w4 at B4 ⊢
      clear x4 l0 l1 x0 x1 x2 x3 x4c hNE
      go_wp2
      go_ret
      exact ⟨ret_bool HE.out.symm, Below.next B0 B4⟩
    · have d1 : decide ((6 : Int) < d) = false := by simp; omega
      have HE : Hid (Ty.fm n.len (.mk k l h e ao b o len cap ps) d = false) := hE
      clear hE
      go_enter Tryz.func41, Tryz.ntmps41
      go_wp2
      refine wp_region_gr (by kernel_rfl) (by kernel_rfl) ?_
      repeat (first | go_big_quiet_step ((first | (go_at_call 65; exact Calls.gr _ (arity_any k _)) | (go_at_call 66; exact Calls.gr _ (isLabel_any n g l _ (hn2.kept (Gr.bl _)))) | (go_at_call 67; exact Calls.gr _ (boundsFormed_mk n g k l h e ao b o len cap ps _ (hn2.kept (Gr.bl _)))))))
      refine wpQuiet_nil ?_
      rintro w4 ⟨x4, rfl⟩
      have B4 := x4.bl
      generalize x4.w = w4 at B4 ⊢
      clear x4 l0 l1 x0 x1 x2 x3 x4c hNE
      go_wp2
      go_ret
      exact ⟨ret_bool HE.out.symm, Below.next B0 B4⟩
    · have d1 : decide ((6 : Int) < d) = false := by simp; omega
      have HE : Hid (Ty.fm n.len (.mk k l h e ao b o len cap ps) d = false) := hE
      clear hE
      go_enter Tryz.func41, Tryz.ntmps41
      go_wp2
      refine wp_region_gr (by kernel_rfl) (by kernel_rfl) ?_
      repeat (first | go_big_quiet_step ((first | (go_at_call 65; exact Calls.gr _ (arity_any k _)) | (go_at_call 66; exact Calls.gr _ (isLabel_any n g l _ (hn2.kept (Gr.bl _)))) | (go_at_call 67; exact Calls.gr _ (boundsFormed_mk n g k l h e ao b o len cap ps _ (hn2.kept (Gr.bl _)))))))
      refine wpQuiet_nil ?_
      rintro w4 ⟨x4, rfl⟩
      have B4 := x4.bl
      generalize x4.w = w4 at B4 ⊢
      clear x4 l0 l1 x0 x1 x2 x3 x4c hNE
      go_wp2
      go_ret
      exact ⟨ret_bool HE.out.symm, Below.next B0 B4⟩
    · have d1 : decide ((6 : Int) < d) = false := by simp; omega
      have HE : Hid (Ty.fm n.len (.mk k l h e ao b o len cap ps) d = decide (∀ i, i < len → Ty.fm n.len (ps i) (d + 1) = true)) := hE
      clear hE
      go_enter Tryz.func41, Tryz.ntmps41
      go_wp2
      refine wp_region_gr (by kernel_rfl) (by kernel_rfl) ?_
      repeat (first | go_big_quiet_step ((first | (go_at_call 65; exact Calls.gr _ (arity_any k _)) | (go_at_call 66; exact Calls.gr _ (isLabel_any n g l _ (hn2.kept (Gr.bl _)))) | (go_at_call 67; exact Calls.gr _ (boundsFormed_mk n g k l h e ao b o len cap ps _ (hn2.kept (Gr.bl _)))))))
      refine wpQuiet_nil ?_
      rintro w4 ⟨x4, rfl⟩
      have B4 := x4.bl
      generalize x4.w = w4 at B4 ⊢
      clear x4 l0 l1 x0 x1 x2 x3 x4c hNE
      have L4 := L0.kept B4
      have X4 := X0.kept B4
      have B5 := Below.next B0 B4
      have hn4 := hn2.kept B4
      have hA4 := hA2.kept B4
      have x2 : w4.cell? ⟨w.heap.size + 1, 2, none⟩ = some (.slice ao len cap) := X4.c2
      clear L0 X0 B4 hn2 hA2 B0
      go_wp2
      clear h2 h3 h4 d1
      go_loopw [36] (fun i wr => ∃ j : Nat, j ≤ len ∧ i = .int .i64 j ∧ (∀ i, i < j → Ty.fm n.len (ps i) (d + 1) = true) ∧ Below w4.heap.size w4 wr) (fun i _ => len - (intOf i).toNat)
      case atStart => exact ⟨0, Nat.zero_le _, rfl, fun _ h => absurd h (Nat.not_lt_zero _), Below.refl _ _⟩
      case round =>
        obtain ⟨j, hj, rfl, hdone, hB⟩ := hrel
        have HD : Hid (∀ i, i < j → Ty.fm n.len (ps i) (d + 1) = true) := hdone
        clear hdone
        by_cases hlt : j < len
        · have ij : (j : Int) < len := by omega
          have a0 := hnil (by omega)
          subst a0
          have hA5 := hA4.kept hB
          have C : C5 wr b (o + j * 5) (ps j) := hA5.cells hlt
          have P : (ps j).At wr := hA5.part hlt
          have N0 := Bx.new wr (ps j)
          have B6 := below_alloc wr (.cells #[.int .i64 (ps j).k, .int .i64 (ps j).l, .slice (ps j).ao (ps j).len (ps j).cap, .int .i64 (ps j).h, .int .i64 (ps j).e] 34)
          have L5 := (L4.kept hB).kept B6
          have y0 := C.c0
          have y1 := C.c1
          have y2 := C.c2
          have y3 := C.c3
          have y4 := C.c4
          have l0 := L5.c0
          have l1 := L5.c1
          clear C hA5
          have e1 : ((d + 1 : Nat) : Int) = d + 1 := by omega
          have hi := ih j (d + 1) _ (by omega) ((hn4.kept hB).kept B6) (P.kept B6)
          rw [e1] at hi
          go_wp2_with fail
          refine hi.mono ?_
          rintro r w6 ⟨rfl, hb6⟩
          have B7 := Below.next hB (Below.next B6 hb6)
          clear y0 y1 y2 y3 y4 l0 l1 L5 hi P
          cases hf : Ty.fm n.len (ps j) (d + 1)
          · go_wp2
            go_ret
            exact ⟨ret_bool (by rw [HE.out]; exact (decide_eq_false (fun hh => by rw [hh j hlt] at hf; cases hf)).symm), Below.next B5 B7⟩
          · go_wp2
            go_roundw
            case rel => exact ⟨j + 1, by omega, by go_num, fun i hi => (by
                by_cases e : i = j
                · subst e; exact hf
                · exact HD.out i (by omega)), B7⟩
            case measure => simp [intOf]; omega
        · have e : len = j := by omega
          subst e
          have dl : ¬ (len : Int) < len := by omega
          go_wp2
          go_ret
          exact ⟨ret_bool (by rw [HE.out]; exact (decide_eq_true HD.out).symm), Below.next B5 hB⟩
end Go.Proofs.YtepgdkigncjalaaGreat

/- Layer 2: all of these types formed. -/
namespace Go.Proofs.YtepgdkigncjalaaGreat
open Go.RowKit

/-- Formed, of a formed lattice of so many names. -/
def Ty.ok (N : Nat) (t : Ty) : Bool := t.fm N 1 && decide (t.nodes ≤ 40)

set_option maxRecDepth 100000 in
set_option maxHeartbeats 4000000 in
theorem allFormed_any (n : Strs) (g : Grid) (ao : Option Addr) (b o len cap : Nat) (ps : Nat → Ty) (w : World) (hn : n.At w) (hg : g.At w) (hr : Ty.At w (.mk 0 0 0 0 ao b o len cap ps)) :
    Calls Tryz.prog 28 #[.agg #[.slice n.ao n.len n.cap, .slice g.ao g.len g.cap], .slice ao len cap] w fun e w' => e = .returned (.bool (formedB n g && decide (∀ i, i < len → (ps i).ok n.len = true))) ∧ Below w.heap.size w w' := by
  have L0 := Bl.new w n g
  have B0 := below_alloc w (.cells #[.slice n.ao n.len n.cap, .slice g.ao g.len g.cap] 25)
  have hb : len ≤ 9223372036854775807 := hr.bound
  have hnil : 0 < len → ao = some ⟨b, o, none⟩ := hr.nil
  have hn2 := hn.kept B0
  have hg2 := hg.kept B0
  have hr2 := hr.kept B0
  clear hn hg hr
  go_enter Tryz.func28, Tryz.ntmps28
  go_wp2_with fail
  refine (formed_any n g _ hn2 hg2).mono ?_
  rintro r w1 ⟨rfl, hb1⟩
  have L1 := L0.kept hb1
  have hn3 := hn2.kept hb1
  have hr3 := hr2.kept hb1
  have B1 := Below.next B0 hb1
  clear L0 hb1 hn2 hg2 hr2 B0
  cases hF : formedB n g
  · go_wp2
    go_ret
    exact ⟨ret_bool (by rw [hF]; rfl), B1⟩
  go_wp2
  have HT : Hid (formedB n g = true) := hF
  clear hF
  go_loopw [12] (fun i wr => ∃ j : Nat, j ≤ len ∧ i = .int .i64 j ∧ (∀ i, i < j → (ps i).ok n.len = true) ∧ Below w1.heap.size w1 wr) (fun i _ => len - (intOf i).toNat)
  case atStart => exact ⟨0, Nat.zero_le _, rfl, fun _ h => absurd h (Nat.not_lt_zero _), Below.refl _ _⟩
  case round =>
    obtain ⟨j, hj, rfl, hdone, hB⟩ := hrel
    have HD : Hid (∀ i, i < j → (ps i).ok n.len = true) := hdone
    clear hdone
    by_cases hlt : j < len
    · have ij : (j : Int) < len := by omega
      have a0 := hnil (by omega)
      subst a0
      have hA5 := hr3.kept hB
      have C : C5 wr b (o + j * 5) (ps j) := hA5.cells hlt
      have P : (ps j).At wr := hA5.part hlt
      have N0 := Bx.new wr (ps j)
      have B6 := below_alloc wr (.cells #[.int .i64 (ps j).k, .int .i64 (ps j).l, .slice (ps j).ao (ps j).len (ps j).cap, .int .i64 (ps j).h, .int .i64 (ps j).e] 34)
      have L5 := (L1.kept hB).kept B6
      have P6 := P.kept B6
      have y0 := C.c0
      have y1 := C.c1
      have y2 := C.c2
      have y3 := C.c3
      have y4 := C.c4
      have l0 := L5.c0
      have l1 := L5.c1
      clear C hA5 P
      have hi := formedT_any n g (ps j) 1 _ (by omega) ((hn3.kept hB).kept B6) P6
      go_wp2_with fail
      refine hi.mono ?_
      rintro r w6 ⟨rfl, hb6⟩
      have N1 := N0.kept hb6
      have P7 := P6.kept hb6
      have B7 := Below.next hB (Below.next B6 hb6)
      clear y0 y1 y2 y3 y4 l0 l1 L5 hi N0 P6
      cases hf : Ty.fm n.len (ps j) 1
      · have HN : Hid ((ps j).ok n.len = false) := by show (ps j).ok n.len = false; unfold Ty.ok; rw [hf]; rfl
        clear hf
        go_wp2
        go_ret
        exact ⟨ret_bool (by rw [HT.out, Bool.true_and]; exact (decide_eq_false (fun hh => by have := HN.out; rw [hh j hlt] at this; cases this)).symm), Below.next B1 B7⟩
      · have HF : Hid (Ty.fm n.len (ps j) 1 = true) := hf
        have n0 := N1.c0
        have n1 := N1.c1
        have n2 := N1.c2
        have n3 := N1.c3
        have n4 := N1.c4
        clear hf N1
        go_wp2_with fail
        refine (Nodes_any (ps j) _ P7).mono ?_
        rintro r w7 ⟨rfl, hb7⟩
        have B8 := Below.next B7 hb7
        clear n0 n1 n2 n3 n4
        by_cases h40 : (ps j).nodes ≤ 40
        · have HY : Hid ((ps j).ok n.len = true) := by show (ps j).ok n.len = true; unfold Ty.ok; rw [HF.out, decide_eq_true h40]; rfl
          have d : decide ((40 : Int) < (min (ps j).nodes 41 : Nat)) = false := by simp only [decide_eq_false_iff_not]; omega
          generalize min (ps j).nodes 41 = q at d ⊢
          go_wp2
          go_roundw
          case rel => exact ⟨j + 1, by omega, by go_num, fun i hi => (by
              by_cases e : i = j
              · subst e; exact HY.out
              · exact HD.out i (by omega)), B8⟩
          case measure => simp [intOf]; omega
        · have HN : Hid ((ps j).ok n.len = false) := by show (ps j).ok n.len = false; unfold Ty.ok; rw [HF.out, decide_eq_false h40]; rfl
          have d : decide ((40 : Int) < (min (ps j).nodes 41 : Nat)) = true := by simp only [decide_eq_true_eq]; omega
          generalize min (ps j).nodes 41 = q at d ⊢
          go_wp2
          go_ret
          exact ⟨ret_bool (by rw [HT.out, Bool.true_and]; exact (decide_eq_false (fun hh => by have := HN.out; rw [hh j hlt] at this; cases this)).symm), Below.next B1 B8⟩
    · have e : len = j := by omega
      subst e
      have dl : ¬ (len : Int) < len := by omega
      go_wp2
      go_ret
      exact ⟨ret_bool (by rw [HT.out, Bool.true_and]; exact (decide_eq_true HD.out).symm), Below.next B1 hB⟩

/-- Types in a row that the call itself has laid. -/
def row2 (s t : Ty) : Obj := .cells #[.int .i64 s.k, .int .i64 s.l, .slice s.ao s.len s.cap, .int .i64 s.h, .int .i64 s.e, .int .i64 t.k, .int .i64 t.l, .slice t.ao t.len t.cap, .int .i64 t.h, .int .i64 t.e] 34
theorem row1_at (w : World) (t : Ty) (h : t.At w) : Ty.At (w.alloc (tyO t)) (.mk 0 0 0 0 (some ⟨w.heap.size, 0, none⟩) w.heap.size 0 1 1 (fun _ => t)) :=
  ⟨fun _ => rfl, by omega, fun i hi => ⟨by
    have e : i = 0 := by omega
    subst e
    have X := Bx.new w t
    exact ⟨X.c0, X.c1, X.c2, X.c3, X.c4⟩, h.kept (below_alloc _ _)⟩⟩
theorem row2_at (w : World) (s t : Ty) (hs : s.At w) (ht : t.At w) : Ty.At (w.alloc (row2 s t)) (.mk 0 0 0 0 (some ⟨w.heap.size, 0, none⟩) w.heap.size 0 2 2 (fun i => if i = 0 then s else t)) :=
  ⟨fun _ => rfl, by omega, fun i hi => by
    by_cases e : i = 0
    · subst e
      refine ⟨⟨?_, ?_, ?_, ?_, ?_⟩, hs.kept (below_alloc _ _)⟩
      all_goals simp [row2]
    · have e1 : i = 1 := by omega
      subst e1
      refine ⟨⟨?_, ?_, ?_, ?_, ?_⟩, ht.kept (below_alloc _ _)⟩
      all_goals simp [row2]⟩

/-- Formed, of whatever lattice. -/
def okB (n : Strs) (g : Grid) (t : Ty) : Bool := formedB n g && t.ok n.len

set_option maxHeartbeats 2000000 in
theorem Formed2_any (n : Strs) (g : Grid) (t : Ty) (w : World) (hn : n.At w) (hg : g.At w) (ht : t.At w) :
    Calls Tryz.prog 12 #[.agg #[.slice n.ao n.len n.cap, .slice g.ao g.len g.cap], .agg #[.int .i64 t.k, .int .i64 t.l, .slice t.ao t.len t.cap, .int .i64 t.h, .int .i64 t.e]] w fun e w' => e = .returned (.bool (okB n g t)) ∧ Below w.heap.size w w' := by
  obtain ⟨L0, X0, B0⟩ := start_lt w n g t
  have R1 := row1_at _ t (ht.kept B0)
  have B1 := below_alloc ((w.alloc (latO n g)).alloc (tyO t)) (tyO t)
  have hA := allFormed_any n g _ _ _ _ _ _ _ ((hn.kept B0).kept B1) ((hg.kept B0).kept B1) R1
  rw [alloc_size, alloc_size] at hA
  have HE : Hid ((formedB n g && decide (∀ i, i < 1 → Ty.ok n.len ((fun _ => t) i) = true)) = okB n g t) := by
    show (formedB n g && decide (∀ i, i < 1 → Ty.ok n.len ((fun _ => t) i) = true)) = okB n g t
    unfold okB
    congr 1
    cases hk : t.ok n.len
    · exact decide_eq_false (fun h => by have := h 0 (by omega); simp only [hk] at this; cases this)
    · exact decide_eq_true (fun _ _ => hk)
  unfold latO tyO at *
  have B2 := Below.next B0 B1
  go_enter Tryz.func12, Tryz.ntmps12
  go_wp2_with fail
  refine hA.mono ?_
  rintro r w1 ⟨rfl, hb1⟩
  rw [HE.out]
  go_wp2
  go_ret
  exact ⟨rfl, Below.next B2 hb1⟩
end Go.Proofs.YtepgdkigncjalaaGreat

/- Layer 2: Same's question of two nodes. -/
namespace Go.Proofs.YtepgdkigncjalaaGreat
open Go.RowKit

def hdEq (s t : Ty) : Bool := ((((s.k == t.k) && (s.l == t.l)) && (s.h == t.h)) && (s.e == t.e)) && (s.len == t.len)
theorem same_eq (s t : Ty) : s.same t = (hdEq s t && decide (∀ i, i < s.len → (s.ps i).same (t.ps i) = true)) := by
  rcases s with _ | ⟨k, l, h, e, ao, b, o, len, cap, ps⟩
  · show ((((0 == t.k) && (0 == t.l)) && ((0 == t.h) && (0 == t.e))) && (0 == t.len)) = ((((((0 : Int) == t.k) && ((0 : Int) == t.l)) && ((0 : Int) == t.h)) && ((0 : Int) == t.e)) && (0 == t.len) && decide (∀ i : Nat, i < 0 → Ty.same (Ty.dm.ps i) (t.ps i) = true))
    have e : decide (∀ i : Nat, i < 0 → Ty.same (Ty.dm.ps i) (t.ps i) = true) = true := decide_eq_true (fun _ h => absurd h (Nat.not_lt_zero _))
    rw [e]
    cases ((0 : Int) == t.k) <;> cases ((0 : Int) == t.l) <;> cases ((0 : Int) == t.h) <;> cases ((0 : Int) == t.e) <;> simp
  show (((((k == t.k) && (l == t.l)) && ((h == t.h) && (e == t.e))) && (len == t.len)) && decide (∀ i, i < len → Ty.same (ps i) (t.ps i) = true)) = (((((k == t.k) && (l == t.l)) && (h == t.h)) && (e == t.e)) && (len == t.len) && decide (∀ i, i < len → Ty.same (ps i) (t.ps i) = true))
  cases (k == t.k) <;> cases (l == t.l) <;> cases (h == t.h) <;> cases (e == t.e) <;> rfl
theorem hd_cases (s t : Ty) : ((s.k == t.k) = false ∧ hdEq s t = false) ∨ ((s.k == t.k) = true ∧ (s.l == t.l) = false ∧ hdEq s t = false) ∨ ((s.k == t.k) = true ∧ (s.l == t.l) = true ∧ (s.h == t.h) = false ∧ hdEq s t = false) ∨ ((s.k == t.k) = true ∧ (s.l == t.l) = true ∧ (s.h == t.h) = true ∧ (s.e == t.e) = false ∧ hdEq s t = false) ∨ ((s.k == t.k) = true ∧ (s.l == t.l) = true ∧ (s.h == t.h) = true ∧ (s.e == t.e) = true ∧ hdEq s t = ((s.len : Int) == t.len)) := by
  unfold hdEq
  have : ((s.len : Int) == t.len) = (s.len == t.len) := by
    by_cases h : s.len = t.len
    · rw [h]; simp
    · rw [beq_eq_false_iff_ne.2 h, beq_eq_false_iff_ne.2 (by omega)]
  rw [this]
  cases (s.k == t.k) <;> cases (s.l == t.l) <;> cases (s.h == t.h) <;> cases (s.e == t.e) <;> simp

set_option maxHeartbeats 2000000 in
theorem same1_any (s t : Ty) (w : World) (hs : s.At w) (ht : t.At w) :
    Calls Tryz.prog 71 #[.agg #[.int .i64 s.k, .int .i64 s.l, .slice s.ao s.len s.cap, .int .i64 s.h, .int .i64 s.e], .agg #[.int .i64 t.k, .int .i64 t.l, .slice t.ao t.len t.cap, .int .i64 t.h, .int .i64 t.e]] w fun e w' => e = .returned (.bool (hdEq s t)) ∧ Below w.heap.size w w' := by
  obtain ⟨X0, Y0, B0⟩ := start_tt w s t
  have b1 := hs.bound
  have b2 := ht.bound
  unfold tyO at *
  rcases hd_cases s t with ⟨h1, hE⟩ | ⟨h1, h2, hE⟩ | ⟨h1, h2, h3, hE⟩ | ⟨h1, h2, h3, h4, hE⟩ | ⟨h1, h2, h3, h4, hE⟩
  all_goals rw [hE]
  all_goals clear hE
  all_goals
    go_enter Tryz.func71, Tryz.ntmps71
    go_wp2
    go_ret
    exact ⟨rfl, B0⟩

set_option maxRecDepth 100000 in
set_option maxHeartbeats 4000000 in
theorem rSame_any2 : ∀ (s t : Ty) (w : World), s.At w → t.At w →
    Calls Tryz.prog 14 #[.agg #[.int .i64 s.k, .int .i64 s.l, .slice s.ao s.len s.cap, .int .i64 s.h, .int .i64 s.e], .agg #[.int .i64 t.k, .int .i64 t.l, .slice t.ao t.len t.cap, .int .i64 t.h, .int .i64 t.e]] w fun e w' => e = .returned (.bool (s.same t)) ∧ Below w.heap.size w w' := by
  intro s
  induction s with
  | dm => intro t w hs; exact hs.elim
  | mk sk sl sh se sao sb so slen scap sps ih =>
    intro t w hs ht
    rcases t with _ | ⟨tk, tl, th, te, tao, tb, to', tlen, tcap, tps⟩
    · exact ht.elim
    rw [same_eq]
    have hc := hd_cases (.mk sk sl sh se sao sb so slen scap sps) (.mk tk tl th te tao tb to' tlen tcap tps)
    obtain ⟨X0, Y0, B0⟩ := start_tt w (.mk sk sl sh se sao sb so slen scap sps) (.mk tk tl th te tao tb to' tlen tcap tps)
    have b1 : slen ≤ 9223372036854775807 := hs.bound
    have b2 : tlen ≤ 9223372036854775807 := ht.bound
    have n1 : 0 < slen → sao = some ⟨sb, so, none⟩ := hs.nil
    have n2 : 0 < tlen → tao = some ⟨tb, to', none⟩ := ht.nil
    have hs2 := hs.kept B0
    have ht2 := ht.kept B0
    unfold tyO at *
    generalize hdEq (.mk sk sl sh se sao sb so slen scap sps) (.mk tk tl th te tao tb to' tlen tcap tps) = HE at *
    simp only [Ty.k, Ty.l, Ty.h, Ty.e, Ty.ao, Ty.len, Ty.cap, Ty.ps] at *
    clear hs ht
    rcases hc with ⟨h1, hE⟩ | ⟨h1, h2, hE⟩ | ⟨h1, h2, h3, hE⟩ | ⟨h1, h2, h3, h4, hE⟩ | ⟨h1, h2, h3, h4, hE⟩
    · subst hE
      have h1 : (sk != tk) = true := by simp [bne, h1]
      go_enter Tryz.func14, Tryz.ntmps14
      go_wp2
      go_ret
      exact ⟨rfl, B0⟩
    · subst hE
      have h1 : (sk != tk) = false := by simp [bne, h1]
      have h2 : (sl != tl) = true := by simp [bne, h2]
      go_enter Tryz.func14, Tryz.ntmps14
      go_wp2
      go_ret
      exact ⟨rfl, B0⟩
    · subst hE
      have h1 : (sk != tk) = false := by simp [bne, h1]
      have h2 : (sl != tl) = false := by simp [bne, h2]
      have h3 : (sh != th) = true := by simp [bne, h3]
      go_enter Tryz.func14, Tryz.ntmps14
      go_wp2
      go_ret
      exact ⟨rfl, B0⟩
    · subst hE
      have h1 : (sk != tk) = false := by simp [bne, h1]
      have h2 : (sl != tl) = false := by simp [bne, h2]
      have h3 : (sh != th) = false := by simp [bne, h3]
      have h4 : (se != te) = true := by simp [bne, h4]
      go_enter Tryz.func14, Tryz.ntmps14
      go_wp2
      go_ret
      exact ⟨rfl, B0⟩
    · have e1 : sk = tk := by simpa using h1
      have e2 : sl = tl := by simpa using h2
      have e3 : sh = th := by simpa using h3
      have e4 : se = te := by simpa using h4
      subst e1 e2 e3 e4
      clear h1 h2 h3 h4
      by_cases hl : slen = tlen
      · subst hl
        have hE : HE = true := by rw [hE]; simp
        subst hE
        clear hE
        go_enter Tryz.func14, Tryz.ntmps14
        go_wp2
        clear b2
        go_loopw [5] (fun i wr => ∃ j : Nat, j ≤ slen ∧ i = .int .i64 j ∧ (∀ i, i < j → (sps i).same (tps i) = true) ∧ Bx wr w.heap.size (.mk sk sl sh se sao sb so slen scap sps) ∧ Bx wr (w.heap.size + 1) (.mk sk sl sh se tao tb to' slen tcap tps) ∧ Ty.At wr (.mk sk sl sh se sao sb so slen scap sps) ∧ Ty.At wr (.mk sk sl sh se tao tb to' slen tcap tps) ∧ Below w.heap.size w wr) (fun i _ => slen - (intOf i).toNat)
        case atStart => exact ⟨0, Nat.zero_le _, rfl, fun _ h => absurd h (Nat.not_lt_zero _), X0, Y0, hs2, ht2, B0⟩
        case round =>
          obtain ⟨j, hj, rfl, hdone, X1, Y1, hs3, ht3, B1⟩ := hrel
          clear X0 Y0 hs2 ht2 B0
          have HD : Hid (∀ i, i < j → (sps i).same (tps i) = true) := hdone
          clear hdone
          have x2 : wr.cell? ⟨w.heap.size, 2, none⟩ = some (.slice sao slen scap) := X1.c2
          have y2 : wr.cell? ⟨w.heap.size + 1, 2, none⟩ = some (.slice tao slen tcap) := Y1.c2
          by_cases hlt : j < slen
          · have ij : (j : Int) < slen := by omega
            have a1 := n1 (by omega)
            have a2 := n2 (by omega)
            subst a1 a2
            have C : C5 wr sb (so + j * 5) (sps j) := hs3.cells hlt
            have D : C5 wr tb (to' + j * 5) (tps j) := ht3.cells hlt
            have P : (sps j).At wr := hs3.part hlt
            have R : (tps j).At wr := ht3.part hlt
            have X2 := fun x => Gr.cell x x2
            have Y2 := fun x => Gr.cell x y2
            have p0 := fun x => Gr.cell x C.c0
            have p1 := fun x => Gr.cell x C.c1
            have p2 := fun x => Gr.cell x C.c2
            have p3 := fun x => Gr.cell x C.c3
            have p4 := fun x => Gr.cell x C.c4
            have q0 := fun x => Gr.cell x D.c0
            have q1 := fun x => Gr.cell x D.c1
            have q2 := fun x => Gr.cell x D.c2
            have q3 := fun x => Gr.cell x D.c3
            have q4 := fun x => Gr.cell x D.c4
            have hNE : Nonempty (Gr wr) := ⟨⟨_, Below.refl _ _⟩⟩
            go_wp2
            refine wp_region_gr (by kernel_rfl) (by kernel_rfl) ?_
            repeat (first | go_big_quiet_step ((go_at_call 14; exact Calls.gr _ (ih j (tps j) _ (P.kept (Gr.bl _)) (R.kept (Gr.bl _))))))
            refine wpQuiet_nil ?_
            rintro w4 ⟨x4, rfl⟩
            have B4 := x4.bl
            generalize x4.w = w4 at B4 ⊢
            clear x4 X2 Y2 p0 p1 p2 p3 p4 q0 q1 q2 q3 q4 hNE C D P R x2 y2
            have B5 := Below.next B1 B4
            cases hf : (sps j).same (tps j)
            · go_wp2
              go_ret
              exact ⟨ret_bool (by rw [Bool.true_and]; exact (decide_eq_false (fun hh => by rw [hh j hlt] at hf; cases hf)).symm), B5⟩
            · go_wp2
              go_roundw
              case rel => exact ⟨j + 1, by omega, by go_num, fun i hi => (by
                  by_cases e : i = j
                  · subst e; exact hf
                  · exact HD.out i (by omega)), X1.kept B4, Y1.kept B4, hs3.kept B4, ht3.kept B4, B5⟩
              case measure => simp [intOf]; omega
          · have e : slen = j := by omega
            subst e
            have dl : ¬ (slen : Int) < slen := by omega
            go_wp2
            go_ret
            exact ⟨ret_bool (decide_eq_true HD.out).symm, B1⟩
      · have hE : HE = false := by rw [hE]; simp; omega
        subst hE
        have h5 : ((slen : Int) != tlen) = true := by simp; omega
        clear hE
        go_enter Tryz.func14, Tryz.ntmps14
        go_wp2
        go_ret
        exact ⟨rfl, B0⟩
end Go.Proofs.YtepgdkigncjalaaGreat
