/- Layer 2: clone. -/
import Derived.Test.YtlknlnhbmamcbaaP14
import Derived.Laws.AppendOwnNone
import Derived.Test.YtlknlnhbmamcbaaP11
import Derived.Deep.MidRow
import Derived.Test.YtlknlnhbmamcbaaP1
import Derived.ProofKit
import Derived.Deep.Grids
import Derived.Lib.SmallJoins
import Derived.Test.YtlknlnhbmamcbaaP8
namespace Go.Proofs.Ytlknlnhbmamcbaa
open Go.RowKit

theorem Try.infoTy : (Try.prog.info? 28).map (fun i => (i.zero, i.size, i.bytes)) = some (some (.agg #[.int .i64 0, .int .i64 0, .slice none 0 0, .int .i64 0, .int .i64 0]), 5, 56) := by kernel_rfl

theorem own_kept {w w' : World} {base : Nat} {e : TypeId} {size : Nat} {v : Value} {n : Nat} {xs : List Value} (h : w.ownsRow base e size v n xs) (hb : Below w.heap.size w w') : w'.ownsRow base e size v n xs := by
  obtain ⟨h1, h2⟩ := h
  refine ⟨h1, ?_⟩
  rcases h2 with h2 | ⟨g, cap, cur, hv, hg, hh, r⟩
  · exact Or.inl h2
  · exact Or.inr ⟨g, cap, cur, hv, hg, (hb.block g (Array.getElem?_eq_some_iff.1 hh).1).trans hh, r⟩

/-- The variables of a call that clones: a type's, and the result's. -/
structure CBox (w w0 : World) (t : Ty) : Prop where
  bl : Below w.heap.size w w0
  sz : w0.heap.size = w.heap.size + 2
  x : Bx w0 w.heap.size t
  fx : ∀ i, i < 5 → w0.frozen? ⟨w.heap.size, i, none⟩ = false
  r : ∀ i, i < 5 → (w0.cell? ⟨w.heap.size + 1, i, none⟩).isSome = true
  fr : ∀ i, i < 5 → w0.frozen? ⟨w.heap.size + 1, i, none⟩ = false
theorem cbox_new (w : World) (t : Ty) : CBox w ((w.alloc (tyO t)).alloc (.cells #[.int .i64 0, .int .i64 0, .slice none 0 0, .int .i64 0, .int .i64 0] 28)) t where
  bl := Below.next (below_alloc _ _) (below_alloc _ _)
  sz := by rw [alloc_size, alloc_size]
  x := (Bx.new w t).kept (below_alloc _ _)
  fx := fun i hi => by
    rw [(below_alloc (w.alloc (tyO t)) _).frozen (p := ⟨w.heap.size, i, none⟩) (by rw [alloc_size]; exact Nat.lt_succ_self _)]
    simp [tyO]
  r := fun i hi => by
    have e : (w.alloc (tyO t)).heap.size = w.heap.size + 1 := alloc_size _ _
    rw [← e]
    match i, hi with
    | 0, _ => simp
    | 1, _ => simp
    | 2, _ => simp
    | 3, _ => simp
    | 4, _ => simp
  fr := fun i hi => by
    have e : (w.alloc (tyO t)).heap.size = w.heap.size + 1 := alloc_size _ _
    rw [← e]
    simp

/-- What clone answers. -/
def CP (w : World) (t : Ty) (e : Ending) (w' : World) : Prop :=
  ∃ u : Ty, e = .returned (.agg #[.int .i64 u.k, .int .i64 u.l, .slice u.ao u.len u.cap, .int .i64 u.h, .int .i64 u.e]) ∧ u.At w' ∧ u.Blk (fun b => w.heap.size ≤ b) ∧ u.same t = true ∧ Below w.heap.size w w'

theorem CP.intro {w : World} {t : Ty} {e : Ending} {w' : World} (u : Ty) (h1 : e = .returned (.agg #[.int .i64 u.k, .int .i64 u.l, .slice u.ao u.len u.cap, .int .i64 u.h, .int .i64 u.e])) (h2 : u.At w') (h3 : u.Blk (fun b => w.heap.size ≤ b)) (h4 : u.same t = true) (h5 : Below w.heap.size w w') : CP w t e w' := ⟨u, h1, h2, h3, h4, h5⟩

set_option maxRecDepth 100000 in
set_option maxHeartbeats 8000000 in
theorem clone2_any : ∀ (t : Ty) (w : World), t.nodes ≤ 1000 → t.At w → Calls Try.prog 46 #[.agg #[.int .i64 t.k, .int .i64 t.l, .slice t.ao t.len t.cap, .int .i64 t.h, .int .i64 t.e]] w fun e w' => CP w t e w' := by
  intro t
  induction t with
  | dm => intro w _ hAt; exact hAt.elim
  | mk k l h e ao b o len cap ps ih =>
    intro w hN hAt
    show Calls Try.prog 46 #[.agg #[.int .i64 k, .int .i64 l, .slice ao len cap, .int .i64 h, .int .i64 e]] w fun r w' => CP w (.mk k l h e ao b o len cap ps) r w'
    have K0 := cbox_new w (.mk k l h e ao b o len cap ps)
    have hb : len ≤ 9223372036854775807 := hAt.bound
    have hnil : 0 < len → ao = some ⟨b, o, none⟩ := hAt.nil
    have HP : Hid (∀ j, j < len → (ps j).nodes ≤ 1000 ∧ j < 1000) := fun j hj => by
      have h1 : (ps j).nodes < _ := nodes_part (t := .mk k l h e ao b o len cap ps) hj
      have h2 : 1 + sumTo (fun i => (ps i).nodes) len ≤ 1000 := hN
      have h3 : ∀ m, m ≤ sumTo (fun i => (ps i).nodes) m := fun m => by
        induction m with
        | zero => exact Nat.le_refl _
        | succ m ihm =>
          have : 1 ≤ (ps m).nodes := by rw [pn_nodes]; omega
          show m + 1 ≤ sumTo (fun i => (ps i).nodes) m + (ps m).nodes
          omega
      have h4 := h3 len
      exact ⟨by omega, by omega⟩
    have hA0 := hAt.kept K0.bl
    unfold tyO at K0 hA0
    simp only [Ty.k, Ty.l, Ty.h, Ty.e, Ty.ao, Ty.len, Ty.cap] at K0 hA0
    have x2 : ((w.alloc (.cells #[.int .i64 k, .int .i64 l, .slice ao len cap, .int .i64 h, .int .i64 e] 28)).alloc (.cells #[.int .i64 0, .int .i64 0, .slice none 0 0, .int .i64 0, .int .i64 0] 28)).cell? ⟨w.heap.size, 2, none⟩ = some (.slice ao len cap) := K0.x.c2
    clear hAt hN
    go_enter Try.func46, Try.ntmps46
    go_wp2
    clear x2
    generalize ((w.alloc (.cells #[.int .i64 k, .int .i64 l, .slice ao len cap, .int .i64 h, .int .i64 e] 28)).alloc (.cells #[.int .i64 0, .int .i64 0, .slice none 0 0, .int .i64 0, .int .i64 0] 28)) = w0 at K0 hA0 ⊢
    obtain ⟨i0, hi, hz0, hz1, hz2⟩ := info_parts Try.infoTy
    go_loopw [3, 9] (fun sv i wr => ∃ (j : Nat) (v : Value) (ts : Nat → Ty), j ≤ len ∧ v = sv ∧ i = .int .i64 j ∧ GRow w0 wr v j ts ∧ ∀ i, i < j → (ts i).same (ps i) = true) (fun _ i _ => len - (intOf i).toNat)
    case atStart => exact ⟨0, _, fun _ => .dm, Nat.zero_le _, rfl, rfl, GRow.start _ _, fun _ h => absurd h (Nat.not_lt_zero _)⟩
    case round =>
      obtain ⟨j, v, ts, hj, hv, rfl, hR, hsame⟩ := hrel
      subst hv
      have HS : Hid (∀ i, i < j → (ts i).same (ps i) = true) := hsame
      clear hsame
      by_cases hlt : j < len
      · have ij : (j : Int) < len := by omega
        have a0 := hnil (by omega)
        subst a0
        have hA := hA0.kept hR.bl
        have C : C5 wr b (o + j * 5) (ps j) := hA.cells hlt
        have P : (ps j).At wr := hA.part hlt
        have Ba := below_alloc wr (.cells #[.int .i64 (ps j).k, .int .i64 (ps j).l, .slice (ps j).ao (ps j).len (ps j).cap, .int .i64 (ps j).h, .int .i64 (ps j).e] 28)
        have y0 := C.c0
        have y1 := C.c1
        have y2 := C.c2
        have y3 := C.c3
        have y4 := C.c4
        have hI := ih j _ (HP.out j hlt).1 (P.kept Ba)
        have HR : Hid (GRow w0 wr v j ts) := hR
        clear C hA hR P
        go_wp2_with fail
        refine hI.mono ?_
        intro r w1 hCP
        obtain ⟨u, rfl, uA, uB, uS, hb1⟩ := hCP
        have HU : Hid (u.At w1 ∧ u.Blk (fun b => wr.heap.size ≤ b) ∧ u.same (ps j) = true ∧ Below wr.heap.size wr w1) := ⟨uA, uB.mono (fun b hq => Nat.le_trans Ba.size hq), uS, Below.next Ba hb1⟩
        clear uA uB uS hb1 y0 y1 y2 y3 y4 hI Ba
        have hownA := own_kept HR.out.own (Below.next HU.out.2.2.2 (below_alloc w1 (.cells #[.int .i64 u.k, .int .i64 u.l, .slice u.ao u.len u.cap, .int .i64 u.h, .int .i64 u.e] 28)))
        have j1000 := (HP.out j hlt).2
        have hs0 : w0.heap.size ≤ w1.heap.size := Nat.le_trans HR.out.bl.size HU.out.2.2.2.size
        go_wp2_with ((at_builtin; refine wpList_append_lies _ rfl _ _ 26 rfl w0.heap.size 28 i0 _ 5 56 Try.underlying26 hi hz0 hz1 hz2 rfl (by decide) v j (flatT ts j) rfl hownA ⟨w1.heap.size, 0, none⟩ 1 1 u.vs rfl rfl (World.news_of_block (cs := #[.int .i64 u.k, .int .i64 u.l, .slice u.ao u.len u.cap, .int .i64 u.h, .int .i64 u.e]) (t := 28) (fr := (0, 0)) (heap_alloc_new w1 _)) (by intro x hx; simp [Ty.vs] at hx; rcases hx with rfl | rfl | rfl | rfl | rfl <;> rfl) (by omega) (by unfold maxLen; omega) (by omega) (by rw [alloc_size]; omega) (w1.heap.size + 1) (alloc_size _ _) ?_; intro gg cap3 w3 hown3 hgrow hat hltg; have HG : Hid (GRow w0 w3 (.slice (some ⟨gg, 0, none⟩) (j + 1) cap3) (j + 1) (fun i => if i < j then ts i else u)) := HR.out.push HU.out.2.2.2 HU.out.1 HU.out.2.1 hown3 hgrow hat; clear hown3 hgrow hat hltg))
        go_roundw
        case rel => exact ⟨j + 1, _, _, by omega, rfl, by go_num, HG.out, fun i hi => by
            by_cases hij : i < j
            · simp only [hij, if_true]; exact HS.out i hij
            · have e : i = j := by omega
              subst e
              simp only [Nat.lt_irrefl, if_false]; exact HU.out.2.2.1⟩
        case measure => simp [intOf]; omega
      · have e : len = j := by omega
        subst e
        have dl : ¬ (len : Int) < len := by omega
        obtain ⟨gao, gg, gcap, rfl, hTy⟩ := hR.ty hb
        have x0 : wr.cell? ⟨w.heap.size, 0, none⟩ = some (.int .i64 k) := up hR.bl K0.x.c0
        have x1 : wr.cell? ⟨w.heap.size, 1, none⟩ = some (.int .i64 l) := up hR.bl K0.x.c1
        have x2 : wr.cell? ⟨w.heap.size, 2, none⟩ = some (.slice ao len cap) := up hR.bl K0.x.c2
        have x3 : wr.cell? ⟨w.heap.size, 3, none⟩ = some (.int .i64 h) := up hR.bl K0.x.c3
        have x4 : wr.cell? ⟨w.heap.size, 4, none⟩ = some (.int .i64 e) := up hR.bl K0.x.c4
        have f2 := (hR.bl.frozen (p := ⟨w.heap.size, 2, none⟩) (by have := K0.sz; show w.heap.size < _; omega)).trans (K0.fx 2 (by omega))
        obtain ⟨r0, hr0⟩ := Option.isSome_iff_exists.1 (K0.r 0 (by omega))
        have s0 := up hR.bl hr0
        have t0 := (hR.bl.frozen (p := ⟨w.heap.size + 1, 0, none⟩) (by have := K0.sz; show w.heap.size + 1 < _; omega)).trans (K0.fr 0 (by omega))
        obtain ⟨r1, hr1⟩ := Option.isSome_iff_exists.1 (K0.r 1 (by omega))
        have s1 := up hR.bl hr1
        have t1 := (hR.bl.frozen (p := ⟨w.heap.size + 1, 1, none⟩) (by have := K0.sz; show w.heap.size + 1 < _; omega)).trans (K0.fr 1 (by omega))
        obtain ⟨r2, hr2⟩ := Option.isSome_iff_exists.1 (K0.r 2 (by omega))
        have s2 := up hR.bl hr2
        have t2 := (hR.bl.frozen (p := ⟨w.heap.size + 1, 2, none⟩) (by have := K0.sz; show w.heap.size + 1 < _; omega)).trans (K0.fr 2 (by omega))
        obtain ⟨r3, hr3⟩ := Option.isSome_iff_exists.1 (K0.r 3 (by omega))
        have s3 := up hR.bl hr3
        have t3 := (hR.bl.frozen (p := ⟨w.heap.size + 1, 3, none⟩) (by have := K0.sz; show w.heap.size + 1 < _; omega)).trans (K0.fr 3 (by omega))
        obtain ⟨r4, hr4⟩ := Option.isSome_iff_exists.1 (K0.r 4 (by omega))
        have s4 := up hR.bl hr4
        have t4 := (hR.bl.frozen (p := ⟨w.heap.size + 1, 4, none⟩) (by have := K0.sz; show w.heap.size + 1 < _; omega)).trans (K0.fr 4 (by omega))
        have HT : Hid (Ty.At wr (.mk k l h e gao gg 0 len gcap ts) ∧ Ty.Blk (fun b => w0.heap.size ≤ b) (.mk k l h e gao gg 0 len gcap ts)) := hTy k l h e
        have HB : Hid (Below w.heap.size w wr ∧ w0.heap.size = w.heap.size + 2) := ⟨K0.bl.trans (hR.bl.mono (by have := K0.bl.size; omega)), K0.sz⟩
        clear hR hTy K0 hA0 hr0 hr1 hr2 hr3 hr4
        go_wp2
        refine bodyPost_ret (v := .agg #[.int .i64 k, .int .i64 l, .slice gao len gcap, .int .i64 h, .int .i64 e]) (by simp [results, Try.results46, go_sem, s0, s1, s2, s3, s4]) rfl (CP.intro (.mk k l h e gao gg 0 len gcap ts) rfl ?_ (HT.out.2.mono (fun b hq => by have := HB.out.2; omega)) ((same_iff _ _).2 ⟨⟨rfl, rfl, rfl, rfl, rfl⟩, HS.out⟩) ?_)
        · refine Ty.At.agree (fun b hq => ?_) HT.out.1 HT.out.2
          have := HB.out.2
          rw [Below.heap_setCell _ _ _ _ (by show b ≠ w.heap.size + 1; omega), Below.heap_setCell _ _ _ _ (by show b ≠ w.heap.size + 1; omega), Below.heap_setCell _ _ _ _ (by show b ≠ w.heap.size + 1; omega), Below.heap_setCell _ _ _ _ (by show b ≠ w.heap.size + 1; omega), Below.heap_setCell _ _ _ _ (by show b ≠ w.heap.size + 1; omega), Below.heap_setCell _ _ _ _ (by show b ≠ w.heap.size; omega)]
        · exact (((((HB.out.1.setCell (Nat.le_refl _) _).setCell (Nat.le_succ _) _).setCell (Nat.le_succ _) _).setCell (Nat.le_succ _) _).setCell (Nat.le_succ _) _).setCell (Nat.le_succ _) _
end Go.Proofs.Ytlknlnhbmamcbaa

/- Layer 2: a type stored. -/
namespace Go.Proofs.Ytlknlnhbmamcbaa
open Go.RowKit

/-- Five cells written. -/
def World.put5 (w : World) (B : Nat) (v0 v1 v2 v3 v4 : Value) : World := ((((w.setCell ⟨B, 0, none⟩ v0).setCell ⟨B, 1, none⟩ v1).setCell ⟨B, 2, none⟩ v2).setCell ⟨B, 3, none⟩ v3).setCell ⟨B, 4, none⟩ v4
theorem put5_heap (w : World) (B : Nat) (v0 v1 v2 v3 v4 : Value) {b : Nat} (h : b ≠ B) : (World.put5 w B v0 v1 v2 v3 v4).heap[b]? = w.heap[b]? := by
  unfold World.put5
  rw [Below.heap_setCell _ _ _ _ h, Below.heap_setCell _ _ _ _ h, Below.heap_setCell _ _ _ _ h, Below.heap_setCell _ _ _ _ h, Below.heap_setCell _ _ _ _ h]
theorem put5_below {w w1 : World} {B : Nat} (hB : w.heap.size ≤ B) (h : Below w.heap.size w w1) (v0 v1 v2 v3 v4 : Value) : Below w.heap.size w (World.put5 w1 B v0 v1 v2 v3 v4) :=
  ((((h.setCell hB _).setCell hB _).setCell hB _).setCell hB _).setCell hB _
theorem put5_frozen (w : World) (B : Nat) (v0 v1 v2 v3 v4 : Value) (a : Addr) : (World.put5 w B v0 v1 v2 v3 v4).frozen? a = w.frozen? a := by
  unfold World.put5
  rw [World.frozen?_setCell, World.frozen?_setCell, World.frozen?_setCell, World.frozen?_setCell, World.frozen?_setCell]
theorem put5_cells {w : World} {B : Nat} (v0 v1 v2 v3 v4 : Value) {t : Ty} (h : Bx w B t) (hf : ∀ i, i < 5 → w.frozen? ⟨B, i, none⟩ = false) : (World.put5 w B v0 v1 v2 v3 v4).cell? ⟨B, 0, none⟩ = some v0 ∧ (World.put5 w B v0 v1 v2 v3 v4).cell? ⟨B, 1, none⟩ = some v1 ∧ (World.put5 w B v0 v1 v2 v3 v4).cell? ⟨B, 2, none⟩ = some v2 ∧ (World.put5 w B v0 v1 v2 v3 v4).cell? ⟨B, 3, none⟩ = some v3 ∧ (World.put5 w B v0 v1 v2 v3 v4).cell? ⟨B, 4, none⟩ = some v4 := by
  have key := World.rangeAt_setCells_same w B 0 [v0, v1, v2, v3, v4] (fun j hj => ?_)
  · exact ⟨key 0 v0 rfl, key 1 v1 rfl, key 2 v2 rfl, key 3 v3 rfl, key 4 v4 rfl⟩
  · have hj' : j < 5 := hj
    rw [Nat.zero_add]
    refine ⟨?_, hf j hj'⟩
    match j, hj' with
    | 0, _ => rw [h.c0]; rfl
    | 1, _ => rw [h.c1]; rfl
    | 2, _ => rw [h.c2]; rfl
    | 3, _ => rw [h.c3]; rfl
    | 4, _ => rw [h.c4]; rfl
theorem wpList_store5 {w : World} {ops : Array Oper} {rest : List Oper} {o : Oper} {a : Act} {Q : Exit → Act → World → Prop} (hgd : o.guard = none) (hdst : o.dst = none) (p x : Operand) (ho : o.op = .store 28 p x) (B : Nat) (v0 v1 v2 v3 v4 : Value)
    (hp : a.eval p = .pointer (some ⟨B, 0, none⟩)) (hx : a.eval x = .agg #[v0, v1, v2, v3, v4]) (h0 : v0.oneCell' = true) (h1 : v1.oneCell' = true) (h2 : v2.oneCell' = true) (h3 : v3.oneCell' = true) (h4 : v4.oneCell' = true) {t : Ty} (hb : Bx w B t) (hf : ∀ i, i < 5 → w.frozen? ⟨B, i, none⟩ = false)
    (h : wpList Try.prog ops Q rest a (World.put5 w B v0 v1 v2 v3 v4)) : wpList Try.prog ops Q (o :: rest) a w := by
  refine wpList_store_mid hgd 28 p x ho B 0 #[v0, v1, v2, v3, v4] hp hx (fun j hj => ?_) (by kernel_rfl) (by simp [h0, h1, h2, h3, h4]) ?_
  · have hj' : j < 5 := hj
    rw [Nat.zero_add]
    refine ⟨?_, hf j hj'⟩
    match j, hj' with
    | 0, _ => rw [hb.c0]; rfl
    | 1, _ => rw [hb.c1]; rfl
    | 2, _ => rw [hb.c2]; rfl
    | 3, _ => rw [hb.c3]; rfl
    | 4, _ => rw [hb.c4]; rfl
  · rw [hdst]
    exact h
end Go.Proofs.Ytlknlnhbmamcbaa

/- Layer 2: the walk of the statement TypesFormed. -/
namespace Go.Proofs.Ytlknlnhbmamcbaa
open Go.RowKit

/-- No Parts of it lie in that block. -/
def Ty.Off (B : Nat) : Ty → Prop
  | .dm => True
  | .mk _ _ _ _ _ b _ len _ ps => ∀ i, i < len → b ≠ B ∧ Ty.Off B (ps i)
theorem off_of_at {w : World} {B : Nat} (hB : w.heap.size ≤ B) : ∀ {t : Ty}, t.At w → t.Off B
  | .dm, _ => trivial
  | .mk _ _ _ _ _ _ _ _ _ _, h => fun i hi => ⟨by have := World.block_lt_of_cell? w _ (h.2.2 i hi).1.c0; intro e; simp only at this; omega, off_of_at hB (h.2.2 i hi).2⟩
theorem C5.of_block {w w' : World} {b o : Nat} {t : Ty} (h : C5 w b o t) (e : w'.heap[b]? = w.heap[b]?) : C5 w' b o t :=
  ⟨(World.cell?_of_block (w := w) (a := ⟨b, o, none⟩) e).trans h.c0, (World.cell?_of_block (w := w) (a := ⟨b, o + 1, none⟩) e).trans h.c1, (World.cell?_of_block (w := w) (a := ⟨b, o + 2, none⟩) e).trans h.c2, (World.cell?_of_block (w := w) (a := ⟨b, o + 3, none⟩) e).trans h.c3, (World.cell?_of_block (w := w) (a := ⟨b, o + 4, none⟩) e).trans h.c4⟩
theorem at_of_off {w w' : World} {B : Nat} (he : ∀ b, b ≠ B → w'.heap[b]? = w.heap[b]?) : ∀ {t : Ty}, t.At w → t.Off B → t.At w'
  | .dm, h, _ => h.elim
  | .mk _ _ _ _ _ _ _ _ _ _, h, o => ⟨h.1, h.2.1, fun i hi => ⟨(h.2.2 i hi).1.of_block (he _ (o i hi).1), at_of_off he (h.2.2 i hi).2 (o i hi).2⟩⟩

/-- A Pair of the same twice. -/
def Ty.dbl (t : Ty) (A : Nat) : Ty := .mk 3 t.l 0 0 (some ⟨A, 0, none⟩) A 0 2 2 (fun _ => t)
theorem dbl_nodes (t : Ty) (A : Nat) : (t.dbl A).nodes = 2 * t.nodes + 1 := by
  show 1 + (0 + t.nodes + t.nodes) = _
  omega
/-- Within the loop. -/
structure TF (w wr : World) (n : Strs) (g : Grid) (t : Ty) (q : Nat) : Prop where
  L : Bl wr w.heap.size n g
  X : Bx wr (w.heap.size + 1) t
  F : ∀ i, i < 5 → wr.frozen? ⟨w.heap.size + 1, i, none⟩ = false
  A : t.At wr
  O : t.Off (w.heap.size + 1)
  B : Below w.heap.size w wr
  N : t.nodes + 1 ≤ q
theorem TF.kept {w wr w' : World} {n : Strs} {g : Grid} {t : Ty} {q : Nat} (h : TF w wr n g t q) (hb : Below wr.heap.size wr w') : TF w w' n g t q :=
  ⟨h.L.kept hb, h.X.kept hb, fun i hi => by rw [hb.frozen (p := ⟨w.heap.size + 1, i, none⟩) (by have := World.block_lt_of_cell? wr _ h.X.c0; exact this)]; exact h.F i hi, h.A.kept hb, h.O, h.B.trans (hb.mono h.B.size), h.N⟩
theorem TF.dbl {w wr : World} {n : Strs} {g : Grid} {t : Ty} {q : Nat} (h : TF w wr n g t q) : TF w (World.put5 (wr.alloc (.cells #[.int .i64 t.k, .int .i64 t.l, .slice t.ao t.len t.cap, .int .i64 t.h, .int .i64 t.e, .int .i64 t.k, .int .i64 t.l, .slice t.ao t.len t.cap, .int .i64 t.h, .int .i64 t.e] 28)) (w.heap.size + 1) (.int .i64 3) (.int .i64 t.l) (.slice (some ⟨wr.heap.size, 0, none⟩) 2 2) (.int .i64 0) (.int .i64 0)) n g (t.dbl wr.heap.size) (2 * q) := by
  have hlt : w.heap.size + 1 < wr.heap.size := World.block_lt_of_cell? wr _ h.X.c0
  have k := h.kept (below_alloc wr (.cells #[.int .i64 t.k, .int .i64 t.l, .slice t.ao t.len t.cap, .int .i64 t.h, .int .i64 t.e, .int .i64 t.k, .int .i64 t.l, .slice t.ao t.len t.cap, .int .i64 t.h, .int .i64 t.e] 28))
  have N0 : C5 (wr.alloc (.cells #[.int .i64 t.k, .int .i64 t.l, .slice t.ao t.len t.cap, .int .i64 t.h, .int .i64 t.e, .int .i64 t.k, .int .i64 t.l, .slice t.ao t.len t.cap, .int .i64 t.h, .int .i64 t.e] 28)) wr.heap.size 0 t := by constructor <;> simp
  have N1 : C5 (wr.alloc (.cells #[.int .i64 t.k, .int .i64 t.l, .slice t.ao t.len t.cap, .int .i64 t.h, .int .i64 t.e, .int .i64 t.k, .int .i64 t.l, .slice t.ao t.len t.cap, .int .i64 t.h, .int .i64 t.e] 28)) wr.heap.size 5 t := by constructor <;> simp
  generalize wr.alloc (.cells #[.int .i64 t.k, .int .i64 t.l, .slice t.ao t.len t.cap, .int .i64 t.h, .int .i64 t.e, .int .i64 t.k, .int .i64 t.l, .slice t.ao t.len t.cap, .int .i64 t.h, .int .i64 t.e] 28) = w1 at k N0 N1 ⊢
  have he : ∀ b, b ≠ w.heap.size + 1 → (World.put5 w1 (w.heap.size + 1) (.int .i64 3) (.int .i64 t.l) (.slice (some ⟨wr.heap.size, 0, none⟩) 2 2) (.int .i64 0) (.int .i64 0)).heap[b]? = w1.heap[b]? := fun b hb => put5_heap _ _ _ _ _ _ _ hb
  obtain ⟨e0, e1, e2, e3, e4⟩ := put5_cells (.int .i64 3) (.int .i64 t.l) (.slice (some ⟨wr.heap.size, 0, none⟩) 2 2) (.int .i64 0) (.int .i64 0) k.X k.F
  refine ⟨⟨(World.cell?_of_block (w := w1) (a := ⟨w.heap.size, 0, none⟩) (he w.heap.size (by omega))).trans k.L.c0, (World.cell?_of_block (w := w1) (a := ⟨w.heap.size, 1, none⟩) (he w.heap.size (by omega))).trans k.L.c1⟩, ⟨e0, e1, e2, e3, e4⟩, fun i hi => by rw [put5_frozen]; exact k.F i hi, ?_, ?_, put5_below (by omega) k.B _ _ _ _ _, by rw [dbl_nodes]; have := h.N; omega⟩
  · refine ⟨fun _ => rfl, by omega, fun i hi => ⟨?_, at_of_off he k.A k.O⟩⟩
    match i, hi with
    | 0, _ => exact N0.of_block (he _ (by omega))
    | 1, _ => exact N1.of_block (he _ (by omega))
  · exact fun i _ => ⟨by omega, k.O⟩

set_option maxRecDepth 100000 in
set_option maxHeartbeats 8000000 in
theorem typesFormed_any (n : Strs) (g : Grid) (t : Ty) (x : Int) (w : World) (hn : n.At w) (hg : g.At w) (ht : t.At w) (hx0 : 0 ≤ x) (hx1 : x ≤ 255) :
    Calls Try.prog 3 #[.agg #[.slice n.ao n.len n.cap, .slice g.ao g.len g.cap], .agg #[.int .i64 t.k, .int .i64 t.l, .slice t.ao t.len t.cap, .int .i64 t.h, .int .i64 t.e], .int .u8 x] w fun e w' => e = .returned (.bool true) ∧ Below w.heap.size w w' := by
  obtain ⟨L0, X0, B0⟩ := start_lt w n g t
  have T0 : TF w ((w.alloc (latO n g)).alloc (tyO t)) n g t (t.nodes + 1) := ⟨L0, X0, fun i hi => by
    match i, hi with
    | 0, _ => simp [tyO, latO]
    | 1, _ => simp [tyO, latO]
    | 2, _ => simp [tyO, latO]
    | 3, _ => simp [tyO, latO]
    | 4, _ => simp [tyO, latO], ht.kept B0, off_of_at (by omega) ht, B0, Nat.le_refl _⟩
  clear L0 X0 B0
  unfold latO tyO at *
  go_enter Try.func3, Try.ntmps3
  go_wp2_with fail
  refine (awake2_any _).mono ?_
  rintro e w1 ⟨rfl, hb1⟩
  have T1 := T0.kept hb1
  clear T0 hb1
  have l0 := T1.L.c0
  have l1 := T1.L.c1
  have x0 := T1.X.c0
  have x1 := T1.X.c1
  have x2 := T1.X.c2
  have x3 := T1.X.c3
  have x4 := T1.X.c4
  go_wp2_with fail
  refine (few_any n g t t _ (hn.kept T1.B) (hg.kept T1.B) T1.A T1.A).mono ?_
  rintro e w2 ⟨rfl, hb2⟩
  have T2 := T1.kept hb2
  clear T1 hb2 l0 l1 x0 x1 x2 x3 x4
  cases hfew : fewB n g t t
  · go_wp2_with fail
    refine (awake2_any _).mono ?_
    rintro e w3 ⟨rfl, hb3⟩
    go_wp2
    go_ret
    exact ⟨rfl, Below.next T2.B hb3⟩
  have hnod : t.nodes ≤ 40 := by
    unfold fewB at hfew
    simp only [Bool.and_eq_true, decide_eq_true_eq] at hfew
    exact hfew.1.2
  have HN : Hid (n.At w ∧ g.At w) := ⟨hn, hg⟩
  have HT : Hid (TF w w2 n g t 41) := ⟨T2.L, T2.X, T2.F, T2.A, T2.O, T2.B, by omega⟩
  clear hfew hn hg ht hnod T2
  go_wp2
  go_loopw [7] (fun i wr => ∃ (j : Nat) (t' : Ty), i = .int .i64 j ∧ j ≤ 6 ∧ Hid (TF w wr n g t' (41 * 2 ^ j))) (fun i _ => 7 - (intOf i).toNat)
  case atStart => exact ⟨0, t, rfl, by omega, HT.out⟩
  case round =>
    obtain ⟨j, t', rfl, hj, HR⟩ := hrel
    clear HT
    by_cases hlt : (j : Int) < x % 7
    · have HJ : Hid ((j : Int) < x % 7) := hlt
      have X := HR.out.X
      have F := HR.out.F
      have x0 := X.c0
      have x1 := X.c1
      have x2 := X.c2
      have x3 := X.c3
      have x4 := X.c4
      have K : TF w _ n g t' _ := HR.out.kept (below_alloc wr (.cells #[.int .i64 t'.k, .int .i64 t'.l, .slice t'.ao t'.len t'.cap, .int .i64 t'.h, .int .i64 t'.e, .int .i64 t'.k, .int .i64 t'.l, .slice t'.ao t'.len t'.cap, .int .i64 t'.h, .int .i64 t'.e] 28))
      have X5 := K.X
      have F5 := K.F
      clear K X F
      go_wp2_with (refine wpList_store5 rfl rfl _ _ rfl (w.heap.size + 1) _ _ _ _ _ rfl rfl rfl rfl rfl rfl rfl X5 F5 ?_)
      go_roundw
      case rel => exact ⟨j + 1, _, by go_num, by have := HJ.out; omega, (show 41 * 2 ^ (j + 1) = 2 * (41 * 2 ^ j) by rw [Nat.pow_succ]; omega) ▸ HR.out.dbl⟩
      case measure => simp [intOf]; omega
    · have HX : Hid (t'.pn ≤ 4000) := by
        show t'.pn ≤ 4000
        have h1 := HR.out.N
        have h2 := pn_nodes t'
        have h3 : 2 ^ j ≤ 2 ^ 6 := Nat.pow_le_pow_right (by omega) hj
        omega
      have B2 := HR.out.B
      have H1 := fun u (hu : Below wr.heap.size wr u) => Formed2_any n g t' u (HN.out.1.kept (Below.next B2 hu)) (HN.out.2.kept (Below.next B2 hu)) (HR.out.A.kept hu)
      have H2 := fun u (hu : Below wr.heap.size wr u) => rFormed2_any n g t' u (HN.out.1.kept (Below.next B2 hu)) (HN.out.2.kept (Below.next B2 hu)) (HR.out.A.kept hu)
      have H3 := fun u (hu : Below wr.heap.size wr u) => Nodes_any t' u (HR.out.A.kept hu)
      have H4 := fun u (hu : Below wr.heap.size wr u) => rNodes_any t' u (HR.out.A.kept hu)
      have H5 := fun u (hu : Below wr.heap.size wr u) => Plain_any t' u (HR.out.A.kept hu) HX.out
      have H6 := fun u (hu : Below wr.heap.size wr u) => rPlain_any t' u (HR.out.A.kept hu)
      have l0 := fun x => Gr.cell x HR.out.L.c0
      have l1 := fun x => Gr.cell x HR.out.L.c1
      have x0 := fun x => Gr.cell x HR.out.X.c0
      have x1 := fun x => Gr.cell x HR.out.X.c1
      have x2 := fun x => Gr.cell x HR.out.X.c2
      have x3 := fun x => Gr.cell x HR.out.X.c3
      have x4 := fun x => Gr.cell x HR.out.X.c4
      go_wp2
      generalize okB n g t' = V at H1 H2
      generalize min t'.nodes 41 = U at H3 H4
      generalize t'.pln = P at H5 H6
      have hNE : Nonempty (Gr wr) := ⟨⟨_, Below.refl _ _⟩⟩
      refine wp_region_gr (by kernel_rfl) (by kernel_rfl) ?_
      repeat (first | go_big_quiet_step ((first | (go_at_call 11; exact Calls.gr _ (H1 _ (Gr.bl _))) | (go_at_call 12; exact Calls.gr _ (H2 _ (Gr.bl _))) | (go_at_call 13; exact Calls.gr _ (H3 _ (Gr.bl _))) | (go_at_call 14; exact Calls.gr _ (H4 _ (Gr.bl _))) | (go_at_call 15; exact Calls.gr _ (H5 _ (Gr.bl _))) | (go_at_call 16; exact Calls.gr _ (H6 _ (Gr.bl _))))))
      refine wpQuiet_nil ?_
      rintro w6 ⟨x6w, rfl⟩
      have B6 := x6w.bl
      generalize x6w.w = w6 at B6 ⊢
      clear x6w hNE l0 l1 x0 x1 x2 x3 x4 H1 H2 H3 H4 H5 H6
      go_wp2
      go_ret
      exact ⟨rfl, Below.next B2 B6⟩
end Go.Proofs.Ytlknlnhbmamcbaa

/- A lattice that comes in, opened into its names and its table. -/
namespace Go.Proofs.Ytlknlnhbmamcbaa
open Go.ChangeShapes Go.WideShapes Go.ChangeAt Go.RowKit Go.Deep Go.Joins

theorem Try.own : ownKnob Try.prog.godebug = none := by kernel_rfl
theorem Try.laidOut : laidOutB Try.prog = true := by kernel_rfl
theorem Try.cellsString : Try.prog.cellsOf 9 = 1 := by kernel_rfl
theorem Try.cellsBool : Try.prog.cellsOf 4 = 1 := by kernel_rfl
theorem Try.cellsRow : Try.prog.cellsOf 54 = 1 := by kernel_rfl
theorem Try.cellsLat : Try.prog.cellsOf 25 = 2 := by kernel_rfl
theorem addr_plain (b off i : Nat) : (⟨b, off, none⟩ : Addr).add i = ⟨b, off + i, none⟩ := by unfold Addr.add; split <;> simp_all

section
variable {H : Type} {enc : TypeId × Value → H} {W : World} {base : Nat}

theorem open_strs {fuel : Nat} {v : Value} {x : DataW H × List MemPlace} (h : DataW.trod enc Try.prog W base (fun _ => true) true fuel 22 [v] = some x) :
    ∃ n : Strs, v = .slice n.ao n.len n.cap ∧ n.At W := by
  rcases open_strings Try.underlying22 Try.underlying9 Try.cellsString h with ⟨hcs, _⟩ | ⟨a, len, cap, ss, hcs, _, hl, hm, hz, _, hcell, hws⟩
  · exact ⟨⟨none, 0, 0, 0, 0, fun _ => ByteArray.empty⟩, by simpa using hcs, ⟨Nat.le_refl _, fun h => absurd h (Nat.lt_irrefl _), Nat.zero_le _, fun _ h => absurd h (Nat.not_lt_zero _), fun _ h => absurd h (Nat.not_lt_zero _)⟩⟩
  · have hv : v = .slice (some a) len cap := by simpa using hcs
    simp only [if_true] at hz
    unfold maxLen at hm hws
    refine ⟨⟨some a, a.block, a.off, len, cap, fun i => ss.getD i ByteArray.empty⟩, hv, ⟨hl, fun hp => ?_, Nat.le_trans hl hm, fun i hi => ?_, fun i hi => ?_⟩⟩
    · have hp' : 0 < len := hp
      have hs := World.cell?_spot (hcell 0 (by omega))
      obtain ⟨ab, ao, asp⟩ := a
      have : asp = none := by simpa [Addr.add] using hs
      subst this; rfl
    · have hi' : i < len := hi
      have hs := World.cell?_spot (hcell 0 (by omega))
      obtain ⟨ab, ao, asp⟩ := a
      have : asp = none := by simpa [Addr.add] using hs
      subst this
      have := hcell i (by omega)
      rw [addr_plain] at this
      exact this
    · have hi' : i < len := hi
      have hmem : ss.getD i ByteArray.empty ∈ ss := by
        rw [List.getD_eq_getElem?_getD, List.getElem?_eq_getElem (by omega)]
        exact List.getElem_mem _
      exact hws _ hmem

theorem open_grid {fuel : Nat} {v : Value} {x : DataW H × List MemPlace} (h : DataW.trod enc Try.prog W base (fun _ => true) true fuel 23 [v] = some x) :
    ∃ g : Grid, v = .slice g.ao g.len g.cap ∧ g.At W := by
  rcases open_bool_rows Try.underlying23 Try.underlying54 Try.underlying4 Try.cellsRow Try.cellsBool h with ⟨hcs, _⟩ | ⟨a, len, cap, A, L, C, B, hcs, _, hl, hm, _, hrows⟩
  · exact ⟨⟨none, 0, 0, 0, 0, fun _ => none, fun _ => 0, fun _ => 0, fun _ => 0, fun _ => 0, fun _ _ => false⟩, by simpa using hcs,
      ⟨Nat.le_refl _, fun h => absurd h (Nat.lt_irrefl _), Nat.zero_le _, fun _ h => absurd h (Nat.not_lt_zero _), fun _ h => absurd h (Nat.not_lt_zero _), fun _ h => absurd h (Nat.not_lt_zero _), fun _ h => absurd h (Nat.not_lt_zero _)⟩⟩
  · have hv : v = .slice (some a) len cap := by simpa using hcs
    unfold maxLen at hm
    have hadr : ∀ r, r < len → 0 < L r → A r = some ⟨((A r).getD default).block, ((A r).getD default).off, none⟩ ∧ ∀ c, c < L r → W.cell? ⟨((A r).getD default).block, ((A r).getD default).off + c, none⟩ = some (.bool (B r c)) := fun r hr hp => by
      obtain ⟨_, h1, _, h3, h4⟩ := hrows r (by omega)
      cases hA : A r with
      | none => have := h3 hA; omega
      | some a' =>
        obtain ⟨ab, ao, asp⟩ := a'
        obtain ⟨_, hcell⟩ := h4 _ hA
        have has : asp = none := by simpa [Addr.add] using World.cell?_spot (hcell 0 (by omega))
        subst has
        exact ⟨rfl, fun c hc => by have := hcell c (by omega); rwa [addr_plain] at this⟩
    have hspot : 0 < len → a = ⟨a.block, a.off, none⟩ := fun hp => by
      have hs := World.cell?_spot (hrows 0 (by omega)).1
      obtain ⟨ab, ao, asp⟩ := a
      have : asp = none := by simpa [Addr.add] using hs
      subst this; rfl
    refine ⟨⟨some a, a.block, a.off, len, cap, A, L, C, fun r => ((A r).getD default).block, fun r => ((A r).getD default).off, B⟩, hv, ⟨hl, fun hp => congrArg some (hspot hp), Nat.le_trans hl hm, fun r hr => ?_, fun r hr => ?_, fun r hr hp => (hadr r hr hp).1, fun r hr c hc => (hadr r hr (Nat.lt_of_le_of_lt (Nat.zero_le _) hc)).2 c hc⟩⟩
    · have hr' : r < len := hr
      obtain ⟨_, h1, h2, _⟩ := hrows r (by omega)
      unfold maxLen at h2
      exact Nat.le_trans h1 h2
    · have hr' : r < len := hr
      have := (hrows r (by omega)).1
      rw [hspot (by omega), addr_plain] at this
      exact this

theorem open_lat {v : Value} {d : DataW H} {p : List MemPlace} {b0 : Nat} (hv : Value.okWide Try.prog W .any b0 25 v) (h : DataW.Trod enc Try.prog W base (fun _ => true) true 25 v d p) :
    ∃ (n : Strs) (g : Grid), v = .agg #[.slice n.ao n.len n.cap, .slice g.ao g.len g.cap] ∧ n.At W ∧ g.At W := by
  obtain ⟨c0, c1, y0, y1, m, rfl, _, _, hy0, hy1⟩ := open_agg2 Try.underlying25 (by kernel_rfl) Try.cellsLat hv h
  obtain ⟨n, rfl, hn⟩ := open_strs hy0
  obtain ⟨g, rfl, hg⟩ := open_grid hy1
  exact ⟨n, g, rfl, hn, hg⟩
end
end Go.Proofs.Ytlknlnhbmamcbaa

/- A type that comes in, opened. -/
namespace Go.Proofs.Ytlknlnhbmamcbaa
open Go.ChangeShapes Go.WideShapes Go.ChangeAt Go.RowKit Go.Deep Go.Joins

theorem Try.cellsInt' : Try.prog.cellsOf 3 = 1 := by kernel_rfl
theorem Try.cellsTys : Try.prog.cellsOf 26 = 1 := by kernel_rfl
theorem Try.cellsTy : Try.prog.cellsOf 28 = 5 := by kernel_rfl

section
variable {H : Type} {enc : TypeId × Value → H} {W : World} {base : Nat}

def Ty.cs (t : Ty) : List Value := [.int .i64 t.k, .int .i64 t.l, .slice t.ao t.len t.cap, .int .i64 t.h, .int .i64 t.e]

theorem open_ty : ∀ (fuel : Nat) (cs : List Value) (x : DataW H × List MemPlace), DataW.trod enc Try.prog W base (fun _ => true) true fuel 28 cs = some x → ∃ t : Ty, cs = t.cs ∧ t.At W := by
  intro fuel
  induction fuel using Nat.strongRecOn with
  | _ fuel ih =>
    intro cs x h
    obtain ⟨xs, n, rfl, _, hl, hlen, hf⟩ := DataW.trod_struct Try.underlying28 h
    rw [Try.cellsTy] at hl
    match cs, hl with
    | [c0, c1, c2, c3, c4], _ =>
      have hlen5 : xs.length = 5 := hlen
      match xs, hlen5 with
      | [y0, y1, y2, y3, y4], _ =>
        have f0 : DataW.trod enc Try.prog W base (fun _ => true) true n 3 [c0] = some y0 := by simpa [Try.cellsInt'] using hf 0 _ rfl
        have f1 : DataW.trod enc Try.prog W base (fun _ => true) true n 3 [c1] = some y1 := by simpa [Try.cellsInt'] using hf 1 _ rfl
        have f2 : DataW.trod enc Try.prog W base (fun _ => true) true n 26 [c2] = some y2 := by simpa [Try.cellsTys] using hf 2 _ rfl
        have f3 : DataW.trod enc Try.prog W base (fun _ => true) true n 3 [c3] = some y3 := by simpa [Try.cellsInt'] using hf 3 _ rfl
        have f4 : DataW.trod enc Try.prog W base (fun _ => true) true n 3 [c4] = some y4 := by simpa [Try.cellsInt'] using hf 4 _ rfl
        obtain ⟨k, q0, _⟩ := DataW.trod_int Try.underlying3 f0
        obtain ⟨l, q1, _⟩ := DataW.trod_int Try.underlying3 f1
        obtain ⟨hh, q3, _⟩ := DataW.trod_int Try.underlying3 f3
        obtain ⟨e, q4, _⟩ := DataW.trod_int Try.underlying3 f4
        simp only [List.cons.injEq, and_true] at q0 q1 q3 q4
        subst q0 q1 q3 q4
        rcases DataW.trod_slice Try.underlying26 f2 with ⟨hcs, _⟩ | ⟨a, len, cap, elems, rest, m, hm, hcs, _, _, hlc, hmx, hel, hx, _, _⟩
        · simp only [List.cons.injEq, and_true] at hcs
          subst hcs
          exact ⟨.mk k l hh e none 0 0 0 0 (fun _ => .dm), rfl, ⟨fun h => absurd h (Nat.lt_irrefl _), Nat.zero_le _, fun _ h => absurd h (Nat.not_lt_zero _)⟩⟩
        · simp only [List.cons.injEq, and_true] at hcs
          subst hcs hm
          unfold maxLen at hmx
          have each : ∀ i, i < len → ∃ t : Ty, (∀ j, j < 5 → W.cell? (a.add (i * 5 + j)) = t.cs[j]?) ∧ t.At W := by
            intro i hi
            have h1 := hx i hi
            rw [Try.cellsTy] at h1
            cases hc : W.cells? base (a.add (i * 5)) 5 with
            | none => rw [hc] at h1; simp at h1; omega
            | some cs' =>
              rw [hc] at h1
              have h2 : DataW.trod enc Try.prog W base (fun _ => true) true m 28 cs' = some elems[i] := by
                rw [List.getElem?_eq_getElem (by omega)] at h1
                simpa using h1
              obtain ⟨t, rfl, hA⟩ := ih m (by omega) cs' _ h2
              obtain ⟨_, _, hcell⟩ := World.cells?_some hc
              exact ⟨t, fun j hj => by rw [← hcell j hj, add_add], hA⟩
          have hspot : 0 < len → a = ⟨a.block, a.off, none⟩ := fun hp => by
            obtain ⟨t, ht, _⟩ := each 0 hp
            have hs := World.cell?_spot (a := a.add (0 * 5 + 0)) (v := .int .i64 t.k) (by rw [ht 0 (by omega)]; rfl)
            obtain ⟨ab, ao, asp⟩ := a
            have : asp = none := by simpa [Addr.add] using hs
            subst this; rfl
          refine ⟨.mk k l hh e (some a) a.block a.off len cap (fun i => if h : i < len then Classical.choose (each i h) else .dm), rfl, ⟨fun hp => congrArg some (hspot hp), by omega, fun i hi => ?_⟩⟩
          simp only [dif_pos hi]
          obtain ⟨ht, hA⟩ := Classical.choose_spec (each i hi)
          generalize Classical.choose (each i hi) = t at ht hA
          have ea := hspot (by omega)
          have get : ∀ j, j < 5 → W.cell? ⟨a.block, a.off + i * 5 + j, none⟩ = t.cs[j]? := fun j hj => by
            have := ht j hj
            rw [ea, addr_plain, ← Nat.add_assoc] at this
            exact this
          exact ⟨⟨get 0 (by omega), get 1 (by omega), get 2 (by omega), get 3 (by omega), get 4 (by omega)⟩, hA⟩
theorem open_type {v : Value} {d : DataW H} {p : List MemPlace} {b0 : Nat} (hv : Value.okWide Try.prog W .any b0 28 v) (h : DataW.Trod enc Try.prog W base (fun _ => true) true 28 v d p) :
    ∃ t : Ty, v = .agg #[.int .i64 t.k, .int .i64 t.l, .slice t.ao t.len t.cap, .int .i64 t.h, .int .i64 t.e] ∧ t.At W := by
  obtain ⟨cs, rfl, _⟩ := okWide_struct Try.underlying28 hv
  obtain ⟨fuel, hf⟩ := h
  obtain ⟨t, ht, hA⟩ := open_ty fuel _ _ hf
  refine ⟨t, ?_, hA⟩
  have : cs.toList = t.cs := by simpa [Value.cells] using ht
  obtain ⟨l⟩ := cs
  have e : l = t.cs := this
  rw [e]; rfl

theorem Try.cellsTy3 : Try.prog.cellsOf 39 = 15 := by kernel_rfl
theorem open_ty3 {v : Value} {d : DataW H} {p : List MemPlace} {b0 : Nat} (hv : Value.okWide Try.prog W .any b0 39 v) (h : DataW.Trod enc Try.prog W base (fun _ => true) true 39 v d p) :
    ∃ sp : Nat → Ty, v = .agg #[.int .i64 (sp 0).k, .int .i64 (sp 0).l, .slice (sp 0).ao (sp 0).len (sp 0).cap, .int .i64 (sp 0).h, .int .i64 (sp 0).e, .int .i64 (sp 1).k, .int .i64 (sp 1).l, .slice (sp 1).ao (sp 1).len (sp 1).cap, .int .i64 (sp 1).h, .int .i64 (sp 1).e, .int .i64 (sp 2).k, .int .i64 (sp 2).l, .slice (sp 2).ao (sp 2).len (sp 2).cap, .int .i64 (sp 2).h, .int .i64 (sp 2).e] ∧ ∀ k, k < 3 → (sp k).At W := by
  simp only [Value.okWide, Try.underlying39] at hv
  obtain ⟨⟨cs⟩, rfl, _, _⟩ := hv
  obtain ⟨fuel, hf⟩ := h
  cases fuel with
  | zero => simp [DataW.trod] at hf
  | succ n =>
    unfold DataW.trod at hf
    rw [Try.underlying39] at hf
    have r3 : List.range 3 = [0, 1, 2] := rfl
    simp [r3, Try.cellsTy, Try.cellsTy3, Value.cells] at hf
    obtain ⟨hlen, hf⟩ := hf
    cases h0 : DataW.trod enc Try.prog W base (fun _ => true) true n 28 (List.take 5 cs) with
    | none => simp [h0] at hf
    | some y0 =>
      cases h1 : DataW.trod enc Try.prog W base (fun _ => true) true n 28 (List.take 5 (List.drop 5 cs)) with
      | none => simp [h0, h1] at hf
      | some y1 =>
        cases h2 : DataW.trod enc Try.prog W base (fun _ => true) true n 28 (List.take 5 (List.drop 10 cs)) with
        | none => simp [h0, h1, h2] at hf
        | some y2 =>
          obtain ⟨t0, e0, A0⟩ := open_ty n _ _ h0
          obtain ⟨t1, e1, A1⟩ := open_ty n _ _ h1
          obtain ⟨t2, e2, A2⟩ := open_ty n _ _ h2
          have ec : cs = t0.cs ++ (t1.cs ++ t2.cs) := by
            have q1 := List.take_append_drop 5 cs
            have q2 := List.take_append_drop 5 (List.drop 5 cs)
            have q3 : List.take 5 (List.drop 10 cs) = List.drop 10 cs := List.take_of_length_le (by simp [hlen])
            rw [List.drop_drop] at q2
            rw [← e0, ← e1, ← e2, q3, q2, q1]
          refine ⟨fun k => if k = 0 then t0 else if k = 1 then t1 else t2, ?_, fun k hk => ?_⟩
          · subst ec; rfl
          · match k, hk with
            | 0, _ => exact A0
            | 1, _ => exact A1
            | 2, _ => exact A2
end
end Go.Proofs.Ytlknlnhbmamcbaa
