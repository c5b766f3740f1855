/- The walk of layer 1's leastOrder. -/
import Derived.Test.YtgbillimanpmnaaClone
import Derived.Deep.RegionWith
namespace Go.Proofs.Ytgbillimanpmnaa
open Go.RowKit

theorem Try.infoBool : (Try.prog.info? 4).map (fun i => (i.zero, i.size, i.bytes)) = some (some (.bool false), 1, 1) := by kernel_rfl
theorem Try.infoRow : (Try.prog.info? 54).map (fun i => (i.zero, i.size, i.bytes)) = some (some (.slice none 0 0), 1, 24) := by kernel_rfl

/-- The table that the call itself makes. -/
structure OwnG (w0 wr : World) (n : Nat) (M : Nat → Nat → Bool) : Prop where
  bl : Below w0.heap.size w0 wr
  top : wr.rowIs w0.heap.size 54 n (fun j => .slice (some ⟨w0.heap.size + 1 + j, 0, none⟩) n n)
  rows : ∀ j, j < n → wr.rowIs (w0.heap.size + 1 + j) 4 n (fun c => .bool (M j c))

def topTo (T n k : Nat) : Nat → Value := fun j => if j < k then .slice (some ⟨T + 1 + j, 0, none⟩) n n else .slice none 0 0
/-- .. when k of its rows are made. -/
structure MkG (w0 wr : World) (n k : Nat) : Prop where
  bl : Below w0.heap.size w0 wr
  size : wr.heap.size = w0.heap.size + 1 + k
  top : wr.rowIs w0.heap.size 54 n (topTo w0.heap.size n k)
  rows : ∀ j, j < k → wr.rowIs (w0.heap.size + 1 + j) 4 n (fun c => .bool (c == j))

theorem MkG.start (w : World) (n : Nat) : MkG w (w.alloc (.cells (madeCells #[.slice none 0 0] n) 54)) n 0 :=
  ⟨(Below.refl _ _).alloc (Nat.le_refl _) _, by simp, (World.rowIs_made w _ n 54).congr (fun j _ => by simp [topTo]), fun j hj => absurd hj (Nat.not_lt_zero _)⟩

theorem MkG.done {w wr : World} {n : Nat} (h : MkG w wr n n) : OwnG w wr n (fun r c => c == r) :=
  ⟨h.bl, h.top.congr (fun j hj => by simp [topTo, hj]), h.rows⟩

theorem MkG.step {w wr : World} {n k : Nat} (h : MkG w wr n k) (hk : k < n) :
    MkG w (((wr.alloc (.cells (madeCells #[.bool false] n) 4)).setCell ⟨w.heap.size, k, none⟩ (.slice (some ⟨wr.heap.size, 0, none⟩) n n)).setCell ⟨wr.heap.size, k, none⟩ (.bool true)) n (k + 1) := by
  have hs := h.size
  have hnew : ((wr.alloc (.cells (madeCells #[.bool false] n) 4)).setCell ⟨w.heap.size, k, none⟩ (.slice (some ⟨wr.heap.size, 0, none⟩) n n)).rowIs wr.heap.size 4 n (fun _ => .bool false) := (World.rowIs_made wr (.bool false) n 4).setOther (by show wr.heap.size ≠ w.heap.size; omega) _
  refine ⟨((h.bl.alloc h.bl.size _).setCell (Nat.le_refl _) _).setCell (by show w.heap.size ≤ wr.heap.size; omega) _, by simp [hs]; omega, ?_, fun j hj => ?_⟩
  · refine (((h.top.alloc _).set k _).setOther (by show w.heap.size ≠ wr.heap.size; omega) _).congr (fun j _ => ?_)
    simp only [topTo]
    by_cases e : j = k
    · subst e; simp [hs]
    · rw [if_neg e]
      by_cases hlt : j < k
      · rw [if_pos hlt, if_pos (by omega)]
      · rw [if_neg hlt, if_neg (by omega)]
  · by_cases e : j = k
    · subst e
      have h2 := hnew.set j (.bool true)
      rw [hs] at h2 ⊢
      refine h2.congr (fun c _ => ?_)
      by_cases e : c = j
      · subst e; simp
      · rw [if_neg e, beq_eq_false_iff_ne.2 e]
    · exact (((h.rows j (by omega)).alloc _).setOther (by show w.heap.size + 1 + j ≠ w.heap.size; omega) _).setOther (by show w.heap.size + 1 + j ≠ wr.heap.size; omega) _

theorem inR_nat {n : Nat} {a : Int} (h : inR n a = true) : ∃ k : Nat, a = k ∧ k < n := by
  unfold inR at h
  rw [Bool.and_eq_true, decide_eq_true_eq, decide_eq_true_eq] at h
  exact ⟨a.toNat, by omega, by omega⟩
theorem prs_in {g : Prs} {n m : Nat} (h : prsB g n = true) (hm : m < g.len) : (∃ x : Nat, g.x m = x ∧ x < n) ∧ ∃ y : Nat, g.y m = y ∧ y < n := by
  unfold prsB at h
  rw [decide_eq_true_eq] at h
  have := h m hm
  rw [Bool.and_eq_true] at this
  exact ⟨inR_nat this.1, inR_nat this.2⟩

def warStep (M : Nat → Nat → Bool) (b : Nat) : Nat → Nat → Bool := fun r c => M r c || (M r b && M b c)
def warPart (M : Nat → Nat → Bool) (b a : Nat) : Nat → Nat → Bool := fun r c => if r < a then warStep M b r c else M r c
def war (M : Nat → Nat → Bool) : Nat → Nat → Nat → Bool
  | 0 => M
  | k + 1 => warStep (war M k) k
def prsM (g : Prs) (k : Nat) : Nat → Nat → Bool := fun r c => (c == r) || decide (∃ i, i < k ∧ g.x i = r ∧ g.y i = c)
def leastM (g : Prs) (n : Nat) : Nat → Nat → Bool := war (prsM g g.len) n

theorem row_same (M : Nat → Nat → Bool) (b c : Nat) : warStep M b b c = M b c := by
  unfold warStep; cases M b c <;> simp

theorem OwnG.congr {w wr : World} {n : Nat} {M M' : Nat → Nat → Bool} (h : OwnG w wr n M) (e : ∀ r c, r < n → c < n → M r c = M' r c) : OwnG w wr n M' :=
  ⟨h.bl, h.top, fun j hj => (h.rows j hj).congr (fun c hc => by rw [e j c hj hc])⟩

theorem OwnG.pair {g : Prs} {w wr : World} {n m x y : Nat} (h : OwnG w wr n (prsM g m)) (hx : x < n) (e : g.x m = x ∧ g.y m = y) (o : Obj) :
    OwnG w ((wr.alloc o).setCell ⟨w.heap.size + 1 + x, y, none⟩ (.bool true)).drew n (prsM g (m + 1)) := by
  refine ⟨((h.bl.alloc h.bl.size _).setCell (by show w.heap.size ≤ w.heap.size + 1 + x; omega) _).drew, ((h.top.alloc _).setOther (by show w.heap.size ≠ w.heap.size + 1 + x; omega) _).drew, fun j hj => ?_⟩
  have hE : ∀ r c : Nat, prsM g (m + 1) r c = (prsM g m r c || (r == x && c == y)) := by
    intro r c
    unfold prsM
    rw [Bool.eq_iff_iff]
    simp only [Bool.or_eq_true, Bool.and_eq_true, decide_eq_true_eq, beq_iff_eq]
    constructor
    · rintro (h | ⟨i, hi, h1, h2⟩)
      · exact Or.inl (Or.inl h)
      · by_cases hi2 : i = m
        · subst hi2
          refine Or.inr ⟨?_, ?_⟩
          · have := e.1; omega
          · have := e.2; omega
        · exact Or.inl (Or.inr ⟨i, by omega, h1, h2⟩)
    · rintro ((h | ⟨i, hi, h1, h2⟩) | ⟨h1, h2⟩)
      · exact Or.inl h
      · exact Or.inr ⟨i, by omega, h1, h2⟩
      · exact Or.inr ⟨m, by omega, by rw [e.1, h1], by rw [e.2, h2]⟩
  by_cases ej : j = x
  · subst ej
    refine ((((h.rows j hj).alloc _).set y (.bool true)).congr (fun c _ => ?_)).drew
    rw [hE]
    by_cases ec : c = y
    · subst ec; simp
    · rw [if_neg ec, beq_eq_false_iff_ne.2 ec]; simp
  · refine ((((h.rows j hj).alloc _).setOther (by show w.heap.size + 1 + j ≠ w.heap.size + 1 + x; omega) _).congr (fun c _ => ?_)).drew
    rw [hE, beq_eq_false_iff_ne.2 ej]; simp

theorem warPart_other (M : Nat → Nat → Bool) (b a r c : Nat) (e : ¬ r = a) : warPart M b (a + 1) r c = warPart M b a r c := by
  unfold warPart
  by_cases h : r < a
  · rw [if_pos h, if_pos (by omega)]
  · rw [if_neg h, if_neg (by omega)]

theorem OwnG.add {w wr w' : World} {n a b : Nat} {M : Nat → Nat → Bool} (h : OwnG w wr n (warPart M b a)) (ha : a < n) (hM : M a b = true)
    (hrow : w'.rowIs (w.heap.size + 1 + a) 4 n (fun c => .bool (M a c || M b c))) (hw : Wrote wr w' (w.heap.size + 1 + a)) : OwnG w w' n (warPart M b (a + 1)) := by
  refine ⟨h.bl.trans ⟨hw.os, hw.tape, hw.output, Nat.le_of_eq hw.size.symm, fun k hk => hw.block k (by omega)⟩, h.top.of_block (hw.block _ (by omega)), fun j hj => ?_⟩
  by_cases e : j = a
  · subst e
    exact hrow.congr (fun c _ => by simp [warPart, warStep, hM])
  · exact ((h.rows j hj).of_block (hw.block _ (by omega))).congr (fun c _ => by rw [warPart_other M b a j c e])

theorem OwnG.skip {w wr : World} {n a b : Nat} {M : Nat → Nat → Bool} (h : OwnG w wr n (warPart M b a)) (hM : M a b = false) : OwnG w wr n (warPart M b (a + 1)) :=
  h.congr (fun r c _ _ => by
    by_cases e : r = a
    · subst e; simp [warPart, warStep, hM]
    · rw [warPart_other M b a r c e])

theorem warPart_row (M : Nat → Nat → Bool) (b a c : Nat) : warPart M b a b c = M b c := by
  unfold warPart; split
  · exact row_same M b c
  · rfl

theorem warPart_now (M : Nat → Nat → Bool) (b a c : Nat) : warPart M b a a c = M a c := by
  unfold warPart; rw [if_neg (Nat.lt_irrefl _)]

end Go.Proofs.Ytgbillimanpmnaa
