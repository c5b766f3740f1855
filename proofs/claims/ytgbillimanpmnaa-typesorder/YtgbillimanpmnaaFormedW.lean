/- The walk of layer 1's Formed. -/
import Derived.Test.YtgbillimanpmnaaFormed
namespace Go.Proofs.Ytgbillimanpmnaa
open Go.RowKit

def Grid.U (g : Grid) : Nat → Nat := upTo g g.len 0
def Grid.D (g : Grid) : Nat → Nat := dnTo g g.len 0
theorem Grid.U_lt (g : Grid) (i : Nat) : g.U i < 256 := upTo_lt _ _ _ _
theorem Grid.D_lt (g : Grid) (i : Nat) : g.D i < 256 := dnTo_lt _ _ _ _
def formedB (n : Strs) (g : Grid) : Bool := (namesB n && squareB g n.len) && (partB g.len g.U g.D && bddB g.len g.U g.D)

theorem namesB_len {n : Strs} (h : namesB n = true) : 0 < n.len ∧ n.len ≤ 8 := by
  unfold namesB at h
  rw [Bool.and_eq_true, decide_eq_true_eq] at h
  exact h.1
theorem squareB_len {g : Grid} {n : Nat} (h : squareB g n = true) : g.len = n ∧ ∀ r, r < g.len → g.L r = n := by
  unfold squareB at h
  rw [Bool.and_eq_true, decide_eq_true_eq, beq_iff_eq] at h
  exact h

theorem grid_orderOf (g : Grid) (w : World) (hg : g.At w) (h8 : g.len ≤ 8) (hL : ∀ r, r < g.len → g.L r ≤ 8) :
    Calls Try.prog 62 #[.slice g.ao g.len g.cap] w fun e w' => e = .returned (.pointer (some ⟨w.heap.size, 0, none⟩)) ∧ OrdAt w' w.heap.size g.len g.U g.D ∧ Below w.heap.size w w' := orderOf_any g w hg h8 hL

/-- w1 is w, and behind it a variable of two cells, and what came since. -/
structure Box2 (w w1 : World) (u v : Value) : Prop where
  bl : Below w.heap.size w w1
  lt : w.heap.size < w1.heap.size
  c0 : w1.cell? ⟨w.heap.size, 0, none⟩ = some u
  c1 : w1.cell? ⟨w.heap.size, 1, none⟩ = some v
  f0 : w1.frozen? ⟨w.heap.size, 0, none⟩ = false
  f1 : w1.frozen? ⟨w.heap.size, 1, none⟩ = false
theorem Box2.start (w : World) (u v : Value) (t : TypeId) : Box2 w (w.alloc (.cells #[u, v] t)) u v :=
  ⟨(Below.refl _ _).alloc (Nat.le_refl _) _, by simp, (cells2 w u v t).1, (cells2 w u v t).2, by simp, by simp⟩
theorem Box2.step {w w1 w2 : World} {u v : Value} (h : Box2 w w1 u v) (k : Below w1.heap.size w1 w2) : Box2 w w2 u v :=
  ⟨h.bl.trans (k.mono h.bl.size), Nat.lt_of_lt_of_le h.lt k.size, (k.cell (p := ⟨w.heap.size, 0, none⟩) h.lt).trans h.c0, (k.cell (p := ⟨w.heap.size, 1, none⟩) h.lt).trans h.c1,
    (k.frozen (p := ⟨w.heap.size, 0, none⟩) h.lt).trans h.f0, (k.frozen (p := ⟨w.heap.size, 1, none⟩) h.lt).trans h.f1⟩

set_option maxHeartbeats 1000000 in
theorem formed_any (n : Strs) (g : Grid) (w : World) (hn : n.At w) (hg : g.At w) :
    Calls Try.prog 49 #[.agg #[.slice n.ao n.len n.cap, .slice g.ao g.len g.cap]] w fun e w' => e = .returned (.bool (formedB n g)) ∧ Below w.heap.size w w' := by
  have hnb := hn.bound
  have B0 := Box2.start w (.slice n.ao n.len n.cap) (.slice g.ao g.len g.cap) 25
  go_enter Try.func49, Try.ntmps49
  go_wp2_with fail
  refine (namesFormed_any n _ (hn.kept B0.bl)).mono ?_
  rintro e w1 ⟨rfl, hb1⟩
  have B1 := B0.step hb1
  clear hb1 B0
  have c0 := B1.c0
  have c1 := B1.c1
  cases h1 : namesB n
  · go_wp2
    go_ret
    exact ⟨ret_bool (by simp [formedB, h1]), B1.bl⟩
  go_wp2_with fail
  refine (square_any g n.len _ (hg.kept B1.bl)).mono ?_
  rintro e w2 ⟨rfl, rfl⟩
  cases h2 : squareB g n.len
  · go_wp2
    go_ret
    exact ⟨ret_bool (by simp [formedB, h2]), B1.bl⟩
  have l1 := namesB_len h1
  have l2 := squareB_len h2
  have L2 : Hid (g.len = n.len ∧ ∀ r, r < g.len → g.L r = n.len) := l2
  clear l2
  go_wp2_with fail
  refine (grid_orderOf g _ (hg.kept B1.bl) (by have := L2.out.1; omega) (fun r hr => by rw [L2.out.2 r hr]; exact l1.2)).mono ?_
  rintro e w3 ⟨rfl, ho, hb3⟩
  have B2 := B1.step hb3
  clear hb3 c0 c1
  go_wp2_with fail
  refine (partial_any _ g.len g.U g.D _ (by have := L2.out.1; omega) ho (fun i _ => g.U_lt i) (fun i _ => g.D_lt i)).mono ?_
  rintro e w4 ⟨rfl, hdr⟩
  have B3 := B2.step (hdr.below _)
  have ho4 := ho.dr hdr
  clear hdr
  cases h3 : partB g.len g.U g.D
  · go_wp2
    go_ret
    exact ⟨ret_bool (by simp [formedB, h3]), B3.bl⟩
  go_wp2_with fail
  refine (bounded_any _ g.len g.U g.D _ (by have := L2.out.1; omega) ho4 (fun i _ => g.U_lt i) (fun i _ => g.D_lt i)).mono ?_
  rintro e w5 ⟨rfl, hb5⟩
  have B4 := B3.step hb5
  go_wp2
  go_ret
  exact ⟨ret_bool (by simp [formedB, h1, h2, h3]), B4.bl⟩
end Go.Proofs.Ytgbillimanpmnaa
