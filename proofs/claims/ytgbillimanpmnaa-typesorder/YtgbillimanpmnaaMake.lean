/- The walk of layer 1's Make. -/
import Derived.Test.YtgbillimanpmnaaLeast
namespace Go.Proofs.Ytgbillimanpmnaa
open Go.RowKit

/-- A table at block T, its rows behind. -/
def gridOf (T n : Nat) (M : Nat → Nat → Bool) : Grid := ⟨some ⟨T, 0, none⟩, T, 0, n, n, fun j => some ⟨T + 1 + j, 0, none⟩, fun _ => n, fun _ => n, fun j => T + 1 + j, fun _ => 0, M⟩
theorem OwnG.at' {w wr : World} {n : Nat} {M : Nat → Nat → Bool} (h : OwnG w wr n M) (h8 : n ≤ 8) : (gridOf w.heap.size n M).At wr where
  lc := Nat.le_refl _
  nil := fun _ => rfl
  bound := by show n ≤ _; omega
  lbound := fun _ _ => by show n ≤ _; omega
  row := fun r hr => by
    show wr.cell? ⟨w.heap.size, 0 + r, none⟩ = _
    rw [Nat.zero_add]; exact h.top.cell hr
  adr := fun _ _ _ => rfl
  cell := fun r hr c hc => by
    show wr.cell? ⟨w.heap.size + 1 + r, 0 + c, none⟩ = _
    rw [Nat.zero_add]; exact (h.rows r hr).cell hc

/-- Formed, of names and truths alone. -/
def formedM (len : Nat) (s : Nat → ByteArray) (M : Nat → Nat → Bool) : Bool := formedB ⟨none, 0, 0, len, len, s⟩ (gridOf 0 len M)
theorem formed_canon {n : Strs} {T len : Nat} {s : Nat → ByteArray} {M : Nat → Nat → Bool} (h1 : n.len = len) (h2 : n.s = s) : formedB n (gridOf T len M) = formedM len s M := by
  obtain ⟨ao, b, o, l, c, s'⟩ := n
  simp only at h1 h2
  subst h1 h2
  rfl

/-- What Make answers: an error, or names and a table. -/
def makeE (n : Strs) (p : Prs) : Int := if 8 < n.len ∨ 64 < p.len then 1 else if prsB p n.len = false then 10 else if formedM n.len n.s (leastM p n.len) = false then 4 else 0

structure Made (n : Strs) (p : Prs) (e : Int) (n' : Strs) (g' : Grid) (w' : World) : Prop where
  er : e = makeE n p
  nat : n'.At w'
  gat : g'.At w'
  yes : e = 0 → n'.len = n.len ∧ n'.s = n.s ∧ ∃ T, g' = gridOf T n.len (leastM p n.len)
  no : e ≠ 0 → n'.len = 0 ∧ g'.len = 0

def noStrs : Strs := ⟨none, 0, 0, 0, 0, fun _ => ByteArray.empty⟩
def noGrid : Grid := ⟨none, 0, 0, 0, 0, fun _ => none, fun _ => 0, fun _ => 0, fun _ => 0, fun _ => 0, fun _ _ => false⟩
theorem noStrs_at (w : World) : noStrs.At w := ⟨Nat.le_refl _, fun h => absurd h (Nat.lt_irrefl _), Nat.zero_le _, fun _ h => absurd h (Nat.not_lt_zero _), fun _ h => absurd h (Nat.not_lt_zero _)⟩
theorem noGrid_at (w : World) : noGrid.At w := ⟨Nat.le_refl _, fun h => absurd h (Nat.lt_irrefl _), Nat.zero_le _, fun _ h => absurd h (Nat.not_lt_zero _), fun _ h => absurd h (Nat.not_lt_zero _), fun _ h => absurd h (Nat.not_lt_zero _), fun _ h => absurd h (Nat.not_lt_zero _)⟩

theorem makeE_1 {n : Strs} {p : Prs} (h : 8 < n.len ∨ 64 < p.len) : makeE n p = 1 := by unfold makeE; rw [if_pos h]
theorem makeE_10 {n : Strs} {p : Prs} (h : ¬ (8 < n.len ∨ 64 < p.len)) (h2 : prsB p n.len = false) : makeE n p = 10 := by unfold makeE; rw [if_neg h, if_pos h2]
theorem makeE_4 {n : Strs} {p : Prs} (h : ¬ (8 < n.len ∨ 64 < p.len)) (h2 : prsB p n.len = true) (h3 : formedM n.len n.s (leastM p n.len) = false) : makeE n p = 4 := by unfold makeE; rw [if_neg h, if_neg (by rw [h2]; simp), if_pos h3]
theorem makeE_0 {n : Strs} {p : Prs} (h : ¬ (8 < n.len ∨ 64 < p.len)) (h2 : prsB p n.len = true) (h3 : formedM n.len n.s (leastM p n.len) = true) : makeE n p = 0 := by unfold makeE; rw [if_neg h, if_neg (by rw [h2]; simp), if_neg (by rw [h3]; simp)]
theorem made_no {n : Strs} {p : Prs} {e : Int} (w : World) (h : makeE n p = e) (h0 : e ≠ 0) : Made n p e noStrs noGrid w := ⟨h.symm, noStrs_at w, noGrid_at w, fun h => absurd h h0, fun _ => ⟨rfl, rfl⟩⟩

theorem Strs.At.set {g : Strs} {w : World} (h : g.At w) {a : Addr} {p : Option Addr} {l c : Nat} (ha : w.cell? a = some (.slice p l c)) (v : Value) : g.At (w.setCell a v) :=
  ⟨h.lc, h.nil, h.bound, fun i hi => by
    have hc := h.cell i hi
    rw [World.cell?_setCell_other _ _ _ _ (fun e => by rw [← e, ha] at hc; cases hc)]
    exact hc, h.sz⟩
theorem gridOf_set {T n : Nat} {M : Nat → Nat → Bool} {w : World} (h : (gridOf T n M).At w) {a : Addr} (ha : a.block < T) (v : Value) : (gridOf T n M).At (w.setCell a v) where
  lc := h.lc
  nil := h.nil
  bound := h.bound
  lbound := h.lbound
  row := fun r hr => by
    rw [World.cell?_setCell_other _ _ _ _ (fun e => by have := congrArg Addr.block e; simp [gridOf] at this; omega)]
    exact h.row r hr
  adr := h.adr
  cell := fun r hr c hc => by
    rw [World.cell?_setCell_other _ _ _ _ (fun e => by have := congrArg Addr.block e; simp [gridOf] at this; omega)]
    exact h.cell r hr c hc
theorem below_set2 {w w1 : World} (h : Below w.heap.size w w1) (u v : Value) : Below w.heap.size w ((w1.setCell ⟨w.heap.size, 0, none⟩ u).setCell ⟨w.heap.size, 1, none⟩ v) :=
  (h.setCell (Nat.le_refl _) _).setCell (Nat.le_refl _) _

end Go.Proofs.Ytgbillimanpmnaa
