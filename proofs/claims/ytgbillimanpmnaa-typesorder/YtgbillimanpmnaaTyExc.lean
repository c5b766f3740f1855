/- Layer 2: the order looked up; exception labels. -/
import Derived.Test.YtgbillimanpmnaaTySame
namespace Go.Proofs.Ytgbillimanpmnaa
open Go.RowKit

/-- A formed lattice's table, where it lies. -/
def fgrid (N gb go gcap : Nat) (gA : Nat → Option Addr) (gL gC gAB gAO : Nat → Nat) (gB : Nat → Nat → Bool) : Grid := ⟨some ⟨gb, go, none⟩, gb, go, N, gcap, gA, gL, gC, gAB, gAO, gB⟩
theorem ord_cells {n : Strs} {gb go gcap : Nat} {gA : Nat → Option Addr} {gL gC gAB gAO : Nat → Nat} {gB : Nat → Nat → Bool} (hF : formedB n (fgrid n.len gb go gcap gA gL gC gAB gAO gB) = true) {w : World} (hg : (fgrid n.len gb go gcap gA gL gC gAB gAO gB).At w) {x y : Nat} (hx : x < n.len) (hy : y < n.len) :
    w.cell? ⟨gb, go + x, none⟩ = some (.slice (some ⟨gAB x, gAO x, none⟩) n.len (gC x)) ∧ w.cell? ⟨gAB x, gAO x + y, none⟩ = some (.bool (gB x y)) := by
  unfold formedB at hF
  rw [Bool.and_eq_true, Bool.and_eq_true] at hF
  obtain ⟨e1, e2⟩ := squareB_len hF.1.2
  have hL : gL x = n.len := e2 x hx
  have h1 := hg.row x hx
  have h2 : gA x = some ⟨gAB x, gAO x, none⟩ := hg.adr x hx (by show 0 < gL x; omega)
  have h3 := hg.cell x hx y (by show y < gL x; omega)
  refine ⟨?_, h3⟩
  have h1' : w.cell? ⟨gb, go + x, none⟩ = some (.slice (gA x) (gL x) (gC x)) := h1
  rw [h1', h2, hL]

set_option maxHeartbeats 2000000 in
theorem excBelow_any (n : Strs) (gb go gcap : Nat) (gA : Nat → Option Addr) (gL gC gAB gAO : Nat → Nat) (gB : Nat → Nat → Bool) (hF : Hid (formedB n (fgrid n.len gb go gcap gA gL gC gAB gAO gB) = true)) (a b : Int) (w : World) (hg : (fgrid n.len gb go gcap gA gL gC gAB gAO gB).At w) (ha : a = -1 ∨ inR n.len a = true) (hb : b = -1 ∨ inR n.len b = true) :
    Calls Try.prog 56 #[.agg #[.slice n.ao n.len n.cap, .slice (some ⟨gb, go, none⟩) n.len gcap], .int .i64 a, .int .i64 b] w fun e w' => e = .returned (.bool (excB gB a b)) ∧ Below w.heap.size w w' := by
  have B0 := below_alloc w (.cells #[.slice n.ao n.len n.cap, .slice (some ⟨gb, go, none⟩) n.len gcap] 25)
  have hg2 := hg.kept B0
  have HE : Hid (excB gB a b = ((a == -1) || ((b != -1) && gB a.toNat b.toNat))) := rfl
  cases h1 : (a == -1)
  · obtain ⟨x, hx, hx1⟩ : ∃ k : Nat, a = k ∧ k < n.len := inR_nat (by
      rcases ha with h | h
      · rw [h] at h1; cases h1
      · exact h)
    cases h2 : (b != -1)
    · have HV : Hid (excB gB a b = false) := by show excB gB a b = false; rw [HE.out, h1, h2]; rfl
      clear HE ha hb hx
      go_enter Try.func56, Try.ntmps56
      go_wp2
      go_ret
      exact ⟨ret_bool HV.out.symm, B0⟩
    · obtain ⟨y, hy, hy1⟩ : ∃ k : Nat, b = k ∧ k < n.len := inR_nat (by
        rcases hb with h | h
        · rw [h] at h2; cases h2
        · exact h)
      subst hx hy
      have HV : Hid (excB gB x y = gB x y) := by show excB gB x y = gB x y; rw [HE.out, h1, h2]; simp
      obtain ⟨c0, c1⟩ := ord_cells hF.out hg2 hx1 hy1
      have ix : (x : Int) < n.len := by omega
      have iy : (y : Int) < n.len := by omega
      clear HE ha hb
      go_enter Try.func56, Try.ntmps56
      go_wp2
      go_ret
      exact ⟨ret_bool HV.out.symm, B0⟩
  · have HV : Hid (excB gB a b = true) := by show excB gB a b = true; rw [HE.out, h1]; rfl
    clear HE ha hb
    go_enter Try.func56, Try.ntmps56
    go_wp2
    go_ret
    exact ⟨ret_bool HV.out.symm, B0⟩
end Go.Proofs.Ytgbillimanpmnaa
