/- Layer 4: the walk of the statement BytesOrder. -/
import Derived.Test.YtboehlfdfpiodaaBtAwake
namespace Go.Proofs.Ytboehlfdfpiodaa
open Go.RowKit

set_option maxRecDepth 100000 in
set_option maxHeartbeats 4000000 in
theorem bytesOrder_any (a b : Nat) (w : World) (ha : a < 65536) (hb : b < 65536) :
    Calls Try.prog 8 #[.int .u16 a, .int .u16 b] w fun e w' => e = .returned (.bool true) ∧ Below w.heap.size w w' := by
  go_enter Try.func8, Try.ntmps8
  go_wp2_with fail
  refine (awake_any _).mono ?_
  rintro e w1 ⟨rfl, hb1⟩
  go_wp2_with fail
  refine (wshort0 a w1 (by omega)).mono ?_
  rintro e w2 ⟨rfl, h2, hb2⟩
  have H2 : Hid ((mkB w1.heap.size 2 (beF 2 a)).At w2) := h2
  clear h2
  go_wp2_with fail
  refine (wshort0 b w2 (by omega)).mono ?_
  rintro e w3 ⟨rfl, h3, hb3⟩
  have h2' := H2.out.kept hb3
  have c0 := mkB_cell h2' 0 (by omega)
  have c1 := mkB_cell h2' 1 (by omega)
  have d0 := mkB_cell h3 0 (by omega)
  have d1 := mkB_cell h3 1 (by omega)
  have e0 : beF 2 a 0 = a / 256 := by show a / 256 ^ 1 % 256 = _; omega
  have e1 : beF 2 a 1 = a % 256 := by show a / 256 ^ 0 % 256 = _; omega
  have g0 : beF 2 b 0 = b / 256 := by show b / 256 ^ 1 % 256 = _; omega
  have g1 : beF 2 b 1 = b % 256 := by show b / 256 ^ 0 % 256 = _; omega
  rw [e0] at c0; rw [e1] at c1; rw [g0] at d0; rw [g1] at d1
  clear e0 e1 g0 g1 h2' h3 H2
  have hbl : Below w.heap.size w w3 := (hb1.trans (hb2.mono hb1.size)).trans (hb3.mono (Nat.le_trans hb1.size hb2.size))
  clear hb1 hb2 hb3
  obtain ⟨x, hx⟩ : ∃ x, x = a / 256 := ⟨_, rfl⟩
  obtain ⟨y, hy⟩ : ∃ y, y = a % 256 := ⟨_, rfl⟩
  obtain ⟨u, hu⟩ : ∃ u, u = b / 256 := ⟨_, rfl⟩
  obtain ⟨v, hv⟩ : ∃ v, v = b % 256 := ⟨_, rfl⟩
  rw [← hx] at c0; rw [← hy] at c1; rw [← hu] at d0; rw [← hv] at d1
  rcases (show (x < u ∧ a < b) ∨ (x = u ∧ y < v ∧ a < b) ∨ (x = u ∧ v ≤ y ∧ b ≤ a) ∨ (u < x ∧ b ≤ a) from by omega) with h | h | h | h
  all_goals
    obtain ⟨h1, h2⟩ := h
    clear hx hy hu hv
  · go_wp2
    go_region
    go_wp2
    go_ret
    exact ⟨rfl, hbl.drew⟩
  · obtain ⟨h2, h3⟩ := h2
    subst h1
    go_wp2
    go_region
    go_wp2
    go_ret
    exact ⟨rfl, hbl.drew⟩
  · obtain ⟨h2, h3⟩ := h2
    subst h1
    go_wp2
    go_region
    go_wp2
    go_ret
    exact ⟨ret_bool (by rw [decide_eq_false (show ¬ a < b by omega), decide_eq_false (show ¬ y < v by omega)]; rfl), hbl.drew⟩
  · have hbq : ((x : Int) == (u : Int)) = false := beq_eq_false_iff_ne.2 (by omega)
    have hnl : ¬ x < u := by omega
    have hnb : ¬ a < b := by omega
    clear h1 h2
    go_wp2
    go_region
    go_wp2
    go_ret
    exact ⟨rfl, hbl.drew⟩
end Go.Proofs.Ytboehlfdfpiodaa
