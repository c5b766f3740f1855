/- The walk of layer 1's bounded. -/
import Derived.Test.YtgbillimanpmnaaOrder
namespace Go.Proofs.Ytgbillimanpmnaa
open Go.RowKit

set_option maxHeartbeats 1000000 in
theorem bounded_any (B n : Nat) (U D : Nat → Nat) (w : World) (hn : n ≤ 8) (ho : OrdAt w B n U D) (hU : ∀ i, i < 8 → U i < 256) (hD : ∀ i, i < 8 → D i < 256) :
    Calls Try.prog 67 #[.pointer (some ⟨B, 0, none⟩)] w fun e w' => e = .returned (.bool (bddB n U D)) ∧ Below w.heap.size w w' := by
  have c0 := ho.size
  go_enter Try.func67, Try.ntmps67
  go_wp2
  go_loopw [9] (fun i wr => ∃ k : Nat, k ≤ n ∧ i = .int .i64 k ∧ (∀ a, a < k → ∀ b, b < a → okPair n U D a b = true) ∧ Below w.heap.size w wr) (fun i _ => n - (intOf i).toNat)
  case atStart => exact ⟨0, Nat.zero_le _, rfl, fun _ h => absurd h (Nat.not_lt_zero _), Below.refl _ _⟩
  case round =>
    obtain ⟨k, hk, rfl, hdone, hbl⟩ := hrel
    have HD : Hid (∀ a, a < k → ∀ b, b < a → okPair n U D a b = true) := hdone
    clear hdone c0
    by_cases hlt : k < n
    · go_wp2
      go_loopw [13] (fun i w2 => ∃ j : Nat, j ≤ k ∧ i = .int .i64 j ∧ (∀ b, b < j → okPair n U D k b = true) ∧ Below w.heap.size w w2) (fun i _ => k - (intOf i).toNat)
      case atStart => exact ⟨0, Nat.zero_le _, rfl, fun _ h => absurd h (Nat.not_lt_zero _), hbl⟩
      case round =>
        obtain ⟨j, hj, rfl, hdone2, hbl2⟩ := hrel
        have HD2 : Hid (∀ b, b < j → okPair n U D k b = true) := hdone2
        clear hdone2
        have ho2 := ho.kept hbl2
        by_cases hjk : j < k
        · have A1 : OrdAt (wr.alloc (.cells #[.int .i64 k, .int .i64 j] 3)) B n U D := ho2.kept ((Below.refl _ _).alloc (Nat.le_refl _) _)
          have C1 := cells2 wr (.int .i64 k) (.int .i64 j) 3
          cases h1 : (near2 n U k j == -1)
          · go_wp2_with fail
            refine (join2_any B n U D _ k j _ hn A1 hU (by omega) (by omega) C1.1 C1.2).mono ?_
            rintro e w3 ⟨rfl, hdr3⟩
            have hbl3 : Below w.heap.size w w3 := (hbl2.alloc hbl2.size _).trans (hdr3.below _)
            have ho3 := ho.kept hbl3
            clear hdr3 A1 C1
            have A2 : OrdAt (w3.alloc (.cells #[.int .i64 k, .int .i64 j] 3)) B n U D := ho3.kept ((Below.refl _ _).alloc (Nat.le_refl _) _)
            have C2 := cells2 w3 (.int .i64 k) (.int .i64 j) 3
            go_wp2_with fail
            refine (meet2_any B n U D _ k j _ hn A2 hD (by omega) (by omega) C2.1 C2.2).mono ?_
            rintro e w4 ⟨rfl, hdr4⟩
            have hbl4 : Below w.heap.size w w4 := (hbl3.alloc hbl3.size _).trans (hdr4.below _)
            clear hdr4 A2 C2
            cases h2 : (near2 n D k j == -1)
            · go_wp2
              go_roundw
              case rel =>
                refine ⟨j + 1, by omega, by go_num, fun b hb => ?_, hbl4⟩
                rcases Nat.lt_succ_iff_lt_or_eq.1 hb with h | h
                · exact HD2.out b h
                · subst h; simp [okPair, bne, h1, h2]
              case measure => simp [intOf]; omega
            · go_wp2
              go_ret
              exact ⟨ret_bool (bdd_no hlt hjk (by simp [okPair, bne, h2])).symm, hbl4⟩
          · go_wp2_with fail
            refine (join2_any B n U D _ k j _ hn A1 hU (by omega) (by omega) C1.1 C1.2).mono ?_
            rintro e w3 ⟨rfl, hdr3⟩
            have hbl3 : Below w.heap.size w w3 := (hbl2.alloc hbl2.size _).trans (hdr3.below _)
            clear hdr3 A1 C1
            go_wp2
            go_ret
            exact ⟨ret_bool (bdd_no hlt hjk (by simp [okPair, bne, h1])).symm, hbl3⟩
        · have e : j = k := by omega
          subst e
          go_wp2
          go_roundw
          case rel =>
            refine ⟨j + 1, by omega, by go_num, fun a ha b hb => ?_, hbl2⟩
            rcases Nat.lt_succ_iff_lt_or_eq.1 ha with h | h
            · exact HD.out a h b hb
            · subst h; exact HD2.out b hb
          case measure => simp [intOf]; omega
    · have e : k = n := by omega
      subst e
      go_wp2
      go_ret
      exact ⟨ret_bool (bdd_yes HD.out).symm, hbl⟩
end Go.Proofs.Ytgbillimanpmnaa
