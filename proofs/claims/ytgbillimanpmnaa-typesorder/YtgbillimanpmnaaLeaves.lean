/- Walks of the leaves of layer 1's code: letter, digit, has, all, nearest. -/
import Derived.Test.YtgbillimanpmnaaRows
import Derived.Test.YtgbillimanpmnaaMath
import Derived.WalkKit
import Derived.WalkSpells
import Derived.WalkLawsBesides
import Derived.Deep.QuietTactic
import Derived.BigQuiet
namespace Go.Proofs.Ytgbillimanpmnaa
open Go.RowKit

set_option maxHeartbeats 400000 in
theorem letter_any (r : Int) (w : World) :
    Calls Try.prog 85 #[.int .i32 r] w fun e w' => e = .returned (.bool (letterB r)) ∧ w' = w := by
  go_enter Try.func85, Try.ntmps85
  go_wp2
  all_goals (go_ret; exact ⟨ret_bool (by unfold letterB; rw [Bool.eq_iff_iff]; simp; omega), rfl⟩)

set_option maxHeartbeats 400000 in
theorem digit_any (r : Int) (w : World) :
    Calls Try.prog 86 #[.int .i32 r] w fun e w' => e = .returned (.bool (digitB r)) ∧ w' = w := by
  go_enter Try.func86, Try.ntmps86
  go_wp2
  all_goals (go_ret; exact ⟨ret_bool (by unfold digitB; rw [Bool.eq_iff_iff]; simp; try omega), rfl⟩)

set_option maxHeartbeats 400000 in
theorem has_any (x a : Nat) (hx : x < 256) (ha : a < 8) (w : World) :
    Calls Try.prog 82 #[.int .u64 x, .int .i64 a] w fun e w' => e = .returned (.bool (x.testBit a)) ∧ w' = w := by
  go_enter Try.func82, Try.ntmps82
  go_wp2
  go_ret
  exact ⟨ret_bool ((has_bit x a).resolve_right (by omega)), rfl⟩

set_option maxHeartbeats 400000 in
theorem all_any (B n : Nat) (hn : n ≤ 8) (w : World) (hc : w.cell? ⟨B, 0, none⟩ = some (.int .i64 n)) :
    Calls Try.prog 79 #[.pointer (some ⟨B, 0, none⟩)] w fun e w' => e = .returned (.int .u64 ((2 ^ n - 1 : Nat) : Int)) ∧ w' = w := by
  go_enter Try.func79, Try.ntmps79
  have e1 : IntKind.u64.wrap (IntKind.u64.wrap (2 ^ n) - 1) = ((2 ^ n - 1 : Nat) : Int) := by
    have hp : (2 : Nat) ^ n ≤ 256 := Nat.pow_le_pow_right (n := 2) (by omega) hn
    have hp1 : 1 ≤ (2 : Nat) ^ n := Nat.one_le_two_pow
    have hc : ((2 : Int) ^ n) = ((2 ^ n : Nat) : Int) := by simp
    rw [hc, IntKind.wrap_u64, IntKind.wrap_u64]
    omega
  have H : Hid (IntKind.u64.wrap (IntKind.u64.wrap (2 ^ n) - 1) = ((2 ^ n - 1 : Nat) : Int)) := e1
  clear e1
  go_wp2
  go_ret
  exact ⟨ret_int H.out, rfl⟩

set_option maxHeartbeats 400000 in
theorem nearest_any (x : Nat) (B o : Nat) (R : Nat → Nat) (la : Option Addr) (lb lo ll lc : Nat) (ls : Nat → Nat) (w : World)
    (hx : x < 256) (hR : ∀ i, i < 8 → R i < 256) (hcR : ∀ i, i < 8 → w.cell? ⟨B, o + i, none⟩ = some (.int .u64 (R i)))
    (hla : 0 < ll → la = some ⟨lb, lo, none⟩) (hll : ll ≤ 8) (hls : ∀ j, j < ll → ls j < 8) (hcl : ∀ j, j < ll → w.cell? ⟨lb, lo + j, none⟩ = some (.int .i64 (ls j))) :
    Calls Try.prog 78 #[.int .u64 x, .pointer (some ⟨B, o, none⟩), .slice la ll lc] w fun e w' => e = .returned (.int .i64 (near R (andAll R ls ll x))) ∧ ∃ n, w' = w.drewN n := by
  go_enter Try.func78, Try.ntmps78
  go_wp2
  go_loop [0, 13] (fun b i => ∃ k : Nat, k ≤ ll ∧ i = .int .i64 k ∧ b = .int .u64 (andAll R ls k x)) (fun _ i => ll - (intOf i).toNat)
  case atStart => exact ⟨0, Nat.zero_le _, rfl, rfl⟩
  case round =>
    obtain ⟨k, hk, rfl, rfl⟩ := hrel
    by_cases hlt : k < ll
    · have h1 := hls k hlt
      have h2 := hcl k hlt
      have h3 := hla (by omega)
      have h4 := hcR _ h1
      have h5 := and_u8 _ _ (andAll_lt R ls k x hx) (hR _ h1)
      subst h3
      go_wp2
      go_round
      case rel => exact ⟨k + 1, by omega, by go_num, rfl⟩
      case measure => simp [intOf]; omega
    · have e : k = ll := by omega
      subst e
      clear hlt
      have hlt : ¬ k < k := by omega
      have hb := andAll_lt R ls k x hx
      generalize hy : andAll R ls k x = y at *
      have HY : Hid (andAll R ls k x = y) := hy
      clear hy
      go_wp2
      go_loopw [26] (fun i wr => ∃ j : Nat, j ≤ 8 ∧ i = .int .i64 j ∧ near R y = nearFrom R y (8 - j) j ∧ ∃ n, wr = w.drewN n) (fun i _ => 8 - (intOf i).toNat)
      case atStart => exact ⟨0, by omega, rfl, rfl, 0, rfl⟩
      case round =>
        obtain ⟨j, hj, rfl, hnear, nw, rfl⟩ := hrel
        have HN : Hid (near R y = nearFrom R y (8 - j) j) := hnear
        clear hnear
        by_cases hj8 : j < 8
        · have g1 := hcR j hj8
          have g2 := hR j hj8
          have g3 := andNot_zero y (R j) hb g2
          go_wp2
          go_quiet (fail)
          go_wp2_with (go_at_call 82; refine (has_any y j hb hj8 _).mono ?_; rintro e w' ⟨rfl, rfl⟩)
          · go_ret
            have t1 : y.testBit j = true := by assumption
            have t2 : (y &&& R j == y) = true := by assumption
            exact ⟨ret_int (by rw [HY.out, HN.out, near_hit hj8 t1 t2]), _, rfl⟩
          · go_roundw
            case rel =>
              have t2 : (y &&& R j == y) = false := by assumption
              exact ⟨j + 1, by omega, by go_num, by rw [HN.out]; exact near_miss hj8 (by rw [t2]; simp), _, rfl⟩
            case measure => simp [intOf]; omega
          · go_roundw
            case rel =>
              have t2 : ¬ y.testBit j = true := by assumption
              exact ⟨j + 1, by omega, by go_num, by rw [HN.out]; exact near_miss hj8 (by simp [t2]), _, rfl⟩
            case measure => simp [intOf]; omega
        · have e : j = 8 := by omega
          subst e
          go_wp2
          go_ret
          exact ⟨ret_int (by rw [HY.out, HN.out]; rfl), _, rfl⟩
end Go.Proofs.Ytgbillimanpmnaa
