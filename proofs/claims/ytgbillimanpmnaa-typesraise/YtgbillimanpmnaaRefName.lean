/- The walk of the reference's Name: it tells just what the program's Name tells. -/
import Derived.Test.YtgbillimanpmnaaName
namespace Go.Proofs.Ytgbillimanpmnaa
open Go.RowKit

set_option maxHeartbeats 400000 in
theorem rletter_any (r : Int) (w : World) :
    Calls Try.prog 84 #[.int .i32 r] w fun e w' => e = .returned (.bool (letterB r)) ∧ w' = w := by
  go_enter Try.func84, Try.ntmps84
  go_wp2
  all_goals (go_ret; exact ⟨ret_bool (by unfold letterB; rw [Bool.eq_iff_iff]; simp; omega), rfl⟩)

theorem rletter_is (r : Int) (b : Bool) (h : letterB r = b) (w : World) :
    Calls Try.prog 84 #[.int .i32 r] w fun e w' => e = .returned (.bool b) ∧ w' = w := by
  subst h; exact rletter_any r w
theorem digit_no {r : Int} (h : r < 48 ∨ 57 < r) : digitB r = false := by
  unfold digitB; rw [Bool.and_eq_false_iff, decide_eq_false_iff_not, decide_eq_false_iff_not]; omega
theorem letter_hi {r : Int} (h : 128 ≤ r) (h2 : r < 945) : letterB r = false := by
  unfold letterB
  simp only [Bool.or_eq_false_iff, Bool.and_eq_false_iff, decide_eq_false_iff_not]
  omega

theorem letter_gr {r : Int} (h : 945 ≤ r) (h2 : r ≤ 969) : letterB r = true := by
  unfold letterB
  simp only [Bool.or_eq_true, Bool.and_eq_true, decide_eq_true_eq]
  omega

theorem get_plain (s : ByteArray) (i : Nat) (h : i < s.size) : s.get! i = s[i]'h := get_at s i h

/-- The rest of a name, k runes being read. -/
def restB (s : ByteArray) (i k : Nat) : Bool := if k ≤ 16 then nameFrom s (17 - k) i k else false

theorem rest_bad {s : ByteArray} {i k : Nat} (hi : i < s.size) (h : badRune k (Utf8.decode s i).1 = true) : restB s i k = false := by
  unfold restB
  split
  · exact nameFrom_bad (by assumption) hi h
  · rfl
theorem rest_good {s : ByteArray} {i k : Nat} (hi : i < s.size) (h : letterB (Utf8.decode s i).1 = true ∨ (k ≠ 0 ∧ digitB (Utf8.decode s i).1 = true)) : restB s i k = restB s (i + (Utf8.decode s i).2) (k + 1) := by
  by_cases h16 : k < 16
  · have hb : badRune k (Utf8.decode s i).1 = false := by
      unfold badRune
      rw [beq_eq_false_iff_ne.2 (show k ≠ 16 by omega)]
      rcases h with h | ⟨hk, h⟩
      · rw [h]; rfl
      · rw [h, beq_eq_false_iff_ne.2 hk]; simp
    unfold restB
    rw [if_pos (by omega), if_pos (by omega)]
    exact nameFrom_good (by omega) hi hb
  · have e1 : restB s i k = false := by
      by_cases e : k = 16
      · subst e; exact rest_bad hi (by simp [badRune])
      · unfold restB; rw [if_neg (by omega)]
    have e2 : restB s (i + (Utf8.decode s i).2) (k + 1) = false := by unfold restB; rw [if_neg (by omega)]
    rw [e1, e2]
theorem rest_end {s : ByteArray} {i k : Nat} (hi : ¬ i < s.size) : restB s i k = (decide (1 ≤ k) && decide (k ≤ 16)) := by
  unfold restB
  by_cases h : k ≤ 16
  · rw [if_pos h, nameFrom_end h hi]; simp [h]; rfl
  · rw [if_neg h]; simp [h]

theorem bad_of {k : Nat} {r : Int} (h1 : letterB r = false) (h2 : k = 0 ∨ digitB r = false) : badRune k r = true := by
  unfold badRune
  rcases h2 with rfl | h2
  · simp [h1]
  · simp [h1, h2]

theorem decode_ge {s : ByteArray} {i : Nat} (hi : i < s.size) (hb : 128 ≤ (s[i]'hi).toNat) (h : ¬ (∃ h1 : i + 1 < s.size, ((s[i]'hi).toNat = 206 ∧ 177 ≤ (s[i + 1]'h1).toNat ∧ (s[i + 1]'h1).toNat ≤ 191) ∨ ((s[i]'hi).toNat = 207 ∧ 128 ≤ (s[i + 1]'h1).toNat ∧ (s[i + 1]'h1).toNat ≤ 137))) :
    letterB (Utf8.decode s i).1 = false ∧ digitB (Utf8.decode s i).1 = false := by
  have hr := (decode_high s i hi hb).1
  have hd : digitB ((Utf8.decode s i).1 : Nat) = false := by unfold digitB; rw [Bool.and_eq_false_iff, decide_eq_false_iff_not, decide_eq_false_iff_not]; omega
  refine ⟨?_, hd⟩
  have key : ¬ (945 ≤ (Utf8.decode s i).1 ∧ (Utf8.decode s i).1 ≤ 969) := by
    intro hc
    have e0 : (s.get! (i + 0)).toNat = (s[i]'hi).toNat := by rw [get_at s i hi]
    simp only [Utf8.decode, e0] at hc
    rw [if_neg (by omega)] at hc
    split at hc
    · rename_i hcond
      simp only [Bool.and_eq_true, decide_eq_true_eq, beq_iff_eq] at hcond
      obtain ⟨q1, q2, q3⟩ := hcond
      have e1 : (s.get! (i + 1)).toNat = (s[i + 1]'q2).toNat := by rw [get_plain s (i + 1) q2]
      rw [e1] at q3 hc
      split at hc
      · refine h ⟨q2, ?_⟩
        have := hc
        simp only at this
        omega
      · simp [Utf8.runeError] at hc
    · split at hc
      · split at hc
        · rename_i hcond
          simp only [Bool.and_eq_true, decide_eq_true_eq] at hcond
          simp only at hc
          omega
        · simp [Utf8.runeError] at hc
      · split at hc
        · split at hc
          · rename_i hcond
            simp only [Bool.and_eq_true, decide_eq_true_eq] at hcond
            simp only at hc
            omega
          · simp [Utf8.runeError] at hc
        · simp [Utf8.runeError] at hc
  unfold letterB
  simp only [Bool.or_eq_false_iff, Bool.and_eq_false_iff, decide_eq_false_iff_not]
  omega

theorem decode_greek {s : ByteArray} {i : Nat} (hi : i < s.size) (h1 : i + 1 < s.size) (h : ((s[i]'hi).toNat = 206 ∧ 177 ≤ (s[i + 1]'h1).toNat ∧ (s[i + 1]'h1).toNat ≤ 191) ∨ ((s[i]'hi).toNat = 207 ∧ 128 ≤ (s[i + 1]'h1).toNat ∧ (s[i + 1]'h1).toNat ≤ 137)) :
    Utf8.decode s i = (((s[i]'hi).toNat - 192) * 64 + ((s[i + 1]'h1).toNat - 128), 2) := by
  have e0 : (s.get! (i + 0)).toNat = (s[i]'hi).toNat := by rw [get_at s i hi]
  have e1 : (s.get! (i + 1)).toNat = (s[i + 1]'h1).toNat := by rw [get_plain s (i + 1) h1]
  simp only [Utf8.decode, e0, e1]
  rw [if_neg (by omega), if_pos (by simp only [Bool.and_eq_true, decide_eq_true_eq, beq_iff_eq]; omega), if_pos (by omega)]
  refine Prod.ext ?_ rfl
  show (s[i]'hi).toNat % 32 * 64 + (s[i + 1]'h1).toNat % 64 = _
  omega

set_option maxRecDepth 100000 in
set_option maxHeartbeats 2000000 in
theorem rname_any (s : ByteArray) (w : World) (hs : s.size ≤ 9223372036854775807) :
    Calls Try.prog 71 #[.string s] w fun e w' => e = .returned (.bool (nameB s)) ∧ w' = w := by
  go_enter Try.func71, Try.ntmps71
  go_wp2
  go_loop [3, 4] (fun n i => ∃ k j : Nat, j ≤ s.size ∧ k ≤ j ∧ (k = 0 → j = 0) ∧ n = .int .i64 k ∧ i = .int .i64 j ∧ nameB s = restB s j k) (fun _ i => s.size - (intOf i).toNat)
  case atStart => exact ⟨0, 0, Nat.zero_le _, Nat.le_refl _, fun _ => rfl, rfl, rfl, rfl⟩
  case round =>
    obtain ⟨k, j, hj, hkj, hz, rfl, rfl, hrest⟩ := hrel
    have HR : Hid (nameB s = restB s j k) := hrest
    have HZ : Hid (k = 0 → j = 0) := hz
    clear hrest hz
    by_cases hlt : j < s.size
    · have bl := (s[j]'hlt).toNat_lt
      by_cases hb : (s[j]'hlt).toNat < 128
      · have hd := decode_ascii s j hlt hb
        have HG : Hid (letterB ((s[j]'hlt).toNat : Nat) = true ∨ (k ≠ 0 ∧ digitB ((s[j]'hlt).toNat : Nat) = true) → nameB s = restB s (j + 1) (k + 1)) := fun h => by
          have := rest_good (k := k) hlt (by rw [hd]; exact h)
          rw [hd] at this
          exact HR.out.trans this
        have HB : Hid (letterB ((s[j]'hlt).toNat : Nat) = false → (k = 0 ∨ digitB ((s[j]'hlt).toNat : Nat) = false) → nameB s = false) := fun h1 h2 => HR.out.trans (rest_bad hlt (by rw [hd]; exact bad_of h1 h2))
        clear HR hd
        go_wp2_with (go_at_call 84; refine (rletter_any _ _).mono ?_; rintro e w' ⟨rfl, rfl⟩)
        · have t1 : letterB ((s[j]'hlt).toNat : Nat) = true := by assumption
          go_round
          case rel => exact ⟨k + 1, j + 1, by omega, by omega, fun h => by omega, by go_num, by go_num, HG.out (Or.inl t1)⟩
          case measure => simp [intOf]; omega
        · have t1 : ¬ letterB ((s[j]'hlt).toNat : Nat) = true := by assumption
          have t2 : j = 0 := by assumption
          go_ret
          exact ⟨ret_bool (HB.out (by simpa using t1) (Or.inl (by omega))).symm, rfl⟩
        · have t1 : ¬ letterB ((s[j]'hlt).toNat : Nat) = true := by assumption
          have t2 : (((j : Int) == 0) = true ∨ ((s[j]'hlt).toNat : Int) < 48) ∨ (57 : Int) < ((s[j]'hlt).toNat : Int) := by assumption
          have t3 : ¬ j = 0 := by assumption
          go_ret
          refine ⟨ret_bool (HB.out (by simpa using t1) (Or.inr (digit_no ?_))).symm, rfl⟩
          rcases t2 with (t2 | t2) | t2
          · exact absurd (by simpa using t2) t3
          · exact Or.inl t2
          · exact Or.inr t2
        · have t2 : (((j : Int) == 0) = false ∧ (48 : Int) ≤ ((s[j]'hlt).toNat : Int)) ∧ ((s[j]'hlt).toNat : Int) ≤ 57 := by assumption
          have t3 : ¬ j = 0 := by assumption
          go_round
          case rel => exact ⟨k + 1, j + 1, by omega, by omega, fun h => by omega, by go_num, by go_num, HG.out (Or.inr ⟨fun h => t3 (HZ.out h), by unfold digitB; rw [Bool.and_eq_true, decide_eq_true_eq, decide_eq_true_eq]; omega⟩)⟩
          case measure => simp [intOf]; omega
        · have t1 : ¬ letterB ((s[j]'hlt).toNat : Nat) = true := by assumption
          have t2 : ((s[j]'hlt).toNat : Int) < 48 := by assumption
          go_ret
          exact ⟨ret_bool (HB.out (by simpa using t1) (Or.inr (digit_no (Or.inl t2)))).symm, rfl⟩
      · by_cases hg : ∃ h1 : j + 1 < s.size, ((s[j]'hlt).toNat = 206 ∧ 177 ≤ (s[j + 1]'h1).toNat ∧ (s[j + 1]'h1).toNat ≤ 191) ∨ ((s[j]'hlt).toNat = 207 ∧ 128 ≤ (s[j + 1]'h1).toNat ∧ (s[j + 1]'h1).toNat ≤ 137)
        · obtain ⟨h1, hg⟩ := hg
          have hd := decode_greek hlt h1 hg
          have bl1 := (s[j + 1]'h1).toNat_lt
          rcases hg with ⟨q1, q2, q3⟩ | ⟨q1, q2, q3⟩
          · rw [q1] at hd
            have HG : Hid (nameB s = restB s (j + 2) (k + 1)) := by
              have := rest_good (k := k) hlt (Or.inl (by rw [hd]; exact letter_gr (by show (945 : Int) ≤ _; simp only; omega) (by simp only; omega)))
              rw [hd] at this
              exact HR.out.trans this
            have nl : letterB (896 + (((s[j + 1]'h1).toNat : Int) - 128)) = true := letter_gr (by omega) (by omega)
            clear HR hd
            go_wp2_with (go_at_call 84; refine (rletter_is _ true nl _).mono ?_; rintro e w' ⟨rfl, rfl⟩)
            go_round
            case rel => exact ⟨k + 1, j + 2, by omega, by omega, fun h => by omega, by go_num, by go_num, HG.out⟩
            case measure => simp [intOf]; omega
          · rw [q1] at hd
            have HG : Hid (nameB s = restB s (j + 2) (k + 1)) := by
              have := rest_good (k := k) hlt (Or.inl (by rw [hd]; exact letter_gr (by show (945 : Int) ≤ _; simp only; omega) (by simp only; omega)))
              rw [hd] at this
              exact HR.out.trans this
            have nl : letterB (960 + (((s[j + 1]'h1).toNat : Int) - 128)) = true := letter_gr (by omega) (by omega)
            clear HR hd
            go_wp2_with (go_at_call 84; refine (rletter_is _ true nl _).mono ?_; rintro e w' ⟨rfl, rfl⟩)
            go_round
            case rel => exact ⟨k + 1, j + 2, by omega, by omega, fun h => by omega, by go_num, by go_num, HG.out⟩
            case measure => simp [intOf]; omega
        · have hd := decode_ge hlt (by omega) hg
          have HN : Hid (nameB s = false) := HR.out.trans (rest_bad hlt (bad_of hd.1 (Or.inr hd.2)))
          have nl : letterB ((s[j]'hlt).toNat : Nat) = false := letter_hi (by omega) (by omega)
          clear HR hd
          by_cases h1 : j + 1 < s.size
          · have bl1 := (s[j + 1]'h1).toNat_lt
            have hg' : ¬ (((s[j]'hlt).toNat = 206 ∧ 177 ≤ (s[j + 1]'h1).toNat ∧ (s[j + 1]'h1).toNat ≤ 191) ∨ ((s[j]'hlt).toNat = 207 ∧ 128 ≤ (s[j + 1]'h1).toNat ∧ (s[j + 1]'h1).toNat ≤ 137)) := fun h => hg ⟨h1, h⟩
            clear hg
            have HG : Hid (¬ (((s[j]'hlt).toNat = 206 ∧ 177 ≤ (s[j + 1]'h1).toNat ∧ (s[j + 1]'h1).toNat ≤ 191) ∨ ((s[j]'hlt).toNat = 207 ∧ 128 ≤ (s[j + 1]'h1).toNat ∧ (s[j + 1]'h1).toNat ≤ 137))) := hg'
            clear hg'
            by_cases e6 : (s[j]'hlt).toNat = 206
            · have f7 : (s[j + 1]'h1).toNat < 177 ∨ 191 < (s[j + 1]'h1).toNat := by have := HG.out; omega
              have b6 : (((s[j]'hlt).toNat : Int) == 206) = true := beq_iff_eq.2 (by omega)
              have b7 : (((s[j]'hlt).toNat : Int) == 207) = false := beq_eq_false_iff_ne.2 (by omega)
              clear e6
              rcases f7 with f7 | f7
              all_goals
                go_wp2_with (go_at_call 84; refine (rletter_is _ false nl _).mono ?_; rintro e w' ⟨rfl, rfl⟩)
                all_goals (go_ret; exact ⟨ret_bool HN.out.symm, rfl⟩)
            · have b6 : (((s[j]'hlt).toNat : Int) == 206) = false := beq_eq_false_iff_ne.2 (by omega)
              by_cases e7 : (s[j]'hlt).toNat = 207
              · have f7 : (s[j + 1]'h1).toNat < 128 ∨ 137 < (s[j + 1]'h1).toNat := by have := HG.out; omega
                have b7 : (((s[j]'hlt).toNat : Int) == 207) = true := beq_iff_eq.2 (by omega)
                clear e6 e7
                rcases f7 with f7 | f7
                all_goals
                  go_wp2_with (go_at_call 84; refine (rletter_is _ false nl _).mono ?_; rintro e w' ⟨rfl, rfl⟩)
                  all_goals (go_ret; exact ⟨ret_bool HN.out.symm, rfl⟩)
              · have b7 : (((s[j]'hlt).toNat : Int) == 207) = false := beq_eq_false_iff_ne.2 (by omega)
                clear e6 e7
                go_wp2_with (go_at_call 84; refine (rletter_is _ false nl _).mono ?_; rintro e w' ⟨rfl, rfl⟩)
                all_goals (go_ret; exact ⟨ret_bool HN.out.symm, rfl⟩)
          · clear hg
            go_wp2
            go_ret
            exact ⟨ret_bool HN.out.symm, rfl⟩
    · have HE : Hid (nameB s = (decide (1 ≤ k) && decide (k ≤ 16))) := HR.out.trans (rest_end hlt)
      go_wp2
      · have t : (1 : Int) ≤ k := by assumption
        go_ret
        exact ⟨ret_bool (by rw [HE.out, decide_eq_true (show 1 ≤ k by omega), Bool.true_and]; exact decide_eq_decide.2 (by omega)), rfl⟩
      · have t : (k : Int) < 1 := by assumption
        go_ret
        exact ⟨ret_bool (by rw [HE.out, decide_eq_false (show ¬ 1 ≤ k by omega)]; rfl), rfl⟩
end Go.Proofs.Ytgbillimanpmnaa
