/- The walk of layer 1's Name. -/
import Derived.Test.YtgbillimanpmnaaReads
namespace Go.Proofs.Ytgbillimanpmnaa
open Go.RowKit

/-- No name goes on so. -/
def badRune (n : Nat) (r : Int) : Bool := n == 16 || (!letterB r && (n == 0 || !digitB r))
/-- Name, from a place on, n runes being read; at most 'fuel' runes more. -/
def nameFrom (s : ByteArray) : Nat → Nat → Nat → Bool
  | 0, _, _ => false
  | f + 1, pos, n => if pos < s.size then (if badRune n (Utf8.decode s pos).1 then false else nameFrom s f (pos + (Utf8.decode s pos).2) (n + 1)) else decide (0 < n)
def nameB (s : ByteArray) : Bool := nameFrom s 17 0 0

theorem nameFrom_bad {s : ByteArray} {pos n : Nat} (hn : n ≤ 16) (hp : pos < s.size) (h : badRune n (Utf8.decode s pos).1 = true) : nameFrom s (17 - n) pos n = false := by
  obtain ⟨m, hm⟩ : ∃ m, 17 - n = m + 1 := ⟨16 - n, by omega⟩
  rw [hm, nameFrom, if_pos hp, h]; rfl
theorem nameFrom_good {s : ByteArray} {pos n : Nat} (hn : n ≤ 16) (hp : pos < s.size) (h : badRune n (Utf8.decode s pos).1 = false) : nameFrom s (17 - n) pos n = nameFrom s (17 - (n + 1)) (pos + (Utf8.decode s pos).2) (n + 1) := by
  obtain ⟨m, hm⟩ : ∃ m, 17 - n = m + 1 := ⟨16 - n, by omega⟩
  rw [hm, nameFrom, if_pos hp, h, show 17 - (n + 1) = m by omega]; rfl
theorem nameFrom_end {s : ByteArray} {pos n : Nat} (hn : n ≤ 16) (hp : ¬ pos < s.size) : nameFrom s (17 - n) pos n = decide (0 < n) := by
  obtain ⟨m, hm⟩ : ∃ m, 17 - n = m + 1 := ⟨16 - n, by omega⟩
  rw [hm, nameFrom, if_neg hp]

set_option maxHeartbeats 1000000 in
theorem name_any (s : ByteArray) (w : World) :
    Calls Try.prog 80 #[.string s] w fun e w' => e = .returned (.bool (nameB s)) ∧ Below w.heap.size w w' := by
  go_enter Try.func80, Try.ntmps80
  go_wp2
  go_loopw [3] (fun t wr => ∃ n pos : Nat, n ≤ 16 ∧ t = .int .i64 n ∧ nameB s = nameFrom s (17 - n) pos n ∧ wr = w.iter s pos) (fun t _ => 17 - (intOf t).toNat)
  case atStart => exact ⟨0, 0, by omega, rfl, rfl, rfl⟩
  case round =>
    obtain ⟨n, pos, hn, rfl, hname, rfl⟩ := hrel
    have HN : Hid (nameB s = nameFrom s (17 - n) pos n) := hname
    clear hname
    have hbl : Below w.heap.size w (w.iter s pos) := (Below.refl _ _).alloc (Nat.le_refl _) _
    by_cases hlt : pos < s.size
    · have hnx := fun ty => run_next_any (P := Try.prog) w s pos ty hlt
      have hbl2 : Below w.heap.size w (w.iter s (pos + (Utf8.decode s pos).2)) := (Below.refl _ _).alloc (Nat.le_refl _) _
      have FB : Hid (badRune n (Utf8.decode s pos).1 = true → nameB s = false) := fun h => HN.out.trans (nameFrom_bad hn hlt h)
      have FG : Hid (badRune n (Utf8.decode s pos).1 = false → nameB s = nameFrom s (17 - (n + 1)) (pos + (Utf8.decode s pos).2) (n + 1)) := fun h => HN.out.trans (nameFrom_good hn hlt h)
      clear HN
      by_cases h16 : n = 16
      · subst h16
        go_wp2
        go_ret
        exact ⟨ret_bool (FB.out rfl).symm, hbl2⟩
      · have hb16 : ((n : Int) == 16) = false := beq_eq_false_iff_ne.2 (by omega)
        have hb16' : (n == 16) = false := beq_eq_false_iff_ne.2 h16
        have HB : Hid ((n == 16) = false) := hb16'
        clear hb16'
        go_wp2_with (first
          | (go_at_call 85; refine (letter_any _ _).mono ?_; rintro e w' ⟨rfl, rfl⟩)
          | (go_at_call 86; refine (digit_any _ _).mono ?_; rintro e w' ⟨rfl, rfl⟩))
        · have t1 : letterB (Utf8.decode s pos).1 = true := by assumption
          go_roundw
          case rel => exact ⟨n + 1, _, by omega, by go_num, FG.out (by simp [badRune, HB.out, t1]), rfl⟩
          case measure => simp [intOf]; omega
        · have t1 : ¬ letterB (Utf8.decode s pos).1 = true := by assumption
          have t2 : n = 0 := by assumption
          go_ret
          exact ⟨ret_bool (FB.out (by simp [badRune, t1, t2])).symm, hbl2⟩
        · have t1 : ¬ letterB (Utf8.decode s pos).1 = true := by assumption
          have t2 : ¬ n = 0 := by assumption
          have t3 : ((n : Int) == 0) = true ∨ (!digitB (Utf8.decode s pos).1) = true := by assumption
          go_ret
          refine ⟨ret_bool (FB.out ?_).symm, hbl2⟩
          rcases t3 with t3 | t3
          · exact absurd (by simpa using t3) t2
          · simp [badRune, t1, t3]
        · have t1 : ¬ letterB (Utf8.decode s pos).1 = true := by assumption
          have t2 : ¬ n = 0 := by assumption
          have t3 : ((n : Int) == 0) = false ∧ (!digitB (Utf8.decode s pos).1) = false := by assumption
          have t4 : digitB (Utf8.decode s pos).1 = true := by simpa using t3.2
          go_roundw
          case rel => exact ⟨n + 1, _, by omega, by go_num, FG.out (by simp [badRune, HB.out, t4, beq_eq_false_iff_ne.2 t2]), rfl⟩
          case measure => simp [intOf]; omega
    · have hnx := fun ty => run_next_end (P := Try.prog) w s pos ty hlt
      go_wp2
      go_ret
      exact ⟨ret_bool (HN.out.trans (nameFrom_end hn hlt)).symm, hbl⟩
end Go.Proofs.Ytgbillimanpmnaa
