/- Layer 4: what is written is read as it was; and where a byte lacks it isn't. -/
import Derived.Test.YtboehlfdfpiodaaBtWrite
namespace Go.Proofs.Ytboehlfdfpiodaa
open Go.RowKit

theorem tk_app (s : Nat) (a r : List Nat) (h : a.length = s) : tk s (some (a ++ r)) = a ∧ tkS s (some (a ++ r)) = some r := by
  subst h
  unfold tk tkS
  simp
theorem sgn_uns (N : Int) (h : -9223372036854775808 ≤ N ∧ N ≤ 9223372036854775807) : sgn (uns N % 256 ^ 8) = N := by
  have e : (256 : Nat) ^ 8 = 18446744073709551616 := by decide
  rw [e]
  unfold sgn uns
  split <;> omega
theorem long_back (N : Int) (h : -9223372036854775808 ≤ N ∧ N ≤ 9223372036854775807) (r : List Nat) : longV (some (be 8 (uns N) ++ r)) = N ∧ tkS 8 (some (be 8 (uns N) ++ r)) = some r := by
  obtain ⟨h1, h2⟩ := tk_app 8 (be 8 (uns N)) r (be_len _ _)
  refine ⟨?_, h2⟩
  unfold longV
  rw [h1, val_be, sgn_uns N h]
theorem short_back (n : Nat) (h : n < 65536) (r : List Nat) : shortV (some (be 2 n ++ r)) = n ∧ tkS 2 (some (be 2 n ++ r)) = some r := by
  obtain ⟨h1, h2⟩ := tk_app 2 (be 2 n) r (be_len _ _)
  refine ⟨?_, h2⟩
  unfold shortV
  rw [h1, val_be]
  exact Nat.mod_eq_of_lt h
theorem str_sL (S : ByteArray) : str (sL S) = S := by
  unfold str sL
  obtain ⟨d⟩ := S
  simp [Function.comp_def]
theorem text_back (S : ByteArray) (h : S.size < 65536) (r : List Nat) : textV (some (be 2 S.size ++ (sL S ++ r))) = S ∧ textS (some (be 2 S.size ++ (sL S ++ r))) = some r := by
  obtain ⟨h1, h2⟩ := short_back S.size h (sL S ++ r)
  obtain ⟨h3, h4⟩ := tk_app S.size (sL S) r (sL_len S)
  unfold textV textS
  rw [h1, h2, h3, h4]
  exact ⟨str_sL S, rfl⟩
theorem below_back (n : Nat) (h : n < 65536) (r : List Nat) : belowV 65536 (some (be 2 n ++ r)) = n ∧ belowS 65536 (some (be 2 n ++ r)) = some r := by
  obtain ⟨h1, h2⟩ := short_back n h r
  unfold belowV belowS
  rw [h1, h2]
  have hno : ¬ ((some r : Option (List Nat)).isNone = true ∨ (65536 : Int) ≤ n) := by rintro (h | h); cases h; omega
  exact ⟨if_neg hno, if_neg hno⟩

/- A reader that has failed. -/
theorem none_short : shortV none = 0 ∧ tkS 2 none = none := ⟨rfl, rfl⟩
theorem none_long : longV none = 0 ∧ tkS 8 none = none := ⟨rfl, rfl⟩
theorem none_text : textV none = ⟨#[]⟩ ∧ textS none = none := ⟨rfl, rfl⟩
theorem none_below (lim : Int) : belowV lim none = 0 ∧ belowS lim none = none := ⟨if_pos (Or.inl rfl), if_pos (Or.inl rfl)⟩

/-- What is written of a long and a text. -/
def cutL (N : Int) (S : ByteArray) : List Nat := be 8 (uns N) ++ (be 2 S.size ++ sL S)
theorem cutL_len (N : Int) (S : ByteArray) : (cutL N S).length = 8 + (2 + S.size) := by
  unfold cutL
  rw [List.length_append, List.length_append, be_len, be_len, sL_len]
theorem tk_less (s : Nat) (l : List Nat) (h : l.length < s) : tk s (some l) = [] ∧ tkS s (some l) = none := by
  unfold tk tkS
  dsimp only
  rw [if_neg (by omega), if_neg (by omega)]
  exact ⟨rfl, rfl⟩
theorem cut_low (N : Int) (S : ByteArray) (k : Nat) (hk : k < 8) : longV (some ((cutL N S).take k)) = 0 ∧ tkS 8 (some ((cutL N S).take k)) = none := by
  obtain ⟨h1, h2⟩ := tk_less 8 ((cutL N S).take k) (by rw [List.length_take]; omega)
  refine ⟨?_, h2⟩
  unfold longV
  rw [h1]
  rfl
theorem cut_high (N : Int) (h : -9223372036854775808 ≤ N ∧ N ≤ 9223372036854775807) (S : ByteArray) (k : Nat) (hk : 8 ≤ k) :
    longV (some ((cutL N S).take k)) = N ∧ tkS 8 (some ((cutL N S).take k)) = some ((be 2 S.size ++ sL S).take (k - 8)) := by
  have e : (cutL N S).take k = be 8 (uns N) ++ (be 2 S.size ++ sL S).take (k - 8) := by
    unfold cutL
    rw [List.take_append, List.take_of_length_le (by rw [be_len]; exact hk), be_len]
  rw [e]
  exact long_back N h _
theorem cut_text (S : ByteArray) (h : S.size < 65536) (k : Nat) (hk : k < 2 + S.size) : textV (some ((be 2 S.size ++ sL S).take k)) = ⟨#[]⟩ ∧ textS (some ((be 2 S.size ++ sL S).take k)) = none := by
  by_cases h2 : k < 2
  · obtain ⟨h3, h4⟩ := tk_less 2 ((be 2 S.size ++ sL S).take k) (by rw [List.length_take]; omega)
    have h5 : shortV (some ((be 2 S.size ++ sL S).take k)) = 0 := by unfold shortV; rw [h3]; rfl
    unfold textV textS
    rw [h5, h4]
    exact ⟨rfl, rfl⟩
  · have e : (be 2 S.size ++ sL S).take k = be 2 S.size ++ (sL S).take (k - 2) := by
      rw [List.take_append, List.take_of_length_le (by rw [be_len]; omega), be_len]
    rw [e]
    obtain ⟨h3, h4⟩ := short_back S.size h ((sL S).take (k - 2))
    obtain ⟨h5, h6⟩ := tk_less S.size ((sL S).take (k - 2)) (by rw [List.length_take, sL_len]; omega)
    unfold textV textS
    rw [h3, h4, h5, h6]
    exact ⟨rfl, rfl⟩
end Go.Proofs.Ytboehlfdfpiodaa
