/- Layer 5: runes of a text, and its bytes. -/
import Derived.Test.YtcoeefckldkbeaaGreatDoorP21
import Derived.Test.YtcoeefckldkbeaaGreatDoorP1
import Derived.Test.YtcoeefckldkbeaaGreatDoorP8
import Derived.Deep.MidRow
import Derived.Lib.SmallJoins
import Derived.Deep.RegionHeld3
namespace Go.Proofs.YtcoeefckldkbeaaGreatDoor
open Go.RowKit

def bs (s : ByteArray) : List UInt8 := s.data.toList
theorem bs_len (s : ByteArray) : (bs s).length = s.size := by unfold bs; simp
theorem bs_get (s : ByteArray) (i : Nat) (h : i < s.size) : (bs s)[i]'(by rw [bs_len]; exact h) = s[i]'h := by
  unfold bs; simp; rfl
theorem bs_drop (s : ByteArray) (i : Nat) (h : i < s.size) : (bs s).drop i = s[i]'h :: (bs s).drop (i + 1) := by
  rw [List.drop_eq_getElem_cons (by rw [bs_len]; exact h), bs_get]
theorem bs_end (s : ByteArray) (i : Nat) (h : ¬ i < s.size) : (bs s).drop i = [] := List.drop_eq_nil_of_le (by rw [bs_len]; omega)

theorem al_letter {c : UInt8} (h : c.toNat < 128) : letterB (c.toNat : Nat) = al c := by
  rw [Bool.eq_iff_iff, al_iff]; unfold letterB
  simp only [Bool.or_eq_true, Bool.and_eq_true, decide_eq_true_eq]
  omega
theorem dig_digit (c : UInt8) : digitB (c.toNat : Nat) = dig c := by
  rw [Bool.eq_iff_iff, dig_iff]; unfold digitB
  simp only [Bool.and_eq_true, decide_eq_true_eq]
  omega
theorem al_high {c : UInt8} (h : ¬ c.toNat < 128) : al c = false ∧ dig c = false := by
  constructor
  · rw [← Bool.not_eq_true, al_iff]; omega
  · rw [← Bool.not_eq_true, dig_iff]; omega
theorem gk_low {c d : UInt8} (h : c.toNat < 128) : gk c d = false := by
  rw [← Bool.not_eq_true, gk_iff]; omega

/-- What a rune is, by its bytes. -/
theorem rune_low {s : ByteArray} {i : Nat} (hi : i < s.size) (h : (s[i]'hi).toNat < 128) : Utf8.decode s i = ((s[i]'hi).toNat, 1) := decode_ascii s i hi h
theorem rune_gk {s : ByteArray} {i : Nat} (hi : i < s.size) (h1 : i + 1 < s.size) (h : gk (s[i]'hi) (s[i + 1]'h1) = true) : (Utf8.decode s i).2 = 2 ∧ letterB (Utf8.decode s i).1 = true := by
  have hg := (gk_iff _ _).1 h
  rw [decode_greek hi h1 hg]
  refine ⟨rfl, letter_gr ?_ ?_⟩ <;> simp only <;> omega
theorem rune_no {s : ByteArray} {i : Nat} (hi : i < s.size) (h : ¬ (s[i]'hi).toNat < 128) (hg : ∀ h1 : i + 1 < s.size, gk (s[i]'hi) (s[i + 1]'h1) = false) : letterB (Utf8.decode s i).1 = false ∧ digitB (Utf8.decode s i).1 = false := by
  refine decode_ge hi (by omega) ?_
  rintro ⟨h1, hh⟩
  have := (gk_iff (s[i]'hi) (s[i + 1]'h1)).2 hh
  rw [hg h1] at this; cases this

theorem lsz_rune (s : ByteArray) (i : Nat) (hi : i < s.size) : letterB (Utf8.decode s i).1 = decide (0 < lsz ((bs s).drop i)) := by
  rw [bs_drop s i hi]
  by_cases hl : (s[i]'hi).toNat < 128
  · rw [rune_low hi hl, al_letter hl]
    by_cases h1 : i + 1 < s.size
    · rw [bs_drop s (i + 1) h1, lsz2, gk_low hl]
      cases al (s[i]'hi) <;> rfl
    · rw [bs_end s (i + 1) h1, lsz1]
      cases al (s[i]'hi) <;> rfl
  · have ha := al_high hl
    by_cases h1 : i + 1 < s.size
    · rw [bs_drop s (i + 1) h1, lsz2, ha.1]
      by_cases hg : gk (s[i]'hi) (s[i + 1]'h1) = true
      · rw [(rune_gk hi h1 hg).2, hg]; rfl
      · rw [Bool.not_eq_true] at hg
        rw [(rune_no hi hl (fun _ => hg)).1, hg]; rfl
    · rw [bs_end s (i + 1) h1, lsz1, ha.1, (rune_no hi hl (fun h => absurd h h1)).1]; rfl
theorem dg_rune (s : ByteArray) (i : Nat) (hi : i < s.size) : digitB (Utf8.decode s i).1 = decide (0 < dgLen ((bs s).drop i)) := by
  rw [bs_drop s i hi, dg1]
  by_cases hl : (s[i]'hi).toNat < 128
  · rw [rune_low hi hl, dig_digit]
    cases dig (s[i]'hi) <;> simp
  · have ha := al_high hl
    rw [ha.2]
    have : digitB ((Utf8.decode s i).1 : Nat) = false := digit_no (Or.inr (by have := (decode_high s i hi (by omega)).1; omega))
    rw [this]; rfl

theorem spn_name (s : ByteArray) : ∀ (f i : Nat), i ≤ s.size → s.size + 1 ≤ f + i → 1 ≤ f → spn nameR s f i = i + nmLen ((bs s).drop i)
  | 0, i, _, _, h => by omega
  | f + 1, i, hle, hf, _ => by
    by_cases hi : i < s.size
    · rw [bs_drop s i hi]
      by_cases hl : (s[i]'hi).toNat < 128
      · by_cases hc : (al (s[i]'hi) || dig (s[i]'hi)) = true
        · have hp : nameR (Utf8.decode s i).1 = true := by rw [rune_low hi hl]; unfold nameR; rw [al_letter hl, dig_digit]; exact hc
          rw [spn_yes (by omega) hi hp, rune_low hi hl]
          show spn nameR s f (i + 1) = _
          rw [spn_name s f (i + 1) (by omega) (by omega) (by omega)]
          by_cases h1 : i + 1 < s.size
          · rw [bs_drop s (i + 1) h1, nm2, if_pos hc]; omega
          · rw [bs_end s (i + 1) h1]; simp only [nmLen, hc, if_true]
        · have hp : nameR (Utf8.decode s i).1 = false := by rw [rune_low hi hl]; unfold nameR; rw [al_letter hl, dig_digit]; simpa using hc
          rw [spn_no (by omega) hi hp]
          by_cases h1 : i + 1 < s.size
          · rw [bs_drop s (i + 1) h1, nm2, if_neg hc, gk_low hl]; simp
          · rw [bs_end s (i + 1) h1]; simp only [nmLen, hc]; simp
      · have ha := al_high hl
        by_cases h1 : i + 1 < s.size
        · rw [bs_drop s (i + 1) h1, nm2, ha.1, ha.2]
          by_cases hg : gk (s[i]'hi) (s[i + 1]'h1) = true
          · have hr := rune_gk hi h1 hg
            have hp : nameR (Utf8.decode s i).1 = true := by unfold nameR; rw [hr.2]; rfl
            rw [spn_yes (by omega) hi hp, hr.1, hg]
            show spn nameR s f (i + 1 + 1) = _
            rw [spn_name s f (i + 1 + 1) (by omega) (by omega) (by omega)]
            simp only [Bool.or_self, Bool.false_eq_true, if_false, if_true]; omega
          · rw [Bool.not_eq_true] at hg
            have hr := rune_no hi hl (fun _ => hg)
            rw [spn_no (by omega) hi (by unfold nameR; rw [hr.1, hr.2]; rfl), hg]; simp
        · have hr := rune_no hi hl (fun h => absurd h h1)
          rw [spn_no (by omega) hi (by unfold nameR; rw [hr.1, hr.2]; rfl), bs_end s (i + 1) h1]
          simp only [nmLen, ha.1, ha.2]; simp
    · rw [spn_end (by omega) hi, bs_end s i hi]
      show s.size = i + 0
      omega
theorem spn_dig (s : ByteArray) : ∀ (f i : Nat), i ≤ s.size → s.size + 1 ≤ f + i → 1 ≤ f → spn digitB s f i = i + dgLen ((bs s).drop i)
  | 0, i, _, _, h => by omega
  | f + 1, i, hle, hf, _ => by
    by_cases hi : i < s.size
    · have hd := dg_rune s i hi
      rw [bs_drop s i hi, dg1] at hd
      rw [bs_drop s i hi, dg1]
      by_cases hc : dig (s[i]'hi) = true
      · have hl : (s[i]'hi).toNat < 128 := by have := (dig_iff _).1 hc; omega
        rw [spn_yes (by omega) hi (by rw [hd, hc]; simp), rune_low hi hl, hc]
        show spn digitB s f (i + 1) = _
        rw [spn_dig s f (i + 1) (by omega) (by omega) (by omega)]
        simp only [if_true]; omega
      · rw [Bool.not_eq_true] at hc
        rw [spn_no (by omega) hi (by rw [hd, hc]; simp), hc]; simp
    · rw [spn_end (by omega) hi, bs_end s i hi]
      show s.size = i + 0
      omega

/-- A rune's bytes beyond the first: none is below 128. -/
theorem dec_cont {s : ByteArray} {i : Nat} (hi : i < s.size) (h : ¬ (s[i]'hi).toNat < 128) : ∀ j, j < (Utf8.decode s i).2 → ∃ hj : i + j < s.size, 128 ≤ (s[i + j]'hj).toNat := by
  have g0 : (s.get! (i + 0)).toNat = (s[i]'hi).toNat := by rw [get_at s i hi]
  have get : ∀ k, (i + k < s.size && (s.get! (i + k)).toNat / 64 == 2) = true → ∃ hj : i + k < s.size, 128 ≤ (s[i + k]'hj).toNat := fun k hk => by
    simp only [Bool.and_eq_true, decide_eq_true_eq, beq_iff_eq] at hk
    refine ⟨hk.1, ?_⟩
    have := get_plain s (i + k) hk.1
    rw [this] at hk; omega
  intro j hj
  by_cases j0 : j = 0
  · subst j0; exact ⟨hi, by show 128 ≤ (s[i]'hi).toNat; omega⟩
  simp only [Utf8.decode, g0] at hj
  rw [if_neg h] at hj
  split at hj
  · rename_i hc
    simp only [Bool.and_eq_true] at hc
    split at hj
    · have : j = 1 := by simp only at hj; omega
      subst this; exact get 1 (by simpa using hc.2)
    · simp only at hj; omega
  · split at hj
    · rename_i hc
      simp only [Bool.and_eq_true] at hc
      split at hj
      · have : j = 1 ∨ j = 2 := by simp only at hj; omega
        rcases this with rfl | rfl
        · exact get 1 (by simpa using hc.1.2)
        · exact get 2 (by simpa using hc.2)
      · simp only at hj; omega
    · split at hj
      · rename_i hc
        simp only [Bool.and_eq_true] at hc
        split at hj
        · have : j = 1 ∨ j = 2 ∨ j = 3 := by simp only at hj; omega
          rcases this with rfl | rfl | rfl
          · exact get 1 (by simpa using hc.1.1.2)
          · exact get 2 (by simpa using hc.1.2)
          · exact get 3 (by simpa using hc.2)
        · simp only at hj; omega
      · simp only at hj; omega
theorem rem_skip (s : ByteArray) (i : Nat) : ∀ k, (∀ j, j < k → ∃ hj : i + j < s.size, 128 ≤ (s[i + j]'hj).toNat) → remLen ((bs s).drop i) = k + remLen ((bs s).drop (i + k))
  | 0, _ => by simp
  | k + 1, h => by
    rw [rem_skip s i k (fun j hj => h j (by omega)), show i + (k + 1) = i + k + 1 by omega]
    obtain ⟨hj, hb⟩ := h k (by omega)
    rw [bs_drop s (i + k) hj]
    simp only [remLen]
    rw [if_neg (by simp; omega)]
    omega
theorem dec_le {s : ByteArray} {i : Nat} (hi : i < s.size) : i + (Utf8.decode s i).2 ≤ s.size := by
  by_cases hl : (s[i]'hi).toNat < 128
  · rw [rune_low hi hl]; show i + 1 ≤ s.size; omega
  · have h1 := (decode_high s i hi (by omega)).2
    obtain ⟨hj, _⟩ := dec_cont hi hl ((Utf8.decode s i).2 - 1) (by omega)
    omega
theorem spn_line (s : ByteArray) : ∀ (f i : Nat), i ≤ s.size → s.size + 1 ≤ f + i → 1 ≤ f → spn lineR s f i = i + remLen ((bs s).drop i)
  | 0, i, _, _, h => by omega
  | f + 1, i, hle, hf, _ => by
    by_cases hi : i < s.size
    · by_cases hl : (s[i]'hi).toNat < 128
      · rw [bs_drop s i hi]
        by_cases hc : (s[i]'hi).toNat = 10
        · have hp : lineR (Utf8.decode s i).1 = false := by rw [rune_low hi hl]; simp [lineR, hc]
          rw [spn_no (by omega) hi hp]; simp [remLen, hc]
        · have hp : lineR (Utf8.decode s i).1 = true := by rw [rune_low hi hl]; simp only [lineR, bne_iff_ne]; omega
          rw [spn_yes (by omega) hi hp, rune_low hi hl]
          show spn lineR s f (i + 1) = _
          rw [spn_line s f (i + 1) (by omega) (by omega) (by omega)]
          simp only [remLen]
          rw [if_neg (by simpa using hc)]; omega
      · have hh := decode_high s i hi (by omega)
        have hp : lineR (Utf8.decode s i).1 = true := by simp only [lineR, bne_iff_ne]; omega
        rw [spn_yes (by omega) hi hp]
        show spn lineR s f (i + (Utf8.decode s i).2) = _
        rw [spn_line s f _ (dec_le hi) (by omega) (by have := dec_le hi; omega), rem_skip s i _ (dec_cont hi hl)]
        omega
    · rw [spn_end (by omega) hi, bs_end s i hi]
      show s.size = i + 0
      omega

theorem name_spn (s : ByteArray) : spn nameR s (s.size + 1) 0 = nmLen (bs s) := by
  rw [spn_name s _ 0 (by omega) (by omega) (by omega)]; simp
theorem dig_spn (s : ByteArray) : spn digitB s (s.size + 1) 0 = dgLen (bs s) := by
  rw [spn_dig s _ 0 (by omega) (by omega) (by omega)]; simp
theorem line_spn (s : ByteArray) : spn lineR s (s.size + 1) 0 = remLen (bs s) := by
  rw [spn_line s _ 0 (by omega) (by omega) (by omega)]; simp

/-- A text of letters and digits: how many runes it has. -/
theorem rest_cnt (s : ByteArray) : ∀ (m i k : Nat), s.size - i ≤ m → i ≤ s.size → 1 ≤ k → nmLen ((bs s).drop i) = s.size - i → restB s i k = decide (k + nmCnt ((bs s).drop i) ≤ 16)
  | m, i, k, hm, hle, hk, hn => by
    by_cases hi : i < s.size
    · obtain ⟨m', rfl⟩ : ∃ m', m = m' + 1 := ⟨m - 1, by omega⟩
      by_cases hl : (s[i]'hi).toNat < 128
      · have hc : (al (s[i]'hi) || dig (s[i]'hi)) = true ∧ nmLen ((bs s).drop (i + 1)) = s.size - (i + 1) ∧ nmCnt ((bs s).drop i) = nmCnt ((bs s).drop (i + 1)) + 1 := by
          rw [bs_drop s i hi] at hn ⊢
          by_cases h1 : i + 1 < s.size
          · rw [bs_drop s (i + 1) h1] at hn ⊢
            rw [nm2, gk_low hl] at hn
            rw [nmCnt2]
            by_cases hc : (al (s[i]'hi) || dig (s[i]'hi)) = true
            · simp only [hc, if_true] at hn ⊢; exact ⟨trivial, by omega, trivial⟩
            · simp only [hc, Bool.false_eq_true, if_false] at hn; omega
          · rw [bs_end s (i + 1) h1] at hn ⊢
            simp only [nmLen] at hn
            by_cases hc : (al (s[i]'hi) || dig (s[i]'hi)) = true
            · simp only [nmLen, nmCnt, hc, if_true] at hn ⊢; exact ⟨trivial, by omega, trivial⟩
            · simp only [hc, Bool.false_eq_true, if_false] at hn; omega
        have hd := rune_low hi hl
        rw [rest_good hi (by
          rw [hd]
          rcases Bool.or_eq_true _ _ ▸ hc.1 with h | h
          · left; rw [al_letter hl]; exact h
          · right; exact ⟨by omega, by rw [dig_digit]; exact h⟩), hd]
        show restB s (i + 1) (k + 1) = _
        rw [rest_cnt s m' (i + 1) (k + 1) (by omega) (by omega) (by omega) hc.2.1, hc.2.2]
        exact decide_eq_decide.2 (by omega)
      · have ha := al_high hl
        have hc : ∃ h1 : i + 1 < s.size, gk (s[i]'hi) (s[i + 1]'h1) = true ∧ nmLen ((bs s).drop (i + 1 + 1)) = s.size - (i + 2) ∧ nmCnt ((bs s).drop i) = nmCnt ((bs s).drop (i + 1 + 1)) + 1 := by
          rw [bs_drop s i hi] at hn ⊢
          by_cases h1 : i + 1 < s.size
          · rw [bs_drop s (i + 1) h1] at hn ⊢
            rw [nm2, ha.1, ha.2] at hn
            rw [nmCnt2, ha.1, ha.2]
            by_cases hg : gk (s[i]'hi) (s[i + 1]'h1) = true
            · refine ⟨h1, hg, ?_, ?_⟩
              · simp only [hg, Bool.or_self, Bool.false_eq_true, if_false, if_true] at hn; omega
              · simp only [hg, Bool.or_self, Bool.false_eq_true, if_false, if_true]
            · simp only [hg, Bool.or_self, Bool.false_eq_true, if_false] at hn; omega
          · rw [bs_end s (i + 1) h1] at hn
            simp only [nmLen, ha.1, ha.2, Bool.or_self, Bool.false_eq_true, if_false] at hn; omega
        obtain ⟨h1, hg, hn2, hc2⟩ := hc
        have hr := rune_gk hi h1 hg
        rw [rest_good hi (Or.inl hr.2), hr.1]
        show restB s (i + 1 + 1) (k + 1) = _
        rw [rest_cnt s m' (i + 1 + 1) (k + 1) (by omega) (by omega) (by omega) hn2, hc2]
        exact decide_eq_decide.2 (by omega)
    · rw [rest_end hi, bs_end s i hi]
      simp only [nmCnt, Nat.add_zero]
      rw [decide_eq_true hk, Bool.true_and]
      rfl
theorem name_cnt (s : ByteArray) (h0 : 0 < lsz (bs s)) (h : nmLen (bs s) = s.size) : nameB s = decide (nmCnt (bs s) ≤ 16) := by
  have hi : 0 < s.size := by have := lsz_nm _ h0; omega
  have hb : nameB s = restB s 0 0 := by unfold nameB restB; rw [if_pos (by omega)]
  have hlt : letterB (Utf8.decode s 0).1 = true := by rw [lsz_rune s 0 hi]; simpa using h0
  rw [hb, rest_good hi (Or.inl hlt), Nat.zero_add]
  by_cases hl : (s[0]'hi).toNat < 128
  · have hd := rune_low hi hl
    have ha : al (s[0]'hi) = true := by rw [hd, al_letter hl] at hlt; exact hlt
    have e : bs s = (s[0]'hi) :: (bs s).drop 1 := by have := bs_drop s 0 hi; simpa using this
    have k : nmLen ((bs s).drop 1) = s.size - 1 ∧ nmCnt (bs s) = nmCnt ((bs s).drop 1) + 1 := by
      have hc : (al (s[0]'hi) || dig (s[0]'hi)) = true := by rw [ha]; rfl
      rw [e] at h ⊢
      simp only [List.drop_succ_cons, List.drop_zero]
      by_cases h1 : 1 < s.size
      · rw [bs_drop s 1 h1] at h ⊢
        rw [nm2, if_pos hc] at h
        rw [nmCnt2, if_pos hc]
        exact ⟨by omega, rfl⟩
      · rw [bs_end s 1 h1]
        simp only [nmLen, nmCnt, hc, if_true]
        exact ⟨by omega, trivial⟩
    rw [hd]
    show restB s 1 1 = _
    rw [rest_cnt s s.size 1 1 (by omega) (by omega) (by omega) k.1, k.2]
    exact decide_eq_decide.2 (by omega)
  · have ha := al_high hl
    by_cases h1 : 1 < s.size
    · have hg : gk (s[0]'hi) (s[1]'h1) = true := by
        cases hh : gk (s[0]'hi) (s[1]'h1) with
        | true => rfl
        | false => rw [(rune_no hi hl (fun _ => hh)).1] at hlt; cases hlt
      have hr := rune_gk hi h1 hg
      have e : bs s = (s[0]'hi) :: (s[1]'h1) :: (bs s).drop 2 := by
        have := bs_drop s 0 hi
        rw [bs_drop s (0 + 1) h1] at this
        simpa using this
      have k : nmLen ((bs s).drop 2) = s.size - 2 ∧ nmCnt (bs s) = nmCnt ((bs s).drop 2) + 1 := by
        rw [e] at h ⊢
        simp only [List.drop_succ_cons, List.drop_zero]
        rw [nm2, ha.1, ha.2, hg] at h
        rw [nmCnt2, ha.1, ha.2, hg]
        simp only [Bool.or_self, Bool.false_eq_true, if_false, if_true] at h ⊢
        exact ⟨by omega, trivial⟩
      rw [hr.1, rest_cnt s s.size 2 1 (by omega) (by omega) (by omega) k.1, k.2]
      exact decide_eq_decide.2 (by omega)
    · rw [(rune_no hi hl (fun h => absurd h h1)).1] at hlt; cases hlt
end Go.Proofs.YtcoeefckldkbeaaGreatDoor

/- Layer 5: the walks of lex.Words, Keyword, name. -/
namespace Go.Proofs.YtcoeefckldkbeaaGreatDoor
open Go.RowKit

def str (l : List UInt8) : ByteArray := ⟨l.toArray⟩
theorem bs_str (l : List UInt8) : bs (str l) = l := by simp [bs, str]
theorem str_bs (s : ByteArray) : str (bs s) = s := by obtain ⟨d⟩ := s; simp [bs, str]
theorem str_inj {a b : List UInt8} (h : str a = str b) : a = b := by rw [← bs_str a, h, bs_str]
/-- The keywords, as cells. -/
def kwB : List ByteArray := kws.map str
def kwC : Array Value := (kwB.map Value.string).toArray
theorem kw_contains (s : ByteArray) : Lib.containsS (kwB.take 23) s = kw (bs s) := by
  have e : kwB.take 23 = kwB := rfl
  rw [e, Bool.eq_iff_iff, Lib.containsS_iff]
  unfold kw kwB
  simp only [List.mem_map, List.contains_eq_mem, decide_eq_true_eq]
  constructor
  · rintro ⟨a, ha, rfl⟩; rw [bs_str]; exact ha
  · intro h; exact ⟨_, h, str_bs s⟩
theorem kw_cells (w : World) (t : TypeId) : ∀ j, j < kwB.length → (w.alloc (.cells kwC t)).cell? ⟨w.heap.size, 0 + j, none⟩ = some (.string (kwB.getD j ByteArray.empty)) := by
  intro j hj
  rw [Nat.zero_add]
  simp [kwC, List.getD, hj]

set_option maxHeartbeats 1000000 in
theorem words_any (w : World) :
    Calls Tryz.prog 65 #[] w fun e w' => e = .returned (.slice (some ⟨w.heap.size, 0, none⟩) 23 23) ∧ w' = w.alloc (.cells kwC 9) := by
  go_enter Tryz.func65, Tryz.ntmps65
  go_wp2
  go_ret
  exact ⟨rfl, rfl⟩
set_option maxHeartbeats 1000000 in
theorem keyword_any (s : ByteArray) (w : World) :
    Calls Tryz.prog 47 #[.string s] w fun e w' => e = .returned (.bool (kw (bs s))) ∧ Below w.heap.size w w' := by
  have H : Hid (Lib.containsS (kwB.take 23) s = kw (bs s)) := kw_contains s
  have hc := kw_cells w 9
  go_enter Tryz.func47, Tryz.ntmps47
  go_wp2_with (first
    | (go_at_call 65; refine (words_any _).mono ?_; rintro e w' ⟨rfl, rfl⟩)
    | (go_at_call 64; refine (Tryz.slices_Contains_string w.heap.size 0 23 23 kwB s _ (by decide) (by decide) hc).mono ?_; rintro e w' ⟨rfl, rfl⟩))
  go_ret
  exact ⟨ret_bool H.out, (Below.refl _ _).alloc (Nat.le_refl _) _⟩

theorem nxt {a b c : World} (h : Below a.heap.size a b) (k : Below b.heap.size b c) : Below a.heap.size a c := h.trans (k.mono h.size)

/-- Four cells of a variable. -/
structure B4 (w : World) (B : Nat) (v0 v1 v2 v3 : Value) : Prop where
  c0 : w.cell? ⟨B, 0, none⟩ = some v0
  c1 : w.cell? ⟨B, 1, none⟩ = some v1
  c2 : w.cell? ⟨B, 2, none⟩ = some v2
  c3 : w.cell? ⟨B, 3, none⟩ = some v3
  f0 : w.frozen? ⟨B, 0, none⟩ = false
  f1 : w.frozen? ⟨B, 1, none⟩ = false
  f2 : w.frozen? ⟨B, 2, none⟩ = false
  f3 : w.frozen? ⟨B, 3, none⟩ = false
theorem B4.new (w : World) (v0 v1 v2 v3 : Value) (t : TypeId) : B4 (w.alloc (.cells #[v0, v1, v2, v3] t)) w.heap.size v0 v1 v2 v3 := by
  constructor <;> simp
theorem B4.lt {w : World} {B : Nat} {v0 v1 v2 v3 : Value} (h : B4 w B v0 v1 v2 v3) : B < w.heap.size := cell_lt h.c0
theorem B4.kept {w w' : World} {B : Nat} {v0 v1 v2 v3 : Value} (h : B4 w B v0 v1 v2 v3) (hb : Below w.heap.size w w') : B4 w' B v0 v1 v2 v3 :=
  ⟨up hb h.c0, up hb h.c1, up hb h.c2, up hb h.c3, (hb.frozen (p := ⟨B, 0, none⟩) h.lt).trans h.f0, (hb.frozen (p := ⟨B, 1, none⟩) h.lt).trans h.f1, (hb.frozen (p := ⟨B, 2, none⟩) h.lt).trans h.f2, (hb.frozen (p := ⟨B, 3, none⟩) h.lt).trans h.f3⟩
theorem B4.of_block {w w' : World} {B : Nat} {v0 v1 v2 v3 : Value} (h : B4 w B v0 v1 v2 v3) (e : w'.heap[B]? = w.heap[B]?) : B4 w' B v0 v1 v2 v3 :=
  ⟨(World.cell?_of_block (w := w) (a := ⟨B, 0, none⟩) e).trans h.c0, (World.cell?_of_block (w := w) (a := ⟨B, 1, none⟩) e).trans h.c1, (World.cell?_of_block (w := w) (a := ⟨B, 2, none⟩) e).trans h.c2, (World.cell?_of_block (w := w) (a := ⟨B, 3, none⟩) e).trans h.c3, (World.frozen?_of_block (w := w) (a := ⟨B, 0, none⟩) e).trans h.f0, (World.frozen?_of_block (w := w) (a := ⟨B, 1, none⟩) e).trans h.f1, (World.frozen?_of_block (w := w) (a := ⟨B, 2, none⟩) e).trans h.f2, (World.frozen?_of_block (w := w) (a := ⟨B, 3, none⟩) e).trans h.f3⟩
/-- Four cells written. -/
def put4 (w : World) (B : Nat) (v0 v1 v2 v3 : Value) : World := (((w.setCell ⟨B, 0, none⟩ v0).setCell ⟨B, 1, none⟩ v1).setCell ⟨B, 2, none⟩ v2).setCell ⟨B, 3, none⟩ v3
theorem put4_heap (w : World) (B : Nat) (v0 v1 v2 v3 : Value) {b : Nat} (h : b ≠ B) : (put4 w B v0 v1 v2 v3).heap[b]? = w.heap[b]? := by
  unfold put4
  rw [Below.heap_setCell _ _ _ _ h, Below.heap_setCell _ _ _ _ h, Below.heap_setCell _ _ _ _ h, Below.heap_setCell _ _ _ _ h]
theorem put4_size (w : World) (B : Nat) (v0 v1 v2 v3 : Value) : (put4 w B v0 v1 v2 v3).heap.size = w.heap.size := by
  unfold put4; simp [World.setCell]
theorem put4_below {b : Nat} {w w1 : World} {B : Nat} (hB : b ≤ B) (h : Below b w w1) (v0 v1 v2 v3 : Value) : Below b w (put4 w1 B v0 v1 v2 v3) :=
  (((h.setCell hB _).setCell hB _).setCell hB _).setCell hB _
theorem B4.put {w : World} {B : Nat} {u0 u1 u2 u3 : Value} (h : B4 w B u0 u1 u2 u3) (v0 v1 v2 v3 : Value) : B4 (put4 w B v0 v1 v2 v3) B v0 v1 v2 v3 := by
  have fz : ∀ a : Addr, (put4 w B v0 v1 v2 v3).frozen? a = w.frozen? a := fun a => by
    unfold put4
    rw [World.frozen?_setCell, World.frozen?_setCell, World.frozen?_setCell, World.frozen?_setCell]
  have key := World.rangeAt_setCells_same w B 0 [v0, v1, v2, v3] (fun j hj => ?_)
  · exact ⟨key 0 v0 rfl, key 1 v1 rfl, key 2 v2 rfl, key 3 v3 rfl, (fz _).trans h.f0, (fz _).trans h.f1, (fz _).trans h.f2, (fz _).trans h.f3⟩
  · have hj' : j < 4 := hj
    rw [Nat.zero_add]
    match j, hj' with
    | 0, _ => exact ⟨by rw [h.c0]; rfl, h.f0⟩
    | 1, _ => exact ⟨by rw [h.c1]; rfl, h.f1⟩
    | 2, _ => exact ⟨by rw [h.c2]; rfl, h.f2⟩
    | 3, _ => exact ⟨by rw [h.c3]; rfl, h.f3⟩
/-- A word's value. -/
def tkV (k : Int) (t : ByteArray) (n a : Int) : Value := .agg #[.int .i64 k, .string t, .int .i64 n, .int .i64 a]
theorem keyword_is (s : ByteArray) (b : Bool) (h : kw (bs s) = b) (w : World) :
    Calls Tryz.prog 47 #[.string s] w fun e w' => e = .returned (.bool b) ∧ Below w.heap.size w w' := by
  subst h; exact keyword_any s w
set_option maxHeartbeats 1000000 in
theorem lname_no (s : ByteArray) (w : World) (hk : kw (bs s) = false) :
    Calls Tryz.prog 33 #[.string s] w fun e w' => e = .returned (.tuple #[tkV 1 s 0 0, .bool (nameB s)]) ∧ Below w.heap.size w w' := by
  have B0 := B4.new w (.int .i64 0) (.string ⟨#[]⟩) (.int .i64 0) (.int .i64 0) 62
  have hb0 := below_alloc w (.cells #[.int .i64 0, .string ⟨#[]⟩, .int .i64 0, .int .i64 0] 62)
  go_enter Tryz.func33, Tryz.ntmps33
  go_wp2_with fail
  refine (keyword_is _ _ hk _).mono ?_
  rintro e w1 ⟨rfl, hb⟩
  have B1 := B0.kept hb
  have hb1 := nxt hb0 hb
  clear B0 hb0 hb
  go_wp2_with fail
  refine (name_any _ _).mono ?_
  rintro e w2 ⟨rfl, hb⟩
  obtain ⟨c0, c1, c2, c3, f0, f1, f2, f3⟩ := B1.kept hb
  have hb2 := nxt hb1 hb
  clear hb hb1
  go_wp2
  refine bodyPost_ret (v := .tuple #[tkV 1 s 0 0, .bool (nameB s)]) (by simp [results, Tryz.results33, go_sem, tkV, c0, c1, c2, c3]) rfl ⟨rfl, put4_below (Nat.le_refl _) hb2 _ _ _ _⟩
set_option maxHeartbeats 1000000 in
theorem lname_yes (s : ByteArray) (w : World) (hk : kw (bs s) = true) :
    Calls Tryz.prog 33 #[.string s] w fun e w' => e = .returned (.tuple #[tkV 2 s 0 0, .bool true]) ∧ Below w.heap.size w w' := by
  have B0 := B4.new w (.int .i64 0) (.string ⟨#[]⟩) (.int .i64 0) (.int .i64 0) 62
  have hb0 := below_alloc w (.cells #[.int .i64 0, .string ⟨#[]⟩, .int .i64 0, .int .i64 0] 62)
  go_enter Tryz.func33, Tryz.ntmps33
  go_wp2_with fail
  refine (keyword_is _ _ hk _).mono ?_
  rintro e w1 ⟨rfl, hb⟩
  have B1 := B0.kept hb
  have hb1 := nxt hb0 hb
  clear B0 hb0 hb
  obtain ⟨c0, c1, c2, c3, f0, f1, f2, f3⟩ := B1
  go_wp2
  refine bodyPost_ret (v := .tuple #[tkV 2 s 0 0, .bool true]) (by simp [results, Tryz.results33, go_sem, tkV, c0, c1, c2, c3]) rfl ⟨rfl, put4_below (Nat.le_refl _) hb1 _ _ _ _⟩
theorem lname_any (s : ByteArray) (w : World) :
    Calls Tryz.prog 33 #[.string s] w fun e w' => e = .returned (.tuple #[tkV (if kw (bs s) then 2 else 1) s 0 0, .bool (kw (bs s) || nameB s)]) ∧ Below w.heap.size w w' := by
  cases hk : kw (bs s)
  · exact lname_no s w hk
  · exact lname_yes s w hk
end Go.Proofs.YtcoeefckldkbeaaGreatDoor

/- Layer 5: the walks of lex.number, sign. -/
namespace Go.Proofs.YtcoeefckldkbeaaGreatDoor
open Go.RowKit

theorem numF_le : ∀ (l : List UInt8) (a : Nat), a ≤ numF a l
  | [], a => Nat.le_refl _
  | c :: r, a => by
    unfold numF
    have := numF_le r (10 * a + (c.toNat - 48))
    omega
theorem parseU (l : List UInt8) : ∀ (a : Nat), dgLen l = l.length → Lib.parseUint10 a l = if a < 18446744073709551616 ∨ l ≠ [] then (if numF a l < 18446744073709551616 then .ok (numF a l) else .range) else .ok a := by
  induction l with
  | nil => intro a _; unfold Lib.parseUint10 numF; split <;> simp_all
  | cons c r ih =>
    intro a h
    rw [dg1] at h
    split at h
    · rename_i hc
      have hd := (dig_iff c).1 hc
      simp only [List.length_cons] at h
      rw [if_pos (Or.inr (by simp))]
      unfold Lib.parseUint10 numF
      rw [if_pos hd]
      have hle := numF_le r (10 * a + (c.toNat - 48))
      by_cases h1 : 1844674407370955162 ≤ a
      · rw [if_pos h1, if_neg (by omega)]
      · rw [if_neg h1]
        by_cases h2 : 18446744073709551616 ≤ a * 10 + (c.toNat - 48)
        · rw [if_pos h2, if_neg (by omega)]
        · rw [if_neg h2, ih _ (by omega), if_pos (Or.inl (by omega)), show a * 10 = 10 * a by omega]
    · simp at h
theorem parseI (l : List UInt8) (h : dgLen l = l.length) (h0 : l ≠ []) : Lib.parseIntB 64 l = if numV l ≤ 9223372036854775807 then .ok (numV l) else .range := by
  rw [Lib.parseIntB_64]
  match l, h0 with
  | c :: r, _ =>
    have hd := (dig_iff c).1 (dg_head (r := r) (by rw [h]; simp))
    rw [Lib.atoiAll_plain c r (by omega) (by omega)]
    have e : Lib.parseMag (c :: r) = if numV (c :: r) < 18446744073709551616 then .ok (numV (c :: r)) else .range := by
      unfold Lib.parseMag
      rw [if_neg (by simp), parseU _ 0 h, if_pos (Or.inl (by omega))]
      rfl
    rw [e]
    by_cases h1 : numV (c :: r) < 18446744073709551616
    · rw [if_pos h1]
      unfold Lib.signless
      by_cases h2 : numV (c :: r) ≤ 9223372036854775807
      · rw [if_pos h2]; simp only; rw [if_neg (by omega)]
      · rw [if_neg h2]; simp only; rw [if_pos (by omega)]
    · rw [if_neg h1, if_neg (by omega)]; rfl

theorem Tryz.errNamed : Tryz.prog.globalNamed "strconv.ErrRange" = some 2 := by kernel_rfl
/-- The variables that the walks read. -/
structure Vs (w : World) : Prop where
  err : ∃ tp p, w.var? Tryz.prog "strconv.ErrRange" = some #[.iface tp p]
  l0 : w.cell? ⟨0, 0, none⟩ = some (.string ⟨#[61, 61]⟩)
  l1 : w.cell? ⟨0, 1, none⟩ = some (.string ⟨#[61, 62]⟩)
  l2 : w.cell? ⟨0, 2, none⟩ = some (.string ⟨#[45, 62]⟩)
  l3 : w.cell? ⟨0, 3, none⟩ = some (.string ⟨#[58, 61]⟩)
theorem Vs.kept {w w' : World} (h : Vs w) (hb : Below w.heap.size w w') : Vs w' := by
  obtain ⟨tp, p, he⟩ := h.err
  exact ⟨⟨tp, p, Joins.var_stays Tryz.errNamed he hb (Nat.le_refl _)⟩, up hb h.l0, up hb h.l1, up hb h.l2, up hb h.l3⟩

/-- A number that is told. -/
def okN (s : ByteArray) : Bool := decide (s = ⟨#[48]⟩) || (bs s).head? != some 48

set_option maxHeartbeats 2000000 in
theorem lnum_z (s : ByteArray) (w : World) (h0 : 0 < s.size) (hs : s.size ≤ 9223372036854775806) (hp : Lib.parseIntB 64 s.data.toList = .ok (numV (bs s) : Int)) (hz : (s.toList == [48]) = true) :
    Calls Tryz.prog 36 #[.string s] w fun e w' => e = .returned (.tuple #[tkV 3 s (numV (bs s) : Nat) 0, .bool true]) ∧ Below w.heap.size w w' := by
  have hh : (bs s).head? = some (s[0]'h0) := by
    have := bs_drop s 0 h0
    rw [List.drop_zero] at this; rw [this]; rfl
  have B0 := B4.new w (.int .i64 0) (.string ⟨#[]⟩) (.int .i64 0) (.int .i64 0) 62
  have hb0 := below_alloc w (.cells #[.int .i64 0, .string ⟨#[]⟩, .int .i64 0, .int .i64 0] 62)
  go_enter Tryz.func36, Tryz.ntmps36
  go_wp2_with fail
  refine (Tryz.strconv_ParseInt_10_at64_ok s hs _ hp _).mono ?_
  rintro e w1 ⟨rfl, hw⟩
  have hb : Below (w.alloc (.cells #[.int .i64 0, .string ⟨#[]⟩, .int .i64 0, .int .i64 0] 62)).heap.size (w.alloc (.cells #[.int .i64 0, .string ⟨#[]⟩, .int .i64 0, .int .i64 0] 62)) w1 := by
    rcases hw with rfl | ⟨t, rfl⟩
    · exact Below.refl _ _
    · exact Joins.below_bytesWorld _ _ _ _ (Nat.le_refl _)
  obtain ⟨c0, c1, c2, c3, f0, f1, f2, f3⟩ := B0.kept hb
  have hb1 := nxt hb0 hb
  clear hw hb B0 hb0
  go_wp2_with fail
  refine wp_region_held_drew (S := fun _ : World => True) (by kernel_rfl) trivial (fun hS => ?_)
  refine wpAnyH_take (i := 0) (v := .string s) rfl (by kernel_rfl) (by kernel_rfl) (by kernel_rfl) (fun _ _ _ h => h) (Or.inl ⟨by kernel_rfl, ?_⟩) hS ?_
  · intro u _; go_simp
  try simp only [Act.put]
  refine wpAnyH_take (i := 1) (v := .int .i64 (numV (bs s) : Nat)) rfl (by kernel_rfl) (by kernel_rfl) (by kernel_rfl) (fun _ _ _ h => h) (Or.inl ⟨by kernel_rfl, ?_⟩) hS ?_
  · intro u _; go_simp
  try simp only [Act.put]
  refine wpAnyH_take (i := 2) (v := .agg #[.int .i64 3, .string s, .int .i64 (numV (bs s) : Nat), .int .i64 0]) rfl (by kernel_rfl) (by kernel_rfl) (by kernel_rfl) (fun _ _ _ h => h) (Or.inl ⟨by kernel_rfl, ?_⟩) hS ?_
  · intro u _; go_simp
  try simp only [Act.put]
  refine wpAnyH_take (i := 3) (v := .nilIface) rfl (by kernel_rfl) (by kernel_rfl) (by kernel_rfl) (fun _ _ _ h => h) (Or.inl ⟨by kernel_rfl, ?_⟩) hS ?_
  · intro u _; go_simp
  try simp only [Act.put]
  refine wpAnyH_take (i := 4) (v := .bool true) rfl (by kernel_rfl) (by kernel_rfl) (by kernel_rfl) (fun _ _ _ h => h) (Or.inl ⟨by kernel_rfl, ?_⟩) hS ?_
  · intro u _; go_simp
  try simp only [Act.put]
  refine wpAnyH_take (i := 5) (v := .bool true) rfl (by kernel_rfl) (by kernel_rfl) (by kernel_rfl) (fun _ _ _ h => h) (Or.inl ⟨by kernel_rfl, ?_⟩) hS ?_
  · intro u _; go_simp
  try simp only [Act.put]
  refine wpAnyH_take (i := 6) (v := .string s) rfl (by kernel_rfl) (by kernel_rfl) (by kernel_rfl) (fun _ _ _ h => h) (Or.inl ⟨by kernel_rfl, ?_⟩) hS ?_
  · intro u _; go_simp
  try simp only [Act.put]
  refine wpAnyH_take (i := 7) (v := .bool true) rfl (by kernel_rfl) (by kernel_rfl) (by kernel_rfl) (fun _ _ _ h => h) (Or.inl ⟨by kernel_rfl, ?_⟩) hS ?_
  · intro u _; go_simp
  try simp only [Act.put]
  refine wpAnyH_take (i := 8) (v := .bool true) rfl (by kernel_rfl) (by kernel_rfl) (by kernel_rfl) (fun _ _ _ h => h) (Or.inl ⟨by kernel_rfl, ?_⟩) hS ?_
  · intro u _; go_simp
  try simp only [Act.put]
  refine wpAnyH_take (i := 9) (v := undef) rfl (by kernel_rfl) (by kernel_rfl) (by kernel_rfl) (fun _ _ _ h => h) (Or.inr ⟨by kernel_rfl, rfl⟩) hS ?_
  try simp only [Act.put]
  refine wpAnyH_take (i := 10) (v := undef) rfl (by kernel_rfl) (by kernel_rfl) (by kernel_rfl) (fun _ _ _ h => h) (Or.inr ⟨by kernel_rfl, rfl⟩) hS ?_
  try simp only [Act.put]
  refine wpAnyH_take (i := 11) (v := undef) rfl (by kernel_rfl) (by kernel_rfl) (by kernel_rfl) (fun _ _ _ h => h) (Or.inr ⟨by kernel_rfl, rfl⟩) hS ?_
  try simp only [Act.put]
  refine wpAnyH_take (i := 12) (v := .bool true) rfl (by kernel_rfl) (by kernel_rfl) (by kernel_rfl) (fun _ _ _ h => h) (Or.inl ⟨by kernel_rfl, ?_⟩) hS ?_
  · intro u _; go_simp
  try simp only [Act.put]
  refine wpAnyH_take (i := 13) (v := .bool true) rfl (by kernel_rfl) (by kernel_rfl) (by kernel_rfl) (fun _ _ _ h => h) (Or.inl ⟨by kernel_rfl, ?_⟩) hS ?_
  · intro u _; go_simp
  try simp only [Act.put]
  refine wpAnyH_ready (rs := [14]) (by kernel_rfl) (by simp) ?_
  refine AllReadyH.cons rfl (fun K hK => ?_) AllReadyH.nil
  go_simp
  refine hK.out _ _ trivial (fun hS => ?_)
  clear hK K
  try simp only [Act.put]
  refine wpAnyH_ready (rs := [15]) (by kernel_rfl) (by simp) ?_
  refine AllReadyH.cons rfl (fun K hK => ?_) AllReadyH.nil
  go_simp
  refine hK.out _ _ trivial (fun hS => ?_)
  clear hK K
  try simp only [Act.put]
  refine wpAnyH_done (by kernel_rfl) ?_ _
  go_wp2
  refine bodyPost_ret (v := .tuple #[tkV 3 s (numV (bs s) : Nat) 0, .bool true]) (by simp [results, Tryz.results36, go_sem, tkV, c0, c1, c2, c3]) rfl ⟨rfl, (put4_below (Nat.le_refl _) hb1 _ _ _ _).drew⟩
set_option maxHeartbeats 2000000 in
theorem lnum_nz (s : ByteArray) (w : World) (h0 : 0 < s.size) (hs : s.size ≤ 9223372036854775806) (hp : Lib.parseIntB 64 s.data.toList = .ok (numV (bs s) : Int)) (hz : (s.toList == [48]) = false) :
    Calls Tryz.prog 36 #[.string s] w fun e w' => e = .returned (.tuple #[tkV 3 s (numV (bs s) : Nat) 0, .bool ((((s[0]'h0).toNat : Nat) : Int) != 48)]) ∧ Below w.heap.size w w' := by
  have hh : (bs s).head? = some (s[0]'h0) := by
    have := bs_drop s 0 h0
    rw [List.drop_zero] at this; rw [this]; rfl
  have B0 := B4.new w (.int .i64 0) (.string ⟨#[]⟩) (.int .i64 0) (.int .i64 0) 62
  have hb0 := below_alloc w (.cells #[.int .i64 0, .string ⟨#[]⟩, .int .i64 0, .int .i64 0] 62)
  go_enter Tryz.func36, Tryz.ntmps36
  go_wp2_with fail
  refine (Tryz.strconv_ParseInt_10_at64_ok s hs _ hp _).mono ?_
  rintro e w1 ⟨rfl, hw⟩
  have hb : Below (w.alloc (.cells #[.int .i64 0, .string ⟨#[]⟩, .int .i64 0, .int .i64 0] 62)).heap.size (w.alloc (.cells #[.int .i64 0, .string ⟨#[]⟩, .int .i64 0, .int .i64 0] 62)) w1 := by
    rcases hw with rfl | ⟨t, rfl⟩
    · exact Below.refl _ _
    · exact Joins.below_bytesWorld _ _ _ _ (Nat.le_refl _)
  obtain ⟨c0, c1, c2, c3, f0, f1, f2, f3⟩ := B0.kept hb
  have hb1 := nxt hb0 hb
  clear hw hb B0 hb0
  go_wp2_with fail
  refine wp_region_held_drew (S := fun _ : World => True) (by kernel_rfl) trivial (fun hS => ?_)
  refine wpAnyH_take (i := 0) (v := .string s) rfl (by kernel_rfl) (by kernel_rfl) (by kernel_rfl) (fun _ _ _ h => h) (Or.inl ⟨by kernel_rfl, ?_⟩) hS ?_
  · intro u _; go_simp
  try simp only [Act.put]
  refine wpAnyH_take (i := 1) (v := .int .i64 (numV (bs s) : Nat)) rfl (by kernel_rfl) (by kernel_rfl) (by kernel_rfl) (fun _ _ _ h => h) (Or.inl ⟨by kernel_rfl, ?_⟩) hS ?_
  · intro u _; go_simp
  try simp only [Act.put]
  refine wpAnyH_take (i := 2) (v := .agg #[.int .i64 3, .string s, .int .i64 (numV (bs s) : Nat), .int .i64 0]) rfl (by kernel_rfl) (by kernel_rfl) (by kernel_rfl) (fun _ _ _ h => h) (Or.inl ⟨by kernel_rfl, ?_⟩) hS ?_
  · intro u _; go_simp
  try simp only [Act.put]
  refine wpAnyH_take (i := 3) (v := .nilIface) rfl (by kernel_rfl) (by kernel_rfl) (by kernel_rfl) (fun _ _ _ h => h) (Or.inl ⟨by kernel_rfl, ?_⟩) hS ?_
  · intro u _; go_simp
  try simp only [Act.put]
  refine wpAnyH_take (i := 4) (v := .bool true) rfl (by kernel_rfl) (by kernel_rfl) (by kernel_rfl) (fun _ _ _ h => h) (Or.inl ⟨by kernel_rfl, ?_⟩) hS ?_
  · intro u _; go_simp
  try simp only [Act.put]
  refine wpAnyH_take (i := 5) (v := .bool true) rfl (by kernel_rfl) (by kernel_rfl) (by kernel_rfl) (fun _ _ _ h => h) (Or.inl ⟨by kernel_rfl, ?_⟩) hS ?_
  · intro u _; go_simp
  try simp only [Act.put]
  refine wpAnyH_take (i := 6) (v := .string s) rfl (by kernel_rfl) (by kernel_rfl) (by kernel_rfl) (fun _ _ _ h => h) (Or.inl ⟨by kernel_rfl, ?_⟩) hS ?_
  · intro u _; go_simp
  try simp only [Act.put]
  refine wpAnyH_take (i := 7) (v := .bool false) rfl (by kernel_rfl) (by kernel_rfl) (by kernel_rfl) (fun _ _ _ h => h) (Or.inl ⟨by kernel_rfl, ?_⟩) hS ?_
  · intro u _; go_simp
  try simp only [Act.put]
  refine wpAnyH_take (i := 8) (v := .bool false) rfl (by kernel_rfl) (by kernel_rfl) (by kernel_rfl) (fun _ _ _ h => h) (Or.inl ⟨by kernel_rfl, ?_⟩) hS ?_
  · intro u _; go_simp
  try simp only [Act.put]
  refine wpAnyH_take (i := 9) (v := .string s) rfl (by kernel_rfl) (by kernel_rfl) (by kernel_rfl) (fun _ _ _ h => h) (Or.inl ⟨by kernel_rfl, ?_⟩) hS ?_
  · intro u _; go_simp
  try simp only [Act.put]
  refine wpAnyH_take (i := 10) (v := .int .u8 ((s[0]'h0).toNat : Nat)) rfl (by kernel_rfl) (by kernel_rfl) (by kernel_rfl) (fun _ _ _ h => h) (Or.inl ⟨by kernel_rfl, ?_⟩) hS ?_
  · intro u _; go_simp
  try simp only [Act.put]
  refine wpAnyH_take (i := 11) (v := .bool ((((s[0]'h0).toNat : Nat) : Int) != 48)) rfl (by kernel_rfl) (by kernel_rfl) (by kernel_rfl) (fun _ _ _ h => h) (Or.inl ⟨by kernel_rfl, ?_⟩) hS ?_
  · intro u _; go_simp
  try simp only [Act.put]
  refine wpAnyH_take (i := 12) (v := .bool ((((s[0]'h0).toNat : Nat) : Int) != 48)) rfl (by kernel_rfl) (by kernel_rfl) (by kernel_rfl) (fun _ _ _ h => h) (Or.inl ⟨by kernel_rfl, ?_⟩) hS ?_
  · intro u _; go_simp
  try simp only [Act.put]
  refine wpAnyH_take (i := 13) (v := .bool ((((s[0]'h0).toNat : Nat) : Int) != 48)) rfl (by kernel_rfl) (by kernel_rfl) (by kernel_rfl) (fun _ _ _ h => h) (Or.inl ⟨by kernel_rfl, ?_⟩) hS ?_
  · intro u _; go_simp
  try simp only [Act.put]
  refine wpAnyH_ready (rs := [14]) (by kernel_rfl) (by simp) ?_
  refine AllReadyH.cons rfl (fun K hK => ?_) AllReadyH.nil
  go_simp
  refine hK.out _ _ trivial (fun hS => ?_)
  clear hK K
  try simp only [Act.put]
  refine wpAnyH_ready (rs := [15]) (by kernel_rfl) (by simp) ?_
  refine AllReadyH.cons rfl (fun K hK => ?_) AllReadyH.nil
  go_simp
  refine hK.out _ _ trivial (fun hS => ?_)
  clear hK K
  try simp only [Act.put]
  refine wpAnyH_done (by kernel_rfl) ?_ _
  go_wp2
  refine bodyPost_ret (v := .tuple #[tkV 3 s (numV (bs s) : Nat) 0, .bool ((((s[0]'h0).toNat : Nat) : Int) != 48)]) (by simp [results, Tryz.results36, go_sem, tkV, c0, c1, c2, c3]) rfl ⟨rfl, (put4_below (Nat.le_refl _) hb1 _ _ _ _).drew⟩
set_option maxHeartbeats 2000000 in
theorem lnum_big (s : ByteArray) (w : World) (h0 : 0 < s.size) (hs : s.size ≤ 281474976710656) (hp : Lib.parseIntB 64 s.data.toList = .range) (hv : Vs w) :
    Calls Tryz.prog 36 #[.string s] w fun e w' => (∃ n, e = .returned (.tuple #[tkV 3 s n 0, .bool false])) ∧ Below w.heap.size w w' := by
  obtain ⟨tp, pv, hv⟩ := hv.err
  have hh : (bs s).head? = some (s[0]'h0) := by
    have := bs_drop s 0 h0
    rw [List.drop_zero] at this; rw [this]; rfl
  have B0 := B4.new w (.int .i64 0) (.string ⟨#[]⟩) (.int .i64 0) (.int .i64 0) 62
  have hb0 := below_alloc w (.cells #[.int .i64 0, .string ⟨#[]⟩, .int .i64 0, .int .i64 0] 62)
  have hv1 : (w.alloc (.cells #[.int .i64 0, .string ⟨#[]⟩, .int .i64 0, .int .i64 0] 62)).var? Tryz.prog "strconv.ErrRange" = some #[.iface tp pv] := Joins.var_stays Tryz.errNamed hv hb0 (Nat.le_refl _)
  go_enter Tryz.func36, Tryz.ntmps36
  go_wp2_with fail
  refine (Tryz.strconv_ParseInt_10_at64_range_var s hs hp tp pv _ hv1).mono ?_
  rintro e w1 ⟨N, rfl, _, _, hb⟩
  obtain ⟨c0, c1, c2, c3, f0, f1, f2, f3⟩ := B0.kept hb
  have hb1 := nxt hb0 hb
  clear hb B0 hb0 hv1
  go_wp2_with fail
  refine wp_region_held_drew (S := fun _ : World => True) (by kernel_rfl) trivial (fun hS => ?_)
  refine wpAnyH_take (i := 0) (v := .string s) rfl (by kernel_rfl) (by kernel_rfl) (by kernel_rfl) (fun _ _ _ h => h) (Or.inl ⟨by kernel_rfl, ?_⟩) hS ?_
  · intro u _; go_simp
  try simp only [Act.put]
  refine wpAnyH_take (i := 1) (v := .int .i64 (Lib.intSat 64 s.data.toList)) rfl (by kernel_rfl) (by kernel_rfl) (by kernel_rfl) (fun _ _ _ h => h) (Or.inl ⟨by kernel_rfl, ?_⟩) hS ?_
  · intro u _; go_simp
  try simp only [Act.put]
  refine wpAnyH_take (i := 2) (v := .agg #[.int .i64 3, .string s, .int .i64 (Lib.intSat 64 s.data.toList), .int .i64 0]) rfl (by kernel_rfl) (by kernel_rfl) (by kernel_rfl) (fun _ _ _ h => h) (Or.inl ⟨by kernel_rfl, ?_⟩) hS ?_
  · intro u _; go_simp
  try simp only [Act.put]
  refine wpAnyH_take (i := 3) (v := .iface 141 (.pointer (some ⟨N, 0, none⟩))) rfl (by kernel_rfl) (by kernel_rfl) (by kernel_rfl) (fun _ _ _ h => h) (Or.inl ⟨by kernel_rfl, ?_⟩) hS ?_
  · intro u _; go_simp
  try simp only [Act.put]
  refine wpAnyH_take (i := 4) (v := .bool false) rfl (by kernel_rfl) (by kernel_rfl) (by kernel_rfl) (fun _ _ _ h => h) (Or.inl ⟨by kernel_rfl, ?_⟩) hS ?_
  · intro u _; go_simp
  try simp only [Act.put]
  refine wpAnyH_take (i := 5) (v := .bool false) rfl (by kernel_rfl) (by kernel_rfl) (by kernel_rfl) (fun _ _ _ h => h) (Or.inl ⟨by kernel_rfl, ?_⟩) hS ?_
  · intro u _; go_simp
  try simp only [Act.put]
  refine wpAnyH_take (i := 6) (v := undef) rfl (by kernel_rfl) (by kernel_rfl) (by kernel_rfl) (fun _ _ _ h => h) (Or.inr ⟨by kernel_rfl, rfl⟩) hS ?_
  try simp only [Act.put]
  refine wpAnyH_take (i := 7) (v := undef) rfl (by kernel_rfl) (by kernel_rfl) (by kernel_rfl) (fun _ _ _ h => h) (Or.inr ⟨by kernel_rfl, rfl⟩) hS ?_
  try simp only [Act.put]
  refine wpAnyH_take (i := 8) (v := undef) rfl (by kernel_rfl) (by kernel_rfl) (by kernel_rfl) (fun _ _ _ h => h) (Or.inr ⟨by kernel_rfl, rfl⟩) hS ?_
  try simp only [Act.put]
  refine wpAnyH_take (i := 9) (v := undef) rfl (by kernel_rfl) (by kernel_rfl) (by kernel_rfl) (fun _ _ _ h => h) (Or.inr ⟨by kernel_rfl, rfl⟩) hS ?_
  try simp only [Act.put]
  refine wpAnyH_take (i := 10) (v := undef) rfl (by kernel_rfl) (by kernel_rfl) (by kernel_rfl) (fun _ _ _ h => h) (Or.inr ⟨by kernel_rfl, rfl⟩) hS ?_
  try simp only [Act.put]
  refine wpAnyH_take (i := 11) (v := undef) rfl (by kernel_rfl) (by kernel_rfl) (by kernel_rfl) (fun _ _ _ h => h) (Or.inr ⟨by kernel_rfl, rfl⟩) hS ?_
  try simp only [Act.put]
  refine wpAnyH_take (i := 12) (v := undef) rfl (by kernel_rfl) (by kernel_rfl) (by kernel_rfl) (fun _ _ _ h => h) (Or.inr ⟨by kernel_rfl, rfl⟩) hS ?_
  try simp only [Act.put]
  refine wpAnyH_take (i := 13) (v := .bool false) rfl (by kernel_rfl) (by kernel_rfl) (by kernel_rfl) (fun _ _ _ h => h) (Or.inl ⟨by kernel_rfl, ?_⟩) hS ?_
  · intro u _; go_simp
  try simp only [Act.put]
  refine wpAnyH_ready (rs := [14]) (by kernel_rfl) (by simp) ?_
  refine AllReadyH.cons rfl (fun K hK => ?_) AllReadyH.nil
  go_simp
  refine hK.out _ _ trivial (fun hS => ?_)
  clear hK K
  try simp only [Act.put]
  refine wpAnyH_ready (rs := [15]) (by kernel_rfl) (by simp) ?_
  refine AllReadyH.cons rfl (fun K hK => ?_) AllReadyH.nil
  go_simp
  refine hK.out _ _ trivial (fun hS => ?_)
  clear hK K
  try simp only [Act.put]
  refine wpAnyH_done (by kernel_rfl) ?_ _
  go_wp2
  refine bodyPost_ret (v := .tuple #[tkV 3 s (Lib.intSat 64 s.data.toList) 0, .bool false]) (by simp [results, Tryz.results36, go_sem, tkV, c0, c1, c2, c3]) rfl ⟨⟨_, rfl⟩, (put4_below (Nat.le_refl _) hb1 _ _ _ _).drew⟩
end Go.Proofs.YtcoeefckldkbeaaGreatDoor
