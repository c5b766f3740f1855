/- Layer 5, plain: the words of a text, as lists of bytes. No program is named here. -/
import Derived.WalkKit
import Derived.Test.YtgpaeilnpeflaaaDoorP2
import Derived.Lib.OthersKept
namespace Go.Proofs.YtgpaeilnpeflaaaDoor

def al (c : UInt8) : Bool := (decide (97 ≤ c.toNat) && decide (c.toNat ≤ 122)) || (decide (65 ≤ c.toNat) && decide (c.toNat ≤ 90))
def dig (c : UInt8) : Bool := decide (48 ≤ c.toNat) && decide (c.toNat ≤ 57)
def gk (c d : UInt8) : Bool := (c.toNat == 206 && (decide (177 ≤ d.toNat) && decide (d.toNat ≤ 191))) || (c.toNat == 207 && (decide (128 ≤ d.toNat) && decide (d.toNat ≤ 137)))
def bl (c : UInt8) : Bool := c.toNat == 32 || (c.toNat == 9 || c.toNat == 10)
/-- The bytes of the letter that a text begins with; 0: there is none. -/
def lsz : List UInt8 → Nat
  | [] => 0
  | c :: r => if al c then 1 else match r with
    | [] => 0
    | d :: _ => if gk c d then 2 else 0
/-- The bytes of the letters and digits that a text begins with. -/
def nmLen : List UInt8 → Nat
  | [] => 0
  | [c] => if al c || dig c then 1 else 0
  | c :: d :: r => if al c || dig c then nmLen (d :: r) + 1 else if gk c d then nmLen r + 2 else 0
/-- How many they are. -/
def nmCnt : List UInt8 → Nat
  | [] => 0
  | [c] => if al c || dig c then 1 else 0
  | c :: d :: r => if al c || dig c then nmCnt (d :: r) + 1 else if gk c d then nmCnt r + 1 else 0
def dgLen : List UInt8 → Nat
  | [] => 0
  | c :: r => if dig c then dgLen r + 1 else 0
def numF (a : Nat) : List UInt8 → Nat
  | [] => a
  | c :: r => numF (10 * a + (c.toNat - 48)) r
def numV (l : List UInt8) : Nat := numF 0 l
def lg (c d : UInt8) : Bool := (c.toNat == 61 && d.toNat == 61) || ((c.toNat == 61 && d.toNat == 62) || ((c.toNat == 45 && d.toNat == 62) || (c.toNat == 58 && d.toNat == 61)))
def sgs : List UInt8 := [40, 41, 91, 93, 123, 125, 60, 62, 44, 59, 58, 64, 33, 61, 43, 45, 42, 47, 37]
def sg (c : UInt8) : Bool := sgs.contains c
def sgLen : List UInt8 → Nat
  | [] => 0
  | [c] => if sg c then 1 else 0
  | c :: d :: _ => if lg c d then 2 else if sg c then 1 else 0
def kws : List (List UInt8) := [[108, 97, 116, 116, 105, 99, 101], [109, 97, 105, 110], [108, 101, 116], [105, 110], [105, 102], [116, 104, 101, 110], [101, 108, 115, 101], [102, 117, 110], [101, 110, 100], [114, 97, 105, 115, 101], [116, 114, 121], [119, 105, 116, 104], [111, 117, 116], [110, 101, 119], [110, 111, 116], [102, 115, 116], [115, 110, 100], [116, 114, 117, 101], [102, 97, 108, 115, 101], [105, 110, 116], [98, 111, 111, 108], [114, 101, 102], [110, 111, 110, 101]]
def kw (t : List UInt8) : Bool := kws.contains t
def remLen : List UInt8 → Nat
  | [] => 0
  | c :: r => if c.toNat == 10 then 0 else remLen r + 1
/-- The word that a text begins with: its kind, its bytes, its number. -/
def nextW (l : List UInt8) : Option (Nat × Nat × Nat) :=
  if 0 < lsz l then (if nmCnt l ≤ 16 then some (if kw (l.take (nmLen l)) then 2 else 1, nmLen l, 0) else none)
  else if 0 < dgLen l then (if numV (l.take (dgLen l)) ≤ 9223372036854775807 ∧ (dgLen l = 1 ∨ l.head? ≠ some 48) then some (3, dgLen l, numV (l.take (dgLen l))) else none)
  else if 0 < sgLen l then some (4, sgLen l, 0) else none

structure Tk where
  k : Nat
  t : List UInt8
  n : Nat
  a : Nat
inductive Rs where
  | ok (ts : List Tk)
  | bad (a : Nat) (e : Nat)
def rd : Nat → List UInt8 → Nat → List Tk → Rs
  | 0, _, _, acc => .ok acc
  | _ + 1, [], _, acc => .ok acc
  | f + 1, c :: r, a, acc =>
    if bl c then rd f r (a + 1) acc
    else if c.toNat == 35 then rd f ((c :: r).drop (remLen (c :: r))) (a + remLen (c :: r)) acc
    else match nextW (c :: r) with
      | none => .bad a 2
      | some (k, m, n) => if 2000 ≤ acc.length then .bad a 7 else rd f ((c :: r).drop m) (a + m) (acc ++ [⟨k, (c :: r).take m, n, a⟩])

theorem al_iff (c : UInt8) : al c = true ↔ (97 ≤ c.toNat ∧ c.toNat ≤ 122) ∨ (65 ≤ c.toNat ∧ c.toNat ≤ 90) := by
  unfold al; simp only [Bool.or_eq_true, Bool.and_eq_true, decide_eq_true_eq]
theorem dig_iff (c : UInt8) : dig c = true ↔ 48 ≤ c.toNat ∧ c.toNat ≤ 57 := by
  unfold dig; simp only [Bool.and_eq_true, decide_eq_true_eq]
theorem gk_iff (c d : UInt8) : gk c d = true ↔ (c.toNat = 206 ∧ 177 ≤ d.toNat ∧ d.toNat ≤ 191) ∨ (c.toNat = 207 ∧ 128 ≤ d.toNat ∧ d.toNat ≤ 137) := by
  unfold gk; simp only [Bool.or_eq_true, Bool.and_eq_true, decide_eq_true_eq, beq_iff_eq]
theorem bl_iff (c : UInt8) : bl c = true ↔ c.toNat = 32 ∨ c.toNat = 9 ∨ c.toNat = 10 := by
  unfold bl; simp only [Bool.or_eq_true, beq_iff_eq]

theorem nm_le : ∀ l : List UInt8, nmLen l ≤ l.length
  | [] => Nat.le_refl _
  | [c] => by unfold nmLen; split <;> simp
  | c :: d :: r => by
    unfold nmLen
    have h1 := nm_le (d :: r); have h2 := nm_le r
    simp only [List.length_cons] at *
    split
    · omega
    · split <;> omega
theorem dg_le : ∀ l : List UInt8, dgLen l ≤ l.length
  | [] => Nat.le_refl _
  | c :: r => by unfold dgLen; have := dg_le r; simp only [List.length_cons]; split <;> omega
theorem sg_le (l : List UInt8) : sgLen l ≤ l.length := by
  match l with
  | [] => exact Nat.le_refl _
  | [c] => simp only [sgLen, List.length_cons, List.length_nil]; split <;> omega
  | c :: d :: r => simp only [sgLen, List.length_cons]; split <;> (try split) <;> omega
theorem rem_le : ∀ l : List UInt8, remLen l ≤ l.length
  | [] => Nat.le_refl _
  | c :: r => by unfold remLen; have := rem_le r; simp only [List.length_cons]; split <;> omega
theorem rem_pos (c : UInt8) (r : List UInt8) (h : (c.toNat == 35) = true) : 1 ≤ remLen (c :: r) := by
  unfold remLen
  have : c.toNat = 35 := by simpa using h
  rw [if_neg (by simp; omega)]; omega
theorem lsz_nm (l : List UInt8) (h : 0 < lsz l) : lsz l ≤ nmLen l ∧ 1 ≤ nmCnt l := by
  match l with
  | [] => simp [lsz] at h
  | [c] => unfold lsz at h ⊢; by_cases hc : al c = true <;> simp [hc, nmLen, nmCnt] at h ⊢
  | c :: d :: r =>
    unfold lsz at h ⊢
    by_cases hc : al c = true
    · simp [hc, nmLen, nmCnt]
    · by_cases hg : gk c d = true
      · have hd : dig c = false := by
          rw [← Bool.not_eq_true, dig_iff]; have := (gk_iff c d).1 hg; omega
        simp [hc, hg, hd, nmLen, nmCnt]
      · simp [hc, hg] at h
theorem nextW_le {l : List UInt8} {k m n : Nat} (h : nextW l = some (k, m, n)) : 1 ≤ m ∧ m ≤ l.length := by
  unfold nextW at h
  split at h
  · rename_i hl
    split at h
    · simp only [Option.some.injEq, Prod.mk.injEq] at h
      obtain ⟨_, rfl, _⟩ := h
      have := lsz_nm l hl
      exact ⟨by omega, nm_le l⟩
    · cases h
  · split at h
    · split at h
      · simp only [Option.some.injEq, Prod.mk.injEq] at h
        obtain ⟨_, rfl, _⟩ := h
        exact ⟨by omega, dg_le l⟩
      · cases h
    · split at h
      · simp only [Option.some.injEq, Prod.mk.injEq] at h
        obtain ⟨_, rfl, _⟩ := h
        exact ⟨by omega, sg_le l⟩
      · cases h

theorem rd_fuel : ∀ (f g : Nat) (l : List UInt8) (a : Nat) (acc : List Tk), l.length ≤ f → l.length ≤ g → rd f l a acc = rd g l a acc
  | 0, 0, _, _, _, _, _ => rfl
  | 0, _ + 1, [], _, _, _, _ => rfl
  | 0, _ + 1, _ :: _, _, _, h, _ => by simp at h
  | _ + 1, 0, [], _, _, _, _ => rfl
  | _ + 1, 0, _ :: _, _, _, _, h => by simp at h
  | _ + 1, _ + 1, [], _, _, _, _ => rfl
  | f + 1, g + 1, c :: r, a, acc, hf, hg => by
    simp only [List.length_cons] at hf hg
    unfold rd
    split
    · exact rd_fuel f g r _ _ (by omega) (by omega)
    · split
      · rename_i h35
        have := rem_pos c r h35
        exact rd_fuel f g _ _ _ (by simp only [List.length_drop, List.length_cons]; omega) (by simp only [List.length_drop, List.length_cons]; omega)
      · split
        · rfl
        · rename_i k m n hn
          have := nextW_le hn
          split
          · rfl
          · exact rd_fuel f g _ _ _ (by simp only [List.length_drop, List.length_cons]; omega) (by simp only [List.length_drop, List.length_cons]; omega)

/-- The words from a place on, those of acc being read. -/
def R (l : List UInt8) (a : Nat) (acc : List Tk) : Rs := rd l.length l a acc
theorem R_nil (a : Nat) (acc : List Tk) : R [] a acc = .ok acc := rfl
theorem R_bl {c : UInt8} (r : List UInt8) (a : Nat) (acc : List Tk) (h : bl c = true) : R (c :: r) a acc = R r (a + 1) acc := by
  unfold R; simp only [List.length_cons]; rw [rd, if_pos h]
theorem bl_not35 {c : UInt8} (h : c.toNat = 35) : bl c = false := by
  rw [← Bool.not_eq_true, bl_iff]; omega
theorem R_rem {c : UInt8} (r : List UInt8) (a : Nat) (acc : List Tk) (h : c.toNat = 35) : R (c :: r) a acc = R ((c :: r).drop (remLen (c :: r))) (a + remLen (c :: r)) acc := by
  unfold R; simp only [List.length_cons]; rw [rd, if_neg (by simp [bl_not35 h]), if_pos (by simpa using h)]
  have := rem_pos c r (by simpa using h)
  exact rd_fuel _ _ _ _ _ (by simp only [List.length_drop, List.length_cons]; omega) (by simp)
theorem R_none {c : UInt8} (r : List UInt8) (a : Nat) (acc : List Tk) (h1 : bl c = false) (h2 : c.toNat ≠ 35) (h : nextW (c :: r) = none) : R (c :: r) a acc = .bad a 2 := by
  unfold R; simp only [List.length_cons]; rw [rd, if_neg (by simp [h1]), if_neg (by simpa using h2), h]
theorem R_full {c : UInt8} (r : List UInt8) (a : Nat) (acc : List Tk) {x : Nat × Nat × Nat} (h1 : bl c = false) (h2 : c.toNat ≠ 35) (h : nextW (c :: r) = some x) (hl : 2000 ≤ acc.length) : R (c :: r) a acc = .bad a 7 := by
  unfold R; simp only [List.length_cons]; rw [rd, if_neg (by simp [h1]), if_neg (by simpa using h2), h]; simp only [if_pos hl]
theorem R_word {c : UInt8} (r : List UInt8) (a : Nat) (acc : List Tk) {k m n : Nat} (h1 : bl c = false) (h2 : c.toNat ≠ 35) (h : nextW (c :: r) = some (k, m, n)) (hl : acc.length < 2000) :
    R (c :: r) a acc = R ((c :: r).drop m) (a + m) (acc ++ [⟨k, (c :: r).take m, n, a⟩]) := by
  unfold R; simp only [List.length_cons]; rw [rd, if_neg (by simp [h1]), if_neg (by simpa using h2), h]; simp only [if_neg (show ¬ 2000 ≤ acc.length by omega)]
  have := nextW_le h
  exact rd_fuel _ _ _ _ _ (by simp only [List.length_drop, List.length_cons] at *; omega) (by simp)
end Go.Proofs.YtgpaeilnpeflaaaDoor

/- Layer 5: the walks of lex.blank, inLine, digit, letter, inName, span. -/
namespace Go.Proofs.YtgpaeilnpeflaaaDoor
open Go.RowKit

def blankR (r : Int) : Bool := r == 32 || (r == 9 || r == 10)
def lineR (r : Int) : Bool := r != 10
def nameR (r : Int) : Bool := letterB r || digitB r

set_option maxHeartbeats 400000 in
theorem lblank_any (r : Int) (w : World) :
    Calls Tryd.prog 9 #[.int .i32 r] w fun e w' => e = .returned (.bool (blankR r)) ∧ w' = w := by
  go_enter Tryd.func9, Tryd.ntmps9
  go_wp2
  all_goals (go_ret; refine ⟨ret_bool ?_, rfl⟩; first | (subst_vars; rfl) | simp [blankR, Bool.or_assoc])
theorem inLine_any (r : Int) (w : World) :
    Calls Tryd.prog 11 #[.int .i32 r] w fun e w' => e = .returned (.bool (lineR r)) ∧ w' = w := by
  go_enter Tryd.func11, Tryd.ntmps11
  go_wp2
  all_goals (go_ret; exact ⟨ret_bool rfl, rfl⟩)
theorem ldigit_any (r : Int) (w : World) :
    Calls Tryd.prog 18 #[.int .i32 r] w fun e w' => e = .returned (.bool (digitB r)) ∧ w' = w := by
  go_enter Tryd.func18, Tryd.ntmps18
  go_wp2
  all_goals (go_ret; exact ⟨ret_bool (by unfold digitB; rw [Bool.eq_iff_iff]; simp; omega), rfl⟩)

theorem nameB_not {s : ByteArray} (h0 : 0 < s.size) (h : letterB (Utf8.decode s 0).1 = false) : nameB s = false := by
  unfold nameB
  exact nameFrom_bad (n := 0) (by omega) h0 (by simp [badRune, h])
theorem nameB_one {s : ByteArray} (h0 : 0 < s.size) (h : letterB (Utf8.decode s 0).1 = true) (hs : (Utf8.decode s 0).2 = s.size) : nameB s = true := by
  unfold nameB
  rw [nameFrom_good (n := 0) (by omega) h0 (by simp [badRune, h]), hs, nameFrom_end (by omega) (by omega)]
  rfl
theorem letterB_low {r : Int} (h : r < 65 ∨ (122 < r ∧ r < 945) ∨ 969 < r) : letterB r = false := by
  unfold letterB
  simp only [Bool.or_eq_false_iff, Bool.and_eq_false_iff, decide_eq_false_iff_not]
  omega
theorem enc_valid {r : Nat} (h : Utf8.valid r = true) : Utf8.encode r = (if r < 0x80 then ⟨#[UInt8.ofNat r]⟩ else if r < 0x800 then ⟨#[UInt8.ofNat (0xC0 + r / 64), UInt8.ofNat (0x80 + r % 64)]⟩
    else if r < 0x10000 then ⟨#[UInt8.ofNat (0xE0 + r / 4096), UInt8.ofNat (0x80 + r / 64 % 64), UInt8.ofNat (0x80 + r % 64)]⟩
    else ⟨#[UInt8.ofNat (0xF0 + r / 262144), UInt8.ofNat (0x80 + r / 4096 % 64), UInt8.ofNat (0x80 + r / 64 % 64), UInt8.ofNat (0x80 + r % 64)]⟩) := by
  unfold Utf8.encode
  simp only [h, if_true, Int.toNat_natCast]
theorem u8 (n : Nat) : (UInt8.ofNat n).toNat = n % 256 := UInt8.toNat_ofNat'
theorem dec1 (c : UInt8) (h : c.toNat < 128) : Utf8.decode ⟨#[c]⟩ 0 = (c.toNat, 1) := decode_ascii ⟨#[c]⟩ 0 Nat.zero_lt_one h
theorem nameB_enc (r : Nat) : nameB (Utf8.encode r) = letterB r := by
  by_cases hv : Utf8.valid r = true
  · have hle : r ≤ 1114111 := by
      unfold Utf8.valid at hv
      simp only [Bool.or_eq_true, Bool.and_eq_true, decide_eq_true_eq] at hv
      omega
    rw [enc_valid hv]
    split
    · have hd : Utf8.decode ⟨#[UInt8.ofNat r]⟩ 0 = (r, 1) := by
        rw [dec1 _ (by rw [u8]; omega), u8, Nat.mod_eq_of_lt (by omega)]
      by_cases hl : letterB r = true
      · rw [hl]; exact nameB_one (by show 0 < 1; omega) (by rw [hd]; exact hl) (by rw [hd]; rfl)
      · rw [Bool.not_eq_true] at hl
        rw [hl]; exact nameB_not (by show 0 < 1; omega) (by rw [hd]; exact hl)
    · split
      · have h1 : (UInt8.ofNat (0xC0 + r / 64)).toNat = 0xC0 + r / 64 := by rw [u8]; omega
        have h2 : (UInt8.ofNat (0x80 + r % 64)).toNat = 0x80 + r % 64 := by rw [u8]; omega
        by_cases hg : 945 ≤ r ∧ r ≤ 969
        · have hd := decode_greek (s := ⟨#[UInt8.ofNat (0xC0 + r / 64), UInt8.ofNat (0x80 + r % 64)]⟩) (i := 0) (by show 0 < 2; omega) (by show 1 < 2; omega) (by
            show ((UInt8.ofNat (0xC0 + r / 64)).toNat = 206 ∧ 177 ≤ (UInt8.ofNat (0x80 + r % 64)).toNat ∧ (UInt8.ofNat (0x80 + r % 64)).toNat ≤ 191) ∨ ((UInt8.ofNat (0xC0 + r / 64)).toNat = 207 ∧ 128 ≤ (UInt8.ofNat (0x80 + r % 64)).toNat ∧ (UInt8.ofNat (0x80 + r % 64)).toNat ≤ 137)
            rw [h1, h2]; omega)
          replace hd : Utf8.decode ⟨#[UInt8.ofNat (0xC0 + r / 64), UInt8.ofNat (0x80 + r % 64)]⟩ 0 = (((UInt8.ofNat (0xC0 + r / 64)).toNat - 192) * 64 + ((UInt8.ofNat (0x80 + r % 64)).toNat - 128), 2) := hd
          rw [h1, h2] at hd
          have e : (0xC0 + r / 64 - 192) * 64 + (0x80 + r % 64 - 128) = r := by omega
          rw [e] at hd
          have hl : letterB r = true := letter_gr (by omega) (by omega)
          rw [hl]; exact nameB_one (by show 0 < 2; omega) (by rw [hd]; exact hl) (by rw [hd]; rfl)
        · have hl : letterB r = false := letterB_low (by omega)
          rw [hl]
          refine nameB_not (by show 0 < 2; omega) (decode_ge (by show 0 < 2; omega) (by show 128 ≤ (UInt8.ofNat (0xC0 + r / 64)).toNat; omega) ?_).1
          rintro ⟨_, hh⟩
          replace hh : ((UInt8.ofNat (0xC0 + r / 64)).toNat = 206 ∧ 177 ≤ (UInt8.ofNat (0x80 + r % 64)).toNat ∧ (UInt8.ofNat (0x80 + r % 64)).toNat ≤ 191) ∨ ((UInt8.ofNat (0xC0 + r / 64)).toNat = 207 ∧ 128 ≤ (UInt8.ofNat (0x80 + r % 64)).toNat ∧ (UInt8.ofNat (0x80 + r % 64)).toNat ≤ 137) := hh
          rw [h1, h2] at hh
          omega
      · have hl : letterB r = false := letterB_low (by omega)
        rw [hl]
        split
        · have h1 : (UInt8.ofNat (0xE0 + r / 4096)).toNat = 0xE0 + r / 4096 := by rw [u8]; omega
          refine nameB_not (by show 0 < 3; omega) (decode_ge (by show 0 < 3; omega) (by show 128 ≤ (UInt8.ofNat (0xE0 + r / 4096)).toNat; omega) ?_).1
          rintro ⟨_, hh⟩
          have h3 : (UInt8.ofNat (0xE0 + r / 4096)).toNat = 206 ∨ (UInt8.ofNat (0xE0 + r / 4096)).toNat = 207 := hh.elim (fun x => Or.inl x.1) (fun x => Or.inr x.1)
          omega
        · have h1 : (UInt8.ofNat (0xF0 + r / 262144)).toNat = 0xF0 + r / 262144 := by rw [u8]; omega
          refine nameB_not (by show 0 < 4; omega) (decode_ge (by show 0 < 4; omega) (by show 128 ≤ (UInt8.ofNat (0xF0 + r / 262144)).toNat; omega) ?_).1
          rintro ⟨_, hh⟩
          have h3 : (UInt8.ofNat (0xF0 + r / 262144)).toNat = 206 ∨ (UInt8.ofNat (0xF0 + r / 262144)).toNat = 207 := hh.elim (fun x => Or.inl x.1) (fun x => Or.inr x.1)
          omega
  · have hl : letterB r = false := by
      refine letterB_low ?_
      unfold Utf8.valid at hv
      simp only [Bool.or_eq_true, Bool.and_eq_true, decide_eq_true_eq] at hv
      omega
    have he : Utf8.encode r = ⟨#[239, 191, 189]⟩ := by
      unfold Utf8.encode
      rw [Bool.not_eq_true] at hv
      simp only [hv, Bool.false_eq_true, if_false, Utf8.runeError]
      decide
    rw [hl, he]
    decide

set_option maxHeartbeats 400000 in
theorem lletter_any (r : Nat) (w : World) :
    Calls Tryd.prog 15 #[.int .i32 r] w fun e w' => e = .returned (.bool (letterB r)) ∧ Below w.heap.size w w' := by
  have H : Hid (nameB (Utf8.encode r) = letterB r) := nameB_enc r
  go_enter Tryd.func15, Tryd.ntmps15
  go_wp2_with (go_at_call 28; refine (name_any _ _).mono ?_; rintro e w' ⟨rfl, hb⟩)
  go_ret
  exact ⟨ret_bool H.out, hb⟩
set_option maxHeartbeats 400000 in
theorem inName_any (r : Nat) (w : World) :
    Calls Tryd.prog 17 #[.int .i32 r] w fun e w' => e = .returned (.bool (nameR r)) ∧ Below w.heap.size w w' := by
  go_enter Tryd.func17, Tryd.ntmps17
  go_wp2_with (first
    | (go_at_call 15; refine (lletter_any _ _).mono ?_; rintro e w' ⟨rfl, hb⟩)
    | (go_at_call 18; refine (ldigit_any _ _).mono ?_; rintro e w' ⟨rfl, rfl⟩))
  all_goals (go_ret; refine ⟨ret_bool ?_, hb⟩; unfold nameR; simp_all)

/-- From a place on: where the runes end that are so. -/
def spn (p : Int → Bool) (s : ByteArray) : Nat → Nat → Nat
  | 0, pos => pos
  | f + 1, pos => if pos < s.size then (if p (Utf8.decode s pos).1 then spn p s f (pos + (Utf8.decode s pos).2) else pos) else s.size

/-- What a function of runes answers. -/
def PredB (g : Nat) (p : Int → Bool) : Prop := ∀ (r : Nat) (w : World), Calls Tryd.prog g #[.int .i32 r] w fun e w' => e = .returned (.bool (p r)) ∧ Below w.heap.size w w'
theorem line_pred : PredB 11 lineR := fun r w => (inLine_any r w).mono (by rintro e w' ⟨rfl, rfl⟩; exact ⟨rfl, Below.refl _ _⟩)
theorem digit_pred : PredB 18 digitB := fun r w => (ldigit_any r w).mono (by rintro e w' ⟨rfl, rfl⟩; exact ⟨rfl, Below.refl _ _⟩)
theorem name_pred : PredB 17 nameR := fun r w => inName_any r w
theorem dec_pos {s : ByteArray} {pos : Nat} (h : pos < s.size) : 1 ≤ (Utf8.decode s pos).2 := by
  by_cases hb : (s[pos]'h).toNat < 128
  · rw [decode_ascii s pos h hb]; exact Nat.le_refl _
  · exact (decode_high s pos h (by omega)).2

theorem spn_end {p : Int → Bool} {s : ByteArray} {f pos : Nat} (hf : 1 ≤ f) (h : ¬ pos < s.size) : spn p s f pos = s.size := by
  obtain ⟨m, rfl⟩ : ∃ m, f = m + 1 := ⟨f - 1, by omega⟩
  rw [spn, if_neg h]
theorem spn_no {p : Int → Bool} {s : ByteArray} {f pos : Nat} (hf : 1 ≤ f) (h : pos < s.size) (hp : p (Utf8.decode s pos).1 = false) : spn p s f pos = pos := by
  obtain ⟨m, rfl⟩ : ∃ m, f = m + 1 := ⟨f - 1, by omega⟩
  rw [spn, if_pos h, hp]; rfl
theorem spn_yes {p : Int → Bool} {s : ByteArray} {f pos : Nat} (hf : 1 ≤ f) (h : pos < s.size) (hp : p (Utf8.decode s pos).1 = true) : spn p s f pos = spn p s (f - 1) (pos + (Utf8.decode s pos).2) := by
  obtain ⟨m, rfl⟩ : ∃ m, f = m + 1 := ⟨f - 1, by omega⟩
  rw [spn, if_pos h, hp]; rfl
theorem iterPos_at {w : World} {k : Nat} {s : ByteArray} {pos : Nat} (h : w.heap[k]? = some (.stringIter s pos)) : w.iterPos k = pos := by
  unfold World.iterPos; rw [h]

set_option maxHeartbeats 1000000 in
theorem span_line (s : ByteArray) (w : World) :
    Calls Tryd.prog 10 #[.string s, .func (.func 11) #[] #[]] w fun e w' => e = .returned (.int .i64 (spn lineR s (s.size + 1) 0)) ∧ Below w.heap.size w w' := by
  go_enter Tryd.func10, Tryd.ntmps10
  go_wp2
  go_loopw [] (fun wr => ∃ (f pos : Nat), 1 ≤ f ∧ s.size + 1 ≤ f + pos ∧ wr.heap[w.heap.size]? = some (.stringIter s pos) ∧ Below w.heap.size w wr ∧ spn lineR s (s.size + 1) 0 = spn lineR s f pos) (fun wr => s.size + 1 - wr.iterPos w.heap.size)
  case atStart => exact ⟨s.size + 1, 0, by omega, by omega, World.iter_heap .., (Below.refl _ _).alloc (Nat.le_refl _) _, rfl⟩
  case round =>
    obtain ⟨f, pos, hf, hfp, hk, hb, hsp⟩ := hrel
    have hm := iterPos_at hk
    rw [hm]
    have HS : Hid (spn lineR s (s.size + 1) 0 = spn lineR s f pos ∧ Below w.heap.size w wr) := ⟨hsp, hb⟩
    clear hsp hm
    by_cases hlt : pos < s.size
    · have hnx := fun ty => Lib.run_next_any_at (P := Tryd.prog) wr w.heap.size s pos ty hk hlt
      have hk2 := Lib.iterAt_heap wr w.heap.size s pos (pos + (Utf8.decode s pos).2) hk
      have hb2 : Below w.heap.size w (wr.iterAt w.heap.size s (pos + (Utf8.decode s pos).2)) := Lib.below_iterAt hb (Nat.le_refl _) _ _
      clear hb
      go_wp2_with (go_at_call 11; refine (line_pred _ _).mono ?_; rintro e w' ⟨rfl, hb3⟩)
      · have t0 : (!lineR ((Utf8.decode s pos).1 : Nat)) = true := by assumption
        have t : lineR ((Utf8.decode s pos).1 : Nat) = false := by simpa using t0
        go_ret
        exact ⟨ret_int (by rw [HS.out.1, spn_no hf hlt t]), hb2.trans (hb3.mono (by rw [Lib.iterAt_size]; have := HS.out.2.size; omega))⟩
      · have t0 : (!lineR ((Utf8.decode s pos).1 : Nat)) = false := by assumption
        have t : lineR ((Utf8.decode s pos).1 : Nat) = true := by simpa using t0
        have hw : w.heap.size < (wr.iterAt w.heap.size s (pos + (Utf8.decode s pos).2)).heap.size := (Array.getElem?_eq_some_iff.1 hk2).1
        have hk3 := (hb3.block w.heap.size hw).trans hk2
        go_roundw
        case rel => exact ⟨f - 1, _, by omega, by have := dec_pos hlt; omega, hk3, hb2.trans (hb3.mono (by omega)), HS.out.1.trans (spn_yes hf hlt t)⟩
        case measure => rw [iterPos_at hk3]; have := dec_pos hlt; omega
    · have hnx := fun ty => Lib.run_next_end_at (P := Tryd.prog) wr w.heap.size s pos ty hk hlt
      go_wp2
      go_ret
      exact ⟨ret_int (by rw [HS.out.1, spn_end hf hlt]), HS.out.2⟩
set_option maxHeartbeats 1000000 in
theorem span_digit (s : ByteArray) (w : World) :
    Calls Tryd.prog 10 #[.string s, .func (.func 18) #[] #[]] w fun e w' => e = .returned (.int .i64 (spn digitB s (s.size + 1) 0)) ∧ Below w.heap.size w w' := by
  go_enter Tryd.func10, Tryd.ntmps10
  go_wp2
  go_loopw [] (fun wr => ∃ (f pos : Nat), 1 ≤ f ∧ s.size + 1 ≤ f + pos ∧ wr.heap[w.heap.size]? = some (.stringIter s pos) ∧ Below w.heap.size w wr ∧ spn digitB s (s.size + 1) 0 = spn digitB s f pos) (fun wr => s.size + 1 - wr.iterPos w.heap.size)
  case atStart => exact ⟨s.size + 1, 0, by omega, by omega, World.iter_heap .., (Below.refl _ _).alloc (Nat.le_refl _) _, rfl⟩
  case round =>
    obtain ⟨f, pos, hf, hfp, hk, hb, hsp⟩ := hrel
    have hm := iterPos_at hk
    rw [hm]
    have HS : Hid (spn digitB s (s.size + 1) 0 = spn digitB s f pos ∧ Below w.heap.size w wr) := ⟨hsp, hb⟩
    clear hsp hm
    by_cases hlt : pos < s.size
    · have hnx := fun ty => Lib.run_next_any_at (P := Tryd.prog) wr w.heap.size s pos ty hk hlt
      have hk2 := Lib.iterAt_heap wr w.heap.size s pos (pos + (Utf8.decode s pos).2) hk
      have hb2 : Below w.heap.size w (wr.iterAt w.heap.size s (pos + (Utf8.decode s pos).2)) := Lib.below_iterAt hb (Nat.le_refl _) _ _
      clear hb
      go_wp2_with (go_at_call 18; refine (digit_pred _ _).mono ?_; rintro e w' ⟨rfl, hb3⟩)
      · have t0 : (!digitB ((Utf8.decode s pos).1 : Nat)) = true := by assumption
        have t : digitB ((Utf8.decode s pos).1 : Nat) = false := by simpa using t0
        go_ret
        exact ⟨ret_int (by rw [HS.out.1, spn_no hf hlt t]), hb2.trans (hb3.mono (by rw [Lib.iterAt_size]; have := HS.out.2.size; omega))⟩
      · have t0 : (!digitB ((Utf8.decode s pos).1 : Nat)) = false := by assumption
        have t : digitB ((Utf8.decode s pos).1 : Nat) = true := by simpa using t0
        have hw : w.heap.size < (wr.iterAt w.heap.size s (pos + (Utf8.decode s pos).2)).heap.size := (Array.getElem?_eq_some_iff.1 hk2).1
        have hk3 := (hb3.block w.heap.size hw).trans hk2
        go_roundw
        case rel => exact ⟨f - 1, _, by omega, by have := dec_pos hlt; omega, hk3, hb2.trans (hb3.mono (by omega)), HS.out.1.trans (spn_yes hf hlt t)⟩
        case measure => rw [iterPos_at hk3]; have := dec_pos hlt; omega
    · have hnx := fun ty => Lib.run_next_end_at (P := Tryd.prog) wr w.heap.size s pos ty hk hlt
      go_wp2
      go_ret
      exact ⟨ret_int (by rw [HS.out.1, spn_end hf hlt]), HS.out.2⟩
set_option maxHeartbeats 1000000 in
theorem span_name (s : ByteArray) (w : World) :
    Calls Tryd.prog 10 #[.string s, .func (.func 17) #[] #[]] w fun e w' => e = .returned (.int .i64 (spn nameR s (s.size + 1) 0)) ∧ Below w.heap.size w w' := by
  go_enter Tryd.func10, Tryd.ntmps10
  go_wp2
  go_loopw [] (fun wr => ∃ (f pos : Nat), 1 ≤ f ∧ s.size + 1 ≤ f + pos ∧ wr.heap[w.heap.size]? = some (.stringIter s pos) ∧ Below w.heap.size w wr ∧ spn nameR s (s.size + 1) 0 = spn nameR s f pos) (fun wr => s.size + 1 - wr.iterPos w.heap.size)
  case atStart => exact ⟨s.size + 1, 0, by omega, by omega, World.iter_heap .., (Below.refl _ _).alloc (Nat.le_refl _) _, rfl⟩
  case round =>
    obtain ⟨f, pos, hf, hfp, hk, hb, hsp⟩ := hrel
    have hm := iterPos_at hk
    rw [hm]
    have HS : Hid (spn nameR s (s.size + 1) 0 = spn nameR s f pos ∧ Below w.heap.size w wr) := ⟨hsp, hb⟩
    clear hsp hm
    by_cases hlt : pos < s.size
    · have hnx := fun ty => Lib.run_next_any_at (P := Tryd.prog) wr w.heap.size s pos ty hk hlt
      have hk2 := Lib.iterAt_heap wr w.heap.size s pos (pos + (Utf8.decode s pos).2) hk
      have hb2 : Below w.heap.size w (wr.iterAt w.heap.size s (pos + (Utf8.decode s pos).2)) := Lib.below_iterAt hb (Nat.le_refl _) _ _
      clear hb
      go_wp2_with (go_at_call 17; refine (name_pred _ _).mono ?_; rintro e w' ⟨rfl, hb3⟩)
      · have t0 : (!nameR ((Utf8.decode s pos).1 : Nat)) = true := by assumption
        have t : nameR ((Utf8.decode s pos).1 : Nat) = false := by simpa using t0
        go_ret
        exact ⟨ret_int (by rw [HS.out.1, spn_no hf hlt t]), hb2.trans (hb3.mono (by rw [Lib.iterAt_size]; have := HS.out.2.size; omega))⟩
      · have t0 : (!nameR ((Utf8.decode s pos).1 : Nat)) = false := by assumption
        have t : nameR ((Utf8.decode s pos).1 : Nat) = true := by simpa using t0
        have hw : w.heap.size < (wr.iterAt w.heap.size s (pos + (Utf8.decode s pos).2)).heap.size := (Array.getElem?_eq_some_iff.1 hk2).1
        have hk3 := (hb3.block w.heap.size hw).trans hk2
        go_roundw
        case rel => exact ⟨f - 1, _, by omega, by have := dec_pos hlt; omega, hk3, hb2.trans (hb3.mono (by omega)), HS.out.1.trans (spn_yes hf hlt t)⟩
        case measure => rw [iterPos_at hk3]; have := dec_pos hlt; omega
    · have hnx := fun ty => Lib.run_next_end_at (P := Tryd.prog) wr w.heap.size s pos ty hk hlt
      go_wp2
      go_ret
      exact ⟨ret_int (by rw [HS.out.1, spn_end hf hlt]), HS.out.2⟩
end Go.Proofs.YtgpaeilnpeflaaaDoor
