/- Layer 5: the walks of lex.blank, inLine, digit, letter, inName, span. -/
import Derived.Test.YtcoeefckldkbeaaGreatDoorP5
import Derived.Test.YtcoeefckldkbeaaGreatDoorP20
import Derived.Lib.OthersKept
namespace Go.Proofs.YtcoeefckldkbeaaGreatDoor
open Go.RowKit

def blankR (r : Int) : Bool := r == 32 || (r == 9 || r == 10)
def lineR (r : Int) : Bool := r != 10
def nameR (r : Int) : Bool := letterB r || digitB r

set_option maxHeartbeats 400000 in
theorem lblank_any (r : Int) (w : World) :
    Calls Tryz.prog 23 #[.int .i32 r] w fun e w' => e = .returned (.bool (blankR r)) ∧ w' = w := by
  go_enter Tryz.func23, Tryz.ntmps23
  go_wp2
  all_goals (go_ret; refine ⟨ret_bool ?_, rfl⟩; first | (subst_vars; rfl) | simp [blankR, Bool.or_assoc])
theorem inLine_any (r : Int) (w : World) :
    Calls Tryz.prog 25 #[.int .i32 r] w fun e w' => e = .returned (.bool (lineR r)) ∧ w' = w := by
  go_enter Tryz.func25, Tryz.ntmps25
  go_wp2
  all_goals (go_ret; exact ⟨ret_bool rfl, rfl⟩)
theorem ldigit_any (r : Int) (w : World) :
    Calls Tryz.prog 35 #[.int .i32 r] w fun e w' => e = .returned (.bool (digitB r)) ∧ w' = w := by
  go_enter Tryz.func35, Tryz.ntmps35
  go_wp2
  all_goals (go_ret; exact ⟨ret_bool (by unfold digitB; rw [Bool.eq_iff_iff]; simp; omega), rfl⟩)

theorem nameB_not {s : ByteArray} (h0 : 0 < s.size) (h : letterB (Utf8.decode s 0).1 = false) : nameB s = false := by
  unfold nameB
  exact nameFrom_bad (n := 0) (by omega) h0 (by simp [badRune, h])
theorem nameB_one {s : ByteArray} (h0 : 0 < s.size) (h : letterB (Utf8.decode s 0).1 = true) (hs : (Utf8.decode s 0).2 = s.size) : nameB s = true := by
  unfold nameB
  rw [nameFrom_good (n := 0) (by omega) h0 (by simp [badRune, h]), hs, nameFrom_end (by omega) (by omega)]
  rfl
theorem letterB_low {r : Int} (h : r < 65 ∨ (122 < r ∧ r < 945) ∨ 969 < r) : letterB r = false := by
  unfold letterB
  simp only [Bool.or_eq_false_iff, Bool.and_eq_false_iff, decide_eq_false_iff_not]
  omega
theorem enc_valid {r : Nat} (h : Utf8.valid r = true) : Utf8.encode r = (if r < 0x80 then ⟨#[UInt8.ofNat r]⟩ else if r < 0x800 then ⟨#[UInt8.ofNat (0xC0 + r / 64), UInt8.ofNat (0x80 + r % 64)]⟩
    else if r < 0x10000 then ⟨#[UInt8.ofNat (0xE0 + r / 4096), UInt8.ofNat (0x80 + r / 64 % 64), UInt8.ofNat (0x80 + r % 64)]⟩
    else ⟨#[UInt8.ofNat (0xF0 + r / 262144), UInt8.ofNat (0x80 + r / 4096 % 64), UInt8.ofNat (0x80 + r / 64 % 64), UInt8.ofNat (0x80 + r % 64)]⟩) := by
  unfold Utf8.encode
  simp only [h, if_true, Int.toNat_natCast]
theorem u8 (n : Nat) : (UInt8.ofNat n).toNat = n % 256 := UInt8.toNat_ofNat'
theorem dec1 (c : UInt8) (h : c.toNat < 128) : Utf8.decode ⟨#[c]⟩ 0 = (c.toNat, 1) := decode_ascii ⟨#[c]⟩ 0 Nat.zero_lt_one h
theorem nameB_enc (r : Nat) : nameB (Utf8.encode r) = letterB r := by
  by_cases hv : Utf8.valid r = true
  · have hle : r ≤ 1114111 := by
      unfold Utf8.valid at hv
      simp only [Bool.or_eq_true, Bool.and_eq_true, decide_eq_true_eq] at hv
      omega
    rw [enc_valid hv]
    split
    · have hd : Utf8.decode ⟨#[UInt8.ofNat r]⟩ 0 = (r, 1) := by
        rw [dec1 _ (by rw [u8]; omega), u8, Nat.mod_eq_of_lt (by omega)]
      by_cases hl : letterB r = true
      · rw [hl]; exact nameB_one (by show 0 < 1; omega) (by rw [hd]; exact hl) (by rw [hd]; rfl)
      · rw [Bool.not_eq_true] at hl
        rw [hl]; exact nameB_not (by show 0 < 1; omega) (by rw [hd]; exact hl)
    · split
      · have h1 : (UInt8.ofNat (0xC0 + r / 64)).toNat = 0xC0 + r / 64 := by rw [u8]; omega
        have h2 : (UInt8.ofNat (0x80 + r % 64)).toNat = 0x80 + r % 64 := by rw [u8]; omega
        by_cases hg : 945 ≤ r ∧ r ≤ 969
        · have hd := decode_greek (s := ⟨#[UInt8.ofNat (0xC0 + r / 64), UInt8.ofNat (0x80 + r % 64)]⟩) (i := 0) (by show 0 < 2; omega) (by show 1 < 2; omega) (by
            show ((UInt8.ofNat (0xC0 + r / 64)).toNat = 206 ∧ 177 ≤ (UInt8.ofNat (0x80 + r % 64)).toNat ∧ (UInt8.ofNat (0x80 + r % 64)).toNat ≤ 191) ∨ ((UInt8.ofNat (0xC0 + r / 64)).toNat = 207 ∧ 128 ≤ (UInt8.ofNat (0x80 + r % 64)).toNat ∧ (UInt8.ofNat (0x80 + r % 64)).toNat ≤ 137)
            rw [h1, h2]; omega)
          replace hd : Utf8.decode ⟨#[UInt8.ofNat (0xC0 + r / 64), UInt8.ofNat (0x80 + r % 64)]⟩ 0 = (((UInt8.ofNat (0xC0 + r / 64)).toNat - 192) * 64 + ((UInt8.ofNat (0x80 + r % 64)).toNat - 128), 2) := hd
          rw [h1, h2] at hd
          have e : (0xC0 + r / 64 - 192) * 64 + (0x80 + r % 64 - 128) = r := by omega
          rw [e] at hd
          have hl : letterB r = true := letter_gr (by omega) (by omega)
          rw [hl]; exact nameB_one (by show 0 < 2; omega) (by rw [hd]; exact hl) (by rw [hd]; rfl)
        · have hl : letterB r = false := letterB_low (by omega)
          rw [hl]
          refine nameB_not (by show 0 < 2; omega) (decode_ge (by show 0 < 2; omega) (by show 128 ≤ (UInt8.ofNat (0xC0 + r / 64)).toNat; omega) ?_).1
          rintro ⟨_, hh⟩
          replace hh : ((UInt8.ofNat (0xC0 + r / 64)).toNat = 206 ∧ 177 ≤ (UInt8.ofNat (0x80 + r % 64)).toNat ∧ (UInt8.ofNat (0x80 + r % 64)).toNat ≤ 191) ∨ ((UInt8.ofNat (0xC0 + r / 64)).toNat = 207 ∧ 128 ≤ (UInt8.ofNat (0x80 + r % 64)).toNat ∧ (UInt8.ofNat (0x80 + r % 64)).toNat ≤ 137) := hh
          rw [h1, h2] at hh
          omega
      · have hl : letterB r = false := letterB_low (by omega)
        rw [hl]
        split
        · have h1 : (UInt8.ofNat (0xE0 + r / 4096)).toNat = 0xE0 + r / 4096 := by rw [u8]; omega
          refine nameB_not (by show 0 < 3; omega) (decode_ge (by show 0 < 3; omega) (by show 128 ≤ (UInt8.ofNat (0xE0 + r / 4096)).toNat; omega) ?_).1
          rintro ⟨_, hh⟩
          have h3 : (UInt8.ofNat (0xE0 + r / 4096)).toNat = 206 ∨ (UInt8.ofNat (0xE0 + r / 4096)).toNat = 207 := hh.elim (fun x => Or.inl x.1) (fun x => Or.inr x.1)
          omega
        · have h1 : (UInt8.ofNat (0xF0 + r / 262144)).toNat = 0xF0 + r / 262144 := by rw [u8]; omega
          refine nameB_not (by show 0 < 4; omega) (decode_ge (by show 0 < 4; omega) (by show 128 ≤ (UInt8.ofNat (0xF0 + r / 262144)).toNat; omega) ?_).1
          rintro ⟨_, hh⟩
          have h3 : (UInt8.ofNat (0xF0 + r / 262144)).toNat = 206 ∨ (UInt8.ofNat (0xF0 + r / 262144)).toNat = 207 := hh.elim (fun x => Or.inl x.1) (fun x => Or.inr x.1)
          omega
  · have hl : letterB r = false := by
      refine letterB_low ?_
      unfold Utf8.valid at hv
      simp only [Bool.or_eq_true, Bool.and_eq_true, decide_eq_true_eq] at hv
      omega
    have he : Utf8.encode r = ⟨#[239, 191, 189]⟩ := by
      unfold Utf8.encode
      rw [Bool.not_eq_true] at hv
      simp only [hv, Bool.false_eq_true, if_false, Utf8.runeError]
      decide
    rw [hl, he]
    decide

set_option maxHeartbeats 400000 in
theorem lletter_any (r : Nat) (w : World) :
    Calls Tryz.prog 32 #[.int .i32 r] w fun e w' => e = .returned (.bool (letterB r)) ∧ Below w.heap.size w w' := by
  have H : Hid (nameB (Utf8.encode r) = letterB r) := nameB_enc r
  go_enter Tryz.func32, Tryz.ntmps32
  go_wp2_with (go_at_call 46; refine (name_any _ _).mono ?_; rintro e w' ⟨rfl, hb⟩)
  go_ret
  exact ⟨ret_bool H.out, hb⟩
set_option maxHeartbeats 400000 in
theorem inName_any (r : Nat) (w : World) :
    Calls Tryz.prog 34 #[.int .i32 r] w fun e w' => e = .returned (.bool (nameR r)) ∧ Below w.heap.size w w' := by
  go_enter Tryz.func34, Tryz.ntmps34
  go_wp2_with (first
    | (go_at_call 32; refine (lletter_any _ _).mono ?_; rintro e w' ⟨rfl, hb⟩)
    | (go_at_call 35; refine (ldigit_any _ _).mono ?_; rintro e w' ⟨rfl, rfl⟩))
  all_goals (go_ret; refine ⟨ret_bool ?_, hb⟩; unfold nameR; simp_all)

/-- From a place on: where the runes end that are so. -/
def spn (p : Int → Bool) (s : ByteArray) : Nat → Nat → Nat
  | 0, pos => pos
  | f + 1, pos => if pos < s.size then (if p (Utf8.decode s pos).1 then spn p s f (pos + (Utf8.decode s pos).2) else pos) else s.size

/-- What a function of runes answers. -/
def PredB (g : Nat) (p : Int → Bool) : Prop := ∀ (r : Nat) (w : World), Calls Tryz.prog g #[.int .i32 r] w fun e w' => e = .returned (.bool (p r)) ∧ Below w.heap.size w w'
theorem line_pred : PredB 25 lineR := fun r w => (inLine_any r w).mono (by rintro e w' ⟨rfl, rfl⟩; exact ⟨rfl, Below.refl _ _⟩)
theorem digit_pred : PredB 35 digitB := fun r w => (ldigit_any r w).mono (by rintro e w' ⟨rfl, rfl⟩; exact ⟨rfl, Below.refl _ _⟩)
theorem name_pred : PredB 34 nameR := fun r w => inName_any r w
theorem dec_pos {s : ByteArray} {pos : Nat} (h : pos < s.size) : 1 ≤ (Utf8.decode s pos).2 := by
  by_cases hb : (s[pos]'h).toNat < 128
  · rw [decode_ascii s pos h hb]; exact Nat.le_refl _
  · exact (decode_high s pos h (by omega)).2

theorem spn_end {p : Int → Bool} {s : ByteArray} {f pos : Nat} (hf : 1 ≤ f) (h : ¬ pos < s.size) : spn p s f pos = s.size := by
  obtain ⟨m, rfl⟩ : ∃ m, f = m + 1 := ⟨f - 1, by omega⟩
  rw [spn, if_neg h]
theorem spn_no {p : Int → Bool} {s : ByteArray} {f pos : Nat} (hf : 1 ≤ f) (h : pos < s.size) (hp : p (Utf8.decode s pos).1 = false) : spn p s f pos = pos := by
  obtain ⟨m, rfl⟩ : ∃ m, f = m + 1 := ⟨f - 1, by omega⟩
  rw [spn, if_pos h, hp]; rfl
theorem spn_yes {p : Int → Bool} {s : ByteArray} {f pos : Nat} (hf : 1 ≤ f) (h : pos < s.size) (hp : p (Utf8.decode s pos).1 = true) : spn p s f pos = spn p s (f - 1) (pos + (Utf8.decode s pos).2) := by
  obtain ⟨m, rfl⟩ : ∃ m, f = m + 1 := ⟨f - 1, by omega⟩
  rw [spn, if_pos h, hp]; rfl
theorem iterPos_at {w : World} {k : Nat} {s : ByteArray} {pos : Nat} (h : w.heap[k]? = some (.stringIter s pos)) : w.iterPos k = pos := by
  unfold World.iterPos; rw [h]

set_option maxHeartbeats 1000000 in
theorem span_line (s : ByteArray) (w : World) :
    Calls Tryz.prog 24 #[.string s, .func (.func 25) #[] #[]] w fun e w' => e = .returned (.int .i64 (spn lineR s (s.size + 1) 0)) ∧ Below w.heap.size w w' := by
  go_enter Tryz.func24, Tryz.ntmps24
  go_wp2
  go_loopw [] (fun wr => ∃ (f pos : Nat), 1 ≤ f ∧ s.size + 1 ≤ f + pos ∧ wr.heap[w.heap.size]? = some (.stringIter s pos) ∧ Below w.heap.size w wr ∧ spn lineR s (s.size + 1) 0 = spn lineR s f pos) (fun wr => s.size + 1 - wr.iterPos w.heap.size)
  case atStart => exact ⟨s.size + 1, 0, by omega, by omega, World.iter_heap .., (Below.refl _ _).alloc (Nat.le_refl _) _, rfl⟩
  case round =>
    obtain ⟨f, pos, hf, hfp, hk, hb, hsp⟩ := hrel
    have hm := iterPos_at hk
    rw [hm]
    have HS : Hid (spn lineR s (s.size + 1) 0 = spn lineR s f pos ∧ Below w.heap.size w wr) := ⟨hsp, hb⟩
    clear hsp hm
    by_cases hlt : pos < s.size
    · have hnx := fun ty => Lib.run_next_any_at (P := Tryz.prog) wr w.heap.size s pos ty hk hlt
      have hk2 := Lib.iterAt_heap wr w.heap.size s pos (pos + (Utf8.decode s pos).2) hk
      have hb2 : Below w.heap.size w (wr.iterAt w.heap.size s (pos + (Utf8.decode s pos).2)) := Lib.below_iterAt hb (Nat.le_refl _) _ _
      clear hb
      go_wp2_with (go_at_call 25; refine (line_pred _ _).mono ?_; rintro e w' ⟨rfl, hb3⟩)
      · have t0 : (!lineR ((Utf8.decode s pos).1 : Nat)) = true := by assumption
        have t : lineR ((Utf8.decode s pos).1 : Nat) = false := by simpa using t0
        go_ret
        exact ⟨ret_int (by rw [HS.out.1, spn_no hf hlt t]), hb2.trans (hb3.mono (by rw [Lib.iterAt_size]; have := HS.out.2.size; omega))⟩
      · have t0 : (!lineR ((Utf8.decode s pos).1 : Nat)) = false := by assumption
        have t : lineR ((Utf8.decode s pos).1 : Nat) = true := by simpa using t0
        have hw : w.heap.size < (wr.iterAt w.heap.size s (pos + (Utf8.decode s pos).2)).heap.size := (Array.getElem?_eq_some_iff.1 hk2).1
        have hk3 := (hb3.block w.heap.size hw).trans hk2
        go_roundw
        case rel => exact ⟨f - 1, _, by omega, by have := dec_pos hlt; omega, hk3, hb2.trans (hb3.mono (by omega)), HS.out.1.trans (spn_yes hf hlt t)⟩
        case measure => rw [iterPos_at hk3]; have := dec_pos hlt; omega
    · have hnx := fun ty => Lib.run_next_end_at (P := Tryz.prog) wr w.heap.size s pos ty hk hlt
      go_wp2
      go_ret
      exact ⟨ret_int (by rw [HS.out.1, spn_end hf hlt]), HS.out.2⟩
set_option maxHeartbeats 1000000 in
theorem span_digit (s : ByteArray) (w : World) :
    Calls Tryz.prog 24 #[.string s, .func (.func 35) #[] #[]] w fun e w' => e = .returned (.int .i64 (spn digitB s (s.size + 1) 0)) ∧ Below w.heap.size w w' := by
  go_enter Tryz.func24, Tryz.ntmps24
  go_wp2
  go_loopw [] (fun wr => ∃ (f pos : Nat), 1 ≤ f ∧ s.size + 1 ≤ f + pos ∧ wr.heap[w.heap.size]? = some (.stringIter s pos) ∧ Below w.heap.size w wr ∧ spn digitB s (s.size + 1) 0 = spn digitB s f pos) (fun wr => s.size + 1 - wr.iterPos w.heap.size)
  case atStart => exact ⟨s.size + 1, 0, by omega, by omega, World.iter_heap .., (Below.refl _ _).alloc (Nat.le_refl _) _, rfl⟩
  case round =>
    obtain ⟨f, pos, hf, hfp, hk, hb, hsp⟩ := hrel
    have hm := iterPos_at hk
    rw [hm]
    have HS : Hid (spn digitB s (s.size + 1) 0 = spn digitB s f pos ∧ Below w.heap.size w wr) := ⟨hsp, hb⟩
    clear hsp hm
    by_cases hlt : pos < s.size
    · have hnx := fun ty => Lib.run_next_any_at (P := Tryz.prog) wr w.heap.size s pos ty hk hlt
      have hk2 := Lib.iterAt_heap wr w.heap.size s pos (pos + (Utf8.decode s pos).2) hk
      have hb2 : Below w.heap.size w (wr.iterAt w.heap.size s (pos + (Utf8.decode s pos).2)) := Lib.below_iterAt hb (Nat.le_refl _) _ _
      clear hb
      go_wp2_with (go_at_call 35; refine (digit_pred _ _).mono ?_; rintro e w' ⟨rfl, hb3⟩)
      · have t0 : (!digitB ((Utf8.decode s pos).1 : Nat)) = true := by assumption
        have t : digitB ((Utf8.decode s pos).1 : Nat) = false := by simpa using t0
        go_ret
        exact ⟨ret_int (by rw [HS.out.1, spn_no hf hlt t]), hb2.trans (hb3.mono (by rw [Lib.iterAt_size]; have := HS.out.2.size; omega))⟩
      · have t0 : (!digitB ((Utf8.decode s pos).1 : Nat)) = false := by assumption
        have t : digitB ((Utf8.decode s pos).1 : Nat) = true := by simpa using t0
        have hw : w.heap.size < (wr.iterAt w.heap.size s (pos + (Utf8.decode s pos).2)).heap.size := (Array.getElem?_eq_some_iff.1 hk2).1
        have hk3 := (hb3.block w.heap.size hw).trans hk2
        go_roundw
        case rel => exact ⟨f - 1, _, by omega, by have := dec_pos hlt; omega, hk3, hb2.trans (hb3.mono (by omega)), HS.out.1.trans (spn_yes hf hlt t)⟩
        case measure => rw [iterPos_at hk3]; have := dec_pos hlt; omega
    · have hnx := fun ty => Lib.run_next_end_at (P := Tryz.prog) wr w.heap.size s pos ty hk hlt
      go_wp2
      go_ret
      exact ⟨ret_int (by rw [HS.out.1, spn_end hf hlt]), HS.out.2⟩
set_option maxHeartbeats 1000000 in
theorem span_name (s : ByteArray) (w : World) :
    Calls Tryz.prog 24 #[.string s, .func (.func 34) #[] #[]] w fun e w' => e = .returned (.int .i64 (spn nameR s (s.size + 1) 0)) ∧ Below w.heap.size w w' := by
  go_enter Tryz.func24, Tryz.ntmps24
  go_wp2
  go_loopw [] (fun wr => ∃ (f pos : Nat), 1 ≤ f ∧ s.size + 1 ≤ f + pos ∧ wr.heap[w.heap.size]? = some (.stringIter s pos) ∧ Below w.heap.size w wr ∧ spn nameR s (s.size + 1) 0 = spn nameR s f pos) (fun wr => s.size + 1 - wr.iterPos w.heap.size)
  case atStart => exact ⟨s.size + 1, 0, by omega, by omega, World.iter_heap .., (Below.refl _ _).alloc (Nat.le_refl _) _, rfl⟩
  case round =>
    obtain ⟨f, pos, hf, hfp, hk, hb, hsp⟩ := hrel
    have hm := iterPos_at hk
    rw [hm]
    have HS : Hid (spn nameR s (s.size + 1) 0 = spn nameR s f pos ∧ Below w.heap.size w wr) := ⟨hsp, hb⟩
    clear hsp hm
    by_cases hlt : pos < s.size
    · have hnx := fun ty => Lib.run_next_any_at (P := Tryz.prog) wr w.heap.size s pos ty hk hlt
      have hk2 := Lib.iterAt_heap wr w.heap.size s pos (pos + (Utf8.decode s pos).2) hk
      have hb2 : Below w.heap.size w (wr.iterAt w.heap.size s (pos + (Utf8.decode s pos).2)) := Lib.below_iterAt hb (Nat.le_refl _) _ _
      clear hb
      go_wp2_with (go_at_call 34; refine (name_pred _ _).mono ?_; rintro e w' ⟨rfl, hb3⟩)
      · have t0 : (!nameR ((Utf8.decode s pos).1 : Nat)) = true := by assumption
        have t : nameR ((Utf8.decode s pos).1 : Nat) = false := by simpa using t0
        go_ret
        exact ⟨ret_int (by rw [HS.out.1, spn_no hf hlt t]), hb2.trans (hb3.mono (by rw [Lib.iterAt_size]; have := HS.out.2.size; omega))⟩
      · have t0 : (!nameR ((Utf8.decode s pos).1 : Nat)) = false := by assumption
        have t : nameR ((Utf8.decode s pos).1 : Nat) = true := by simpa using t0
        have hw : w.heap.size < (wr.iterAt w.heap.size s (pos + (Utf8.decode s pos).2)).heap.size := (Array.getElem?_eq_some_iff.1 hk2).1
        have hk3 := (hb3.block w.heap.size hw).trans hk2
        go_roundw
        case rel => exact ⟨f - 1, _, by omega, by have := dec_pos hlt; omega, hk3, hb2.trans (hb3.mono (by omega)), HS.out.1.trans (spn_yes hf hlt t)⟩
        case measure => rw [iterPos_at hk3]; have := dec_pos hlt; omega
    · have hnx := fun ty => Lib.run_next_end_at (P := Tryz.prog) wr w.heap.size s pos ty hk hlt
      go_wp2
      go_ret
      exact ⟨ret_int (by rw [HS.out.1, spn_end hf hlt]), HS.out.2⟩
end Go.Proofs.YtcoeefckldkbeaaGreatDoor

/- Layer 5, plain: what stands ahead of a place, and what may come behind it. -/
namespace Go.Proofs.YtcoeefckldkbeaaGreatDoor

theorem nm2 (c d : UInt8) (r : List UInt8) : nmLen (c :: d :: r) = if al c || dig c then nmLen (d :: r) + 1 else if gk c d then nmLen r + 2 else 0 := by rw [nmLen]
theorem nmCnt2 (c d : UInt8) (r : List UInt8) : nmCnt (c :: d :: r) = if al c || dig c then nmCnt (d :: r) + 1 else if gk c d then nmCnt r + 1 else 0 := by rw [nmCnt]
theorem dg1 (c : UInt8) (r : List UInt8) : dgLen (c :: r) = if dig c then dgLen r + 1 else 0 := by rw [dgLen]

theorem lsz1 (c : UInt8) : lsz [c] = if al c then 1 else 0 := rfl
theorem lsz2 (c d : UInt8) (r : List UInt8) : lsz (c :: d :: r) = if al c then 1 else if gk c d then 2 else 0 := rfl
theorem sg1 (c : UInt8) : sgLen [c] = if sg c then 1 else 0 := rfl
theorem sg2 (c d : UInt8) (r : List UInt8) : sgLen (c :: d :: r) = if lg c d then 2 else if sg c then 1 else 0 := rfl

theorem nm_app : ∀ t r : List UInt8, nmLen t = t.length → nmLen (t ++ r) = t.length + nmLen r ∧ nmCnt (t ++ r) = nmCnt t + nmCnt r
  | [], r, _ => by simp [nmCnt]
  | [c], [], h => by simp only [List.append_nil]; rw [h]; simp [nmLen, nmCnt]
  | [c], d :: r, h => by
    have hc : (al c || dig c) = true := by
      unfold nmLen at h; split at h
      · assumption
      · simp at h
    simp only [List.cons_append, List.nil_append, nmLen, nmCnt, hc, if_true, List.length_cons, List.length_nil]
    omega
  | c :: d :: t, r, h => by
    simp only [List.cons_append, nm2, nmCnt2] at h ⊢
    by_cases hc : (al c || dig c) = true
    · simp only [hc, if_true, List.length_cons] at h ⊢
      have := nm_app (d :: t) r (by simp only [List.length_cons]; omega)
      simp only [List.cons_append, List.length_cons] at this
      omega
    · simp only [hc, Bool.false_eq_true, if_false, List.length_cons] at h ⊢
      split at h
      · rename_i hg
        simp only [hg, if_true]
        have := nm_app t r (by omega)
        omega
      · omega
theorem nm_app' : ∀ t r : List UInt8, nmLen (t ++ r) = t.length → nmLen t = t.length ∧ nmLen r = 0
  | [], r, h => by simpa [nmLen] using h
  | [c], [], h => by simpa [nmLen] using h
  | [c], d :: r, h => by
    simp only [List.cons_append, List.nil_append, List.length_cons, List.length_nil] at h
    unfold nmLen at h
    by_cases hc : (al c || dig c) = true
    · simp only [hc, if_true] at h
      refine ⟨by simp [nmLen, hc], by omega⟩
    · simp only [hc, Bool.false_eq_true, if_false] at h
      split at h <;> omega
  | c :: d :: t, r, h => by
    simp only [List.cons_append, List.length_cons] at h
    unfold nmLen at h
    by_cases hc : (al c || dig c) = true
    · simp only [hc, if_true] at h
      have := nm_app' (d :: t) r (by simp only [List.cons_append, List.length_cons]; omega)
      refine ⟨?_, this.2⟩
      unfold nmLen
      simp only [hc, if_true, this.1, List.length_cons]
    · simp only [hc, Bool.false_eq_true, if_false] at h
      split at h
      · rename_i hg
        have := nm_app' t r (by omega)
        refine ⟨?_, this.2⟩
        unfold nmLen
        simp only [hc, hg, Bool.false_eq_true, if_false, if_true, this.1, List.length_cons]
      · omega
theorem cnt_zero {r : List UInt8} (h : nmLen r = 0) : nmCnt r = 0 := by
  match r with
  | [] => rfl
  | [c] => unfold nmLen at h; unfold nmCnt; split at h <;> simp_all
  | c :: d :: r =>
    unfold nmLen at h
    unfold nmCnt
    split at h
    · omega
    · split at h
      · omega
      · simp_all
theorem dg_app : ∀ t r : List UInt8, dgLen t = t.length → dgLen (t ++ r) = t.length + dgLen r
  | [], r, _ => by simp
  | c :: t, r, h => by
    unfold dgLen at h
    split at h
    · rename_i hc
      simp only [List.length_cons] at h
      have := dg_app t r (by omega)
      simp only [List.cons_append, List.length_cons, dg1]
      simp only [hc, if_true]; omega
    · simp at h
theorem dg_app' : ∀ t r : List UInt8, dgLen (t ++ r) = t.length → dgLen t = t.length ∧ dgLen r = 0
  | [], r, h => by simpa [dgLen] using h
  | c :: t, r, h => by
    simp only [List.cons_append, List.length_cons] at h
    unfold dgLen at h
    split at h
    · rename_i hc
      have := dg_app' t r (by omega)
      refine ⟨?_, this.2⟩
      unfold dgLen
      simp only [hc, if_true, this.1, List.length_cons]
    · omega
theorem dig_low {c : UInt8} (h : dig c = true) : al c = false ∧ ∀ d, gk c d = false := by
  have := (dig_iff c).1 h
  refine ⟨?_, fun d => ?_⟩
  · rw [← Bool.not_eq_true, al_iff]; omega
  · rw [← Bool.not_eq_true, gk_iff]; omega
theorem lsz_dig {c : UInt8} (r : List UInt8) (h : dig c = true) : lsz (c :: r) = 0 := by
  unfold lsz
  have := dig_low h
  cases r <;> simp [this.1, this.2]
theorem lsz_app (t r : List UInt8) (h0 : t ≠ []) (h : nmLen t = t.length) : lsz (t ++ r) = lsz t := by
  match t with
  | [] => exact absurd rfl h0
  | [c] =>
    unfold nmLen at h
    split at h
    · rename_i hc
      by_cases ha : al c = true
      · simp [lsz, ha]
      · have hd : dig c = true := by simpa [ha] using hc
        rw [List.cons_append, lsz_dig _ hd, lsz_dig _ hd]
    · simp at h
  | c :: d :: t => simp [lsz]
theorem sg_low {c : UInt8} (h : sg c = true) : al c = false ∧ dig c = false ∧ bl c = false ∧ c.toNat ≠ 35 ∧ c.toNat < 128 := by
  unfold sg sgs at h
  simp only [List.contains_eq_mem, List.mem_cons, List.not_mem_nil, or_false, decide_eq_true_eq] at h
  rcases h with h | h | h | h | h | h | h | h | h | h | h | h | h | h | h | h | h | h | h <;> subst h <;> decide
theorem lg_sg {c d : UInt8} (h : lg c d = true) : sg c = true := by
  unfold lg at h
  simp only [Bool.or_eq_true, Bool.and_eq_true, beq_iff_eq] at h
  have hc : c.toNat = 61 ∨ c.toNat = 45 ∨ c.toNat = 58 := by omega
  rcases hc with hc | hc | hc
  · have : c = 61 := UInt8.toNat_inj.1 hc
    subst this; decide
  · have : c = 45 := UInt8.toNat_inj.1 hc
    subst this; decide
  · have : c = 58 := UInt8.toNat_inj.1 hc
    subst this; decide
theorem lsz_sg {c : UInt8} (r : List UInt8) (h : sg c = true) : lsz (c :: r) = 0 := by
  have := sg_low h
  unfold lsz
  have hg : ∀ d, gk c d = false := fun d => by rw [← Bool.not_eq_true, gk_iff]; omega
  cases r <;> simp [this.1, hg]
theorem dg_sg {c : UInt8} (r : List UInt8) (h : sg c = true) : dgLen (c :: r) = 0 := by
  unfold dgLen; simp [(sg_low h).2.1]

/-- What comes behind does not go on with the word. -/
def Stp (k : Nat) (t r : List UInt8) : Prop :=
  if k = 3 then dgLen r = 0 else if k = 4 then (∀ c d r', t = [c] → r = d :: r' → lg c d = false) else nmLen r = 0

theorem take_app (t r : List UInt8) : (t ++ r).take t.length = t := by simp

theorem nextW_name {t : List UInt8} (r : List UInt8) (h0 : t ≠ []) (h1 : 0 < lsz t) (h2 : nmLen t = t.length) (h3 : nmLen r = 0) : nextW (t ++ r) = nextW t := by
  have a1 := lsz_app t r h0 h2
  obtain ⟨a2, a3⟩ := nm_app t r h2
  rw [h3] at a2; rw [cnt_zero h3] at a3
  unfold nextW
  rw [a1, if_pos h1, if_pos h1, a2, a3, h2, Nat.add_zero, Nat.add_zero, take_app, List.take_length]
theorem nextW_num {t : List UInt8} (r : List UInt8) (h1 : ¬ 0 < lsz t) (h2 : dgLen t = t.length) (h0 : 0 < dgLen t) (h3 : dgLen r = 0) : nextW (t ++ r) = nextW t := by
  have a2 := dg_app t r h2
  rw [h3] at a2
  match t, h0 with
  | c :: t', h0 =>
    have hc : dig c = true := by unfold dgLen at h0; split at h0; assumption; omega
    have a1 : lsz (c :: t' ++ r) = 0 := lsz_dig _ hc
    unfold nextW
    rw [a1, if_neg (by omega), if_neg h1, a2, Nat.add_zero, h2, take_app, List.take_length]
    rfl
theorem nextW_split (t r : List UInt8) (k n : Nat) : nextW (t ++ r) = some (k, t.length, n) ↔ nextW t = some (k, t.length, n) ∧ Stp k t r := by
  constructor
  · intro h
    have hl := nextW_le h
    have h0 : t ≠ [] := by intro e; subst e; simp at hl
    have hh := h
    unfold nextW at h
    split at h
    · rename_i hz
      split at h
      · simp only [Option.some.injEq, Prod.mk.injEq] at h
        obtain ⟨hk, hm, hn⟩ := h
        obtain ⟨b1, b2⟩ := nm_app' t r hm
        rw [lsz_app t r h0 b1] at hz
        refine ⟨(nextW_name r h0 hz b1 b2).symm.trans hh, ?_⟩
        unfold Stp
        have : k = 1 ∨ k = 2 := by rw [← hk]; split <;> simp
        rw [if_neg (by omega), if_neg (by omega)]; exact b2
      · cases h
    · rename_i hz
      split at h
      · rename_i hd
        split at h
        · simp only [Option.some.injEq, Prod.mk.injEq] at h
          obtain ⟨hk, hm, hn⟩ := h
          obtain ⟨b1, b2⟩ := dg_app' t r hm
          have hz' : ¬ 0 < lsz t := by
            match t, h0 with
            | c :: t', _ =>
              have hc : dig c = true := by unfold dgLen at b1; split at b1; assumption; simp at b1
              rw [lsz_dig _ hc]; omega
          refine ⟨(nextW_num r hz' b1 (by omega) b2).symm.trans hh, ?_⟩
          unfold Stp
          rw [if_pos hk.symm]; exact b2
        · cases h
      · rename_i hd
        split at h
        · simp only [Option.some.injEq, Prod.mk.injEq] at h
          obtain ⟨hk, hm, hn⟩ := h
          subst hk hn
          match t, h0 with
          | [c], _ =>
            have hs : sg c = true ∧ ∀ d r', r = d :: r' → lg c d = false := by
              match r with
              | [] =>
                simp only [List.cons_append, List.nil_append, sgLen, List.length_cons, List.length_nil] at hm
                split at hm
                · exact ⟨by assumption, by intro d r' e; cases e⟩
                · omega
              | d :: r =>
                simp only [List.cons_append, List.nil_append, sgLen, List.length_cons, List.length_nil] at hm
                split at hm
                · omega
                · rename_i hl2
                  split at hm
                  · refine ⟨by assumption, ?_⟩
                    intro d' r' e; cases e; simpa using hl2
                  · omega
            refine ⟨?_, ?_⟩
            · unfold nextW
              rw [lsz_sg [] hs.1, if_neg (by omega), dg_sg [] hs.1, if_neg (by omega)]
              simp [sgLen, hs.1]
            · unfold Stp
              rw [if_neg (by omega), if_pos rfl]
              intro c' d r' e1 e2
              cases e1
              exact hs.2 d r' e2
          | [c, d], _ =>
            have hs : lg c d = true := by
              simp only [List.cons_append, List.nil_append, sgLen, List.length_cons, List.length_nil] at hm
              split at hm
              · assumption
              · split at hm <;> omega
            refine ⟨?_, ?_⟩
            · unfold nextW
              rw [lsz_sg _ (lg_sg hs), if_neg (by omega), dg_sg _ (lg_sg hs), if_neg (by omega)]
              simp [sgLen, hs]
            · unfold Stp
              rw [if_neg (by omega), if_pos rfl]
              intro c' d r' e1 e2
              cases e1
          | c :: d :: e :: t', _ =>
            simp only [List.cons_append, sgLen, List.length_cons] at hm
            split at hm
            · omega
            · split at hm <;> omega
        · cases h
  · rintro ⟨h, hs⟩
    have hl := nextW_le h
    have h0 : t ≠ [] := by intro e; subst e; simp at hl
    have hh := h
    unfold nextW at h
    split at h
    · rename_i hz
      split at h
      · simp only [Option.some.injEq, Prod.mk.injEq] at h
        obtain ⟨hk, hm, hn⟩ := h
        have : k = 1 ∨ k = 2 := by rw [← hk]; split <;> simp
        unfold Stp at hs
        rw [if_neg (by omega), if_neg (by omega)] at hs
        exact (nextW_name r h0 hz hm hs).trans hh
      · cases h
    · rename_i hz
      split at h
      · rename_i hd
        split at h
        · simp only [Option.some.injEq, Prod.mk.injEq] at h
          obtain ⟨hk, hm, hn⟩ := h
          unfold Stp at hs
          rw [if_pos hk.symm] at hs
          exact (nextW_num r hz hm hd hs).trans hh
        · cases h
      · rename_i hd
        split at h
        · simp only [Option.some.injEq, Prod.mk.injEq] at h
          obtain ⟨hk, hm, hn⟩ := h
          subst hk hn
          unfold Stp at hs
          rw [if_neg (by omega), if_pos rfl] at hs
          match t, h0 with
          | [c], _ =>
            have hc : sg c = true := by
              simp only [sgLen, List.length_cons, List.length_nil] at hm
              split at hm
              · assumption
              · omega
            simp only [List.cons_append, List.nil_append]
            unfold nextW
            rw [lsz_sg _ hc, if_neg (by omega), dg_sg _ hc, if_neg (by omega)]
            match r with
            | [] => simp [sgLen, hc]
            | d :: r => simp [sgLen, hc, hs c d r rfl rfl]
          | [c, d], _ =>
            have hc : lg c d = true := by
              simp only [sgLen, List.length_cons, List.length_nil] at hm
              split at hm
              · assumption
              · split at hm <;> omega
            simp only [List.cons_append, List.nil_append]
            unfold nextW
            rw [lsz_sg _ (lg_sg hc), if_neg (by omega), dg_sg _ (lg_sg hc), if_neg (by omega)]
            simp [sgLen, hc]
          | c :: d :: e :: t', _ =>
            simp only [sgLen, List.length_cons] at hm
            split at hm
            · omega
            · split at hm <;> omega
        · cases h

theorem lsz_head {c : UInt8} {r : List UInt8} (hz : 0 < lsz (c :: r)) : al c = true ∨ 128 ≤ c.toNat := by
  match r with
  | [] =>
    rw [lsz1] at hz
    split at hz
    · left; assumption
    · omega
  | d :: r =>
    rw [lsz2] at hz
    split at hz
    · left; assumption
    · split at hz
      · rename_i hg
        have := (gk_iff _ _).1 hg
        right; omega
      · omega
theorem sg_head {c : UInt8} {r : List UInt8} (hs : 0 < sgLen (c :: r)) : sg c = true := by
  match r with
  | [] =>
    rw [sg1] at hs
    split at hs
    · assumption
    · omega
  | d :: r =>
    rw [sg2] at hs
    split at hs
    · exact lg_sg (by assumption)
    · split at hs
      · assumption
      · omega
theorem dg_head {c : UInt8} {r : List UInt8} (hd : 0 < dgLen (c :: r)) : dig c = true := by
  rw [dg1] at hd; split at hd
  · assumption
  · omega
theorem nextW_head {c : UInt8} {r : List UInt8} {x : Nat × Nat × Nat} (h : nextW (c :: r) = some x) : bl c = false ∧ c.toNat ≠ 35 := by
  unfold nextW at h
  split at h
  · rename_i hz
    rw [← Bool.not_eq_true, bl_iff]
    rcases lsz_head hz with hc | hc
    · have := (al_iff c).1 hc; omega
    · omega
  · split at h
    · rename_i hd
      have := (dig_iff c).1 (dg_head hd)
      rw [← Bool.not_eq_true, bl_iff]; omega
    · split at h
      · rename_i hs
        have hc := sg_head hs
        exact ⟨(sg_low hc).2.2.1, (sg_low hc).2.2.2.1⟩
      · cases h
theorem nextW_one {c : UInt8} {k n : Nat} (h : nextW [c] = some (k, 1, n)) : c.toNat < 128 := by
  unfold nextW at h
  split at h
  · rename_i hz
    rw [lsz1] at hz
    split at hz
    · rename_i hc; have := (al_iff c).1 hc; omega
    · simp at hz
  · split at h
    · rename_i hd
      have := (dig_iff c).1 (dg_head hd); omega
    · split at h
      · rename_i hs
        exact (sg_low (sg_head hs)).2.2.2.2
      · cases h

/-- From a text p, ahead of q, these words are read. -/
inductive Rch (q : List UInt8) : List UInt8 → Nat → List Tk → Prop
  | nil (a : Nat) : Rch q [] a []
  | bl {c : UInt8} {p : List UInt8} {a : Nat} {ts : List Tk} (h : bl c = true) (hp : Rch q p (a + 1) ts) : Rch q (c :: p) a ts
  | rem {c : UInt8} {r p : List UInt8} {a : Nat} {ts : List Tk} (h : c.toNat = 35) (hr : ∀ x ∈ r, x.toNat ≠ 10) (he : p ++ q = [] ∨ ∃ x y, p ++ q = x :: y ∧ x.toNat = 10) (hp : Rch q p (a + (r.length + 1)) ts) : Rch q (c :: (r ++ p)) a ts
  | word {t p : List UInt8} {a k n : Nat} {ts : List Tk} (h : nextW (t ++ (p ++ q)) = some (k, t.length, n)) (hp : Rch q p (a + t.length) ts) : Rch q (t ++ p) a (⟨k, t, n, a⟩ :: ts)

theorem rem_eq : ∀ (r x : List UInt8), (∀ y ∈ r, y.toNat ≠ 10) → (x = [] ∨ ∃ y z, x = y :: z ∧ y.toNat = 10) → remLen (r ++ x) = r.length
  | [], x, _, h => by
    rcases h with rfl | ⟨y, z, rfl, hy⟩
    · rfl
    · simp [remLen, hy]
  | c :: r, x, hr, h => by
    simp only [List.cons_append, remLen]
    rw [if_neg (by simpa using hr c (by simp)), rem_eq r x (fun y hy => hr y (by simp [hy])) h]
    rfl
theorem Rch.run {q p : List UInt8} {a : Nat} {ts : List Tk} (h : Rch q p a ts) : ∀ acc : List Tk, acc.length + ts.length ≤ 2000 → R (p ++ q) a acc = R q (a + p.length) (acc ++ ts) := by
  induction h with
  | nil a => intro acc _; simp
  | bl h _ ih =>
    intro acc hl
    rw [List.cons_append, R_bl _ _ _ h, ih acc hl, List.length_cons]
    congr 1; omega
  | @rem c r p a ts h hr he _ ih =>
    intro acc hl
    have e : remLen (c :: (r ++ (p ++ q))) = r.length + 1 := by
      have := rem_eq (c :: r) (p ++ q) (fun y hy => by
        rcases List.mem_cons.1 hy with rfl | hy
        · omega
        · exact hr y hy) he
      simpa using this
    rw [List.cons_append, List.append_assoc, R_rem _ _ _ h, e, List.drop_succ_cons, List.drop_left, ih acc hl]
    simp only [List.length_cons, List.length_append]
    congr 1; omega
  | @word t p a k n ts h _ ih =>
    intro acc hl
    have hle := nextW_le h
    simp only [List.length_cons] at hl
    match t, hle, h with
    | c :: t', hle, h =>
      have hd := nextW_head (c := c) (r := t' ++ (p ++ q)) h
      rw [List.append_assoc]
      have e := R_word (c := c) (t' ++ (p ++ q)) a acc hd.1 hd.2 h (by omega)
      rw [← List.cons_append, List.drop_left, take_app] at e
      rw [e, ih _ (by simp only [List.length_append, List.length_cons, List.length_nil]; omega)]
      rw [List.length_append, List.append_assoc, Nat.add_assoc]
      rfl
end Go.Proofs.YtcoeefckldkbeaaGreatDoor
