/- Plain mathematics for layer 1: sets of labels as numbers below 256. No program is named here. -/
import Derived.WalkKit
import Derived.Test.YtmkncmmegjfipaaGreatDoorRows
import Derived.WalkSpells
import Derived.WalkLawsBesides
import Derived.Deep.QuietTactic
import Derived.BigQuiet
namespace Go.Proofs.YtmkncmmegjfipaaGreatDoor

theorem ret_int {k : IntKind} {a b : Int} (h : a = b) : Ending.returned (.int k a) = .returned (.int k b) := by rw [h]
theorem ret_bool {a b : Bool} (h : a = b) : Ending.returned (.bool a) = .returned (.bool b) := by rw [h]

def letterB (r : Int) : Bool := (decide (97 ≤ r) && decide (r ≤ 122)) || (decide (65 ≤ r) && decide (r ≤ 90)) || (decide (945 ≤ r) && decide (r ≤ 969))
def digitB (r : Int) : Bool := decide (48 ≤ r) && decide (r ≤ 57)

/-- x &^ y is nothing: just if all of x is in y. -/
theorem andNot_zero (a b : Nat) (ha : a < 256) (hb : b < 256) : (bits .andNot .u64 (a : Int) (b : Int) == 0) = (a &&& b == a) := by
  have h1 : (BitVec.ofInt 64 (a : Int)).toNat = a := by rw [BitVec.ofInt_natCast, BitVec.toNat_ofNat]; exact Nat.mod_eq_of_lt (by omega)
  have h2 : (BitVec.ofInt 64 (b : Int)).toNat = b := by rw [BitVec.ofInt_natCast, BitVec.toNat_ofNat]; exact Nat.mod_eq_of_lt (by omega)
  have e : bits .andNot .u64 (a : Int) (b : Int) = ((a &&& (2 ^ 64 - 1 - b) : Nat) : Int) := by
    show IntKind.u64.wrap ((BitVec.ofInt 64 (a : Int) &&& ~~~ BitVec.ofInt 64 (b : Int)).toNat : Int) = _
    have hx : a &&& (2 ^ 64 - 1 - b) < 2 ^ 64 := Nat.and_lt_two_pow _ (by omega)
    rw [BitVec.toNat_and, BitVec.toNat_not, h1, h2, IntKind.wrap_u64]
    omega
  rw [e, Bool.eq_iff_iff, beq_iff_eq, beq_iff_eq]
  constructor
  · intro h
    have h0 : a &&& (2 ^ 64 - 1 - b) = 0 := by omega
    apply Nat.eq_of_testBit_eq
    intro i
    have hi := congrArg (fun n => n.testBit i) h0
    simp only [Nat.testBit_and, Nat.zero_testBit] at hi ⊢
    by_cases h64 : i < 64
    · rw [show 2 ^ 64 - 1 - b = 2 ^ 64 - (b + 1) by omega, Nat.testBit_two_pow_sub_succ (by omega)] at hi
      simp [h64] at hi
      cases h3 : a.testBit i <;> simp_all
    · have : a.testBit i = false := Nat.testBit_lt_two_pow (Nat.lt_of_lt_of_le (show a < 2 ^ 64 by omega) (Nat.pow_le_pow_right (by omega) (by omega)))
      simp [this]
  · intro h
    have h0 : a &&& (2 ^ 64 - 1 - b) = 0 := by
      apply Nat.eq_of_testBit_eq
      intro i
      have hi := congrArg (fun n => n.testBit i) h
      simp only [Nat.testBit_and, Nat.zero_testBit] at hi ⊢
      by_cases h64 : i < 64
      · rw [show 2 ^ 64 - 1 - b = 2 ^ 64 - (b + 1) by omega, Nat.testBit_two_pow_sub_succ (by omega)]
        simp [h64]
        cases h3 : a.testBit i <;> simp_all
      · have : a.testBit i = false := Nat.testBit_lt_two_pow (Nat.lt_of_lt_of_le (show a < 2 ^ 64 by omega) (Nat.pow_le_pow_right (by omega) (by omega)))
        simp [this]
    rw [h0]; rfl

theorem and_u8 (a b : Nat) (ha : a < 256) (hb : b < 256) : bits .and .u64 (a : Int) (b : Int) = ((a &&& b : Nat) : Int) := bits_and_u64_nat a b (by omega) (by omega)
theorem or_u8 (a b : Nat) (ha : a < 256) (hb : b < 256) : bits .or .u64 (a : Int) (b : Int) = ((a ||| b : Nat) : Int) := bits_or_u64_nat a b (by omega) (by omega)
theorem and_lt8 (a b : Nat) (ha : a < 256) : a &&& b < 256 := Nat.lt_of_le_of_lt Nat.and_le_left ha

theorem has_bit (x a : Nat) : (bits .and .u64 ((x : Int) / 2 ^ a) 1 == 1) = x.testBit a ∨ ¬ x < 256 := by
  by_cases hx : x < 256
  · left
    have e : ((x : Int) / 2 ^ a) = ((x / 2 ^ a : Nat) : Int) := by simp
    have hl : x / 2 ^ a < 256 := Nat.lt_of_le_of_lt (Nat.div_le_self _ _) hx
    rw [e, show (1 : Int) = ((1 : Nat) : Int) from rfl, and_u8 _ _ hl (by omega), Nat.testBit_eq_decide_div_mod_eq, Nat.and_one_is_mod, Bool.eq_iff_iff]
    simp
    omega
  · right; exact hx

/-- The bits of the labels that p names. -/
def mask : Nat → (Nat → Bool) → Nat
  | 0, _ => 0
  | n + 1, p => mask n p + if p n then 2 ^ n else 0

theorem mask_lt (n : Nat) (p : Nat → Bool) : mask n p < 2 ^ n := by
  induction n with
  | zero => simp [mask]
  | succ n ih => simp only [mask]; rw [Nat.pow_succ]; split <;> omega

theorem mask_bit (n : Nat) (p : Nat → Bool) (i : Nat) : (mask n p).testBit i = (decide (i < n) && p i) := by
  induction n with
  | zero => simp [mask]
  | succ n ih =>
    have hl := mask_lt n p
    simp only [mask]
    by_cases hp : p n = true
    · rw [if_pos hp, Nat.add_comm]
      by_cases hi : i = n
      · subst hi
        rw [Nat.testBit_two_pow_add_eq, Nat.testBit_lt_two_pow hl]; simp [hp]
      · by_cases hlt : i < n
        · rw [Nat.testBit_two_pow_add_gt hlt, ih]; simp [hlt, show i < n + 1 by omega]
        · have : (2 ^ n + mask n p).testBit i = false := Nat.testBit_lt_two_pow (Nat.lt_of_lt_of_le (show 2 ^ n + mask n p < 2 ^ (n + 1) by rw [Nat.pow_succ]; omega) (Nat.pow_le_pow_right (by omega) (by omega)))
          rw [this]; simp [show ¬ i < n + 1 by omega]
    · rw [if_neg hp, Nat.add_zero, ih]
      by_cases hi : i = n
      · subst hi; simp [hp]
      · simp [show (i < n + 1) = (i < n) by simp; omega]

theorem mask8_lt (p : Nat → Bool) : mask 8 p < 256 := mask_lt 8 p

theorem mask_congr (n : Nat) (p q : Nat → Bool) (h : ∀ i, i < n → p i = q i) : mask n p = mask n q := by
  induction n with
  | zero => rfl
  | succ n ih => simp only [mask]; rw [ih (fun i hi => h i (by omega)), h n (by omega)]

theorem mask_or (p : Nat → Bool) (i : Nat) (hi : i < 8) : mask 8 p ||| 2 ^ i = mask 8 (fun j => p j || j == i) := by
  apply Nat.eq_of_testBit_eq
  intro j
  rw [Nat.testBit_or, mask_bit, mask_bit, Nat.testBit_two_pow]
  by_cases h8 : j < 8
  · by_cases hji : j = i
    · subst hji; simp [h8]
    · simp [h8, hji, Ne.symm hji]
  · simp [h8]; omega

/-- nearest: the labels all together reach these. -/
def andAll (R : Nat → Nat) (ls : Nat → Nat) : Nat → Nat → Nat
  | 0, x => x
  | k + 1, x => andAll R ls k x &&& R (ls k)

theorem andAll_lt (R ls : Nat → Nat) (k x : Nat) (h : x < 256) : andAll R ls k x < 256 := by
  induction k with
  | zero => exact h
  | succ k ih => exact and_lt8 _ _ ih

/-- nearest, from label a on. -/
def nearFrom (R : Nat → Nat) (x : Nat) : Nat → Nat → Int
  | 0, _ => -1
  | k + 1, a => if x.testBit a && (x &&& R a == x) then a else nearFrom R x k (a + 1)
def near (R : Nat → Nat) (x : Nat) : Int := nearFrom R x 8 0

theorem near_hit {R : Nat → Nat} {x j : Nat} (hj : j < 8) (h1 : x.testBit j = true) (h2 : (x &&& R j == x) = true) : nearFrom R x (8 - j) j = j := by
  obtain ⟨m, hm⟩ : ∃ m, 8 - j = m + 1 := ⟨8 - j - 1, by omega⟩
  rw [hm, nearFrom, h1, h2]; rfl
theorem near_miss {R : Nat → Nat} {x j : Nat} (hj : j < 8) (h : (x.testBit j && (x &&& R j == x)) = false) : nearFrom R x (8 - j) j = nearFrom R x (8 - (j + 1)) (j + 1) := by
  obtain ⟨m, hm⟩ : ∃ m, 8 - j = m + 1 := ⟨8 - j - 1, by omega⟩
  rw [hm, nearFrom, h, show 8 - (j + 1) = m by omega]; rfl

/-- The nearest label that both reach. -/
def near2 (n : Nat) (R : Nat → Nat) (a b : Nat) : Int := near R (((2 ^ n - 1) &&& R a) &&& R b)
def pairL (a b : Nat) : Nat → Nat := fun j => if j = 0 then a else b
theorem andAll_pair (n : Nat) (R : Nat → Nat) (a b : Nat) : near R (andAll R (pairL a b) 2 (2 ^ n - 1)) = near2 n R a b := rfl
def okPair (n : Nat) (U D : Nat → Nat) (a b : Nat) : Bool := near2 n U a b != -1 && near2 n D a b != -1
def bddB (n : Nat) (U D : Nat → Nat) : Bool := decide (∀ a, a < n → ∀ b, b < a → okPair n U D a b = true)
def partRow (n : Nat) (U D : Nat → Nat) (a : Nat) : Bool := (U a &&& D a == 2 ^ a) && decide (∀ b, b < n → (U a).testBit b = true → U b &&& U a = U b)
def partB (n : Nat) (U D : Nat → Nat) : Bool := decide (∀ a, a < n → partRow n U D a = true)
theorem all8_lt (n : Nat) (hn : n ≤ 8) : 2 ^ n - 1 < 256 := by
  have hp : (2 : Nat) ^ n ≤ 256 := Nat.pow_le_pow_right (n := 2) (by omega) hn
  omega
theorem shl8 (a : Nat) (ha : a < 8) : IntKind.u64.wrap (2 ^ a) = ((2 ^ a : Nat) : Int) := by
  have hp : (2 : Nat) ^ a ≤ 2 ^ 8 := Nat.pow_le_pow_right (by omega) (by omega)
  have hc : ((2 : Int) ^ a) = ((2 ^ a : Nat) : Int) := by simp
  rw [hc, IntKind.wrap_u64]
  generalize (2 : Nat) ^ a = p at *
  omega

theorem part_no1 {n : Nat} {U D : Nat → Nat} {k : Nat} (hk : k < n) (h : (((U k &&& D k : Nat) : Int) != 2 ^ k) = true) : partB n U D = false := by
  unfold partB
  rw [decide_eq_false_iff_not]
  intro hh
  have := hh k hk
  simp [partRow] at this
  rw [bne_iff_ne] at h
  apply h
  rw [this.1]; simp
theorem part_no2 {n : Nat} {U D : Nat → Nat} {k b : Nat} (hk : k < n) (hb : b < n) (h1 : (U k).testBit b = true) (h2 : (U b &&& U k == U b) = false) : partB n U D = false := by
  unfold partB
  rw [decide_eq_false_iff_not]
  intro hh
  have := hh k hk
  simp [partRow] at this
  have := this.2 b hb h1
  simp [this] at h2
theorem part_row {n : Nat} {U D : Nat → Nat} {k : Nat} (h : (((U k &&& D k : Nat) : Int) != 2 ^ k) = false) (h2 : ∀ b, b < n → (U k).testBit b = true → U b &&& U k = U b) : partRow n U D k = true := by
  have e : ((U k &&& D k : Nat) : Int) = 2 ^ k := by simpa using h
  have e2 : U k &&& D k = 2 ^ k := by
    have : ((2 : Int) ^ k) = ((2 ^ k : Nat) : Int) := by simp
    rw [this] at e
    exact Int.ofNat_inj.1 e
  simp only [partRow, e2, beq_self_eq_true, Bool.true_and, decide_eq_true_eq]
  exact h2
theorem part_yes {n : Nat} {U D : Nat → Nat} (h : ∀ a, a < n → partRow n U D a = true) : partB n U D = true := by
  unfold partB; exact decide_eq_true h
theorem bdd_yes {n : Nat} {U D : Nat → Nat} (h : ∀ a, a < n → ∀ b, b < a → okPair n U D a b = true) : bddB n U D = true := by
  unfold bddB; exact decide_eq_true h
theorem bdd_no {n : Nat} {U D : Nat → Nat} {a b : Nat} (ha : a < n) (hb : b < a) (h : okPair n U D a b = false) : bddB n U D = false := by
  unfold bddB
  rw [decide_eq_false_iff_not]
  intro hh
  rw [hh a ha b hb] at h
  exact Bool.noConfusion h
theorem andNot_ne (a b : Nat) (ha : a < 256) (hb : b < 256) : (bits .andNot .u64 (a : Int) (b : Int) != 0) = !(a &&& b == a) := by
  rw [bne, andNot_zero a b ha hb]

end Go.Proofs.YtmkncmmegjfipaaGreatDoor

/- Walks of the leaves of layer 1's code: letter, digit, has, all, nearest. -/
namespace Go.Proofs.YtmkncmmegjfipaaGreatDoor
open Go.RowKit

set_option maxHeartbeats 400000 in
theorem letter_any (r : Int) (w : World) :
    Calls Tryz.prog 163 #[.int .i32 r] w fun e w' => e = .returned (.bool (letterB r)) ∧ w' = w := by
  go_enter Tryz.func163, Tryz.ntmps163
  go_wp2
  all_goals (go_ret; exact ⟨ret_bool (by unfold letterB; rw [Bool.eq_iff_iff]; simp; omega), rfl⟩)

set_option maxHeartbeats 400000 in
theorem digit_any (r : Int) (w : World) :
    Calls Tryz.prog 164 #[.int .i32 r] w fun e w' => e = .returned (.bool (digitB r)) ∧ w' = w := by
  go_enter Tryz.func164, Tryz.ntmps164
  go_wp2
  all_goals (go_ret; exact ⟨ret_bool (by unfold digitB; rw [Bool.eq_iff_iff]; simp; try omega), rfl⟩)

set_option maxHeartbeats 400000 in
theorem has_any (x a : Nat) (hx : x < 256) (ha : a < 8) (w : World) :
    Calls Tryz.prog 133 #[.int .u64 x, .int .i64 a] w fun e w' => e = .returned (.bool (x.testBit a)) ∧ w' = w := by
  go_enter Tryz.func133, Tryz.ntmps133
  go_wp2
  go_ret
  exact ⟨ret_bool ((has_bit x a).resolve_right (by omega)), rfl⟩

set_option maxHeartbeats 400000 in
theorem all_any (B n : Nat) (hn : n ≤ 8) (w : World) (hc : w.cell? ⟨B, 0, none⟩ = some (.int .i64 n)) :
    Calls Tryz.prog 167 #[.pointer (some ⟨B, 0, none⟩)] w fun e w' => e = .returned (.int .u64 ((2 ^ n - 1 : Nat) : Int)) ∧ w' = w := by
  go_enter Tryz.func167, Tryz.ntmps167
  have e1 : IntKind.u64.wrap (IntKind.u64.wrap (2 ^ n) - 1) = ((2 ^ n - 1 : Nat) : Int) := by
    have hp : (2 : Nat) ^ n ≤ 256 := Nat.pow_le_pow_right (n := 2) (by omega) hn
    have hp1 : 1 ≤ (2 : Nat) ^ n := Nat.one_le_two_pow
    have hc : ((2 : Int) ^ n) = ((2 ^ n : Nat) : Int) := by simp
    rw [hc, IntKind.wrap_u64, IntKind.wrap_u64]
    omega
  have H : Hid (IntKind.u64.wrap (IntKind.u64.wrap (2 ^ n) - 1) = ((2 ^ n - 1 : Nat) : Int)) := e1
  clear e1
  go_wp2
  go_ret
  exact ⟨ret_int H.out, rfl⟩

set_option maxHeartbeats 400000 in
theorem nearest_any (x : Nat) (B o : Nat) (R : Nat → Nat) (la : Option Addr) (lb lo ll lc : Nat) (ls : Nat → Nat) (w : World)
    (hx : x < 256) (hR : ∀ i, i < 8 → R i < 256) (hcR : ∀ i, i < 8 → w.cell? ⟨B, o + i, none⟩ = some (.int .u64 (R i)))
    (hla : 0 < ll → la = some ⟨lb, lo, none⟩) (hll : ll ≤ 8) (hls : ∀ j, j < ll → ls j < 8) (hcl : ∀ j, j < ll → w.cell? ⟨lb, lo + j, none⟩ = some (.int .i64 (ls j))) :
    Calls Tryz.prog 166 #[.int .u64 x, .pointer (some ⟨B, o, none⟩), .slice la ll lc] w fun e w' => e = .returned (.int .i64 (near R (andAll R ls ll x))) ∧ ∃ n, w' = w.drewN n := by
  go_enter Tryz.func166, Tryz.ntmps166
  go_wp2
  go_loop [0, 13] (fun b i => ∃ k : Nat, k ≤ ll ∧ i = .int .i64 k ∧ b = .int .u64 (andAll R ls k x)) (fun _ i => ll - (intOf i).toNat)
  case atStart => exact ⟨0, Nat.zero_le _, rfl, rfl⟩
  case round =>
    obtain ⟨k, hk, rfl, rfl⟩ := hrel
    by_cases hlt : k < ll
    · have h1 := hls k hlt
      have h2 := hcl k hlt
      have h3 := hla (by omega)
      have h4 := hcR _ h1
      have h5 := and_u8 _ _ (andAll_lt R ls k x hx) (hR _ h1)
      subst h3
      go_wp2
      go_round
      case rel => exact ⟨k + 1, by omega, by go_num, rfl⟩
      case measure => simp [intOf]; omega
    · have e : k = ll := by omega
      subst e
      clear hlt
      have hlt : ¬ k < k := by omega
      have hb := andAll_lt R ls k x hx
      generalize hy : andAll R ls k x = y at *
      have HY : Hid (andAll R ls k x = y) := hy
      clear hy
      go_wp2
      go_loopw [26] (fun i wr => ∃ j : Nat, j ≤ 8 ∧ i = .int .i64 j ∧ near R y = nearFrom R y (8 - j) j ∧ ∃ n, wr = w.drewN n) (fun i _ => 8 - (intOf i).toNat)
      case atStart => exact ⟨0, by omega, rfl, rfl, 0, rfl⟩
      case round =>
        obtain ⟨j, hj, rfl, hnear, nw, rfl⟩ := hrel
        have HN : Hid (near R y = nearFrom R y (8 - j) j) := hnear
        clear hnear
        by_cases hj8 : j < 8
        · have g1 := hcR j hj8
          have g2 := hR j hj8
          have g3 := andNot_zero y (R j) hb g2
          go_wp2
          go_quiet (fail)
          go_wp2_with (go_at_call 133; refine (has_any y j hb hj8 _).mono ?_; rintro e w' ⟨rfl, rfl⟩)
          · go_ret
            have t1 : y.testBit j = true := by assumption
            have t2 : (y &&& R j == y) = true := by assumption
            exact ⟨ret_int (by rw [HY.out, HN.out, near_hit hj8 t1 t2]), _, rfl⟩
          · go_roundw
            case rel =>
              have t2 : (y &&& R j == y) = false := by assumption
              exact ⟨j + 1, by omega, by go_num, by rw [HN.out]; exact near_miss hj8 (by rw [t2]; simp), _, rfl⟩
            case measure => simp [intOf]; omega
          · go_roundw
            case rel =>
              have t2 : ¬ y.testBit j = true := by assumption
              exact ⟨j + 1, by omega, by go_num, by rw [HN.out]; exact near_miss hj8 (by simp [t2]), _, rfl⟩
            case measure => simp [intOf]; omega
        · have e : j = 8 := by omega
          subst e
          go_wp2
          go_ret
          exact ⟨ret_int (by rw [HY.out, HN.out]; rfl), _, rfl⟩
end Go.Proofs.YtmkncmmegjfipaaGreatDoor

/- Walks of layer 1's order: join, meet, and whether it is an order. -/
namespace Go.Proofs.YtmkncmmegjfipaaGreatDoor
open Go.RowKit

/-- Block B of w is an order of n labels: U: what is above each, D: what is below each. -/
structure OrdAt (w : World) (B n : Nat) (U D : Nat → Nat) : Prop where
  size : w.cell? ⟨B, 0, none⟩ = some (.int .i64 n)
  up : ∀ i, i < 8 → w.cell? ⟨B, 1 + i, none⟩ = some (.int .u64 (U i))
  dn : ∀ i, i < 8 → w.cell? ⟨B, 9 + i, none⟩ = some (.int .u64 (D i))

theorem cell_lt {w : World} {b o : Nat} {v : Value} (h : w.cell? ⟨b, o, none⟩ = some v) : b < w.heap.size := by
  unfold World.cell? at h
  cases hb : w.heap[b]? with
  | none => simp [hb] at h
  | some x => exact (Array.getElem?_eq_some_iff.1 hb).1

theorem OrdAt.kept {w w' : World} {B n : Nat} {U D : Nat → Nat} (h : OrdAt w B n U D) (hb : Below w.heap.size w w') : OrdAt w' B n U D := by
  have hl := cell_lt h.size
  exact ⟨(hb.cell (p := ⟨B, 0, none⟩) hl).trans h.size, fun i hi => (hb.cell (p := ⟨B, 1 + i, none⟩) hl).trans (h.up i hi), fun i hi => (hb.cell (p := ⟨B, 9 + i, none⟩) hl).trans (h.dn i hi)⟩

theorem below_drewN {B : Nat} {a w : World} (h : Below B a w) (n : Nat) : Below B a (w.drewN n) := ⟨h.os, h.tape, h.output, h.size, h.block⟩

/-- w' is w, but for draws. -/
def Dr (w w' : World) : Prop := ∃ n, w' = w.drewN n
theorem Dr.refl (w : World) : Dr w w := ⟨0, rfl⟩
theorem Dr.step {a w : World} (h : Dr a w) (n : Nat) : Dr a (w.drewN n) := by
  obtain ⟨m, rfl⟩ := h; exact ⟨_, World.drewN_drewN _ _ _⟩
theorem Dr.trans {a b c : World} (h : Dr a b) (k : Dr b c) : Dr a c := by
  obtain ⟨m, rfl⟩ := k; exact h.step m
theorem Dr.below {w w' : World} (h : Dr w w') (B : Nat) : Below B w w' := by
  obtain ⟨m, rfl⟩ := h; exact below_drewN (Below.refl _ _) m
theorem Dr.cell {w w' : World} (h : Dr w w') (a : Addr) : w'.cell? a = w.cell? a := by
  obtain ⟨m, rfl⟩ := h; rfl
theorem OrdAt.dr {w w' : World} {B n : Nat} {U D : Nat → Nat} (h : OrdAt w B n U D) (k : Dr w w') : OrdAt w' B n U D := h.kept (k.below _)

theorem has_is (x a : Nat) (hx : x < 256) (ha : a < 8) (r : Bool) (h : x.testBit a = r) (w : World) :
    Calls Tryz.prog 133 #[.int .u64 x, .int .i64 a] w fun e w' => e = .returned (.bool r) ∧ w' = w := by
  subst h; exact has_any x a hx ha w

set_option maxHeartbeats 400000 in
theorem join_any (B n : Nat) (U D : Nat → Nat) (la : Option Addr) (lb lo ll lc : Nat) (ls : Nat → Nat) (w : World)
    (hn : n ≤ 8) (ho : OrdAt w B n U D) (hU : ∀ i, i < 8 → U i < 256)
    (hla : 0 < ll → la = some ⟨lb, lo, none⟩) (hll : ll ≤ 8) (hls : ∀ j, j < ll → ls j < 8) (hcl : ∀ j, j < ll → w.cell? ⟨lb, lo + j, none⟩ = some (.int .i64 (ls j))) :
    Calls Tryz.prog 134 #[.pointer (some ⟨B, 0, none⟩), .slice la ll lc] w fun e w' => e = .returned (.int .i64 (near U (andAll U ls ll (2 ^ n - 1)))) ∧ Dr w w' := by
  have h8 := all8_lt n hn
  go_enter Tryz.func134, Tryz.ntmps134
  go_wp2
  go_quiet ((first
    | (go_at_call 167; exact Calls.quiet_of_same (all_any B n hn _ ho.size))
    | (go_at_call 166; exact Calls.quiet_of (nearest_any _ B 1 U la lb lo ll lc ls _ h8 hU ho.up hla hll hls hcl))))
  go_wp2
  go_ret
  exact ⟨rfl, _, rfl⟩

set_option maxHeartbeats 400000 in
theorem meet_any (B n : Nat) (U D : Nat → Nat) (la : Option Addr) (lb lo ll lc : Nat) (ls : Nat → Nat) (w : World)
    (hn : n ≤ 8) (ho : OrdAt w B n U D) (hU : ∀ i, i < 8 → D i < 256)
    (hla : 0 < ll → la = some ⟨lb, lo, none⟩) (hll : ll ≤ 8) (hls : ∀ j, j < ll → ls j < 8) (hcl : ∀ j, j < ll → w.cell? ⟨lb, lo + j, none⟩ = some (.int .i64 (ls j))) :
    Calls Tryz.prog 135 #[.pointer (some ⟨B, 0, none⟩), .slice la ll lc] w fun e w' => e = .returned (.int .i64 (near D (andAll D ls ll (2 ^ n - 1)))) ∧ Dr w w' := by
  have h8 := all8_lt n hn
  go_enter Tryz.func135, Tryz.ntmps135
  go_wp2
  go_quiet ((first
    | (go_at_call 167; exact Calls.quiet_of_same (all_any B n hn _ ho.size))
    | (go_at_call 166; exact Calls.quiet_of (nearest_any _ B 9 D la lb lo ll lc ls _ h8 hU ho.dn hla hll hls hcl))))
  go_wp2
  go_ret
  exact ⟨rfl, _, rfl⟩

set_option maxHeartbeats 1000000 in
theorem partial_any (B n : Nat) (U D : Nat → Nat) (w : World) (hn : n ≤ 8) (ho : OrdAt w B n U D) (hU : ∀ i, i < 8 → U i < 256) (hD : ∀ i, i < 8 → D i < 256) :
    Calls Tryz.prog 95 #[.pointer (some ⟨B, 0, none⟩)] w fun e w' => e = .returned (.bool (partB n U D)) ∧ Dr w w' := by
  have c0 := ho.size
  go_enter Tryz.func95, Tryz.ntmps95
  go_wp2
  go_loopw [9] (fun i wr => ∃ k : Nat, k ≤ n ∧ i = .int .i64 k ∧ (∀ a, a < k → partRow n U D a = true) ∧ Dr w wr) (fun i _ => n - (intOf i).toNat)
  case atStart => exact ⟨0, Nat.zero_le _, rfl, fun _ h => absurd h (Nat.not_lt_zero _), Dr.refl _⟩
  case round =>
    obtain ⟨k, hk, rfl, hdone, hdr⟩ := hrel
    have HD : Hid (∀ a, a < k → partRow n U D a = true) := hdone
    clear hdone c0
    have ho1 := ho.dr hdr
    have c1 := ho1.size
    by_cases hlt : k < n
    · have g1 := ho1.up k (by omega)
      have g2 := ho1.dn k (by omega)
      have g3 := and_u8 _ _ (hU k (by omega)) (hD k (by omega))
      have g4 := shl8 k (by omega)
      have k8 : (k : Int) < 8 := by omega
      go_wp2
      go_quiet (fail)
      go_wp2
      · have t : (((U k &&& D k : Nat) : Int) != 2 ^ k) = true := by assumption
        go_ret
        exact ⟨ret_bool (part_no1 hlt t).symm, hdr.step _⟩
      · have t : (((U k &&& D k : Nat) : Int) != 2 ^ k) = false := by assumption
        have T : Hid ((((U k &&& D k : Nat) : Int) != 2 ^ k) = false) := t
        clear t g3 g4 g1 g2 c1
        go_loopw [32] (fun i w2 => ∃ j : Nat, j ≤ n ∧ i = .int .i64 j ∧ (∀ b, b < j → (U k).testBit b = true → U b &&& U k = U b) ∧ Dr w w2) (fun i _ => n - (intOf i).toNat)
        case atStart => exact ⟨0, Nat.zero_le _, rfl, fun _ h => absurd h (Nat.not_lt_zero _), hdr.step _⟩
        case round =>
          obtain ⟨j, hj, rfl, hdone2, hdr2⟩ := hrel
          have HD2 : Hid (∀ b, b < j → (U k).testBit b = true → U b &&& U k = U b) := hdone2
          clear hdone2
          have ho2 := ho.dr hdr2
          have c2 := ho2.size
          by_cases hj8 : j < n
          · have f1 := ho2.up j (by omega)
            have f2 := ho2.up k (by omega)
            have f3 := andNot_ne (U j) (U k) (hU j (by omega)) (hU k (by omega))
            have f4 := hU k (by omega)
            have j8 : (j : Int) < 8 := by omega
            cases hbit : (U k).testBit j
            · go_wp2
              go_quiet ((go_at_call 133; exact Calls.quiet_of_same (has_is (U k) j f4 (by omega) _ hbit _)))
              go_wp2
              go_roundw
              case rel =>
                refine ⟨j + 1, by omega, by go_num, fun b hb hbb => ?_, hdr2.step _⟩
                rcases Nat.lt_succ_iff_lt_or_eq.1 hb with h | h
                · exact HD2.out b h hbb
                · subst h; rw [hbit] at hbb; exact Bool.noConfusion hbb
              case measure => simp [intOf]; omega
            · go_wp2
              go_quiet ((go_at_call 133; exact Calls.quiet_of_same (has_is (U k) j f4 (by omega) _ hbit _)))
              go_wp2
              · have t : (!U j &&& U k == U j) = true := by assumption
                go_ret
                exact ⟨ret_bool (part_no2 hlt hj8 hbit (by simpa using t)).symm, hdr2.step _⟩
              · have t : (!U j &&& U k == U j) = false := by assumption
                go_roundw
                case rel =>
                  refine ⟨j + 1, by omega, by go_num, fun b hb hbb => ?_, hdr2.step _⟩
                  rcases Nat.lt_succ_iff_lt_or_eq.1 hb with h | h
                  · exact HD2.out b h hbb
                  · subst h; simpa using t
                case measure => simp [intOf]; omega
          · have e : j = n := by omega
            subst e
            go_wp2
            go_roundw
            case rel =>
              refine ⟨k + 1, by omega, by go_num, fun a ha => ?_, hdr2⟩
              rcases Nat.lt_succ_iff_lt_or_eq.1 ha with h | h
              · exact HD.out a h
              · subst h; exact part_row T.out HD2.out
            case measure => simp [intOf]; omega
    · have e : k = n := by omega
      subst e
      go_wp2
      go_ret
      exact ⟨ret_bool (part_yes HD.out).symm, hdr⟩

theorem join2_any (B n : Nat) (U D : Nat → Nat) (lb a b : Nat) (w : World) (hn : n ≤ 8) (ho : OrdAt w B n U D) (hU : ∀ i, i < 8 → U i < 256) (ha : a < 8) (hb : b < 8)
    (h0 : w.cell? ⟨lb, 0, none⟩ = some (.int .i64 a)) (h1 : w.cell? ⟨lb, 1, none⟩ = some (.int .i64 b)) :
    Calls Tryz.prog 134 #[.pointer (some ⟨B, 0, none⟩), .slice (some ⟨lb, 0, none⟩) 2 2] w fun e w' => e = .returned (.int .i64 (near2 n U a b)) ∧ Dr w w' := by
  refine join_any B n U D _ lb 0 2 2 (pairL a b) w hn ho hU (fun _ => rfl) (by omega) ?_ ?_
  · intro j _; unfold pairL; split <;> assumption
  · intro j hj
    match j, hj with
    | 0, _ => exact h0
    | 1, _ => exact h1

theorem meet2_any (B n : Nat) (U D : Nat → Nat) (lb a b : Nat) (w : World) (hn : n ≤ 8) (ho : OrdAt w B n U D) (hU : ∀ i, i < 8 → D i < 256) (ha : a < 8) (hb : b < 8)
    (h0 : w.cell? ⟨lb, 0, none⟩ = some (.int .i64 a)) (h1 : w.cell? ⟨lb, 1, none⟩ = some (.int .i64 b)) :
    Calls Tryz.prog 135 #[.pointer (some ⟨B, 0, none⟩), .slice (some ⟨lb, 0, none⟩) 2 2] w fun e w' => e = .returned (.int .i64 (near2 n D a b)) ∧ Dr w w' := by
  refine meet_any B n U D _ lb 0 2 2 (pairL a b) w hn ho hU (fun _ => rfl) (by omega) ?_ ?_
  · intro j _; unfold pairL; split <;> assumption
  · intro j hj
    match j, hj with
    | 0, _ => exact h0
    | 1, _ => exact h1

theorem join0_any (B n : Nat) (U D : Nat → Nat) (lc : Nat) (w : World) (hn : n ≤ 8) (ho : OrdAt w B n U D) (hU : ∀ i, i < 8 → U i < 256) :
    Calls Tryz.prog 134 #[.pointer (some ⟨B, 0, none⟩), .slice none 0 lc] w fun e w' => e = .returned (.int .i64 (near U (2 ^ n - 1))) ∧ Dr w w' :=
  join_any B n U D _ 0 0 0 lc (fun _ => 0) w hn ho hU (fun h => absurd h (Nat.lt_irrefl _)) (by omega) (fun _ h => absurd h (Nat.not_lt_zero _)) (fun _ h => absurd h (Nat.not_lt_zero _))

theorem meet0_any (B n : Nat) (U D : Nat → Nat) (lc : Nat) (w : World) (hn : n ≤ 8) (ho : OrdAt w B n U D) (hU : ∀ i, i < 8 → D i < 256) :
    Calls Tryz.prog 135 #[.pointer (some ⟨B, 0, none⟩), .slice none 0 lc] w fun e w' => e = .returned (.int .i64 (near D (2 ^ n - 1))) ∧ Dr w w' :=
  meet_any B n U D _ 0 0 0 lc (fun _ => 0) w hn ho hU (fun h => absurd h (Nat.lt_irrefl _)) (by omega) (fun _ h => absurd h (Nat.not_lt_zero _)) (fun _ h => absurd h (Nat.not_lt_zero _))

theorem cells2 (w : World) (u v : Value) (t : TypeId) : (w.alloc (.cells #[u, v] t)).cell? ⟨w.heap.size, 0, none⟩ = some u ∧ (w.alloc (.cells #[u, v] t)).cell? ⟨w.heap.size, 1, none⟩ = some v := by
  constructor <;> simp

end Go.Proofs.YtmkncmmegjfipaaGreatDoor

/- What the arguments of layer 1 read as: a list of names, a table of truths; both stay where nothing old is written. -/
namespace Go.Proofs.YtmkncmmegjfipaaGreatDoor
open Go.RowKit

/-- A []string in memory. -/
structure Strs where
  ao : Option Addr
  b : Nat
  o : Nat
  len : Nat
  cap : Nat
  s : Nat → ByteArray

structure Strs.At (g : Strs) (w : World) : Prop where
  lc : g.len ≤ g.cap
  nil : 0 < g.len → g.ao = some ⟨g.b, g.o, none⟩
  bound : g.len ≤ 9223372036854775807
  cell : ∀ i, i < g.len → w.cell? ⟨g.b, g.o + i, none⟩ = some (.string (g.s i))
  sz : ∀ i, i < g.len → (g.s i).size ≤ 9223372036854775807

/-- A [][]bool in memory. -/
structure Grid where
  ao : Option Addr
  gb : Nat
  go : Nat
  len : Nat
  cap : Nat
  A : Nat → Option Addr
  L : Nat → Nat
  C : Nat → Nat
  AB : Nat → Nat
  AO : Nat → Nat
  B : Nat → Nat → Bool

structure Grid.At (g : Grid) (w : World) : Prop where
  lc : g.len ≤ g.cap
  nil : 0 < g.len → g.ao = some ⟨g.gb, g.go, none⟩
  bound : g.len ≤ 9223372036854775807
  lbound : ∀ r, r < g.len → g.L r ≤ 9223372036854775807
  row : ∀ r, r < g.len → w.cell? ⟨g.gb, g.go + r, none⟩ = some (.slice (g.A r) (g.L r) (g.C r))
  adr : ∀ r, r < g.len → 0 < g.L r → g.A r = some ⟨g.AB r, g.AO r, none⟩
  cell : ∀ r, r < g.len → ∀ c, c < g.L r → w.cell? ⟨g.AB r, g.AO r + c, none⟩ = some (.bool (g.B r c))

theorem Strs.At.kept {g : Strs} {w w' : World} (h : g.At w) (hb : Below w.heap.size w w') : g.At w' :=
  ⟨h.lc, h.nil, h.bound, fun i hi => (hb.cell (p := ⟨g.b, g.o + i, none⟩) (cell_lt (h.cell i hi))).trans (h.cell i hi), h.sz⟩

theorem Grid.At.kept {g : Grid} {w w' : World} (h : g.At w) (hb : Below w.heap.size w w') : g.At w' :=
  ⟨h.lc, h.nil, h.bound, h.lbound, fun i hi => (hb.cell (p := ⟨g.gb, g.go + i, none⟩) (cell_lt (h.row i hi))).trans (h.row i hi), h.adr,
    fun r hr c hc => (hb.cell (p := ⟨g.AB r, g.AO r + c, none⟩) (cell_lt (h.cell r hr c hc))).trans (h.cell r hr c hc)⟩

/-- What the table says, within it. -/
def Grid.le (g : Grid) (a b : Nat) : Bool := decide (a < g.len) && (decide (b < g.L a) && g.B a b)

/-- A block that is an order, and may be written. -/
structure OrdOwn (w : World) (B n : Nat) (U D : Nat → Nat) : Prop where
  at' : OrdAt w B n U D
  free : ∀ i, i < 17 → w.frozen? ⟨B, i, none⟩ = false

end Go.Proofs.YtmkncmmegjfipaaGreatDoor

/- The walk of layer 1's Name. -/
namespace Go.Proofs.YtmkncmmegjfipaaGreatDoor
open Go.RowKit

/-- No name goes on so. -/
def badRune (n : Nat) (r : Int) : Bool := n == 16 || (!letterB r && (n == 0 || !digitB r))
/-- Name, from a place on, n runes being read; at most 'fuel' runes more. -/
def nameFrom (s : ByteArray) : Nat → Nat → Nat → Bool
  | 0, _, _ => false
  | f + 1, pos, n => if pos < s.size then (if badRune n (Utf8.decode s pos).1 then false else nameFrom s f (pos + (Utf8.decode s pos).2) (n + 1)) else decide (0 < n)
def nameB (s : ByteArray) : Bool := nameFrom s 17 0 0

theorem nameFrom_bad {s : ByteArray} {pos n : Nat} (hn : n ≤ 16) (hp : pos < s.size) (h : badRune n (Utf8.decode s pos).1 = true) : nameFrom s (17 - n) pos n = false := by
  obtain ⟨m, hm⟩ : ∃ m, 17 - n = m + 1 := ⟨16 - n, by omega⟩
  rw [hm, nameFrom, if_pos hp, h]; rfl
theorem nameFrom_good {s : ByteArray} {pos n : Nat} (hn : n ≤ 16) (hp : pos < s.size) (h : badRune n (Utf8.decode s pos).1 = false) : nameFrom s (17 - n) pos n = nameFrom s (17 - (n + 1)) (pos + (Utf8.decode s pos).2) (n + 1) := by
  obtain ⟨m, hm⟩ : ∃ m, 17 - n = m + 1 := ⟨16 - n, by omega⟩
  rw [hm, nameFrom, if_pos hp, h, show 17 - (n + 1) = m by omega]; rfl
theorem nameFrom_end {s : ByteArray} {pos n : Nat} (hn : n ≤ 16) (hp : ¬ pos < s.size) : nameFrom s (17 - n) pos n = decide (0 < n) := by
  obtain ⟨m, hm⟩ : ∃ m, 17 - n = m + 1 := ⟨16 - n, by omega⟩
  rw [hm, nameFrom, if_neg hp]

set_option maxHeartbeats 1000000 in
theorem name_any (s : ByteArray) (w : World) :
    Calls Tryz.prog 131 #[.string s] w fun e w' => e = .returned (.bool (nameB s)) ∧ Below w.heap.size w w' := by
  go_enter Tryz.func131, Tryz.ntmps131
  go_wp2
  go_loopw [3] (fun t wr => ∃ n pos : Nat, n ≤ 16 ∧ t = .int .i64 n ∧ nameB s = nameFrom s (17 - n) pos n ∧ wr = w.iter s pos) (fun t _ => 17 - (intOf t).toNat)
  case atStart => exact ⟨0, 0, by omega, rfl, rfl, rfl⟩
  case round =>
    obtain ⟨n, pos, hn, rfl, hname, rfl⟩ := hrel
    have HN : Hid (nameB s = nameFrom s (17 - n) pos n) := hname
    clear hname
    have hbl : Below w.heap.size w (w.iter s pos) := (Below.refl _ _).alloc (Nat.le_refl _) _
    by_cases hlt : pos < s.size
    · have hnx := fun ty => run_next_any (P := Tryz.prog) w s pos ty hlt
      have hbl2 : Below w.heap.size w (w.iter s (pos + (Utf8.decode s pos).2)) := (Below.refl _ _).alloc (Nat.le_refl _) _
      have FB : Hid (badRune n (Utf8.decode s pos).1 = true → nameB s = false) := fun h => HN.out.trans (nameFrom_bad hn hlt h)
      have FG : Hid (badRune n (Utf8.decode s pos).1 = false → nameB s = nameFrom s (17 - (n + 1)) (pos + (Utf8.decode s pos).2) (n + 1)) := fun h => HN.out.trans (nameFrom_good hn hlt h)
      clear HN
      by_cases h16 : n = 16
      · subst h16
        go_wp2
        go_ret
        exact ⟨ret_bool (FB.out rfl).symm, hbl2⟩
      · have hb16 : ((n : Int) == 16) = false := beq_eq_false_iff_ne.2 (by omega)
        have hb16' : (n == 16) = false := beq_eq_false_iff_ne.2 h16
        have HB : Hid ((n == 16) = false) := hb16'
        clear hb16'
        go_wp2_with (first
          | (go_at_call 163; refine (letter_any _ _).mono ?_; rintro e w' ⟨rfl, rfl⟩)
          | (go_at_call 164; refine (digit_any _ _).mono ?_; rintro e w' ⟨rfl, rfl⟩))
        · have t1 : letterB (Utf8.decode s pos).1 = true := by assumption
          go_roundw
          case rel => exact ⟨n + 1, _, by omega, by go_num, FG.out (by simp [badRune, HB.out, t1]), rfl⟩
          case measure => simp [intOf]; omega
        · have t1 : ¬ letterB (Utf8.decode s pos).1 = true := by assumption
          have t2 : n = 0 := by assumption
          go_ret
          exact ⟨ret_bool (FB.out (by simp [badRune, t1, t2])).symm, hbl2⟩
        · have t1 : ¬ letterB (Utf8.decode s pos).1 = true := by assumption
          have t2 : ¬ n = 0 := by assumption
          have t3 : ((n : Int) == 0) = true ∨ (!digitB (Utf8.decode s pos).1) = true := by assumption
          go_ret
          refine ⟨ret_bool (FB.out ?_).symm, hbl2⟩
          rcases t3 with t3 | t3
          · exact absurd (by simpa using t3) t2
          · simp [badRune, t1, t3]
        · have t1 : ¬ letterB (Utf8.decode s pos).1 = true := by assumption
          have t2 : ¬ n = 0 := by assumption
          have t3 : ((n : Int) == 0) = false ∧ (!digitB (Utf8.decode s pos).1) = false := by assumption
          have t4 : digitB (Utf8.decode s pos).1 = true := by simpa using t3.2
          go_roundw
          case rel => exact ⟨n + 1, _, by omega, by go_num, FG.out (by simp [badRune, HB.out, t4, beq_eq_false_iff_ne.2 t2]), rfl⟩
          case measure => simp [intOf]; omega
    · have hnx := fun ty => run_next_end (P := Tryz.prog) w s pos ty hlt
      go_wp2
      go_ret
      exact ⟨ret_bool (HN.out.trans (nameFrom_end hn hlt)).symm, hbl⟩
end Go.Proofs.YtmkncmmegjfipaaGreatDoor

/- The walk of layer 1's orderOf. -/
namespace Go.Proofs.YtmkncmmegjfipaaGreatDoor
open Go.RowKit

/-- What has been gone through. -/
def seen (k j a b : Nat) : Bool := decide (a < k) || (a == k && decide (b < j))
def upTo (g : Grid) (k j a : Nat) : Nat := mask 8 (fun b => g.le a b && seen k j a b)
def dnTo (g : Grid) (k j b : Nat) : Nat := mask 8 (fun a => g.le a b && seen k j a b)

theorem upTo_lt (g : Grid) (k j a : Nat) : upTo g k j a < 256 := mask8_lt _
theorem dnTo_lt (g : Grid) (k j b : Nat) : dnTo g k j b < 256 := mask8_lt _

theorem upTo_no (g : Grid) (k j a : Nat) (h : g.le k j = false) : upTo g k (j + 1) a = upTo g k j a := by
  refine mask_congr 8 _ _ fun b _ => ?_
  by_cases ha : a = k
  · subst ha
    by_cases hb : b = j
    · subst hb; simp [h]
    · simp [seen, show (b < j + 1) = (b < j) by simp; omega]
  · simp [seen, beq_eq_false_iff_ne.2 ha]
theorem dnTo_no (g : Grid) (k j b : Nat) (h : g.le k j = false) : dnTo g k (j + 1) b = dnTo g k j b := by
  refine mask_congr 8 _ _ fun a _ => ?_
  by_cases ha : a = k
  · subst ha
    by_cases hb : b = j
    · subst hb; simp [h]
    · simp [seen, show (b < j + 1) = (b < j) by simp; omega]
  · simp [seen, beq_eq_false_iff_ne.2 ha]
theorem upTo_yes (g : Grid) (k j a : Nat) (hj : j < 8) (h : g.le k j = true) : upTo g k (j + 1) a = if a = k then upTo g k j k ||| 2 ^ j else upTo g k j a := by
  by_cases ha : a = k
  · subst ha
    rw [if_pos rfl]
    unfold upTo
    rw [mask_or _ _ hj]
    refine mask_congr 8 _ _ fun b _ => ?_
    by_cases hb : b = j
    · subst hb; simp [h, seen]
    · simp [seen, beq_eq_false_iff_ne.2 hb, show (b < j + 1) = (b < j) by simp; omega]
  · rw [if_neg ha]
    exact mask_congr 8 _ _ fun b _ => by simp [seen, beq_eq_false_iff_ne.2 ha]
theorem dnTo_yes (g : Grid) (k j b : Nat) (hk : k < 8) (h : g.le k j = true) : dnTo g k (j + 1) b = if b = j then dnTo g k j j ||| 2 ^ k else dnTo g k j b := by
  by_cases hb : b = j
  · subst hb
    rw [if_pos rfl]
    unfold dnTo
    rw [mask_or _ _ hk]
    refine mask_congr 8 _ _ fun a _ => ?_
    by_cases ha : a = k
    · subst ha; simp [h, seen]
    · simp [seen, beq_eq_false_iff_ne.2 ha]
  · rw [if_neg hb]
    exact mask_congr 8 _ _ fun a _ => by simp [seen, show (b < j + 1) = (b < j) by simp; omega]
theorem upTo_row (g : Grid) (k a : Nat) : upTo g k (g.L k) a = upTo g (k + 1) 0 a := by
  refine mask_congr 8 _ _ fun b _ => ?_
  by_cases ha : a = k
  · subst ha
    by_cases hb : b < g.L a
    · simp [seen, hb]
    · simp [Grid.le, hb]
  · simp [seen, beq_eq_false_iff_ne.2 ha, show (a < k + 1) = (a < k) by simp; omega]
theorem dnTo_row (g : Grid) (k b : Nat) : dnTo g k (g.L k) b = dnTo g (k + 1) 0 b := by
  refine mask_congr 8 _ _ fun a _ => ?_
  by_cases ha : a = k
  · subst ha
    by_cases hb : b < g.L a
    · simp [seen, hb]
    · simp [Grid.le, hb]
  · simp [seen, beq_eq_false_iff_ne.2 ha, show (a < k + 1) = (a < k) by simp; omega]

theorem mask_none (n : Nat) : mask n (fun _ => false) = 0 := by
  induction n with
  | zero => rfl
  | succ n ih => simp [mask, ih]
theorem upTo_start (g : Grid) (a : Nat) : upTo g 0 0 a = 0 := by
  unfold upTo; rw [mask_congr 8 _ (fun _ => false) (fun b _ => by simp [seen]), mask_none]
theorem dnTo_start (g : Grid) (b : Nat) : dnTo g 0 0 b = 0 := by
  unfold dnTo; rw [mask_congr 8 _ (fun _ => false) (fun b _ => by simp [seen]), mask_none]

theorem OrdOwn.congr {w : World} {B n : Nat} {U D U' D' : Nat → Nat} (h : OrdOwn w B n U D) (hU : ∀ i, U' i = U i) (hD : ∀ i, D' i = D i) : OrdOwn w B n U' D' :=
  ⟨⟨h.at'.size, fun i hi => by rw [hU]; exact h.at'.up i hi, fun i hi => by rw [hD]; exact h.at'.dn i hi⟩, h.free⟩

theorem OrdOwn.set {w : World} {B n : Nat} {U D U' D' : Nat → Nat} (h : OrdOwn w B n U D) {k j x y : Nat} {p q : Int} (hk : k < 8) (hj : j < 8) (hp : p = x) (hq : q = y)
    (hU : ∀ i, U' i = if i = k then x else U i) (hD : ∀ i, D' i = if i = j then y else D i) :
    OrdOwn ((w.setCell ⟨B, 1 + k, none⟩ (.int .u64 p)).setCell ⟨B, 9 + j, none⟩ (.int .u64 q)).drew.drew B n U' D' := by
  subst hp hq
  refine ⟨⟨?_, fun i hi => ?_, fun i hi => ?_⟩, fun i hi => ?_⟩
  · show ((w.setCell ⟨B, 1 + k, none⟩ _).setCell ⟨B, 9 + j, none⟩ _).cell? _ = _
    rw [World.cell?_setCell_other _ _ _ _ (by simp <;> omega), World.cell?_setCell_other _ _ _ _ (by simp <;> omega)]
    exact h.at'.size
  · show ((w.setCell ⟨B, 1 + k, none⟩ _).setCell ⟨B, 9 + j, none⟩ _).cell? _ = _
    rw [World.cell?_setCell_other _ _ _ _ (by simp <;> omega), hU]
    by_cases e : i = k
    · subst e; rw [if_pos rfl]; exact World.cell?_setCell_same _ _ _ (h.at'.up i hi)
    · rw [if_neg e, World.cell?_setCell_other _ _ _ _ (by simp <;> omega)]; exact h.at'.up i hi
  · show ((w.setCell ⟨B, 1 + k, none⟩ _).setCell ⟨B, 9 + j, none⟩ _).cell? _ = _
    rw [hD]
    have hh : (w.setCell ⟨B, 1 + k, none⟩ (.int .u64 x)).cell? ⟨B, 9 + i, none⟩ = some (.int .u64 (D i)) := by
      rw [World.cell?_setCell_other _ _ _ _ (by simp <;> omega)]; exact h.at'.dn i hi
    by_cases e : i = j
    · subst e; rw [if_pos rfl]; exact World.cell?_setCell_same _ _ _ hh
    · rw [if_neg e, World.cell?_setCell_other _ _ _ _ (by simp <;> omega)]; exact hh
  · show ((w.setCell ⟨B, 1 + k, none⟩ _).setCell ⟨B, 9 + j, none⟩ _).frozen? _ = _
    rw [World.frozen?_setCell, World.frozen?_setCell]; exact h.free i hi

theorem OrdOwn.start (w : World) (n : Nat) (t : TypeId) : OrdOwn (w.alloc (.cells #[.int .i64 n, .int .u64 0, .int .u64 0, .int .u64 0, .int .u64 0, .int .u64 0, .int .u64 0, .int .u64 0, .int .u64 0, .int .u64 0, .int .u64 0, .int .u64 0, .int .u64 0, .int .u64 0, .int .u64 0, .int .u64 0, .int .u64 0] t)) w.heap.size n (fun _ => 0) (fun _ => 0) := by
  refine ⟨⟨by simp, fun i hi => ?_, fun i hi => ?_⟩, fun i hi => by simp⟩
  · match i, hi with
    | 0, _ | 1, _ | 2, _ | 3, _ | 4, _ | 5, _ | 6, _ | 7, _ => simp
  · match i, hi with
    | 0, _ | 1, _ | 2, _ | 3, _ | 4, _ | 5, _ | 6, _ | 7, _ => simp

theorem or_pow (x j : Nat) (hx : x < 256) (hj : j < 8) : bits .or .u64 (x : Int) (2 ^ j) = ((x ||| 2 ^ j : Nat) : Int) := by
  have hp : (2 : Nat) ^ j ≤ 2 ^ 7 := Nat.pow_le_pow_right (by omega) (by omega)
  have hc : ((2 : Int) ^ j) = ((2 ^ j : Nat) : Int) := by simp
  rw [hc, or_u8 _ _ hx (by omega)]

theorem le_at (g : Grid) {k j : Nat} (hk : k < g.len) (hj : j < g.L k) {r : Bool} (h : g.B k j = r) : g.le k j = r := by simp [Grid.le, hk, hj, h]

set_option maxHeartbeats 1000000 in
theorem orderOf_any (g : Grid) (w : World) (hg : g.At w) (h8 : g.len ≤ 8) (hL : ∀ r, r < g.len → g.L r ≤ 8) :
    Calls Tryz.prog 94 #[.slice g.ao g.len g.cap] w fun e w' => e = .returned (.pointer (some ⟨w.heap.size, 0, none⟩)) ∧ OrdAt w' w.heap.size g.len (upTo g g.len 0) (dnTo g g.len 0) ∧ Below w.heap.size w w' := by
  go_enter Tryz.func94, Tryz.ntmps94
  go_wp2
  go_loopw [14] (fun i wr => ∃ k : Nat, k ≤ g.len ∧ i = .int .i64 k ∧ OrdOwn wr w.heap.size g.len (upTo g k 0) (dnTo g k 0) ∧ Below w.heap.size w wr) (fun i _ => g.len - (intOf i).toNat)
  case atStart =>
    exact ⟨0, Nat.zero_le _, rfl, (OrdOwn.start w g.len _).congr (upTo_start g) (dnTo_start g), (Below.refl _ _).alloc (Nat.le_refl _) _⟩
  case round =>
    obtain ⟨k, hk, rfl, hown, hbl⟩ := hrel
    have HO : Hid (OrdOwn wr w.heap.size g.len (upTo g k 0) (dnTo g k 0)) := hown
    clear hown
    have hg1 := (hg.kept hbl)
    by_cases hlt : k < g.len
    · have r1 := hg1.row k hlt
      have r2 := hg1.nil (by omega)
      have L8 := hL k hlt
      go_wp2
      go_loopw [21] (fun i wr => ∃ j : Nat, j ≤ g.L k ∧ i = .int .i64 j ∧ OrdOwn wr w.heap.size g.len (upTo g k j) (dnTo g k j) ∧ Below w.heap.size w wr) (fun i _ => g.L k - (intOf i).toNat)
      case atStart => exact ⟨0, Nat.zero_le _, rfl, HO.out, hbl⟩
      case round =>
        obtain ⟨j, hj, rfl, hown2, hbl2⟩ := hrel
        clear HO r1 hg1
        have hg2 := (hg.kept hbl2)
        by_cases hjl : j < g.L k
        · have a1 := hg2.adr k hlt (by omega)
          have a2 := hg2.cell k hlt j hjl
          have u1 := hown2.at'.up k (by omega)
          have d1 := hown2.at'.dn j (by omega)
          have f1 := hown2.free (1 + k) (by omega)
          have f2 := hown2.free (9 + j) (by omega)
          have HO2 : Hid (OrdOwn wr w.heap.size g.len (upTo g k j) (dnTo g k j)) := hown2
          have k8 : (k : Int) < 8 := by omega
          have j8 : (j : Int) < 8 := by omega
          have s1 := shl8 k (by omega)
          have s2 := shl8 j (by omega)
          clear hown2 hg2 r2
          cases hbit : g.B k j
          · go_wp2
            go_roundw
            case rel => exact ⟨j + 1, by omega, by go_num, HO2.out.congr (fun a => upTo_no g k j a (le_at g hlt hjl hbit)) (fun a => dnTo_no g k j a (le_at g hlt hjl hbit)), hbl2⟩
            case measure => simp [intOf]; omega
          · go_wp2
            go_region
            go_wp2
            go_region
            go_wp2
            go_roundw
            case rel =>
              exact ⟨j + 1, by omega, by go_num, HO2.out.set (by omega) (by omega) (or_pow _ _ (upTo_lt _ _ _ _) (by omega)) (or_pow _ _ (dnTo_lt _ _ _ _) (by omega)) (fun a => upTo_yes g k j a (by omega) (le_at g hlt hjl hbit)) (fun a => dnTo_yes g k j a (by omega) (le_at g hlt hjl hbit)),
                (((hbl2.setCell (Nat.le_refl _) _).setCell (Nat.le_refl _) _).drew).drew⟩
            case measure => simp [intOf]; omega
        · have e : j = g.L k := by omega
          subst e
          have HO2 : Hid (OrdOwn wr w.heap.size g.len (upTo g k (g.L k)) (dnTo g k (g.L k))) := hown2
          clear hown2
          go_wp2
          go_roundw
          case rel => exact ⟨k + 1, by omega, by go_num, HO2.out.congr (fun a => (upTo_row g k a).symm) (fun a => (dnTo_row g k a).symm), hbl2⟩
          case measure => simp [intOf]; omega
    · have e : k = g.len := by omega
      have HO3 : Hid (OrdAt wr w.heap.size g.len (upTo g g.len 0) (dnTo g g.len 0)) := by rw [← e]; exact e ▸ HO.out.at'
      clear HO
      go_wp2
      go_ret
      exact ⟨rfl, HO3.out, hbl⟩
end Go.Proofs.YtmkncmmegjfipaaGreatDoor
