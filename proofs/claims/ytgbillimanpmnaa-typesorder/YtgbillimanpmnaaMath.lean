/- Plain mathematics for layer 1: sets of labels as numbers below 256. No program is named here. -/
import Derived.WalkKit
namespace Go.Proofs.Ytgbillimanpmnaa

theorem ret_int {k : IntKind} {a b : Int} (h : a = b) : Ending.returned (.int k a) = .returned (.int k b) := by rw [h]
theorem ret_bool {a b : Bool} (h : a = b) : Ending.returned (.bool a) = .returned (.bool b) := by rw [h]

def letterB (r : Int) : Bool := (decide (97 ≤ r) && decide (r ≤ 122)) || (decide (65 ≤ r) && decide (r ≤ 90)) || (decide (945 ≤ r) && decide (r ≤ 969))
def digitB (r : Int) : Bool := decide (48 ≤ r) && decide (r ≤ 57)

/-- x &^ y is nothing: just if all of x is in y. -/
theorem andNot_zero (a b : Nat) (ha : a < 256) (hb : b < 256) : (bits .andNot .u64 (a : Int) (b : Int) == 0) = (a &&& b == a) := by
  have h1 : (BitVec.ofInt 64 (a : Int)).toNat = a := by rw [BitVec.ofInt_natCast, BitVec.toNat_ofNat]; exact Nat.mod_eq_of_lt (by omega)
  have h2 : (BitVec.ofInt 64 (b : Int)).toNat = b := by rw [BitVec.ofInt_natCast, BitVec.toNat_ofNat]; exact Nat.mod_eq_of_lt (by omega)
  have e : bits .andNot .u64 (a : Int) (b : Int) = ((a &&& (2 ^ 64 - 1 - b) : Nat) : Int) := by
    show IntKind.u64.wrap ((BitVec.ofInt 64 (a : Int) &&& ~~~ BitVec.ofInt 64 (b : Int)).toNat : Int) = _
    have hx : a &&& (2 ^ 64 - 1 - b) < 2 ^ 64 := Nat.and_lt_two_pow _ (by omega)
    rw [BitVec.toNat_and, BitVec.toNat_not, h1, h2, IntKind.wrap_u64]
    omega
  rw [e, Bool.eq_iff_iff, beq_iff_eq, beq_iff_eq]
  constructor
  · intro h
    have h0 : a &&& (2 ^ 64 - 1 - b) = 0 := by omega
    apply Nat.eq_of_testBit_eq
    intro i
    have hi := congrArg (fun n => n.testBit i) h0
    simp only [Nat.testBit_and, Nat.zero_testBit] at hi ⊢
    by_cases h64 : i < 64
    · rw [show 2 ^ 64 - 1 - b = 2 ^ 64 - (b + 1) by omega, Nat.testBit_two_pow_sub_succ (by omega)] at hi
      simp [h64] at hi
      cases h3 : a.testBit i <;> simp_all
    · have : a.testBit i = false := Nat.testBit_lt_two_pow (Nat.lt_of_lt_of_le (show a < 2 ^ 64 by omega) (Nat.pow_le_pow_right (by omega) (by omega)))
      simp [this]
  · intro h
    have h0 : a &&& (2 ^ 64 - 1 - b) = 0 := by
      apply Nat.eq_of_testBit_eq
      intro i
      have hi := congrArg (fun n => n.testBit i) h
      simp only [Nat.testBit_and, Nat.zero_testBit] at hi ⊢
      by_cases h64 : i < 64
      · rw [show 2 ^ 64 - 1 - b = 2 ^ 64 - (b + 1) by omega, Nat.testBit_two_pow_sub_succ (by omega)]
        simp [h64]
        cases h3 : a.testBit i <;> simp_all
      · have : a.testBit i = false := Nat.testBit_lt_two_pow (Nat.lt_of_lt_of_le (show a < 2 ^ 64 by omega) (Nat.pow_le_pow_right (by omega) (by omega)))
        simp [this]
    rw [h0]; rfl

theorem and_u8 (a b : Nat) (ha : a < 256) (hb : b < 256) : bits .and .u64 (a : Int) (b : Int) = ((a &&& b : Nat) : Int) := bits_and_u64_nat a b (by omega) (by omega)
theorem or_u8 (a b : Nat) (ha : a < 256) (hb : b < 256) : bits .or .u64 (a : Int) (b : Int) = ((a ||| b : Nat) : Int) := bits_or_u64_nat a b (by omega) (by omega)
theorem and_lt8 (a b : Nat) (ha : a < 256) : a &&& b < 256 := Nat.lt_of_le_of_lt Nat.and_le_left ha

theorem has_bit (x a : Nat) : (bits .and .u64 ((x : Int) / 2 ^ a) 1 == 1) = x.testBit a ∨ ¬ x < 256 := by
  by_cases hx : x < 256
  · left
    have e : ((x : Int) / 2 ^ a) = ((x / 2 ^ a : Nat) : Int) := by simp
    have hl : x / 2 ^ a < 256 := Nat.lt_of_le_of_lt (Nat.div_le_self _ _) hx
    rw [e, show (1 : Int) = ((1 : Nat) : Int) from rfl, and_u8 _ _ hl (by omega), Nat.testBit_eq_decide_div_mod_eq, Nat.and_one_is_mod, Bool.eq_iff_iff]
    simp
    omega
  · right; exact hx

/-- The bits of the labels that p names. -/
def mask : Nat → (Nat → Bool) → Nat
  | 0, _ => 0
  | n + 1, p => mask n p + if p n then 2 ^ n else 0

theorem mask_lt (n : Nat) (p : Nat → Bool) : mask n p < 2 ^ n := by
  induction n with
  | zero => simp [mask]
  | succ n ih => simp only [mask]; rw [Nat.pow_succ]; split <;> omega

theorem mask_bit (n : Nat) (p : Nat → Bool) (i : Nat) : (mask n p).testBit i = (decide (i < n) && p i) := by
  induction n with
  | zero => simp [mask]
  | succ n ih =>
    have hl := mask_lt n p
    simp only [mask]
    by_cases hp : p n = true
    · rw [if_pos hp, Nat.add_comm]
      by_cases hi : i = n
      · subst hi
        rw [Nat.testBit_two_pow_add_eq, Nat.testBit_lt_two_pow hl]; simp [hp]
      · by_cases hlt : i < n
        · rw [Nat.testBit_two_pow_add_gt hlt, ih]; simp [hlt, show i < n + 1 by omega]
        · have : (2 ^ n + mask n p).testBit i = false := Nat.testBit_lt_two_pow (Nat.lt_of_lt_of_le (show 2 ^ n + mask n p < 2 ^ (n + 1) by rw [Nat.pow_succ]; omega) (Nat.pow_le_pow_right (by omega) (by omega)))
          rw [this]; simp [show ¬ i < n + 1 by omega]
    · rw [if_neg hp, Nat.add_zero, ih]
      by_cases hi : i = n
      · subst hi; simp [hp]
      · simp [show (i < n + 1) = (i < n) by simp; omega]

theorem mask8_lt (p : Nat → Bool) : mask 8 p < 256 := mask_lt 8 p

theorem mask_congr (n : Nat) (p q : Nat → Bool) (h : ∀ i, i < n → p i = q i) : mask n p = mask n q := by
  induction n with
  | zero => rfl
  | succ n ih => simp only [mask]; rw [ih (fun i hi => h i (by omega)), h n (by omega)]

theorem mask_or (p : Nat → Bool) (i : Nat) (hi : i < 8) : mask 8 p ||| 2 ^ i = mask 8 (fun j => p j || j == i) := by
  apply Nat.eq_of_testBit_eq
  intro j
  rw [Nat.testBit_or, mask_bit, mask_bit, Nat.testBit_two_pow]
  by_cases h8 : j < 8
  · by_cases hji : j = i
    · subst hji; simp [h8]
    · simp [h8, hji, Ne.symm hji]
  · simp [h8]; omega

/-- nearest: the labels all together reach these. -/
def andAll (R : Nat → Nat) (ls : Nat → Nat) : Nat → Nat → Nat
  | 0, x => x
  | k + 1, x => andAll R ls k x &&& R (ls k)

theorem andAll_lt (R ls : Nat → Nat) (k x : Nat) (h : x < 256) : andAll R ls k x < 256 := by
  induction k with
  | zero => exact h
  | succ k ih => exact and_lt8 _ _ ih

/-- nearest, from label a on. -/
def nearFrom (R : Nat → Nat) (x : Nat) : Nat → Nat → Int
  | 0, _ => -1
  | k + 1, a => if x.testBit a && (x &&& R a == x) then a else nearFrom R x k (a + 1)
def near (R : Nat → Nat) (x : Nat) : Int := nearFrom R x 8 0

theorem near_hit {R : Nat → Nat} {x j : Nat} (hj : j < 8) (h1 : x.testBit j = true) (h2 : (x &&& R j == x) = true) : nearFrom R x (8 - j) j = j := by
  obtain ⟨m, hm⟩ : ∃ m, 8 - j = m + 1 := ⟨8 - j - 1, by omega⟩
  rw [hm, nearFrom, h1, h2]; rfl
theorem near_miss {R : Nat → Nat} {x j : Nat} (hj : j < 8) (h : (x.testBit j && (x &&& R j == x)) = false) : nearFrom R x (8 - j) j = nearFrom R x (8 - (j + 1)) (j + 1) := by
  obtain ⟨m, hm⟩ : ∃ m, 8 - j = m + 1 := ⟨8 - j - 1, by omega⟩
  rw [hm, nearFrom, h, show 8 - (j + 1) = m by omega]; rfl

/-- The nearest label that both reach. -/
def near2 (n : Nat) (R : Nat → Nat) (a b : Nat) : Int := near R (((2 ^ n - 1) &&& R a) &&& R b)
def pairL (a b : Nat) : Nat → Nat := fun j => if j = 0 then a else b
theorem andAll_pair (n : Nat) (R : Nat → Nat) (a b : Nat) : near R (andAll R (pairL a b) 2 (2 ^ n - 1)) = near2 n R a b := rfl
def okPair (n : Nat) (U D : Nat → Nat) (a b : Nat) : Bool := near2 n U a b != -1 && near2 n D a b != -1
def bddB (n : Nat) (U D : Nat → Nat) : Bool := decide (∀ a, a < n → ∀ b, b < a → okPair n U D a b = true)
def partRow (n : Nat) (U D : Nat → Nat) (a : Nat) : Bool := (U a &&& D a == 2 ^ a) && decide (∀ b, b < n → (U a).testBit b = true → U b &&& U a = U b)
def partB (n : Nat) (U D : Nat → Nat) : Bool := decide (∀ a, a < n → partRow n U D a = true)
theorem all8_lt (n : Nat) (hn : n ≤ 8) : 2 ^ n - 1 < 256 := by
  have hp : (2 : Nat) ^ n ≤ 256 := Nat.pow_le_pow_right (n := 2) (by omega) hn
  omega
theorem shl8 (a : Nat) (ha : a < 8) : IntKind.u64.wrap (2 ^ a) = ((2 ^ a : Nat) : Int) := by
  have hp : (2 : Nat) ^ a ≤ 2 ^ 8 := Nat.pow_le_pow_right (by omega) (by omega)
  have hc : ((2 : Int) ^ a) = ((2 ^ a : Nat) : Int) := by simp
  rw [hc, IntKind.wrap_u64]
  generalize (2 : Nat) ^ a = p at *
  omega

theorem part_no1 {n : Nat} {U D : Nat → Nat} {k : Nat} (hk : k < n) (h : (((U k &&& D k : Nat) : Int) != 2 ^ k) = true) : partB n U D = false := by
  unfold partB
  rw [decide_eq_false_iff_not]
  intro hh
  have := hh k hk
  simp [partRow] at this
  rw [bne_iff_ne] at h
  apply h
  rw [this.1]; simp
theorem part_no2 {n : Nat} {U D : Nat → Nat} {k b : Nat} (hk : k < n) (hb : b < n) (h1 : (U k).testBit b = true) (h2 : (U b &&& U k == U b) = false) : partB n U D = false := by
  unfold partB
  rw [decide_eq_false_iff_not]
  intro hh
  have := hh k hk
  simp [partRow] at this
  have := this.2 b hb h1
  simp [this] at h2
theorem part_row {n : Nat} {U D : Nat → Nat} {k : Nat} (h : (((U k &&& D k : Nat) : Int) != 2 ^ k) = false) (h2 : ∀ b, b < n → (U k).testBit b = true → U b &&& U k = U b) : partRow n U D k = true := by
  have e : ((U k &&& D k : Nat) : Int) = 2 ^ k := by simpa using h
  have e2 : U k &&& D k = 2 ^ k := by
    have : ((2 : Int) ^ k) = ((2 ^ k : Nat) : Int) := by simp
    rw [this] at e
    exact Int.ofNat_inj.1 e
  simp only [partRow, e2, beq_self_eq_true, Bool.true_and, decide_eq_true_eq]
  exact h2
theorem part_yes {n : Nat} {U D : Nat → Nat} (h : ∀ a, a < n → partRow n U D a = true) : partB n U D = true := by
  unfold partB; exact decide_eq_true h
theorem bdd_yes {n : Nat} {U D : Nat → Nat} (h : ∀ a, a < n → ∀ b, b < a → okPair n U D a b = true) : bddB n U D = true := by
  unfold bddB; exact decide_eq_true h
theorem bdd_no {n : Nat} {U D : Nat → Nat} {a b : Nat} (ha : a < n) (hb : b < a) (h : okPair n U D a b = false) : bddB n U D = false := by
  unfold bddB
  rw [decide_eq_false_iff_not]
  intro hh
  rw [hh a ha b hb] at h
  exact Bool.noConfusion h
theorem andNot_ne (a b : Nat) (ha : a < 256) (hb : b < 256) : (bits .andNot .u64 (a : Int) (b : Int) != 0) = !(a &&& b == a) := by
  rw [bne, andNot_zero a b ha hb]

end Go.Proofs.Ytgbillimanpmnaa
