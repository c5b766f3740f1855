/- Plain mathematics for layer 1: sets of labels as numbers below 256. No program is named here. -/
import Derived.WalkKit
import Derived.Test.YtgpaeilnpeflaaaDoorRows
import Derived.WalkSpells
import Derived.WalkLawsBesides
import Derived.Deep.QuietTactic
import Derived.BigQuiet
namespace Go.Proofs.YtgpaeilnpeflaaaDoor

theorem ret_int {k : IntKind} {a b : Int} (h : a = b) : Ending.returned (.int k a) = .returned (.int k b) := by rw [h]
theorem ret_bool {a b : Bool} (h : a = b) : Ending.returned (.bool a) = .returned (.bool b) := by rw [h]

def letterB (r : Int) : Bool := (decide (97 ≤ r) && decide (r ≤ 122)) || (decide (65 ≤ r) && decide (r ≤ 90)) || (decide (945 ≤ r) && decide (r ≤ 969))
def digitB (r : Int) : Bool := decide (48 ≤ r) && decide (r ≤ 57)

/-- x &^ y is nothing: just if all of x is in y. -/
theorem andNot_zero (a b : Nat) (ha : a < 256) (hb : b < 256) : (bits .andNot .u64 (a : Int) (b : Int) == 0) = (a &&& b == a) := by
  have h1 : (BitVec.ofInt 64 (a : Int)).toNat = a := by rw [BitVec.ofInt_natCast, BitVec.toNat_ofNat]; exact Nat.mod_eq_of_lt (by omega)
  have h2 : (BitVec.ofInt 64 (b : Int)).toNat = b := by rw [BitVec.ofInt_natCast, BitVec.toNat_ofNat]; exact Nat.mod_eq_of_lt (by omega)
  have e : bits .andNot .u64 (a : Int) (b : Int) = ((a &&& (2 ^ 64 - 1 - b) : Nat) : Int) := by
    show IntKind.u64.wrap ((BitVec.ofInt 64 (a : Int) &&& ~~~ BitVec.ofInt 64 (b : Int)).toNat : Int) = _
    have hx : a &&& (2 ^ 64 - 1 - b) < 2 ^ 64 := Nat.and_lt_two_pow _ (by omega)
    rw [BitVec.toNat_and, BitVec.toNat_not, h1, h2, IntKind.wrap_u64]
    omega
  rw [e, Bool.eq_iff_iff, beq_iff_eq, beq_iff_eq]
  constructor
  · intro h
    have h0 : a &&& (2 ^ 64 - 1 - b) = 0 := by omega
    apply Nat.eq_of_testBit_eq
    intro i
    have hi := congrArg (fun n => n.testBit i) h0
    simp only [Nat.testBit_and, Nat.zero_testBit] at hi ⊢
    by_cases h64 : i < 64
    · rw [show 2 ^ 64 - 1 - b = 2 ^ 64 - (b + 1) by omega, Nat.testBit_two_pow_sub_succ (by omega)] at hi
      simp [h64] at hi
      cases h3 : a.testBit i <;> simp_all
    · have : a.testBit i = false := Nat.testBit_lt_two_pow (Nat.lt_of_lt_of_le (show a < 2 ^ 64 by omega) (Nat.pow_le_pow_right (by omega) (by omega)))
      simp [this]
  · intro h
    have h0 : a &&& (2 ^ 64 - 1 - b) = 0 := by
      apply Nat.eq_of_testBit_eq
      intro i
      have hi := congrArg (fun n => n.testBit i) h
      simp only [Nat.testBit_and, Nat.zero_testBit] at hi ⊢
      by_cases h64 : i < 64
      · rw [show 2 ^ 64 - 1 - b = 2 ^ 64 - (b + 1) by omega, Nat.testBit_two_pow_sub_succ (by omega)]
        simp [h64]
        cases h3 : a.testBit i <;> simp_all
      · have : a.testBit i = false := Nat.testBit_lt_two_pow (Nat.lt_of_lt_of_le (show a < 2 ^ 64 by omega) (Nat.pow_le_pow_right (by omega) (by omega)))
        simp [this]
    rw [h0]; rfl

theorem and_u8 (a b : Nat) (ha : a < 256) (hb : b < 256) : bits .and .u64 (a : Int) (b : Int) = ((a &&& b : Nat) : Int) := bits_and_u64_nat a b (by omega) (by omega)
theorem or_u8 (a b : Nat) (ha : a < 256) (hb : b < 256) : bits .or .u64 (a : Int) (b : Int) = ((a ||| b : Nat) : Int) := bits_or_u64_nat a b (by omega) (by omega)
theorem and_lt8 (a b : Nat) (ha : a < 256) : a &&& b < 256 := Nat.lt_of_le_of_lt Nat.and_le_left ha

theorem has_bit (x a : Nat) : (bits .and .u64 ((x : Int) / 2 ^ a) 1 == 1) = x.testBit a ∨ ¬ x < 256 := by
  by_cases hx : x < 256
  · left
    have e : ((x : Int) / 2 ^ a) = ((x / 2 ^ a : Nat) : Int) := by simp
    have hl : x / 2 ^ a < 256 := Nat.lt_of_le_of_lt (Nat.div_le_self _ _) hx
    rw [e, show (1 : Int) = ((1 : Nat) : Int) from rfl, and_u8 _ _ hl (by omega), Nat.testBit_eq_decide_div_mod_eq, Nat.and_one_is_mod, Bool.eq_iff_iff]
    simp
    omega
  · right; exact hx

/-- The bits of the labels that p names. -/
def mask : Nat → (Nat → Bool) → Nat
  | 0, _ => 0
  | n + 1, p => mask n p + if p n then 2 ^ n else 0

theorem mask_lt (n : Nat) (p : Nat → Bool) : mask n p < 2 ^ n := by
  induction n with
  | zero => simp [mask]
  | succ n ih => simp only [mask]; rw [Nat.pow_succ]; split <;> omega

theorem mask_bit (n : Nat) (p : Nat → Bool) (i : Nat) : (mask n p).testBit i = (decide (i < n) && p i) := by
  induction n with
  | zero => simp [mask]
  | succ n ih =>
    have hl := mask_lt n p
    simp only [mask]
    by_cases hp : p n = true
    · rw [if_pos hp, Nat.add_comm]
      by_cases hi : i = n
      · subst hi
        rw [Nat.testBit_two_pow_add_eq, Nat.testBit_lt_two_pow hl]; simp [hp]
      · by_cases hlt : i < n
        · rw [Nat.testBit_two_pow_add_gt hlt, ih]; simp [hlt, show i < n + 1 by omega]
        · have : (2 ^ n + mask n p).testBit i = false := Nat.testBit_lt_two_pow (Nat.lt_of_lt_of_le (show 2 ^ n + mask n p < 2 ^ (n + 1) by rw [Nat.pow_succ]; omega) (Nat.pow_le_pow_right (by omega) (by omega)))
          rw [this]; simp [show ¬ i < n + 1 by omega]
    · rw [if_neg hp, Nat.add_zero, ih]
      by_cases hi : i = n
      · subst hi; simp [hp]
      · simp [show (i < n + 1) = (i < n) by simp; omega]

theorem mask8_lt (p : Nat → Bool) : mask 8 p < 256 := mask_lt 8 p

theorem mask_congr (n : Nat) (p q : Nat → Bool) (h : ∀ i, i < n → p i = q i) : mask n p = mask n q := by
  induction n with
  | zero => rfl
  | succ n ih => simp only [mask]; rw [ih (fun i hi => h i (by omega)), h n (by omega)]

theorem mask_or (p : Nat → Bool) (i : Nat) (hi : i < 8) : mask 8 p ||| 2 ^ i = mask 8 (fun j => p j || j == i) := by
  apply Nat.eq_of_testBit_eq
  intro j
  rw [Nat.testBit_or, mask_bit, mask_bit, Nat.testBit_two_pow]
  by_cases h8 : j < 8
  · by_cases hji : j = i
    · subst hji; simp [h8]
    · simp [h8, hji, Ne.symm hji]
  · simp [h8]; omega

/-- nearest: the labels all together reach these. -/
def andAll (R : Nat → Nat) (ls : Nat → Nat) : Nat → Nat → Nat
  | 0, x => x
  | k + 1, x => andAll R ls k x &&& R (ls k)

theorem andAll_lt (R ls : Nat → Nat) (k x : Nat) (h : x < 256) : andAll R ls k x < 256 := by
  induction k with
  | zero => exact h
  | succ k ih => exact and_lt8 _ _ ih

/-- nearest, from label a on. -/
def nearFrom (R : Nat → Nat) (x : Nat) : Nat → Nat → Int
  | 0, _ => -1
  | k + 1, a => if x.testBit a && (x &&& R a == x) then a else nearFrom R x k (a + 1)
def near (R : Nat → Nat) (x : Nat) : Int := nearFrom R x 8 0

theorem near_hit {R : Nat → Nat} {x j : Nat} (hj : j < 8) (h1 : x.testBit j = true) (h2 : (x &&& R j == x) = true) : nearFrom R x (8 - j) j = j := by
  obtain ⟨m, hm⟩ : ∃ m, 8 - j = m + 1 := ⟨8 - j - 1, by omega⟩
  rw [hm, nearFrom, h1, h2]; rfl
theorem near_miss {R : Nat → Nat} {x j : Nat} (hj : j < 8) (h : (x.testBit j && (x &&& R j == x)) = false) : nearFrom R x (8 - j) j = nearFrom R x (8 - (j + 1)) (j + 1) := by
  obtain ⟨m, hm⟩ : ∃ m, 8 - j = m + 1 := ⟨8 - j - 1, by omega⟩
  rw [hm, nearFrom, h, show 8 - (j + 1) = m by omega]; rfl

/-- The nearest label that both reach. -/
def near2 (n : Nat) (R : Nat → Nat) (a b : Nat) : Int := near R (((2 ^ n - 1) &&& R a) &&& R b)
def pairL (a b : Nat) : Nat → Nat := fun j => if j = 0 then a else b
theorem andAll_pair (n : Nat) (R : Nat → Nat) (a b : Nat) : near R (andAll R (pairL a b) 2 (2 ^ n - 1)) = near2 n R a b := rfl
def okPair (n : Nat) (U D : Nat → Nat) (a b : Nat) : Bool := near2 n U a b != -1 && near2 n D a b != -1
def bddB (n : Nat) (U D : Nat → Nat) : Bool := decide (∀ a, a < n → ∀ b, b < a → okPair n U D a b = true)
def partRow (n : Nat) (U D : Nat → Nat) (a : Nat) : Bool := (U a &&& D a == 2 ^ a) && decide (∀ b, b < n → (U a).testBit b = true → U b &&& U a = U b)
def partB (n : Nat) (U D : Nat → Nat) : Bool := decide (∀ a, a < n → partRow n U D a = true)
theorem all8_lt (n : Nat) (hn : n ≤ 8) : 2 ^ n - 1 < 256 := by
  have hp : (2 : Nat) ^ n ≤ 256 := Nat.pow_le_pow_right (n := 2) (by omega) hn
  omega
theorem shl8 (a : Nat) (ha : a < 8) : IntKind.u64.wrap (2 ^ a) = ((2 ^ a : Nat) : Int) := by
  have hp : (2 : Nat) ^ a ≤ 2 ^ 8 := Nat.pow_le_pow_right (by omega) (by omega)
  have hc : ((2 : Int) ^ a) = ((2 ^ a : Nat) : Int) := by simp
  rw [hc, IntKind.wrap_u64]
  generalize (2 : Nat) ^ a = p at *
  omega

theorem part_no1 {n : Nat} {U D : Nat → Nat} {k : Nat} (hk : k < n) (h : (((U k &&& D k : Nat) : Int) != 2 ^ k) = true) : partB n U D = false := by
  unfold partB
  rw [decide_eq_false_iff_not]
  intro hh
  have := hh k hk
  simp [partRow] at this
  rw [bne_iff_ne] at h
  apply h
  rw [this.1]; simp
theorem part_no2 {n : Nat} {U D : Nat → Nat} {k b : Nat} (hk : k < n) (hb : b < n) (h1 : (U k).testBit b = true) (h2 : (U b &&& U k == U b) = false) : partB n U D = false := by
  unfold partB
  rw [decide_eq_false_iff_not]
  intro hh
  have := hh k hk
  simp [partRow] at this
  have := this.2 b hb h1
  simp [this] at h2
theorem part_row {n : Nat} {U D : Nat → Nat} {k : Nat} (h : (((U k &&& D k : Nat) : Int) != 2 ^ k) = false) (h2 : ∀ b, b < n → (U k).testBit b = true → U b &&& U k = U b) : partRow n U D k = true := by
  have e : ((U k &&& D k : Nat) : Int) = 2 ^ k := by simpa using h
  have e2 : U k &&& D k = 2 ^ k := by
    have : ((2 : Int) ^ k) = ((2 ^ k : Nat) : Int) := by simp
    rw [this] at e
    exact Int.ofNat_inj.1 e
  simp only [partRow, e2, beq_self_eq_true, Bool.true_and, decide_eq_true_eq]
  exact h2
theorem part_yes {n : Nat} {U D : Nat → Nat} (h : ∀ a, a < n → partRow n U D a = true) : partB n U D = true := by
  unfold partB; exact decide_eq_true h
theorem bdd_yes {n : Nat} {U D : Nat → Nat} (h : ∀ a, a < n → ∀ b, b < a → okPair n U D a b = true) : bddB n U D = true := by
  unfold bddB; exact decide_eq_true h
theorem bdd_no {n : Nat} {U D : Nat → Nat} {a b : Nat} (ha : a < n) (hb : b < a) (h : okPair n U D a b = false) : bddB n U D = false := by
  unfold bddB
  rw [decide_eq_false_iff_not]
  intro hh
  rw [hh a ha b hb] at h
  exact Bool.noConfusion h
theorem andNot_ne (a b : Nat) (ha : a < 256) (hb : b < 256) : (bits .andNot .u64 (a : Int) (b : Int) != 0) = !(a &&& b == a) := by
  rw [bne, andNot_zero a b ha hb]

end Go.Proofs.YtgpaeilnpeflaaaDoor

/- Walks of the leaves of layer 1's code: letter, digit, has, all, nearest. -/
namespace Go.Proofs.YtgpaeilnpeflaaaDoor
open Go.RowKit

set_option maxHeartbeats 400000 in
theorem letter_any (r : Int) (w : World) :
    Calls Tryd.prog 35 #[.int .i32 r] w fun e w' => e = .returned (.bool (letterB r)) ∧ w' = w := by
  go_enter Tryd.func35, Tryd.ntmps35
  go_wp2
  all_goals (go_ret; exact ⟨ret_bool (by unfold letterB; rw [Bool.eq_iff_iff]; simp; omega), rfl⟩)

set_option maxHeartbeats 400000 in
theorem digit_any (r : Int) (w : World) :
    Calls Tryd.prog 36 #[.int .i32 r] w fun e w' => e = .returned (.bool (digitB r)) ∧ w' = w := by
  go_enter Tryd.func36, Tryd.ntmps36
  go_wp2
  all_goals (go_ret; exact ⟨ret_bool (by unfold digitB; rw [Bool.eq_iff_iff]; simp; try omega), rfl⟩)

end Go.Proofs.YtgpaeilnpeflaaaDoor

/- Walks of layer 1's order: join, meet, and whether it is an order. -/
namespace Go.Proofs.YtgpaeilnpeflaaaDoor
open Go.RowKit

/-- Block B of w is an order of n labels: U: what is above each, D: what is below each. -/
structure OrdAt (w : World) (B n : Nat) (U D : Nat → Nat) : Prop where
  size : w.cell? ⟨B, 0, none⟩ = some (.int .i64 n)
  up : ∀ i, i < 8 → w.cell? ⟨B, 1 + i, none⟩ = some (.int .u64 (U i))
  dn : ∀ i, i < 8 → w.cell? ⟨B, 9 + i, none⟩ = some (.int .u64 (D i))

theorem cell_lt {w : World} {b o : Nat} {v : Value} (h : w.cell? ⟨b, o, none⟩ = some v) : b < w.heap.size := by
  unfold World.cell? at h
  cases hb : w.heap[b]? with
  | none => simp [hb] at h
  | some x => exact (Array.getElem?_eq_some_iff.1 hb).1

theorem OrdAt.kept {w w' : World} {B n : Nat} {U D : Nat → Nat} (h : OrdAt w B n U D) (hb : Below w.heap.size w w') : OrdAt w' B n U D := by
  have hl := cell_lt h.size
  exact ⟨(hb.cell (p := ⟨B, 0, none⟩) hl).trans h.size, fun i hi => (hb.cell (p := ⟨B, 1 + i, none⟩) hl).trans (h.up i hi), fun i hi => (hb.cell (p := ⟨B, 9 + i, none⟩) hl).trans (h.dn i hi)⟩

theorem below_drewN {B : Nat} {a w : World} (h : Below B a w) (n : Nat) : Below B a (w.drewN n) := ⟨h.os, h.tape, h.output, h.size, h.block⟩

/-- w' is w, but for draws. -/
def Dr (w w' : World) : Prop := ∃ n, w' = w.drewN n
theorem Dr.refl (w : World) : Dr w w := ⟨0, rfl⟩
theorem Dr.step {a w : World} (h : Dr a w) (n : Nat) : Dr a (w.drewN n) := by
  obtain ⟨m, rfl⟩ := h; exact ⟨_, World.drewN_drewN _ _ _⟩
theorem Dr.trans {a b c : World} (h : Dr a b) (k : Dr b c) : Dr a c := by
  obtain ⟨m, rfl⟩ := k; exact h.step m
theorem Dr.below {w w' : World} (h : Dr w w') (B : Nat) : Below B w w' := by
  obtain ⟨m, rfl⟩ := h; exact below_drewN (Below.refl _ _) m
theorem Dr.cell {w w' : World} (h : Dr w w') (a : Addr) : w'.cell? a = w.cell? a := by
  obtain ⟨m, rfl⟩ := h; rfl
theorem OrdAt.dr {w w' : World} {B n : Nat} {U D : Nat → Nat} (h : OrdAt w B n U D) (k : Dr w w') : OrdAt w' B n U D := h.kept (k.below _)

theorem cells2 (w : World) (u v : Value) (t : TypeId) : (w.alloc (.cells #[u, v] t)).cell? ⟨w.heap.size, 0, none⟩ = some u ∧ (w.alloc (.cells #[u, v] t)).cell? ⟨w.heap.size, 1, none⟩ = some v := by
  constructor <;> simp

end Go.Proofs.YtgpaeilnpeflaaaDoor

/- What the arguments of layer 1 read as: a list of names, a table of truths; both stay where nothing old is written. -/
namespace Go.Proofs.YtgpaeilnpeflaaaDoor
open Go.RowKit

/-- A []string in memory. -/
structure Strs where
  ao : Option Addr
  b : Nat
  o : Nat
  len : Nat
  cap : Nat
  s : Nat → ByteArray

structure Strs.At (g : Strs) (w : World) : Prop where
  lc : g.len ≤ g.cap
  nil : 0 < g.len → g.ao = some ⟨g.b, g.o, none⟩
  bound : g.len ≤ 9223372036854775807
  cell : ∀ i, i < g.len → w.cell? ⟨g.b, g.o + i, none⟩ = some (.string (g.s i))
  sz : ∀ i, i < g.len → (g.s i).size ≤ 9223372036854775807

/-- A [][]bool in memory. -/
structure Grid where
  ao : Option Addr
  gb : Nat
  go : Nat
  len : Nat
  cap : Nat
  A : Nat → Option Addr
  L : Nat → Nat
  C : Nat → Nat
  AB : Nat → Nat
  AO : Nat → Nat
  B : Nat → Nat → Bool

structure Grid.At (g : Grid) (w : World) : Prop where
  lc : g.len ≤ g.cap
  nil : 0 < g.len → g.ao = some ⟨g.gb, g.go, none⟩
  bound : g.len ≤ 9223372036854775807
  lbound : ∀ r, r < g.len → g.L r ≤ 9223372036854775807
  row : ∀ r, r < g.len → w.cell? ⟨g.gb, g.go + r, none⟩ = some (.slice (g.A r) (g.L r) (g.C r))
  adr : ∀ r, r < g.len → 0 < g.L r → g.A r = some ⟨g.AB r, g.AO r, none⟩
  cell : ∀ r, r < g.len → ∀ c, c < g.L r → w.cell? ⟨g.AB r, g.AO r + c, none⟩ = some (.bool (g.B r c))

theorem Strs.At.kept {g : Strs} {w w' : World} (h : g.At w) (hb : Below w.heap.size w w') : g.At w' :=
  ⟨h.lc, h.nil, h.bound, fun i hi => (hb.cell (p := ⟨g.b, g.o + i, none⟩) (cell_lt (h.cell i hi))).trans (h.cell i hi), h.sz⟩

theorem Grid.At.kept {g : Grid} {w w' : World} (h : g.At w) (hb : Below w.heap.size w w') : g.At w' :=
  ⟨h.lc, h.nil, h.bound, h.lbound, fun i hi => (hb.cell (p := ⟨g.gb, g.go + i, none⟩) (cell_lt (h.row i hi))).trans (h.row i hi), h.adr,
    fun r hr c hc => (hb.cell (p := ⟨g.AB r, g.AO r + c, none⟩) (cell_lt (h.cell r hr c hc))).trans (h.cell r hr c hc)⟩

/-- What the table says, within it. -/
def Grid.le (g : Grid) (a b : Nat) : Bool := decide (a < g.len) && (decide (b < g.L a) && g.B a b)

/-- A block that is an order, and may be written. -/
structure OrdOwn (w : World) (B n : Nat) (U D : Nat → Nat) : Prop where
  at' : OrdAt w B n U D
  free : ∀ i, i < 17 → w.frozen? ⟨B, i, none⟩ = false

end Go.Proofs.YtgpaeilnpeflaaaDoor

/- The walk of layer 1's Name. -/
namespace Go.Proofs.YtgpaeilnpeflaaaDoor
open Go.RowKit

/-- No name goes on so. -/
def badRune (n : Nat) (r : Int) : Bool := n == 16 || (!letterB r && (n == 0 || !digitB r))
/-- Name, from a place on, n runes being read; at most 'fuel' runes more. -/
def nameFrom (s : ByteArray) : Nat → Nat → Nat → Bool
  | 0, _, _ => false
  | f + 1, pos, n => if pos < s.size then (if badRune n (Utf8.decode s pos).1 then false else nameFrom s f (pos + (Utf8.decode s pos).2) (n + 1)) else decide (0 < n)
def nameB (s : ByteArray) : Bool := nameFrom s 17 0 0

theorem nameFrom_bad {s : ByteArray} {pos n : Nat} (hn : n ≤ 16) (hp : pos < s.size) (h : badRune n (Utf8.decode s pos).1 = true) : nameFrom s (17 - n) pos n = false := by
  obtain ⟨m, hm⟩ : ∃ m, 17 - n = m + 1 := ⟨16 - n, by omega⟩
  rw [hm, nameFrom, if_pos hp, h]; rfl
theorem nameFrom_good {s : ByteArray} {pos n : Nat} (hn : n ≤ 16) (hp : pos < s.size) (h : badRune n (Utf8.decode s pos).1 = false) : nameFrom s (17 - n) pos n = nameFrom s (17 - (n + 1)) (pos + (Utf8.decode s pos).2) (n + 1) := by
  obtain ⟨m, hm⟩ : ∃ m, 17 - n = m + 1 := ⟨16 - n, by omega⟩
  rw [hm, nameFrom, if_pos hp, h, show 17 - (n + 1) = m by omega]; rfl
theorem nameFrom_end {s : ByteArray} {pos n : Nat} (hn : n ≤ 16) (hp : ¬ pos < s.size) : nameFrom s (17 - n) pos n = decide (0 < n) := by
  obtain ⟨m, hm⟩ : ∃ m, 17 - n = m + 1 := ⟨16 - n, by omega⟩
  rw [hm, nameFrom, if_neg hp]

set_option maxHeartbeats 1000000 in
theorem name_any (s : ByteArray) (w : World) :
    Calls Tryd.prog 28 #[.string s] w fun e w' => e = .returned (.bool (nameB s)) ∧ Below w.heap.size w w' := by
  go_enter Tryd.func28, Tryd.ntmps28
  go_wp2
  go_loopw [3] (fun t wr => ∃ n pos : Nat, n ≤ 16 ∧ t = .int .i64 n ∧ nameB s = nameFrom s (17 - n) pos n ∧ wr = w.iter s pos) (fun t _ => 17 - (intOf t).toNat)
  case atStart => exact ⟨0, 0, by omega, rfl, rfl, rfl⟩
  case round =>
    obtain ⟨n, pos, hn, rfl, hname, rfl⟩ := hrel
    have HN : Hid (nameB s = nameFrom s (17 - n) pos n) := hname
    clear hname
    have hbl : Below w.heap.size w (w.iter s pos) := (Below.refl _ _).alloc (Nat.le_refl _) _
    by_cases hlt : pos < s.size
    · have hnx := fun ty => run_next_any (P := Tryd.prog) w s pos ty hlt
      have hbl2 : Below w.heap.size w (w.iter s (pos + (Utf8.decode s pos).2)) := (Below.refl _ _).alloc (Nat.le_refl _) _
      have FB : Hid (badRune n (Utf8.decode s pos).1 = true → nameB s = false) := fun h => HN.out.trans (nameFrom_bad hn hlt h)
      have FG : Hid (badRune n (Utf8.decode s pos).1 = false → nameB s = nameFrom s (17 - (n + 1)) (pos + (Utf8.decode s pos).2) (n + 1)) := fun h => HN.out.trans (nameFrom_good hn hlt h)
      clear HN
      by_cases h16 : n = 16
      · subst h16
        go_wp2
        go_ret
        exact ⟨ret_bool (FB.out rfl).symm, hbl2⟩
      · have hb16 : ((n : Int) == 16) = false := beq_eq_false_iff_ne.2 (by omega)
        have hb16' : (n == 16) = false := beq_eq_false_iff_ne.2 h16
        have HB : Hid ((n == 16) = false) := hb16'
        clear hb16'
        go_wp2_with (first
          | (go_at_call 35; refine (letter_any _ _).mono ?_; rintro e w' ⟨rfl, rfl⟩)
          | (go_at_call 36; refine (digit_any _ _).mono ?_; rintro e w' ⟨rfl, rfl⟩))
        · have t1 : letterB (Utf8.decode s pos).1 = true := by assumption
          go_roundw
          case rel => exact ⟨n + 1, _, by omega, by go_num, FG.out (by simp [badRune, HB.out, t1]), rfl⟩
          case measure => simp [intOf]; omega
        · have t1 : ¬ letterB (Utf8.decode s pos).1 = true := by assumption
          have t2 : n = 0 := by assumption
          go_ret
          exact ⟨ret_bool (FB.out (by simp [badRune, t1, t2])).symm, hbl2⟩
        · have t1 : ¬ letterB (Utf8.decode s pos).1 = true := by assumption
          have t2 : ¬ n = 0 := by assumption
          have t3 : ((n : Int) == 0) = true ∨ (!digitB (Utf8.decode s pos).1) = true := by assumption
          go_ret
          refine ⟨ret_bool (FB.out ?_).symm, hbl2⟩
          rcases t3 with t3 | t3
          · exact absurd (by simpa using t3) t2
          · simp [badRune, t1, t3]
        · have t1 : ¬ letterB (Utf8.decode s pos).1 = true := by assumption
          have t2 : ¬ n = 0 := by assumption
          have t3 : ((n : Int) == 0) = false ∧ (!digitB (Utf8.decode s pos).1) = false := by assumption
          have t4 : digitB (Utf8.decode s pos).1 = true := by simpa using t3.2
          go_roundw
          case rel => exact ⟨n + 1, _, by omega, by go_num, FG.out (by simp [badRune, HB.out, t4, beq_eq_false_iff_ne.2 t2]), rfl⟩
          case measure => simp [intOf]; omega
    · have hnx := fun ty => run_next_end (P := Tryd.prog) w s pos ty hlt
      go_wp2
      go_ret
      exact ⟨ret_bool (HN.out.trans (nameFrom_end hn hlt)).symm, hbl⟩
end Go.Proofs.YtgpaeilnpeflaaaDoor

/- The walk of the reference's Name: it tells just what the program's Name tells. -/
namespace Go.Proofs.YtgpaeilnpeflaaaDoor
open Go.RowKit

set_option maxHeartbeats 400000 in
theorem rletter_any (r : Int) (w : World) :
    Calls Tryd.prog 34 #[.int .i32 r] w fun e w' => e = .returned (.bool (letterB r)) ∧ w' = w := by
  go_enter Tryd.func34, Tryd.ntmps34
  go_wp2
  all_goals (go_ret; exact ⟨ret_bool (by unfold letterB; rw [Bool.eq_iff_iff]; simp; omega), rfl⟩)

theorem rletter_is (r : Int) (b : Bool) (h : letterB r = b) (w : World) :
    Calls Tryd.prog 34 #[.int .i32 r] w fun e w' => e = .returned (.bool b) ∧ w' = w := by
  subst h; exact rletter_any r w
theorem digit_no {r : Int} (h : r < 48 ∨ 57 < r) : digitB r = false := by
  unfold digitB; rw [Bool.and_eq_false_iff, decide_eq_false_iff_not, decide_eq_false_iff_not]; omega
theorem letter_hi {r : Int} (h : 128 ≤ r) (h2 : r < 945) : letterB r = false := by
  unfold letterB
  simp only [Bool.or_eq_false_iff, Bool.and_eq_false_iff, decide_eq_false_iff_not]
  omega

theorem letter_gr {r : Int} (h : 945 ≤ r) (h2 : r ≤ 969) : letterB r = true := by
  unfold letterB
  simp only [Bool.or_eq_true, Bool.and_eq_true, decide_eq_true_eq]
  omega

theorem get_plain (s : ByteArray) (i : Nat) (h : i < s.size) : s.get! i = s[i]'h := get_at s i h

/-- The rest of a name, k runes being read. -/
def restB (s : ByteArray) (i k : Nat) : Bool := if k ≤ 16 then nameFrom s (17 - k) i k else false

theorem rest_bad {s : ByteArray} {i k : Nat} (hi : i < s.size) (h : badRune k (Utf8.decode s i).1 = true) : restB s i k = false := by
  unfold restB
  split
  · exact nameFrom_bad (by assumption) hi h
  · rfl
theorem rest_good {s : ByteArray} {i k : Nat} (hi : i < s.size) (h : letterB (Utf8.decode s i).1 = true ∨ (k ≠ 0 ∧ digitB (Utf8.decode s i).1 = true)) : restB s i k = restB s (i + (Utf8.decode s i).2) (k + 1) := by
  by_cases h16 : k < 16
  · have hb : badRune k (Utf8.decode s i).1 = false := by
      unfold badRune
      rw [beq_eq_false_iff_ne.2 (show k ≠ 16 by omega)]
      rcases h with h | ⟨hk, h⟩
      · rw [h]; rfl
      · rw [h, beq_eq_false_iff_ne.2 hk]; simp
    unfold restB
    rw [if_pos (by omega), if_pos (by omega)]
    exact nameFrom_good (by omega) hi hb
  · have e1 : restB s i k = false := by
      by_cases e : k = 16
      · subst e; exact rest_bad hi (by simp [badRune])
      · unfold restB; rw [if_neg (by omega)]
    have e2 : restB s (i + (Utf8.decode s i).2) (k + 1) = false := by unfold restB; rw [if_neg (by omega)]
    rw [e1, e2]
theorem rest_end {s : ByteArray} {i k : Nat} (hi : ¬ i < s.size) : restB s i k = (decide (1 ≤ k) && decide (k ≤ 16)) := by
  unfold restB
  by_cases h : k ≤ 16
  · rw [if_pos h, nameFrom_end h hi]; simp [h]; rfl
  · rw [if_neg h]; simp [h]

theorem bad_of {k : Nat} {r : Int} (h1 : letterB r = false) (h2 : k = 0 ∨ digitB r = false) : badRune k r = true := by
  unfold badRune
  rcases h2 with rfl | h2
  · simp [h1]
  · simp [h1, h2]

theorem decode_ge {s : ByteArray} {i : Nat} (hi : i < s.size) (hb : 128 ≤ (s[i]'hi).toNat) (h : ¬ (∃ h1 : i + 1 < s.size, ((s[i]'hi).toNat = 206 ∧ 177 ≤ (s[i + 1]'h1).toNat ∧ (s[i + 1]'h1).toNat ≤ 191) ∨ ((s[i]'hi).toNat = 207 ∧ 128 ≤ (s[i + 1]'h1).toNat ∧ (s[i + 1]'h1).toNat ≤ 137))) :
    letterB (Utf8.decode s i).1 = false ∧ digitB (Utf8.decode s i).1 = false := by
  have hr := (decode_high s i hi hb).1
  have hd : digitB ((Utf8.decode s i).1 : Nat) = false := by unfold digitB; rw [Bool.and_eq_false_iff, decide_eq_false_iff_not, decide_eq_false_iff_not]; omega
  refine ⟨?_, hd⟩
  have key : ¬ (945 ≤ (Utf8.decode s i).1 ∧ (Utf8.decode s i).1 ≤ 969) := by
    intro hc
    have e0 : (s.get! (i + 0)).toNat = (s[i]'hi).toNat := by rw [get_at s i hi]
    simp only [Utf8.decode, e0] at hc
    rw [if_neg (by omega)] at hc
    split at hc
    · rename_i hcond
      simp only [Bool.and_eq_true, decide_eq_true_eq, beq_iff_eq] at hcond
      obtain ⟨q1, q2, q3⟩ := hcond
      have e1 : (s.get! (i + 1)).toNat = (s[i + 1]'q2).toNat := by rw [get_plain s (i + 1) q2]
      rw [e1] at q3 hc
      split at hc
      · refine h ⟨q2, ?_⟩
        have := hc
        simp only at this
        omega
      · simp [Utf8.runeError] at hc
    · split at hc
      · split at hc
        · rename_i hcond
          simp only [Bool.and_eq_true, decide_eq_true_eq] at hcond
          simp only at hc
          omega
        · simp [Utf8.runeError] at hc
      · split at hc
        · split at hc
          · rename_i hcond
            simp only [Bool.and_eq_true, decide_eq_true_eq] at hcond
            simp only at hc
            omega
          · simp [Utf8.runeError] at hc
        · simp [Utf8.runeError] at hc
  unfold letterB
  simp only [Bool.or_eq_false_iff, Bool.and_eq_false_iff, decide_eq_false_iff_not]
  omega

theorem decode_greek {s : ByteArray} {i : Nat} (hi : i < s.size) (h1 : i + 1 < s.size) (h : ((s[i]'hi).toNat = 206 ∧ 177 ≤ (s[i + 1]'h1).toNat ∧ (s[i + 1]'h1).toNat ≤ 191) ∨ ((s[i]'hi).toNat = 207 ∧ 128 ≤ (s[i + 1]'h1).toNat ∧ (s[i + 1]'h1).toNat ≤ 137)) :
    Utf8.decode s i = (((s[i]'hi).toNat - 192) * 64 + ((s[i + 1]'h1).toNat - 128), 2) := by
  have e0 : (s.get! (i + 0)).toNat = (s[i]'hi).toNat := by rw [get_at s i hi]
  have e1 : (s.get! (i + 1)).toNat = (s[i + 1]'h1).toNat := by rw [get_plain s (i + 1) h1]
  simp only [Utf8.decode, e0, e1]
  rw [if_neg (by omega), if_pos (by simp only [Bool.and_eq_true, decide_eq_true_eq, beq_iff_eq]; omega), if_pos (by omega)]
  refine Prod.ext ?_ rfl
  show (s[i]'hi).toNat % 32 * 64 + (s[i + 1]'h1).toNat % 64 = _
  omega

set_option maxRecDepth 100000 in
set_option maxHeartbeats 2000000 in
theorem rname_any (s : ByteArray) (w : World) (hs : s.size ≤ 9223372036854775807) :
    Calls Tryd.prog 24 #[.string s] w fun e w' => e = .returned (.bool (nameB s)) ∧ w' = w := by
  go_enter Tryd.func24, Tryd.ntmps24
  go_wp2
  go_loop [3, 4] (fun n i => ∃ k j : Nat, j ≤ s.size ∧ k ≤ j ∧ (k = 0 → j = 0) ∧ n = .int .i64 k ∧ i = .int .i64 j ∧ nameB s = restB s j k) (fun _ i => s.size - (intOf i).toNat)
  case atStart => exact ⟨0, 0, Nat.zero_le _, Nat.le_refl _, fun _ => rfl, rfl, rfl, rfl⟩
  case round =>
    obtain ⟨k, j, hj, hkj, hz, rfl, rfl, hrest⟩ := hrel
    have HR : Hid (nameB s = restB s j k) := hrest
    have HZ : Hid (k = 0 → j = 0) := hz
    clear hrest hz
    by_cases hlt : j < s.size
    · have bl := (s[j]'hlt).toNat_lt
      by_cases hb : (s[j]'hlt).toNat < 128
      · have hd := decode_ascii s j hlt hb
        have HG : Hid (letterB ((s[j]'hlt).toNat : Nat) = true ∨ (k ≠ 0 ∧ digitB ((s[j]'hlt).toNat : Nat) = true) → nameB s = restB s (j + 1) (k + 1)) := fun h => by
          have := rest_good (k := k) hlt (by rw [hd]; exact h)
          rw [hd] at this
          exact HR.out.trans this
        have HB : Hid (letterB ((s[j]'hlt).toNat : Nat) = false → (k = 0 ∨ digitB ((s[j]'hlt).toNat : Nat) = false) → nameB s = false) := fun h1 h2 => HR.out.trans (rest_bad hlt (by rw [hd]; exact bad_of h1 h2))
        clear HR hd
        go_wp2_with (go_at_call 34; refine (rletter_any _ _).mono ?_; rintro e w' ⟨rfl, rfl⟩)
        · have t1 : letterB ((s[j]'hlt).toNat : Nat) = true := by assumption
          go_round
          case rel => exact ⟨k + 1, j + 1, by omega, by omega, fun h => by omega, by go_num, by go_num, HG.out (Or.inl t1)⟩
          case measure => simp [intOf]; omega
        · have t1 : ¬ letterB ((s[j]'hlt).toNat : Nat) = true := by assumption
          have t2 : j = 0 := by assumption
          go_ret
          exact ⟨ret_bool (HB.out (by simpa using t1) (Or.inl (by omega))).symm, rfl⟩
        · have t1 : ¬ letterB ((s[j]'hlt).toNat : Nat) = true := by assumption
          have t2 : (((j : Int) == 0) = true ∨ ((s[j]'hlt).toNat : Int) < 48) ∨ (57 : Int) < ((s[j]'hlt).toNat : Int) := by assumption
          have t3 : ¬ j = 0 := by assumption
          go_ret
          refine ⟨ret_bool (HB.out (by simpa using t1) (Or.inr (digit_no ?_))).symm, rfl⟩
          rcases t2 with (t2 | t2) | t2
          · exact absurd (by simpa using t2) t3
          · exact Or.inl t2
          · exact Or.inr t2
        · have t2 : (((j : Int) == 0) = false ∧ (48 : Int) ≤ ((s[j]'hlt).toNat : Int)) ∧ ((s[j]'hlt).toNat : Int) ≤ 57 := by assumption
          have t3 : ¬ j = 0 := by assumption
          go_round
          case rel => exact ⟨k + 1, j + 1, by omega, by omega, fun h => by omega, by go_num, by go_num, HG.out (Or.inr ⟨fun h => t3 (HZ.out h), by unfold digitB; rw [Bool.and_eq_true, decide_eq_true_eq, decide_eq_true_eq]; omega⟩)⟩
          case measure => simp [intOf]; omega
        · have t1 : ¬ letterB ((s[j]'hlt).toNat : Nat) = true := by assumption
          have t2 : ((s[j]'hlt).toNat : Int) < 48 := by assumption
          go_ret
          exact ⟨ret_bool (HB.out (by simpa using t1) (Or.inr (digit_no (Or.inl t2)))).symm, rfl⟩
      · by_cases hg : ∃ h1 : j + 1 < s.size, ((s[j]'hlt).toNat = 206 ∧ 177 ≤ (s[j + 1]'h1).toNat ∧ (s[j + 1]'h1).toNat ≤ 191) ∨ ((s[j]'hlt).toNat = 207 ∧ 128 ≤ (s[j + 1]'h1).toNat ∧ (s[j + 1]'h1).toNat ≤ 137)
        · obtain ⟨h1, hg⟩ := hg
          have hd := decode_greek hlt h1 hg
          have bl1 := (s[j + 1]'h1).toNat_lt
          rcases hg with ⟨q1, q2, q3⟩ | ⟨q1, q2, q3⟩
          · rw [q1] at hd
            have HG : Hid (nameB s = restB s (j + 2) (k + 1)) := by
              have := rest_good (k := k) hlt (Or.inl (by rw [hd]; exact letter_gr (by show (945 : Int) ≤ _; simp only; omega) (by simp only; omega)))
              rw [hd] at this
              exact HR.out.trans this
            have nl : letterB (896 + (((s[j + 1]'h1).toNat : Int) - 128)) = true := letter_gr (by omega) (by omega)
            clear HR hd
            go_wp2_with (go_at_call 34; refine (rletter_is _ true nl _).mono ?_; rintro e w' ⟨rfl, rfl⟩)
            go_round
            case rel => exact ⟨k + 1, j + 2, by omega, by omega, fun h => by omega, by go_num, by go_num, HG.out⟩
            case measure => simp [intOf]; omega
          · rw [q1] at hd
            have HG : Hid (nameB s = restB s (j + 2) (k + 1)) := by
              have := rest_good (k := k) hlt (Or.inl (by rw [hd]; exact letter_gr (by show (945 : Int) ≤ _; simp only; omega) (by simp only; omega)))
              rw [hd] at this
              exact HR.out.trans this
            have nl : letterB (960 + (((s[j + 1]'h1).toNat : Int) - 128)) = true := letter_gr (by omega) (by omega)
            clear HR hd
            go_wp2_with (go_at_call 34; refine (rletter_is _ true nl _).mono ?_; rintro e w' ⟨rfl, rfl⟩)
            go_round
            case rel => exact ⟨k + 1, j + 2, by omega, by omega, fun h => by omega, by go_num, by go_num, HG.out⟩
            case measure => simp [intOf]; omega
        · have hd := decode_ge hlt (by omega) hg
          have HN : Hid (nameB s = false) := HR.out.trans (rest_bad hlt (bad_of hd.1 (Or.inr hd.2)))
          have nl : letterB ((s[j]'hlt).toNat : Nat) = false := letter_hi (by omega) (by omega)
          clear HR hd
          by_cases h1 : j + 1 < s.size
          · have bl1 := (s[j + 1]'h1).toNat_lt
            have hg' : ¬ (((s[j]'hlt).toNat = 206 ∧ 177 ≤ (s[j + 1]'h1).toNat ∧ (s[j + 1]'h1).toNat ≤ 191) ∨ ((s[j]'hlt).toNat = 207 ∧ 128 ≤ (s[j + 1]'h1).toNat ∧ (s[j + 1]'h1).toNat ≤ 137)) := fun h => hg ⟨h1, h⟩
            clear hg
            have HG : Hid (¬ (((s[j]'hlt).toNat = 206 ∧ 177 ≤ (s[j + 1]'h1).toNat ∧ (s[j + 1]'h1).toNat ≤ 191) ∨ ((s[j]'hlt).toNat = 207 ∧ 128 ≤ (s[j + 1]'h1).toNat ∧ (s[j + 1]'h1).toNat ≤ 137))) := hg'
            clear hg'
            by_cases e6 : (s[j]'hlt).toNat = 206
            · have f7 : (s[j + 1]'h1).toNat < 177 ∨ 191 < (s[j + 1]'h1).toNat := by have := HG.out; omega
              have b6 : (((s[j]'hlt).toNat : Int) == 206) = true := beq_iff_eq.2 (by omega)
              have b7 : (((s[j]'hlt).toNat : Int) == 207) = false := beq_eq_false_iff_ne.2 (by omega)
              clear e6
              rcases f7 with f7 | f7
              all_goals
                go_wp2_with (go_at_call 34; refine (rletter_is _ false nl _).mono ?_; rintro e w' ⟨rfl, rfl⟩)
                all_goals (go_ret; exact ⟨ret_bool HN.out.symm, rfl⟩)
            · have b6 : (((s[j]'hlt).toNat : Int) == 206) = false := beq_eq_false_iff_ne.2 (by omega)
              by_cases e7 : (s[j]'hlt).toNat = 207
              · have f7 : (s[j + 1]'h1).toNat < 128 ∨ 137 < (s[j + 1]'h1).toNat := by have := HG.out; omega
                have b7 : (((s[j]'hlt).toNat : Int) == 207) = true := beq_iff_eq.2 (by omega)
                clear e6 e7
                rcases f7 with f7 | f7
                all_goals
                  go_wp2_with (go_at_call 34; refine (rletter_is _ false nl _).mono ?_; rintro e w' ⟨rfl, rfl⟩)
                  all_goals (go_ret; exact ⟨ret_bool HN.out.symm, rfl⟩)
              · have b7 : (((s[j]'hlt).toNat : Int) == 207) = false := beq_eq_false_iff_ne.2 (by omega)
                clear e6 e7
                go_wp2_with (go_at_call 34; refine (rletter_is _ false nl _).mono ?_; rintro e w' ⟨rfl, rfl⟩)
                all_goals (go_ret; exact ⟨ret_bool HN.out.symm, rfl⟩)
          · clear hg
            go_wp2
            go_ret
            exact ⟨ret_bool HN.out.symm, rfl⟩
    · have HE : Hid (nameB s = (decide (1 ≤ k) && decide (k ≤ 16))) := HR.out.trans (rest_end hlt)
      go_wp2
      · have t : (1 : Int) ≤ k := by assumption
        go_ret
        exact ⟨ret_bool (by rw [HE.out, decide_eq_true (show 1 ≤ k by omega), Bool.true_and]; exact decide_eq_decide.2 (by omega)), rfl⟩
      · have t : (k : Int) < 1 := by assumption
        go_ret
        exact ⟨ret_bool (by rw [HE.out, decide_eq_false (show ¬ 1 ≤ k by omega)]; rfl), rfl⟩
end Go.Proofs.YtgpaeilnpeflaaaDoor
