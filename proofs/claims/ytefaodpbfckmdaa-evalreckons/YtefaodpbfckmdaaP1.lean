/- A region that draws its order, whose first operations are quiet in a class of worlds, and whose others all wait for them: the first ones are walked once, then the rest is walked from every world of the class. -/
import Derived.Deep.Quiet
import Derived.OrdersHeld
import Derived.WalkKit
import Derived.Test.YtefaodpbfckmdaaRows
import Derived.WalkSpells
import Derived.WalkLawsBesides
import Derived.Deep.QuietTactic
import Derived.BigQuiet
namespace Go.Proofs.Ytefaodpbfckmdaa
open Go

section
variable {P : Program} {ops : Array Oper} {md : Region.Mode} {C : World → Prop} {m : Nat} {R : Array Bool → Act → Prop}

/-- Whatever order is picked for the first m. -/
def wpAnyP (P : Program) (md : Region.Mode) (ops : Array Oper) (C : World → Prop) (m : Nat) (R : Array Bool → Act → Prop) : Nat → Array Bool → Act → Prop
  | 0, listed, a => (∀ i ∈ Region.ready md ops listed, ¬ i < m) ∧ R listed a
  | fuel + 1, listed, a => ((∀ i ∈ Region.ready md ops listed, ¬ i < m) → R listed a) ∧
    ∀ i ∈ Region.ready md ops listed, i < m → qOp P ops C i (wpAnyP P md ops C m R fuel (listed.setIfInBounds i true)) a

theorem wpAnyP_first {i : Nat} {oi : Oper} {v : Value} (hi : ops[i]? = some oi) (him : i < m) (hsel : ∀ (j : Nat) (o : Oper) cs b, ops[j]? = some o → o.op ≠ .select cs b) :
    ∀ (fuel : Nat) (listed : Array Bool) (a : Act),
      (∀ j oj, ops[j]? = some oj → j ≠ i → listed.getD j true = false → (∀ e ∈ oj.after, Region.binds md e = true → e.on ≠ i) → oi.apart ops oj = true) →
      i ∈ Region.ready md ops listed → YieldsIn P ops C oi v a →
      wpAnyP P md ops C m R fuel (listed.setIfInBounds i true) (a.put oi.dst v) → wpAnyP P md ops C m R (fuel + 1) listed a := by
  intro fuel
  induction fuel with
  | zero =>
    intro listed a _ hr hy H
    refine ⟨fun h => absurd him (h i hr), fun j hj hjm => ?_⟩
    by_cases hji : j = i
    · subst hji; exact hy.qOp hi H
    · exact absurd hjm (H.1 j (ready_mono hj hji))
  | succ fuel ih =>
    intro listed a hfree hr hy H
    refine ⟨fun h => absurd him (h i hr), fun j hj hjm => ?_⟩
    by_cases hji : j = i
    · subst hji; exact hy.qOp hi H
    · have h1 := H.2 j (ready_mono hj hji) hjm
      obtain ⟨hjun, oj, hoj, hall⟩ := mem_ready.1 hj
      have hnot : ∀ e ∈ oj.after, Region.binds md e = true → e.on ≠ i := fun e he hb heq => by
        have h1 := hall e he hb
        have h0 := (mem_ready.1 hr).1
        rw [heq] at h1
        rcases Nat.lt_or_ge i listed.size with h' | h'
        · simp [h'] at h0 h1; rw [h0] at h1; cases h1
        · simp [Array.getElem?_eq_none h'] at h1
      have h2 := qOp_put hoj (hfree j oj hoj hji hjun hnot) (fun cs b => hsel i oi cs b hi) (fun cs b => hsel j oj cs b hoj) hy h1
      have hfree' : ∀ k ok, ops[k]? = some ok → k ≠ i → (listed.setIfInBounds j true).getD k true = false →
          (∀ e ∈ ok.after, Region.binds md e = true → e.on ≠ i) → oi.apart ops ok = true := fun k ok hk hki hun hno => by
        refine hfree k ok hk hki ?_ hno
        by_cases hjk : j = k
        · subst hjk; exact hjun
        · rw [getD_set_ne true hjk] at hun; exact hun
      refine qOp_mono (fun a' h3 => ih (listed.setIfInBounds j true) a' hfree' (ready_mono hr (Ne.symm hji)) h3.1 ?_) h2
      rw [Array.setIfInBounds_comm _ _ hji]
      exact h3.2

def lexTo (md : Region.Mode) (ops : Array Oper) (m : Nat) : Nat → Nat → Array Bool → Bool
  | 0, _, listed => (Region.ready md ops listed).all fun i => decide (m ≤ i)
  | fuel + 1, k, listed => (Region.ready md ops listed).contains k && decide (k < m) && Region.free md ops listed k && lexTo md ops m fuel (k + 1) (listed.setIfInBounds k true)
def listedTo : Nat → Nat → Array Bool → Array Bool
  | 0, _, l => l
  | fuel + 1, k, l => listedTo fuel (k + 1) (l.setIfInBounds k true)

theorem wpAnyP_lex (hs : Region.noSelect ops = true) : ∀ (l : List Oper) (k : Nat) (listed : Array Bool) (a : Act), (∀ j, j < l.length → l[j]? = ops[k + j]?) →
    lexTo md ops m l.length k listed = true → wpQuiet P ops C (R (listedTo l.length k listed)) l a → wpAnyP P md ops C m R l.length listed a
  | [], _, _, _, _, hB, h => ⟨fun i hi hm => by simp only [List.length_nil, lexTo, List.all_eq_true, decide_eq_true_eq] at hB; have := hB i hi; omega, h⟩
  | o :: l, k, listed, a, hl, hB, h => by
    have h0 : ops[k]? = some o := by simpa using (hl 0 (by simp)).symm
    simp only [List.length_cons, lexTo, Bool.and_eq_true, decide_eq_true_eq] at hB
    obtain ⟨⟨⟨hr, hk⟩, hf⟩, hB'⟩ := hB
    have hst : qOp P ops C k (wpQuiet P ops C (R (listedTo (o :: l).length k listed)) l) a := by unfold qOp; simp only [h0]; exact h
    obtain ⟨v, hy, hK⟩ := yieldsIn_of_qOp h0 hst
    exact wpAnyP_first h0 hk (Region.noSelect_spec hs) l.length listed a (Region.free_spec h0 hf) (by simpa using hr) hy
      (wpAnyP_lex hs l (k + 1) _ _ (fun j hj => by have := hl (j + 1) (by simp; omega); simpa [Nat.add_assoc, Nat.add_comm 1 j] using this) hB' hK)

/-- What is listed has all that it waits for listed. -/
def Shut (md : Region.Mode) (ops : Array Oper) (listed : Array Bool) : Prop := ∀ (k : Nat) (o : Oper), listed.getD k false = true → ops[k]? = some o → ∀ e ∈ o.after, Region.binds md e = true → listed.getD e.on false = true

theorem Shut.put {listed : Array Bool} {i : Nat} (h : Shut md ops listed) (hi : i ∈ Region.ready md ops listed) : Shut md ops (listed.setIfInBounds i true) := by
  intro k o hk ho e he hb
  by_cases hki : i = k
  · subst hki
    obtain ⟨_, o', ho', hall⟩ := mem_ready.1 hi
    rw [ho] at ho'
    cases ho'
    exact getD_set_true (hall e he hb)
  · rw [getD_set_ne false hki] at hk
    exact getD_set_true (h k o hk ho e he hb)

/-- Each of the first m but the last is waited for by a later one of them; each of the others waits for the last of them, or for another of the others ahead of it. -/
def gateB (md : Region.Mode) (ops : Array Oper) (m : Nat) : Bool :=
  ((List.range (m - 1)).all fun k => (List.range m).any fun p => decide (k < p) && match ops[p]? with
    | some o => o.after.any fun e => Region.binds md e && e.on == k
    | none => false) &&
  ((List.range ops.size).all fun j => decide (j < m) || match ops[j]? with
    | some o => o.after.any fun e => Region.binds md e && decide (m - 1 ≤ e.on) && decide (e.on < j)
    | none => false)

theorem gate_up (hg : gateB md ops m = true) {listed : Array Bool} (hS : Shut md ops listed) (h : listed.getD (m - 1) false = true) : ∀ d k, k + d + 1 = m → listed.getD k false = true := by
  simp only [gateB, Bool.and_eq_true, List.all_eq_true, List.mem_range, List.any_eq_true] at hg
  intro d
  induction d using Nat.strongRecOn with
  | ind d ih =>
    intro k hk
    by_cases h0 : d = 0
    · subst h0
      have : k = m - 1 := by omega
      rw [this]; exact h
    · obtain ⟨p, hp, hkp, hm⟩ := hg.1 k (by omega)
      simp only [decide_eq_true_eq] at hkp
      have hpl : listed.getD p false = true := ih (m - 1 - p) (by omega) p (by omega)
      split at hm
      · rename_i o ho
        obtain ⟨e, he, hb⟩ := Array.any_eq_true'.1 hm
        simp only [Bool.and_eq_true, beq_iff_eq] at hb
        have := hS p o hpl ho e he hb.1
        rwa [hb.2] at this
      · cases hm

theorem gate_at (hg : gateB md ops m = true) {listed : Array Bool} (hS : Shut md ops listed) : ∀ (j : Nat) (o : Oper), m ≤ j → ops[j]? = some o → (∀ e ∈ o.after, Region.binds md e = true → listed.getD e.on false = true) → listed.getD (m - 1) false = true := by
  have hg2 := hg
  simp only [gateB, Bool.and_eq_true, List.all_eq_true, List.mem_range] at hg2
  intro j
  induction j using Nat.strongRecOn with
  | ind j ih =>
    intro o hj ho hall
    have h1 := hg2.2 j (Array.getElem?_eq_some_iff.1 ho).1
    simp only [ho, Bool.or_eq_true, decide_eq_true_eq] at h1
    rcases h1 with h1 | h1
    · omega
    · obtain ⟨e, he, hb⟩ := Array.any_eq_true'.1 h1
      simp only [Bool.and_eq_true, decide_eq_true_eq] at hb
      obtain ⟨⟨hb1, hb2⟩, hb3⟩ := hb
      have hl := hall e he hb1
      by_cases hq : e.on = m - 1
      · rw [← hq]; exact hl
      · cases hx : ops[e.on]? with
        | none =>
          have : ops.size ≤ e.on := by
            rcases Nat.lt_or_ge e.on ops.size with h' | h'
            · rw [Array.getElem?_eq_getElem h'] at hx; cases hx
            · exact h'
          have := (Array.getElem?_eq_some_iff.1 ho).1
          omega
        | some o' => exact ih e.on hb3 o' (by omega) hx (fun e' he' hb' => hS e.on o' hl hx e' he' hb')

theorem gate (hg : gateB md ops m = true) {listed : Array Bool} (hS : Shut md ops listed) {j : Nat} (hj : j ∈ Region.ready md ops listed) (hm : ¬ j < m) : ∀ i ∈ Region.ready md ops listed, ¬ i < m := by
  intro i hi him
  obtain ⟨_, o, ho, hall⟩ := mem_ready.1 hj
  have h1 := gate_at hg hS j o (by omega) ho hall
  have h2 := gate_up hg hS h1 (m - 1 - i) i (by omega)
  have h3 := (mem_ready.1 hi).1
  rcases Nat.lt_or_ge i listed.size with h' | h'
  · simp [h'] at h2 h3; rw [h2] at h3; cases h3
  · simp [Array.getElem?_eq_none h'] at h2

theorem wpAny_more {Q : Exit → Act → World → Prop} : ∀ (fuel : Nat) (listed : Array Bool) (a : Act) (w : World), wpAny P md ops Q fuel listed a w → wpAny P md ops Q (fuel + 1) listed a w
  | 0, _, _, _, h => wpAny_done h.1 h.2 _
  | fuel + 1, _, _, _, h => ⟨h.1, fun i hi => wpOp_mono (fun a' w' h' => wpAny_more fuel _ a' w' h') (h.2 i hi)⟩
theorem wpAny_plus {Q : Exit → Act → World → Prop} {rest : Nat} {listed : Array Bool} {a : Act} {w : World} (h : wpAny P md ops Q rest listed a w) : ∀ d, wpAny P md ops Q (d + rest) listed a w
  | 0 => by simpa using h
  | d + 1 => by have := wpAny_more _ _ _ _ (wpAny_plus h d); rwa [show d + 1 + rest = d + rest + 1 by omega]

theorem wpAny_normal {Q : Exit → Act → World → Prop} {rest : Nat} {listed : Array Bool} {a : Act} {w : World} (h : wpAny P md ops Q rest listed a w) (h0 : Region.ready md ops listed = []) : Q .normal a w := by
  cases rest with
  | zero => exact h.2
  | succ r => exact h.1 h0

theorem wpAny_of_prefix {Q : Exit → Act → World → Prop} {rest : Nat} (hg : gateB md ops m = true) : ∀ (fuel : Nat) (listed : Array Bool) (a : Act) (w : World), Shut md ops listed → C w →
    wpAnyP P md ops C m (fun listed a => ∀ w, C w → wpAny P md ops Q rest listed a w) fuel listed a → wpAny P md ops Q (fuel + rest) listed a w
  | 0, _, _, w, _, hw, h => by simpa using h.2 w hw
  | fuel + 1, listed, a, w, hS, hw, h => by
    rw [show fuel + 1 + rest = fuel + rest + 1 by omega]
    by_cases hx : ∃ j ∈ Region.ready md ops listed, ¬ j < m
    · obtain ⟨j, hj, hjm⟩ := hx
      have := wpAny_plus (h.1 (gate hg hS hj hjm) w hw) (fuel + 1)
      rwa [show fuel + 1 + rest = fuel + rest + 1 by omega] at this
    · have hall : ∀ j ∈ Region.ready md ops listed, j < m := fun j hj => Classical.byContradiction fun hc => hx ⟨j, hj, hc⟩
      refine ⟨fun h0 => ?_, fun i hi => ?_⟩
      · exact wpAny_normal (h.1 (by rw [h0]; intro i hi; cases hi) w hw) h0
      · exact wpOp_of_qOp hw (fun a' w' hw' h' => wpAny_of_prefix hg fuel _ a' w' (hS.put hi) hw' h') (h.2 i hi (hall i hi))

def prefixB (l1 l2 : List Oper) : Bool := Region.noSelect (l1 ++ l2).toArray && gateB .any (l1 ++ l2).toArray l1.length && lexTo .any (l1 ++ l2).toArray l1.length l1.length 0 (Array.replicate (l1.length + l2.length) false)

theorem wp_region_prefix {l1 l2 l : List Oper} {id : Nat} {Q : Exit → Act → World → Prop} {a : Act} {w : World} (hl : l = l1 ++ l2) (hm : P.follows .mixedOrders = true) (hB : prefixB l1 l2 = true) (hC : C { w with drawn := w.drawn + 1 })
    (h : wpQuiet P l.toArray C (fun a' => ∀ w', C w' → wpAny P .any l.toArray Q l2.length (listedTo l1.length 0 (Array.replicate (l1.length + l2.length) false)) a' w') l1 a) : (Code.region id l.toArray true).wp P Q a w := by
  subst hl
  simp only [prefixB, Bool.and_eq_true] at hB
  obtain ⟨⟨h1, h2⟩, h3⟩ := hB
  refine wp_region_any hm ?_
  have key := wpAnyP_lex (P := P) (C := C) (md := .any) (m := l1.length) (R := fun listed a => ∀ w, C w → wpAny P .any (l1 ++ l2).toArray Q l2.length listed a w) h1 l1 0 (Array.replicate (l1.length + l2.length) false) a
    (by intro j hj; simp [List.getElem?_append_left hj]) h3 h
  have := wpAny_of_prefix (Q := Q) (rest := l2.length) h2 l1.length (Array.replicate (l1.length + l2.length) false) a { w with drawn := w.drawn + 1 } (by intro k o hk; simp [Array.getElem?_replicate] at hk; split at hk <;> simp_all) hC key
  simpa using this
end
end Go.Proofs.Ytefaodpbfckmdaa

/- Plain mathematics for layer 1: sets of labels as numbers below 256. No program is named here. -/
namespace Go.Proofs.Ytefaodpbfckmdaa

theorem ret_int {k : IntKind} {a b : Int} (h : a = b) : Ending.returned (.int k a) = .returned (.int k b) := by rw [h]
theorem ret_bool {a b : Bool} (h : a = b) : Ending.returned (.bool a) = .returned (.bool b) := by rw [h]

def letterB (r : Int) : Bool := (decide (97 ≤ r) && decide (r ≤ 122)) || (decide (65 ≤ r) && decide (r ≤ 90)) || (decide (945 ≤ r) && decide (r ≤ 969))
def digitB (r : Int) : Bool := decide (48 ≤ r) && decide (r ≤ 57)

/-- x &^ y is nothing: just if all of x is in y. -/
theorem andNot_zero (a b : Nat) (ha : a < 256) (hb : b < 256) : (bits .andNot .u64 (a : Int) (b : Int) == 0) = (a &&& b == a) := by
  have h1 : (BitVec.ofInt 64 (a : Int)).toNat = a := by rw [BitVec.ofInt_natCast, BitVec.toNat_ofNat]; exact Nat.mod_eq_of_lt (by omega)
  have h2 : (BitVec.ofInt 64 (b : Int)).toNat = b := by rw [BitVec.ofInt_natCast, BitVec.toNat_ofNat]; exact Nat.mod_eq_of_lt (by omega)
  have e : bits .andNot .u64 (a : Int) (b : Int) = ((a &&& (2 ^ 64 - 1 - b) : Nat) : Int) := by
    show IntKind.u64.wrap ((BitVec.ofInt 64 (a : Int) &&& ~~~ BitVec.ofInt 64 (b : Int)).toNat : Int) = _
    have hx : a &&& (2 ^ 64 - 1 - b) < 2 ^ 64 := Nat.and_lt_two_pow _ (by omega)
    rw [BitVec.toNat_and, BitVec.toNat_not, h1, h2, IntKind.wrap_u64]
    omega
  rw [e, Bool.eq_iff_iff, beq_iff_eq, beq_iff_eq]
  constructor
  · intro h
    have h0 : a &&& (2 ^ 64 - 1 - b) = 0 := by omega
    apply Nat.eq_of_testBit_eq
    intro i
    have hi := congrArg (fun n => n.testBit i) h0
    simp only [Nat.testBit_and, Nat.zero_testBit] at hi ⊢
    by_cases h64 : i < 64
    · rw [show 2 ^ 64 - 1 - b = 2 ^ 64 - (b + 1) by omega, Nat.testBit_two_pow_sub_succ (by omega)] at hi
      simp [h64] at hi
      cases h3 : a.testBit i <;> simp_all
    · have : a.testBit i = false := Nat.testBit_lt_two_pow (Nat.lt_of_lt_of_le (show a < 2 ^ 64 by omega) (Nat.pow_le_pow_right (by omega) (by omega)))
      simp [this]
  · intro h
    have h0 : a &&& (2 ^ 64 - 1 - b) = 0 := by
      apply Nat.eq_of_testBit_eq
      intro i
      have hi := congrArg (fun n => n.testBit i) h
      simp only [Nat.testBit_and, Nat.zero_testBit] at hi ⊢
      by_cases h64 : i < 64
      · rw [show 2 ^ 64 - 1 - b = 2 ^ 64 - (b + 1) by omega, Nat.testBit_two_pow_sub_succ (by omega)]
        simp [h64]
        cases h3 : a.testBit i <;> simp_all
      · have : a.testBit i = false := Nat.testBit_lt_two_pow (Nat.lt_of_lt_of_le (show a < 2 ^ 64 by omega) (Nat.pow_le_pow_right (by omega) (by omega)))
        simp [this]
    rw [h0]; rfl

theorem and_u8 (a b : Nat) (ha : a < 256) (hb : b < 256) : bits .and .u64 (a : Int) (b : Int) = ((a &&& b : Nat) : Int) := bits_and_u64_nat a b (by omega) (by omega)
theorem or_u8 (a b : Nat) (ha : a < 256) (hb : b < 256) : bits .or .u64 (a : Int) (b : Int) = ((a ||| b : Nat) : Int) := bits_or_u64_nat a b (by omega) (by omega)
theorem and_lt8 (a b : Nat) (ha : a < 256) : a &&& b < 256 := Nat.lt_of_le_of_lt Nat.and_le_left ha

theorem has_bit (x a : Nat) : (bits .and .u64 ((x : Int) / 2 ^ a) 1 == 1) = x.testBit a ∨ ¬ x < 256 := by
  by_cases hx : x < 256
  · left
    have e : ((x : Int) / 2 ^ a) = ((x / 2 ^ a : Nat) : Int) := by simp
    have hl : x / 2 ^ a < 256 := Nat.lt_of_le_of_lt (Nat.div_le_self _ _) hx
    rw [e, show (1 : Int) = ((1 : Nat) : Int) from rfl, and_u8 _ _ hl (by omega), Nat.testBit_eq_decide_div_mod_eq, Nat.and_one_is_mod, Bool.eq_iff_iff]
    simp
    omega
  · right; exact hx

/-- The bits of the labels that p names. -/
def mask : Nat → (Nat → Bool) → Nat
  | 0, _ => 0
  | n + 1, p => mask n p + if p n then 2 ^ n else 0

theorem mask_lt (n : Nat) (p : Nat → Bool) : mask n p < 2 ^ n := by
  induction n with
  | zero => simp [mask]
  | succ n ih => simp only [mask]; rw [Nat.pow_succ]; split <;> omega

theorem mask_bit (n : Nat) (p : Nat → Bool) (i : Nat) : (mask n p).testBit i = (decide (i < n) && p i) := by
  induction n with
  | zero => simp [mask]
  | succ n ih =>
    have hl := mask_lt n p
    simp only [mask]
    by_cases hp : p n = true
    · rw [if_pos hp, Nat.add_comm]
      by_cases hi : i = n
      · subst hi
        rw [Nat.testBit_two_pow_add_eq, Nat.testBit_lt_two_pow hl]; simp [hp]
      · by_cases hlt : i < n
        · rw [Nat.testBit_two_pow_add_gt hlt, ih]; simp [hlt, show i < n + 1 by omega]
        · have : (2 ^ n + mask n p).testBit i = false := Nat.testBit_lt_two_pow (Nat.lt_of_lt_of_le (show 2 ^ n + mask n p < 2 ^ (n + 1) by rw [Nat.pow_succ]; omega) (Nat.pow_le_pow_right (by omega) (by omega)))
          rw [this]; simp [show ¬ i < n + 1 by omega]
    · rw [if_neg hp, Nat.add_zero, ih]
      by_cases hi : i = n
      · subst hi; simp [hp]
      · simp [show (i < n + 1) = (i < n) by simp; omega]

theorem mask8_lt (p : Nat → Bool) : mask 8 p < 256 := mask_lt 8 p

theorem mask_congr (n : Nat) (p q : Nat → Bool) (h : ∀ i, i < n → p i = q i) : mask n p = mask n q := by
  induction n with
  | zero => rfl
  | succ n ih => simp only [mask]; rw [ih (fun i hi => h i (by omega)), h n (by omega)]

theorem mask_or (p : Nat → Bool) (i : Nat) (hi : i < 8) : mask 8 p ||| 2 ^ i = mask 8 (fun j => p j || j == i) := by
  apply Nat.eq_of_testBit_eq
  intro j
  rw [Nat.testBit_or, mask_bit, mask_bit, Nat.testBit_two_pow]
  by_cases h8 : j < 8
  · by_cases hji : j = i
    · subst hji; simp [h8]
    · simp [h8, hji, Ne.symm hji]
  · simp [h8]; omega

/-- nearest: the labels all together reach these. -/
def andAll (R : Nat → Nat) (ls : Nat → Nat) : Nat → Nat → Nat
  | 0, x => x
  | k + 1, x => andAll R ls k x &&& R (ls k)

theorem andAll_lt (R ls : Nat → Nat) (k x : Nat) (h : x < 256) : andAll R ls k x < 256 := by
  induction k with
  | zero => exact h
  | succ k ih => exact and_lt8 _ _ ih

/-- nearest, from label a on. -/
def nearFrom (R : Nat → Nat) (x : Nat) : Nat → Nat → Int
  | 0, _ => -1
  | k + 1, a => if x.testBit a && (x &&& R a == x) then a else nearFrom R x k (a + 1)
def near (R : Nat → Nat) (x : Nat) : Int := nearFrom R x 8 0

theorem near_hit {R : Nat → Nat} {x j : Nat} (hj : j < 8) (h1 : x.testBit j = true) (h2 : (x &&& R j == x) = true) : nearFrom R x (8 - j) j = j := by
  obtain ⟨m, hm⟩ : ∃ m, 8 - j = m + 1 := ⟨8 - j - 1, by omega⟩
  rw [hm, nearFrom, h1, h2]; rfl
theorem near_miss {R : Nat → Nat} {x j : Nat} (hj : j < 8) (h : (x.testBit j && (x &&& R j == x)) = false) : nearFrom R x (8 - j) j = nearFrom R x (8 - (j + 1)) (j + 1) := by
  obtain ⟨m, hm⟩ : ∃ m, 8 - j = m + 1 := ⟨8 - j - 1, by omega⟩
  rw [hm, nearFrom, h, show 8 - (j + 1) = m by omega]; rfl

/-- The nearest label that both reach. -/
def near2 (n : Nat) (R : Nat → Nat) (a b : Nat) : Int := near R (((2 ^ n - 1) &&& R a) &&& R b)
def pairL (a b : Nat) : Nat → Nat := fun j => if j = 0 then a else b
theorem andAll_pair (n : Nat) (R : Nat → Nat) (a b : Nat) : near R (andAll R (pairL a b) 2 (2 ^ n - 1)) = near2 n R a b := rfl
def okPair (n : Nat) (U D : Nat → Nat) (a b : Nat) : Bool := near2 n U a b != -1 && near2 n D a b != -1
def bddB (n : Nat) (U D : Nat → Nat) : Bool := decide (∀ a, a < n → ∀ b, b < a → okPair n U D a b = true)
def partRow (n : Nat) (U D : Nat → Nat) (a : Nat) : Bool := (U a &&& D a == 2 ^ a) && decide (∀ b, b < n → (U a).testBit b = true → U b &&& U a = U b)
def partB (n : Nat) (U D : Nat → Nat) : Bool := decide (∀ a, a < n → partRow n U D a = true)
theorem all8_lt (n : Nat) (hn : n ≤ 8) : 2 ^ n - 1 < 256 := by
  have hp : (2 : Nat) ^ n ≤ 256 := Nat.pow_le_pow_right (n := 2) (by omega) hn
  omega
theorem shl8 (a : Nat) (ha : a < 8) : IntKind.u64.wrap (2 ^ a) = ((2 ^ a : Nat) : Int) := by
  have hp : (2 : Nat) ^ a ≤ 2 ^ 8 := Nat.pow_le_pow_right (by omega) (by omega)
  have hc : ((2 : Int) ^ a) = ((2 ^ a : Nat) : Int) := by simp
  rw [hc, IntKind.wrap_u64]
  generalize (2 : Nat) ^ a = p at *
  omega

theorem part_no1 {n : Nat} {U D : Nat → Nat} {k : Nat} (hk : k < n) (h : (((U k &&& D k : Nat) : Int) != 2 ^ k) = true) : partB n U D = false := by
  unfold partB
  rw [decide_eq_false_iff_not]
  intro hh
  have := hh k hk
  simp [partRow] at this
  rw [bne_iff_ne] at h
  apply h
  rw [this.1]; simp
theorem part_no2 {n : Nat} {U D : Nat → Nat} {k b : Nat} (hk : k < n) (hb : b < n) (h1 : (U k).testBit b = true) (h2 : (U b &&& U k == U b) = false) : partB n U D = false := by
  unfold partB
  rw [decide_eq_false_iff_not]
  intro hh
  have := hh k hk
  simp [partRow] at this
  have := this.2 b hb h1
  simp [this] at h2
theorem part_row {n : Nat} {U D : Nat → Nat} {k : Nat} (h : (((U k &&& D k : Nat) : Int) != 2 ^ k) = false) (h2 : ∀ b, b < n → (U k).testBit b = true → U b &&& U k = U b) : partRow n U D k = true := by
  have e : ((U k &&& D k : Nat) : Int) = 2 ^ k := by simpa using h
  have e2 : U k &&& D k = 2 ^ k := by
    have : ((2 : Int) ^ k) = ((2 ^ k : Nat) : Int) := by simp
    rw [this] at e
    exact Int.ofNat_inj.1 e
  simp only [partRow, e2, beq_self_eq_true, Bool.true_and, decide_eq_true_eq]
  exact h2
theorem part_yes {n : Nat} {U D : Nat → Nat} (h : ∀ a, a < n → partRow n U D a = true) : partB n U D = true := by
  unfold partB; exact decide_eq_true h
theorem bdd_yes {n : Nat} {U D : Nat → Nat} (h : ∀ a, a < n → ∀ b, b < a → okPair n U D a b = true) : bddB n U D = true := by
  unfold bddB; exact decide_eq_true h
theorem bdd_no {n : Nat} {U D : Nat → Nat} {a b : Nat} (ha : a < n) (hb : b < a) (h : okPair n U D a b = false) : bddB n U D = false := by
  unfold bddB
  rw [decide_eq_false_iff_not]
  intro hh
  rw [hh a ha b hb] at h
  exact Bool.noConfusion h
theorem andNot_ne (a b : Nat) (ha : a < 256) (hb : b < 256) : (bits .andNot .u64 (a : Int) (b : Int) != 0) = !(a &&& b == a) := by
  rw [bne, andNot_zero a b ha hb]

end Go.Proofs.Ytefaodpbfckmdaa

/- Walks of the leaves of layer 1's code: letter, digit, has, all, nearest. -/
namespace Go.Proofs.Ytefaodpbfckmdaa
open Go.RowKit

end Go.Proofs.Ytefaodpbfckmdaa

/- Walks of layer 1's order: join, meet, and whether it is an order. -/
namespace Go.Proofs.Ytefaodpbfckmdaa
open Go.RowKit

/-- Block B of w is an order of n labels: U: what is above each, D: what is below each. -/
structure OrdAt (w : World) (B n : Nat) (U D : Nat → Nat) : Prop where
  size : w.cell? ⟨B, 0, none⟩ = some (.int .i64 n)
  up : ∀ i, i < 8 → w.cell? ⟨B, 1 + i, none⟩ = some (.int .u64 (U i))
  dn : ∀ i, i < 8 → w.cell? ⟨B, 9 + i, none⟩ = some (.int .u64 (D i))

theorem cell_lt {w : World} {b o : Nat} {v : Value} (h : w.cell? ⟨b, o, none⟩ = some v) : b < w.heap.size := by
  unfold World.cell? at h
  cases hb : w.heap[b]? with
  | none => simp [hb] at h
  | some x => exact (Array.getElem?_eq_some_iff.1 hb).1

theorem OrdAt.kept {w w' : World} {B n : Nat} {U D : Nat → Nat} (h : OrdAt w B n U D) (hb : Below w.heap.size w w') : OrdAt w' B n U D := by
  have hl := cell_lt h.size
  exact ⟨(hb.cell (p := ⟨B, 0, none⟩) hl).trans h.size, fun i hi => (hb.cell (p := ⟨B, 1 + i, none⟩) hl).trans (h.up i hi), fun i hi => (hb.cell (p := ⟨B, 9 + i, none⟩) hl).trans (h.dn i hi)⟩

theorem below_drewN {B : Nat} {a w : World} (h : Below B a w) (n : Nat) : Below B a (w.drewN n) := ⟨h.os, h.tape, h.output, h.size, h.block⟩

/-- w' is w, but for draws. -/
def Dr (w w' : World) : Prop := ∃ n, w' = w.drewN n
theorem Dr.refl (w : World) : Dr w w := ⟨0, rfl⟩
theorem Dr.step {a w : World} (h : Dr a w) (n : Nat) : Dr a (w.drewN n) := by
  obtain ⟨m, rfl⟩ := h; exact ⟨_, World.drewN_drewN _ _ _⟩
theorem Dr.trans {a b c : World} (h : Dr a b) (k : Dr b c) : Dr a c := by
  obtain ⟨m, rfl⟩ := k; exact h.step m
theorem Dr.below {w w' : World} (h : Dr w w') (B : Nat) : Below B w w' := by
  obtain ⟨m, rfl⟩ := h; exact below_drewN (Below.refl _ _) m
theorem Dr.cell {w w' : World} (h : Dr w w') (a : Addr) : w'.cell? a = w.cell? a := by
  obtain ⟨m, rfl⟩ := h; rfl
theorem OrdAt.dr {w w' : World} {B n : Nat} {U D : Nat → Nat} (h : OrdAt w B n U D) (k : Dr w w') : OrdAt w' B n U D := h.kept (k.below _)

theorem cells2 (w : World) (u v : Value) (t : TypeId) : (w.alloc (.cells #[u, v] t)).cell? ⟨w.heap.size, 0, none⟩ = some u ∧ (w.alloc (.cells #[u, v] t)).cell? ⟨w.heap.size, 1, none⟩ = some v := by
  constructor <;> simp

end Go.Proofs.Ytefaodpbfckmdaa

/- What the arguments of layer 1 read as: a list of names, a table of truths; both stay where nothing old is written. -/
namespace Go.Proofs.Ytefaodpbfckmdaa
open Go.RowKit

/-- A []string in memory. -/
structure Strs where
  ao : Option Addr
  b : Nat
  o : Nat
  len : Nat
  cap : Nat
  s : Nat → ByteArray

structure Strs.At (g : Strs) (w : World) : Prop where
  lc : g.len ≤ g.cap
  nil : 0 < g.len → g.ao = some ⟨g.b, g.o, none⟩
  bound : g.len ≤ 9223372036854775807
  cell : ∀ i, i < g.len → w.cell? ⟨g.b, g.o + i, none⟩ = some (.string (g.s i))
  sz : ∀ i, i < g.len → (g.s i).size ≤ 9223372036854775807

/-- A [][]bool in memory. -/
structure Grid where
  ao : Option Addr
  gb : Nat
  go : Nat
  len : Nat
  cap : Nat
  A : Nat → Option Addr
  L : Nat → Nat
  C : Nat → Nat
  AB : Nat → Nat
  AO : Nat → Nat
  B : Nat → Nat → Bool

structure Grid.At (g : Grid) (w : World) : Prop where
  lc : g.len ≤ g.cap
  nil : 0 < g.len → g.ao = some ⟨g.gb, g.go, none⟩
  bound : g.len ≤ 9223372036854775807
  lbound : ∀ r, r < g.len → g.L r ≤ 9223372036854775807
  row : ∀ r, r < g.len → w.cell? ⟨g.gb, g.go + r, none⟩ = some (.slice (g.A r) (g.L r) (g.C r))
  adr : ∀ r, r < g.len → 0 < g.L r → g.A r = some ⟨g.AB r, g.AO r, none⟩
  cell : ∀ r, r < g.len → ∀ c, c < g.L r → w.cell? ⟨g.AB r, g.AO r + c, none⟩ = some (.bool (g.B r c))

theorem Strs.At.kept {g : Strs} {w w' : World} (h : g.At w) (hb : Below w.heap.size w w') : g.At w' :=
  ⟨h.lc, h.nil, h.bound, fun i hi => (hb.cell (p := ⟨g.b, g.o + i, none⟩) (cell_lt (h.cell i hi))).trans (h.cell i hi), h.sz⟩

theorem Grid.At.kept {g : Grid} {w w' : World} (h : g.At w) (hb : Below w.heap.size w w') : g.At w' :=
  ⟨h.lc, h.nil, h.bound, h.lbound, fun i hi => (hb.cell (p := ⟨g.gb, g.go + i, none⟩) (cell_lt (h.row i hi))).trans (h.row i hi), h.adr,
    fun r hr c hc => (hb.cell (p := ⟨g.AB r, g.AO r + c, none⟩) (cell_lt (h.cell r hr c hc))).trans (h.cell r hr c hc)⟩

/-- What the table says, within it. -/
def Grid.le (g : Grid) (a b : Nat) : Bool := decide (a < g.len) && (decide (b < g.L a) && g.B a b)

/-- A block that is an order, and may be written. -/
structure OrdOwn (w : World) (B n : Nat) (U D : Nat → Nat) : Prop where
  at' : OrdAt w B n U D
  free : ∀ i, i < 17 → w.frozen? ⟨B, i, none⟩ = false

end Go.Proofs.Ytefaodpbfckmdaa

/- The walk of layer 1's Name. -/
namespace Go.Proofs.Ytefaodpbfckmdaa
open Go.RowKit

/-- No name goes on so. -/
def badRune (n : Nat) (r : Int) : Bool := n == 16 || (!letterB r && (n == 0 || !digitB r))
/-- Name, from a place on, n runes being read; at most 'fuel' runes more. -/
def nameFrom (s : ByteArray) : Nat → Nat → Nat → Bool
  | 0, _, _ => false
  | f + 1, pos, n => if pos < s.size then (if badRune n (Utf8.decode s pos).1 then false else nameFrom s f (pos + (Utf8.decode s pos).2) (n + 1)) else decide (0 < n)
def nameB (s : ByteArray) : Bool := nameFrom s 17 0 0

theorem nameFrom_bad {s : ByteArray} {pos n : Nat} (hn : n ≤ 16) (hp : pos < s.size) (h : badRune n (Utf8.decode s pos).1 = true) : nameFrom s (17 - n) pos n = false := by
  obtain ⟨m, hm⟩ : ∃ m, 17 - n = m + 1 := ⟨16 - n, by omega⟩
  rw [hm, nameFrom, if_pos hp, h]; rfl
theorem nameFrom_good {s : ByteArray} {pos n : Nat} (hn : n ≤ 16) (hp : pos < s.size) (h : badRune n (Utf8.decode s pos).1 = false) : nameFrom s (17 - n) pos n = nameFrom s (17 - (n + 1)) (pos + (Utf8.decode s pos).2) (n + 1) := by
  obtain ⟨m, hm⟩ : ∃ m, 17 - n = m + 1 := ⟨16 - n, by omega⟩
  rw [hm, nameFrom, if_pos hp, h, show 17 - (n + 1) = m by omega]; rfl
theorem nameFrom_end {s : ByteArray} {pos n : Nat} (hn : n ≤ 16) (hp : ¬ pos < s.size) : nameFrom s (17 - n) pos n = decide (0 < n) := by
  obtain ⟨m, hm⟩ : ∃ m, 17 - n = m + 1 := ⟨16 - n, by omega⟩
  rw [hm, nameFrom, if_neg hp]

end Go.Proofs.Ytefaodpbfckmdaa

/- The walk of layer 1's orderOf. -/
namespace Go.Proofs.Ytefaodpbfckmdaa
open Go.RowKit

/-- What has been gone through. -/
def seen (k j a b : Nat) : Bool := decide (a < k) || (a == k && decide (b < j))
def upTo (g : Grid) (k j a : Nat) : Nat := mask 8 (fun b => g.le a b && seen k j a b)
def dnTo (g : Grid) (k j b : Nat) : Nat := mask 8 (fun a => g.le a b && seen k j a b)

theorem upTo_lt (g : Grid) (k j a : Nat) : upTo g k j a < 256 := mask8_lt _
theorem dnTo_lt (g : Grid) (k j b : Nat) : dnTo g k j b < 256 := mask8_lt _

theorem upTo_no (g : Grid) (k j a : Nat) (h : g.le k j = false) : upTo g k (j + 1) a = upTo g k j a := by
  refine mask_congr 8 _ _ fun b _ => ?_
  by_cases ha : a = k
  · subst ha
    by_cases hb : b = j
    · subst hb; simp [h]
    · simp [seen, show (b < j + 1) = (b < j) by simp; omega]
  · simp [seen, beq_eq_false_iff_ne.2 ha]
theorem dnTo_no (g : Grid) (k j b : Nat) (h : g.le k j = false) : dnTo g k (j + 1) b = dnTo g k j b := by
  refine mask_congr 8 _ _ fun a _ => ?_
  by_cases ha : a = k
  · subst ha
    by_cases hb : b = j
    · subst hb; simp [h]
    · simp [seen, show (b < j + 1) = (b < j) by simp; omega]
  · simp [seen, beq_eq_false_iff_ne.2 ha]
theorem upTo_yes (g : Grid) (k j a : Nat) (hj : j < 8) (h : g.le k j = true) : upTo g k (j + 1) a = if a = k then upTo g k j k ||| 2 ^ j else upTo g k j a := by
  by_cases ha : a = k
  · subst ha
    rw [if_pos rfl]
    unfold upTo
    rw [mask_or _ _ hj]
    refine mask_congr 8 _ _ fun b _ => ?_
    by_cases hb : b = j
    · subst hb; simp [h, seen]
    · simp [seen, beq_eq_false_iff_ne.2 hb, show (b < j + 1) = (b < j) by simp; omega]
  · rw [if_neg ha]
    exact mask_congr 8 _ _ fun b _ => by simp [seen, beq_eq_false_iff_ne.2 ha]
theorem dnTo_yes (g : Grid) (k j b : Nat) (hk : k < 8) (h : g.le k j = true) : dnTo g k (j + 1) b = if b = j then dnTo g k j j ||| 2 ^ k else dnTo g k j b := by
  by_cases hb : b = j
  · subst hb
    rw [if_pos rfl]
    unfold dnTo
    rw [mask_or _ _ hk]
    refine mask_congr 8 _ _ fun a _ => ?_
    by_cases ha : a = k
    · subst ha; simp [h, seen]
    · simp [seen, beq_eq_false_iff_ne.2 ha]
  · rw [if_neg hb]
    exact mask_congr 8 _ _ fun a _ => by simp [seen, show (b < j + 1) = (b < j) by simp; omega]
theorem upTo_row (g : Grid) (k a : Nat) : upTo g k (g.L k) a = upTo g (k + 1) 0 a := by
  refine mask_congr 8 _ _ fun b _ => ?_
  by_cases ha : a = k
  · subst ha
    by_cases hb : b < g.L a
    · simp [seen, hb]
    · simp [Grid.le, hb]
  · simp [seen, beq_eq_false_iff_ne.2 ha, show (a < k + 1) = (a < k) by simp; omega]
theorem dnTo_row (g : Grid) (k b : Nat) : dnTo g k (g.L k) b = dnTo g (k + 1) 0 b := by
  refine mask_congr 8 _ _ fun a _ => ?_
  by_cases ha : a = k
  · subst ha
    by_cases hb : b < g.L a
    · simp [seen, hb]
    · simp [Grid.le, hb]
  · simp [seen, beq_eq_false_iff_ne.2 ha, show (a < k + 1) = (a < k) by simp; omega]

theorem mask_none (n : Nat) : mask n (fun _ => false) = 0 := by
  induction n with
  | zero => rfl
  | succ n ih => simp [mask, ih]
theorem upTo_start (g : Grid) (a : Nat) : upTo g 0 0 a = 0 := by
  unfold upTo; rw [mask_congr 8 _ (fun _ => false) (fun b _ => by simp [seen]), mask_none]
theorem dnTo_start (g : Grid) (b : Nat) : dnTo g 0 0 b = 0 := by
  unfold dnTo; rw [mask_congr 8 _ (fun _ => false) (fun b _ => by simp [seen]), mask_none]

theorem OrdOwn.congr {w : World} {B n : Nat} {U D U' D' : Nat → Nat} (h : OrdOwn w B n U D) (hU : ∀ i, U' i = U i) (hD : ∀ i, D' i = D i) : OrdOwn w B n U' D' :=
  ⟨⟨h.at'.size, fun i hi => by rw [hU]; exact h.at'.up i hi, fun i hi => by rw [hD]; exact h.at'.dn i hi⟩, h.free⟩

theorem OrdOwn.set {w : World} {B n : Nat} {U D U' D' : Nat → Nat} (h : OrdOwn w B n U D) {k j x y : Nat} {p q : Int} (hk : k < 8) (hj : j < 8) (hp : p = x) (hq : q = y)
    (hU : ∀ i, U' i = if i = k then x else U i) (hD : ∀ i, D' i = if i = j then y else D i) :
    OrdOwn ((w.setCell ⟨B, 1 + k, none⟩ (.int .u64 p)).setCell ⟨B, 9 + j, none⟩ (.int .u64 q)).drew.drew B n U' D' := by
  subst hp hq
  refine ⟨⟨?_, fun i hi => ?_, fun i hi => ?_⟩, fun i hi => ?_⟩
  · show ((w.setCell ⟨B, 1 + k, none⟩ _).setCell ⟨B, 9 + j, none⟩ _).cell? _ = _
    rw [World.cell?_setCell_other _ _ _ _ (by simp <;> omega), World.cell?_setCell_other _ _ _ _ (by simp <;> omega)]
    exact h.at'.size
  · show ((w.setCell ⟨B, 1 + k, none⟩ _).setCell ⟨B, 9 + j, none⟩ _).cell? _ = _
    rw [World.cell?_setCell_other _ _ _ _ (by simp <;> omega), hU]
    by_cases e : i = k
    · subst e; rw [if_pos rfl]; exact World.cell?_setCell_same _ _ _ (h.at'.up i hi)
    · rw [if_neg e, World.cell?_setCell_other _ _ _ _ (by simp <;> omega)]; exact h.at'.up i hi
  · show ((w.setCell ⟨B, 1 + k, none⟩ _).setCell ⟨B, 9 + j, none⟩ _).cell? _ = _
    rw [hD]
    have hh : (w.setCell ⟨B, 1 + k, none⟩ (.int .u64 x)).cell? ⟨B, 9 + i, none⟩ = some (.int .u64 (D i)) := by
      rw [World.cell?_setCell_other _ _ _ _ (by simp <;> omega)]; exact h.at'.dn i hi
    by_cases e : i = j
    · subst e; rw [if_pos rfl]; exact World.cell?_setCell_same _ _ _ hh
    · rw [if_neg e, World.cell?_setCell_other _ _ _ _ (by simp <;> omega)]; exact hh
  · show ((w.setCell ⟨B, 1 + k, none⟩ _).setCell ⟨B, 9 + j, none⟩ _).frozen? _ = _
    rw [World.frozen?_setCell, World.frozen?_setCell]; exact h.free i hi

theorem OrdOwn.start (w : World) (n : Nat) (t : TypeId) : OrdOwn (w.alloc (.cells #[.int .i64 n, .int .u64 0, .int .u64 0, .int .u64 0, .int .u64 0, .int .u64 0, .int .u64 0, .int .u64 0, .int .u64 0, .int .u64 0, .int .u64 0, .int .u64 0, .int .u64 0, .int .u64 0, .int .u64 0, .int .u64 0, .int .u64 0] t)) w.heap.size n (fun _ => 0) (fun _ => 0) := by
  refine ⟨⟨by simp, fun i hi => ?_, fun i hi => ?_⟩, fun i hi => by simp⟩
  · match i, hi with
    | 0, _ | 1, _ | 2, _ | 3, _ | 4, _ | 5, _ | 6, _ | 7, _ => simp
  · match i, hi with
    | 0, _ | 1, _ | 2, _ | 3, _ | 4, _ | 5, _ | 6, _ | 7, _ => simp

theorem or_pow (x j : Nat) (hx : x < 256) (hj : j < 8) : bits .or .u64 (x : Int) (2 ^ j) = ((x ||| 2 ^ j : Nat) : Int) := by
  have hp : (2 : Nat) ^ j ≤ 2 ^ 7 := Nat.pow_le_pow_right (by omega) (by omega)
  have hc : ((2 : Int) ^ j) = ((2 ^ j : Nat) : Int) := by simp
  rw [hc, or_u8 _ _ hx (by omega)]

theorem le_at (g : Grid) {k j : Nat} (hk : k < g.len) (hj : j < g.L k) {r : Bool} (h : g.B k j = r) : g.le k j = r := by simp [Grid.le, hk, hj, h]

end Go.Proofs.Ytefaodpbfckmdaa

/- The walk of layer 1's bounded. -/
namespace Go.Proofs.Ytefaodpbfckmdaa
open Go.RowKit

end Go.Proofs.Ytefaodpbfckmdaa

/- The walks of layer 1's square, namesFormed (with slices.Contains, slices.Index) and Formed. -/
namespace Go.Proofs.Ytefaodpbfckmdaa
open Go.RowKit

def squareB (g : Grid) (n : Nat) : Bool := (g.len == n) && decide (∀ r, r < g.len → g.L r = n)
/-- Index: the first place from i on, or -1. -/
def idxFrom (s : Nat → ByteArray) (v : ByteArray) : Nat → Nat → Int
  | 0, _ => -1
  | k + 1, i => if v.toList == (s i).toList then i else idxFrom s v k (i + 1)
def holdsB (s : Nat → ByteArray) (n : Nat) (v : ByteArray) : Bool := decide (∃ i, i < n ∧ (v.toList == (s i).toList) = true)
def namesB (g : Strs) : Bool := decide (0 < g.len ∧ g.len ≤ 8) && decide (∀ i, i < g.len → (nameB (g.s i) && !holdsB g.s i (g.s i)) = true)

theorem idx_nonneg (s : Nat → ByteArray) (v : ByteArray) : ∀ (k i : Nat), 0 ≤ idxFrom s v k i ↔ ∃ j, i ≤ j ∧ j < i + k ∧ (v.toList == (s j).toList) = true
  | 0, i => by
    simp only [idxFrom]
    constructor
    · intro h; omega
    · rintro ⟨j, h1, h2, _⟩; omega
  | k + 1, i => by
    simp only [idxFrom]
    by_cases h : (v.toList == (s i).toList) = true
    · rw [if_pos h]
      constructor
      · intro _; exact ⟨i, by omega, by omega, h⟩
      · intro _; omega
    · rw [if_neg h, idx_nonneg s v k (i + 1)]
      constructor
      · rintro ⟨j, h1, h2, h3⟩; exact ⟨j, by omega, by omega, h3⟩
      · rintro ⟨j, h1, h2, h3⟩
        by_cases e : j = i
        · subst e; exact absurd h3 h
        · exact ⟨j, by omega, by omega, h3⟩

theorem holds_idx (s : Nat → ByteArray) (n : Nat) (v : ByteArray) : decide (0 ≤ idxFrom s v n 0) = holdsB s n v := by
  unfold holdsB
  rw [decide_eq_decide, idx_nonneg]
  constructor
  · rintro ⟨j, _, h2, h3⟩; exact ⟨j, by omega, h3⟩
  · rintro ⟨j, h2, h3⟩; exact ⟨j, by omega, by omega, h3⟩

end Go.Proofs.Ytefaodpbfckmdaa

/- The walk of layer 1's Formed. -/
namespace Go.Proofs.Ytefaodpbfckmdaa
open Go.RowKit

def Grid.U (g : Grid) : Nat → Nat := upTo g g.len 0
def Grid.D (g : Grid) : Nat → Nat := dnTo g g.len 0
theorem Grid.U_lt (g : Grid) (i : Nat) : g.U i < 256 := upTo_lt _ _ _ _
theorem Grid.D_lt (g : Grid) (i : Nat) : g.D i < 256 := dnTo_lt _ _ _ _
def formedB (n : Strs) (g : Grid) : Bool := (namesB n && squareB g n.len) && (partB g.len g.U g.D && bddB g.len g.U g.D)

theorem namesB_len {n : Strs} (h : namesB n = true) : 0 < n.len ∧ n.len ≤ 8 := by
  unfold namesB at h
  rw [Bool.and_eq_true, decide_eq_true_eq] at h
  exact h.1
theorem squareB_len {g : Grid} {n : Nat} (h : squareB g n = true) : g.len = n ∧ ∀ r, r < g.len → g.L r = n := by
  unfold squareB at h
  rw [Bool.and_eq_true, decide_eq_true_eq, beq_iff_eq] at h
  exact h

/-- w1 is w, and behind it a variable of two cells, and what came since. -/
structure Box2 (w w1 : World) (u v : Value) : Prop where
  bl : Below w.heap.size w w1
  lt : w.heap.size < w1.heap.size
  c0 : w1.cell? ⟨w.heap.size, 0, none⟩ = some u
  c1 : w1.cell? ⟨w.heap.size, 1, none⟩ = some v
  f0 : w1.frozen? ⟨w.heap.size, 0, none⟩ = false
  f1 : w1.frozen? ⟨w.heap.size, 1, none⟩ = false
theorem Box2.start (w : World) (u v : Value) (t : TypeId) : Box2 w (w.alloc (.cells #[u, v] t)) u v :=
  ⟨(Below.refl _ _).alloc (Nat.le_refl _) _, by simp, (cells2 w u v t).1, (cells2 w u v t).2, by simp, by simp⟩
theorem Box2.step {w w1 w2 : World} {u v : Value} (h : Box2 w w1 u v) (k : Below w1.heap.size w1 w2) : Box2 w w2 u v :=
  ⟨h.bl.trans (k.mono h.bl.size), Nat.lt_of_lt_of_le h.lt k.size, (k.cell (p := ⟨w.heap.size, 0, none⟩) h.lt).trans h.c0, (k.cell (p := ⟨w.heap.size, 1, none⟩) h.lt).trans h.c1,
    (k.frozen (p := ⟨w.heap.size, 0, none⟩) h.lt).trans h.f0, (k.frozen (p := ⟨w.heap.size, 1, none⟩) h.lt).trans h.f1⟩

end Go.Proofs.Ytefaodpbfckmdaa

/- The walks of layer 1's hasLabels, Leq, Join, Meet, Both, Bottom, Top. -/
namespace Go.Proofs.Ytefaodpbfckmdaa
open Go.RowKit

def labB (n : Strs) (a : Int) : Bool := decide (0 ≤ a) && decide (a < n.len)
def labsB (n : Strs) (ls : Nat → Int) (ll : Nat) : Bool := decide (∀ j, j < ll → labB n (ls j) = true)

theorem labs_no {n : Strs} {ls : Nat → Int} {ll j : Nat} (hj : j < ll) (h : labB n (ls j) = false) : labsB n ls ll = false := by
  unfold labsB
  rw [decide_eq_false_iff_not]
  intro hh
  rw [hh j hj] at h
  exact Bool.noConfusion h

def two (a b : Int) : Nat → Int := fun j => if j = 0 then a else b
theorem labs_two (n : Strs) (a b : Int) : labsB n (two a b) 2 = (labB n a && labB n b) := by
  unfold labsB
  rw [Bool.eq_iff_iff, decide_eq_true_eq, Bool.and_eq_true]
  constructor
  · intro h; exact ⟨h 0 (by omega), h 1 (by omega)⟩
  · rintro ⟨h1, h2⟩ j hj
    match j, hj with
    | 0, _ => exact h1
    | 1, _ => exact h2

/-- What Leq answers. -/
def leqB (n : Strs) (g : Grid) (a b : Int) : Bool := ((labB n a && labB n b) && formedB n g) && g.B a.toNat b.toNat
def joinI (n : Strs) (g : Grid) (a b : Int) : Int := if ((labB n a && labB n b) && formedB n g) = true then near2 g.len g.U a.toNat b.toNat else -1
def meetI (n : Strs) (g : Grid) (a b : Int) : Int := if ((labB n a && labB n b) && formedB n g) = true then near2 g.len g.D a.toNat b.toNat else -1
def botI (n : Strs) (g : Grid) : Int := if formedB n g = true then near g.U (2 ^ g.len - 1) else -1
def topI (n : Strs) (g : Grid) : Int := if formedB n g = true then near g.D (2 ^ g.len - 1) else -1

theorem formed_parts {n : Strs} {g : Grid} (h : formedB n g = true) : g.len = n.len ∧ 0 < n.len ∧ n.len ≤ 8 ∧ ∀ r, r < g.len → g.L r = n.len := by
  unfold formedB at h
  rw [Bool.and_eq_true, Bool.and_eq_true] at h
  have h1 := namesB_len h.1.1
  have h2 := squareB_len h.1.2
  exact ⟨h2.1, h1.1, h1.2, h2.2⟩
theorem lab_nat {n : Strs} {a : Int} (h : labB n a = true) : ∃ k : Nat, a = k ∧ k < n.len := by
  unfold labB at h
  rw [Bool.and_eq_true, decide_eq_true_eq, decide_eq_true_eq] at h
  exact ⟨a.toNat, by omega, by omega⟩

theorem cells2' (w : World) (o : Obj) (u v : Value) (t : TypeId) : ((w.alloc o).alloc (.cells #[u, v] t)).cell? ⟨w.heap.size + 1, 0, none⟩ = some u ∧ ((w.alloc o).alloc (.cells #[u, v] t)).cell? ⟨w.heap.size + 1, 1, none⟩ = some v := by
  simp

def bothI (n : Strs) (g : Grid) (a b : Int) : Int := joinI n g (if a = -1 then b else a) (if b = -1 then a else b)

end Go.Proofs.Ytefaodpbfckmdaa

/- The walk of layer 1's pairsInRange. -/
namespace Go.Proofs.Ytefaodpbfckmdaa
open Go.RowKit

/-- A [][2]int in memory. -/
structure Prs where
  ao : Option Addr
  b : Nat
  o : Nat
  len : Nat
  cap : Nat
  x : Nat → Int
  y : Nat → Int

structure Prs.At (g : Prs) (w : World) : Prop where
  lc : g.len ≤ g.cap
  nil : 0 < g.len → g.ao = some ⟨g.b, g.o, none⟩
  bound : g.len ≤ 9223372036854775807
  fst : ∀ i, i < g.len → w.cell? ⟨g.b, g.o + i * 2, none⟩ = some (.int .i64 (g.x i))
  snd : ∀ i, i < g.len → w.cell? ⟨g.b, g.o + i * 2 + 1, none⟩ = some (.int .i64 (g.y i))

theorem Prs.At.kept {g : Prs} {w w' : World} (h : g.At w) (hb : Below w.heap.size w w') : g.At w' :=
  ⟨h.lc, h.nil, h.bound, fun i hi => (hb.cell (p := ⟨g.b, g.o + i * 2, none⟩) (cell_lt (h.fst i hi))).trans (h.fst i hi), fun i hi => (hb.cell (p := ⟨g.b, g.o + i * 2 + 1, none⟩) (cell_lt (h.snd i hi))).trans (h.snd i hi)⟩

def inR (n : Nat) (a : Int) : Bool := decide (0 ≤ a) && decide (a < n)
def prsB (g : Prs) (n : Nat) : Bool := decide (∀ i, i < g.len → (inR n (g.x i) && inR n (g.y i)) = true)

theorem prs_no {g : Prs} {n k : Nat} (hk : k < g.len) (h : (inR n (g.x k) && inR n (g.y k)) = false) : prsB g n = false := by
  unfold prsB
  rw [decide_eq_false_iff_not]
  intro hh
  rw [hh k hk] at h
  exact Bool.noConfusion h
theorem inR_no {n : Nat} {a : Int} (h : a < 0 ∨ (n : Int) ≤ a) : inR n a = false := by
  unfold inR
  rw [Bool.and_eq_false_iff, decide_eq_false_iff_not, decide_eq_false_iff_not]
  omega

end Go.Proofs.Ytefaodpbfckmdaa
