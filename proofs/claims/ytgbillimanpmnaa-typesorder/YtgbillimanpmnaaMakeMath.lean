/- Closing an order: the program's one pass and the reference's passes come to the same. No program is named here. -/
import Derived.Test.YtgbillimanpmnaaLawLeast
namespace Go.Proofs.Ytgbillimanpmnaa

theorem war_trans (M : Nat → Nat → Bool) : ∀ k b, b < k → ∀ r c, war M k r b = true → war M k b c = true → war M k r c = true
  | 0, _, h, _, _, _, _ => absurd h (Nat.not_lt_zero _)
  | k + 1, b, hb, r, c, h1, h2 => by
    have ih := war_trans M k
    have key : ∀ x y, war M (k + 1) x y = (war M k x y || (war M k x k && war M k k y)) := fun _ _ => rfl
    rw [key] at h1 h2 ⊢
    simp only [Bool.or_eq_true, Bool.and_eq_true] at h1 h2 ⊢
    by_cases e : b = k
    · subst e
      have g1 : war M b r b = true := by rcases h1 with h | h <;> simp_all
      have g2 : war M b b c = true := by rcases h2 with h | h <;> simp_all
      exact Or.inr ⟨g1, g2⟩
    · have hb' : b < k := by omega
      rcases h1 with h1 | ⟨h1, h1'⟩
      · rcases h2 with h2 | ⟨h2, h2'⟩
        · exact Or.inl (ih b hb' r c h1 h2)
        · exact Or.inr ⟨ih b hb' r k h1 h2, h2'⟩
      · rcases h2 with h2 | ⟨h2, h2'⟩
        · exact Or.inr ⟨h1, ih b hb' k c h1' h2⟩
        · exact Or.inr ⟨h1, h2'⟩

/-- M lies within N, among the first n. -/
def Within (n : Nat) (M N : Nat → Nat → Bool) : Prop := ∀ r c, r < n → c < n → M r c = true → N r c = true
theorem war_least (n : Nat) (M N : Nat → Nat → Bool) (hM : Within n M N) (ht : ∀ a b c, a < n → b < n → c < n → N a b = true → N b c = true → N a c = true) : ∀ k, k ≤ n → Within n (war M k) N
  | 0, _ => hM
  | k + 1, hk => fun r c hr hc h => by
    have ih := war_least n M N hM ht k (by omega)
    unfold war warStep at h
    rw [Bool.or_eq_true, Bool.and_eq_true] at h
    rcases h with h | ⟨h1, h2⟩
    · exact ih r c hr hc h
    · exact ht r k c hr (by omega) hc (ih r k hr (by omega) h1) (ih k c (by omega) hc h2)

/-- What the reference's passes come to is the least order. -/
theorem closed_least (n : Nat) (P M : Nat → Nat → Bool) (h1 : Within n P M) (h2 : Within n M (war P n)) (hc : ∀ a b c, a < n → b < n → c < n → (M a b && M b c && !M a c) = false) : ∀ r c, r < n → c < n → M r c = war P n r c := by
  intro r c hr hcc
  have ht : ∀ a b c, a < n → b < n → c < n → M a b = true → M b c = true → M a c = true := fun a b c ha hb hc' q1 q2 => by
    have := hc a b c ha hb hc'
    rw [q1, q2] at this
    simpa using this
  rw [Bool.eq_iff_iff]
  exact ⟨h2 r c hr hcc, war_least n P M h1 ht n (Nat.le_refl _) r c hr hcc⟩

/-- How many places are not told. -/
def cnt1 (f : Nat → Bool) : Nat → Nat
  | 0 => 0
  | k + 1 => cnt1 f k + if f k then 0 else 1
def cnt2 (M : Nat → Nat → Bool) (n : Nat) : Nat → Nat
  | 0 => 0
  | k + 1 => cnt2 M n k + cnt1 (M k) n
def setM (M : Nat → Nat → Bool) (a c : Nat) : Nat → Nat → Bool := fun x y => if x = a ∧ y = c then true else M x y
theorem cnt1_congr {f g : Nat → Bool} : ∀ k, (∀ i, i < k → f i = g i) → cnt1 f k = cnt1 g k
  | 0, _ => rfl
  | k + 1, h => by unfold cnt1; rw [cnt1_congr k (fun i hi => h i (by omega)), h k (by omega)]
theorem cnt1_set {f : Nat → Bool} {c : Nat} (hf : f c = false) : ∀ k, c < k → cnt1 (fun y => if y = c then true else f y) k + 1 = cnt1 f k
  | 0, h => absurd h (Nat.not_lt_zero _)
  | k + 1, h => by
    unfold cnt1
    by_cases e : c = k
    · subst e
      rw [cnt1_congr c (g := f) (fun i hi => by rw [if_neg (by omega)]), if_pos rfl, hf]; rfl
    · have := cnt1_set hf k (by omega)
      rw [if_neg (Ne.symm e)]
      omega
theorem cnt2_set {M : Nat → Nat → Bool} {n a c : Nat} (hM : M a c = false) (hc : c < n) : ∀ k, cnt2 (setM M a c) n k + (if a < k then 1 else 0) = cnt2 M n k
  | 0 => rfl
  | k + 1 => by
    have ih := cnt2_set hM hc (n := n) k
    unfold cnt2
    by_cases e : a = k
    · subst e
      have h1 : cnt1 (setM M a c a) n + 1 = cnt1 (M a) n := by
        rw [← cnt1_set hM n hc]
        rw [cnt1_congr n (f := setM M a c a) (g := fun y => if y = c then true else M a y) (fun i _ => by simp [setM])]
      rw [if_neg (Nat.lt_irrefl _)] at ih
      rw [if_pos (by omega)]
      omega
    · have h1 : cnt1 (setM M a c k) n = cnt1 (M k) n := cnt1_congr n (fun i _ => by simp [setM, Ne.symm e])
      rw [h1]
      by_cases h : a < k
      · rw [if_pos h] at ih; rw [if_pos (by omega)]; omega
      · rw [if_neg h] at ih; rw [if_neg (by omega)]; omega
theorem cnt2_less {M : Nat → Nat → Bool} {n a c : Nat} (hM : M a c = false) (ha : a < n) (hc : c < n) : cnt2 (setM M a c) n n < cnt2 M n n := by
  have := cnt2_set hM hc n (n := n)
  rw [if_pos ha] at this
  omega

/-- Three labels ahead of (a, b, c), in the order of the loops. -/
def Ahead (a b c x y z : Nat) : Prop := x < a ∨ (x = a ∧ (y < b ∨ (y = b ∧ z < c)))
/-- One pass, gone as far as (a, b, c), begun with M. -/
structure Pass (n : Nat) (P M M' : Nat → Nat → Bool) (more : Bool) (a b c : Nat) : Prop where
  up : Within n M M'
  inn : Within n M' (war P n)
  no : more = false → M' = M ∧ ∀ x y z, x < n → y < n → z < n → Ahead a b c x y z → (M x y && M y z && !M x z) = false
  yes : more = true → cnt2 M' n n < cnt2 M n n

theorem Pass.start {n : Nat} {P M : Nat → Nat → Bool} (h : Within n M (war P n)) : Pass n P M M false 0 0 0 :=
  ⟨fun _ _ _ _ h => h, h, fun _ => ⟨rfl, fun x y z _ _ _ ha => by unfold Ahead at ha; omega⟩, fun h => Bool.noConfusion h⟩
theorem Pass.skip {n : Nat} {P M M' : Nat → Nat → Bool} {more : Bool} {a b c : Nat} (h : Pass n P M M' more a b c) (ht : (M' a b && M' b c && !M' a c) = false) : Pass n P M M' more a b (c + 1) :=
  ⟨h.up, h.inn, fun hm => by
    obtain ⟨e, h2⟩ := h.no hm
    refine ⟨e, fun x y z hx hy hz ha => ?_⟩
    by_cases h3 : Ahead a b c x y z
    · exact h2 x y z hx hy hz h3
    · unfold Ahead at ha h3
      obtain ⟨rfl, rfl, rfl⟩ : x = a ∧ y = b ∧ z = c := by omega
      rw [← e]; exact ht, h.yes⟩
theorem Pass.add {n : Nat} {P M M' : Nat → Nat → Bool} {more : Bool} {a b c : Nat} (h : Pass n P M M' more a b c) (ha : a < n) (hb : b < n) (hc : c < n) (h1 : M' a b = true) (h2 : M' b c = true) (h3 : M' a c = false) : Pass n P M (setM M' a c) true a b (c + 1) := by
  have hless := cnt2_less h3 ha hc
  refine ⟨fun r c' hr hc' q => ?_, fun r c' hr hc' q => ?_, fun hm => Bool.noConfusion hm, fun _ => ?_⟩
  · unfold setM; split
    · rfl
    · exact h.up r c' hr hc' q
  · unfold setM at q; split at q
    · rename_i e
      rw [e.1, e.2]
      exact war_trans P n b hb a c (h.inn a b ha hb h1) (h.inn b c hb hc h2)
    · exact h.inn r c' hr hc' q
  · cases hm : more
    · have := (h.no hm).1
      rw [this] at hless ⊢
      exact hless
    · have := h.yes hm
      omega
theorem Pass.nextB {n : Nat} {P M M' : Nat → Nat → Bool} {more : Bool} {a b : Nat} (h : Pass n P M M' more a b n) : Pass n P M M' more a (b + 1) 0 :=
  ⟨h.up, h.inn, fun hm => ⟨(h.no hm).1, fun x y z hx hy hz ha => (h.no hm).2 x y z hx hy hz (by unfold Ahead at ha ⊢; omega)⟩, h.yes⟩
theorem Pass.nextA {n : Nat} {P M M' : Nat → Nat → Bool} {more : Bool} {a : Nat} (h : Pass n P M M' more a n 0) : Pass n P M M' more (a + 1) 0 0 :=
  ⟨h.up, h.inn, fun hm => ⟨(h.no hm).1, fun x y z hx hy hz ha => (h.no hm).2 x y z hx hy hz (by unfold Ahead at ha ⊢; omega)⟩, h.yes⟩

end Go.Proofs.Ytgbillimanpmnaa
