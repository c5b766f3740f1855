/- The document's own words for a formed lattice, and the program's sets: one and the same. No walk in this text. -/
import Derived.Test.YtgbillimanpmnaaPure
import Derived.Test.YtgbillimanpmnaaRefAbove
namespace Go.Proofs.Ytgbillimanpmnaa

structure Sq (n : Strs) (g : Grid) : Prop where
  len : g.len = n.len
  pos : 0 < n.len
  le8 : n.len ≤ 8
  L : ∀ r, r < g.len → g.L r = n.len

section
variable {n : Strs} {g : Grid}
theorem sq_of (h : (namesB n && squareB g n.len) = true) : Sq n g := by
  rw [Bool.and_eq_true] at h
  have h1 := namesB_len h.1
  have h2 := squareB_len h.2
  exact ⟨h2.1, h1.1, h1.2, h2.2⟩
theorem le_iff_s (hS : Sq n g) {a b : Nat} (ha : a < n.len) (hb : b < n.len) : g.le a b = true ↔ Lq g a b := by
  unfold Grid.le Lq
  rw [hS.L a (by have := hS.len; omega)]
  simp [show a < g.len by have := hS.len; omega, hb]
theorem le_lt_s (hS : Sq n g) {a b : Nat} (h : g.le a b = true) : a < n.len ∧ b < n.len := by
  unfold Grid.le at h
  simp only [Bool.and_eq_true, decide_eq_true_eq] at h
  have := hS.L a h.1
  have := hS.len
  omega
theorem U_mem_s (hS : Sq n g) {a b : Nat} (ha : a < n.len) : (g.U a).testBit b = true ↔ b < n.len ∧ Lq g a b := by
  rw [U_bit g (by have := hS.len; omega), Bool.and_eq_true, decide_eq_true_eq]
  constructor
  · rintro ⟨_, h⟩
    have := le_lt_s hS h
    exact ⟨this.2, (le_iff_s hS ha this.2).1 h⟩
  · rintro ⟨h1, h2⟩
    exact ⟨by have := hS.le8; omega, (le_iff_s hS ha h1).2 h2⟩
theorem D_mem_s (hS : Sq n g) {a b : Nat} (hb : b < n.len) : (g.D b).testBit a = true ↔ a < n.len ∧ Lq g a b := by
  rw [D_bit g, Bool.and_eq_true, decide_eq_true_eq]
  constructor
  · rintro ⟨_, h⟩
    have := le_lt_s hS h
    exact ⟨this.1, (le_iff_s hS this.1 hb).1 h⟩
  · rintro ⟨h1, h2⟩
    exact ⟨by have := hS.le8; omega, (le_iff_s hS h1 hb).2 h2⟩

theorem abv_iff (n : Strs) (g : Grid) (a b c : Nat) : abvB n g a b c = true ↔ Lq g a c ∧ Lq g b c ∧ ∀ d, d < n.len → Lq g a d → Lq g b d → Lq g c d := by
  unfold abvB Lq
  rw [Bool.and_eq_true, Bool.and_eq_true, decide_eq_true_eq]
  constructor
  · rintro ⟨⟨h1, h2⟩, h3⟩
    refine ⟨h1, h2, fun d hd q1 q2 => ?_⟩
    have := h3 d hd
    rw [q1, q2] at this
    simpa using this
  · rintro ⟨h1, h2, h3⟩
    refine ⟨⟨h1, h2⟩, fun d hd => ?_⟩
    cases q1 : g.B a d
    · rfl
    · cases q2 : g.B b d
      · rfl
      · rw [h3 d hd q1 q2]; rfl
theorem blw_iff (n : Strs) (g : Grid) (a b c : Nat) : blwB n g a b c = true ↔ Lq g c a ∧ Lq g c b ∧ ∀ d, d < n.len → Lq g d a → Lq g d b → Lq g d c := by
  unfold blwB Lq
  rw [Bool.and_eq_true, Bool.and_eq_true, decide_eq_true_eq]
  constructor
  · rintro ⟨⟨h1, h2⟩, h3⟩
    refine ⟨h1, h2, fun d hd q1 q2 => ?_⟩
    have := h3 d hd
    rw [q1, q2] at this
    simpa using this
  · rintro ⟨h1, h2, h3⟩
    refine ⟨⟨h1, h2⟩, fun d hd => ?_⟩
    cases q1 : g.B d a
    · rfl
    · cases q2 : g.B d b
      · rfl
      · rw [h3 d hd q1 q2]; rfl

theorem findI_spec (p : Nat → Bool) : ∀ f k, findI p f k = -1 ∨ ∃ j, k ≤ j ∧ j < k + f ∧ findI p f k = (j : Int) ∧ p j = true
  | 0, _ => Or.inl rfl
  | f + 1, k => by
    unfold findI
    by_cases h : p k = true
    · rw [if_pos h]; exact Or.inr ⟨k, Nat.le_refl _, by omega, rfl, h⟩
    · rw [if_neg h]
      rcases findI_spec p f (k + 1) with h0 | ⟨j, h1, h2, h3⟩
      · exact Or.inl h0
      · exact Or.inr ⟨j, by omega, by omega, h3⟩
theorem findI_some (p : Nat → Bool) (j : Nat) (h : p j = true) : ∀ f k, k ≤ j → j < k + f → findI p f k ≠ -1
  | 0, _, _, _ => by omega
  | f + 1, k, hk, hj => by
    unfold findI
    by_cases h0 : p k = true
    · rw [if_pos h0]; omega
    · rw [if_neg h0]
      refine findI_some p j h f (k + 1) ?_ (by omega)
      by_cases e : k = j
      · subst e; exact absurd h h0
      · omega
/-- what is found, where there is just one -/
theorem findI_one (p : Nat → Bool) {N j : Nat} (hj : j < N) (h : p j = true) (hu : ∀ i, i < N → p i = true → i = j) : findI p N 0 = (j : Int) := by
  rcases findI_spec p N 0 with h0 | ⟨i, h1, h2, h3, h4⟩
  · exact absurd h0 (findI_some p j h N 0 (Nat.zero_le _) (by omega))
  · rw [h3, hu i (by omega) h4]

/-- One pair of labels, as the reference asks. -/
def abOk (n : Strs) (g : Grid) (a b : Nat) : Bool :=
  ((if a = b then g.B a b else !(g.B a b && g.B b a)) && decide (∀ c, c < n.len → (g.B a b && g.B b c && !g.B a c) = false)) && (findI (abvB n g a b) n.len 0 != -1 && findI (blwB n g a b) n.len 0 != -1)
def rformedB (n : Strs) (g : Grid) : Bool := (namesB n && squareB g n.len) && decide (∀ a, a < n.len → ∀ b, b < n.len → abOk n g a b = true)

theorem ab_of_formed (hF : formedB n g = true) {a b : Nat} (ha : a < n.len) (hb : b < n.len) : abOk n g a b = true := by
  unfold abOk
  rw [Bool.and_eq_true, Bool.and_eq_true, Bool.and_eq_true, bne_iff_ne, bne_iff_ne, decide_eq_true_eq]
  refine ⟨⟨?_, fun c hc => ?_⟩, ?_, ?_⟩
  · by_cases e : a = b
    · subst e; rw [if_pos rfl]; exact lq_refl hF ha
    · rw [if_neg e]
      cases q1 : g.B a b
      · rfl
      · cases q2 : g.B b a
        · rfl
        · exact absurd (lq_anti hF ha hb q1 q2) e
  · cases q1 : g.B a b
    · rfl
    · cases q2 : g.B b c
      · rfl
      · rw [show g.B a c = true from lq_trans hF ha hb hc q1 q2]; rfl
  · obtain ⟨h1, h2, h3, h4⟩ := (jn_is hF ha hb).2
    exact findI_some _ _ ((abv_iff n g a b _).2 ⟨h2, h3, h4⟩) _ _ (Nat.zero_le _) (by omega)
  · obtain ⟨h1, h2, h3, h4⟩ := (mt_is hF ha hb).2
    exact findI_some _ _ ((blw_iff n g a b _).2 ⟨h2, h3, h4⟩) _ _ (Nat.zero_le _) (by omega)

theorem formed_of_ab (hS : (namesB n && squareB g n.len) = true) (h : ∀ a, a < n.len → ∀ b, b < n.len → abOk n g a b = true) : formedB n g = true := by
  have s := sq_of hS
  have refl : ∀ a, a < n.len → Lq g a a := fun a ha => by
    have := h a ha a ha
    unfold abOk at this
    rw [Bool.and_eq_true, Bool.and_eq_true, if_pos rfl] at this
    exact this.1.1
  have anti : ∀ a b, a < n.len → b < n.len → Lq g a b → Lq g b a → a = b := fun a b ha hb q1 q2 => by
    by_cases e : a = b
    · exact e
    · have := h a ha b hb
      unfold abOk at this
      rw [Bool.and_eq_true, Bool.and_eq_true, if_neg e, show g.B a b = true from q1, show g.B b a = true from q2] at this
      exact absurd this.1.1 (by simp)
  have trans : ∀ a b c, a < n.len → b < n.len → c < n.len → Lq g a b → Lq g b c → Lq g a c := fun a b c ha hb hc q1 q2 => by
    have := h a ha b hb
    unfold abOk at this
    rw [Bool.and_eq_true, Bool.and_eq_true, decide_eq_true_eq] at this
    have := this.1.2 c hc
    rw [show g.B a b = true from q1, show g.B b c = true from q2] at this
    simpa [Lq] using this
  unfold formedB
  rw [hS, Bool.true_and, Bool.and_eq_true]
  constructor
  · refine part_yes fun a ha => ?_
    have ha' : a < n.len := by have := s.len; omega
    unfold partRow
    rw [Bool.and_eq_true, beq_iff_eq, decide_eq_true_eq]
    refine ⟨?_, fun b hb hbit => ?_⟩
    · apply Nat.eq_of_testBit_eq
      intro i
      rw [Nat.testBit_and, Nat.testBit_two_pow, Bool.eq_iff_iff, Bool.and_eq_true, U_mem_s s ha', D_mem_s s ha', decide_eq_true_eq]
      constructor
      · rintro ⟨⟨h1, h2⟩, _, h3⟩; exact anti a i ha' h1 h2 h3
      · rintro rfl; exact ⟨⟨ha', refl a ha'⟩, ha', refl a ha'⟩
    · have hb' : b < n.len := by have := s.len; omega
      have h1 := (U_mem_s s ha').1 hbit
      exact and_sub.2 fun i hi => by
        have h2 := (U_mem_s s hb').1 hi
        exact (U_mem_s s ha').2 ⟨h2.1, trans a b i ha' hb' h2.1 h1.2 h2.2⟩
  · refine bdd_yes fun a ha b hb => ?_
    have ha' : a < n.len := by have := s.len; omega
    have hb' : b < n.len := by omega
    have hab := h a ha' b hb'
    unfold abOk at hab
    rw [Bool.and_eq_true, Bool.and_eq_true, Bool.and_eq_true, bne_iff_ne, bne_iff_ne] at hab
    have l8 := s.le8
    have le := s.len
    unfold okPair
    rw [Bool.and_eq_true, bne_iff_ne, bne_iff_ne]
    constructor
    · rcases findI_spec (abvB n g a b) n.len 0 with h0 | ⟨j, _, hj, _, h4⟩
      · exact absurd h0 hab.2.1
      · obtain ⟨q1, q2, q3⟩ := (abv_iff n g a b j).1 h4
        have up : ∀ i, (((2 ^ g.len - 1) &&& g.U a) &&& g.U b).testBit i = true ↔ i < n.len ∧ Lq g a i ∧ Lq g b i := fun i => by
          rw [Nat.testBit_and, Nat.testBit_and, Bool.and_eq_true, Bool.and_eq_true, all_bit, decide_eq_true_eq, U_mem_s s ha', U_mem_s s hb']
          constructor
          · rintro ⟨⟨h1, h2⟩, h3⟩; exact ⟨h2.1, h2.2, h3.2⟩
          · rintro ⟨h1, h2, h3⟩; exact ⟨⟨by omega, h1, h2⟩, h1, h3⟩
        refine near_some g.U _ j ((up j).2 ⟨by omega, q1, q2⟩) ?_ 8 0 (Nat.zero_le _) (by omega)
        exact and_sub.2 fun i hi => by
          obtain ⟨r1, r2, r3⟩ := (up i).1 hi
          exact (U_mem_s s (by omega)).2 ⟨r1, q3 i r1 r2 r3⟩
    · rcases findI_spec (blwB n g a b) n.len 0 with h0 | ⟨j, _, hj, _, h4⟩
      · exact absurd h0 hab.2.2
      · obtain ⟨q1, q2, q3⟩ := (blw_iff n g a b j).1 h4
        have dn : ∀ i, (((2 ^ g.len - 1) &&& g.D a) &&& g.D b).testBit i = true ↔ i < n.len ∧ Lq g i a ∧ Lq g i b := fun i => by
          rw [Nat.testBit_and, Nat.testBit_and, Bool.and_eq_true, Bool.and_eq_true, all_bit, decide_eq_true_eq, D_mem_s s ha', D_mem_s s hb']
          constructor
          · rintro ⟨⟨h1, h2⟩, h3⟩; exact ⟨h2.1, h2.2, h3.2⟩
          · rintro ⟨h1, h2, h3⟩; exact ⟨⟨by omega, h1, h2⟩, h1, h3⟩
        refine near_some g.D _ j ((dn j).2 ⟨by omega, q1, q2⟩) ?_ 8 0 (Nat.zero_le _) (by omega)
        exact and_sub.2 fun i hi => by
          obtain ⟨r1, r2, r3⟩ := (dn i).1 hi
          exact (D_mem_s s (by omega)).2 ⟨r1, q3 i r1 r2 r3⟩

theorem rformed_eq (n : Strs) (g : Grid) : rformedB n g = formedB n g := by
  rw [Bool.eq_iff_iff]
  unfold rformedB
  rw [Bool.and_eq_true, decide_eq_true_eq]
  constructor
  · rintro ⟨h1, h2⟩; exact formed_of_ab h1 h2
  · intro h
    refine ⟨?_, fun a ha b hb => ab_of_formed h ha hb⟩
    unfold formedB at h
    rw [Bool.and_eq_true] at h
    exact h.1
end
end Go.Proofs.Ytgbillimanpmnaa
