/- What a formed lattice is: an order in which each two have a join and a meet; what join, meet, bottom, top answer. No walk in this text. -/
import Derived.Test.YtgbillimanpmnaaAsks
namespace Go.Proofs.Ytgbillimanpmnaa

theorem near_neg (R : Nat → Nat) (x : Nat) : ∀ k a, nearFrom R x k a = -1 ∨ ∃ j, a ≤ j ∧ j < a + k ∧ nearFrom R x k a = (j : Int) ∧ x.testBit j = true ∧ x &&& R j = x
  | 0, _ => Or.inl rfl
  | k + 1, a => by
    unfold nearFrom
    by_cases h : (x.testBit a && (x &&& R a == x)) = true
    · rw [if_pos h]
      rw [Bool.and_eq_true, beq_iff_eq] at h
      exact Or.inr ⟨a, Nat.le_refl _, by omega, rfl, h.1, h.2⟩
    · rw [if_neg h]
      rcases near_neg R x k (a + 1) with h0 | ⟨j, h1, h2, h3⟩
      · exact Or.inl h0
      · exact Or.inr ⟨j, by omega, by omega, h3⟩

theorem near_some (R : Nat → Nat) (x j : Nat) (h1 : x.testBit j = true) (h2 : x &&& R j = x) : ∀ k a, a ≤ j → j < a + k → nearFrom R x k a ≠ -1
  | 0, _, _, _ => by omega
  | k + 1, a, ha, hj => by
    unfold nearFrom
    by_cases h : (x.testBit a && (x &&& R a == x)) = true
    · rw [if_pos h]; omega
    · rw [if_neg h]
      refine near_some R x j h1 h2 k (a + 1) ?_ (by omega)
      by_cases e : a = j
      · subst e
        exact absurd (by rw [h1, h2]; simp) h
      · omega

theorem and_sub {x y : Nat} : x &&& y = x ↔ ∀ i, x.testBit i = true → y.testBit i = true := by
  constructor
  · intro h i hi
    rw [← h, Nat.testBit_and, Bool.and_eq_true] at hi
    exact hi.2
  · intro h
    apply Nat.eq_of_testBit_eq
    intro i
    rw [Nat.testBit_and]
    cases hx : x.testBit i
    · rfl
    · rw [h i hx]; rfl

section
variable {n : Strs} {g : Grid}

theorem U_bit (g : Grid) {a : Nat} (ha : a < g.len) (b : Nat) : (g.U a).testBit b = (decide (b < 8) && g.le a b) := by
  unfold Grid.U upTo
  rw [mask_bit]
  simp [seen, ha]
theorem D_bit (g : Grid) (a b : Nat) : (g.D b).testBit a = (decide (a < 8) && g.le a b) := by
  unfold Grid.D dnTo
  rw [mask_bit]
  by_cases ha : a < g.len
  · simp [seen, ha]
  · simp [Grid.le, ha]

/-- a is below b, or is b. -/
def Lq (g : Grid) (a b : Nat) : Prop := g.B a b = true

theorem le_iff (hF : formedB n g = true) {a b : Nat} (ha : a < n.len) (hb : b < n.len) : g.le a b = true ↔ Lq g a b := by
  obtain ⟨p1, _, _, p4⟩ := formed_parts hF
  unfold Grid.le Lq
  rw [p4 a (by omega)]
  simp [show a < g.len by omega, hb]
theorem le_lt (hF : formedB n g = true) {a b : Nat} (h : g.le a b = true) : a < n.len ∧ b < n.len := by
  obtain ⟨p1, _, _, p4⟩ := formed_parts hF
  unfold Grid.le at h
  simp only [Bool.and_eq_true, decide_eq_true_eq] at h
  have := p4 a h.1
  omega

theorem U_mem (hF : formedB n g = true) {a b : Nat} (ha : a < n.len) : (g.U a).testBit b = true ↔ b < n.len ∧ Lq g a b := by
  obtain ⟨p1, _, p3, p4⟩ := formed_parts hF
  rw [U_bit g (by omega), Bool.and_eq_true, decide_eq_true_eq]
  constructor
  · rintro ⟨_, h⟩
    have := le_lt hF h
    exact ⟨this.2, (le_iff hF ha this.2).1 h⟩
  · rintro ⟨h1, h2⟩
    exact ⟨by omega, (le_iff hF ha h1).2 h2⟩
theorem D_mem (hF : formedB n g = true) {a b : Nat} (hb : b < n.len) : (g.D b).testBit a = true ↔ a < n.len ∧ Lq g a b := by
  obtain ⟨p1, _, p3, p4⟩ := formed_parts hF
  rw [D_bit g, Bool.and_eq_true, decide_eq_true_eq]
  constructor
  · rintro ⟨_, h⟩
    have := le_lt hF h
    exact ⟨this.1, (le_iff hF this.1 hb).1 h⟩
  · rintro ⟨h1, h2⟩
    exact ⟨by omega, (le_iff hF h1 hb).2 h2⟩

theorem part_of (hF : formedB n g = true) {a : Nat} (ha : a < n.len) : g.U a &&& g.D a = 2 ^ a ∧ ∀ b, b < n.len → (g.U a).testBit b = true → g.U b &&& g.U a = g.U b := by
  obtain ⟨p1, _, _, _⟩ := formed_parts hF
  unfold formedB at hF
  rw [Bool.and_eq_true, Bool.and_eq_true] at hF
  have h := hF.2
  rw [Bool.and_eq_true] at h
  have h1 := h.1
  unfold partB at h1
  rw [decide_eq_true_eq] at h1
  have h2 := h1 a (by omega)
  unfold partRow at h2
  rw [Bool.and_eq_true, beq_iff_eq, decide_eq_true_eq, p1] at h2
  exact h2

theorem lq_refl (hF : formedB n g = true) {a : Nat} (ha : a < n.len) : Lq g a a := by
  have h := (part_of hF ha).1
  have hb := congrArg (fun x => x.testBit a) h
  simp only [Nat.testBit_and, Nat.testBit_two_pow_self, Bool.and_eq_true] at hb
  exact ((U_mem hF ha).1 hb.1).2
theorem lq_anti (hF : formedB n g = true) {a b : Nat} (ha : a < n.len) (hb : b < n.len) (h1 : Lq g a b) (h2 : Lq g b a) : a = b := by
  have h := (part_of hF ha).1
  have hbit := congrArg (fun x => x.testBit b) h
  simp only [Nat.testBit_and] at hbit
  rw [(U_mem hF ha).2 ⟨hb, h1⟩, (D_mem hF ha).2 ⟨hb, h2⟩, Nat.testBit_two_pow] at hbit
  simpa using hbit
theorem lq_trans (hF : formedB n g = true) {a b c : Nat} (ha : a < n.len) (hb : b < n.len) (hc : c < n.len) (h1 : Lq g a b) (h2 : Lq g b c) : Lq g a c := by
  have h := (part_of hF ha).2 b hb ((U_mem hF ha).2 ⟨hb, h1⟩)
  have := and_sub.1 h c ((U_mem hF hb).2 ⟨hc, h2⟩)
  exact ((U_mem hF ha).1 this).2

/-- j is the least above both; the greatest below both. -/
def IsJoin (n : Strs) (g : Grid) (a b j : Nat) : Prop := j < n.len ∧ Lq g a j ∧ Lq g b j ∧ ∀ c, c < n.len → Lq g a c → Lq g b c → Lq g j c
def IsMeet (n : Strs) (g : Grid) (a b j : Nat) : Prop := j < n.len ∧ Lq g j a ∧ Lq g j b ∧ ∀ c, c < n.len → Lq g c a → Lq g c b → Lq g c j

theorem isJoin_uniq (hF : formedB n g = true) {a b j k : Nat} (h1 : IsJoin n g a b j) (h2 : IsJoin n g a b k) : j = k :=
  lq_anti hF h1.1 h2.1 (h1.2.2.2 k h2.1 h2.2.1 h2.2.2.1) (h2.2.2.2 j h1.1 h1.2.1 h1.2.2.1)
theorem isMeet_uniq (hF : formedB n g = true) {a b j k : Nat} (h1 : IsMeet n g a b j) (h2 : IsMeet n g a b k) : j = k :=
  lq_anti hF h1.1 h2.1 (h2.2.2.2 j h1.1 h1.2.1 h1.2.2.1) (h1.2.2.2 k h2.1 h2.2.1 h2.2.2.1)

theorem all_bit (N i : Nat) : (2 ^ N - 1).testBit i = decide (i < N) := Nat.testBit_two_pow_sub_one N i

theorem upSet (hF : formedB n g = true) {a b : Nat} (ha : a < n.len) (hb : b < n.len) (i : Nat) : (((2 ^ g.len - 1) &&& g.U a) &&& g.U b).testBit i = true ↔ i < n.len ∧ Lq g a i ∧ Lq g b i := by
  obtain ⟨p1, _, _, _⟩ := formed_parts hF
  rw [Nat.testBit_and, Nat.testBit_and, Bool.and_eq_true, Bool.and_eq_true, all_bit, decide_eq_true_eq, U_mem hF ha, U_mem hF hb]
  constructor
  · rintro ⟨⟨h1, h2⟩, h3⟩; exact ⟨h2.1, h2.2, h3.2⟩
  · rintro ⟨h1, h2, h3⟩; exact ⟨⟨by omega, h1, h2⟩, h1, h3⟩
theorem dnSet (hF : formedB n g = true) {a b : Nat} (ha : a < n.len) (hb : b < n.len) (i : Nat) : (((2 ^ g.len - 1) &&& g.D a) &&& g.D b).testBit i = true ↔ i < n.len ∧ Lq g i a ∧ Lq g i b := by
  obtain ⟨p1, _, _, _⟩ := formed_parts hF
  rw [Nat.testBit_and, Nat.testBit_and, Bool.and_eq_true, Bool.and_eq_true, all_bit, decide_eq_true_eq, D_mem hF ha, D_mem hF hb]
  constructor
  · rintro ⟨⟨h1, h2⟩, h3⟩; exact ⟨h2.1, h2.2, h3.2⟩
  · rintro ⟨h1, h2, h3⟩; exact ⟨⟨by omega, h1, h2⟩, h1, h3⟩

theorem near2_join (hF : formedB n g = true) {a b : Nat} (ha : a < n.len) (hb : b < n.len) (hne : near2 g.len g.U a b ≠ -1) : ∃ j : Nat, near2 g.len g.U a b = (j : Int) ∧ IsJoin n g a b j := by
  unfold near2 near at *
  rcases near_neg g.U (((2 ^ g.len - 1) &&& g.U a) &&& g.U b) 8 0 with h | ⟨j, _, _, h1, h2, h3⟩
  · exact absurd h hne
  · obtain ⟨q1, q2, q3⟩ := (upSet hF ha hb j).1 h2
    exact ⟨j, h1, q1, q2, q3, fun c hc h4 h5 => ((U_mem hF q1).1 (and_sub.1 h3 c ((upSet hF ha hb c).2 ⟨hc, h4, h5⟩))).2⟩
theorem near2_meet (hF : formedB n g = true) {a b : Nat} (ha : a < n.len) (hb : b < n.len) (hne : near2 g.len g.D a b ≠ -1) : ∃ j : Nat, near2 g.len g.D a b = (j : Int) ∧ IsMeet n g a b j := by
  unfold near2 near at *
  rcases near_neg g.D (((2 ^ g.len - 1) &&& g.D a) &&& g.D b) 8 0 with h | ⟨j, _, _, h1, h2, h3⟩
  · exact absurd h hne
  · obtain ⟨q1, q2, q3⟩ := (dnSet hF ha hb j).1 h2
    exact ⟨j, h1, q1, q2, q3, fun c hc h4 h5 => ((D_mem hF q1).1 (and_sub.1 h3 c ((dnSet hF ha hb c).2 ⟨hc, h4, h5⟩))).2⟩

theorem near2_comm (N : Nat) (R : Nat → Nat) (a b : Nat) : near2 N R a b = near2 N R b a := by
  unfold near2
  rw [Nat.and_assoc, Nat.and_comm (R a) (R b), ← Nat.and_assoc]

theorem ok_of (hF : formedB n g = true) {a b : Nat} (ha : a < n.len) (hb : b < a) : near2 g.len g.U a b ≠ -1 ∧ near2 g.len g.D a b ≠ -1 := by
  obtain ⟨p1, _, _, _⟩ := formed_parts hF
  unfold formedB at hF
  rw [Bool.and_eq_true, Bool.and_eq_true] at hF
  have h := hF.2
  rw [Bool.and_eq_true] at h
  have h1 := h.2
  unfold bddB at h1
  rw [decide_eq_true_eq] at h1
  have h2 := h1 a (by omega) b hb
  unfold okPair at h2
  rw [Bool.and_eq_true, bne_iff_ne, bne_iff_ne] at h2
  exact h2

theorem join_is (hF : formedB n g = true) {a b : Nat} (ha : a < n.len) (hb : b < n.len) : ∃ j : Nat, near2 g.len g.U a b = (j : Int) ∧ IsJoin n g a b j := by
  obtain ⟨p1, _, p3, _⟩ := formed_parts hF
  refine near2_join hF ha hb ?_
  rcases Nat.lt_trichotomy a b with h | h | h
  · rw [near2_comm]; exact (ok_of hF hb h).1
  · subst h
    refine near_some g.U _ a ?_ ?_ 8 0 (Nat.zero_le _) (by omega)
    · exact (upSet hF ha ha a).2 ⟨ha, lq_refl hF ha, lq_refl hF ha⟩
    · exact and_sub.2 fun i hi => (U_mem hF ha).2 ⟨((upSet hF ha ha i).1 hi).1, ((upSet hF ha ha i).1 hi).2.1⟩
  · exact (ok_of hF ha h).1
theorem meet_is (hF : formedB n g = true) {a b : Nat} (ha : a < n.len) (hb : b < n.len) : ∃ j : Nat, near2 g.len g.D a b = (j : Int) ∧ IsMeet n g a b j := by
  obtain ⟨p1, _, p3, _⟩ := formed_parts hF
  refine near2_meet hF ha hb ?_
  rcases Nat.lt_trichotomy a b with h | h | h
  · rw [near2_comm]; exact (ok_of hF hb h).2
  · subst h
    refine near_some g.D _ a ?_ ?_ 8 0 (Nat.zero_le _) (by omega)
    · exact (dnSet hF ha ha a).2 ⟨ha, lq_refl hF ha, lq_refl hF ha⟩
    · exact and_sub.2 fun i hi => (D_mem hF ha).2 ⟨((dnSet hF ha ha i).1 hi).1, ((dnSet hF ha ha i).1 hi).2.1⟩
  · exact (ok_of hF ha h).2

/-- The labels as numbers: Jn, Mt. -/
def Jn (g : Grid) (a b : Nat) : Nat := (near2 g.len g.U a b).toNat
def Mt (g : Grid) (a b : Nat) : Nat := (near2 g.len g.D a b).toNat
theorem jn_is (hF : formedB n g = true) {a b : Nat} (ha : a < n.len) (hb : b < n.len) : near2 g.len g.U a b = (Jn g a b : Int) ∧ IsJoin n g a b (Jn g a b) := by
  obtain ⟨j, h1, h2⟩ := join_is hF ha hb
  have e : Jn g a b = j := by unfold Jn; rw [h1]; rfl
  rw [e]; exact ⟨h1, h2⟩
theorem mt_is (hF : formedB n g = true) {a b : Nat} (ha : a < n.len) (hb : b < n.len) : near2 g.len g.D a b = (Mt g a b : Int) ∧ IsMeet n g a b (Mt g a b) := by
  obtain ⟨j, h1, h2⟩ := meet_is hF ha hb
  have e : Mt g a b = j := by unfold Mt; rw [h1]; rfl
  rw [e]; exact ⟨h1, h2⟩

theorem lab_yes {a : Nat} (ha : a < n.len) : labB n (a : Int) = true := by
  unfold labB
  rw [Bool.and_eq_true, decide_eq_true_eq, decide_eq_true_eq]
  omega
theorem joinI_nat (hF : formedB n g = true) {a b : Nat} (ha : a < n.len) (hb : b < n.len) : joinI n g a b = (Jn g a b : Int) := by
  unfold joinI
  rw [if_pos (by rw [lab_yes ha, lab_yes hb, hF]; rfl)]
  exact (jn_is hF ha hb).1
theorem meetI_nat (hF : formedB n g = true) {a b : Nat} (ha : a < n.len) (hb : b < n.len) : meetI n g a b = (Mt g a b : Int) := by
  unfold meetI
  rw [if_pos (by rw [lab_yes ha, lab_yes hb, hF]; rfl)]
  exact (mt_is hF ha hb).1
theorem leqB_nat (hF : formedB n g = true) {a b : Nat} (ha : a < n.len) (hb : b < n.len) : leqB n g a b = g.B a b := by
  unfold leqB
  rw [lab_yes ha, lab_yes hb, hF]; rfl

theorem jn_lt (hF : formedB n g = true) {a b : Nat} (ha : a < n.len) (hb : b < n.len) : Jn g a b < n.len := (jn_is hF ha hb).2.1
theorem mt_lt (hF : formedB n g = true) {a b : Nat} (ha : a < n.len) (hb : b < n.len) : Mt g a b < n.len := (mt_is hF ha hb).2.1
theorem jn_eq (hF : formedB n g = true) {a b j : Nat} (ha : a < n.len) (hb : b < n.len) (h : IsJoin n g a b j) : Jn g a b = j := isJoin_uniq hF (jn_is hF ha hb).2 h
theorem mt_eq (hF : formedB n g = true) {a b j : Nat} (ha : a < n.len) (hb : b < n.len) (h : IsMeet n g a b j) : Mt g a b = j := isMeet_uniq hF (mt_is hF ha hb).2 h

theorem jn_comm (hF : formedB n g = true) {a b : Nat} (ha : a < n.len) (hb : b < n.len) : Jn g a b = Jn g b a :=
  jn_eq hF ha hb (by obtain ⟨h1, h2, h3, h4⟩ := (jn_is hF hb ha).2; exact ⟨h1, h3, h2, fun c hc h5 h6 => h4 c hc h6 h5⟩)
theorem mt_comm (hF : formedB n g = true) {a b : Nat} (ha : a < n.len) (hb : b < n.len) : Mt g a b = Mt g b a :=
  mt_eq hF ha hb (by obtain ⟨h1, h2, h3, h4⟩ := (mt_is hF hb ha).2; exact ⟨h1, h3, h2, fun c hc h5 h6 => h4 c hc h6 h5⟩)
theorem mt_jn (hF : formedB n g = true) {a b : Nat} (ha : a < n.len) (hb : b < n.len) : Mt g a (Jn g a b) = a :=
  mt_eq hF ha (jn_lt hF ha hb) ⟨ha, lq_refl hF ha, (jn_is hF ha hb).2.2.1, fun _ _ h _ => h⟩
theorem jn_mt (hF : formedB n g = true) {a b : Nat} (ha : a < n.len) (hb : b < n.len) : Jn g a (Mt g a b) = a :=
  jn_eq hF ha (mt_lt hF ha hb) ⟨ha, lq_refl hF ha, (mt_is hF ha hb).2.2.1, fun _ _ h _ => h⟩
theorem jn_leq (hF : formedB n g = true) {a b : Nat} (ha : a < n.len) (hb : b < n.len) : g.B a b = (Jn g a b == b) := by
  rw [Bool.eq_iff_iff, beq_iff_eq]
  constructor
  · intro h; exact jn_eq hF ha hb ⟨hb, h, lq_refl hF hb, fun _ _ _ h => h⟩
  · intro h; have := (jn_is hF ha hb).2.2.1; rw [h] at this; exact this
theorem mt_leq (hF : formedB n g = true) {a b : Nat} (ha : a < n.len) (hb : b < n.len) : g.B a b = (Mt g a b == a) := by
  rw [Bool.eq_iff_iff, beq_iff_eq]
  constructor
  · intro h; exact mt_eq hF ha hb ⟨ha, lq_refl hF ha, h, fun _ _ h _ => h⟩
  · intro h; have := (mt_is hF ha hb).2.2.2.1; rw [h] at this; exact this
theorem jn_assoc (hF : formedB n g = true) {a b c : Nat} (ha : a < n.len) (hb : b < n.len) (hc : c < n.len) : Jn g (Jn g a b) c = Jn g a (Jn g b c) := by
  have hab := jn_lt hF ha hb
  have hbc := jn_lt hF hb hc
  obtain ⟨x1, x2, x3, x4⟩ := (jn_is hF ha hb).2
  obtain ⟨y1, y2, y3, y4⟩ := (jn_is hF hb hc).2
  obtain ⟨z1, z2, z3, z4⟩ := (jn_is hF ha hbc).2
  refine jn_eq hF hab hc ⟨z1, x4 _ z1 z2 (lq_trans hF hb hbc z1 y2 z3), lq_trans hF hc hbc z1 y3 z3, fun d hd h1 h2 => ?_⟩
  exact z4 d hd (lq_trans hF ha hab hd x2 h1) (y4 d hd (lq_trans hF hb hab hd x3 h1) h2)
theorem mt_assoc (hF : formedB n g = true) {a b c : Nat} (ha : a < n.len) (hb : b < n.len) (hc : c < n.len) : Mt g (Mt g a b) c = Mt g a (Mt g b c) := by
  have hab := mt_lt hF ha hb
  have hbc := mt_lt hF hb hc
  obtain ⟨x1, x2, x3, x4⟩ := (mt_is hF ha hb).2
  obtain ⟨y1, y2, y3, y4⟩ := (mt_is hF hb hc).2
  obtain ⟨z1, z2, z3, z4⟩ := (mt_is hF ha hbc).2
  refine mt_eq hF hab hc ⟨z1, x4 _ z1 z2 (lq_trans hF z1 hbc hb z3 y2), lq_trans hF z1 hbc hc z3 y3, fun d hd h1 h2 => ?_⟩
  exact z4 d hd (lq_trans hF hd hab ha h1 x2) (y4 d hd (lq_trans hF hd hab hb h1 x3) h2)

/-- There is a bottom, and a top. -/
theorem low_all (hF : formedB n g = true) : ∀ k, k ≤ n.len → ∃ m, m < n.len ∧ ∀ c, c < k → Lq g m c
  | 0, _ => ⟨0, (formed_parts hF).2.1, fun _ h => absurd h (Nat.not_lt_zero _)⟩
  | k + 1, hk => by
    obtain ⟨m, hm, h⟩ := low_all hF k (by omega)
    obtain ⟨x1, x2, x3, _⟩ := (mt_is hF hm (show k < n.len by omega)).2
    refine ⟨_, x1, fun c hc => ?_⟩
    rcases Nat.lt_succ_iff_lt_or_eq.1 hc with h1 | h1
    · exact lq_trans hF x1 hm (by omega) x2 (h c h1)
    · rw [h1]; exact x3
theorem high_all (hF : formedB n g = true) : ∀ k, k ≤ n.len → ∃ m, m < n.len ∧ ∀ c, c < k → Lq g c m
  | 0, _ => ⟨0, (formed_parts hF).2.1, fun _ h => absurd h (Nat.not_lt_zero _)⟩
  | k + 1, hk => by
    obtain ⟨m, hm, h⟩ := high_all hF k (by omega)
    obtain ⟨x1, x2, x3, _⟩ := (jn_is hF hm (show k < n.len by omega)).2
    refine ⟨_, x1, fun c hc => ?_⟩
    rcases Nat.lt_succ_iff_lt_or_eq.1 hc with h1 | h1
    · exact lq_trans hF (by omega) hm x1 (h c h1) x2
    · rw [h1]; exact x3
theorem bot_is (hF : formedB n g = true) : ∃ m : Nat, botI n g = (m : Int) ∧ m < n.len ∧ ∀ c, c < n.len → Lq g m c := by
  obtain ⟨p1, _, p3, _⟩ := formed_parts hF
  obtain ⟨m, hm, h⟩ := low_all hF n.len (Nat.le_refl _)
  unfold botI
  rw [if_pos hF]
  have hne : near g.U (2 ^ g.len - 1) ≠ -1 := by
    refine near_some g.U _ m ?_ ?_ 8 0 (Nat.zero_le _) (by omega)
    · rw [all_bit, decide_eq_true_eq]; omega
    · exact and_sub.2 fun i hi => by
        rw [all_bit, decide_eq_true_eq] at hi
        exact (U_mem hF hm).2 ⟨by omega, h i (by omega)⟩
  unfold near at *
  rcases near_neg g.U (2 ^ g.len - 1) 8 0 with h0 | ⟨j, _, _, h1, h2, h3⟩
  · exact absurd h0 hne
  · rw [all_bit, decide_eq_true_eq] at h2
    exact ⟨j, h1, by omega, fun c hc => ((U_mem hF (by omega)).1 (and_sub.1 h3 c (by rw [all_bit, decide_eq_true_eq]; omega))).2⟩
theorem top_is (hF : formedB n g = true) : ∃ m : Nat, topI n g = (m : Int) ∧ m < n.len ∧ ∀ c, c < n.len → Lq g c m := by
  obtain ⟨p1, _, p3, _⟩ := formed_parts hF
  obtain ⟨m, hm, h⟩ := high_all hF n.len (Nat.le_refl _)
  unfold topI
  rw [if_pos hF]
  have hne : near g.D (2 ^ g.len - 1) ≠ -1 := by
    refine near_some g.D _ m ?_ ?_ 8 0 (Nat.zero_le _) (by omega)
    · rw [all_bit, decide_eq_true_eq]; omega
    · exact and_sub.2 fun i hi => by
        rw [all_bit, decide_eq_true_eq] at hi
        exact (D_mem hF hm).2 ⟨by omega, h i (by omega)⟩
  unfold near at *
  rcases near_neg g.D (2 ^ g.len - 1) 8 0 with h0 | ⟨j, _, _, h1, h2, h3⟩
  · exact absurd h0 hne
  · rw [all_bit, decide_eq_true_eq] at h2
    exact ⟨j, h1, by omega, fun c hc => ((D_mem hF (by omega)).1 (and_sub.1 h3 c (by rw [all_bit, decide_eq_true_eq]; omega))).2⟩
end
end Go.Proofs.Ytgbillimanpmnaa
