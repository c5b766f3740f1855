/- What a formed lattice is: an order in which each two have a join and a meet; what join, meet, bottom, top answer. No walk in this text. -/
import Derived.Test.YtmkncmmegjfipaaGreatDoorP2
import Derived.Test.YtmkncmmegjfipaaGreatDoorP1
namespace Go.Proofs.YtmkncmmegjfipaaGreatDoor

theorem near_neg (R : Nat → Nat) (x : Nat) : ∀ k a, nearFrom R x k a = -1 ∨ ∃ j, a ≤ j ∧ j < a + k ∧ nearFrom R x k a = (j : Int) ∧ x.testBit j = true ∧ x &&& R j = x
  | 0, _ => Or.inl rfl
  | k + 1, a => by
    unfold nearFrom
    by_cases h : (x.testBit a && (x &&& R a == x)) = true
    · rw [if_pos h]
      rw [Bool.and_eq_true, beq_iff_eq] at h
      exact Or.inr ⟨a, Nat.le_refl _, by omega, rfl, h.1, h.2⟩
    · rw [if_neg h]
      rcases near_neg R x k (a + 1) with h0 | ⟨j, h1, h2, h3⟩
      · exact Or.inl h0
      · exact Or.inr ⟨j, by omega, by omega, h3⟩

theorem near_some (R : Nat → Nat) (x j : Nat) (h1 : x.testBit j = true) (h2 : x &&& R j = x) : ∀ k a, a ≤ j → j < a + k → nearFrom R x k a ≠ -1
  | 0, _, _, _ => by omega
  | k + 1, a, ha, hj => by
    unfold nearFrom
    by_cases h : (x.testBit a && (x &&& R a == x)) = true
    · rw [if_pos h]; omega
    · rw [if_neg h]
      refine near_some R x j h1 h2 k (a + 1) ?_ (by omega)
      by_cases e : a = j
      · subst e
        exact absurd (by rw [h1, h2]; simp) h
      · omega

theorem and_sub {x y : Nat} : x &&& y = x ↔ ∀ i, x.testBit i = true → y.testBit i = true := by
  constructor
  · intro h i hi
    rw [← h, Nat.testBit_and, Bool.and_eq_true] at hi
    exact hi.2
  · intro h
    apply Nat.eq_of_testBit_eq
    intro i
    rw [Nat.testBit_and]
    cases hx : x.testBit i
    · rfl
    · rw [h i hx]; rfl

section
variable {n : Strs} {g : Grid}

theorem U_bit (g : Grid) {a : Nat} (ha : a < g.len) (b : Nat) : (g.U a).testBit b = (decide (b < 8) && g.le a b) := by
  unfold Grid.U upTo
  rw [mask_bit]
  simp [seen, ha]
theorem D_bit (g : Grid) (a b : Nat) : (g.D b).testBit a = (decide (a < 8) && g.le a b) := by
  unfold Grid.D dnTo
  rw [mask_bit]
  by_cases ha : a < g.len
  · simp [seen, ha]
  · simp [Grid.le, ha]

/-- a is below b, or is b. -/
def Lq (g : Grid) (a b : Nat) : Prop := g.B a b = true

theorem le_iff (hF : formedB n g = true) {a b : Nat} (ha : a < n.len) (hb : b < n.len) : g.le a b = true ↔ Lq g a b := by
  obtain ⟨p1, _, _, p4⟩ := formed_parts hF
  unfold Grid.le Lq
  rw [p4 a (by omega)]
  simp [show a < g.len by omega, hb]
theorem le_lt (hF : formedB n g = true) {a b : Nat} (h : g.le a b = true) : a < n.len ∧ b < n.len := by
  obtain ⟨p1, _, _, p4⟩ := formed_parts hF
  unfold Grid.le at h
  simp only [Bool.and_eq_true, decide_eq_true_eq] at h
  have := p4 a h.1
  omega

theorem U_mem (hF : formedB n g = true) {a b : Nat} (ha : a < n.len) : (g.U a).testBit b = true ↔ b < n.len ∧ Lq g a b := by
  obtain ⟨p1, _, p3, p4⟩ := formed_parts hF
  rw [U_bit g (by omega), Bool.and_eq_true, decide_eq_true_eq]
  constructor
  · rintro ⟨_, h⟩
    have := le_lt hF h
    exact ⟨this.2, (le_iff hF ha this.2).1 h⟩
  · rintro ⟨h1, h2⟩
    exact ⟨by omega, (le_iff hF ha h1).2 h2⟩
theorem D_mem (hF : formedB n g = true) {a b : Nat} (hb : b < n.len) : (g.D b).testBit a = true ↔ a < n.len ∧ Lq g a b := by
  obtain ⟨p1, _, p3, p4⟩ := formed_parts hF
  rw [D_bit g, Bool.and_eq_true, decide_eq_true_eq]
  constructor
  · rintro ⟨_, h⟩
    have := le_lt hF h
    exact ⟨this.1, (le_iff hF this.1 hb).1 h⟩
  · rintro ⟨h1, h2⟩
    exact ⟨by omega, (le_iff hF h1 hb).2 h2⟩

theorem part_of (hF : formedB n g = true) {a : Nat} (ha : a < n.len) : g.U a &&& g.D a = 2 ^ a ∧ ∀ b, b < n.len → (g.U a).testBit b = true → g.U b &&& g.U a = g.U b := by
  obtain ⟨p1, _, _, _⟩ := formed_parts hF
  unfold formedB at hF
  rw [Bool.and_eq_true, Bool.and_eq_true] at hF
  have h := hF.2
  rw [Bool.and_eq_true] at h
  have h1 := h.1
  unfold partB at h1
  rw [decide_eq_true_eq] at h1
  have h2 := h1 a (by omega)
  unfold partRow at h2
  rw [Bool.and_eq_true, beq_iff_eq, decide_eq_true_eq, p1] at h2
  exact h2

theorem lq_refl (hF : formedB n g = true) {a : Nat} (ha : a < n.len) : Lq g a a := by
  have h := (part_of hF ha).1
  have hb := congrArg (fun x => x.testBit a) h
  simp only [Nat.testBit_and, Nat.testBit_two_pow_self, Bool.and_eq_true] at hb
  exact ((U_mem hF ha).1 hb.1).2
theorem lq_anti (hF : formedB n g = true) {a b : Nat} (ha : a < n.len) (hb : b < n.len) (h1 : Lq g a b) (h2 : Lq g b a) : a = b := by
  have h := (part_of hF ha).1
  have hbit := congrArg (fun x => x.testBit b) h
  simp only [Nat.testBit_and] at hbit
  rw [(U_mem hF ha).2 ⟨hb, h1⟩, (D_mem hF ha).2 ⟨hb, h2⟩, Nat.testBit_two_pow] at hbit
  simpa using hbit
theorem lq_trans (hF : formedB n g = true) {a b c : Nat} (ha : a < n.len) (hb : b < n.len) (hc : c < n.len) (h1 : Lq g a b) (h2 : Lq g b c) : Lq g a c := by
  have h := (part_of hF ha).2 b hb ((U_mem hF ha).2 ⟨hb, h1⟩)
  have := and_sub.1 h c ((U_mem hF hb).2 ⟨hc, h2⟩)
  exact ((U_mem hF ha).1 this).2

/-- j is the least above both; the greatest below both. -/
def IsJoin (n : Strs) (g : Grid) (a b j : Nat) : Prop := j < n.len ∧ Lq g a j ∧ Lq g b j ∧ ∀ c, c < n.len → Lq g a c → Lq g b c → Lq g j c
def IsMeet (n : Strs) (g : Grid) (a b j : Nat) : Prop := j < n.len ∧ Lq g j a ∧ Lq g j b ∧ ∀ c, c < n.len → Lq g c a → Lq g c b → Lq g c j

theorem isJoin_uniq (hF : formedB n g = true) {a b j k : Nat} (h1 : IsJoin n g a b j) (h2 : IsJoin n g a b k) : j = k :=
  lq_anti hF h1.1 h2.1 (h1.2.2.2 k h2.1 h2.2.1 h2.2.2.1) (h2.2.2.2 j h1.1 h1.2.1 h1.2.2.1)
theorem isMeet_uniq (hF : formedB n g = true) {a b j k : Nat} (h1 : IsMeet n g a b j) (h2 : IsMeet n g a b k) : j = k :=
  lq_anti hF h1.1 h2.1 (h2.2.2.2 j h1.1 h1.2.1 h1.2.2.1) (h1.2.2.2 k h2.1 h2.2.1 h2.2.2.1)

theorem all_bit (N i : Nat) : (2 ^ N - 1).testBit i = decide (i < N) := Nat.testBit_two_pow_sub_one N i

theorem upSet (hF : formedB n g = true) {a b : Nat} (ha : a < n.len) (hb : b < n.len) (i : Nat) : (((2 ^ g.len - 1) &&& g.U a) &&& g.U b).testBit i = true ↔ i < n.len ∧ Lq g a i ∧ Lq g b i := by
  obtain ⟨p1, _, _, _⟩ := formed_parts hF
  rw [Nat.testBit_and, Nat.testBit_and, Bool.and_eq_true, Bool.and_eq_true, all_bit, decide_eq_true_eq, U_mem hF ha, U_mem hF hb]
  constructor
  · rintro ⟨⟨h1, h2⟩, h3⟩; exact ⟨h2.1, h2.2, h3.2⟩
  · rintro ⟨h1, h2, h3⟩; exact ⟨⟨by omega, h1, h2⟩, h1, h3⟩
theorem dnSet (hF : formedB n g = true) {a b : Nat} (ha : a < n.len) (hb : b < n.len) (i : Nat) : (((2 ^ g.len - 1) &&& g.D a) &&& g.D b).testBit i = true ↔ i < n.len ∧ Lq g i a ∧ Lq g i b := by
  obtain ⟨p1, _, _, _⟩ := formed_parts hF
  rw [Nat.testBit_and, Nat.testBit_and, Bool.and_eq_true, Bool.and_eq_true, all_bit, decide_eq_true_eq, D_mem hF ha, D_mem hF hb]
  constructor
  · rintro ⟨⟨h1, h2⟩, h3⟩; exact ⟨h2.1, h2.2, h3.2⟩
  · rintro ⟨h1, h2, h3⟩; exact ⟨⟨by omega, h1, h2⟩, h1, h3⟩

theorem near2_join (hF : formedB n g = true) {a b : Nat} (ha : a < n.len) (hb : b < n.len) (hne : near2 g.len g.U a b ≠ -1) : ∃ j : Nat, near2 g.len g.U a b = (j : Int) ∧ IsJoin n g a b j := by
  unfold near2 near at *
  rcases near_neg g.U (((2 ^ g.len - 1) &&& g.U a) &&& g.U b) 8 0 with h | ⟨j, _, _, h1, h2, h3⟩
  · exact absurd h hne
  · obtain ⟨q1, q2, q3⟩ := (upSet hF ha hb j).1 h2
    exact ⟨j, h1, q1, q2, q3, fun c hc h4 h5 => ((U_mem hF q1).1 (and_sub.1 h3 c ((upSet hF ha hb c).2 ⟨hc, h4, h5⟩))).2⟩
theorem near2_meet (hF : formedB n g = true) {a b : Nat} (ha : a < n.len) (hb : b < n.len) (hne : near2 g.len g.D a b ≠ -1) : ∃ j : Nat, near2 g.len g.D a b = (j : Int) ∧ IsMeet n g a b j := by
  unfold near2 near at *
  rcases near_neg g.D (((2 ^ g.len - 1) &&& g.D a) &&& g.D b) 8 0 with h | ⟨j, _, _, h1, h2, h3⟩
  · exact absurd h hne
  · obtain ⟨q1, q2, q3⟩ := (dnSet hF ha hb j).1 h2
    exact ⟨j, h1, q1, q2, q3, fun c hc h4 h5 => ((D_mem hF q1).1 (and_sub.1 h3 c ((dnSet hF ha hb c).2 ⟨hc, h4, h5⟩))).2⟩

theorem near2_comm (N : Nat) (R : Nat → Nat) (a b : Nat) : near2 N R a b = near2 N R b a := by
  unfold near2
  rw [Nat.and_assoc, Nat.and_comm (R a) (R b), ← Nat.and_assoc]

theorem ok_of (hF : formedB n g = true) {a b : Nat} (ha : a < n.len) (hb : b < a) : near2 g.len g.U a b ≠ -1 ∧ near2 g.len g.D a b ≠ -1 := by
  obtain ⟨p1, _, _, _⟩ := formed_parts hF
  unfold formedB at hF
  rw [Bool.and_eq_true, Bool.and_eq_true] at hF
  have h := hF.2
  rw [Bool.and_eq_true] at h
  have h1 := h.2
  unfold bddB at h1
  rw [decide_eq_true_eq] at h1
  have h2 := h1 a (by omega) b hb
  unfold okPair at h2
  rw [Bool.and_eq_true, bne_iff_ne, bne_iff_ne] at h2
  exact h2

theorem join_is (hF : formedB n g = true) {a b : Nat} (ha : a < n.len) (hb : b < n.len) : ∃ j : Nat, near2 g.len g.U a b = (j : Int) ∧ IsJoin n g a b j := by
  obtain ⟨p1, _, p3, _⟩ := formed_parts hF
  refine near2_join hF ha hb ?_
  rcases Nat.lt_trichotomy a b with h | h | h
  · rw [near2_comm]; exact (ok_of hF hb h).1
  · subst h
    refine near_some g.U _ a ?_ ?_ 8 0 (Nat.zero_le _) (by omega)
    · exact (upSet hF ha ha a).2 ⟨ha, lq_refl hF ha, lq_refl hF ha⟩
    · exact and_sub.2 fun i hi => (U_mem hF ha).2 ⟨((upSet hF ha ha i).1 hi).1, ((upSet hF ha ha i).1 hi).2.1⟩
  · exact (ok_of hF ha h).1
theorem meet_is (hF : formedB n g = true) {a b : Nat} (ha : a < n.len) (hb : b < n.len) : ∃ j : Nat, near2 g.len g.D a b = (j : Int) ∧ IsMeet n g a b j := by
  obtain ⟨p1, _, p3, _⟩ := formed_parts hF
  refine near2_meet hF ha hb ?_
  rcases Nat.lt_trichotomy a b with h | h | h
  · rw [near2_comm]; exact (ok_of hF hb h).2
  · subst h
    refine near_some g.D _ a ?_ ?_ 8 0 (Nat.zero_le _) (by omega)
    · exact (dnSet hF ha ha a).2 ⟨ha, lq_refl hF ha, lq_refl hF ha⟩
    · exact and_sub.2 fun i hi => (D_mem hF ha).2 ⟨((dnSet hF ha ha i).1 hi).1, ((dnSet hF ha ha i).1 hi).2.1⟩
  · exact (ok_of hF ha h).2

/-- The labels as numbers: Jn, Mt. -/
def Jn (g : Grid) (a b : Nat) : Nat := (near2 g.len g.U a b).toNat
def Mt (g : Grid) (a b : Nat) : Nat := (near2 g.len g.D a b).toNat
theorem jn_is (hF : formedB n g = true) {a b : Nat} (ha : a < n.len) (hb : b < n.len) : near2 g.len g.U a b = (Jn g a b : Int) ∧ IsJoin n g a b (Jn g a b) := by
  obtain ⟨j, h1, h2⟩ := join_is hF ha hb
  have e : Jn g a b = j := by unfold Jn; rw [h1]; rfl
  rw [e]; exact ⟨h1, h2⟩
theorem mt_is (hF : formedB n g = true) {a b : Nat} (ha : a < n.len) (hb : b < n.len) : near2 g.len g.D a b = (Mt g a b : Int) ∧ IsMeet n g a b (Mt g a b) := by
  obtain ⟨j, h1, h2⟩ := meet_is hF ha hb
  have e : Mt g a b = j := by unfold Mt; rw [h1]; rfl
  rw [e]; exact ⟨h1, h2⟩

theorem lab_yes {a : Nat} (ha : a < n.len) : labB n (a : Int) = true := by
  unfold labB
  rw [Bool.and_eq_true, decide_eq_true_eq, decide_eq_true_eq]
  omega
theorem joinI_nat (hF : formedB n g = true) {a b : Nat} (ha : a < n.len) (hb : b < n.len) : joinI n g a b = (Jn g a b : Int) := by
  unfold joinI
  rw [if_pos (by rw [lab_yes ha, lab_yes hb, hF]; rfl)]
  exact (jn_is hF ha hb).1
theorem meetI_nat (hF : formedB n g = true) {a b : Nat} (ha : a < n.len) (hb : b < n.len) : meetI n g a b = (Mt g a b : Int) := by
  unfold meetI
  rw [if_pos (by rw [lab_yes ha, lab_yes hb, hF]; rfl)]
  exact (mt_is hF ha hb).1
theorem leqB_nat (hF : formedB n g = true) {a b : Nat} (ha : a < n.len) (hb : b < n.len) : leqB n g a b = g.B a b := by
  unfold leqB
  rw [lab_yes ha, lab_yes hb, hF]; rfl

theorem jn_lt (hF : formedB n g = true) {a b : Nat} (ha : a < n.len) (hb : b < n.len) : Jn g a b < n.len := (jn_is hF ha hb).2.1
theorem mt_lt (hF : formedB n g = true) {a b : Nat} (ha : a < n.len) (hb : b < n.len) : Mt g a b < n.len := (mt_is hF ha hb).2.1
theorem jn_eq (hF : formedB n g = true) {a b j : Nat} (ha : a < n.len) (hb : b < n.len) (h : IsJoin n g a b j) : Jn g a b = j := isJoin_uniq hF (jn_is hF ha hb).2 h
theorem mt_eq (hF : formedB n g = true) {a b j : Nat} (ha : a < n.len) (hb : b < n.len) (h : IsMeet n g a b j) : Mt g a b = j := isMeet_uniq hF (mt_is hF ha hb).2 h

theorem jn_comm (hF : formedB n g = true) {a b : Nat} (ha : a < n.len) (hb : b < n.len) : Jn g a b = Jn g b a :=
  jn_eq hF ha hb (by obtain ⟨h1, h2, h3, h4⟩ := (jn_is hF hb ha).2; exact ⟨h1, h3, h2, fun c hc h5 h6 => h4 c hc h6 h5⟩)
theorem mt_comm (hF : formedB n g = true) {a b : Nat} (ha : a < n.len) (hb : b < n.len) : Mt g a b = Mt g b a :=
  mt_eq hF ha hb (by obtain ⟨h1, h2, h3, h4⟩ := (mt_is hF hb ha).2; exact ⟨h1, h3, h2, fun c hc h5 h6 => h4 c hc h6 h5⟩)
theorem mt_jn (hF : formedB n g = true) {a b : Nat} (ha : a < n.len) (hb : b < n.len) : Mt g a (Jn g a b) = a :=
  mt_eq hF ha (jn_lt hF ha hb) ⟨ha, lq_refl hF ha, (jn_is hF ha hb).2.2.1, fun _ _ h _ => h⟩
theorem jn_mt (hF : formedB n g = true) {a b : Nat} (ha : a < n.len) (hb : b < n.len) : Jn g a (Mt g a b) = a :=
  jn_eq hF ha (mt_lt hF ha hb) ⟨ha, lq_refl hF ha, (mt_is hF ha hb).2.2.1, fun _ _ h _ => h⟩
theorem jn_leq (hF : formedB n g = true) {a b : Nat} (ha : a < n.len) (hb : b < n.len) : g.B a b = (Jn g a b == b) := by
  rw [Bool.eq_iff_iff, beq_iff_eq]
  constructor
  · intro h; exact jn_eq hF ha hb ⟨hb, h, lq_refl hF hb, fun _ _ _ h => h⟩
  · intro h; have := (jn_is hF ha hb).2.2.1; rw [h] at this; exact this
theorem mt_leq (hF : formedB n g = true) {a b : Nat} (ha : a < n.len) (hb : b < n.len) : g.B a b = (Mt g a b == a) := by
  rw [Bool.eq_iff_iff, beq_iff_eq]
  constructor
  · intro h; exact mt_eq hF ha hb ⟨ha, lq_refl hF ha, h, fun _ _ h _ => h⟩
  · intro h; have := (mt_is hF ha hb).2.2.2.1; rw [h] at this; exact this
theorem jn_assoc (hF : formedB n g = true) {a b c : Nat} (ha : a < n.len) (hb : b < n.len) (hc : c < n.len) : Jn g (Jn g a b) c = Jn g a (Jn g b c) := by
  have hab := jn_lt hF ha hb
  have hbc := jn_lt hF hb hc
  obtain ⟨x1, x2, x3, x4⟩ := (jn_is hF ha hb).2
  obtain ⟨y1, y2, y3, y4⟩ := (jn_is hF hb hc).2
  obtain ⟨z1, z2, z3, z4⟩ := (jn_is hF ha hbc).2
  refine jn_eq hF hab hc ⟨z1, x4 _ z1 z2 (lq_trans hF hb hbc z1 y2 z3), lq_trans hF hc hbc z1 y3 z3, fun d hd h1 h2 => ?_⟩
  exact z4 d hd (lq_trans hF ha hab hd x2 h1) (y4 d hd (lq_trans hF hb hab hd x3 h1) h2)
theorem mt_assoc (hF : formedB n g = true) {a b c : Nat} (ha : a < n.len) (hb : b < n.len) (hc : c < n.len) : Mt g (Mt g a b) c = Mt g a (Mt g b c) := by
  have hab := mt_lt hF ha hb
  have hbc := mt_lt hF hb hc
  obtain ⟨x1, x2, x3, x4⟩ := (mt_is hF ha hb).2
  obtain ⟨y1, y2, y3, y4⟩ := (mt_is hF hb hc).2
  obtain ⟨z1, z2, z3, z4⟩ := (mt_is hF ha hbc).2
  refine mt_eq hF hab hc ⟨z1, x4 _ z1 z2 (lq_trans hF z1 hbc hb z3 y2), lq_trans hF z1 hbc hc z3 y3, fun d hd h1 h2 => ?_⟩
  exact z4 d hd (lq_trans hF hd hab ha h1 x2) (y4 d hd (lq_trans hF hd hab hb h1 x3) h2)

/-- There is a bottom, and a top. -/
theorem low_all (hF : formedB n g = true) : ∀ k, k ≤ n.len → ∃ m, m < n.len ∧ ∀ c, c < k → Lq g m c
  | 0, _ => ⟨0, (formed_parts hF).2.1, fun _ h => absurd h (Nat.not_lt_zero _)⟩
  | k + 1, hk => by
    obtain ⟨m, hm, h⟩ := low_all hF k (by omega)
    obtain ⟨x1, x2, x3, _⟩ := (mt_is hF hm (show k < n.len by omega)).2
    refine ⟨_, x1, fun c hc => ?_⟩
    rcases Nat.lt_succ_iff_lt_or_eq.1 hc with h1 | h1
    · exact lq_trans hF x1 hm (by omega) x2 (h c h1)
    · rw [h1]; exact x3
theorem high_all (hF : formedB n g = true) : ∀ k, k ≤ n.len → ∃ m, m < n.len ∧ ∀ c, c < k → Lq g c m
  | 0, _ => ⟨0, (formed_parts hF).2.1, fun _ h => absurd h (Nat.not_lt_zero _)⟩
  | k + 1, hk => by
    obtain ⟨m, hm, h⟩ := high_all hF k (by omega)
    obtain ⟨x1, x2, x3, _⟩ := (jn_is hF hm (show k < n.len by omega)).2
    refine ⟨_, x1, fun c hc => ?_⟩
    rcases Nat.lt_succ_iff_lt_or_eq.1 hc with h1 | h1
    · exact lq_trans hF (by omega) hm x1 (h c h1) x2
    · rw [h1]; exact x3
theorem bot_is (hF : formedB n g = true) : ∃ m : Nat, botI n g = (m : Int) ∧ m < n.len ∧ ∀ c, c < n.len → Lq g m c := by
  obtain ⟨p1, _, p3, _⟩ := formed_parts hF
  obtain ⟨m, hm, h⟩ := low_all hF n.len (Nat.le_refl _)
  unfold botI
  rw [if_pos hF]
  have hne : near g.U (2 ^ g.len - 1) ≠ -1 := by
    refine near_some g.U _ m ?_ ?_ 8 0 (Nat.zero_le _) (by omega)
    · rw [all_bit, decide_eq_true_eq]; omega
    · exact and_sub.2 fun i hi => by
        rw [all_bit, decide_eq_true_eq] at hi
        exact (U_mem hF hm).2 ⟨by omega, h i (by omega)⟩
  unfold near at *
  rcases near_neg g.U (2 ^ g.len - 1) 8 0 with h0 | ⟨j, _, _, h1, h2, h3⟩
  · exact absurd h0 hne
  · rw [all_bit, decide_eq_true_eq] at h2
    exact ⟨j, h1, by omega, fun c hc => ((U_mem hF (by omega)).1 (and_sub.1 h3 c (by rw [all_bit, decide_eq_true_eq]; omega))).2⟩
theorem top_is (hF : formedB n g = true) : ∃ m : Nat, topI n g = (m : Int) ∧ m < n.len ∧ ∀ c, c < n.len → Lq g c m := by
  obtain ⟨p1, _, p3, _⟩ := formed_parts hF
  obtain ⟨m, hm, h⟩ := high_all hF n.len (Nat.le_refl _)
  unfold topI
  rw [if_pos hF]
  have hne : near g.D (2 ^ g.len - 1) ≠ -1 := by
    refine near_some g.D _ m ?_ ?_ 8 0 (Nat.zero_le _) (by omega)
    · rw [all_bit, decide_eq_true_eq]; omega
    · exact and_sub.2 fun i hi => by
        rw [all_bit, decide_eq_true_eq] at hi
        exact (D_mem hF hm).2 ⟨by omega, h i (by omega)⟩
  unfold near at *
  rcases near_neg g.D (2 ^ g.len - 1) 8 0 with h0 | ⟨j, _, _, h1, h2, h3⟩
  · exact absurd h0 hne
  · rw [all_bit, decide_eq_true_eq] at h2
    exact ⟨j, h1, by omega, fun c hc => ((D_mem hF (by omega)).1 (and_sub.1 h3 c (by rw [all_bit, decide_eq_true_eq]; omega))).2⟩
end
end Go.Proofs.YtmkncmmegjfipaaGreatDoor

/- A region that draws its order and holds calls that make memory, walked once: the class of worlds in which a variable of two cells stands. -/
namespace Go.Proofs.YtmkncmmegjfipaaGreatDoor
open Go.RowKit

/-- The worlds behind w in which the variable of two cells still holds u and v. -/
def Cls (w : World) (u v : Value) : Type := { w' : World // Box2 w w' u v }
def Cls.w {w : World} {u v : Value} (x : Cls w u v) : World := x.1
theorem Cls.box {w : World} {u v : Value} (x : Cls w u v) : Box2 w x.w u v := x.2

theorem wp_region_cls {P : Program} {w0 : World} {u v : Value} {id : Nat} {Q : Exit → Act → World → Prop} {a : Act} {w : World} {l : List Oper} (hb : Box2 w0 w u v) (hm : P.follows .mixedOrders = true) (hB : Region.lexB .any l.toArray = true)
    (h : wpQuiet P l.toArray (fun w' => ∃ x : Cls w0 u v, w' = x.w) (fun a' => ∀ w', (∃ x : Cls w0 u v, w' = x.w) → Q .normal a' w') l a) : (Code.region id l.toArray true).wp P Q a w :=
  wp_region_quiet (C := fun w' => ∃ x : Cls w0 u v, w' = x.w) hm hB ⟨⟨_, hb.step ((Below.refl _ _).drew)⟩, rfl⟩ (by simpa using h)

theorem Calls.cls {P : Program} {f : FuncId} {args : Array Value} {w0 : World} {u v r : Value} (x : Cls w0 u v)
    (h : Calls P f args x.w fun e w' => e = .returned r ∧ Below x.w.heap.size x.w w') : Calls P f args x.w fun e w'' => e = .returned r ∧ ∃ y : Cls w0 u v, w'' = y.w :=
  h.mono fun _ _ ⟨he, hb⟩ => ⟨he, ⟨_, x.box.step hb⟩, rfl⟩

theorem int_beq (a b : Nat) : ((a : Int) == (b : Int)) = (a == b) := by
  by_cases h : a = b
  · subst h; simp
  · rw [beq_eq_false_iff_ne.2 h, beq_eq_false_iff_ne.2 (by omega)]
theorem int_bne {a b : Nat} (h : a = b) : ((a : Int) != (b : Int)) = false := by subst h; simp
theorem bool_bne {p q : Bool} (h : p = q) : (p != q) = false := by subst h; simp

/- The calls on labels of a formed lattice, behind a variable that holds it. -/
end Go.Proofs.YtmkncmmegjfipaaGreatDoor

/- The walk of the statement LatticeLeast. -/
namespace Go.Proofs.YtmkncmmegjfipaaGreatDoor
open Go.RowKit

theorem leq_in {n : Strs} {g : Grid} {a b : Int} (h : leqB n g a b = true) : inR n.len a = true ∧ inR n.len b = true ∧ formedB n g = true ∧ g.B a.toNat b.toNat = true := by
  unfold leqB at h
  rw [Bool.and_eq_true, Bool.and_eq_true, Bool.and_eq_true] at h
  exact ⟨h.1.1.1, h.1.1.2, h.1.2, h.2⟩
theorem prs_yes {n : Strs} {g : Grid} {p : Prs} (h : ∀ i, i < p.len → leqB n g (p.x i) (p.y i) = true) : prsB p n.len = true := by
  unfold prsB
  rw [decide_eq_true_eq]
  intro i hi
  have := leq_in (h i hi)
  rw [this.1, this.2.1]; rfl

theorem war_in {n : Strs} {g : Grid} (hF : formedB n g = true) {M : Nat → Nat → Bool} (hM : ∀ r c, r < n.len → c < n.len → M r c = true → Lq g r c) : ∀ k, k ≤ n.len → ∀ r c, r < n.len → c < n.len → war M k r c = true → Lq g r c
  | 0, _, r, c, hr, hc, h => hM r c hr hc h
  | k + 1, hk, r, c, hr, hc, h => by
    unfold war warStep at h
    rw [Bool.or_eq_true, Bool.and_eq_true] at h
    rcases h with h | ⟨h1, h2⟩
    · exact war_in hF hM k (by omega) r c hr hc h
    · exact lq_trans hF hr (by omega) hc (war_in hF hM k (by omega) r k hr (by omega) h1) (war_in hF hM k (by omega) k c (by omega) hc h2)
theorem war_has (M : Nat → Nat → Bool) (r c : Nat) (h : M r c = true) : ∀ k, war M k r c = true
  | 0 => h
  | k + 1 => by unfold war warStep; rw [war_has M r c h k]; rfl
theorem least_in {n : Strs} {g : Grid} {p : Prs} (hF : formedB n g = true) (h : ∀ i, i < p.len → leqB n g (p.x i) (p.y i) = true) {r c : Nat} (hr : r < n.len) (hc : c < n.len) (hl : leastM p n.len r c = true) : g.B r c = true := by
  refine war_in hF (M := prsM p p.len) (fun r c hr hc hm => ?_) n.len (Nat.le_refl _) r c hr hc hl
  unfold prsM at hm
  rw [Bool.or_eq_true, decide_eq_true_eq, beq_iff_eq] at hm
  rcases hm with rfl | ⟨i, hi, h1, h2⟩
  · exact lq_refl hF hr
  · have := (leq_in (h i hi)).2.2.2
    rw [h1, h2] at this
    exact this
theorem least_has {n : Strs} {g : Grid} {p : Prs} (h : ∀ i, i < p.len → leqB n g (p.x i) (p.y i) = true) {i : Nat} (hi : i < p.len) : leastM p n.len (p.x i).toNat (p.y i).toNat = true := by
  refine war_has _ _ _ ?_ _
  unfold prsM
  rw [Bool.or_eq_true, decide_eq_true_eq]
  have q := leq_in (h i hi)
  obtain ⟨a, ha, _⟩ := inR_nat q.1
  obtain ⟨b, hb, _⟩ := inR_nat q.2.1
  exact Or.inr ⟨i, hi, by rw [ha]; rfl, by rw [hb]; rfl⟩

theorem made_leq {n n' : Strs} {p : Prs} {T : Nat} (h1 : n'.len = n.len) (h2 : n'.s = n.s) (hE : makeE n p = 0) : formedB n' (gridOf T n.len (leastM p n.len)) = true := by
  rw [formed_canon h1 h2]
  by_cases h : 8 < n.len ∨ 64 < p.len
  · rw [makeE_1 h] at hE; omega
  cases h2 : prsB p n.len
  · rw [makeE_10 h h2] at hE; omega
  cases h3 : formedM n.len n.s (leastM p n.len)
  · rw [makeE_4 h h2 h3] at hE; omega
  · rfl
theorem make_04 {n : Strs} {p : Prs} (h : ¬ (8 < n.len ∨ 64 < p.len)) (h2 : prsB p n.len = true) : makeE n p = 0 ∨ makeE n p = 4 := by
  cases h3 : formedM n.len n.s (leastM p n.len)
  · exact Or.inr (makeE_4 h h2 h3)
  · exact Or.inl (makeE_0 h h2 h3)
theorem leqB_grid {n : Strs} {T N : Nat} {M : Nat → Nat → Bool} (hF : formedB n (gridOf T N M) = true) {a b : Nat} (ha : a < n.len) (hb : b < n.len) {r : Bool} (h : M a b = r) : leqB n (gridOf T N M) a b = r := by
  rw [leqB_nat hF ha hb]; exact h

end Go.Proofs.YtmkncmmegjfipaaGreatDoor

/- Closing an order: the program's one pass and the reference's passes come to the same. No program is named here. -/
namespace Go.Proofs.YtmkncmmegjfipaaGreatDoor

theorem war_trans (M : Nat → Nat → Bool) : ∀ k b, b < k → ∀ r c, war M k r b = true → war M k b c = true → war M k r c = true
  | 0, _, h, _, _, _, _ => absurd h (Nat.not_lt_zero _)
  | k + 1, b, hb, r, c, h1, h2 => by
    have ih := war_trans M k
    have key : ∀ x y, war M (k + 1) x y = (war M k x y || (war M k x k && war M k k y)) := fun _ _ => rfl
    rw [key] at h1 h2 ⊢
    simp only [Bool.or_eq_true, Bool.and_eq_true] at h1 h2 ⊢
    by_cases e : b = k
    · subst e
      have g1 : war M b r b = true := by rcases h1 with h | h <;> simp_all
      have g2 : war M b b c = true := by rcases h2 with h | h <;> simp_all
      exact Or.inr ⟨g1, g2⟩
    · have hb' : b < k := by omega
      rcases h1 with h1 | ⟨h1, h1'⟩
      · rcases h2 with h2 | ⟨h2, h2'⟩
        · exact Or.inl (ih b hb' r c h1 h2)
        · exact Or.inr ⟨ih b hb' r k h1 h2, h2'⟩
      · rcases h2 with h2 | ⟨h2, h2'⟩
        · exact Or.inr ⟨h1, ih b hb' k c h1' h2⟩
        · exact Or.inr ⟨h1, h2'⟩

/-- M lies within N, among the first n. -/
def Within (n : Nat) (M N : Nat → Nat → Bool) : Prop := ∀ r c, r < n → c < n → M r c = true → N r c = true
theorem war_least (n : Nat) (M N : Nat → Nat → Bool) (hM : Within n M N) (ht : ∀ a b c, a < n → b < n → c < n → N a b = true → N b c = true → N a c = true) : ∀ k, k ≤ n → Within n (war M k) N
  | 0, _ => hM
  | k + 1, hk => fun r c hr hc h => by
    have ih := war_least n M N hM ht k (by omega)
    unfold war warStep at h
    rw [Bool.or_eq_true, Bool.and_eq_true] at h
    rcases h with h | ⟨h1, h2⟩
    · exact ih r c hr hc h
    · exact ht r k c hr (by omega) hc (ih r k hr (by omega) h1) (ih k c (by omega) hc h2)

/-- What the reference's passes come to is the least order. -/
theorem closed_least (n : Nat) (P M : Nat → Nat → Bool) (h1 : Within n P M) (h2 : Within n M (war P n)) (hc : ∀ a b c, a < n → b < n → c < n → (M a b && M b c && !M a c) = false) : ∀ r c, r < n → c < n → M r c = war P n r c := by
  intro r c hr hcc
  have ht : ∀ a b c, a < n → b < n → c < n → M a b = true → M b c = true → M a c = true := fun a b c ha hb hc' q1 q2 => by
    have := hc a b c ha hb hc'
    rw [q1, q2] at this
    simpa using this
  rw [Bool.eq_iff_iff]
  exact ⟨h2 r c hr hcc, war_least n P M h1 ht n (Nat.le_refl _) r c hr hcc⟩

/-- How many places are not told. -/
def cnt1 (f : Nat → Bool) : Nat → Nat
  | 0 => 0
  | k + 1 => cnt1 f k + if f k then 0 else 1
def cnt2 (M : Nat → Nat → Bool) (n : Nat) : Nat → Nat
  | 0 => 0
  | k + 1 => cnt2 M n k + cnt1 (M k) n
def setM (M : Nat → Nat → Bool) (a c : Nat) : Nat → Nat → Bool := fun x y => if x = a ∧ y = c then true else M x y
theorem cnt1_congr {f g : Nat → Bool} : ∀ k, (∀ i, i < k → f i = g i) → cnt1 f k = cnt1 g k
  | 0, _ => rfl
  | k + 1, h => by unfold cnt1; rw [cnt1_congr k (fun i hi => h i (by omega)), h k (by omega)]
theorem cnt1_set {f : Nat → Bool} {c : Nat} (hf : f c = false) : ∀ k, c < k → cnt1 (fun y => if y = c then true else f y) k + 1 = cnt1 f k
  | 0, h => absurd h (Nat.not_lt_zero _)
  | k + 1, h => by
    unfold cnt1
    by_cases e : c = k
    · subst e
      rw [cnt1_congr c (g := f) (fun i hi => by rw [if_neg (by omega)]), if_pos rfl, hf]; rfl
    · have := cnt1_set hf k (by omega)
      rw [if_neg (Ne.symm e)]
      omega
theorem cnt2_set {M : Nat → Nat → Bool} {n a c : Nat} (hM : M a c = false) (hc : c < n) : ∀ k, cnt2 (setM M a c) n k + (if a < k then 1 else 0) = cnt2 M n k
  | 0 => rfl
  | k + 1 => by
    have ih := cnt2_set hM hc (n := n) k
    unfold cnt2
    by_cases e : a = k
    · subst e
      have h1 : cnt1 (setM M a c a) n + 1 = cnt1 (M a) n := by
        rw [← cnt1_set hM n hc]
        rw [cnt1_congr n (f := setM M a c a) (g := fun y => if y = c then true else M a y) (fun i _ => by simp [setM])]
      rw [if_neg (Nat.lt_irrefl _)] at ih
      rw [if_pos (by omega)]
      omega
    · have h1 : cnt1 (setM M a c k) n = cnt1 (M k) n := cnt1_congr n (fun i _ => by simp [setM, Ne.symm e])
      rw [h1]
      by_cases h : a < k
      · rw [if_pos h] at ih; rw [if_pos (by omega)]; omega
      · rw [if_neg h] at ih; rw [if_neg (by omega)]; omega
theorem cnt2_less {M : Nat → Nat → Bool} {n a c : Nat} (hM : M a c = false) (ha : a < n) (hc : c < n) : cnt2 (setM M a c) n n < cnt2 M n n := by
  have := cnt2_set hM hc n (n := n)
  rw [if_pos ha] at this
  omega

/-- Three labels ahead of (a, b, c), in the order of the loops. -/
def Ahead (a b c x y z : Nat) : Prop := x < a ∨ (x = a ∧ (y < b ∨ (y = b ∧ z < c)))
/-- One pass, gone as far as (a, b, c), begun with M. -/
structure Pass (n : Nat) (P M M' : Nat → Nat → Bool) (more : Bool) (a b c : Nat) : Prop where
  up : Within n M M'
  inn : Within n M' (war P n)
  no : more = false → M' = M ∧ ∀ x y z, x < n → y < n → z < n → Ahead a b c x y z → (M x y && M y z && !M x z) = false
  yes : more = true → cnt2 M' n n < cnt2 M n n

theorem Pass.start {n : Nat} {P M : Nat → Nat → Bool} (h : Within n M (war P n)) : Pass n P M M false 0 0 0 :=
  ⟨fun _ _ _ _ h => h, h, fun _ => ⟨rfl, fun x y z _ _ _ ha => by unfold Ahead at ha; omega⟩, fun h => Bool.noConfusion h⟩
theorem Pass.skip {n : Nat} {P M M' : Nat → Nat → Bool} {more : Bool} {a b c : Nat} (h : Pass n P M M' more a b c) (ht : (M' a b && M' b c && !M' a c) = false) : Pass n P M M' more a b (c + 1) :=
  ⟨h.up, h.inn, fun hm => by
    obtain ⟨e, h2⟩ := h.no hm
    refine ⟨e, fun x y z hx hy hz ha => ?_⟩
    by_cases h3 : Ahead a b c x y z
    · exact h2 x y z hx hy hz h3
    · unfold Ahead at ha h3
      obtain ⟨rfl, rfl, rfl⟩ : x = a ∧ y = b ∧ z = c := by omega
      rw [← e]; exact ht, h.yes⟩
theorem Pass.add {n : Nat} {P M M' : Nat → Nat → Bool} {more : Bool} {a b c : Nat} (h : Pass n P M M' more a b c) (ha : a < n) (hb : b < n) (hc : c < n) (h1 : M' a b = true) (h2 : M' b c = true) (h3 : M' a c = false) : Pass n P M (setM M' a c) true a b (c + 1) := by
  have hless := cnt2_less h3 ha hc
  refine ⟨fun r c' hr hc' q => ?_, fun r c' hr hc' q => ?_, fun hm => Bool.noConfusion hm, fun _ => ?_⟩
  · unfold setM; split
    · rfl
    · exact h.up r c' hr hc' q
  · unfold setM at q; split at q
    · rename_i e
      rw [e.1, e.2]
      exact war_trans P n b hb a c (h.inn a b ha hb h1) (h.inn b c hb hc h2)
    · exact h.inn r c' hr hc' q
  · cases hm : more
    · have := (h.no hm).1
      rw [this] at hless ⊢
      exact hless
    · have := h.yes hm
      omega
theorem Pass.nextB {n : Nat} {P M M' : Nat → Nat → Bool} {more : Bool} {a b : Nat} (h : Pass n P M M' more a b n) : Pass n P M M' more a (b + 1) 0 :=
  ⟨h.up, h.inn, fun hm => ⟨(h.no hm).1, fun x y z hx hy hz ha => (h.no hm).2 x y z hx hy hz (by unfold Ahead at ha ⊢; omega)⟩, h.yes⟩
theorem Pass.nextA {n : Nat} {P M M' : Nat → Nat → Bool} {more : Bool} {a : Nat} (h : Pass n P M M' more a n 0) : Pass n P M M' more (a + 1) 0 0 :=
  ⟨h.up, h.inn, fun hm => ⟨(h.no hm).1, fun x y z hx hy hz ha => (h.no hm).2 x y z hx hy hz (by unfold Ahead at ha ⊢; omega)⟩, h.yes⟩

end Go.Proofs.YtmkncmmegjfipaaGreatDoor

/- The walk of the reference's Name: it tells just what the program's Name tells. -/
namespace Go.Proofs.YtmkncmmegjfipaaGreatDoor
open Go.RowKit

set_option maxHeartbeats 400000 in
theorem rletter_any (r : Int) (w : World) :
    Calls Tryz.prog 129 #[.int .i32 r] w fun e w' => e = .returned (.bool (letterB r)) ∧ w' = w := by
  go_enter Tryz.func129, Tryz.ntmps129
  go_wp2
  all_goals (go_ret; exact ⟨ret_bool (by unfold letterB; rw [Bool.eq_iff_iff]; simp; omega), rfl⟩)

theorem rletter_is (r : Int) (b : Bool) (h : letterB r = b) (w : World) :
    Calls Tryz.prog 129 #[.int .i32 r] w fun e w' => e = .returned (.bool b) ∧ w' = w := by
  subst h; exact rletter_any r w
theorem digit_no {r : Int} (h : r < 48 ∨ 57 < r) : digitB r = false := by
  unfold digitB; rw [Bool.and_eq_false_iff, decide_eq_false_iff_not, decide_eq_false_iff_not]; omega
theorem letter_hi {r : Int} (h : 128 ≤ r) (h2 : r < 945) : letterB r = false := by
  unfold letterB
  simp only [Bool.or_eq_false_iff, Bool.and_eq_false_iff, decide_eq_false_iff_not]
  omega

theorem letter_gr {r : Int} (h : 945 ≤ r) (h2 : r ≤ 969) : letterB r = true := by
  unfold letterB
  simp only [Bool.or_eq_true, Bool.and_eq_true, decide_eq_true_eq]
  omega

theorem get_plain (s : ByteArray) (i : Nat) (h : i < s.size) : s.get! i = s[i]'h := get_at s i h

/-- The rest of a name, k runes being read. -/
def restB (s : ByteArray) (i k : Nat) : Bool := if k ≤ 16 then nameFrom s (17 - k) i k else false

theorem rest_bad {s : ByteArray} {i k : Nat} (hi : i < s.size) (h : badRune k (Utf8.decode s i).1 = true) : restB s i k = false := by
  unfold restB
  split
  · exact nameFrom_bad (by assumption) hi h
  · rfl
theorem rest_good {s : ByteArray} {i k : Nat} (hi : i < s.size) (h : letterB (Utf8.decode s i).1 = true ∨ (k ≠ 0 ∧ digitB (Utf8.decode s i).1 = true)) : restB s i k = restB s (i + (Utf8.decode s i).2) (k + 1) := by
  by_cases h16 : k < 16
  · have hb : badRune k (Utf8.decode s i).1 = false := by
      unfold badRune
      rw [beq_eq_false_iff_ne.2 (show k ≠ 16 by omega)]
      rcases h with h | ⟨hk, h⟩
      · rw [h]; rfl
      · rw [h, beq_eq_false_iff_ne.2 hk]; simp
    unfold restB
    rw [if_pos (by omega), if_pos (by omega)]
    exact nameFrom_good (by omega) hi hb
  · have e1 : restB s i k = false := by
      by_cases e : k = 16
      · subst e; exact rest_bad hi (by simp [badRune])
      · unfold restB; rw [if_neg (by omega)]
    have e2 : restB s (i + (Utf8.decode s i).2) (k + 1) = false := by unfold restB; rw [if_neg (by omega)]
    rw [e1, e2]
theorem rest_end {s : ByteArray} {i k : Nat} (hi : ¬ i < s.size) : restB s i k = (decide (1 ≤ k) && decide (k ≤ 16)) := by
  unfold restB
  by_cases h : k ≤ 16
  · rw [if_pos h, nameFrom_end h hi]; simp [h]; rfl
  · rw [if_neg h]; simp [h]

theorem bad_of {k : Nat} {r : Int} (h1 : letterB r = false) (h2 : k = 0 ∨ digitB r = false) : badRune k r = true := by
  unfold badRune
  rcases h2 with rfl | h2
  · simp [h1]
  · simp [h1, h2]

theorem decode_ge {s : ByteArray} {i : Nat} (hi : i < s.size) (hb : 128 ≤ (s[i]'hi).toNat) (h : ¬ (∃ h1 : i + 1 < s.size, ((s[i]'hi).toNat = 206 ∧ 177 ≤ (s[i + 1]'h1).toNat ∧ (s[i + 1]'h1).toNat ≤ 191) ∨ ((s[i]'hi).toNat = 207 ∧ 128 ≤ (s[i + 1]'h1).toNat ∧ (s[i + 1]'h1).toNat ≤ 137))) :
    letterB (Utf8.decode s i).1 = false ∧ digitB (Utf8.decode s i).1 = false := by
  have hr := (decode_high s i hi hb).1
  have hd : digitB ((Utf8.decode s i).1 : Nat) = false := by unfold digitB; rw [Bool.and_eq_false_iff, decide_eq_false_iff_not, decide_eq_false_iff_not]; omega
  refine ⟨?_, hd⟩
  have key : ¬ (945 ≤ (Utf8.decode s i).1 ∧ (Utf8.decode s i).1 ≤ 969) := by
    intro hc
    have e0 : (s.get! (i + 0)).toNat = (s[i]'hi).toNat := by rw [get_at s i hi]
    simp only [Utf8.decode, e0] at hc
    rw [if_neg (by omega)] at hc
    split at hc
    · rename_i hcond
      simp only [Bool.and_eq_true, decide_eq_true_eq, beq_iff_eq] at hcond
      obtain ⟨q1, q2, q3⟩ := hcond
      have e1 : (s.get! (i + 1)).toNat = (s[i + 1]'q2).toNat := by rw [get_plain s (i + 1) q2]
      rw [e1] at q3 hc
      split at hc
      · refine h ⟨q2, ?_⟩
        have := hc
        simp only at this
        omega
      · simp [Utf8.runeError] at hc
    · split at hc
      · split at hc
        · rename_i hcond
          simp only [Bool.and_eq_true, decide_eq_true_eq] at hcond
          simp only at hc
          omega
        · simp [Utf8.runeError] at hc
      · split at hc
        · split at hc
          · rename_i hcond
            simp only [Bool.and_eq_true, decide_eq_true_eq] at hcond
            simp only at hc
            omega
          · simp [Utf8.runeError] at hc
        · simp [Utf8.runeError] at hc
  unfold letterB
  simp only [Bool.or_eq_false_iff, Bool.and_eq_false_iff, decide_eq_false_iff_not]
  omega

theorem decode_greek {s : ByteArray} {i : Nat} (hi : i < s.size) (h1 : i + 1 < s.size) (h : ((s[i]'hi).toNat = 206 ∧ 177 ≤ (s[i + 1]'h1).toNat ∧ (s[i + 1]'h1).toNat ≤ 191) ∨ ((s[i]'hi).toNat = 207 ∧ 128 ≤ (s[i + 1]'h1).toNat ∧ (s[i + 1]'h1).toNat ≤ 137)) :
    Utf8.decode s i = (((s[i]'hi).toNat - 192) * 64 + ((s[i + 1]'h1).toNat - 128), 2) := by
  have e0 : (s.get! (i + 0)).toNat = (s[i]'hi).toNat := by rw [get_at s i hi]
  have e1 : (s.get! (i + 1)).toNat = (s[i + 1]'h1).toNat := by rw [get_plain s (i + 1) h1]
  simp only [Utf8.decode, e0, e1]
  rw [if_neg (by omega), if_pos (by simp only [Bool.and_eq_true, decide_eq_true_eq, beq_iff_eq]; omega), if_pos (by omega)]
  refine Prod.ext ?_ rfl
  show (s[i]'hi).toNat % 32 * 64 + (s[i + 1]'h1).toNat % 64 = _
  omega

set_option maxRecDepth 100000 in
set_option maxHeartbeats 2000000 in
theorem rname_any (s : ByteArray) (w : World) (hs : s.size ≤ 9223372036854775807) :
    Calls Tryz.prog 86 #[.string s] w fun e w' => e = .returned (.bool (nameB s)) ∧ w' = w := by
  go_enter Tryz.func86, Tryz.ntmps86
  go_wp2
  go_loop [3, 4] (fun n i => ∃ k j : Nat, j ≤ s.size ∧ k ≤ j ∧ (k = 0 → j = 0) ∧ n = .int .i64 k ∧ i = .int .i64 j ∧ nameB s = restB s j k) (fun _ i => s.size - (intOf i).toNat)
  case atStart => exact ⟨0, 0, Nat.zero_le _, Nat.le_refl _, fun _ => rfl, rfl, rfl, rfl⟩
  case round =>
    obtain ⟨k, j, hj, hkj, hz, rfl, rfl, hrest⟩ := hrel
    have HR : Hid (nameB s = restB s j k) := hrest
    have HZ : Hid (k = 0 → j = 0) := hz
    clear hrest hz
    by_cases hlt : j < s.size
    · have bl := (s[j]'hlt).toNat_lt
      by_cases hb : (s[j]'hlt).toNat < 128
      · have hd := decode_ascii s j hlt hb
        have HG : Hid (letterB ((s[j]'hlt).toNat : Nat) = true ∨ (k ≠ 0 ∧ digitB ((s[j]'hlt).toNat : Nat) = true) → nameB s = restB s (j + 1) (k + 1)) := fun h => by
          have := rest_good (k := k) hlt (by rw [hd]; exact h)
          rw [hd] at this
          exact HR.out.trans this
        have HB : Hid (letterB ((s[j]'hlt).toNat : Nat) = false → (k = 0 ∨ digitB ((s[j]'hlt).toNat : Nat) = false) → nameB s = false) := fun h1 h2 => HR.out.trans (rest_bad hlt (by rw [hd]; exact bad_of h1 h2))
        clear HR hd
        go_wp2_with (go_at_call 129; refine (rletter_any _ _).mono ?_; rintro e w' ⟨rfl, rfl⟩)
        · have t1 : letterB ((s[j]'hlt).toNat : Nat) = true := by assumption
          go_round
          case rel => exact ⟨k + 1, j + 1, by omega, by omega, fun h => by omega, by go_num, by go_num, HG.out (Or.inl t1)⟩
          case measure => simp [intOf]; omega
        · have t1 : ¬ letterB ((s[j]'hlt).toNat : Nat) = true := by assumption
          have t2 : j = 0 := by assumption
          go_ret
          exact ⟨ret_bool (HB.out (by simpa using t1) (Or.inl (by omega))).symm, rfl⟩
        · have t1 : ¬ letterB ((s[j]'hlt).toNat : Nat) = true := by assumption
          have t2 : (((j : Int) == 0) = true ∨ ((s[j]'hlt).toNat : Int) < 48) ∨ (57 : Int) < ((s[j]'hlt).toNat : Int) := by assumption
          have t3 : ¬ j = 0 := by assumption
          go_ret
          refine ⟨ret_bool (HB.out (by simpa using t1) (Or.inr (digit_no ?_))).symm, rfl⟩
          rcases t2 with (t2 | t2) | t2
          · exact absurd (by simpa using t2) t3
          · exact Or.inl t2
          · exact Or.inr t2
        · have t2 : (((j : Int) == 0) = false ∧ (48 : Int) ≤ ((s[j]'hlt).toNat : Int)) ∧ ((s[j]'hlt).toNat : Int) ≤ 57 := by assumption
          have t3 : ¬ j = 0 := by assumption
          go_round
          case rel => exact ⟨k + 1, j + 1, by omega, by omega, fun h => by omega, by go_num, by go_num, HG.out (Or.inr ⟨fun h => t3 (HZ.out h), by unfold digitB; rw [Bool.and_eq_true, decide_eq_true_eq, decide_eq_true_eq]; omega⟩)⟩
          case measure => simp [intOf]; omega
        · have t1 : ¬ letterB ((s[j]'hlt).toNat : Nat) = true := by assumption
          have t2 : ((s[j]'hlt).toNat : Int) < 48 := by assumption
          go_ret
          exact ⟨ret_bool (HB.out (by simpa using t1) (Or.inr (digit_no (Or.inl t2)))).symm, rfl⟩
      · by_cases hg : ∃ h1 : j + 1 < s.size, ((s[j]'hlt).toNat = 206 ∧ 177 ≤ (s[j + 1]'h1).toNat ∧ (s[j + 1]'h1).toNat ≤ 191) ∨ ((s[j]'hlt).toNat = 207 ∧ 128 ≤ (s[j + 1]'h1).toNat ∧ (s[j + 1]'h1).toNat ≤ 137)
        · obtain ⟨h1, hg⟩ := hg
          have hd := decode_greek hlt h1 hg
          have bl1 := (s[j + 1]'h1).toNat_lt
          rcases hg with ⟨q1, q2, q3⟩ | ⟨q1, q2, q3⟩
          · rw [q1] at hd
            have HG : Hid (nameB s = restB s (j + 2) (k + 1)) := by
              have := rest_good (k := k) hlt (Or.inl (by rw [hd]; exact letter_gr (by show (945 : Int) ≤ _; simp only; omega) (by simp only; omega)))
              rw [hd] at this
              exact HR.out.trans this
            have nl : letterB (896 + (((s[j + 1]'h1).toNat : Int) - 128)) = true := letter_gr (by omega) (by omega)
            clear HR hd
            go_wp2_with (go_at_call 129; refine (rletter_is _ true nl _).mono ?_; rintro e w' ⟨rfl, rfl⟩)
            go_round
            case rel => exact ⟨k + 1, j + 2, by omega, by omega, fun h => by omega, by go_num, by go_num, HG.out⟩
            case measure => simp [intOf]; omega
          · rw [q1] at hd
            have HG : Hid (nameB s = restB s (j + 2) (k + 1)) := by
              have := rest_good (k := k) hlt (Or.inl (by rw [hd]; exact letter_gr (by show (945 : Int) ≤ _; simp only; omega) (by simp only; omega)))
              rw [hd] at this
              exact HR.out.trans this
            have nl : letterB (960 + (((s[j + 1]'h1).toNat : Int) - 128)) = true := letter_gr (by omega) (by omega)
            clear HR hd
            go_wp2_with (go_at_call 129; refine (rletter_is _ true nl _).mono ?_; rintro e w' ⟨rfl, rfl⟩)
            go_round
            case rel => exact ⟨k + 1, j + 2, by omega, by omega, fun h => by omega, by go_num, by go_num, HG.out⟩
            case measure => simp [intOf]; omega
        · have hd := decode_ge hlt (by omega) hg
          have HN : Hid (nameB s = false) := HR.out.trans (rest_bad hlt (bad_of hd.1 (Or.inr hd.2)))
          have nl : letterB ((s[j]'hlt).toNat : Nat) = false := letter_hi (by omega) (by omega)
          clear HR hd
          by_cases h1 : j + 1 < s.size
          · have bl1 := (s[j + 1]'h1).toNat_lt
            have hg' : ¬ (((s[j]'hlt).toNat = 206 ∧ 177 ≤ (s[j + 1]'h1).toNat ∧ (s[j + 1]'h1).toNat ≤ 191) ∨ ((s[j]'hlt).toNat = 207 ∧ 128 ≤ (s[j + 1]'h1).toNat ∧ (s[j + 1]'h1).toNat ≤ 137)) := fun h => hg ⟨h1, h⟩
            clear hg
            have HG : Hid (¬ (((s[j]'hlt).toNat = 206 ∧ 177 ≤ (s[j + 1]'h1).toNat ∧ (s[j + 1]'h1).toNat ≤ 191) ∨ ((s[j]'hlt).toNat = 207 ∧ 128 ≤ (s[j + 1]'h1).toNat ∧ (s[j + 1]'h1).toNat ≤ 137))) := hg'
            clear hg'
            by_cases e6 : (s[j]'hlt).toNat = 206
            · have f7 : (s[j + 1]'h1).toNat < 177 ∨ 191 < (s[j + 1]'h1).toNat := by have := HG.out; omega
              have b6 : (((s[j]'hlt).toNat : Int) == 206) = true := beq_iff_eq.2 (by omega)
              have b7 : (((s[j]'hlt).toNat : Int) == 207) = false := beq_eq_false_iff_ne.2 (by omega)
              clear e6
              rcases f7 with f7 | f7
              all_goals
                go_wp2_with (go_at_call 129; refine (rletter_is _ false nl _).mono ?_; rintro e w' ⟨rfl, rfl⟩)
                all_goals (go_ret; exact ⟨ret_bool HN.out.symm, rfl⟩)
            · have b6 : (((s[j]'hlt).toNat : Int) == 206) = false := beq_eq_false_iff_ne.2 (by omega)
              by_cases e7 : (s[j]'hlt).toNat = 207
              · have f7 : (s[j + 1]'h1).toNat < 128 ∨ 137 < (s[j + 1]'h1).toNat := by have := HG.out; omega
                have b7 : (((s[j]'hlt).toNat : Int) == 207) = true := beq_iff_eq.2 (by omega)
                clear e6 e7
                rcases f7 with f7 | f7
                all_goals
                  go_wp2_with (go_at_call 129; refine (rletter_is _ false nl _).mono ?_; rintro e w' ⟨rfl, rfl⟩)
                  all_goals (go_ret; exact ⟨ret_bool HN.out.symm, rfl⟩)
              · have b7 : (((s[j]'hlt).toNat : Int) == 207) = false := beq_eq_false_iff_ne.2 (by omega)
                clear e6 e7
                go_wp2_with (go_at_call 129; refine (rletter_is _ false nl _).mono ?_; rintro e w' ⟨rfl, rfl⟩)
                all_goals (go_ret; exact ⟨ret_bool HN.out.symm, rfl⟩)
          · clear hg
            go_wp2
            go_ret
            exact ⟨ret_bool HN.out.symm, rfl⟩
    · have HE : Hid (nameB s = (decide (1 ≤ k) && decide (k ≤ 16))) := HR.out.trans (rest_end hlt)
      go_wp2
      · have t : (1 : Int) ≤ k := by assumption
        go_ret
        exact ⟨ret_bool (by rw [HE.out, decide_eq_true (show 1 ≤ k by omega), Bool.true_and]; exact decide_eq_decide.2 (by omega)), rfl⟩
      · have t : (k : Int) < 1 := by assumption
        go_ret
        exact ⟨ret_bool (by rw [HE.out, decide_eq_false (show ¬ 1 ≤ k by omega)]; rfl), rfl⟩
end Go.Proofs.YtmkncmmegjfipaaGreatDoor
