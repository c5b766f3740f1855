/- Layer 2: Below is an order on formed types. No program is walked here. -/
import Derived.Test.YtmkncmmegjfipaaGreatDoorP9
import Derived.Deep.AppendLies
import Derived.Deep.MidRow
namespace Go.Proofs.YtmkncmmegjfipaaGreatDoor

/-- An order on the numbers below N. -/
structure Po (N : Nat) (le : Nat → Nat → Bool) : Prop where
  refl : ∀ a, a < N → le a a = true
  anti : ∀ a b, a < N → b < N → le a b = true → le b a = true → a = b
  trans : ∀ a b c, a < N → b < N → c < N → le a b = true → le b c = true → le a c = true
theorem po_of {n : Strs} {g : Grid} (hF : formedB n g = true) : Po n.len g.B :=
  ⟨fun _ ha => lq_refl hF ha, fun _ _ ha hb h1 h2 => lq_anti hF ha hb h1 h2, fun _ _ _ ha hb hc h1 h2 => lq_trans hF ha hb hc h1 h2⟩

/-- A formed type. -/
structure Fd (N : Nat) (t : Ty) : Prop where
  gd : Gd N t
  part : ∀ i, i < t.len → ∃ d, (t.ps i).fm N d = true
theorem fd_of {N d : Nat} {t : Ty} (h : t.fm N d = true) : Fd N t := ⟨(fm_gd h).1, fun i hi => ⟨_, (fm_gd h).2.2 i hi⟩⟩
theorem Fd.sub {N : Nat} {t : Ty} (h : Fd N t) {i : Nat} (hi : i < t.len) : Fd N (t.ps i) := by
  obtain ⟨d, hd⟩ := h.part i hi
  exact fd_of hd
theorem Fd.two {N : Nat} {t : Ty} (h : Fd N t) (hk : t.k = 3 ∨ t.k = 4) : t.len = 2 := by
  have := h.gd.ar
  rw [arity_two hk] at this
  omega
theorem Fd.one {N : Nat} {t : Ty} (h : Fd N t) (hk : t.k = 5) : t.len = 1 := by
  have := h.gd.ar
  rw [hk] at this
  have h5 : arityI 5 = 1 := rfl
  omega
theorem Fd.lab {N : Nat} {t : Ty} (h : Fd N t) : ∃ x : Nat, t.l = x ∧ x < N := inR_nat h.gd.lab
theorem Fd.heap {N : Nat} {t : Ty} (h : Fd N t) (hk : t.k = 4) : ∃ x : Nat, t.h = x ∧ x < N := by
  have := h.gd.bnd
  rw [hk] at this
  exact inR_nat (bnd4 this).1
theorem Fd.exc {N : Nat} {t : Ty} (h : Fd N t) (hk : t.k = 4) : t.e = -1 ∨ ∃ x : Nat, t.e = x ∧ x < N := by
  have := h.gd.bnd
  rw [hk] at this
  exact (bnd4 this).2.imp (fun h => h) inR_nat
theorem Fd.zero {N : Nat} {t : Ty} (h : Fd N t) (hk : t.k ≠ 4) : t.h = 0 ∧ t.e = 0 := by
  have := h.gd.bnd
  unfold bndI at this
  rw [if_neg hk, Bool.and_eq_true] at this
  exact ⟨by simpa using this.1, by simpa using this.2⟩
theorem Fd.ne {N : Nat} {t : Ty} (h : Fd N t) : t ≠ .dm := fun e => by
  subst e
  have := h.gd.ar
  have h0 : arityI (Ty.k .dm) = -1 := rfl
  rw [h0] at this
  have h1 : Ty.len .dm = 0 := rfl
  rw [h1] at this
  omega

theorem same_refl : ∀ s : Ty, s.same s = true := by
  intro s
  induction s with
  | dm => rfl
  | mk k l h e ao b o len cap ps ih =>
    rw [same_eq]
    unfold hdEq
    simp only [beq_self_eq_true, Bool.and_self, Bool.true_and, decide_eq_true_eq]
    exact fun i _ => ih i
theorem same_iff (s t : Ty) : s.same t = true ↔ (s.k = t.k ∧ s.l = t.l ∧ s.h = t.h ∧ s.e = t.e ∧ s.len = t.len) ∧ ∀ i, i < s.len → (s.ps i).same (t.ps i) = true := by
  rw [same_eq, Bool.and_eq_true, decide_eq_true_eq]
  unfold hdEq
  simp only [Bool.and_eq_true, beq_iff_eq]
  constructor
  · rintro ⟨⟨⟨⟨⟨h1, h2⟩, h3⟩, h4⟩, h5⟩, h6⟩
    exact ⟨⟨h1, h2, h3, h4, h5⟩, h6⟩
  · rintro ⟨⟨h1, h2, h3, h4, h5⟩, h6⟩
    exact ⟨⟨⟨⟨⟨h1, h2⟩, h3⟩, h4⟩, h5⟩, h6⟩
theorem same_trans : ∀ s t u : Ty, s.same t = true → t.same u = true → s.same u = true := by
  intro s
  induction s with
  | dm =>
    intro t u h1 h2
    rw [same_iff] at h1 h2 ⊢
    exact ⟨⟨h1.1.1.trans h2.1.1, h1.1.2.1.trans h2.1.2.1, h1.1.2.2.1.trans h2.1.2.2.1, h1.1.2.2.2.1.trans h2.1.2.2.2.1, h1.1.2.2.2.2.trans h2.1.2.2.2.2⟩, fun i hi => absurd hi (Nat.not_lt_zero _)⟩
  | mk k l h e ao b o len cap ps ih =>
    intro t u h1 h2
    rw [same_iff] at h1 h2 ⊢
    exact ⟨⟨h1.1.1.trans h2.1.1, h1.1.2.1.trans h2.1.2.1, h1.1.2.2.1.trans h2.1.2.2.1, h1.1.2.2.2.1.trans h2.1.2.2.2.1, h1.1.2.2.2.2.trans h2.1.2.2.2.2⟩, fun i hi => ih i (t.ps i) (u.ps i) (h1.2 i hi) (h2.2 i (by rw [← h1.1.2.2.2.2]; exact hi))⟩

theorem step_congr {le : Nat → Nat → Bool} {s t : Ty} {p0 p1 q0 q1 : Bool} (h : s.k = t.k → (s.k = 3 ∨ s.k = 4) → p0 = q0 ∧ p1 = q1) : stepB le s t p0 p1 = stepB le s t q0 q1 := by
  unfold stepB
  by_cases hk : s.k = t.k
  · by_cases h3 : s.k = 3
    · obtain ⟨rfl, rfl⟩ := h hk (Or.inl h3); rfl
    · by_cases h4 : s.k = 4
      · obtain ⟨rfl, rfl⟩ := h hk (Or.inr h4); rfl
      · simp only [if_neg h3, if_neg h4]
  · rw [beq_eq_false_iff_ne.2 hk]; rfl

theorem bel_flip {N : Nat} {le : Nat → Nat → Bool} : ∀ s t : Ty, Fd N s → Fd N t → s.bel le false t = t.bel le true s ∧ s.bel le true t = t.bel le false s := by
  intro s
  induction s with
  | dm => intro t hs; exact absurd rfl hs.ne
  | mk k l h e ao b o len cap ps ih =>
    intro t hs ht
    have key : ∀ i, (Ty.mk k l h e ao b o len cap ps).k = t.k → ((Ty.mk k l h e ao b o len cap ps).k = 3 ∨ (Ty.mk k l h e ao b o len cap ps).k = 4) → i < 2 → (ps i).bel le false (t.ps i) = (t.ps i).bel le true (ps i) ∧ (ps i).bel le true (t.ps i) = (t.ps i).bel le false (ps i) := fun i hk h34 hi => by
      have h1 := hs.two h34
      have h2 := ht.two (by rw [← hk]; exact h34)
      exact ih i (t.ps i) (hs.sub (i := i) (by omega)) (ht.sub (i := i) (by omega))
    rw [bel_dn _ _ _ hs.ne, bel_up _ _ _ ht.ne, bel_up _ _ _ hs.ne, bel_dn _ _ _ ht.ne]
    refine ⟨step_congr (fun hk h34 => ?_), step_congr (fun hk h34 => ?_)⟩
    · have k0 := key 0 hk.symm (by rw [← hk]; exact h34) (by omega)
      have k1 := key 1 hk.symm (by rw [← hk]; exact h34) (by omega)
      exact ⟨by show (if t.k = 4 then (ps 0).bel le true (t.ps 0) else (ps 0).bel le false (t.ps 0)) = (if t.k = 4 then (t.ps 0).bel le false (ps 0) else (t.ps 0).bel le true (ps 0)); rw [k0.1, k0.2], k1.1⟩
    · have k0 := key 0 hk h34 (by omega)
      have k1 := key 1 hk h34 (by omega)
      exact ⟨by show (if k = 4 then (ps 0).bel le false (t.ps 0) else (ps 0).bel le true (t.ps 0)) = (if k = 4 then (t.ps 0).bel le true (ps 0) else (t.ps 0).bel le false (ps 0)); rw [k0.1, k0.2], k1.2⟩

/-- What Below says of formed types, in one step. -/
structure BelS (le : Nat → Nat → Bool) (s t : Ty) : Prop where
  k : s.k = t.k
  l : le s.l.toNat t.l.toNat = true
  pair : s.k = 3 → (s.ps 0).bel le true (t.ps 0) = true ∧ (s.ps 1).bel le true (t.ps 1) = true
  func : s.k = 4 → ((t.ps 0).bel le true (s.ps 0) = true ∧ (s.ps 1).bel le true (t.ps 1) = true) ∧ le t.h.toNat s.h.toNat = true ∧ excB le s.e t.e = true
  ref : s.k = 5 → (s.ps 0).same (t.ps 0) = true
theorem bel_iff {N : Nat} {le : Nat → Nat → Bool} {s t : Ty} (hs : Fd N s) (ht : Fd N t) : s.bel le true t = true ↔ BelS le s t := by
  rw [bel_up _ _ _ hs.ne]
  unfold stepB
  rw [Bool.and_eq_true, Bool.and_eq_true, beq_iff_eq]
  constructor
  · rintro ⟨⟨hk, hl⟩, h⟩
    refine ⟨hk, hl, fun h3 => ?_, fun h4 => ?_, fun h5 => ?_⟩
    · rw [if_pos h3, if_neg (by omega), Bool.and_eq_true] at h
      exact h
    · rw [if_neg (by omega), if_pos h4, if_pos h4, Bool.and_eq_true, Bool.and_eq_true, Bool.and_eq_true] at h
      have h1 := hs.two (Or.inr h4)
      have h2 := ht.two (by rw [← hk]; exact Or.inr h4)
      have hf := (bel_flip (le := le) (s.ps 0) (t.ps 0) (hs.sub (by omega)) (ht.sub (by omega))).1
      rw [hf] at h
      exact ⟨h.1.1, h.1.2, h.2⟩
    · rw [if_neg (by omega), if_neg (by omega), if_pos h5] at h
      exact h
  · intro h
    refine ⟨⟨h.k, h.l⟩, ?_⟩
    by_cases h3 : s.k = 3
    · rw [if_pos h3, if_neg (by omega), Bool.and_eq_true]
      exact h.pair h3
    · rw [if_neg h3]
      by_cases h4 : s.k = 4
      · rw [if_pos h4, if_pos h4, Bool.and_eq_true, Bool.and_eq_true, Bool.and_eq_true]
        have h1 := hs.two (Or.inr h4)
        have h2 := ht.two (by rw [← h.k]; exact Or.inr h4)
        have hf := (bel_flip (le := le) (s.ps 0) (t.ps 0) (hs.sub (by omega)) (ht.sub (by omega))).1
        rw [hf]
        exact ⟨⟨(h.func h4).1, (h.func h4).2.1⟩, (h.func h4).2.2⟩
      · rw [if_neg h4]
        by_cases h5 : s.k = 5
        · rw [if_pos h5]; exact h.ref h5
        · rw [if_neg h5]

theorem exc_refl {N : Nat} {le : Nat → Nat → Bool} (P : Po N le) {a : Int} (ha : a = -1 ∨ ∃ x : Nat, a = x ∧ x < N) : excB le a a = true := by
  unfold excB
  rcases ha with rfl | ⟨x, rfl, hx⟩
  · rfl
  · rw [show ((x : Int) != -1) = true from by simp, Int.toNat_natCast, P.refl x hx]; simp
theorem exc_iff {le : Nat → Nat → Bool} {a b : Int} : excB le a b = true ↔ a = -1 ∨ (b ≠ -1 ∧ le a.toNat b.toNat = true) := by
  unfold excB
  rw [Bool.or_eq_true, Bool.and_eq_true, beq_iff_eq, bne_iff_ne]
theorem exc_trans {N : Nat} {le : Nat → Nat → Bool} (P : Po N le) {a b c : Int} (ha : a = -1 ∨ ∃ x : Nat, a = x ∧ x < N) (hb : b = -1 ∨ ∃ x : Nat, b = x ∧ x < N) (hc : c = -1 ∨ ∃ x : Nat, c = x ∧ x < N) (h1 : excB le a b = true) (h2 : excB le b c = true) : excB le a c = true := by
  rw [exc_iff] at h1 h2 ⊢
  rcases h1 with h1 | ⟨h1, h1'⟩
  · exact Or.inl h1
  rcases h2 with h2 | ⟨h2, h2'⟩
  · exact absurd h2 h1
  rcases ha with ha | ⟨x, rfl, hx⟩
  · exact Or.inl ha
  rcases hb with hb | ⟨y, rfl, hy⟩
  · exact absurd hb h1
  rcases hc with hc | ⟨z, rfl, hz⟩
  · exact absurd hc h2
  exact Or.inr ⟨h2, P.trans _ _ _ hx hy hz h1' h2'⟩
theorem exc_anti {N : Nat} {le : Nat → Nat → Bool} (P : Po N le) {a b : Int} (ha : a = -1 ∨ ∃ x : Nat, a = x ∧ x < N) (hb : b = -1 ∨ ∃ x : Nat, b = x ∧ x < N) (h1 : excB le a b = true) (h2 : excB le b a = true) : a = b := by
  rw [exc_iff] at h1 h2
  rcases h1 with h1 | ⟨h1, h1'⟩
  · rcases h2 with h2 | ⟨h2, _⟩
    · rw [h1, h2]
    · exact absurd h1 h2
  rcases h2 with h2 | ⟨h2, h2'⟩
  · exact absurd h2 h1
  rcases ha with ha | ⟨x, rfl, hx⟩
  · exact absurd ha h2
  rcases hb with hb | ⟨y, rfl, hy⟩
  · exact absurd hb h1
  rw [P.anti x y hx hy h1' h2']

theorem bel_refl {N : Nat} {le : Nat → Nat → Bool} (P : Po N le) : ∀ s : Ty, Fd N s → s.bel le true s = true := by
  intro s
  induction s with
  | dm => intro hs; exact absurd rfl hs.ne
  | mk k l h e ao b o len cap ps ih =>
    intro hs
    rw [bel_iff hs hs]
    obtain ⟨x, hx, hx1⟩ := hs.lab
    have sub : ∀ i, i < 2 → (Ty.mk k l h e ao b o len cap ps).k = 3 ∨ (Ty.mk k l h e ao b o len cap ps).k = 4 → (ps i).bel le true (ps i) = true := fun i hi h34 => ih i (hs.sub (i := i) (by rw [hs.two h34]; omega))
    refine ⟨rfl, by rw [hx, Int.toNat_natCast]; exact P.refl x hx1, fun h3 => ⟨sub 0 (by omega) (Or.inl h3), sub 1 (by omega) (Or.inl h3)⟩, fun h4 => ⟨⟨sub 0 (by omega) (Or.inr h4), sub 1 (by omega) (Or.inr h4)⟩, ?_, exc_refl P (hs.exc h4)⟩, fun _ => same_refl _⟩
    obtain ⟨y, hy, hy1⟩ := hs.heap h4
    rw [hy, Int.toNat_natCast]; exact P.refl y hy1

theorem bel_trans {N : Nat} {le : Nat → Nat → Bool} (P : Po N le) : ∀ s t u : Ty, Fd N s → Fd N t → Fd N u → (s.bel le true t = true → t.bel le true u = true → s.bel le true u = true) ∧ (u.bel le true t = true → t.bel le true s = true → u.bel le true s = true) := by
  intro s
  induction s with
  | dm => intro t u hs; exact absurd rfl hs.ne
  | mk k l h e ao b o len cap ps ih =>
    intro t u hs ht hu
    obtain ⟨x, hx, hx1⟩ := hs.lab
    obtain ⟨y, hy, hy1⟩ := ht.lab
    obtain ⟨z, hz, hz1⟩ := hu.lab
    rw [bel_iff hs ht, bel_iff ht hu, bel_iff hs hu, bel_iff hu ht, bel_iff ht hs, bel_iff hu hs]
    have sub : ∀ i, i < 2 → (Ty.mk k l h e ao b o len cap ps).k = 3 ∨ (Ty.mk k l h e ao b o len cap ps).k = 4 → (Ty.mk k l h e ao b o len cap ps).k = t.k → (Ty.mk k l h e ao b o len cap ps).k = u.k → ((ps i).bel le true (t.ps i) = true → (t.ps i).bel le true (u.ps i) = true → (ps i).bel le true (u.ps i) = true) ∧ ((u.ps i).bel le true (t.ps i) = true → (t.ps i).bel le true (ps i) = true → (u.ps i).bel le true (ps i) = true) := fun i hi h34 ht' hu' => by
      have h1 := hs.two h34
      have h2 := ht.two (by rw [← ht']; exact h34)
      have h3 := hu.two (by rw [← hu']; exact h34)
      exact ih i (t.ps i) (u.ps i) (hs.sub (i := i) (by omega)) (ht.sub (by omega)) (hu.sub (by omega))
    constructor
    · intro a b'
      have ku := a.k.trans b'.k
      refine ⟨ku, ?_, fun h3 => ?_, fun h4 => ?_, fun h5 => ?_⟩
      · have q1 := a.l
        have q2 := b'.l
        rw [hx, hy, Int.toNat_natCast, Int.toNat_natCast] at q1
        rw [hy, hz, Int.toNat_natCast, Int.toNat_natCast] at q2
        rw [hx, hz, Int.toNat_natCast, Int.toNat_natCast]
        exact P.trans x y z hx1 hy1 hz1 q1 q2
      · have p1 := a.pair h3
        have p2 := b'.pair (by rw [← a.k]; exact h3)
        exact ⟨(sub 0 (by omega) (Or.inl h3) a.k ku).1 p1.1 p2.1, (sub 1 (by omega) (Or.inl h3) a.k ku).1 p1.2 p2.2⟩
      · have p1 := a.func h4
        have p2 := b'.func (by rw [← a.k]; exact h4)
        obtain ⟨xh, hxh, hxh1⟩ := hs.heap h4
        obtain ⟨yh, hyh, hyh1⟩ := ht.heap (by rw [← a.k]; exact h4)
        obtain ⟨zh, hzh, hzh1⟩ := hu.heap (by rw [← ku]; exact h4)
        refine ⟨⟨(sub 0 (by omega) (Or.inr h4) a.k ku).2 p2.1.1 p1.1.1, (sub 1 (by omega) (Or.inr h4) a.k ku).1 p1.1.2 p2.1.2⟩, ?_, exc_trans P (hs.exc h4) (ht.exc (by rw [← a.k]; exact h4)) (hu.exc (by rw [← ku]; exact h4)) p1.2.2 p2.2.2⟩
        have q1 := p1.2.1
        have q2 := p2.2.1
        rw [hxh, hyh, Int.toNat_natCast, Int.toNat_natCast] at q1
        rw [hyh, hzh, Int.toNat_natCast, Int.toNat_natCast] at q2
        rw [hxh, hzh, Int.toNat_natCast, Int.toNat_natCast]
        exact P.trans zh yh xh hzh1 hyh1 hxh1 q2 q1
      · exact same_trans _ _ _ (a.ref h5) (b'.ref (by rw [← a.k]; exact h5))
    · intro a b'
      have ku := a.k.trans b'.k
      refine ⟨ku, ?_, fun h3 => ?_, fun h4 => ?_, fun h5 => ?_⟩
      · have q1 := a.l
        have q2 := b'.l
        rw [hz, hy, Int.toNat_natCast, Int.toNat_natCast] at q1
        rw [hy, hx, Int.toNat_natCast, Int.toNat_natCast] at q2
        rw [hz, hx, Int.toNat_natCast, Int.toNat_natCast]
        exact P.trans z y x hz1 hy1 hx1 q1 q2
      · have p1 := a.pair h3
        have p2 := b'.pair (by rw [← a.k]; exact h3)
        have hk3 : (Ty.mk k l h e ao b o len cap ps).k = 3 := by rw [← ku]; exact h3
        exact ⟨(sub 0 (by omega) (Or.inl hk3) b'.k.symm ku.symm).2 p1.1 p2.1, (sub 1 (by omega) (Or.inl hk3) b'.k.symm ku.symm).2 p1.2 p2.2⟩
      · have p1 := a.func h4
        have p2 := b'.func (by rw [← a.k]; exact h4)
        have hk4 : (Ty.mk k l h e ao b o len cap ps).k = 4 := by rw [← ku]; exact h4
        obtain ⟨xh, hxh, hxh1⟩ := hs.heap hk4
        obtain ⟨yh, hyh, hyh1⟩ := ht.heap (by rw [← a.k]; exact h4)
        obtain ⟨zh, hzh, hzh1⟩ := hu.heap h4
        refine ⟨⟨(sub 0 (by omega) (Or.inr hk4) b'.k.symm ku.symm).1 p2.1.1 p1.1.1, (sub 1 (by omega) (Or.inr hk4) b'.k.symm ku.symm).2 p1.1.2 p2.1.2⟩, ?_, exc_trans P (hu.exc h4) (ht.exc (by rw [← a.k]; exact h4)) (hs.exc hk4) p1.2.2 p2.2.2⟩
        have q1 := p1.2.1
        have q2 := p2.2.1
        rw [hzh, hyh, Int.toNat_natCast, Int.toNat_natCast] at q1
        rw [hyh, hxh, Int.toNat_natCast, Int.toNat_natCast] at q2
        rw [hzh, hxh, Int.toNat_natCast, Int.toNat_natCast]
        exact P.trans xh yh zh hxh1 hyh1 hzh1 q2 q1
      · exact same_trans _ _ _ (a.ref h5) (b'.ref (by rw [← a.k]; exact h5))

theorem bel_anti {N : Nat} {le : Nat → Nat → Bool} (P : Po N le) : ∀ s t : Ty, Fd N s → Fd N t → s.bel le true t = true → t.bel le true s = true → s.same t = true := by
  intro s
  induction s with
  | dm => intro t hs; exact absurd rfl hs.ne
  | mk k l h e ao b o len cap ps ih =>
    intro t hs ht h1 h2
    rw [bel_iff hs ht] at h1
    rw [bel_iff ht hs] at h2
    obtain ⟨x, hx, hx1⟩ := hs.lab
    obtain ⟨y, hy, hy1⟩ := ht.lab
    have el : (Ty.mk k l h e ao b o len cap ps).l = t.l := by
      have q1 := h1.l
      have q2 := h2.l
      rw [hx, hy, Int.toNat_natCast, Int.toNat_natCast] at q1 q2
      rw [hx, hy, P.anti x y hx1 hy1 q1 q2]
    have elen : (Ty.mk k l h e ao b o len cap ps).len = t.len := by
      have a1 := hs.gd.ar
      have a2 := ht.gd.ar
      rw [h1.k] at a1
      omega
    have sub : ∀ i, i < (Ty.mk k l h e ao b o len cap ps).len → (ps i).bel le true (t.ps i) = true → (t.ps i).bel le true (ps i) = true → (ps i).same (t.ps i) = true := fun i hi => ih i (t.ps i) (hs.sub (i := i) hi) (ht.sub (by omega))
    rw [same_iff]
    by_cases h4 : (Ty.mk k l h e ao b o len cap ps).k = 4
    · have t4 : t.k = 4 := by rw [← h1.k]; exact h4
      have p1 := h1.func h4
      have p2 := h2.func t4
      obtain ⟨xh, hxh, hxh1⟩ := hs.heap h4
      obtain ⟨yh, hyh, hyh1⟩ := ht.heap t4
      refine ⟨⟨h1.k, el, ?_, exc_anti P (hs.exc h4) (ht.exc t4) p1.2.2 p2.2.2, elen⟩, fun i hi => ?_⟩
      · have q1 := p1.2.1
        have q2 := p2.2.1
        rw [hxh, hyh, Int.toNat_natCast, Int.toNat_natCast] at q1 q2
        rw [hxh, hyh, P.anti xh yh hxh1 hyh1 q2 q1]
      · have h2' := hs.two (Or.inr h4)
        by_cases e0 : i = 0
        · subst e0; exact sub 0 hi p2.1.1 p1.1.1
        · have e1 : i = 1 := by omega
          subst e1; exact sub 1 hi p1.1.2 p2.1.2
    · have z1 := hs.zero h4
      have z2 := ht.zero (by rw [← h1.k]; exact h4)
      refine ⟨⟨h1.k, el, z1.1.trans z2.1.symm, z1.2.trans z2.2.symm, elen⟩, fun i hi => ?_⟩
      by_cases h3 : (Ty.mk k l h e ao b o len cap ps).k = 3
      · have p1 := h1.pair h3
        have p2 := h2.pair (by rw [← h1.k]; exact h3)
        have h2' := hs.two (Or.inl h3)
        by_cases e0 : i = 0
        · subst e0; exact sub 0 hi p1.1 p2.1
        · have e1 : i = 1 := by omega
          subst e1; exact sub 1 hi p1.2 p2.2
      · by_cases h5 : (Ty.mk k l h e ao b o len cap ps).k = 5
        · have h1' := hs.one h5
          have e0 : i = 0 := by omega
          subst e0; exact h1.ref h5
        · exfalso
          have a1 := hs.gd.ar
          unfold arityI at a1
          rw [if_neg h5, if_neg h3, if_neg h4] at a1
          split at a1
          · omega
          · split at a1 <;> omega

theorem belB_iff {n : Strs} {g : Grid} {s t : Ty} : belB n g s t = true ↔ formedB n g = true ∧ s.ok n.len = true ∧ t.ok n.len = true ∧ s.bel g.B true t = true := by
  unfold belB
  rw [Bool.and_eq_true, Bool.and_eq_true, Bool.and_eq_true]
  exact ⟨fun h => ⟨h.1.1, h.1.2.1, h.1.2.2, h.2⟩, fun h => ⟨⟨h.1, h.2.1, h.2.2.1⟩, h.2.2.2⟩⟩
theorem fd_ok {N : Nat} {t : Ty} (h : t.ok N = true) : Fd N t := fd_of (ok_parts h).1
theorem belB_refl (n : Strs) (g : Grid) (s : Ty) : belB n g s s = okB n g s := by
  rw [Bool.eq_iff_iff, belB_iff]
  unfold okB
  rw [Bool.and_eq_true]
  exact ⟨fun h => ⟨h.1, h.2.1⟩, fun h => ⟨h.1, h.2, h.2, bel_refl (po_of h.1) s (fd_ok h.2)⟩⟩
theorem belB_trans {n : Strs} {g : Grid} {s t u : Ty} (h1 : belB n g s t = true) (h2 : belB n g t u = true) : belB n g s u = true := by
  rw [belB_iff] at h1 h2 ⊢
  exact ⟨h1.1, h1.2.1, h2.2.2.1, (bel_trans (po_of h1.1) s t u (fd_ok h1.2.1) (fd_ok h1.2.2.1) (fd_ok h2.2.2.1)).1 h1.2.2.2 h2.2.2.2⟩
theorem belB_anti {n : Strs} {g : Grid} {s t : Ty} (h1 : belB n g s t = true) (h2 : belB n g t s = true) : s.same t = true := by
  rw [belB_iff] at h1 h2
  exact bel_anti (po_of h1.1) s t (fd_ok h1.2.1) (fd_ok h1.2.2.1) h1.2.2.2 h2.2.2.2
end Go.Proofs.YtmkncmmegjfipaaGreatDoor

/- Layer 2: a row of types that a call makes by append. -/
namespace Go.Proofs.YtmkncmmegjfipaaGreatDoor
open Go.RowKit

/-- All blocks of a type's Parts meet Q. -/
def Ty.Blk (Q : Nat → Prop) : Ty → Prop
  | .dm => True
  | .mk _ _ _ _ _ b _ len _ ps => (0 < len → Q b) ∧ ∀ i, i < len → Ty.Blk Q (ps i)
theorem Ty.Blk.mono {Q R : Nat → Prop} (hQR : ∀ b, Q b → R b) : ∀ {t : Ty}, t.Blk Q → t.Blk R
  | .dm, _ => True.intro
  | .mk _ _ _ _ _ _ _ _ _ _, h => ⟨fun hl => hQR _ (h.1 hl), fun i hi => Ty.Blk.mono hQR (h.2 i hi)⟩
theorem Ty.Blk.and {Q R : Nat → Prop} : ∀ {t : Ty}, t.Blk Q → t.Blk R → t.Blk (fun b => Q b ∧ R b)
  | .dm, _, _ => True.intro
  | .mk _ _ _ _ _ _ _ _ _ _, h, k => ⟨fun hl => ⟨h.1 hl, k.1 hl⟩, fun i hi => Ty.Blk.and (h.2 i hi) (k.2 i hi)⟩
theorem Ty.At.lt {w : World} : ∀ {t : Ty}, t.At w → t.Blk (fun b => b < w.heap.size)
  | .dm, h => h.elim
  | .mk _ _ _ _ _ _ _ _ _ _, h => ⟨fun hl => cell_lt (h.2.2 0 hl).1.c0, fun i hi => Ty.At.lt (h.2.2 i hi).2⟩
theorem Ty.At.agree {w w' : World} {Q : Nat → Prop} (hag : ∀ b, Q b → w'.heap[b]? = w.heap[b]?) : ∀ {t : Ty}, t.At w → t.Blk Q → t.At w'
  | .dm, h, _ => h.elim
  | .mk _ _ _ _ _ b o len _ ps, h, k => ⟨h.1, h.2.1, fun i hi => by
      have e := hag b (k.1 (by omega))
      have C := (h.2.2 i hi).1
      exact ⟨⟨(World.cell?_of_block (w := w) e).trans C.c0, (World.cell?_of_block (w := w) e).trans C.c1, (World.cell?_of_block (w := w) e).trans C.c2, (World.cell?_of_block (w := w) e).trans C.c3, (World.cell?_of_block (w := w) e).trans C.c4⟩, Ty.At.agree hag (h.2.2 i hi).2 (k.2 i hi)⟩⟩

def Ty.vs (t : Ty) : List Value := [.int .i64 t.k, .int .i64 t.l, .slice t.ao t.len t.cap, .int .i64 t.h, .int .i64 t.e]
def flatT (ts : Nat → Ty) : Nat → List Value
  | 0 => []
  | j + 1 => flatT ts j ++ (ts j).vs
theorem flat_len (ts : Nat → Ty) : ∀ j, (flatT ts j).length = j * 5
  | 0 => rfl
  | j + 1 => by
    show (flatT ts j ++ (ts j).vs).length = _
    rw [List.length_append, flat_len ts j]
    show j * 5 + 5 = _
    omega
theorem flat_get (ts : Nat → Ty) : ∀ j i q, i < j → q < 5 → (flatT ts j)[i * 5 + q]? = (ts i).vs[q]?
  | 0, _, _, h, _ => absurd h (Nat.not_lt_zero _)
  | j + 1, i, q, hi, hq => by
    show (flatT ts j ++ (ts j).vs)[i * 5 + q]? = _
    have hl := flat_len ts j
    by_cases e : i = j
    · subst e
      rw [List.getElem?_append_right (by omega), hl]
      congr 1
      omega
    · rw [List.getElem?_append_left (by omega)]
      exact flat_get ts j i q (by omega) hq
theorem flat_congr {ts us : Nat → Ty} : ∀ j, (∀ i, i < j → ts i = us i) → flatT ts j = flatT us j
  | 0, _ => rfl
  | j + 1, h => by
    show flatT ts j ++ (ts j).vs = flatT us j ++ (us j).vs
    rw [flat_congr j (fun i hi => h i (by omega)), h j (by omega)]

/-- A row of j types that v owns, behind w0. -/
structure GRow (w0 wr : World) (v : Value) (j : Nat) (ts : Nat → Ty) : Prop where
  bl : Below w0.heap.size w0 wr
  own : wr.ownsRow w0.heap.size 53 5 v j (flatT ts j)
  at' : ∀ i, i < j → (ts i).At wr
  blk : ∀ i, i < j → (ts i).Blk (fun b => w0.heap.size ≤ b ∧ some b ≠ v.ownBlock)
theorem GRow.start (w : World) (ts : Nat → Ty) : GRow w w (.slice none 0 0) 0 ts :=
  ⟨Below.refl _ _, World.ownsRow_nil _ _ _ _, fun _ h => absurd h (Nat.not_lt_zero _), fun _ h => absurd h (Nat.not_lt_zero _)⟩
theorem own_lt {w : World} {base : Nat} {e : TypeId} {size : Nat} {v : Value} {n : Nat} {xs : List Value} (h : w.ownsRow base e size v n xs) {b : Nat} (hb : v.ownBlock = some b) : b < w.heap.size := by
  obtain ⟨cur, hc⟩ := own_type h hb
  exact (Array.getElem?_eq_some_iff.1 hc).1

theorem GRow.push {w0 wr w1 w3 : World} {v : Value} {j : Nat} {ts : Nat → Ty} {t : Ty} {gg cap : Nat} (h : GRow w0 wr v j ts) (hb : Below wr.heap.size wr w1) (ht : t.At w1) (hk : t.Blk (fun b => wr.heap.size ≤ b))
    (hown : w3.ownsRow w0.heap.size 53 5 (.slice (some ⟨gg, 0, none⟩) (j + 1) cap) (j + 1) (flatT ts j ++ t.vs)) (hgrow : (w1.alloc (tyO t)).grownBy w3 v.ownBlock) (hat : v.ownBlock = some gg ∨ gg = w1.heap.size + 1) :
    GRow w0 w3 (.slice (some ⟨gg, 0, none⟩) (j + 1) cap) (j + 1) (fun i => if i < j then ts i else t) := by
  have s1 := h.bl.size
  have s2 := hb.size
  have ba := below_alloc w1 (tyO t)
  have sz : (w1.alloc (tyO t)).heap.size = w1.heap.size + 1 := alloc_size _ _
  have old1 : ∀ b, b < w1.heap.size → some b ≠ v.ownBlock → w3.heap[b]? = w1.heap[b]? := fun b hb1 hne => (hgrow.block b (by rw [sz]; omega) hne).trans (ba.block b hb1)
  have old : ∀ b, b < wr.heap.size → some b ≠ v.ownBlock → w3.heap[b]? = wr.heap[b]? := fun b hb1 hne => (old1 b (by omega) hne).trans (hb.block b hb1)
  have lt : ∀ b, v.ownBlock = some b → b < wr.heap.size := fun b hb' => own_lt h.own hb'
  have nat : t.At w3 := Ty.At.agree (Q := fun b => wr.heap.size ≤ b ∧ b < w1.heap.size) (fun b hq => old1 b hq.2 (fun e => by have := lt b e.symm; omega)) ht (hk.and ht.lt)
  refine ⟨?_, ?_, fun i hi => ?_, fun i hi => ?_⟩
  · refine ⟨hgrow.os.trans (ba.os.trans (hb.os.trans h.bl.os)), hgrow.tape.trans (ba.tape.trans (hb.tape.trans h.bl.tape)), hgrow.output.trans (ba.output.trans (hb.output.trans h.bl.output)), ?_, fun b hb1 => ?_⟩
    · have := hgrow.size
      omega
    · rw [old b (by omega) (fun e => by have := own_ge h.own e.symm; omega)]
      exact h.bl.block b hb1
  · have e : flatT (fun i => if i < j then ts i else t) (j + 1) = flatT ts j ++ t.vs := by
      show flatT (fun i => if i < j then ts i else t) j ++ (if j < j then ts j else t).vs = _
      rw [flat_congr j (us := ts) (fun i hi => by simp [hi]), if_neg (Nat.lt_irrefl _)]
    rw [e]; exact hown
  · by_cases hij : i < j
    · simp only [hij, if_true]
      exact Ty.At.agree (Q := fun b => (w0.heap.size ≤ b ∧ some b ≠ v.ownBlock) ∧ b < wr.heap.size) (fun b hq => old b hq.2 hq.1.2) (h.at' i hij) ((h.blk i hij).and (h.at' i hij).lt)
    · simp only [hij, if_false]
      exact nat
  · have key : ∀ b, (b < wr.heap.size ∧ some b ≠ v.ownBlock) ∨ (wr.heap.size ≤ b ∧ b < w1.heap.size) → some b ≠ (Value.slice (some ⟨gg, 0, none⟩) (j + 1) cap).ownBlock := fun b hq e => by
      have e' : b = gg := by simpa [Value.ownBlock] using e
      subst e'
      rcases hat with hat | hat
      · rcases hq with hq | hq
        · exact hq.2 hat.symm
        · have := lt b hat; omega
      · rcases hq with hq | hq <;> omega
    by_cases hij : i < j
    · simp only [hij, if_true]
      exact ((h.blk i hij).and (h.at' i hij).lt).mono (fun b hq => ⟨hq.1.1, key b (Or.inl ⟨hq.2, hq.1.2⟩)⟩)
    · simp only [hij, if_false]
      exact (hk.and ht.lt).mono (fun b hq => ⟨by omega, key b (Or.inr hq)⟩)

/-- The row's type. -/
theorem GRow.ty {w0 wr : World} {v : Value} {j : Nat} {ts : Nat → Ty} (h : GRow w0 wr v j ts) (hj : j ≤ 9223372036854775807) : ∃ (ao : Option Addr) (gg cap : Nat), v = .slice ao j cap ∧ ∀ k l hh e, Ty.At wr (.mk k l hh e ao gg 0 j cap ts) ∧ Ty.Blk (fun b => w0.heap.size ≤ b) (.mk k l hh e ao gg 0 j cap ts) := by
  by_cases h0 : 0 < j
  · obtain ⟨gg, cap, rfl, hge, _⟩ := h.own.form h0
    refine ⟨_, gg, cap, rfl, fun k l hh e => ⟨⟨fun _ => rfl, hj, fun i hi => ⟨?_, h.at' i hi⟩⟩, fun _ => hge, fun i hi => (h.blk i hi).mono (fun b hq => hq.1)⟩⟩
    have get : ∀ q, q < 5 → wr.cell? ⟨gg, 0 + i * 5 + q, none⟩ = (ts i).vs[q]? := fun q hq => by
      rw [Nat.zero_add, h.own.cellAt (i * 5 + q) (by omega), flat_get ts j i q hi hq]
    exact ⟨get 0 (by omega), get 1 (by omega), get 2 (by omega), get 3 (by omega), get 4 (by omega)⟩
  · have e : j = 0 := by omega
    subst e
    obtain ⟨_, ⟨rfl, _⟩ | ⟨gb, cap, cur, rfl, hg, _⟩⟩ := h.own
    · exact ⟨none, 0, 0, rfl, fun k l hh e => ⟨⟨fun h => absurd h (Nat.lt_irrefl _), hj, fun _ h => absurd h (Nat.not_lt_zero _)⟩, fun h => absurd h (Nat.lt_irrefl _), fun _ h => absurd h (Nat.not_lt_zero _)⟩⟩
    · exact ⟨_, gb, cap, rfl, fun k l hh e => ⟨⟨fun _ => rfl, hj, fun _ h => absurd h (Nat.not_lt_zero _)⟩, fun h => absurd h (Nat.lt_irrefl _), fun _ h => absurd h (Nat.not_lt_zero _)⟩⟩
end Go.Proofs.YtmkncmmegjfipaaGreatDoor

/- Layers 13 to 18: classes as data, as they lie in memory. -/
namespace Go.Proofs.YtmkncmmegjfipaaGreatDoor
open Go Go.RowKit

theorem hyd {p : Prop} (h : p) : Hid p := h
theorem range_kept {w w' : World} {b o : Nat} {vs : List Value} (h : w.rangeAt b o vs) (hb : Below w.heap.size w w') : w'.rangeAt b o vs := fun j v hv => up hb (h j v hv)
theorem c5row {w : World} {b o : Nat} {t : Ty} (h : C5 w b o t) : w.rangeAt b o t.vs := fun j v hv => by
  match j with
  | 0 => simp [Ty.vs] at hv; subst hv; exact h.c0
  | 1 => simp [Ty.vs] at hv; subst hv; exact h.c1
  | 2 => simp [Ty.vs] at hv; subst hv; exact h.c2
  | 3 => simp [Ty.vs] at hv; subst hv; exact h.c3
  | 4 => simp [Ty.vs] at hv; subst hv; exact h.c4
  | j + 5 => simp [Ty.vs] at hv
theorem tvs_one (t : Ty) : t.vs.all (·.oneCell') = true := by simp [Ty.vs, Value.oneCell']
/-- Is it a number of Go's int? -/
def I64 (a : Int) : Prop := -9223372036854775808 ≤ a ∧ a ≤ 9223372036854775807

/-- A slice of whatever. -/
structure Rw (α : Type) where
  ao : Option Addr
  b : Nat
  o : Nat
  len : Nat
  cap : Nat
  x : Nat → α
/-- It lies: rows of z values each. -/
structure Rw.At {α : Type} (z : Nat) (vs : α → List Value) (A : World → α → Prop) (w : World) (r : Rw α) : Prop where
  nil : 0 < r.len → r.ao = some ⟨r.b, r.o, none⟩
  bound : r.len ≤ 9223372036854775807
  row : ∀ i, i < r.len → w.rangeAt r.b (r.o + i * z) (vs (r.x i))
  each : ∀ i, i < r.len → A w (r.x i)
theorem Rw.At.kept {α : Type} {z : Nat} {vs : α → List Value} {A : World → α → Prop} {w w' : World} {r : Rw α} (h : Rw.At z vs A w r) (hA : ∀ x, A w x → A w' x) (hb : Below w.heap.size w w') : Rw.At z vs A w' r :=
  ⟨h.nil, h.bound, fun i hi => range_kept (h.row i hi) hb, fun i hi => hA _ (h.each i hi)⟩
/-- Numbers. -/
def numV (a : Int) : List Value := [.int .i64 a]
def NmAt (w : World) (r : Rw Int) : Prop := Rw.At 1 numV (fun _ a => I64 a) w r
theorem NmAt.kept {w w' : World} {r : Rw Int} (h : NmAt w r) (hb : Below w.heap.size w w') : NmAt w' r := Rw.At.kept h (fun _ k => k) hb
/-- An instruction. -/
structure In where
  op : Int
  a : Int
  t : Ty
def In.vs (i : In) : List Value := .int .i64 i.op :: .int .i64 i.a :: i.t.vs
structure In.At (w : World) (i : In) : Prop where
  op : I64 i.op
  a : I64 i.a
  t : i.t.At w
theorem In.At.kept {w w' : World} {i : In} (hb : Below w.heap.size w w') (h : i.At w) : i.At w' := ⟨h.op, h.a, h.t.kept hb⟩
def InsAt (w : World) (r : Rw In) : Prop := Rw.At 7 In.vs In.At w r
theorem InsAt.kept {w w' : World} {r : Rw In} (h : InsAt w r) (hb : Below w.heap.size w w') : InsAt w' r := Rw.At.kept h (fun _ => In.At.kept hb) hb
/-- A handler. -/
structure Hn where
  fr : Int
  to : Int
  at_ : Int
def Hn.vs (h : Hn) : List Value := [.int .i64 h.fr, .int .i64 h.to, .int .i64 h.at_]
structure Hn.At (h : Hn) : Prop where
  fr : I64 h.fr
  to : I64 h.to
  at_ : I64 h.at_
def HnsAt (w : World) (r : Rw Hn) : Prop := Rw.At 3 Hn.vs (fun _ h => h.At) w r
theorem HnsAt.kept {w w' : World} {r : Rw Hn} (h : HnsAt w r) (hb : Below w.heap.size w w') : HnsAt w' r := Rw.At.kept h (fun _ k => k) hb
/-- A point: what is on the stack and in the slots (the Parts of st and sl), its label. -/
structure Pt where
  st : Ty
  sl : Ty
  env : Int
def Pt.vs (p : Pt) : List Value := [.slice p.st.ao p.st.len p.st.cap, .slice p.sl.ao p.sl.len p.sl.cap, .int .i64 p.env]
structure Pt.At (w : World) (p : Pt) : Prop where
  st : p.st.At w
  sl : p.sl.At w
  env : I64 p.env
theorem Pt.At.kept {w w' : World} {p : Pt} (hb : Below w.heap.size w w') (h : p.At w) : p.At w' := ⟨h.st.kept hb, h.sl.kept hb, h.env⟩
def PtsAt (w : World) (r : Rw Pt) : Prop := Rw.At 3 Pt.vs Pt.At w r
theorem PtsAt.kept {w w' : World} {r : Rw Pt} (h : PtsAt w r) (hb : Below w.heap.size w w') : PtsAt w' r := Rw.At.kept h (fun _ => Pt.At.kept hb) hb
/-- A region. -/
structure Rn where
  at_ : Int
  join : Int
  ps : Rw Int
def Rn.vs (r : Rn) : List Value := [.int .i64 r.at_, .int .i64 r.join, .slice r.ps.ao r.ps.len r.ps.cap]
structure Rn.At (w : World) (r : Rn) : Prop where
  at_ : I64 r.at_
  join : I64 r.join
  ps : NmAt w r.ps
theorem Rn.At.kept {w w' : World} {r : Rn} (hb : Below w.heap.size w w') (h : r.At w) : r.At w' := ⟨h.at_, h.join, h.ps.kept hb⟩
def RnsAt (w : World) (r : Rw Rn) : Prop := Rw.At 3 Rn.vs Rn.At w r
theorem RnsAt.kept {w w' : World} {r : Rw Rn} (h : RnsAt w r) (hb : Below w.heap.size w w') : RnsAt w' r := Rw.At.kept h (fun _ => Rn.At.kept hb) hb
/-- A function: its types, its Caps (the Parts of c), its bounds, its code, handlers, points, regions. -/
structure Cf where
  p : Ty
  r : Ty
  c : Ty
  h : Int
  e : Int
  sl : Int
  cd : Rw In
  hd : Rw Hn
  pt : Rw Pt
  rg : Rw Rn
def Rw.v {α : Type} (r : Rw α) : Value := .slice r.ao r.len r.cap
def Cf.vs (f : Cf) : List Value := f.p.vs ++ (f.r.vs ++ [.slice f.c.ao f.c.len f.c.cap, .int .i64 f.h, .int .i64 f.e, .int .i64 f.sl, .slice f.cd.ao f.cd.len f.cd.cap, .slice f.hd.ao f.hd.len f.hd.cap, .slice f.pt.ao f.pt.len f.pt.cap, .slice f.rg.ao f.rg.len f.rg.cap])
structure Cf.At (w : World) (f : Cf) : Prop where
  p : f.p.At w
  r : f.r.At w
  c : f.c.At w
  h : I64 f.h
  e : I64 f.e
  sl : I64 f.sl
  cd : InsAt w f.cd
  hd : HnsAt w f.hd
  pt : PtsAt w f.pt
  rg : RnsAt w f.rg
theorem Cf.At.kept {w w' : World} {f : Cf} (hb : Below w.heap.size w w') (h : f.At w) : f.At w' := ⟨h.p.kept hb, h.r.kept hb, h.c.kept hb, h.h, h.e, h.sl, h.cd.kept hb, h.hd.kept hb, h.pt.kept hb, h.rg.kept hb⟩
def CfsAt (w : World) (r : Rw Cf) : Prop := Rw.At 18 Cf.vs Cf.At w r
theorem CfsAt.kept {w w' : World} {r : Rw Cf} (h : CfsAt w r) (hb : Below w.heap.size w w') : CfsAt w' r := Rw.At.kept h (fun _ => Cf.At.kept hb) hb
theorem Cf.vs_len (f : Cf) : f.vs.length = 18 := rfl
theorem Cf.vs_one (f : Cf) : f.vs.all (·.oneCell') = true := by simp [Cf.vs, Ty.vs, Value.oneCell']
theorem In.vs_one (f : In) : f.vs.all (·.oneCell') = true := by simp [In.vs, Ty.vs, Value.oneCell']
theorem Hn.vs_one (f : Hn) : f.vs.all (·.oneCell') = true := by simp [Hn.vs, Value.oneCell']
theorem Pt.vs_one (f : Pt) : f.vs.all (·.oneCell') = true := by simp [Pt.vs, Value.oneCell']
theorem Rn.vs_one (f : Rn) : f.vs.all (·.oneCell') = true := by simp [Rn.vs, Value.oneCell']
/-- A class. -/
structure Kl where
  n : Strs
  g : Grid
  fs : Rw Cf
def Kl.vs (c : Kl) : List Value := [.slice c.n.ao c.n.len c.n.cap, .slice c.g.ao c.g.len c.g.cap, .slice c.fs.ao c.fs.len c.fs.cap]
structure Kl.At (w : World) (c : Kl) : Prop where
  n : c.n.At w
  g : c.g.At w
  fs : CfsAt w c.fs
theorem Kl.At.kept {w w' : World} {c : Kl} (hb : Below w.heap.size w w') (h : c.At w) : c.At w' := ⟨h.n.kept hb, h.g.kept hb, h.fs.kept hb⟩

/-! The answers as data. -/
def shB (a : Int) : Bool := decide (0 ≤ a) && decide (a ≤ 65535)
def Ty.zr (t : Ty) : Bool := (((decide (t.k = 0) && decide (t.l = 0)) && decide (t.len = 0)) && decide (t.h = 0)) && decide (t.e = 0)
/-- What stands behind an Op: 0 nothing, 1 any long, 2 a truth, 3 a short, 4 a type. -/
def opr (op : Int) : Nat := if op = 1 then 1 else if op = 2 then 2 else if op = 3 ∨ op = 4 ∨ op = 17 ∨ op = 23 ∨ op = 24 ∨ op = 25 then 3 else if op = 20 then 4 else 0
def nmB (has : Nat) (a : Int) : Bool := if has = 1 then true else if has = 2 then decide (a = 0) || decide (a = 1) else if has = 3 then shB a else decide (a = 0)
def In.fm (N : Nat) (i : In) : Bool := (decide (1 ≤ i.op) && decide (i.op ≤ 27)) && (if i.op = 20 then decide (i.a = 0) && i.t.ok N else i.t.zr && nmB (opr i.op) i.a)
def Hn.fm (h : Hn) : Bool := (shB h.fr && shB h.to) && shB h.at_
def Pt.fm (N : Nat) (sl : Int) (p : Pt) : Bool := (((decide (p.st.len ≤ 8) && decide ((p.sl.len : Int) = sl)) && inR N p.env) && decide (∀ i, i < p.st.len → (p.st.ps i).ok N = true)) && decide (∀ i, i < p.sl.len → ((p.sl.ps i).zr || (p.sl.ps i).ok N) = true)
def Rn.fm (r : Rn) : Bool := ((shB r.at_ && (decide (-1 ≤ r.join) && decide (r.join ≤ 65534))) && decide (r.ps.len ≤ 2000)) && decide (∀ i, i < r.ps.len → shB (r.ps.x i) = true)
def Cf.bnds (N : Nat) (f : Cf) : Bool := ((inR N f.h && (decide (f.e = -1) || inR N f.e)) && decide (1 ≤ f.sl)) && decide (f.sl ≤ 250)
def Cf.few (f : Cf) : Bool := decide (f.c.len ≤ 16) && (decide (f.cd.len ≤ 2000) && (decide (f.hd.len ≤ 2000) && (decide (f.pt.len ≤ 2000) && decide (f.rg.len ≤ 2000))))
def Cf.fm (N : Nat) (f : Cf) : Bool :=
  (f.bnds N && f.few) && ((f.p.ok N && f.r.ok N) && (decide (∀ i, i < f.c.len → (f.c.ps i).ok N = true) && (decide (∀ i, i < f.cd.len → (f.cd.x i).fm N = true) && (decide (∀ i, i < f.pt.len → (f.pt.x i).fm N f.sl = true) && (decide (∀ i, i < f.hd.len → (f.hd.x i).fm = true) && decide (∀ i, i < f.rg.len → (f.rg.x i).fm = true))))))
def Kl.fm (c : Kl) : Bool := formedB c.n c.g && ((decide (1 ≤ c.fs.len) && decide (c.fs.len ≤ 60)) && decide (∀ i, i < c.fs.len → (c.fs.x i).fm c.n.len = true))
end Go.Proofs.YtmkncmmegjfipaaGreatDoor

/- Layer 14: the form of code, as data. -/
namespace Go.Proofs.YtmkncmmegjfipaaGreatDoor
open Go Go.RowKit

def btw (a lo hi : Int) : Bool := decide (lo ≤ a) && decide (a < hi)
/-- Rule 1. -/
def Cf.cntB (f : Cf) : Bool := (decide (0 < f.cd.len) && decide (f.pt.len = f.cd.len)) && decide ((f.c.len : Int) < f.sl)
/-- Of the instruction number i of n. -/
def In.nhB (nf nl : Nat) (sl : Int) (n i : Nat) (x : In) : Bool := if x.op = 3 ∨ x.op = 4 then btw x.a 0 sl else if x.op = 17 then btw x.a 0 nf else if x.op = 23 then btw x.a 0 nl else if x.op = 24 ∨ x.op = 25 then btw x.a ((i : Int) + 1) n else true
def lastB (op : Int) : Bool := decide (op = 27) || decide (op = 26)
/-- Rule 2. -/
def Cf.codA (nf nl : Nat) (f : Cf) : Bool := decide (∀ i, i < f.cd.len → (f.cd.x i).nhB nf nl f.sl f.cd.len i = true)
def Cf.codB (nf nl : Nat) (f : Cf) : Bool := f.codA nf nl && lastB (f.cd.x (f.cd.len - 1)).op
def Hn.hold (n : Nat) (h : Hn) : Bool := (decide (h.fr < h.to) && decide (h.to ≤ h.at_)) && decide (h.at_ < n)
/-- Rule 3. -/
def Cf.hanB (f : Cf) : Bool := decide (∀ i, i < f.hd.len → (f.hd.x i).hold f.cd.len = true)
def Rn.joinB (n : Nat) (r : Rn) : Bool := decide (r.join = -1) || (decide (r.at_ < r.join) && decide (r.join < n))
def Rn.ah (r : Rn) : Nat → Int
  | 0 => r.at_
  | i + 1 => r.ps.x i
def Rn.plcB (n : Nat) (r : Rn) : Bool := decide (∀ i, i < r.ps.len → (r.ah i < r.ps.x i ∧ r.ps.x i < n) ∧ r.ps.x i ≠ r.join)
def Cf.ah (f : Cf) : Nat → Int
  | 0 => -1
  | i + 1 => (f.rg.x i).at_
/-- Rule 4. -/
def Cf.regB (f : Cf) : Bool := decide (∀ i, i < f.rg.len → ((f.ah i < (f.rg.x i).at_ ∧ (f.rg.x i).at_ < f.cd.len) ∧ (f.rg.x i).joinB f.cd.len = true) ∧ (f.rg.x i).plcB f.cd.len = true)
/-- The first rule that is broken. -/
def Cf.brk (nf nl : Nat) (f : Cf) : Nat := if f.cntB = false then 1 else if f.codB nf nl = false then 2 else if f.hanB = false then 3 else if f.regB = false then 4 else 0
def Kl.brk (c : Kl) (k : Nat) : Nat := (c.fs.x k).brk c.fs.len c.n.len
/-- What Check answers. -/
structure ChR (c : Kl) (k r e : Int) : Prop where
  form : c.fm = false → (k = -1 ∧ r = 0) ∧ e = 9
  bad : c.fm = true → ∀ j, j < c.fs.len → c.brk j ≠ 0 → (∀ i, i < j → c.brk i = 0) → (k = j ∧ r = c.brk j) ∧ e = 11
  ok : c.fm = true → (∀ i, i < c.fs.len → c.brk i = 0) → (k = 0 ∧ r = 0) ∧ e = 0
theorem first_bad (p : Nat → Nat) (n : Nat) : (∀ i, i < n → p i = 0) ∨ ∃ j, j < n ∧ p j ≠ 0 ∧ ∀ i, i < j → p i = 0 := by
  induction n with
  | zero => exact Or.inl fun _ h => absurd h (Nat.not_lt_zero _)
  | succ n ih =>
    rcases ih with h | ⟨j, h1, h2, h3⟩
    · by_cases e : p n = 0
      · exact Or.inl fun i hi => by
          by_cases e2 : i = n
          · rw [e2]; exact e
          · exact h i (by omega)
      · exact Or.inr ⟨n, by omega, e, h⟩
    · exact Or.inr ⟨j, by omega, h2, h3⟩
theorem ChR.one {c : Kl} {k r e k' r' e' : Int} (h : ChR c k r e) (h' : ChR c k' r' e') : k = k' ∧ r = r' ∧ e = e' := by
  cases hf : c.fm
  · obtain ⟨⟨a, b⟩, d⟩ := h.form hf
    obtain ⟨⟨a', b'⟩, d'⟩ := h'.form hf
    exact ⟨a.trans a'.symm, b.trans b'.symm, d.trans d'.symm⟩
  · rcases first_bad c.brk c.fs.len with g | ⟨j, g1, g2, g3⟩
    · obtain ⟨⟨a, b⟩, d⟩ := h.ok hf g
      obtain ⟨⟨a', b'⟩, d'⟩ := h'.ok hf g
      exact ⟨a.trans a'.symm, b.trans b'.symm, d.trans d'.symm⟩
    · obtain ⟨⟨a, b⟩, d⟩ := h.bad hf j g1 g2 g3
      obtain ⟨⟨a', b'⟩, d'⟩ := h'.bad hf j g1 g2 g3
      exact ⟨a.trans a'.symm, b.trans b'.symm, d.trans d'.symm⟩
/-- What OK says. -/
theorem ChR.yes {c : Kl} {k r e : Int} (h : ChR c k r e) (he : e = 0) : c.fm = true ∧ ∀ i, i < c.fs.len → c.brk i = 0 := by
  cases hf : c.fm
  · have := (h.form hf).2; omega
  · rcases first_bad c.brk c.fs.len with g | ⟨j, g1, g2, g3⟩
    · exact ⟨rfl, g⟩
    · have := (h.bad hf j g1 g2 g3).2; omega
theorem Cf.brk_zero {nf nl : Nat} {f : Cf} (h : f.brk nf nl = 0) : ((f.cntB = true ∧ f.codB nf nl = true) ∧ f.hanB = true) ∧ f.regB = true := by
  unfold Cf.brk at h
  cases h1 : f.cntB <;> cases h2 : f.codB nf nl <;> cases h3 : f.hanB <;> cases h4 : f.regB <;> simp [h1, h2, h3, h4] at h ⊢
theorem Cf.brk_of {nf nl : Nat} {f : Cf} (h1 : f.cntB = true) (h2 : f.codB nf nl = true) (h3 : f.hanB = true) (h4 : f.regB = true) : f.brk nf nl = 0 := by
  unfold Cf.brk
  simp [h1, h2, h3, h4]
end Go.Proofs.YtmkncmmegjfipaaGreatDoor
