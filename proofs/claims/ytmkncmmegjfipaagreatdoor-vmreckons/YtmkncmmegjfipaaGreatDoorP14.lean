/- Layer 13: a class's pool as data: types, each once, each behind its Parts, and their nodes. -/
import Derived.Test.YtmkncmmegjfipaaGreatDoorP13
import Derived.Test.YtmkncmmegjfipaaGreatDoorP10
import Derived.Test.YtmkncmmegjfipaaGreatDoorP8
import Derived.LaidEql
import Derived.Carry
import Derived.Test.YtmkncmmegjfipaaGreatDoorP12
namespace Go.Proofs.YtmkncmmegjfipaaGreatDoor
open Go.RowKit

/-- Where a node stands. -/
def fnd (Q : List (List Int)) (n : List Int) : Int := if n ∈ Q then (Q.idxOf n : Int) else -1
theorem fnd_get {Q : List (List Int)} {n : List Int} (h : fnd Q n ≠ -1) : ∃ i : Nat, fnd Q n = i ∧ Q[i]? = some n := by
  unfold fnd at h ⊢
  by_cases hn : n ∈ Q
  · rw [if_pos hn]
    refine ⟨Q.idxOf n, rfl, ?_⟩
    have hl := List.idxOf_lt_length_of_mem hn
    rw [List.getElem?_eq_getElem hl, List.getElem_idxOf hl]
  · rw [if_neg hn] at h
    exact absurd rfl h
theorem fnd_of {Q : List (List Int)} {n : List Int} {i : Nat} (hQ : ∀ (i j : Nat) (n : List Int), Q[i]? = some n → Q[j]? = some n → i = j) (h : Q[i]? = some n) : fnd Q n = i := by
  have hn : n ∈ Q := List.mem_of_getElem? h
  have hl := List.idxOf_lt_length_of_mem hn
  unfold fnd
  rw [if_pos hn]
  have := hQ (Q.idxOf n) i n (by rw [List.getElem?_eq_getElem hl, List.getElem_idxOf hl]) h
  rw [this]
theorem fnd_no {Q : List (List Int)} {n : List Int} (h : fnd Q n = -1) : n ∉ Q := by
  intro hn
  unfold fnd at h
  rw [if_pos hn] at h
  omega
theorem fnd_ge (Q : List (List Int)) (n : List Int) : -1 ≤ fnd Q n := by
  unfold fnd; split <;> omega

/-- Where a type stands, that is so deep. -/
def plc (Q : List (List Int)) : Ty → Nat → Int
  | .dm, _ => -1
  | .mk k l h e _ _ _ len _ ps, d =>
    if 6 < d ∨ 2 < len then -1 else if 0 < len ∧ plc Q (ps 0) (d + 1) = -1 then -1 else if 1 < len ∧ plc Q (ps 1) (d + 1) = -1 then -1
    else fnd Q [k, l, h, e, if 0 < len then plc Q (ps 0) (d + 1) else -1, if 1 < len then plc Q (ps 1) (d + 1) else -1]

/-- A Part's place. -/
def Prt (R : List Ty) (i : Nat) (t : Ty) (j : Nat) (p : Int) : Prop :=
  (j < t.len → ∃ (a : Nat) (s : Ty), p = a ∧ a < i ∧ R[a]? = some s ∧ s.same (t.ps j) = true) ∧ (¬ j < t.len → p = -1)
/-- Types, each once, formed, behind their Parts; and their nodes. -/
structure Good (N : Nat) (R : List Ty) (Q : List (List Int)) : Prop where
  len : Q.length = R.length
  ok : ∀ t ∈ R, t.ok N = true
  ent : ∀ (i : Nat) (t : Ty), R[i]? = some t → ∃ p q, Q[i]? = some [t.k, t.l, t.h, t.e, p, q] ∧ Prt R i t 0 p ∧ Prt R i t 1 q
  dis : ∀ (i j : Nat) (s t : Ty), R[i]? = some s → R[j]? = some t → s.same t = true → i = j
theorem Good.nil (N : Nat) : Good N [] [] := ⟨rfl, by simp, by simp, by simp⟩

theorem fm_len {N : Nat} : ∀ {t : Ty} {d : Nat}, t.fm N d = true → d ≤ 6 ∧ (t.len : Int) = arityI t.k ∧ t.len ≤ 2 ∧ ∀ i, i < t.len → (t.ps i).fm N (d + 1) = true
  | .dm, _, h => by simp [Ty.fm] at h
  | .mk k l hh e ao b o len cap ps, d, h => by
    rw [fm_eq] at h
    simp only [Bool.and_eq_true, decide_eq_true_eq, beq_iff_eq] at h
    obtain ⟨⟨⟨⟨h1, h2⟩, h3⟩, h4⟩, h5⟩ := h
    refine ⟨h1, h2, ?_, h5⟩
    show len ≤ 2
    unfold arityI at h2
    repeat' split at h2
    all_goals omega
theorem ok_fm {N : Nat} {t : Ty} (h : t.ok N = true) : t.fm N 1 = true ∧ t.nodes ≤ 40 := by
  unfold Ty.ok at h
  simpa using h
theorem fm_down {N : Nat} : ∀ {t : Ty} {d : Nat}, t.fm N (d + 1) = true → t.fm N d = true
  | .dm, _, h => by simp [Ty.fm] at h
  | .mk k l hh e ao b o len cap ps, d, h => by
    rw [fm_eq] at h ⊢
    simp only [Bool.and_eq_true, decide_eq_true_eq, beq_iff_eq] at h ⊢
    obtain ⟨⟨⟨⟨h1, h2⟩, h3⟩, h4⟩, h5⟩ := h
    exact ⟨⟨⟨⟨by omega, h2⟩, h3⟩, h4⟩, fun i hi => fm_down (h5 i hi)⟩
theorem ok_part {N : Nat} : ∀ {t : Ty}, t.ok N = true → ∀ i, i < t.len → (t.ps i).ok N = true
  | .dm, h, _, hi => absurd hi (Nat.not_lt_zero _)
  | .mk k l hh e ao b o len cap ps, h, i, hi => by
    obtain ⟨h1, h2⟩ := ok_fm h
    have h3 := (fm_len h1).2.2.2 i hi
    unfold Ty.ok
    rw [fm_down h3]
    have h4 := sumTo_le (fun i => (ps i).nodes) hi
    have h5 : (Ty.mk k l hh e ao b o len cap ps).nodes = 1 + sumTo (fun i => (ps i).nodes) len := rfl
    have h6 : (Ty.mk k l hh e ao b o len cap ps).ps i = ps i := rfl
    simp only [Bool.true_and, decide_eq_true_eq]
    rw [h6]
    have h7 : (Ty.mk k l hh e ao b o len cap ps).len = len := rfl
    rw [h7] at h4
    omega
theorem Good.at_ {N : Nat} {R : List Ty} {Q : List (List Int)} (G : Good N R Q) {i : Nat} {n : List Int} (h : Q[i]? = some n) : ∃ t, R[i]? = some t := by
  have hl := (List.getElem?_eq_some_iff.1 h).1
  rw [G.len] at hl
  exact ⟨R[i], List.getElem?_eq_getElem hl⟩
theorem same_of_parts {s t : Ty} (h1 : s.k = t.k) (h2 : s.l = t.l) (h3 : s.h = t.h) (h4 : s.e = t.e) (h5 : s.len = t.len) (h6 : ∀ i, i < s.len → (s.ps i).same (t.ps i) = true) : s.same t = true := (same_iff s t).2 ⟨⟨h1, h2, h3, h4, h5⟩, h6⟩
theorem Good.uniq {N : Nat} {R : List Ty} {Q : List (List Int)} (G : Good N R Q) (i j : Nat) (n : List Int) (hi : Q[i]? = some n) (hj : Q[j]? = some n) : i = j := by
  obtain ⟨s, hs⟩ := G.at_ hi
  obtain ⟨t, ht⟩ := G.at_ hj
  obtain ⟨p, q, h1, h2, h3⟩ := G.ent i s hs
  obtain ⟨p', q', k1, k2, k3⟩ := G.ent j t ht
  rw [hi] at h1
  rw [hj] at k1
  have e := h1.symm.trans k1
  simp only [Option.some.injEq, List.cons.injEq, and_true] at e
  obtain ⟨e1, e2, e3, e4, e5, e6⟩ := e
  subst e5 e6
  have ks := fm_len (ok_fm (G.ok s (List.mem_of_getElem? hs))).1
  have kt := fm_len (ok_fm (G.ok t (List.mem_of_getElem? ht))).1
  have el : s.len = t.len := by
    have a := ks.2.1
    have b := kt.2.1
    rw [e1] at a
    omega
  refine G.dis i j s t hs ht (same_of_parts e1 e2 e3 e4 el fun m hm => ?_)
  have hm2 : m = 0 ∨ m = 1 := by have := ks.2.2.1; omega
  rcases hm2 with rfl | rfl
  · obtain ⟨a, u, ha, _, hu, hus⟩ := h2.1 hm
    obtain ⟨a', u', ha', _, hu', hus'⟩ := k2.1 (el ▸ hm)
    have : a = a' := by omega
    subst this
    rw [hu] at hu'
    cases hu'
    exact same_trans _ _ _ (same_symm _ _ hus) hus'
  · obtain ⟨a, u, ha, _, hu, hus⟩ := h3.1 hm
    obtain ⟨a', u', ha', _, hu', hus'⟩ := k3.1 (el ▸ hm)
    have : a = a' := by omega
    subst this
    rw [hu] at hu'
    cases hu'
    exact same_trans _ _ _ (same_symm _ _ hus) hus'
/-- A node that was found is that type's. -/
theorem Good.found {N : Nat} {R : List Ty} {Q : List (List Int)} (G : Good N R Q) {t : Ty} {p q : Int} {i m m' : Nat} (hl : t.len ≤ 2) (hp : Prt R m t 0 p) (hq : Prt R m' t 1 q) (h : Q[i]? = some [t.k, t.l, t.h, t.e, p, q]) : ∃ s, R[i]? = some s ∧ s.same t = true := by
  obtain ⟨s, hs⟩ := G.at_ h
  obtain ⟨p', q', h1, h2, h3⟩ := G.ent i s hs
  have e := h1.symm.trans h
  simp only [Option.some.injEq, List.cons.injEq, and_true] at e
  obtain ⟨e1, e2, e3, e4, e5, e6⟩ := e
  subst e5 e6
  have ks := fm_len (ok_fm (G.ok s (List.mem_of_getElem? hs))).1
  have el : s.len = t.len := by
    have a0 : 0 < s.len ↔ 0 < t.len := by
      constructor
      · intro h0
        obtain ⟨a, _, ha, _⟩ := h2.1 h0
        apply Classical.byContradiction
        intro hn
        have := hp.2 hn
        omega
      · intro h0
        obtain ⟨a, _, ha, _⟩ := hp.1 h0
        apply Classical.byContradiction
        intro hn
        have := h2.2 hn
        omega
    have a1 : 1 < s.len ↔ 1 < t.len := by
      constructor
      · intro h0
        obtain ⟨a, _, ha, _⟩ := h3.1 h0
        apply Classical.byContradiction
        intro hn
        have := hq.2 hn
        omega
      · intro h0
        obtain ⟨a, _, ha, _⟩ := hq.1 h0
        apply Classical.byContradiction
        intro hn
        have := h3.2 hn
        omega
    have := ks.2.2.1
    omega
  refine ⟨s, hs, same_of_parts e1 e2 e3 e4 el fun m hm => ?_⟩
  have hm2 : m = 0 ∨ m = 1 := by have := ks.2.2.1; omega
  rcases hm2 with rfl | rfl
  · obtain ⟨a, u, ha, _, hu, hus⟩ := h2.1 hm
    obtain ⟨a', u', ha', _, hu', hus'⟩ := hp.1 (el ▸ hm)
    have : a = a' := by omega
    subst this
    rw [hu] at hu'
    cases hu'
    exact same_trans _ _ _ (same_symm _ _ hus) hus'
  · obtain ⟨a, u, ha, _, hu, hus⟩ := h3.1 hm
    obtain ⟨a', u', ha', _, hu', hus'⟩ := hq.1 (el ▸ hm)
    have : a = a' := by omega
    subst this
    rw [hu] at hu'
    cases hu'
    exact same_trans _ _ _ (same_symm _ _ hus) hus'
theorem plc_sound {N : Nat} {R : List Ty} {Q : List (List Int)} (G : Good N R Q) : ∀ (t : Ty) (d : Nat), plc Q t d ≠ -1 → ∃ (i : Nat) (s : Ty), plc Q t d = i ∧ R[i]? = some s ∧ s.same t = true
  | .dm, _, h => absurd rfl h
  | .mk k l hh e ao b o len cap ps, d, h => by
    rw [plc] at h ⊢
    by_cases c1 : 6 < d ∨ 2 < len
    · rw [if_pos c1] at h; exact absurd rfl h
    rw [if_neg c1] at h ⊢
    by_cases c2 : 0 < len ∧ plc Q (ps 0) (d + 1) = -1
    · rw [if_pos c2] at h; exact absurd rfl h
    rw [if_neg c2] at h ⊢
    by_cases c3 : 1 < len ∧ plc Q (ps 1) (d + 1) = -1
    · rw [if_pos c3] at h; exact absurd rfl h
    rw [if_neg c3] at h ⊢
    obtain ⟨i, hi, hq⟩ := fnd_get h
    have P0 : Prt R R.length (.mk k l hh e ao b o len cap ps) 0 (if 0 < len then plc Q (ps 0) (d + 1) else -1) := by
      constructor
      · intro h0
        have h0 : 0 < len := h0
        rw [if_pos h0]
        obtain ⟨a, s, h1, h2, h3⟩ := plc_sound G (ps 0) (d + 1) (fun z => c2 ⟨h0, z⟩)
        exact ⟨a, s, h1, (List.getElem?_eq_some_iff.1 h2).1, h2, h3⟩
      · intro h0
        have h0 : ¬ 0 < len := h0
        rw [if_neg h0]
    have P1 : Prt R R.length (.mk k l hh e ao b o len cap ps) 1 (if 1 < len then plc Q (ps 1) (d + 1) else -1) := by
      constructor
      · intro h0
        have h0 : 1 < len := h0
        rw [if_pos h0]
        obtain ⟨a, s, h1, h2, h3⟩ := plc_sound G (ps 1) (d + 1) (fun z => c3 ⟨h0, z⟩)
        exact ⟨a, s, h1, (List.getElem?_eq_some_iff.1 h2).1, h2, h3⟩
      · intro h0
        have h0 : ¬ 1 < len := h0
        rw [if_neg h0]
    obtain ⟨s, hs, hss⟩ := G.found (t := .mk k l hh e ao b o len cap ps) (show len ≤ 2 by omega) P0 P1 hq
    exact ⟨i, s, hi, hs, hss⟩
theorem plc_of {N : Nat} {R : List Ty} {Q : List (List Int)} (G : Good N R Q) : ∀ (t : Ty) (d : Nat), t.fm N d = true → ∀ (i : Nat) (s : Ty), R[i]? = some s → s.same t = true → plc Q t d = i
  | .dm, _, h, _, _, _, _ => by simp [Ty.fm] at h
  | .mk k l hh e ao b o len cap ps, d, h, i, s, hs, hss => by
    obtain ⟨h1, h2, h3, h4⟩ := fm_len h
    have h3 : len ≤ 2 := h3
    obtain ⟨⟨k1, k2, k3, k4, k5⟩, k6⟩ := (same_iff _ _).1 hss
    have k5 : s.len = len := k5
    obtain ⟨p, q, m1, m2, m3⟩ := G.ent i s hs
    rw [plc, if_neg (by omega)]
    have a0 : 0 < len → plc Q (ps 0) (d + 1) = p := fun z => by
      obtain ⟨a, u, z1, _, z3, z4⟩ := m2.1 (by omega)
      rw [z1]
      exact plc_of G (ps 0) (d + 1) (h4 0 z) a u z3 (same_trans _ _ _ z4 (k6 0 (by omega)))
    have a1 : 1 < len → plc Q (ps 1) (d + 1) = q := fun z => by
      obtain ⟨a, u, z1, _, z3, z4⟩ := m3.1 (by omega)
      rw [z1]
      exact plc_of G (ps 1) (d + 1) (h4 1 z) a u z3 (same_trans _ _ _ z4 (k6 1 (by omega)))
    have b0 : (if 0 < len then plc Q (ps 0) (d + 1) else -1) = p := by
      by_cases z : 0 < len
      · rw [if_pos z, a0 z]
      · rw [if_neg z, m2.2 (by omega)]
    have b1 : (if 1 < len then plc Q (ps 1) (d + 1) else -1) = q := by
      by_cases z : 1 < len
      · rw [if_pos z, a1 z]
      · rw [if_neg z, m3.2 (by omega)]
    rw [if_neg (fun z => by
      obtain ⟨a, u, z1, _⟩ := m2.1 (by omega)
      have := a0 z.1
      omega), if_neg (fun z => by
      obtain ⟨a, u, z1, _⟩ := m3.1 (by omega)
      have := a1 z.1
      omega), b0, b1]
    apply fnd_of G.uniq
    rw [m1]
    have k1 : s.k = k := k1
    have k2 : s.l = l := k2
    have k3 : s.h = hh := k3
    have k4 : s.e = e := k4
    rw [k1, k2, k3, k4]

/-- Is it there? -/
def has (R : List Ty) (t : Ty) : Bool := R.any fun s => s.same t
theorem has_iff {R : List Ty} {t : Ty} : has R t = true ↔ ∃ (i : Nat) (s : Ty), R[i]? = some s ∧ s.same t = true := by
  unfold has
  rw [List.any_eq_true]
  constructor
  · rintro ⟨s, h1, h2⟩
    obtain ⟨i, hi⟩ := List.mem_iff_getElem?.1 h1
    exact ⟨i, s, hi, h2⟩
  · rintro ⟨i, s, h1, h2⟩
    exact ⟨s, List.mem_of_getElem? h1, h2⟩
def itr (f : Nat → List Ty → List Ty) : Nat → List Ty → List Ty
  | 0, R => R
  | n + 1, R => f n (itr f n R)
/-- A type put behind others, its Parts first, where they aren't there. -/
def putT : Ty → List Ty → List Ty
  | .dm, R => R
  | .mk k l h e ao b o len cap ps, R => if has (itr (fun i => putT (ps i)) len R) (.mk k l h e ao b o len cap ps) then itr (fun i => putT (ps i)) len R else itr (fun i => putT (ps i)) len R ++ [.mk k l h e ao b o len cap ps]
theorem putT_eq (t : Ty) (R : List Ty) (hd : t ≠ .dm) : putT t R = if has (itr (fun i => putT (t.ps i)) t.len R) t then itr (fun i => putT (t.ps i)) t.len R else itr (fun i => putT (t.ps i)) t.len R ++ [t] := by
  cases t with
  | dm => exact absurd rfl hd
  | mk k l h e ao b o len cap ps => rfl
def takeT (R : List Ty) (t : Ty) : List Ty := if has R t then R else putT t R
theorem Prt.mono {R R' : List Ty} {i i' : Nat} {t : Ty} {j : Nat} {p : Int} (h : Prt R i t j p) (hi : i ≤ i') (hR : ∀ (a : Nat) (s : Ty), R[a]? = some s → R'[a]? = some s) : Prt R' i' t j p :=
  ⟨fun hj => by obtain ⟨a, s, h1, h2, h3, h4⟩ := h.1 hj; exact ⟨a, s, h1, by omega, hR _ _ h3, h4⟩, h.2⟩
theorem pre_get {R X : List Ty} {a : Nat} {s : Ty} (h : R[a]? = some s) : (R ++ X)[a]? = some s := by
  rw [List.getElem?_append_left (List.getElem?_eq_some_iff.1 h).1]; exact h
/-- One more. -/
theorem Good.push {N : Nat} {R : List Ty} {Q : List (List Int)} (G : Good N R Q) {t : Ty} {p q : Int} (ht : t.ok N = true) (hp : Prt R R.length t 0 p) (hq : Prt R R.length t 1 q) (h : fnd Q [t.k, t.l, t.h, t.e, p, q] = -1) :
    has R t = false ∧ Good N (R ++ [t]) (Q ++ [[t.k, t.l, t.h, t.e, p, q]]) := by
  have hno : ∀ (i : Nat) (s : Ty), R[i]? = some s → s.same t = true → False := fun i s hs hss => by
    obtain ⟨⟨k1, k2, k3, k4, k5⟩, k6⟩ := (same_iff _ _).1 hss
    obtain ⟨p', q', m1, m2, m3⟩ := G.ent i s hs
    have e0 : p' = p := by
      by_cases z : 0 < t.len
      · obtain ⟨a, u, z1, _, z3, z4⟩ := m2.1 (by omega)
        obtain ⟨a', u', y1, _, y3, y4⟩ := hp.1 z
        have := G.dis a a' u u' z3 y3 (same_trans _ _ _ z4 (same_trans _ _ _ (k6 0 (by omega)) (same_symm _ _ y4)))
        omega
      · rw [m2.2 (by omega), hp.2 z]
    have e1 : q' = q := by
      by_cases z : 1 < t.len
      · obtain ⟨a, u, z1, _, z3, z4⟩ := m3.1 (by omega)
        obtain ⟨a', u', y1, _, y3, y4⟩ := hq.1 z
        have := G.dis a a' u u' z3 y3 (same_trans _ _ _ z4 (same_trans _ _ _ (k6 1 (by omega)) (same_symm _ _ y4)))
        omega
      · rw [m3.2 (by omega), hq.2 z]
    rw [k1, k2, k3, k4, e0, e1] at m1
    exact fnd_no h (List.mem_of_getElem? m1)
  have hlast : ∀ (i : Nat) (s : Ty), (R ++ [t])[i]? = some s → R[i]? = some s ∨ (i = R.length ∧ s = t) := fun i s hs => by
    by_cases z : i < R.length
    · rw [List.getElem?_append_left z] at hs; exact Or.inl hs
    · rw [List.getElem?_append_right (by omega)] at hs
      have : i - R.length = 0 := by
        apply Classical.byContradiction
        intro y
        have : ([t] : List Ty)[i - R.length]? = none := by simp; omega
        rw [this] at hs
        cases hs
      rw [this] at hs
      simp at hs
      exact Or.inr ⟨by omega, hs.symm⟩
  refine ⟨?_, ⟨by simp [G.len], ?_, ?_, ?_⟩⟩
  · cases hh : has R t with
    | false => rfl
    | true =>
      obtain ⟨i, s, h1, h2⟩ := has_iff.1 hh
      exact (hno i s h1 h2).elim
  · intro s hs
    rcases List.mem_append.1 hs with h1 | h1
    · exact G.ok s h1
    · rw [List.mem_singleton.1 h1]; exact ht
  · intro i s hs
    rcases hlast i s hs with h1 | ⟨h1, h2⟩
    · obtain ⟨p', q', m1, m2, m3⟩ := G.ent i s h1
      refine ⟨p', q', ?_, m2.mono (Nat.le_refl _) (fun _ _ => pre_get), m3.mono (Nat.le_refl _) (fun _ _ => pre_get)⟩
      rw [List.getElem?_append_left (List.getElem?_eq_some_iff.1 m1).1]; exact m1
    · subst h1 h2
      refine ⟨p, q, ?_, hp.mono (Nat.le_refl _) (fun _ _ => pre_get), hq.mono (Nat.le_refl _) (fun _ _ => pre_get)⟩
      rw [← G.len]; simp
  · intro i j s u hs hu hsu
    rcases hlast i s hs with h1 | ⟨h1, h2⟩
    · rcases hlast j u hu with k1 | ⟨k1, k2⟩
      · exact G.dis i j s u h1 k1 hsu
      · subst k2; exact (hno i s h1 hsu).elim
    · rcases hlast j u hu with k1 | ⟨k1, k2⟩
      · subst h2; exact (hno j u k1 (same_symm _ _ hsu)).elim
      · omega
/-- Behind a type's Parts: it is there, or is put. -/
theorem Good.here {N : Nat} {R : List Ty} {Q : List (List Int)} (G : Good N R Q) {t : Ty} {p q : Int} {i : Nat} (hl : t.len ≤ 2) (hp : Prt R R.length t 0 p) (hq : Prt R R.length t 1 q) (h : fnd Q [t.k, t.l, t.h, t.e, p, q] = i) : has R t = true ∧ ∃ s, R[i]? = some s ∧ s.same t = true := by
  have hn : fnd Q [t.k, t.l, t.h, t.e, p, q] ≠ -1 := by omega
  obtain ⟨j, hj, hq'⟩ := fnd_get hn
  have : j = i := by omega
  subst this
  obtain ⟨s, hs, hss⟩ := G.found hl hp hq hq'
  exact ⟨has_iff.2 ⟨j, s, hs, hss⟩, s, hs, hss⟩
end Go.Proofs.YtmkncmmegjfipaaGreatDoor

/- Layer 13: the map of a pool: a key is six numbers, what is kept a number. -/
namespace Go.Proofs.YtmkncmmegjfipaaGreatDoor
open Go.RowKit

def nv (a b c d p q : Int) : Value := .agg #[.int .i64 a, .int .i64 b, .int .i64 c, .int .i64 d, .int .i64 p, .int .i64 q]
def nodeV : List Int → Value
  | [a, b, c, d, p, q] => nv a b c d p q
  | _ => .agg #[]
theorem six_of {n : List Int} (h : n.length = 6) : ∃ a b c d p q, n = [a, b, c, d, p, q] := by
  match n, h with
  | [a, b, c, d, p, q], _ => exact ⟨a, b, c, d, p, q, rfl⟩
theorem Tryz.intSz : (Tryz.prog.info? 3).map (·.size) = some 1 := by kernel_rfl
theorem Tryz.twoSz : (Tryz.prog.info? 100).map (·.size) = some 2 := by kernel_rfl
theorem run_sizeOf (w : World) {t : TypeId} {n : Nat} (h : (Tryz.prog.info? t).map (·.size) = some n) : (sizeOf t).run Tryz.prog w = .ok n w := by
  cases hq : Tryz.prog.info? t with
  | none => rw [hq] at h; simp at h
  | some i =>
    rw [hq] at h
    have h : i.size = n := by simpa using h
    simp [sizeOf, typeInfo, hq, h]
theorem run_eqi (w : World) (d : Nat) (m n : Int) : (Op.equalIn (d + 1) 3 (.int .i64 m) (.int .i64 n)).run Tryz.prog w = .ok (decide (m = n)) w := by
  simp [Op.equalIn, run_underlying Tryz.underlying3]
  by_cases h : m = n
  · simp [h]
  · simp [h]
theorem run_parti (w : World) (xs : Array Value) (i : Nat) (v : Value) (h : xs[i]? = some v) : (part 3 xs i).run Tryz.prog w = .ok v w := by
  simp [part, isAgg, run_underlying Tryz.underlying3, h]
theorem run_part2 (w : World) (xs : Array Value) (i : Nat) : (part 100 xs i).run Tryz.prog w = .ok (.agg (xs.extract i (i + 2))) w := by
  have h := run_sizeOf w Tryz.twoSz
  unfold part isAgg
  simp only [Sem.run_bind, run_underlying Tryz.underlying100, Result.andThen_ok, Sem.run_pure, if_true, h]
theorem run_eq2 (w : World) (d : Nat) (a b p q : Int) : (Op.equalIn (d + 2) 100 (.agg #[.int .i64 a, .int .i64 b]) (.agg #[.int .i64 p, .int .i64 q])).run Tryz.prog w = .ok (decide (a = p) && decide (b = q)) w := by
  have hz := run_sizeOf w Tryz.intSz
  have e := run_eqi w d
  have p0 := fun x y : Int => run_parti w #[.int .i64 x, .int .i64 y] 0 _ rfl
  have p1 := fun x y : Int => run_parti w #[.int .i64 x, .int .i64 y] 1 _ rfl
  rw [Op.equalIn]
  simp only [Sem.run_bind, run_underlying Tryz.underlying100, Result.andThen_ok, hz]
  by_cases h1 : a = p
  · by_cases h2 : b = q
    · simp [Std.Legacy.Range.forIn_eq_forIn_range', Std.Legacy.Range.size, List.range', e, p0, p1, h1, h2]
    · simp [Std.Legacy.Range.forIn_eq_forIn_range', Std.Legacy.Range.size, List.range', e, p0, p1, h1, h2]
  · simp [Std.Legacy.Range.forIn_eq_forIn_range', Std.Legacy.Range.size, List.range', e, p0, h1]
theorem run_eqn' (w : World) (d : Nat) (a b c e p q a' b' c' e' p' q' : Int) : (Op.equalIn (d + 3) 212 (nv a b c e p q) (nv a' b' c' e' p' q')).run Tryz.prog w = .ok (decide ([a, b, c, e, p, q] = [a', b', c', e', p', q'])) w := by
  unfold nv
  have e1 := run_eqi w (d + 1)
  have e2 := run_eq2 w d
  have p0 := fun a b c e p q : Int => run_parti w #[.int .i64 a, .int .i64 b, .int .i64 c, .int .i64 e, .int .i64 p, .int .i64 q] 0 _ rfl
  have p1 := fun a b c e p q : Int => run_parti w #[.int .i64 a, .int .i64 b, .int .i64 c, .int .i64 e, .int .i64 p, .int .i64 q] 1 _ rfl
  have p2 := fun a b c e p q : Int => run_parti w #[.int .i64 a, .int .i64 b, .int .i64 c, .int .i64 e, .int .i64 p, .int .i64 q] 2 _ rfl
  have p3 := fun a b c e p q : Int => run_parti w #[.int .i64 a, .int .i64 b, .int .i64 c, .int .i64 e, .int .i64 p, .int .i64 q] 3 _ rfl
  have p4 := fun a b c e p q : Int => run_part2 w #[.int .i64 a, .int .i64 b, .int .i64 c, .int .i64 e, .int .i64 p, .int .i64 q] 4
  have x4 : ∀ a b c e p q : Int, (#[.int .i64 a, .int .i64 b, .int .i64 c, .int .i64 e, .int .i64 p, .int .i64 q] : Array Value).extract 4 6 = #[.int .i64 p, .int .i64 q] := fun _ _ _ _ _ _ => rfl
  rw [Op.equalIn]
  simp only [Sem.run_bind, run_underlying Tryz.underlying212, Result.andThen_ok]
  simp only [Nat.reduceAdd, x4] at p4
  simp [e1, e2, p0, p1, p2, p3, p4]
  by_cases h1 : a = a'
  · by_cases h2 : b = b'
    · by_cases h3 : c = c'
      · by_cases h4 : e = e'
        · by_cases h5 : p = p'
          · by_cases h6 : q = q'
            · simp [h1, h2, h3, h4, h5, h6]
            · simp [h1, h2, h3, h4, h5, h6]
          · simp [h1, h2, h3, h4, h5]
        · simp [h1, h2, h3, h4]
      · simp [h1, h2, h3]
    · simp [h1, h2]
  · simp [h1]
theorem run_eqn (w : World) (n m : List Int) (hn : n.length = 6) (hm : m.length = 6) : (Op.equal 212 (nodeV n) (nodeV m)).run Tryz.prog w = .ok (decide (n = m)) w := by
  obtain ⟨a, b, c, d, p, q, rfl⟩ := six_of hn
  obtain ⟨a', b', c', d', p', q', rfl⟩ := six_of hm
  exact run_eqn' w 9997 a b c d p q a' b' c' d' p' q'
theorem run_ckn (w : World) (e : Bool) (n : List Int) (hn : n.length = 6) : (Instr.checkKey e 10000 212 (nodeV n)).run Tryz.prog w = .ok () w := by
  obtain ⟨a, b, c, d, p, q, rfl⟩ := six_of hn
  show (Instr.checkKey e (9997 + 3) 212 (nv a b c d p q)).run Tryz.prog w = .ok () w
  unfold nv
  have c1 : ∀ k v, (Instr.checkKey e (k + 1) 3 v).run Tryz.prog w = .ok () w := fun k v => by simp [Instr.checkKey, run_underlying Tryz.underlying3]
  have q0 := fun x y : Int => run_parti w #[.int .i64 x, .int .i64 y] 0 _ rfl
  have q1 := fun x y : Int => run_parti w #[.int .i64 x, .int .i64 y] 1 _ rfl
  have hz := run_sizeOf w Tryz.intSz
  have c2 : ∀ x y : Int, (Instr.checkKey e (9997 + 2) 100 (.agg #[.int .i64 x, .int .i64 y])).run Tryz.prog w = .ok () w := fun x y => by
    rw [Instr.checkKey]
    simp only [Sem.run_bind, run_underlying Tryz.underlying100, Result.andThen_ok]
    simp [Std.Legacy.Range.forIn_eq_forIn_range', Std.Legacy.Range.size, List.range', c1, q0, q1, hz]
  have p0 := fun a b c e p q : Int => run_parti w #[.int .i64 a, .int .i64 b, .int .i64 c, .int .i64 e, .int .i64 p, .int .i64 q] 0 _ rfl
  have p1 := fun a b c e p q : Int => run_parti w #[.int .i64 a, .int .i64 b, .int .i64 c, .int .i64 e, .int .i64 p, .int .i64 q] 1 _ rfl
  have p2 := fun a b c e p q : Int => run_parti w #[.int .i64 a, .int .i64 b, .int .i64 c, .int .i64 e, .int .i64 p, .int .i64 q] 2 _ rfl
  have p3 := fun a b c e p q : Int => run_parti w #[.int .i64 a, .int .i64 b, .int .i64 c, .int .i64 e, .int .i64 p, .int .i64 q] 3 _ rfl
  have p4 := fun a b c e p q : Int => run_part2 w #[.int .i64 a, .int .i64 b, .int .i64 c, .int .i64 e, .int .i64 p, .int .i64 q] 4
  have x4 : ∀ a b c e p q : Int, (#[.int .i64 a, .int .i64 b, .int .i64 c, .int .i64 e, .int .i64 p, .int .i64 q] : Array Value).extract 4 6 = #[.int .i64 p, .int .i64 q] := fun _ _ _ _ _ _ => rfl
  simp only [Nat.reduceAdd, x4] at p4
  rw [Instr.checkKey]
  simp only [Sem.run_bind, run_underlying Tryz.underlying212, Result.andThen_ok]
  simp only [Nat.reduceAdd] at c2
  simp [c1, c2, p0, p1, p2, p3, p4]
/-- The map has these nodes, each with its place. -/
structure NKeys (es : Array MapEntry) (Q : List (List Int)) : Prop where
  keys : es.toList.map (·.key) = Q.map nodeV
  vals : ∀ (i : Nat) (e : MapEntry), es.toList[i]? = some e → e.val = .int .i64 i
  six : ∀ n ∈ Q, n.length = 6
theorem NKeys.nil : NKeys #[] [] := ⟨rfl, by simp, by simp⟩
theorem NKeys.push {es : Array MapEntry} {Q : List (List Int)} (h : NKeys es Q) {n : List Int} (hn : n.length = 6) (c : Nat) : NKeys (es.push { key := nodeV n, val := .int .i64 (Q.length : Int), born := c }) (Q ++ [n]) := by
  have hl : es.toList.length = Q.length := by have := congrArg List.length h.keys; simpa using this
  refine ⟨?_, ?_, ?_⟩
  · rw [Array.toList_push, List.map_append, h.keys, List.map_append]; rfl
  · intro i e he
    rw [Array.toList_push] at he
    by_cases z : i < es.toList.length
    · rw [List.getElem?_append_left z] at he
      exact h.vals i e he
    · rw [List.getElem?_append_right (by omega)] at he
      have hz : i - es.toList.length = 0 := by
        apply Classical.byContradiction
        intro y
        rw [List.getElem?_eq_none (by show 1 ≤ _; omega)] at he
        cases he
      rw [hz] at he
      simp at he
      rw [← he]
      have : i = Q.length := by omega
      rw [this]
  · intro m hm
    rcases List.mem_append.1 hm with h1 | h1
    · exact h.six m h1
    · rw [List.mem_singleton.1 h1]; exact hn
theorem run_findA (w : World) (n : List Int) (hn : n.length = 6) : ∀ (es : List MapEntry) (Q : List (List Int)) (i : Nat), es.map (·.key) = Q.map nodeV → (∀ (j : Nat) (e : MapEntry), es[j]? = some e → e.val = .int .i64 (i + j : Nat)) → (∀ m ∈ Q, m.length = 6) →
    (Instr.findAsking 212 (nodeV n) es i).run Tryz.prog w = .ok (if n ∈ Q then some (i + Q.idxOf n, .int .i64 (i + Q.idxOf n : Nat)) else none) w
  | [], Q, i, hk, _, _ => by
    have e : Q = [] := by cases Q with | nil => rfl | cons _ _ => simp at hk
    subst e
    simp [Instr.findAsking]
  | e :: es, [], i, hk, _, _ => by simp at hk
  | e :: es, m :: Q, i, hk, hv, hs => by
    simp only [List.map_cons, List.cons.injEq] at hk
    have hq := run_eqn w n m hn (hs m (List.mem_cons_self ..))
    by_cases h : n = m
    · subst h
      have hv0 := hv 0 e rfl
      rw [Instr.findAsking, hk.1]
      simp [hq, hv0]
    · have ih := run_findA w n hn es Q (i + 1) hk.2 (fun j x hx => by have h5 := hv (j + 1) x (by simpa using hx); rw [h5, show i + (j + 1) = i + 1 + j by omega]) (fun x hx => hs x (List.mem_cons_of_mem _ hx))
      rw [Instr.findAsking, hk.1]
      simp only [Sem.run_bind, hq, Result.andThen_ok, h, decide_false]
      have hm : (n ∈ m :: Q) ↔ n ∈ Q := by simp [h]
      have hi : (m :: Q).idxOf n = Q.idxOf n + 1 := by rw [List.idxOf_cons, beq_false_of_ne (fun z => h z.symm)]; rfl
      by_cases hin : n ∈ Q
      · rw [if_pos (hm.2 hin), hi]
        rw [if_pos hin] at ih
        simp only [Bool.false_eq_true, if_false]
        rw [ih, show i + 1 + Q.idxOf n = i + (Q.idxOf n + 1) by omega]
      · rw [if_neg (fun z => hin (hm.1 z))]
        rw [if_neg hin] at ih
        simpa using ih
theorem run_findN (w : World) (n : List Int) (hn : n.length = 6) (es : Array MapEntry) (Q : List (List Int)) (h : NKeys es Q) :
    (Instr.findKey 212 (nodeV n) es.toList).run Tryz.prog w = .ok (if n ∈ Q then some (Q.idxOf n, .int .i64 (Q.idxOf n : Nat)) else none) w := by
  have h1 := run_findA w n hn es.toList Q 0 h.keys (fun j e he => by rw [h.vals j e he, Nat.zero_add]) h.six
  simp only [Nat.zero_add] at h1
  have hu := run_underlying (w := w) Tryz.underlying212
  cases hl : es.toList with
  | nil =>
    have e : Q = [] := by have := h.keys; rw [hl] at this; cases Q with | nil => rfl | cons _ _ => simp at this
    subst e
    simp [Instr.findKey, hu, Instr.findNow]
  | cons e l =>
    rw [hl] at h1
    simp [Instr.findKey, hu, Instr.findNow, Instr.sameNow, h1]
theorem run_lookN (w : World) (m : Nat) (es : Array MapEntry) (c : Nat) (hm : w.heap[m]? = some (.map es c)) (n : List Int) (hn : n.length = 6) (Q : List (List Int)) (h : NKeys es Q) :
    (Instr.lookup 129 (.map (some m)) (nodeV n) true).run Tryz.prog w = .ok (.tuple #[.int .i64 (if fnd Q n = -1 then 0 else fnd Q n), .bool (decide (fnd Q n ≠ -1))]) w := by
  have h1 := run_findN w n hn es Q h
  have hc' : ∀ e, (Instr.checkKey e 10000 212 (nodeV n)).run Tryz.prog w = .ok () w := fun e => run_ckn w e n hn
  have hg : (getObj m).run Tryz.prog w = .ok (.map es c) w := by simp [getObj, Sem.run, hm]
  have hz : (Tryz.prog.info? 3).map (·.zero) = some (some (.int .i64 0)) := by kernel_rfl
  cases hq : Tryz.prog.info? 3 with
  | none => rw [hq] at hz; simp at hz
  | some i =>
    rw [hq] at hz
    have hz : i.zero = some (.int .i64 0) := by simpa using hz
    by_cases hin : n ∈ Q
    · rw [if_pos hin] at h1
      have hf : fnd Q n = (Q.idxOf n : Int) := by unfold fnd; rw [if_pos hin]
      have hn1 : ¬ ((Q.idxOf n : Nat) : Int) = -1 := by omega
      simp [Instr.lookup, run_underlying Tryz.underlying129, hg, hc', h1, hf, hn1]
    · rw [if_neg hin] at h1
      have hf : fnd Q n = -1 := by unfold fnd; rw [if_neg hin]
      simp [Instr.lookup, run_underlying Tryz.underlying129, hg, hc', h1, hf, zeroValue, typeInfo, hq, hz]
theorem run_putN (w : World) (m : Nat) (es : Array MapEntry) (c : Nat) (hm : w.heap[m]? = some (.map es c)) (n : List Int) (hn : n.length = 6) (Q : List (List Int)) (h : NKeys es Q) (hf : fnd Q n = -1) (v : Value) :
    (Instr.mapUpdate 129 (.map (some m)) (nodeV n) v).run Tryz.prog w = .ok () { w with heap := w.heap.setIfInBounds m (.map (es.push { key := nodeV n, val := v, born := c }) (c + 1)) } := by
  have h1 := run_findN w n hn es Q h
  rw [if_neg (fnd_no hf)] at h1
  have hc' : ∀ e, (Instr.checkKey e 10000 212 (nodeV n)).run Tryz.prog w = .ok () w := fun e => run_ckn w e n hn
  have hg : (getObj m).run Tryz.prog w = .ok (.map es c) w := by simp [getObj, Sem.run, hm]
  have hs : ∀ o, (setObj m o).run Tryz.prog w = .ok () { w with heap := w.heap.setIfInBounds m o } := fun o => by simp [setObj, Sem.run, hm]
  simp [Instr.mapUpdate, run_underlying Tryz.underlying129, hg, hc', h1, hs]
end Go.Proofs.YtmkncmmegjfipaaGreatDoor

/- Layer 13: a pool in memory; what turns the pool alone. -/
namespace Go.Proofs.YtmkncmmegjfipaaGreatDoor
open Go Go.RowKit

/-- Turned at most where S is, and grown. -/
structure Ftp (S : Nat → Prop) (w w' : World) : Prop where
  os : w'.os = w.os
  tape : w'.tape = w.tape
  output : w'.output = w.output
  size : w.heap.size ≤ w'.heap.size
  block : ∀ k, k < w.heap.size → ¬ S k → w'.heap[k]? = w.heap[k]?
theorem Ftp.refl (S : Nat → Prop) (w : World) : Ftp S w w := ⟨rfl, rfl, rfl, Nat.le_refl _, fun _ _ _ => rfl⟩
theorem Ftp.next {S S' : Nat → Prop} {a b c : World} (h : Ftp S a b) (k : Ftp S' b c) (hs : ∀ x, x < a.heap.size → S' x → S x) : Ftp S a c :=
  ⟨k.os.trans h.os, k.tape.trans h.tape, k.output.trans h.output, Nat.le_trans h.size k.size, fun i hi hn => (k.block i (Nat.lt_of_lt_of_le hi h.size) (fun x => hn (hs i hi x))).trans (h.block i hi hn)⟩
theorem Ftp.of_below {S : Nat → Prop} {w w' : World} (h : Below w.heap.size w w') : Ftp S w w' := ⟨h.os, h.tape, h.output, h.size, fun k hk _ => h.block k hk⟩
theorem Ftp.below {S : Nat → Prop} {B : Nat} {a w w' : World} (h : Ftp S w w') (hb : Below B a w) (hB : B ≤ a.heap.size) (hs : ∀ x, S x → B ≤ x) : Below B a w' :=
  ⟨h.os.trans hb.os, h.tape.trans hb.tape, h.output.trans hb.output, Nat.le_trans hb.size h.size, fun k hk => (h.block k (Nat.lt_of_lt_of_le hk (Nat.le_trans hB hb.size)) (fun x => absurd (hs k x) (by omega))).trans (hb.block k hk)⟩
theorem Ftp.blk {S : Nat → Prop} {w w' : World} {B : Nat} {c : List Value} {t : TypeId} (h : Ftp S w w') (hb : Blk w B c t) (hn : ¬ S B) : Blk w' B c t := by unfold Blk; rw [h.block B hb.lt hn]; exact hb
theorem ftp_wrote {S : Nat → Prop} {w w' : World} {B : Nat} {c : List Value} {t : TypeId} (W : WroteB w w' B c t) (hS : S B) : Ftp S w w' := by
  have h := W.below (B0 := 0) (a := w) (Nat.zero_le _) (Below.refl _ _)
  exact ⟨h.os, h.tape, h.output, h.size, fun k _ hn => W.other k (fun e => hn (e ▸ hS))⟩

def flatL (R : List Ty) : List Value := R.flatMap Ty.vs
theorem flatL_len (R : List Ty) : (flatL R).length = R.length * 5 := by
  induction R with
  | nil => rfl
  | cons t R ih => unfold flatL at *; rw [List.flatMap_cons, List.length_append, ih, List.length_cons]; show 5 + _ = _; omega
theorem flatL_snoc (R : List Ty) (t : Ty) : flatL (R ++ [t]) = flatL R ++ t.vs := by unfold flatL; rw [List.flatMap_append]; simp
/-- A pool in block p: over the old memory w0, its lattice, its map in block m, its types in v. -/
structure Pw (w0 : World) (n : Strs) (g : Grid) (p m : Nat) (v : Value) (es : Array MapEntry) (c : Nat) (Q : List (List Int)) (R : List Ty) (w : World) : Prop where
  bl : Below w0.heap.size w0 w
  blk : Blk w p [.slice n.ao n.len n.cap, .slice g.ao g.len g.cap, v, .map (some m)] 131
  mp : w.heap[m]? = some (.map es c)
  ks : NKeys es Q
  good : Good n.len R Q
  own : w.ownsRow w0.heap.size 53 5 v R.length (flatL R)
  at_ : ∀ t ∈ R, t.At w0
  lp : w0.heap.size ≤ p
  lm : w0.heap.size ≤ m
/-- Its blocks. -/
def PS (p m : Nat) (v : Value) : Nat → Prop := fun b => b = p ∨ b = m ∨ v.ownBlock = some b
theorem Pw.ge {w0 w : World} {n : Strs} {g : Grid} {p m : Nat} {v : Value} {es : Array MapEntry} {c : Nat} {Q : List (List Int)} {R : List Ty} (h : Pw w0 n g p m v es c Q R w) {x : Nat} (hx : PS p m v x) : w0.heap.size ≤ x ∧ x < w.heap.size := by
  rcases hx with rfl | rfl | hx
  · exact ⟨h.lp, h.blk.lt⟩
  · exact ⟨h.lm, (Array.getElem?_eq_some_iff.1 h.mp).1⟩
  · exact owb h.own hx
theorem Pw.npm {w0 w : World} {n : Strs} {g : Grid} {p m : Nat} {v : Value} {es : Array MapEntry} {c : Nat} {Q : List (List Int)} {R : List Ty} (h : Pw w0 n g p m v es c Q R w) : p ≠ m := by
  intro e
  have h1 := h.blk
  have h2 := h.mp
  unfold Blk at h1
  rw [e, h2] at h1
  cases h1
theorem own_blk {w : World} {base : Nat} {e : TypeId} {size : Nat} {v : Value} {k : Nat} {xs : List Value} (h : w.ownsRow base e size v k xs) {b : Nat} (hb : v.ownBlock = some b) : ∃ cur, w.heap[b]? = some (.cells cur e (0, 0)) := by
  obtain ⟨_, ⟨rfl, _⟩ | ⟨gg, cap, cur, rfl, _, hh, _⟩⟩ := h
  · cases hb
  · have : gg = b := by simpa [Value.ownBlock] using hb
    subst this
    exact ⟨cur, hh⟩
theorem Pw.nvp {w0 w : World} {n : Strs} {g : Grid} {p m : Nat} {v : Value} {es : Array MapEntry} {c : Nat} {Q : List (List Int)} {R : List Ty} (h : Pw w0 n g p m v es c Q R w) : v.ownBlock ≠ some p := by
  intro e
  obtain ⟨cur, h1⟩ := own_blk h.own e
  have h2 := h.blk
  unfold Blk at h2
  rw [h1] at h2
  injection h2 with h2
  injection h2 with _ h2
  exact absurd h2 (by decide)
theorem Pw.nvm {w0 w : World} {n : Strs} {g : Grid} {p m : Nat} {v : Value} {es : Array MapEntry} {c : Nat} {Q : List (List Int)} {R : List Ty} (h : Pw w0 n g p m v es c Q R w) : v.ownBlock ≠ some m := by
  intro e
  obtain ⟨cur, h1⟩ := own_blk h.own e
  rw [h.mp] at h1
  cases h1
theorem own_same {w w' : World} {base : Nat} {e : TypeId} {size : Nat} {v : Value} {k : Nat} {xs : List Value} (h : w.ownsRow base e size v k xs) (ag : ∀ b, v.ownBlock = some b → w'.heap[b]? = w.heap[b]?) : w'.ownsRow base e size v k xs := by
  obtain ⟨h1, h2⟩ := h
  refine ⟨h1, ?_⟩
  rcases h2 with h2 | ⟨gg, cap, cur, hv, hg, hh, r⟩
  · exact Or.inl h2
  · exact Or.inr ⟨gg, cap, cur, hv, hg, (ag gg (by rw [hv]; rfl)).trans hh, r⟩
theorem Pw.agree {w0 w w' : World} {n : Strs} {g : Grid} {p m : Nat} {v : Value} {es : Array MapEntry} {c : Nat} {Q : List (List Int)} {R : List Ty} (h : Pw w0 n g p m v es c Q R w) (hb : Below w0.heap.size w0 w') (ag : ∀ x, PS p m v x → w'.heap[x]? = w.heap[x]?) : Pw w0 n g p m v es c Q R w' :=
  ⟨hb, by unfold Blk; rw [ag p (Or.inl rfl)]; exact h.blk, (ag m (Or.inr (Or.inl rfl))).trans h.mp, h.ks, h.good, own_same h.own (fun b hb => ag b (Or.inr (Or.inr hb))), h.at_, h.lp, h.lm⟩
theorem Pw.kept {w0 w w' : World} {n : Strs} {g : Grid} {p m : Nat} {v : Value} {es : Array MapEntry} {c : Nat} {Q : List (List Int)} {R : List Ty} (h : Pw w0 n g p m v es c Q R w) (hb : Below w.heap.size w w') : Pw w0 n g p m v es c Q R w' :=
  h.agree (Below.next h.bl hb) (fun x hx => hb.block x (h.ge hx).2)
/-- A pool in block p, its blocks S, its types R. -/
def Pl (w0 : World) (n : Strs) (g : Grid) (p : Nat) (S : Nat → Prop) (R : List Ty) (w : World) : Prop := ∃ m v es c Q, Pw w0 n g p m v es c Q R w ∧ S = PS p m v
theorem Pl.kept {w0 w w' : World} {n : Strs} {g : Grid} {p : Nat} {S : Nat → Prop} {R : List Ty} (h : Pl w0 n g p S R w) (hb : Below w.heap.size w w') : Pl w0 n g p S R w' := by
  obtain ⟨m, v, es, c, Q, h1, h2⟩ := h
  exact ⟨m, v, es, c, Q, h1.kept hb, h2⟩
theorem Pl.ge {w0 w : World} {n : Strs} {g : Grid} {p : Nat} {S : Nat → Prop} {R : List Ty} (h : Pl w0 n g p S R w) {x : Nat} (hx : S x) : w0.heap.size ≤ x ∧ x < w.heap.size := by
  obtain ⟨m, v, es, c, Q, h1, rfl⟩ := h
  exact h1.ge hx
theorem Pl.bl {w0 w : World} {n : Strs} {g : Grid} {p : Nat} {S : Nat → Prop} {R : List Ty} (h : Pl w0 n g p S R w) : Below w0.heap.size w0 w := by
  obtain ⟨m, v, es, c, Q, h1, rfl⟩ := h
  exact h1.bl
theorem Pl.agree {w0 w w' : World} {n : Strs} {g : Grid} {p : Nat} {S : Nat → Prop} {R : List Ty} (h : Pl w0 n g p S R w) (hb : Below w0.heap.size w0 w') (ag : ∀ x, S x → w'.heap[x]? = w.heap[x]?) : Pl w0 n g p S R w' := by
  obtain ⟨m, v, es, c, Q, h1, rfl⟩ := h
  exact ⟨m, v, es, c, Q, h1.agree hb ag, rfl⟩
/-- The pool behind a call: its types R', its blocks S', and all else as it was. -/
structure Pg (w0 : World) (n : Strs) (g : Grid) (p : Nat) (S : Nat → Prop) (w : World) (S' : Nat → Prop) (R' : List Ty) (w' : World) : Prop where
  pl : Pl w0 n g p S' R' w'
  ft : Ftp S w w'
  ss : ∀ x, x < w.heap.size → S' x → S x
theorem Pg.of {w0 w w' : World} {n : Strs} {g : Grid} {p : Nat} {S : Nat → Prop} {R : List Ty} (h : Pl w0 n g p S R w) (hb : Below w.heap.size w w') : Pg w0 n g p S w S R w' := ⟨h.kept hb, Ftp.of_below hb, fun _ _ h => h⟩
theorem Pg.ahead {w0 w w1 w2 : World} {n : Strs} {g : Grid} {p : Nat} {S S' : Nat → Prop} {R' : List Ty} (hb : Below w.heap.size w w1) (h : Pg w0 n g p S w1 S' R' w2) : Pg w0 n g p S w S' R' w2 :=
  ⟨h.pl, (Ftp.of_below (S := S) hb).next h.ft (fun _ _ x => x), fun x hx => h.ss x (Nat.lt_of_lt_of_le hx hb.size)⟩
theorem Pg.trans {w0 w w1 w2 : World} {n : Strs} {g : Grid} {p : Nat} {S S1 S2 : Nat → Prop} {R1 R2 : List Ty} (h : Pg w0 n g p S w S1 R1 w1) (k : Pg w0 n g p S1 w1 S2 R2 w2) : Pg w0 n g p S w S2 R2 w2 :=
  ⟨k.pl, h.ft.next k.ft h.ss, fun x hx h2 => h.ss x hx (k.ss x (Nat.lt_of_lt_of_le hx h.ft.size) h2)⟩
theorem Pg.kept {w0 w w1 w2 : World} {n : Strs} {g : Grid} {p : Nat} {S S' : Nat → Prop} {R' : List Ty} (h : Pg w0 n g p S w S' R' w1) (hb : Below w1.heap.size w1 w2) : Pg w0 n g p S w S' R' w2 := h.trans (Pg.of h.pl hb)
/-- A block of the call's own written. -/
theorem Pg.wrote {w0 w w1 w2 : World} {n : Strs} {g : Grid} {p : Nat} {S S' : Nat → Prop} {R' : List Ty} {B : Nat} {c : List Value} {t : TypeId} (h : Pg w0 n g p S w S' R' w1) (W : WroteB w1 w2 B c t) (hn : ¬ S' B) (hB : w.heap.size ≤ B) (h0 : w0.heap.size ≤ w.heap.size) : Pg w0 n g p S w S' R' w2 :=
  ⟨h.pl.agree (W.below (Nat.le_trans h0 hB) h.pl.bl) (fun x hx => W.other x (fun e => hn (e ▸ hx))), h.ft.next (ftp_wrote (S := fun b => b = B) W rfl) (fun x hx e => absurd hx (by rw [e]; omega)), h.ss⟩
/-- A block of the caller's stays. -/
theorem Pg.blk {w0 w w1 : World} {n : Strs} {g : Grid} {p : Nat} {S S' : Nat → Prop} {R' : List Ty} (h : Pg w0 n g p S w S' R' w1) {B : Nat} {c : List Value} {t : TypeId} (hb : Blk w B c t) (hn : ¬ S B) : Blk w1 B c t ∧ ¬ S' B :=
  ⟨h.ft.blk hb hn, fun x => hn (h.ss B hb.lt x)⟩
end Go.Proofs.YtmkncmmegjfipaaGreatDoor
