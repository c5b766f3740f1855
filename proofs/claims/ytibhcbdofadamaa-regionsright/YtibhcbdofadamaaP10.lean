/- Layer 13: a class's pool as data: types, each once, each behind its Parts, and their nodes. -/
import Derived.Test.YtibhcbdofadamaaP9
import Derived.Test.YtibhcbdofadamaaP6
import Derived.Test.YtibhcbdofadamaaP4
import Derived.LaidEql
import Derived.Carry
import Derived.Test.YtibhcbdofadamaaP8
import Derived.Deep.QuietTactic
namespace Go.Proofs.Ytibhcbdofadamaa
open Go.RowKit

/-- Where a node stands. -/
def fnd (Q : List (List Int)) (n : List Int) : Int := if n ∈ Q then (Q.idxOf n : Int) else -1
theorem fnd_get {Q : List (List Int)} {n : List Int} (h : fnd Q n ≠ -1) : ∃ i : Nat, fnd Q n = i ∧ Q[i]? = some n := by
  unfold fnd at h ⊢
  by_cases hn : n ∈ Q
  · rw [if_pos hn]
    refine ⟨Q.idxOf n, rfl, ?_⟩
    have hl := List.idxOf_lt_length_of_mem hn
    rw [List.getElem?_eq_getElem hl, List.getElem_idxOf hl]
  · rw [if_neg hn] at h
    exact absurd rfl h
theorem fnd_of {Q : List (List Int)} {n : List Int} {i : Nat} (hQ : ∀ (i j : Nat) (n : List Int), Q[i]? = some n → Q[j]? = some n → i = j) (h : Q[i]? = some n) : fnd Q n = i := by
  have hn : n ∈ Q := List.mem_of_getElem? h
  have hl := List.idxOf_lt_length_of_mem hn
  unfold fnd
  rw [if_pos hn]
  have := hQ (Q.idxOf n) i n (by rw [List.getElem?_eq_getElem hl, List.getElem_idxOf hl]) h
  rw [this]
theorem fnd_no {Q : List (List Int)} {n : List Int} (h : fnd Q n = -1) : n ∉ Q := by
  intro hn
  unfold fnd at h
  rw [if_pos hn] at h
  omega
theorem fnd_ge (Q : List (List Int)) (n : List Int) : -1 ≤ fnd Q n := by
  unfold fnd; split <;> omega

/-- Where a type stands, that is so deep. -/
def plc (Q : List (List Int)) : Ty → Nat → Int
  | .dm, _ => -1
  | .mk k l h e _ _ _ len _ ps, d =>
    if 6 < d ∨ 2 < len then -1 else if 0 < len ∧ plc Q (ps 0) (d + 1) = -1 then -1 else if 1 < len ∧ plc Q (ps 1) (d + 1) = -1 then -1
    else fnd Q [k, l, h, e, if 0 < len then plc Q (ps 0) (d + 1) else -1, if 1 < len then plc Q (ps 1) (d + 1) else -1]

/-- A Part's place. -/
def Prt (R : List Ty) (i : Nat) (t : Ty) (j : Nat) (p : Int) : Prop :=
  (j < t.len → ∃ (a : Nat) (s : Ty), p = a ∧ a < i ∧ R[a]? = some s ∧ s.same (t.ps j) = true) ∧ (¬ j < t.len → p = -1)
/-- Types, each once, formed, behind their Parts; and their nodes. -/
structure Good (N : Nat) (R : List Ty) (Q : List (List Int)) : Prop where
  len : Q.length = R.length
  ok : ∀ t ∈ R, t.ok N = true
  ent : ∀ (i : Nat) (t : Ty), R[i]? = some t → ∃ p q, Q[i]? = some [t.k, t.l, t.h, t.e, p, q] ∧ Prt R i t 0 p ∧ Prt R i t 1 q
  dis : ∀ (i j : Nat) (s t : Ty), R[i]? = some s → R[j]? = some t → s.same t = true → i = j
theorem Good.nil (N : Nat) : Good N [] [] := ⟨rfl, by simp, by simp, by simp⟩

theorem fm_len {N : Nat} : ∀ {t : Ty} {d : Nat}, t.fm N d = true → d ≤ 6 ∧ (t.len : Int) = arityI t.k ∧ t.len ≤ 2 ∧ ∀ i, i < t.len → (t.ps i).fm N (d + 1) = true
  | .dm, _, h => by simp [Ty.fm] at h
  | .mk k l hh e ao b o len cap ps, d, h => by
    rw [fm_eq] at h
    simp only [Bool.and_eq_true, decide_eq_true_eq, beq_iff_eq] at h
    obtain ⟨⟨⟨⟨h1, h2⟩, h3⟩, h4⟩, h5⟩ := h
    refine ⟨h1, h2, ?_, h5⟩
    show len ≤ 2
    unfold arityI at h2
    repeat' split at h2
    all_goals omega
theorem ok_fm {N : Nat} {t : Ty} (h : t.ok N = true) : t.fm N 1 = true ∧ t.nodes ≤ 40 := by
  unfold Ty.ok at h
  simpa using h
theorem fm_down {N : Nat} : ∀ {t : Ty} {d : Nat}, t.fm N (d + 1) = true → t.fm N d = true
  | .dm, _, h => by simp [Ty.fm] at h
  | .mk k l hh e ao b o len cap ps, d, h => by
    rw [fm_eq] at h ⊢
    simp only [Bool.and_eq_true, decide_eq_true_eq, beq_iff_eq] at h ⊢
    obtain ⟨⟨⟨⟨h1, h2⟩, h3⟩, h4⟩, h5⟩ := h
    exact ⟨⟨⟨⟨by omega, h2⟩, h3⟩, h4⟩, fun i hi => fm_down (h5 i hi)⟩
theorem ok_part {N : Nat} : ∀ {t : Ty}, t.ok N = true → ∀ i, i < t.len → (t.ps i).ok N = true
  | .dm, h, _, hi => absurd hi (Nat.not_lt_zero _)
  | .mk k l hh e ao b o len cap ps, h, i, hi => by
    obtain ⟨h1, h2⟩ := ok_fm h
    have h3 := (fm_len h1).2.2.2 i hi
    unfold Ty.ok
    rw [fm_down h3]
    have h4 := sumTo_le (fun i => (ps i).nodes) hi
    have h5 : (Ty.mk k l hh e ao b o len cap ps).nodes = 1 + sumTo (fun i => (ps i).nodes) len := rfl
    have h6 : (Ty.mk k l hh e ao b o len cap ps).ps i = ps i := rfl
    simp only [Bool.true_and, decide_eq_true_eq]
    rw [h6]
    have h7 : (Ty.mk k l hh e ao b o len cap ps).len = len := rfl
    rw [h7] at h4
    omega
theorem Good.at_ {N : Nat} {R : List Ty} {Q : List (List Int)} (G : Good N R Q) {i : Nat} {n : List Int} (h : Q[i]? = some n) : ∃ t, R[i]? = some t := by
  have hl := (List.getElem?_eq_some_iff.1 h).1
  rw [G.len] at hl
  exact ⟨R[i], List.getElem?_eq_getElem hl⟩
theorem same_of_parts {s t : Ty} (h1 : s.k = t.k) (h2 : s.l = t.l) (h3 : s.h = t.h) (h4 : s.e = t.e) (h5 : s.len = t.len) (h6 : ∀ i, i < s.len → (s.ps i).same (t.ps i) = true) : s.same t = true := (same_iff s t).2 ⟨⟨h1, h2, h3, h4, h5⟩, h6⟩
theorem Good.uniq {N : Nat} {R : List Ty} {Q : List (List Int)} (G : Good N R Q) (i j : Nat) (n : List Int) (hi : Q[i]? = some n) (hj : Q[j]? = some n) : i = j := by
  obtain ⟨s, hs⟩ := G.at_ hi
  obtain ⟨t, ht⟩ := G.at_ hj
  obtain ⟨p, q, h1, h2, h3⟩ := G.ent i s hs
  obtain ⟨p', q', k1, k2, k3⟩ := G.ent j t ht
  rw [hi] at h1
  rw [hj] at k1
  have e := h1.symm.trans k1
  simp only [Option.some.injEq, List.cons.injEq, and_true] at e
  obtain ⟨e1, e2, e3, e4, e5, e6⟩ := e
  subst e5 e6
  have ks := fm_len (ok_fm (G.ok s (List.mem_of_getElem? hs))).1
  have kt := fm_len (ok_fm (G.ok t (List.mem_of_getElem? ht))).1
  have el : s.len = t.len := by
    have a := ks.2.1
    have b := kt.2.1
    rw [e1] at a
    omega
  refine G.dis i j s t hs ht (same_of_parts e1 e2 e3 e4 el fun m hm => ?_)
  have hm2 : m = 0 ∨ m = 1 := by have := ks.2.2.1; omega
  rcases hm2 with rfl | rfl
  · obtain ⟨a, u, ha, _, hu, hus⟩ := h2.1 hm
    obtain ⟨a', u', ha', _, hu', hus'⟩ := k2.1 (el ▸ hm)
    have : a = a' := by omega
    subst this
    rw [hu] at hu'
    cases hu'
    exact same_trans _ _ _ (same_symm _ _ hus) hus'
  · obtain ⟨a, u, ha, _, hu, hus⟩ := h3.1 hm
    obtain ⟨a', u', ha', _, hu', hus'⟩ := k3.1 (el ▸ hm)
    have : a = a' := by omega
    subst this
    rw [hu] at hu'
    cases hu'
    exact same_trans _ _ _ (same_symm _ _ hus) hus'
/-- A node that was found is that type's. -/
theorem Good.found {N : Nat} {R : List Ty} {Q : List (List Int)} (G : Good N R Q) {t : Ty} {p q : Int} {i m m' : Nat} (hl : t.len ≤ 2) (hp : Prt R m t 0 p) (hq : Prt R m' t 1 q) (h : Q[i]? = some [t.k, t.l, t.h, t.e, p, q]) : ∃ s, R[i]? = some s ∧ s.same t = true := by
  obtain ⟨s, hs⟩ := G.at_ h
  obtain ⟨p', q', h1, h2, h3⟩ := G.ent i s hs
  have e := h1.symm.trans h
  simp only [Option.some.injEq, List.cons.injEq, and_true] at e
  obtain ⟨e1, e2, e3, e4, e5, e6⟩ := e
  subst e5 e6
  have ks := fm_len (ok_fm (G.ok s (List.mem_of_getElem? hs))).1
  have el : s.len = t.len := by
    have a0 : 0 < s.len ↔ 0 < t.len := by
      constructor
      · intro h0
        obtain ⟨a, _, ha, _⟩ := h2.1 h0
        apply Classical.byContradiction
        intro hn
        have := hp.2 hn
        omega
      · intro h0
        obtain ⟨a, _, ha, _⟩ := hp.1 h0
        apply Classical.byContradiction
        intro hn
        have := h2.2 hn
        omega
    have a1 : 1 < s.len ↔ 1 < t.len := by
      constructor
      · intro h0
        obtain ⟨a, _, ha, _⟩ := h3.1 h0
        apply Classical.byContradiction
        intro hn
        have := hq.2 hn
        omega
      · intro h0
        obtain ⟨a, _, ha, _⟩ := hq.1 h0
        apply Classical.byContradiction
        intro hn
        have := h3.2 hn
        omega
    have := ks.2.2.1
    omega
  refine ⟨s, hs, same_of_parts e1 e2 e3 e4 el fun m hm => ?_⟩
  have hm2 : m = 0 ∨ m = 1 := by have := ks.2.2.1; omega
  rcases hm2 with rfl | rfl
  · obtain ⟨a, u, ha, _, hu, hus⟩ := h2.1 hm
    obtain ⟨a', u', ha', _, hu', hus'⟩ := hp.1 (el ▸ hm)
    have : a = a' := by omega
    subst this
    rw [hu] at hu'
    cases hu'
    exact same_trans _ _ _ (same_symm _ _ hus) hus'
  · obtain ⟨a, u, ha, _, hu, hus⟩ := h3.1 hm
    obtain ⟨a', u', ha', _, hu', hus'⟩ := hq.1 (el ▸ hm)
    have : a = a' := by omega
    subst this
    rw [hu] at hu'
    cases hu'
    exact same_trans _ _ _ (same_symm _ _ hus) hus'
theorem plc_sound {N : Nat} {R : List Ty} {Q : List (List Int)} (G : Good N R Q) : ∀ (t : Ty) (d : Nat), plc Q t d ≠ -1 → ∃ (i : Nat) (s : Ty), plc Q t d = i ∧ R[i]? = some s ∧ s.same t = true
  | .dm, _, h => absurd rfl h
  | .mk k l hh e ao b o len cap ps, d, h => by
    rw [plc] at h ⊢
    by_cases c1 : 6 < d ∨ 2 < len
    · rw [if_pos c1] at h; exact absurd rfl h
    rw [if_neg c1] at h ⊢
    by_cases c2 : 0 < len ∧ plc Q (ps 0) (d + 1) = -1
    · rw [if_pos c2] at h; exact absurd rfl h
    rw [if_neg c2] at h ⊢
    by_cases c3 : 1 < len ∧ plc Q (ps 1) (d + 1) = -1
    · rw [if_pos c3] at h; exact absurd rfl h
    rw [if_neg c3] at h ⊢
    obtain ⟨i, hi, hq⟩ := fnd_get h
    have P0 : Prt R R.length (.mk k l hh e ao b o len cap ps) 0 (if 0 < len then plc Q (ps 0) (d + 1) else -1) := by
      constructor
      · intro h0
        have h0 : 0 < len := h0
        rw [if_pos h0]
        obtain ⟨a, s, h1, h2, h3⟩ := plc_sound G (ps 0) (d + 1) (fun z => c2 ⟨h0, z⟩)
        exact ⟨a, s, h1, (List.getElem?_eq_some_iff.1 h2).1, h2, h3⟩
      · intro h0
        have h0 : ¬ 0 < len := h0
        rw [if_neg h0]
    have P1 : Prt R R.length (.mk k l hh e ao b o len cap ps) 1 (if 1 < len then plc Q (ps 1) (d + 1) else -1) := by
      constructor
      · intro h0
        have h0 : 1 < len := h0
        rw [if_pos h0]
        obtain ⟨a, s, h1, h2, h3⟩ := plc_sound G (ps 1) (d + 1) (fun z => c3 ⟨h0, z⟩)
        exact ⟨a, s, h1, (List.getElem?_eq_some_iff.1 h2).1, h2, h3⟩
      · intro h0
        have h0 : ¬ 1 < len := h0
        rw [if_neg h0]
    obtain ⟨s, hs, hss⟩ := G.found (t := .mk k l hh e ao b o len cap ps) (show len ≤ 2 by omega) P0 P1 hq
    exact ⟨i, s, hi, hs, hss⟩
theorem plc_of {N : Nat} {R : List Ty} {Q : List (List Int)} (G : Good N R Q) : ∀ (t : Ty) (d : Nat), t.fm N d = true → ∀ (i : Nat) (s : Ty), R[i]? = some s → s.same t = true → plc Q t d = i
  | .dm, _, h, _, _, _, _ => by simp [Ty.fm] at h
  | .mk k l hh e ao b o len cap ps, d, h, i, s, hs, hss => by
    obtain ⟨h1, h2, h3, h4⟩ := fm_len h
    have h3 : len ≤ 2 := h3
    obtain ⟨⟨k1, k2, k3, k4, k5⟩, k6⟩ := (same_iff _ _).1 hss
    have k5 : s.len = len := k5
    obtain ⟨p, q, m1, m2, m3⟩ := G.ent i s hs
    rw [plc, if_neg (by omega)]
    have a0 : 0 < len → plc Q (ps 0) (d + 1) = p := fun z => by
      obtain ⟨a, u, z1, _, z3, z4⟩ := m2.1 (by omega)
      rw [z1]
      exact plc_of G (ps 0) (d + 1) (h4 0 z) a u z3 (same_trans _ _ _ z4 (k6 0 (by omega)))
    have a1 : 1 < len → plc Q (ps 1) (d + 1) = q := fun z => by
      obtain ⟨a, u, z1, _, z3, z4⟩ := m3.1 (by omega)
      rw [z1]
      exact plc_of G (ps 1) (d + 1) (h4 1 z) a u z3 (same_trans _ _ _ z4 (k6 1 (by omega)))
    have b0 : (if 0 < len then plc Q (ps 0) (d + 1) else -1) = p := by
      by_cases z : 0 < len
      · rw [if_pos z, a0 z]
      · rw [if_neg z, m2.2 (by omega)]
    have b1 : (if 1 < len then plc Q (ps 1) (d + 1) else -1) = q := by
      by_cases z : 1 < len
      · rw [if_pos z, a1 z]
      · rw [if_neg z, m3.2 (by omega)]
    rw [if_neg (fun z => by
      obtain ⟨a, u, z1, _⟩ := m2.1 (by omega)
      have := a0 z.1
      omega), if_neg (fun z => by
      obtain ⟨a, u, z1, _⟩ := m3.1 (by omega)
      have := a1 z.1
      omega), b0, b1]
    apply fnd_of G.uniq
    rw [m1]
    have k1 : s.k = k := k1
    have k2 : s.l = l := k2
    have k3 : s.h = hh := k3
    have k4 : s.e = e := k4
    rw [k1, k2, k3, k4]

/-- Is it there? -/
def has (R : List Ty) (t : Ty) : Bool := R.any fun s => s.same t
theorem has_iff {R : List Ty} {t : Ty} : has R t = true ↔ ∃ (i : Nat) (s : Ty), R[i]? = some s ∧ s.same t = true := by
  unfold has
  rw [List.any_eq_true]
  constructor
  · rintro ⟨s, h1, h2⟩
    obtain ⟨i, hi⟩ := List.mem_iff_getElem?.1 h1
    exact ⟨i, s, hi, h2⟩
  · rintro ⟨i, s, h1, h2⟩
    exact ⟨s, List.mem_of_getElem? h1, h2⟩
def itr (f : Nat → List Ty → List Ty) : Nat → List Ty → List Ty
  | 0, R => R
  | n + 1, R => f n (itr f n R)
/-- A type put behind others, its Parts first, where they aren't there. -/
def putT : Ty → List Ty → List Ty
  | .dm, R => R
  | .mk k l h e ao b o len cap ps, R => if has (itr (fun i => putT (ps i)) len R) (.mk k l h e ao b o len cap ps) then itr (fun i => putT (ps i)) len R else itr (fun i => putT (ps i)) len R ++ [.mk k l h e ao b o len cap ps]
theorem putT_eq (t : Ty) (R : List Ty) (hd : t ≠ .dm) : putT t R = if has (itr (fun i => putT (t.ps i)) t.len R) t then itr (fun i => putT (t.ps i)) t.len R else itr (fun i => putT (t.ps i)) t.len R ++ [t] := by
  cases t with
  | dm => exact absurd rfl hd
  | mk k l h e ao b o len cap ps => rfl
def takeT (R : List Ty) (t : Ty) : List Ty := if has R t then R else putT t R
theorem Prt.mono {R R' : List Ty} {i i' : Nat} {t : Ty} {j : Nat} {p : Int} (h : Prt R i t j p) (hi : i ≤ i') (hR : ∀ (a : Nat) (s : Ty), R[a]? = some s → R'[a]? = some s) : Prt R' i' t j p :=
  ⟨fun hj => by obtain ⟨a, s, h1, h2, h3, h4⟩ := h.1 hj; exact ⟨a, s, h1, by omega, hR _ _ h3, h4⟩, h.2⟩
theorem pre_get {R X : List Ty} {a : Nat} {s : Ty} (h : R[a]? = some s) : (R ++ X)[a]? = some s := by
  rw [List.getElem?_append_left (List.getElem?_eq_some_iff.1 h).1]; exact h
/-- One more. -/
theorem Good.push {N : Nat} {R : List Ty} {Q : List (List Int)} (G : Good N R Q) {t : Ty} {p q : Int} (ht : t.ok N = true) (hp : Prt R R.length t 0 p) (hq : Prt R R.length t 1 q) (h : fnd Q [t.k, t.l, t.h, t.e, p, q] = -1) :
    has R t = false ∧ Good N (R ++ [t]) (Q ++ [[t.k, t.l, t.h, t.e, p, q]]) := by
  have hno : ∀ (i : Nat) (s : Ty), R[i]? = some s → s.same t = true → False := fun i s hs hss => by
    obtain ⟨⟨k1, k2, k3, k4, k5⟩, k6⟩ := (same_iff _ _).1 hss
    obtain ⟨p', q', m1, m2, m3⟩ := G.ent i s hs
    have e0 : p' = p := by
      by_cases z : 0 < t.len
      · obtain ⟨a, u, z1, _, z3, z4⟩ := m2.1 (by omega)
        obtain ⟨a', u', y1, _, y3, y4⟩ := hp.1 z
        have := G.dis a a' u u' z3 y3 (same_trans _ _ _ z4 (same_trans _ _ _ (k6 0 (by omega)) (same_symm _ _ y4)))
        omega
      · rw [m2.2 (by omega), hp.2 z]
    have e1 : q' = q := by
      by_cases z : 1 < t.len
      · obtain ⟨a, u, z1, _, z3, z4⟩ := m3.1 (by omega)
        obtain ⟨a', u', y1, _, y3, y4⟩ := hq.1 z
        have := G.dis a a' u u' z3 y3 (same_trans _ _ _ z4 (same_trans _ _ _ (k6 1 (by omega)) (same_symm _ _ y4)))
        omega
      · rw [m3.2 (by omega), hq.2 z]
    rw [k1, k2, k3, k4, e0, e1] at m1
    exact fnd_no h (List.mem_of_getElem? m1)
  have hlast : ∀ (i : Nat) (s : Ty), (R ++ [t])[i]? = some s → R[i]? = some s ∨ (i = R.length ∧ s = t) := fun i s hs => by
    by_cases z : i < R.length
    · rw [List.getElem?_append_left z] at hs; exact Or.inl hs
    · rw [List.getElem?_append_right (by omega)] at hs
      have : i - R.length = 0 := by
        apply Classical.byContradiction
        intro y
        have : ([t] : List Ty)[i - R.length]? = none := by simp; omega
        rw [this] at hs
        cases hs
      rw [this] at hs
      simp at hs
      exact Or.inr ⟨by omega, hs.symm⟩
  refine ⟨?_, ⟨by simp [G.len], ?_, ?_, ?_⟩⟩
  · cases hh : has R t with
    | false => rfl
    | true =>
      obtain ⟨i, s, h1, h2⟩ := has_iff.1 hh
      exact (hno i s h1 h2).elim
  · intro s hs
    rcases List.mem_append.1 hs with h1 | h1
    · exact G.ok s h1
    · rw [List.mem_singleton.1 h1]; exact ht
  · intro i s hs
    rcases hlast i s hs with h1 | ⟨h1, h2⟩
    · obtain ⟨p', q', m1, m2, m3⟩ := G.ent i s h1
      refine ⟨p', q', ?_, m2.mono (Nat.le_refl _) (fun _ _ => pre_get), m3.mono (Nat.le_refl _) (fun _ _ => pre_get)⟩
      rw [List.getElem?_append_left (List.getElem?_eq_some_iff.1 m1).1]; exact m1
    · subst h1 h2
      refine ⟨p, q, ?_, hp.mono (Nat.le_refl _) (fun _ _ => pre_get), hq.mono (Nat.le_refl _) (fun _ _ => pre_get)⟩
      rw [← G.len]; simp
  · intro i j s u hs hu hsu
    rcases hlast i s hs with h1 | ⟨h1, h2⟩
    · rcases hlast j u hu with k1 | ⟨k1, k2⟩
      · exact G.dis i j s u h1 k1 hsu
      · subst k2; exact (hno i s h1 hsu).elim
    · rcases hlast j u hu with k1 | ⟨k1, k2⟩
      · subst h2; exact (hno j u k1 (same_symm _ _ hsu)).elim
      · omega
/-- Behind a type's Parts: it is there, or is put. -/
theorem Good.here {N : Nat} {R : List Ty} {Q : List (List Int)} (G : Good N R Q) {t : Ty} {p q : Int} {i : Nat} (hl : t.len ≤ 2) (hp : Prt R R.length t 0 p) (hq : Prt R R.length t 1 q) (h : fnd Q [t.k, t.l, t.h, t.e, p, q] = i) : has R t = true ∧ ∃ s, R[i]? = some s ∧ s.same t = true := by
  have hn : fnd Q [t.k, t.l, t.h, t.e, p, q] ≠ -1 := by omega
  obtain ⟨j, hj, hq'⟩ := fnd_get hn
  have : j = i := by omega
  subst this
  obtain ⟨s, hs, hss⟩ := G.found hl hp hq hq'
  exact ⟨has_iff.2 ⟨j, s, hs, hss⟩, s, hs, hss⟩
end Go.Proofs.Ytibhcbdofadamaa

/- Layer 13: the map of a pool: a key is six numbers, what is kept a number. -/
namespace Go.Proofs.Ytibhcbdofadamaa
open Go.RowKit

def nv (a b c d p q : Int) : Value := .agg #[.int .i64 a, .int .i64 b, .int .i64 c, .int .i64 d, .int .i64 p, .int .i64 q]
def nodeV : List Int → Value
  | [a, b, c, d, p, q] => nv a b c d p q
  | _ => .agg #[]
theorem six_of {n : List Int} (h : n.length = 6) : ∃ a b c d p q, n = [a, b, c, d, p, q] := by
  match n, h with
  | [a, b, c, d, p, q], _ => exact ⟨a, b, c, d, p, q, rfl⟩
theorem Try.intSz : (Try.prog.info? 3).map (·.size) = some 1 := by kernel_rfl
theorem run_sizeOf (w : World) {t : TypeId} {n : Nat} (h : (Try.prog.info? t).map (·.size) = some n) : (sizeOf t).run Try.prog w = .ok n w := by
  cases hq : Try.prog.info? t with
  | none => rw [hq] at h; simp at h
  | some i =>
    rw [hq] at h
    have h : i.size = n := by simpa using h
    simp [sizeOf, typeInfo, hq, h]
theorem run_eqi (w : World) (d : Nat) (m n : Int) : (Op.equalIn (d + 1) 3 (.int .i64 m) (.int .i64 n)).run Try.prog w = .ok (decide (m = n)) w := by
  simp [Op.equalIn, run_underlying Try.underlying3]
  by_cases h : m = n
  · simp [h]
  · simp [h]
theorem run_parti (w : World) (xs : Array Value) (i : Nat) (v : Value) (h : xs[i]? = some v) : (part 3 xs i).run Try.prog w = .ok v w := by
  simp [part, isAgg, run_underlying Try.underlying3, h]
/-- The map has these nodes, each with its place. -/
structure NKeys (es : Array MapEntry) (Q : List (List Int)) : Prop where
  keys : es.toList.map (·.key) = Q.map nodeV
  vals : ∀ (i : Nat) (e : MapEntry), es.toList[i]? = some e → e.val = .int .i64 i
  six : ∀ n ∈ Q, n.length = 6
theorem NKeys.nil : NKeys #[] [] := ⟨rfl, by simp, by simp⟩
theorem NKeys.push {es : Array MapEntry} {Q : List (List Int)} (h : NKeys es Q) {n : List Int} (hn : n.length = 6) (c : Nat) : NKeys (es.push { key := nodeV n, val := .int .i64 (Q.length : Int), born := c }) (Q ++ [n]) := by
  have hl : es.toList.length = Q.length := by have := congrArg List.length h.keys; simpa using this
  refine ⟨?_, ?_, ?_⟩
  · rw [Array.toList_push, List.map_append, h.keys, List.map_append]; rfl
  · intro i e he
    rw [Array.toList_push] at he
    by_cases z : i < es.toList.length
    · rw [List.getElem?_append_left z] at he
      exact h.vals i e he
    · rw [List.getElem?_append_right (by omega)] at he
      have hz : i - es.toList.length = 0 := by
        apply Classical.byContradiction
        intro y
        rw [List.getElem?_eq_none (by show 1 ≤ _; omega)] at he
        cases he
      rw [hz] at he
      simp at he
      rw [← he]
      have : i = Q.length := by omega
      rw [this]
  · intro m hm
    rcases List.mem_append.1 hm with h1 | h1
    · exact h.six m h1
    · rw [List.mem_singleton.1 h1]; exact hn
end Go.Proofs.Ytibhcbdofadamaa

/- Layer 13: a pool in memory; what turns the pool alone. -/
namespace Go.Proofs.Ytibhcbdofadamaa
open Go Go.RowKit

/-- Turned at most where S is, and grown. -/
structure Ftp (S : Nat → Prop) (w w' : World) : Prop where
  os : w'.os = w.os
  tape : w'.tape = w.tape
  output : w'.output = w.output
  size : w.heap.size ≤ w'.heap.size
  block : ∀ k, k < w.heap.size → ¬ S k → w'.heap[k]? = w.heap[k]?
theorem Ftp.refl (S : Nat → Prop) (w : World) : Ftp S w w := ⟨rfl, rfl, rfl, Nat.le_refl _, fun _ _ _ => rfl⟩
theorem Ftp.next {S S' : Nat → Prop} {a b c : World} (h : Ftp S a b) (k : Ftp S' b c) (hs : ∀ x, x < a.heap.size → S' x → S x) : Ftp S a c :=
  ⟨k.os.trans h.os, k.tape.trans h.tape, k.output.trans h.output, Nat.le_trans h.size k.size, fun i hi hn => (k.block i (Nat.lt_of_lt_of_le hi h.size) (fun x => hn (hs i hi x))).trans (h.block i hi hn)⟩
theorem Ftp.of_below {S : Nat → Prop} {w w' : World} (h : Below w.heap.size w w') : Ftp S w w' := ⟨h.os, h.tape, h.output, h.size, fun k hk _ => h.block k hk⟩
theorem Ftp.below {S : Nat → Prop} {B : Nat} {a w w' : World} (h : Ftp S w w') (hb : Below B a w) (hB : B ≤ a.heap.size) (hs : ∀ x, S x → B ≤ x) : Below B a w' :=
  ⟨h.os.trans hb.os, h.tape.trans hb.tape, h.output.trans hb.output, Nat.le_trans hb.size h.size, fun k hk => (h.block k (Nat.lt_of_lt_of_le hk (Nat.le_trans hB hb.size)) (fun x => absurd (hs k x) (by omega))).trans (hb.block k hk)⟩
theorem Ftp.blk {S : Nat → Prop} {w w' : World} {B : Nat} {c : List Value} {t : TypeId} (h : Ftp S w w') (hb : Blk w B c t) (hn : ¬ S B) : Blk w' B c t := by unfold Blk; rw [h.block B hb.lt hn]; exact hb
theorem ftp_wrote {S : Nat → Prop} {w w' : World} {B : Nat} {c : List Value} {t : TypeId} (W : WroteB w w' B c t) (hS : S B) : Ftp S w w' := by
  have h := W.below (B0 := 0) (a := w) (Nat.zero_le _) (Below.refl _ _)
  exact ⟨h.os, h.tape, h.output, h.size, fun k _ hn => W.other k (fun e => hn (e ▸ hS))⟩

def flatL (R : List Ty) : List Value := R.flatMap Ty.vs
theorem flatL_len (R : List Ty) : (flatL R).length = R.length * 5 := by
  induction R with
  | nil => rfl
  | cons t R ih => unfold flatL at *; rw [List.flatMap_cons, List.length_append, ih, List.length_cons]; show 5 + _ = _; omega
theorem flatL_snoc (R : List Ty) (t : Ty) : flatL (R ++ [t]) = flatL R ++ t.vs := by unfold flatL; rw [List.flatMap_append]; simp
/-- Its blocks. -/
def PS (p m : Nat) (v : Value) : Nat → Prop := fun b => b = p ∨ b = m ∨ v.ownBlock = some b
theorem own_blk {w : World} {base : Nat} {e : TypeId} {size : Nat} {v : Value} {k : Nat} {xs : List Value} (h : w.ownsRow base e size v k xs) {b : Nat} (hb : v.ownBlock = some b) : ∃ cur, w.heap[b]? = some (.cells cur e (0, 0)) := by
  obtain ⟨_, ⟨rfl, _⟩ | ⟨gg, cap, cur, rfl, _, hh, _⟩⟩ := h
  · cases hb
  · have : gg = b := by simpa [Value.ownBlock] using hb
    subst this
    exact ⟨cur, hh⟩
theorem own_same {w w' : World} {base : Nat} {e : TypeId} {size : Nat} {v : Value} {k : Nat} {xs : List Value} (h : w.ownsRow base e size v k xs) (ag : ∀ b, v.ownBlock = some b → w'.heap[b]? = w.heap[b]?) : w'.ownsRow base e size v k xs := by
  obtain ⟨h1, h2⟩ := h
  refine ⟨h1, ?_⟩
  rcases h2 with h2 | ⟨gg, cap, cur, hv, hg, hh, r⟩
  · exact Or.inl h2
  · exact Or.inr ⟨gg, cap, cur, hv, hg, (ag gg (by rw [hv]; rfl)).trans hh, r⟩
end Go.Proofs.Ytibhcbdofadamaa

/- Layer 13: where a type stands in a pool: nodeOf, placeOf, place. -/
namespace Go.Proofs.Ytibhcbdofadamaa
open Go Go.RowKit

theorem wrote_cell {w : World} {B : Nat} {c : List Value} {t : TypeId} (h : Blk w B c t) {i : Nat} (v : Value) : WroteB w (w.setCell ⟨B, i, none⟩ v) B (c.set i v) t := by
  refine ⟨?_, fun b hb => Below.heap_setCell _ _ _ _ hb, by simp [World.setCell], fun hB hb => hb.setCell hB v⟩
  have e : (c.toArray.setIfInBounds i v) = (c.set i v).toArray := by simp
  unfold Blk at h ⊢
  rw [← e]
  simp [World.setCell, Array.getElem?_modify, h]
theorem results_row {T : TypeId} {d : TypeDesc} {fn : Func} {tmps : Array Value} {k B : Nat} {vs : List Value} {w : World} (hu : Try.prog.underlying T = some d) (hd : d.isRow = true) (hi : (Try.prog.info? T).map (·.size) = some vs.length) (hf : fn.results = #[.cell k T]) (ht : tmps.getD k undef = .pointer (some ⟨B, 0, none⟩)) (h : w.rangeAt B 0 vs) : (results fn tmps).run Try.prog w = .ok (.agg vs.toArray) w := by
  have h : (loadVar T ⟨B, 0, none⟩).run Try.prog w = .ok (.agg vs.toArray) w := run_loadAt_mid w B 0 T vs d h hu hd hi
  have ha : (asAddr (tmps[k]?.getD undef)).run Try.prog w = .ok ⟨B, 0, none⟩ w := by rw [show tmps[k]?.getD undef = .pointer (some ⟨B, 0, none⟩) by simpa using ht]; rfl
  unfold results
  rw [hf]
  simp [ha, h]
end Go.Proofs.Ytibhcbdofadamaa

/- Layer 13: class.all, over each kind of list. -/
namespace Go.Proofs.Ytibhcbdofadamaa
open Go Go.RowKit

/-- What all answers, and what holds behind it. -/
structure AllR (I : Nat → World → Prop) (J : World → Prop) (len : Nat) (ans : Nat → Bool) (e : Ending) (w' : World) : Prop where
  ret : e = .returned (.bool (decide (∀ i, i < len → ans i = true)))
  yes : (∀ i, i < len → ans i = true) → I len w'
  no : (∃ i, i < len ∧ ans i = false) → J w'

def z_ty : List Value := [.int .i64 0, .int .i64 0, .slice none 0 0, .int .i64 0, .int .i64 0]
theorem alloc_ty (w : World) : (Instr.alloc 24 true (.tuple #[])).run Try.prog w = .ok (.pointer (some ⟨w.heap.size, 0, none⟩)) (w.alloc (.cells z_ty.toArray 24)) := by
  have hz : (Try.prog.info? 24).map (·.zero) = some (some (.agg z_ty.toArray)) := by kernel_rfl
  cases hq : Try.prog.info? 24 with
  | none => rw [hq] at hz; simp at hz
  | some i =>
    rw [hq] at hz
    simp at hz
    simp [Instr.alloc, newVar, newRow, zeroValue, typeInfo, hq, hz, Value.cells, z_ty]

def z_ins : List Value := [.int .i64 0, .int .i64 0, .int .i64 0, .int .i64 0, .slice none 0 0, .int .i64 0, .int .i64 0]
theorem alloc_ins (w : World) : (Instr.alloc 50 true (.tuple #[])).run Try.prog w = .ok (.pointer (some ⟨w.heap.size, 0, none⟩)) (w.alloc (.cells z_ins.toArray 50)) := by
  have hz : (Try.prog.info? 50).map (·.zero) = some (some (.agg z_ins.toArray)) := by kernel_rfl
  cases hq : Try.prog.info? 50 with
  | none => rw [hq] at hz; simp at hz
  | some i =>
    rw [hq] at hz
    simp at hz
    simp [Instr.alloc, newVar, newRow, zeroValue, typeInfo, hq, hz, Value.cells, z_ins]

def z_fn : List Value := [.int .i64 0, .int .i64 0, .slice none 0 0, .int .i64 0, .int .i64 0, .int .i64 0, .int .i64 0, .slice none 0 0, .int .i64 0, .int .i64 0, .slice none 0 0, .int .i64 0, .int .i64 0, .int .i64 0, .slice none 0 0, .slice none 0 0, .slice none 0 0, .slice none 0 0]
theorem alloc_fn (w : World) : (Instr.alloc 30 true (.tuple #[])).run Try.prog w = .ok (.pointer (some ⟨w.heap.size, 0, none⟩)) (w.alloc (.cells z_fn.toArray 30)) := by
  have hz : (Try.prog.info? 30).map (·.zero) = some (some (.agg z_fn.toArray)) := by kernel_rfl
  cases hq : Try.prog.info? 30 with
  | none => rw [hq] at hz; simp at hz
  | some i =>
    rw [hq] at hz
    simp at hz
    simp [Instr.alloc, newVar, newRow, zeroValue, typeInfo, hq, hz, Value.cells, z_fn]

def z_hn : List Value := [.int .i64 0, .int .i64 0, .int .i64 0]
theorem alloc_hn (w : World) : (Instr.alloc 52 true (.tuple #[])).run Try.prog w = .ok (.pointer (some ⟨w.heap.size, 0, none⟩)) (w.alloc (.cells z_hn.toArray 52)) := by
  have hz : (Try.prog.info? 52).map (·.zero) = some (some (.agg z_hn.toArray)) := by kernel_rfl
  cases hq : Try.prog.info? 52 with
  | none => rw [hq] at hz; simp at hz
  | some i =>
    rw [hq] at hz
    simp at hz
    simp [Instr.alloc, newVar, newRow, zeroValue, typeInfo, hq, hz, Value.cells, z_hn]

def z_rn : List Value := [.int .i64 0, .int .i64 0, .slice none 0 0]
theorem alloc_rn (w : World) : (Instr.alloc 38 true (.tuple #[])).run Try.prog w = .ok (.pointer (some ⟨w.heap.size, 0, none⟩)) (w.alloc (.cells z_rn.toArray 38)) := by
  have hz : (Try.prog.info? 38).map (·.zero) = some (some (.agg z_rn.toArray)) := by kernel_rfl
  cases hq : Try.prog.info? 38 with
  | none => rw [hq] at hz; simp at hz
  | some i =>
    rw [hq] at hz
    simp at hz
    simp [Instr.alloc, newVar, newRow, zeroValue, typeInfo, hq, hz, Value.cells, z_rn]

end Go.Proofs.Ytibhcbdofadamaa

/- Layer 15: the leaves: what is a place, what goes on, what raises, the handler. -/
namespace Go.Proofs.Ytibhcbdofadamaa
open Go Go.RowKit

set_option maxHeartbeats 4000000 in
theorem fplace_any (f : Cf) (a : Int) (w : World) : Calls Try.prog 30 #[.agg f.vs.toArray, .int .i64 a] w fun e w' => e = .returned (.bool (f.pl a)) ∧ Below w.heap.size w w' := by
  have B0 := hyd (below_alloc w (.cells f.vs.toArray 30))
  have b := Blk.new w f.vs 30
  have c14 := b.cell 14 rfl
  have HF : Hid (f.pl a = (decide (0 ≤ a) && decide (a < f.cd.len))) := rfl
  generalize f.pl a = F at *
  generalize f.vs.toArray = V at *
  clear b
  by_cases h1 : 0 ≤ a
  · by_cases h2 : a < f.cd.len
    · have HG : Hid (F = true) := by show _ = _; rw [HF.out, decide_eq_true h1, decide_eq_true h2]; rfl
      go_enter Try.func30, Try.ntmps30
      go_wp2
      go_ret
      exact ⟨ret_bool HG.out.symm, B0.out⟩
    · have HG : Hid (F = false) := by show _ = _; rw [HF.out, decide_eq_true h1, decide_eq_false h2]; rfl
      go_enter Try.func30, Try.ntmps30
      go_wp2
      go_ret
      exact ⟨ret_bool HG.out.symm, B0.out⟩
  · have HG : Hid (F = false) := by show _ = _; rw [HF.out, decide_eq_false h1]; rfl
    go_enter Try.func30, Try.ntmps30
    go_wp2
    go_ret
    exact ⟨ret_bool HG.out.symm, B0.out⟩
set_option maxHeartbeats 4000000 in
theorem goesOn_any (op : Int) (w : World) : Calls Try.prog 43 #[.int .i64 op] w fun e w' => e = .returned (.bool (nxO op)) ∧ Below w.heap.size w w' := by
  have HF : Hid (nxO op = (((decide (op ≠ 0) && decide (op ≠ 24)) && decide (op ≠ 26)) && decide (op ≠ 27))) := rfl
  generalize nxO op = F at *
  by_cases h1 : op = 0
  · subst h1
    go_enter Try.func43, Try.ntmps43
    go_wp2
    go_ret
    exact ⟨ret_bool HF.out.symm, Below.refl _ _⟩
  by_cases h2 : op = 24
  · subst h2
    clear h1
    go_enter Try.func43, Try.ntmps43
    go_wp2
    go_ret
    exact ⟨ret_bool HF.out.symm, Below.refl _ _⟩
  by_cases h3 : op = 26
  · subst h3
    clear h1 h2
    go_enter Try.func43, Try.ntmps43
    go_wp2
    go_ret
    exact ⟨ret_bool HF.out.symm, Below.refl _ _⟩
  by_cases h4 : op = 27
  · subst h4
    clear h1 h2 h3
    go_enter Try.func43, Try.ntmps43
    go_wp2
    go_ret
    exact ⟨ret_bool HF.out.symm, Below.refl _ _⟩
  have HG : Hid (F = true) := by show _ = _; rw [HF.out, decide_eq_true h1, decide_eq_true h2, decide_eq_true h3, decide_eq_true h4]; rfl
  have e1 : (op != 0) = true := by simpa using h1
  have e2 : (op != 24) = true := by simpa using h2
  have e3 : (op != 26) = true := by simpa using h3
  have e4 : (op != 27) = true := by simpa using h4
  clear h1 h2 h3 h4
  go_enter Try.func43, Try.ntmps43
  go_wp2
  go_ret
  exact ⟨ret_bool HG.out.symm, Below.refl _ _⟩

theorem ret_num {a b : Int} (h : a = b) : Ending.returned (.int .i64 a) = .returned (.int .i64 b) := by rw [h]
/-- A function in its box, a call's own world behind it. -/
structure Fx (w0 : World) (f : Cf) (B : Nat) (w : World) : Prop where
  bl : Below w0.heap.size w0 w
  b : Blk w B f.vs 30
  f : f.At w
theorem Fx.kept {w0 : World} {f : Cf} {B : Nat} {w w' : World} (h : Fx w0 f B w) (hb : Below w.heap.size w w') : Fx w0 f B w' := ⟨Below.next h.bl hb, h.b.kept hb, Cf.At.kept hb h.f⟩
theorem Fx.new (w : World) (f : Cf) (hf : f.At w) : Fx w f w.heap.size (w.alloc (.cells f.vs.toArray 30)) :=
  ⟨below_alloc w _, Blk.new w f.vs 30, Cf.At.kept (below_alloc w _) hf⟩

set_option maxRecDepth 100000 in
set_option maxHeartbeats 8000000 in
theorem handler_any (f : Cf) (p : Nat) (w : World) (hf : f.At w) (hp : p < f.cd.len) : Calls Try.prog 34 #[.agg f.vs.toArray, .int .i64 p] w fun e w' => e = .returned (.int .i64 (f.han p)) ∧ Below w.heap.size w w' := by
  have H1 := hyd (Fx.new w f hf)
  have hpl : f.pl p = true := Cf.pl_iff.2 ⟨by omega, by omega⟩
  have HM := hyd (fun h => Cf.han_miss (f := f) (p := p) h)
  have HH := hyd (fun j h1 h2 h3 => Cf.han_hit (f := f) (p := p) (j := j) h1 h2 h3)
  have HHI : Hid (∀ i, f.hit p i = (decide ((f.hd.x i).fr ≤ p) && decide ((p : Int) < (f.hd.x i).to))) := fun _ => rfl
  have hbd := hf.hd.bound
  have HNIL := hyd hf.hd.nil
  clear hp hf
  generalize f.han p = R at *
  have h0 := fplace_any f p (w.alloc (.cells f.vs.toArray 30))
  rw [hpl] at h0
  have rF := H1.out.b.range
  generalize hw : w.alloc (.cells f.vs.toArray 30) = u1 at *
  go_enter Try.func34, Try.ntmps34
  go_wp2_with (refine wpList_load_mid rfl 30 (.tmp 2) rfl w.heap.size 0 (by kernel_rfl) f.vs _ rF Try.underlying30 rfl (by kernel_rfl) ?_)
  refine h0.mono ?_
  rintro _ u2 ⟨rfl, hb⟩
  have H2 := hyd (H1.out.kept hb)
  clear h0 hb H1 rF hpl hw
  have c15 := H2.out.b.cell 15 rfl
  by_cases hz : 0 < f.hd.len
  · rw [HNIL.out hz] at c15
    go_wp2
    go_loopw [14] (fun i wr => ∃ (j : Nat), j ≤ f.hd.len ∧ i = .int .i64 j ∧ Fx w f w.heap.size wr ∧ (∀ i, i < j → f.hit p i = false)) (fun i _ => f.hd.len - (intOf i).toNat)
    case atStart => exact ⟨0, Nat.zero_le _, rfl, H2.out, fun i hi => absurd hi (Nat.not_lt_zero _)⟩
    case round =>
      clear H2 c15
      obtain ⟨j, hj, rfl, hBl, hall⟩ := hrel
      have HB := hyd hBl
      have HL := hyd hall
      clear hBl hall
      by_cases hlt : j < f.hd.len
      · have ij : (j : Int) < f.hd.len := by omega
        have r0 := HB.out.f.hd.row j hlt
        have HH2 := hyd (HH.out j hlt)
        have HHJ := hyd (HHI.out j)
        generalize f.hd.x j = x at *
        go_upto_region 6 with (first | (refine wpList_load_mid rfl 52 (.tmp 16) rfl f.hd.b (f.hd.o + j * 3) (by kernel_rfl) x.vs _ r0 Try.underlying52 rfl (by kernel_rfl) ?_) | (refine wpList_new_mid rfl rfl 52 rfl (.tmp 6) (.tmp 17) rfl z_hn (alloc_hn _) rfl x.vs.toArray (by kernel_rfl) (by kernel_rfl) rfl (by kernel_rfl) (by simpa using x.vs_one) ?_))
        have B1 := below_alloc wr (.cells x.vs.toArray 52)
        have HU := hyd (show Fx w f w.heap.size (wr.alloc (.cells x.vs.toArray 52)) ∧ Blk _ wr.heap.size x.vs 52 from ⟨HB.out.kept B1, Blk.new wr _ _⟩)
        clear r0 HB B1
        generalize wr.alloc (.cells x.vs.toArray 52) = U at *
        generalize wr.heap.size = BX at *
        have d0 := HU.out.2.cell 0 rfl
        have d1 := HU.out.2.cell 1 rfl
        have d2 := HU.out.2.cell 2 rfl
        by_cases k1 : x.fr ≤ (p : Int)
        · by_cases k2 : (p : Int) < x.to
          · have HE : Hid (R = x.at_) := HH2.out (by rw [HHJ.out, decide_eq_true k1, decide_eq_true k2]; rfl) HL.out
            go_wp2
            go_ret
            exact ⟨ret_num HE.out.symm, HU.out.1.bl⟩
          · have HE : Hid (f.hit p j = false) := by show _ = _; rw [HHJ.out, decide_eq_true k1, decide_eq_false k2]; rfl
            go_wp2
            go_roundw
            case rel => exact ⟨j + 1, by omega, by go_num, HU.out.1, fun i hi => by
              by_cases e : i = j
              · rw [e]; exact HE.out
              · exact HL.out i (by omega)⟩
            case measure => simp [intOf]; omega
        · have HE : Hid (f.hit p j = false) := by show _ = _; rw [HHJ.out, decide_eq_false k1]; rfl
          go_wp2
          go_roundw
          case rel => exact ⟨j + 1, by omega, by go_num, HU.out.1, fun i hi => by
            by_cases e : i = j
            · rw [e]; exact HE.out
            · exact HL.out i (by omega)⟩
          case measure => simp [intOf]; omega
      · have e2 : ¬ (j : Int) < f.hd.len := by omega
        have HE : Hid (R = -1) := HM.out (fun i hi => HL.out i (by omega))
        go_wp2
        go_ret
        exact ⟨ret_num HE.out.symm, HB.out.bl⟩
  · have i0 : ¬ (0 : Int) < f.hd.len := by omega
    have HE : Hid (R = -1) := HM.out (fun i hi => by omega)
    clear hz
    go_wp2
    go_loopw [14] (fun i wr => i = .int .i64 0 ∧ Below w.heap.size w wr) (fun _ _ => 0)
    case atStart => exact ⟨rfl, H2.out.bl⟩
    case round =>
      obtain ⟨rfl, hb⟩ := hrel
      have HB := hyd hb
      clear hb
      go_wp2
      go_ret
      exact ⟨ret_num HE.out.symm, HB.out⟩
end Go.Proofs.Ytibhcbdofadamaa
