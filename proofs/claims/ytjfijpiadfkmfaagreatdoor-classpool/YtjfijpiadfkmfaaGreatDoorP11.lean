/- Layer 2: what follows of Raise. No program is walked here. -/
import Derived.Test.YtjfijpiadfkmfaaGreatDoorP10
import Derived.Test.YtjfijpiadfkmfaaGreatDoorP8
import Derived.LaidEql
import Derived.Carry
namespace Go.Proofs.YtjfijpiadfkmfaaGreatDoor

theorem same_symm : ∀ s t : Ty, s.same t = true → t.same s = true := by
  intro s
  induction s with
  | dm =>
    intro t h
    rw [same_iff] at h ⊢
    exact ⟨⟨h.1.1.symm, h.1.2.1.symm, h.1.2.2.1.symm, h.1.2.2.2.1.symm, h.1.2.2.2.2.symm⟩, fun i hi => absurd hi (by rw [← h.1.2.2.2.2]; exact Nat.not_lt_zero _)⟩
  | mk k l hh e ao b o len cap ps ih =>
    intro t h
    rw [same_iff] at h ⊢
    exact ⟨⟨h.1.1.symm, h.1.2.1.symm, h.1.2.2.1.symm, h.1.2.2.2.1.symm, h.1.2.2.2.2.symm⟩, fun i hi => ih i (t.ps i) (h.2 i (by rw [h.1.2.2.2.2]; exact hi))⟩

theorem sum_congr {f h : Nat → Nat} : ∀ k, (∀ i, i < k → f i = h i) → sumTo f k = sumTo h k
  | 0, _ => rfl
  | k + 1, e => by
    show sumTo f k + f k = sumTo h k + h k
    rw [sum_congr k (fun i hi => e i (by omega)), e k (by omega)]

/-- What lies alike is formed alike. -/
theorem same_fm {N : Nat} {w w' : World} : ∀ s t : Ty, s.At w → t.At w' → s.same t = true → (∀ d, s.fm N d = t.fm N d) ∧ s.nodes = t.nodes := by
  intro s
  induction s with
  | dm => intro t h; exact h.elim
  | mk k l hh e ao b o len cap ps ih =>
    intro t hs ht h
    rcases t with _ | ⟨tk, tl, th, te, tao, tb, to', tlen, tcap, tps⟩
    · exact ht.elim
    rw [same_iff] at h
    obtain ⟨⟨h1, h2, h3, h4, h5⟩, h6⟩ := h
    have h1' : k = tk := h1
    have h2' : l = tl := h2
    have h3' : hh = th := h3
    have h4' : e = te := h4
    have h5' : len = tlen := h5
    subst h1' h2' h3' h4' h5'
    have sub : ∀ i, i < len → (∀ d, (ps i).fm N d = (tps i).fm N d) ∧ (ps i).nodes = (tps i).nodes := fun i hi => ih i (tps i) (hs.part (i := i) hi) (ht.part (i := i) hi) (h6 i hi)
    refine ⟨fun d => ?_, ?_⟩
    · rw [fm_eq, fm_eq]
      congr 1
      rw [decide_eq_decide]
      exact ⟨fun hh i hi => by rw [← (sub i hi).1]; exact hh i hi, fun hh i hi => by rw [(sub i hi).1]; exact hh i hi⟩
    · show 1 + sumTo (fun i => (ps i).nodes) len = 1 + sumTo (fun i => (tps i).nodes) len
      rw [sum_congr len (fun i hi => (sub i hi).2)]
theorem same_ok {N : Nat} {w w' : World} {s t : Ty} (hs : s.At w) (ht : t.At w') (h : s.same t = true) : s.ok N = t.ok N := by
  unfold Ty.ok
  rw [(same_fm (N := N) s t hs ht h).1, (same_fm (N := N) s t hs ht h).2]

theorem same_bel {N : Nat} {le : Nat → Nat → Bool} (P : Po N le) : ∀ s t : Ty, Fd N s → Fd N t → s.same t = true → s.bel le true t = true ∧ t.bel le true s = true := by
  intro s
  induction s with
  | dm => intro t hs; exact absurd rfl hs.ne
  | mk k l hh e ao b o len cap ps ih =>
    intro t hs ht h
    rw [same_iff] at h
    obtain ⟨⟨h1, h2, h3, h4, h5⟩, h6⟩ := h
    have sub : ∀ i, i < (Ty.mk k l hh e ao b o len cap ps).len → (ps i).bel le true (t.ps i) = true ∧ (t.ps i).bel le true (ps i) = true := fun i hi => ih i (t.ps i) (hs.sub (i := i) hi) (ht.sub (by omega)) (h6 i hi)
    obtain ⟨x, hx, hx1⟩ := hs.lab
    have two : (Ty.mk k l hh e ao b o len cap ps).k = 3 ∨ (Ty.mk k l hh e ao b o len cap ps).k = 4 → ∀ i, i < 2 → i < (Ty.mk k l hh e ao b o len cap ps).len := fun h34 i hi => by rw [hs.two h34]; exact hi
    rw [bel_iff hs ht, bel_iff ht hs]
    constructor
    · refine ⟨h1, by rw [← h2, hx, Int.toNat_natCast]; exact P.refl x hx1, fun h3' => ⟨(sub 0 (two (Or.inl h3') 0 (by omega))).1, (sub 1 (two (Or.inl h3') 1 (by omega))).1⟩, fun h4' => ⟨⟨(sub 0 (two (Or.inr h4') 0 (by omega))).2, (sub 1 (two (Or.inr h4') 1 (by omega))).1⟩, ?_, ?_⟩, fun h5' => h6 0 (by rw [hs.one h5']; omega)⟩
      · obtain ⟨y, hy, hy1⟩ := hs.heap h4'
        rw [← h3, hy, Int.toNat_natCast]; exact P.refl y hy1
      · rw [← h4]; exact exc_refl P (hs.exc h4')
    · refine ⟨h1.symm, by rw [← h2, hx, Int.toNat_natCast]; exact P.refl x hx1, fun h3' => ?_, fun h4' => ?_, fun h5' => ?_⟩
      · have q : (Ty.mk k l hh e ao b o len cap ps).k = 3 := h1.trans h3'
        exact ⟨(sub 0 (two (Or.inl q) 0 (by omega))).2, (sub 1 (two (Or.inl q) 1 (by omega))).2⟩
      · have q : (Ty.mk k l hh e ao b o len cap ps).k = 4 := h1.trans h4'
        refine ⟨⟨(sub 0 (two (Or.inr q) 0 (by omega))).1, (sub 1 (two (Or.inr q) 1 (by omega))).2⟩, ?_, ?_⟩
        · obtain ⟨y, hy, hy1⟩ := hs.heap q
          rw [← h3, hy, Int.toNat_natCast]; exact P.refl y hy1
        · rw [← h4]; exact exc_refl P (hs.exc q)
      · have q : (Ty.mk k l hh e ao b o len cap ps).k = 5 := h1.trans h5'
        exact same_symm _ _ (h6 0 (by rw [hs.one q]; omega))

theorem setL_fm {N d : Nat} {j : Int} (hj : inR N j = true) : ∀ {t : Ty}, t.fm N d = true → (t.setL j).fm N d = true
  | .dm, h => h
  | .mk k l hh e ao b o len cap ps, h => by
    show Ty.fm N (.mk k j hh e ao b o len cap ps) d = true
    rw [fm_eq] at h ⊢
    simp only [Bool.and_eq_true] at h ⊢
    exact ⟨⟨⟨h.1.1.1, hj⟩, h.1.2⟩, h.2⟩
theorem setL_nodes {j : Int} : ∀ t : Ty, (t.setL j).nodes = t.nodes
  | .dm => rfl
  | .mk _ _ _ _ _ _ _ _ _ _ => rfl
theorem setL_ok {N : Nat} {j : Int} {t : Ty} (h : t.ok N = true) (hj : inR N j = true) : (t.setL j).ok N = true := by
  have := ok_parts h
  unfold Ty.ok
  rw [setL_fm hj this.1, setL_nodes, decide_eq_true this.2]; rfl
theorem setL_self : ∀ t : Ty, t.setL t.l = t
  | .dm => rfl
  | .mk _ _ _ _ _ _ _ _ _ _ => rfl
theorem setL_bel {N : Nat} {le : Nat → Nat → Bool} (P : Po N le) {t : Ty} (ht : t.ok N = true) {i j : Nat} (hi : i < N) (hj : j < N) (h : le i j = true) : (t.setL i).bel le true (t.setL j) = true := by
  have r1 : inR N (i : Int) = true := by unfold inR; simp; omega
  have r2 : inR N (j : Int) = true := by unfold inR; simp; omega
  have F1 := fd_ok (setL_ok ht r1)
  have F2 := fd_ok (setL_ok ht r2)
  have F := fd_ok ht
  rw [bel_iff F1 F2]
  rcases t with _ | ⟨k, l, hh, e, ao, b, o, len, cap, ps⟩
  · exact absurd rfl F.ne
  have sub : ∀ q, q < 2 → k = 3 ∨ k = 4 → (ps q).bel le true (ps q) = true := fun q hq h34 => bel_refl P _ (F.sub (i := q) (by rw [F.two h34]; omega))
  refine ⟨rfl, by show le (i : Int).toNat (j : Int).toNat = true; rw [Int.toNat_natCast, Int.toNat_natCast]; exact h, fun h3 => ⟨sub 0 (by omega) (Or.inl h3), sub 1 (by omega) (Or.inl h3)⟩, fun h4 => ⟨⟨sub 0 (by omega) (Or.inr h4), sub 1 (by omega) (Or.inr h4)⟩, ?_, exc_refl P (F.exc h4)⟩, fun _ => same_refl _⟩
  obtain ⟨y, hy, hy1⟩ := F.heap h4
  show le hh.toNat hh.toNat = true
  have hy' : hh = y := hy
  rw [hy', Int.toNat_natCast]; exact P.refl y hy1
end Go.Proofs.YtjfijpiadfkmfaaGreatDoor

/- Layer 13: a class's pool as data: types, each once, each behind its Parts, and their nodes. -/
namespace Go.Proofs.YtjfijpiadfkmfaaGreatDoor
open Go.RowKit

/-- Where a node stands. -/
def fnd (Q : List (List Int)) (n : List Int) : Int := if n ∈ Q then (Q.idxOf n : Int) else -1
theorem fnd_get {Q : List (List Int)} {n : List Int} (h : fnd Q n ≠ -1) : ∃ i : Nat, fnd Q n = i ∧ Q[i]? = some n := by
  unfold fnd at h ⊢
  by_cases hn : n ∈ Q
  · rw [if_pos hn]
    refine ⟨Q.idxOf n, rfl, ?_⟩
    have hl := List.idxOf_lt_length_of_mem hn
    rw [List.getElem?_eq_getElem hl, List.getElem_idxOf hl]
  · rw [if_neg hn] at h
    exact absurd rfl h
theorem fnd_of {Q : List (List Int)} {n : List Int} {i : Nat} (hQ : ∀ (i j : Nat) (n : List Int), Q[i]? = some n → Q[j]? = some n → i = j) (h : Q[i]? = some n) : fnd Q n = i := by
  have hn : n ∈ Q := List.mem_of_getElem? h
  have hl := List.idxOf_lt_length_of_mem hn
  unfold fnd
  rw [if_pos hn]
  have := hQ (Q.idxOf n) i n (by rw [List.getElem?_eq_getElem hl, List.getElem_idxOf hl]) h
  rw [this]
theorem fnd_no {Q : List (List Int)} {n : List Int} (h : fnd Q n = -1) : n ∉ Q := by
  intro hn
  unfold fnd at h
  rw [if_pos hn] at h
  omega
theorem fnd_ge (Q : List (List Int)) (n : List Int) : -1 ≤ fnd Q n := by
  unfold fnd; split <;> omega

/-- Where a type stands, that is so deep. -/
def plc (Q : List (List Int)) : Ty → Nat → Int
  | .dm, _ => -1
  | .mk k l h e _ _ _ len _ ps, d =>
    if 6 < d ∨ 2 < len then -1 else if 0 < len ∧ plc Q (ps 0) (d + 1) = -1 then -1 else if 1 < len ∧ plc Q (ps 1) (d + 1) = -1 then -1
    else fnd Q [k, l, h, e, if 0 < len then plc Q (ps 0) (d + 1) else -1, if 1 < len then plc Q (ps 1) (d + 1) else -1]

/-- A Part's place. -/
def Prt (R : List Ty) (i : Nat) (t : Ty) (j : Nat) (p : Int) : Prop :=
  (j < t.len → ∃ (a : Nat) (s : Ty), p = a ∧ a < i ∧ R[a]? = some s ∧ s.same (t.ps j) = true) ∧ (¬ j < t.len → p = -1)
/-- Types, each once, formed, behind their Parts; and their nodes. -/
structure Good (N : Nat) (R : List Ty) (Q : List (List Int)) : Prop where
  len : Q.length = R.length
  ok : ∀ t ∈ R, t.ok N = true
  ent : ∀ (i : Nat) (t : Ty), R[i]? = some t → ∃ p q, Q[i]? = some [t.k, t.l, t.h, t.e, p, q] ∧ Prt R i t 0 p ∧ Prt R i t 1 q
  dis : ∀ (i j : Nat) (s t : Ty), R[i]? = some s → R[j]? = some t → s.same t = true → i = j
theorem Good.nil (N : Nat) : Good N [] [] := ⟨rfl, by simp, by simp, by simp⟩

theorem fm_len {N : Nat} : ∀ {t : Ty} {d : Nat}, t.fm N d = true → d ≤ 6 ∧ (t.len : Int) = arityI t.k ∧ t.len ≤ 2 ∧ ∀ i, i < t.len → (t.ps i).fm N (d + 1) = true
  | .dm, _, h => by simp [Ty.fm] at h
  | .mk k l hh e ao b o len cap ps, d, h => by
    rw [fm_eq] at h
    simp only [Bool.and_eq_true, decide_eq_true_eq, beq_iff_eq] at h
    obtain ⟨⟨⟨⟨h1, h2⟩, h3⟩, h4⟩, h5⟩ := h
    refine ⟨h1, h2, ?_, h5⟩
    show len ≤ 2
    unfold arityI at h2
    repeat' split at h2
    all_goals omega
theorem ok_fm {N : Nat} {t : Ty} (h : t.ok N = true) : t.fm N 1 = true ∧ t.nodes ≤ 40 := by
  unfold Ty.ok at h
  simpa using h
theorem fm_down {N : Nat} : ∀ {t : Ty} {d : Nat}, t.fm N (d + 1) = true → t.fm N d = true
  | .dm, _, h => by simp [Ty.fm] at h
  | .mk k l hh e ao b o len cap ps, d, h => by
    rw [fm_eq] at h ⊢
    simp only [Bool.and_eq_true, decide_eq_true_eq, beq_iff_eq] at h ⊢
    obtain ⟨⟨⟨⟨h1, h2⟩, h3⟩, h4⟩, h5⟩ := h
    exact ⟨⟨⟨⟨by omega, h2⟩, h3⟩, h4⟩, fun i hi => fm_down (h5 i hi)⟩
theorem ok_part {N : Nat} : ∀ {t : Ty}, t.ok N = true → ∀ i, i < t.len → (t.ps i).ok N = true
  | .dm, h, _, hi => absurd hi (Nat.not_lt_zero _)
  | .mk k l hh e ao b o len cap ps, h, i, hi => by
    obtain ⟨h1, h2⟩ := ok_fm h
    have h3 := (fm_len h1).2.2.2 i hi
    unfold Ty.ok
    rw [fm_down h3]
    have h4 := sumTo_le (fun i => (ps i).nodes) hi
    have h5 : (Ty.mk k l hh e ao b o len cap ps).nodes = 1 + sumTo (fun i => (ps i).nodes) len := rfl
    have h6 : (Ty.mk k l hh e ao b o len cap ps).ps i = ps i := rfl
    simp only [Bool.true_and, decide_eq_true_eq]
    rw [h6]
    have h7 : (Ty.mk k l hh e ao b o len cap ps).len = len := rfl
    rw [h7] at h4
    omega
theorem Good.at_ {N : Nat} {R : List Ty} {Q : List (List Int)} (G : Good N R Q) {i : Nat} {n : List Int} (h : Q[i]? = some n) : ∃ t, R[i]? = some t := by
  have hl := (List.getElem?_eq_some_iff.1 h).1
  rw [G.len] at hl
  exact ⟨R[i], List.getElem?_eq_getElem hl⟩
theorem same_of_parts {s t : Ty} (h1 : s.k = t.k) (h2 : s.l = t.l) (h3 : s.h = t.h) (h4 : s.e = t.e) (h5 : s.len = t.len) (h6 : ∀ i, i < s.len → (s.ps i).same (t.ps i) = true) : s.same t = true := (same_iff s t).2 ⟨⟨h1, h2, h3, h4, h5⟩, h6⟩
theorem Good.uniq {N : Nat} {R : List Ty} {Q : List (List Int)} (G : Good N R Q) (i j : Nat) (n : List Int) (hi : Q[i]? = some n) (hj : Q[j]? = some n) : i = j := by
  obtain ⟨s, hs⟩ := G.at_ hi
  obtain ⟨t, ht⟩ := G.at_ hj
  obtain ⟨p, q, h1, h2, h3⟩ := G.ent i s hs
  obtain ⟨p', q', k1, k2, k3⟩ := G.ent j t ht
  rw [hi] at h1
  rw [hj] at k1
  have e := h1.symm.trans k1
  simp only [Option.some.injEq, List.cons.injEq, and_true] at e
  obtain ⟨e1, e2, e3, e4, e5, e6⟩ := e
  subst e5 e6
  have ks := fm_len (ok_fm (G.ok s (List.mem_of_getElem? hs))).1
  have kt := fm_len (ok_fm (G.ok t (List.mem_of_getElem? ht))).1
  have el : s.len = t.len := by
    have a := ks.2.1
    have b := kt.2.1
    rw [e1] at a
    omega
  refine G.dis i j s t hs ht (same_of_parts e1 e2 e3 e4 el fun m hm => ?_)
  have hm2 : m = 0 ∨ m = 1 := by have := ks.2.2.1; omega
  rcases hm2 with rfl | rfl
  · obtain ⟨a, u, ha, _, hu, hus⟩ := h2.1 hm
    obtain ⟨a', u', ha', _, hu', hus'⟩ := k2.1 (el ▸ hm)
    have : a = a' := by omega
    subst this
    rw [hu] at hu'
    cases hu'
    exact same_trans _ _ _ (same_symm _ _ hus) hus'
  · obtain ⟨a, u, ha, _, hu, hus⟩ := h3.1 hm
    obtain ⟨a', u', ha', _, hu', hus'⟩ := k3.1 (el ▸ hm)
    have : a = a' := by omega
    subst this
    rw [hu] at hu'
    cases hu'
    exact same_trans _ _ _ (same_symm _ _ hus) hus'
/-- A node that was found is that type's. -/
theorem Good.found {N : Nat} {R : List Ty} {Q : List (List Int)} (G : Good N R Q) {t : Ty} {p q : Int} {i m m' : Nat} (hl : t.len ≤ 2) (hp : Prt R m t 0 p) (hq : Prt R m' t 1 q) (h : Q[i]? = some [t.k, t.l, t.h, t.e, p, q]) : ∃ s, R[i]? = some s ∧ s.same t = true := by
  obtain ⟨s, hs⟩ := G.at_ h
  obtain ⟨p', q', h1, h2, h3⟩ := G.ent i s hs
  have e := h1.symm.trans h
  simp only [Option.some.injEq, List.cons.injEq, and_true] at e
  obtain ⟨e1, e2, e3, e4, e5, e6⟩ := e
  subst e5 e6
  have ks := fm_len (ok_fm (G.ok s (List.mem_of_getElem? hs))).1
  have el : s.len = t.len := by
    have a0 : 0 < s.len ↔ 0 < t.len := by
      constructor
      · intro h0
        obtain ⟨a, _, ha, _⟩ := h2.1 h0
        apply Classical.byContradiction
        intro hn
        have := hp.2 hn
        omega
      · intro h0
        obtain ⟨a, _, ha, _⟩ := hp.1 h0
        apply Classical.byContradiction
        intro hn
        have := h2.2 hn
        omega
    have a1 : 1 < s.len ↔ 1 < t.len := by
      constructor
      · intro h0
        obtain ⟨a, _, ha, _⟩ := h3.1 h0
        apply Classical.byContradiction
        intro hn
        have := hq.2 hn
        omega
      · intro h0
        obtain ⟨a, _, ha, _⟩ := hq.1 h0
        apply Classical.byContradiction
        intro hn
        have := h3.2 hn
        omega
    have := ks.2.2.1
    omega
  refine ⟨s, hs, same_of_parts e1 e2 e3 e4 el fun m hm => ?_⟩
  have hm2 : m = 0 ∨ m = 1 := by have := ks.2.2.1; omega
  rcases hm2 with rfl | rfl
  · obtain ⟨a, u, ha, _, hu, hus⟩ := h2.1 hm
    obtain ⟨a', u', ha', _, hu', hus'⟩ := hp.1 (el ▸ hm)
    have : a = a' := by omega
    subst this
    rw [hu] at hu'
    cases hu'
    exact same_trans _ _ _ (same_symm _ _ hus) hus'
  · obtain ⟨a, u, ha, _, hu, hus⟩ := h3.1 hm
    obtain ⟨a', u', ha', _, hu', hus'⟩ := hq.1 (el ▸ hm)
    have : a = a' := by omega
    subst this
    rw [hu] at hu'
    cases hu'
    exact same_trans _ _ _ (same_symm _ _ hus) hus'
theorem plc_sound {N : Nat} {R : List Ty} {Q : List (List Int)} (G : Good N R Q) : ∀ (t : Ty) (d : Nat), plc Q t d ≠ -1 → ∃ (i : Nat) (s : Ty), plc Q t d = i ∧ R[i]? = some s ∧ s.same t = true
  | .dm, _, h => absurd rfl h
  | .mk k l hh e ao b o len cap ps, d, h => by
    rw [plc] at h ⊢
    by_cases c1 : 6 < d ∨ 2 < len
    · rw [if_pos c1] at h; exact absurd rfl h
    rw [if_neg c1] at h ⊢
    by_cases c2 : 0 < len ∧ plc Q (ps 0) (d + 1) = -1
    · rw [if_pos c2] at h; exact absurd rfl h
    rw [if_neg c2] at h ⊢
    by_cases c3 : 1 < len ∧ plc Q (ps 1) (d + 1) = -1
    · rw [if_pos c3] at h; exact absurd rfl h
    rw [if_neg c3] at h ⊢
    obtain ⟨i, hi, hq⟩ := fnd_get h
    have P0 : Prt R R.length (.mk k l hh e ao b o len cap ps) 0 (if 0 < len then plc Q (ps 0) (d + 1) else -1) := by
      constructor
      · intro h0
        have h0 : 0 < len := h0
        rw [if_pos h0]
        obtain ⟨a, s, h1, h2, h3⟩ := plc_sound G (ps 0) (d + 1) (fun z => c2 ⟨h0, z⟩)
        exact ⟨a, s, h1, (List.getElem?_eq_some_iff.1 h2).1, h2, h3⟩
      · intro h0
        have h0 : ¬ 0 < len := h0
        rw [if_neg h0]
    have P1 : Prt R R.length (.mk k l hh e ao b o len cap ps) 1 (if 1 < len then plc Q (ps 1) (d + 1) else -1) := by
      constructor
      · intro h0
        have h0 : 1 < len := h0
        rw [if_pos h0]
        obtain ⟨a, s, h1, h2, h3⟩ := plc_sound G (ps 1) (d + 1) (fun z => c3 ⟨h0, z⟩)
        exact ⟨a, s, h1, (List.getElem?_eq_some_iff.1 h2).1, h2, h3⟩
      · intro h0
        have h0 : ¬ 1 < len := h0
        rw [if_neg h0]
    obtain ⟨s, hs, hss⟩ := G.found (t := .mk k l hh e ao b o len cap ps) (show len ≤ 2 by omega) P0 P1 hq
    exact ⟨i, s, hi, hs, hss⟩
theorem plc_of {N : Nat} {R : List Ty} {Q : List (List Int)} (G : Good N R Q) : ∀ (t : Ty) (d : Nat), t.fm N d = true → ∀ (i : Nat) (s : Ty), R[i]? = some s → s.same t = true → plc Q t d = i
  | .dm, _, h, _, _, _, _ => by simp [Ty.fm] at h
  | .mk k l hh e ao b o len cap ps, d, h, i, s, hs, hss => by
    obtain ⟨h1, h2, h3, h4⟩ := fm_len h
    have h3 : len ≤ 2 := h3
    obtain ⟨⟨k1, k2, k3, k4, k5⟩, k6⟩ := (same_iff _ _).1 hss
    have k5 : s.len = len := k5
    obtain ⟨p, q, m1, m2, m3⟩ := G.ent i s hs
    rw [plc, if_neg (by omega)]
    have a0 : 0 < len → plc Q (ps 0) (d + 1) = p := fun z => by
      obtain ⟨a, u, z1, _, z3, z4⟩ := m2.1 (by omega)
      rw [z1]
      exact plc_of G (ps 0) (d + 1) (h4 0 z) a u z3 (same_trans _ _ _ z4 (k6 0 (by omega)))
    have a1 : 1 < len → plc Q (ps 1) (d + 1) = q := fun z => by
      obtain ⟨a, u, z1, _, z3, z4⟩ := m3.1 (by omega)
      rw [z1]
      exact plc_of G (ps 1) (d + 1) (h4 1 z) a u z3 (same_trans _ _ _ z4 (k6 1 (by omega)))
    have b0 : (if 0 < len then plc Q (ps 0) (d + 1) else -1) = p := by
      by_cases z : 0 < len
      · rw [if_pos z, a0 z]
      · rw [if_neg z, m2.2 (by omega)]
    have b1 : (if 1 < len then plc Q (ps 1) (d + 1) else -1) = q := by
      by_cases z : 1 < len
      · rw [if_pos z, a1 z]
      · rw [if_neg z, m3.2 (by omega)]
    rw [if_neg (fun z => by
      obtain ⟨a, u, z1, _⟩ := m2.1 (by omega)
      have := a0 z.1
      omega), if_neg (fun z => by
      obtain ⟨a, u, z1, _⟩ := m3.1 (by omega)
      have := a1 z.1
      omega), b0, b1]
    apply fnd_of G.uniq
    rw [m1]
    have k1 : s.k = k := k1
    have k2 : s.l = l := k2
    have k3 : s.h = hh := k3
    have k4 : s.e = e := k4
    rw [k1, k2, k3, k4]

/-- Is it there? -/
def has (R : List Ty) (t : Ty) : Bool := R.any fun s => s.same t
theorem has_iff {R : List Ty} {t : Ty} : has R t = true ↔ ∃ (i : Nat) (s : Ty), R[i]? = some s ∧ s.same t = true := by
  unfold has
  rw [List.any_eq_true]
  constructor
  · rintro ⟨s, h1, h2⟩
    obtain ⟨i, hi⟩ := List.mem_iff_getElem?.1 h1
    exact ⟨i, s, hi, h2⟩
  · rintro ⟨i, s, h1, h2⟩
    exact ⟨s, List.mem_of_getElem? h1, h2⟩
def itr (f : Nat → List Ty → List Ty) : Nat → List Ty → List Ty
  | 0, R => R
  | n + 1, R => f n (itr f n R)
/-- A type put behind others, its Parts first, where they aren't there. -/
def putT : Ty → List Ty → List Ty
  | .dm, R => R
  | .mk k l h e ao b o len cap ps, R => if has (itr (fun i => putT (ps i)) len R) (.mk k l h e ao b o len cap ps) then itr (fun i => putT (ps i)) len R else itr (fun i => putT (ps i)) len R ++ [.mk k l h e ao b o len cap ps]
theorem putT_eq (t : Ty) (R : List Ty) (hd : t ≠ .dm) : putT t R = if has (itr (fun i => putT (t.ps i)) t.len R) t then itr (fun i => putT (t.ps i)) t.len R else itr (fun i => putT (t.ps i)) t.len R ++ [t] := by
  cases t with
  | dm => exact absurd rfl hd
  | mk k l h e ao b o len cap ps => rfl
def takeT (R : List Ty) (t : Ty) : List Ty := if has R t then R else putT t R
theorem Prt.mono {R R' : List Ty} {i i' : Nat} {t : Ty} {j : Nat} {p : Int} (h : Prt R i t j p) (hi : i ≤ i') (hR : ∀ (a : Nat) (s : Ty), R[a]? = some s → R'[a]? = some s) : Prt R' i' t j p :=
  ⟨fun hj => by obtain ⟨a, s, h1, h2, h3, h4⟩ := h.1 hj; exact ⟨a, s, h1, by omega, hR _ _ h3, h4⟩, h.2⟩
theorem pre_get {R X : List Ty} {a : Nat} {s : Ty} (h : R[a]? = some s) : (R ++ X)[a]? = some s := by
  rw [List.getElem?_append_left (List.getElem?_eq_some_iff.1 h).1]; exact h
/-- One more. -/
theorem Good.push {N : Nat} {R : List Ty} {Q : List (List Int)} (G : Good N R Q) {t : Ty} {p q : Int} (ht : t.ok N = true) (hp : Prt R R.length t 0 p) (hq : Prt R R.length t 1 q) (h : fnd Q [t.k, t.l, t.h, t.e, p, q] = -1) :
    has R t = false ∧ Good N (R ++ [t]) (Q ++ [[t.k, t.l, t.h, t.e, p, q]]) := by
  have hno : ∀ (i : Nat) (s : Ty), R[i]? = some s → s.same t = true → False := fun i s hs hss => by
    obtain ⟨⟨k1, k2, k3, k4, k5⟩, k6⟩ := (same_iff _ _).1 hss
    obtain ⟨p', q', m1, m2, m3⟩ := G.ent i s hs
    have e0 : p' = p := by
      by_cases z : 0 < t.len
      · obtain ⟨a, u, z1, _, z3, z4⟩ := m2.1 (by omega)
        obtain ⟨a', u', y1, _, y3, y4⟩ := hp.1 z
        have := G.dis a a' u u' z3 y3 (same_trans _ _ _ z4 (same_trans _ _ _ (k6 0 (by omega)) (same_symm _ _ y4)))
        omega
      · rw [m2.2 (by omega), hp.2 z]
    have e1 : q' = q := by
      by_cases z : 1 < t.len
      · obtain ⟨a, u, z1, _, z3, z4⟩ := m3.1 (by omega)
        obtain ⟨a', u', y1, _, y3, y4⟩ := hq.1 z
        have := G.dis a a' u u' z3 y3 (same_trans _ _ _ z4 (same_trans _ _ _ (k6 1 (by omega)) (same_symm _ _ y4)))
        omega
      · rw [m3.2 (by omega), hq.2 z]
    rw [k1, k2, k3, k4, e0, e1] at m1
    exact fnd_no h (List.mem_of_getElem? m1)
  have hlast : ∀ (i : Nat) (s : Ty), (R ++ [t])[i]? = some s → R[i]? = some s ∨ (i = R.length ∧ s = t) := fun i s hs => by
    by_cases z : i < R.length
    · rw [List.getElem?_append_left z] at hs; exact Or.inl hs
    · rw [List.getElem?_append_right (by omega)] at hs
      have : i - R.length = 0 := by
        apply Classical.byContradiction
        intro y
        have : ([t] : List Ty)[i - R.length]? = none := by simp; omega
        rw [this] at hs
        cases hs
      rw [this] at hs
      simp at hs
      exact Or.inr ⟨by omega, hs.symm⟩
  refine ⟨?_, ⟨by simp [G.len], ?_, ?_, ?_⟩⟩
  · cases hh : has R t with
    | false => rfl
    | true =>
      obtain ⟨i, s, h1, h2⟩ := has_iff.1 hh
      exact (hno i s h1 h2).elim
  · intro s hs
    rcases List.mem_append.1 hs with h1 | h1
    · exact G.ok s h1
    · rw [List.mem_singleton.1 h1]; exact ht
  · intro i s hs
    rcases hlast i s hs with h1 | ⟨h1, h2⟩
    · obtain ⟨p', q', m1, m2, m3⟩ := G.ent i s h1
      refine ⟨p', q', ?_, m2.mono (Nat.le_refl _) (fun _ _ => pre_get), m3.mono (Nat.le_refl _) (fun _ _ => pre_get)⟩
      rw [List.getElem?_append_left (List.getElem?_eq_some_iff.1 m1).1]; exact m1
    · subst h1 h2
      refine ⟨p, q, ?_, hp.mono (Nat.le_refl _) (fun _ _ => pre_get), hq.mono (Nat.le_refl _) (fun _ _ => pre_get)⟩
      rw [← G.len]; simp
  · intro i j s u hs hu hsu
    rcases hlast i s hs with h1 | ⟨h1, h2⟩
    · rcases hlast j u hu with k1 | ⟨k1, k2⟩
      · exact G.dis i j s u h1 k1 hsu
      · subst k2; exact (hno i s h1 hsu).elim
    · rcases hlast j u hu with k1 | ⟨k1, k2⟩
      · subst h2; exact (hno j u k1 (same_symm _ _ hsu)).elim
      · omega
/-- Behind a type's Parts: it is there, or is put. -/
theorem Good.here {N : Nat} {R : List Ty} {Q : List (List Int)} (G : Good N R Q) {t : Ty} {p q : Int} {i : Nat} (hl : t.len ≤ 2) (hp : Prt R R.length t 0 p) (hq : Prt R R.length t 1 q) (h : fnd Q [t.k, t.l, t.h, t.e, p, q] = i) : has R t = true ∧ ∃ s, R[i]? = some s ∧ s.same t = true := by
  have hn : fnd Q [t.k, t.l, t.h, t.e, p, q] ≠ -1 := by omega
  obtain ⟨j, hj, hq'⟩ := fnd_get hn
  have : j = i := by omega
  subst this
  obtain ⟨s, hs, hss⟩ := G.found hl hp hq hq'
  exact ⟨has_iff.2 ⟨j, s, hs, hss⟩, s, hs, hss⟩
end Go.Proofs.YtjfijpiadfkmfaaGreatDoor

/- Layer 13: the map of a pool: a key is six numbers, what is kept a number. -/
namespace Go.Proofs.YtjfijpiadfkmfaaGreatDoor
open Go.RowKit

def nv (a b c d p q : Int) : Value := .agg #[.int .i64 a, .int .i64 b, .int .i64 c, .int .i64 d, .int .i64 p, .int .i64 q]
def nodeV : List Int → Value
  | [a, b, c, d, p, q] => nv a b c d p q
  | _ => .agg #[]
theorem six_of {n : List Int} (h : n.length = 6) : ∃ a b c d p q, n = [a, b, c, d, p, q] := by
  match n, h with
  | [a, b, c, d, p, q], _ => exact ⟨a, b, c, d, p, q, rfl⟩
theorem Tryz.intSz : (Tryz.prog.info? 3).map (·.size) = some 1 := by kernel_rfl
theorem Tryz.twoSz : (Tryz.prog.info? 89).map (·.size) = some 2 := by kernel_rfl
theorem run_sizeOf (w : World) {t : TypeId} {n : Nat} (h : (Tryz.prog.info? t).map (·.size) = some n) : (sizeOf t).run Tryz.prog w = .ok n w := by
  cases hq : Tryz.prog.info? t with
  | none => rw [hq] at h; simp at h
  | some i =>
    rw [hq] at h
    have h : i.size = n := by simpa using h
    simp [sizeOf, typeInfo, hq, h]
theorem run_eqi (w : World) (d : Nat) (m n : Int) : (Op.equalIn (d + 1) 3 (.int .i64 m) (.int .i64 n)).run Tryz.prog w = .ok (decide (m = n)) w := by
  simp [Op.equalIn, run_underlying Tryz.underlying3]
  by_cases h : m = n
  · simp [h]
  · simp [h]
theorem run_parti (w : World) (xs : Array Value) (i : Nat) (v : Value) (h : xs[i]? = some v) : (part 3 xs i).run Tryz.prog w = .ok v w := by
  simp [part, isAgg, run_underlying Tryz.underlying3, h]
theorem run_part2 (w : World) (xs : Array Value) (i : Nat) : (part 89 xs i).run Tryz.prog w = .ok (.agg (xs.extract i (i + 2))) w := by
  have h := run_sizeOf w Tryz.twoSz
  unfold part isAgg
  simp only [Sem.run_bind, run_underlying Tryz.underlying89, Result.andThen_ok, Sem.run_pure, if_true, h]
theorem run_eq2 (w : World) (d : Nat) (a b p q : Int) : (Op.equalIn (d + 2) 89 (.agg #[.int .i64 a, .int .i64 b]) (.agg #[.int .i64 p, .int .i64 q])).run Tryz.prog w = .ok (decide (a = p) && decide (b = q)) w := by
  have hz := run_sizeOf w Tryz.intSz
  have e := run_eqi w d
  have p0 := fun x y : Int => run_parti w #[.int .i64 x, .int .i64 y] 0 _ rfl
  have p1 := fun x y : Int => run_parti w #[.int .i64 x, .int .i64 y] 1 _ rfl
  rw [Op.equalIn]
  simp only [Sem.run_bind, run_underlying Tryz.underlying89, Result.andThen_ok, hz]
  by_cases h1 : a = p
  · by_cases h2 : b = q
    · simp [Std.Legacy.Range.forIn_eq_forIn_range', Std.Legacy.Range.size, List.range', e, p0, p1, h1, h2]
    · simp [Std.Legacy.Range.forIn_eq_forIn_range', Std.Legacy.Range.size, List.range', e, p0, p1, h1, h2]
  · simp [Std.Legacy.Range.forIn_eq_forIn_range', Std.Legacy.Range.size, List.range', e, p0, h1]
theorem run_eqn' (w : World) (d : Nat) (a b c e p q a' b' c' e' p' q' : Int) : (Op.equalIn (d + 3) 152 (nv a b c e p q) (nv a' b' c' e' p' q')).run Tryz.prog w = .ok (decide ([a, b, c, e, p, q] = [a', b', c', e', p', q'])) w := by
  unfold nv
  have e1 := run_eqi w (d + 1)
  have e2 := run_eq2 w d
  have p0 := fun a b c e p q : Int => run_parti w #[.int .i64 a, .int .i64 b, .int .i64 c, .int .i64 e, .int .i64 p, .int .i64 q] 0 _ rfl
  have p1 := fun a b c e p q : Int => run_parti w #[.int .i64 a, .int .i64 b, .int .i64 c, .int .i64 e, .int .i64 p, .int .i64 q] 1 _ rfl
  have p2 := fun a b c e p q : Int => run_parti w #[.int .i64 a, .int .i64 b, .int .i64 c, .int .i64 e, .int .i64 p, .int .i64 q] 2 _ rfl
  have p3 := fun a b c e p q : Int => run_parti w #[.int .i64 a, .int .i64 b, .int .i64 c, .int .i64 e, .int .i64 p, .int .i64 q] 3 _ rfl
  have p4 := fun a b c e p q : Int => run_part2 w #[.int .i64 a, .int .i64 b, .int .i64 c, .int .i64 e, .int .i64 p, .int .i64 q] 4
  have x4 : ∀ a b c e p q : Int, (#[.int .i64 a, .int .i64 b, .int .i64 c, .int .i64 e, .int .i64 p, .int .i64 q] : Array Value).extract 4 6 = #[.int .i64 p, .int .i64 q] := fun _ _ _ _ _ _ => rfl
  rw [Op.equalIn]
  simp only [Sem.run_bind, run_underlying Tryz.underlying152, Result.andThen_ok]
  simp only [Nat.reduceAdd, x4] at p4
  simp [e1, e2, p0, p1, p2, p3, p4]
  by_cases h1 : a = a'
  · by_cases h2 : b = b'
    · by_cases h3 : c = c'
      · by_cases h4 : e = e'
        · by_cases h5 : p = p'
          · by_cases h6 : q = q'
            · simp [h1, h2, h3, h4, h5, h6]
            · simp [h1, h2, h3, h4, h5, h6]
          · simp [h1, h2, h3, h4, h5]
        · simp [h1, h2, h3, h4]
      · simp [h1, h2, h3]
    · simp [h1, h2]
  · simp [h1]
theorem run_eqn (w : World) (n m : List Int) (hn : n.length = 6) (hm : m.length = 6) : (Op.equal 152 (nodeV n) (nodeV m)).run Tryz.prog w = .ok (decide (n = m)) w := by
  obtain ⟨a, b, c, d, p, q, rfl⟩ := six_of hn
  obtain ⟨a', b', c', d', p', q', rfl⟩ := six_of hm
  exact run_eqn' w 9997 a b c d p q a' b' c' d' p' q'
theorem run_ckn (w : World) (e : Bool) (n : List Int) (hn : n.length = 6) : (Instr.checkKey e 10000 152 (nodeV n)).run Tryz.prog w = .ok () w := by
  obtain ⟨a, b, c, d, p, q, rfl⟩ := six_of hn
  show (Instr.checkKey e (9997 + 3) 152 (nv a b c d p q)).run Tryz.prog w = .ok () w
  unfold nv
  have c1 : ∀ k v, (Instr.checkKey e (k + 1) 3 v).run Tryz.prog w = .ok () w := fun k v => by simp [Instr.checkKey, run_underlying Tryz.underlying3]
  have q0 := fun x y : Int => run_parti w #[.int .i64 x, .int .i64 y] 0 _ rfl
  have q1 := fun x y : Int => run_parti w #[.int .i64 x, .int .i64 y] 1 _ rfl
  have hz := run_sizeOf w Tryz.intSz
  have c2 : ∀ x y : Int, (Instr.checkKey e (9997 + 2) 89 (.agg #[.int .i64 x, .int .i64 y])).run Tryz.prog w = .ok () w := fun x y => by
    rw [Instr.checkKey]
    simp only [Sem.run_bind, run_underlying Tryz.underlying89, Result.andThen_ok]
    simp [Std.Legacy.Range.forIn_eq_forIn_range', Std.Legacy.Range.size, List.range', c1, q0, q1, hz]
  have p0 := fun a b c e p q : Int => run_parti w #[.int .i64 a, .int .i64 b, .int .i64 c, .int .i64 e, .int .i64 p, .int .i64 q] 0 _ rfl
  have p1 := fun a b c e p q : Int => run_parti w #[.int .i64 a, .int .i64 b, .int .i64 c, .int .i64 e, .int .i64 p, .int .i64 q] 1 _ rfl
  have p2 := fun a b c e p q : Int => run_parti w #[.int .i64 a, .int .i64 b, .int .i64 c, .int .i64 e, .int .i64 p, .int .i64 q] 2 _ rfl
  have p3 := fun a b c e p q : Int => run_parti w #[.int .i64 a, .int .i64 b, .int .i64 c, .int .i64 e, .int .i64 p, .int .i64 q] 3 _ rfl
  have p4 := fun a b c e p q : Int => run_part2 w #[.int .i64 a, .int .i64 b, .int .i64 c, .int .i64 e, .int .i64 p, .int .i64 q] 4
  have x4 : ∀ a b c e p q : Int, (#[.int .i64 a, .int .i64 b, .int .i64 c, .int .i64 e, .int .i64 p, .int .i64 q] : Array Value).extract 4 6 = #[.int .i64 p, .int .i64 q] := fun _ _ _ _ _ _ => rfl
  simp only [Nat.reduceAdd, x4] at p4
  rw [Instr.checkKey]
  simp only [Sem.run_bind, run_underlying Tryz.underlying152, Result.andThen_ok]
  simp only [Nat.reduceAdd] at c2
  simp [c1, c2, p0, p1, p2, p3, p4]
/-- The map has these nodes, each with its place. -/
structure NKeys (es : Array MapEntry) (Q : List (List Int)) : Prop where
  keys : es.toList.map (·.key) = Q.map nodeV
  vals : ∀ (i : Nat) (e : MapEntry), es.toList[i]? = some e → e.val = .int .i64 i
  six : ∀ n ∈ Q, n.length = 6
theorem NKeys.nil : NKeys #[] [] := ⟨rfl, by simp, by simp⟩
theorem NKeys.push {es : Array MapEntry} {Q : List (List Int)} (h : NKeys es Q) {n : List Int} (hn : n.length = 6) (c : Nat) : NKeys (es.push { key := nodeV n, val := .int .i64 (Q.length : Int), born := c }) (Q ++ [n]) := by
  have hl : es.toList.length = Q.length := by have := congrArg List.length h.keys; simpa using this
  refine ⟨?_, ?_, ?_⟩
  · rw [Array.toList_push, List.map_append, h.keys, List.map_append]; rfl
  · intro i e he
    rw [Array.toList_push] at he
    by_cases z : i < es.toList.length
    · rw [List.getElem?_append_left z] at he
      exact h.vals i e he
    · rw [List.getElem?_append_right (by omega)] at he
      have hz : i - es.toList.length = 0 := by
        apply Classical.byContradiction
        intro y
        rw [List.getElem?_eq_none (by show 1 ≤ _; omega)] at he
        cases he
      rw [hz] at he
      simp at he
      rw [← he]
      have : i = Q.length := by omega
      rw [this]
  · intro m hm
    rcases List.mem_append.1 hm with h1 | h1
    · exact h.six m h1
    · rw [List.mem_singleton.1 h1]; exact hn
theorem run_findA (w : World) (n : List Int) (hn : n.length = 6) : ∀ (es : List MapEntry) (Q : List (List Int)) (i : Nat), es.map (·.key) = Q.map nodeV → (∀ (j : Nat) (e : MapEntry), es[j]? = some e → e.val = .int .i64 (i + j : Nat)) → (∀ m ∈ Q, m.length = 6) →
    (Instr.findAsking 152 (nodeV n) es i).run Tryz.prog w = .ok (if n ∈ Q then some (i + Q.idxOf n, .int .i64 (i + Q.idxOf n : Nat)) else none) w
  | [], Q, i, hk, _, _ => by
    have e : Q = [] := by cases Q with | nil => rfl | cons _ _ => simp at hk
    subst e
    simp [Instr.findAsking]
  | e :: es, [], i, hk, _, _ => by simp at hk
  | e :: es, m :: Q, i, hk, hv, hs => by
    simp only [List.map_cons, List.cons.injEq] at hk
    have hq := run_eqn w n m hn (hs m (List.mem_cons_self ..))
    by_cases h : n = m
    · subst h
      have hv0 := hv 0 e rfl
      rw [Instr.findAsking, hk.1]
      simp [hq, hv0]
    · have ih := run_findA w n hn es Q (i + 1) hk.2 (fun j x hx => by have h5 := hv (j + 1) x (by simpa using hx); rw [h5, show i + (j + 1) = i + 1 + j by omega]) (fun x hx => hs x (List.mem_cons_of_mem _ hx))
      rw [Instr.findAsking, hk.1]
      simp only [Sem.run_bind, hq, Result.andThen_ok, h, decide_false]
      have hm : (n ∈ m :: Q) ↔ n ∈ Q := by simp [h]
      have hi : (m :: Q).idxOf n = Q.idxOf n + 1 := by rw [List.idxOf_cons, beq_false_of_ne (fun z => h z.symm)]; rfl
      by_cases hin : n ∈ Q
      · rw [if_pos (hm.2 hin), hi]
        rw [if_pos hin] at ih
        simp only [Bool.false_eq_true, if_false]
        rw [ih, show i + 1 + Q.idxOf n = i + (Q.idxOf n + 1) by omega]
      · rw [if_neg (fun z => hin (hm.1 z))]
        rw [if_neg hin] at ih
        simpa using ih
theorem run_findN (w : World) (n : List Int) (hn : n.length = 6) (es : Array MapEntry) (Q : List (List Int)) (h : NKeys es Q) :
    (Instr.findKey 152 (nodeV n) es.toList).run Tryz.prog w = .ok (if n ∈ Q then some (Q.idxOf n, .int .i64 (Q.idxOf n : Nat)) else none) w := by
  have h1 := run_findA w n hn es.toList Q 0 h.keys (fun j e he => by rw [h.vals j e he, Nat.zero_add]) h.six
  simp only [Nat.zero_add] at h1
  have hu := run_underlying (w := w) Tryz.underlying152
  cases hl : es.toList with
  | nil =>
    have e : Q = [] := by have := h.keys; rw [hl] at this; cases Q with | nil => rfl | cons _ _ => simp at this
    subst e
    simp [Instr.findKey, hu, Instr.findNow]
  | cons e l =>
    rw [hl] at h1
    simp [Instr.findKey, hu, Instr.findNow, Instr.sameNow, h1]
theorem run_lookN (w : World) (m : Nat) (es : Array MapEntry) (c : Nat) (hm : w.heap[m]? = some (.map es c)) (n : List Int) (hn : n.length = 6) (Q : List (List Int)) (h : NKeys es Q) :
    (Instr.lookup 61 (.map (some m)) (nodeV n) true).run Tryz.prog w = .ok (.tuple #[.int .i64 (if fnd Q n = -1 then 0 else fnd Q n), .bool (decide (fnd Q n ≠ -1))]) w := by
  have h1 := run_findN w n hn es Q h
  have hc' : ∀ e, (Instr.checkKey e 10000 152 (nodeV n)).run Tryz.prog w = .ok () w := fun e => run_ckn w e n hn
  have hg : (getObj m).run Tryz.prog w = .ok (.map es c) w := by simp [getObj, Sem.run, hm]
  have hz : (Tryz.prog.info? 3).map (·.zero) = some (some (.int .i64 0)) := by kernel_rfl
  cases hq : Tryz.prog.info? 3 with
  | none => rw [hq] at hz; simp at hz
  | some i =>
    rw [hq] at hz
    have hz : i.zero = some (.int .i64 0) := by simpa using hz
    by_cases hin : n ∈ Q
    · rw [if_pos hin] at h1
      have hf : fnd Q n = (Q.idxOf n : Int) := by unfold fnd; rw [if_pos hin]
      have hn1 : ¬ ((Q.idxOf n : Nat) : Int) = -1 := by omega
      simp [Instr.lookup, run_underlying Tryz.underlying61, hg, hc', h1, hf, hn1]
    · rw [if_neg hin] at h1
      have hf : fnd Q n = -1 := by unfold fnd; rw [if_neg hin]
      simp [Instr.lookup, run_underlying Tryz.underlying61, hg, hc', h1, hf, zeroValue, typeInfo, hq, hz]
theorem run_putN (w : World) (m : Nat) (es : Array MapEntry) (c : Nat) (hm : w.heap[m]? = some (.map es c)) (n : List Int) (hn : n.length = 6) (Q : List (List Int)) (h : NKeys es Q) (hf : fnd Q n = -1) (v : Value) :
    (Instr.mapUpdate 61 (.map (some m)) (nodeV n) v).run Tryz.prog w = .ok () { w with heap := w.heap.setIfInBounds m (.map (es.push { key := nodeV n, val := v, born := c }) (c + 1)) } := by
  have h1 := run_findN w n hn es Q h
  rw [if_neg (fnd_no hf)] at h1
  have hc' : ∀ e, (Instr.checkKey e 10000 152 (nodeV n)).run Tryz.prog w = .ok () w := fun e => run_ckn w e n hn
  have hg : (getObj m).run Tryz.prog w = .ok (.map es c) w := by simp [getObj, Sem.run, hm]
  have hs : ∀ o, (setObj m o).run Tryz.prog w = .ok () { w with heap := w.heap.setIfInBounds m o } := fun o => by simp [setObj, Sem.run, hm]
  simp [Instr.mapUpdate, run_underlying Tryz.underlying61, hg, hc', h1, hs]
end Go.Proofs.YtjfijpiadfkmfaaGreatDoor
