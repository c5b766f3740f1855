/- Layer 2: what follows of Raise. No program is walked here. -/
import Derived.Test.YtgbillimanpmnaaTyRaise
namespace Go.Proofs.Ytgbillimanpmnaa

theorem same_symm : ∀ s t : Ty, s.same t = true → t.same s = true := by
  intro s
  induction s with
  | dm =>
    intro t h
    rw [same_iff] at h ⊢
    exact ⟨⟨h.1.1.symm, h.1.2.1.symm, h.1.2.2.1.symm, h.1.2.2.2.1.symm, h.1.2.2.2.2.symm⟩, fun i hi => absurd hi (by rw [← h.1.2.2.2.2]; exact Nat.not_lt_zero _)⟩
  | mk k l hh e ao b o len cap ps ih =>
    intro t h
    rw [same_iff] at h ⊢
    exact ⟨⟨h.1.1.symm, h.1.2.1.symm, h.1.2.2.1.symm, h.1.2.2.2.1.symm, h.1.2.2.2.2.symm⟩, fun i hi => ih i (t.ps i) (h.2 i (by rw [h.1.2.2.2.2]; exact hi))⟩

theorem sum_congr {f h : Nat → Nat} : ∀ k, (∀ i, i < k → f i = h i) → sumTo f k = sumTo h k
  | 0, _ => rfl
  | k + 1, e => by
    show sumTo f k + f k = sumTo h k + h k
    rw [sum_congr k (fun i hi => e i (by omega)), e k (by omega)]

/-- What lies alike is formed alike. -/
theorem same_fm {N : Nat} {w w' : World} : ∀ s t : Ty, s.At w → t.At w' → s.same t = true → (∀ d, s.fm N d = t.fm N d) ∧ s.nodes = t.nodes := by
  intro s
  induction s with
  | dm => intro t h; exact h.elim
  | mk k l hh e ao b o len cap ps ih =>
    intro t hs ht h
    rcases t with _ | ⟨tk, tl, th, te, tao, tb, to', tlen, tcap, tps⟩
    · exact ht.elim
    rw [same_iff] at h
    obtain ⟨⟨h1, h2, h3, h4, h5⟩, h6⟩ := h
    have h1' : k = tk := h1
    have h2' : l = tl := h2
    have h3' : hh = th := h3
    have h4' : e = te := h4
    have h5' : len = tlen := h5
    subst h1' h2' h3' h4' h5'
    have sub : ∀ i, i < len → (∀ d, (ps i).fm N d = (tps i).fm N d) ∧ (ps i).nodes = (tps i).nodes := fun i hi => ih i (tps i) (hs.part (i := i) hi) (ht.part (i := i) hi) (h6 i hi)
    refine ⟨fun d => ?_, ?_⟩
    · rw [fm_eq, fm_eq]
      congr 1
      rw [decide_eq_decide]
      exact ⟨fun hh i hi => by rw [← (sub i hi).1]; exact hh i hi, fun hh i hi => by rw [(sub i hi).1]; exact hh i hi⟩
    · show 1 + sumTo (fun i => (ps i).nodes) len = 1 + sumTo (fun i => (tps i).nodes) len
      rw [sum_congr len (fun i hi => (sub i hi).2)]
theorem same_ok {N : Nat} {w w' : World} {s t : Ty} (hs : s.At w) (ht : t.At w') (h : s.same t = true) : s.ok N = t.ok N := by
  unfold Ty.ok
  rw [(same_fm (N := N) s t hs ht h).1, (same_fm (N := N) s t hs ht h).2]

theorem same_bel {N : Nat} {le : Nat → Nat → Bool} (P : Po N le) : ∀ s t : Ty, Fd N s → Fd N t → s.same t = true → s.bel le true t = true ∧ t.bel le true s = true := by
  intro s
  induction s with
  | dm => intro t hs; exact absurd rfl hs.ne
  | mk k l hh e ao b o len cap ps ih =>
    intro t hs ht h
    rw [same_iff] at h
    obtain ⟨⟨h1, h2, h3, h4, h5⟩, h6⟩ := h
    have sub : ∀ i, i < (Ty.mk k l hh e ao b o len cap ps).len → (ps i).bel le true (t.ps i) = true ∧ (t.ps i).bel le true (ps i) = true := fun i hi => ih i (t.ps i) (hs.sub (i := i) hi) (ht.sub (by omega)) (h6 i hi)
    obtain ⟨x, hx, hx1⟩ := hs.lab
    have two : (Ty.mk k l hh e ao b o len cap ps).k = 3 ∨ (Ty.mk k l hh e ao b o len cap ps).k = 4 → ∀ i, i < 2 → i < (Ty.mk k l hh e ao b o len cap ps).len := fun h34 i hi => by rw [hs.two h34]; exact hi
    rw [bel_iff hs ht, bel_iff ht hs]
    constructor
    · refine ⟨h1, by rw [← h2, hx, Int.toNat_natCast]; exact P.refl x hx1, fun h3' => ⟨(sub 0 (two (Or.inl h3') 0 (by omega))).1, (sub 1 (two (Or.inl h3') 1 (by omega))).1⟩, fun h4' => ⟨⟨(sub 0 (two (Or.inr h4') 0 (by omega))).2, (sub 1 (two (Or.inr h4') 1 (by omega))).1⟩, ?_, ?_⟩, fun h5' => h6 0 (by rw [hs.one h5']; omega)⟩
      · obtain ⟨y, hy, hy1⟩ := hs.heap h4'
        rw [← h3, hy, Int.toNat_natCast]; exact P.refl y hy1
      · rw [← h4]; exact exc_refl P (hs.exc h4')
    · refine ⟨h1.symm, by rw [← h2, hx, Int.toNat_natCast]; exact P.refl x hx1, fun h3' => ?_, fun h4' => ?_, fun h5' => ?_⟩
      · have q : (Ty.mk k l hh e ao b o len cap ps).k = 3 := h1.trans h3'
        exact ⟨(sub 0 (two (Or.inl q) 0 (by omega))).2, (sub 1 (two (Or.inl q) 1 (by omega))).2⟩
      · have q : (Ty.mk k l hh e ao b o len cap ps).k = 4 := h1.trans h4'
        refine ⟨⟨(sub 0 (two (Or.inr q) 0 (by omega))).1, (sub 1 (two (Or.inr q) 1 (by omega))).2⟩, ?_, ?_⟩
        · obtain ⟨y, hy, hy1⟩ := hs.heap q
          rw [← h3, hy, Int.toNat_natCast]; exact P.refl y hy1
        · rw [← h4]; exact exc_refl P (hs.exc q)
      · have q : (Ty.mk k l hh e ao b o len cap ps).k = 5 := h1.trans h5'
        exact same_symm _ _ (h6 0 (by rw [hs.one q]; omega))

theorem setL_fm {N d : Nat} {j : Int} (hj : inR N j = true) : ∀ {t : Ty}, t.fm N d = true → (t.setL j).fm N d = true
  | .dm, h => h
  | .mk k l hh e ao b o len cap ps, h => by
    show Ty.fm N (.mk k j hh e ao b o len cap ps) d = true
    rw [fm_eq] at h ⊢
    simp only [Bool.and_eq_true] at h ⊢
    exact ⟨⟨⟨h.1.1.1, hj⟩, h.1.2⟩, h.2⟩
theorem setL_nodes {j : Int} : ∀ t : Ty, (t.setL j).nodes = t.nodes
  | .dm => rfl
  | .mk _ _ _ _ _ _ _ _ _ _ => rfl
theorem setL_ok {N : Nat} {j : Int} {t : Ty} (h : t.ok N = true) (hj : inR N j = true) : (t.setL j).ok N = true := by
  have := ok_parts h
  unfold Ty.ok
  rw [setL_fm hj this.1, setL_nodes, decide_eq_true this.2]; rfl
theorem setL_self : ∀ t : Ty, t.setL t.l = t
  | .dm => rfl
  | .mk _ _ _ _ _ _ _ _ _ _ => rfl
theorem setL_bel {N : Nat} {le : Nat → Nat → Bool} (P : Po N le) {t : Ty} (ht : t.ok N = true) {i j : Nat} (hi : i < N) (hj : j < N) (h : le i j = true) : (t.setL i).bel le true (t.setL j) = true := by
  have r1 : inR N (i : Int) = true := by unfold inR; simp; omega
  have r2 : inR N (j : Int) = true := by unfold inR; simp; omega
  have F1 := fd_ok (setL_ok ht r1)
  have F2 := fd_ok (setL_ok ht r2)
  have F := fd_ok ht
  rw [bel_iff F1 F2]
  rcases t with _ | ⟨k, l, hh, e, ao, b, o, len, cap, ps⟩
  · exact absurd rfl F.ne
  have sub : ∀ q, q < 2 → k = 3 ∨ k = 4 → (ps q).bel le true (ps q) = true := fun q hq h34 => bel_refl P _ (F.sub (i := q) (by rw [F.two h34]; omega))
  refine ⟨rfl, by show le (i : Int).toNat (j : Int).toNat = true; rw [Int.toNat_natCast, Int.toNat_natCast]; exact h, fun h3 => ⟨sub 0 (by omega) (Or.inl h3), sub 1 (by omega) (Or.inl h3)⟩, fun h4 => ⟨⟨sub 0 (by omega) (Or.inr h4), sub 1 (by omega) (Or.inr h4)⟩, ?_, exc_refl P (F.exc h4)⟩, fun _ => same_refl _⟩
  obtain ⟨y, hy, hy1⟩ := F.heap h4
  show le hh.toNat hh.toNat = true
  have hy' : hh = y := hy
  rw [hy', Int.toNat_natCast]; exact P.refl y hy1
end Go.Proofs.Ytgbillimanpmnaa
