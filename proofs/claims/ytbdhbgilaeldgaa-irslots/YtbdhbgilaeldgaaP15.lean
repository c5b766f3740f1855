/- Layer 2: the bound of two formed types is formed. No program is walked here. -/
import Derived.Test.YtbdhbgilaeldgaaP14
import Derived.Deep.QuietTactic
import Derived.BigQuiet
import Derived.Test.YtbdhbgilaeldgaaP12
namespace Go.Proofs.Ytbdhbgilaeldgaa

theorem bnd_eq (n : Strs) (g : Grid) (k l h e : Int) (ao : Option Addr) (b o len cap : Nat) (ps : Nat → Ty) (t : Ty) (up : Bool) : Ty.bnd n g (.mk k l h e ao b o len cap ps) t up = .mk k (bndL n g l t.l up) (if k = 4 then bndL n g h t.h (!up) else 0) (if k = 4 then bndE n g e t.e up else 0) none 0 0 len 0 (fun i => Ty.bnd n g (ps i) (t.ps i) (up != (decide (k = 4) && decide (i = 0)))) := rfl
theorem bok_parts {s t : Ty} (h : s.bok t = true) : s.k = t.k ∧ (s.k = 5 → (s.ps 0).same (t.ps 0) = true) ∧ ∀ i, i < s.len → (s.ps i).bok (t.ps i) = true := by
  rcases s with _ | ⟨k, l, hh, e, ao, b, o, len, cap, ps⟩
  · cases h
  have h' : (((k == t.k) && (!(decide (k = 5)) || (ps 0).same (t.ps 0))) && decide (∀ i, i < len → Ty.bok (ps i) (t.ps i) = true)) = true := h
  rw [Bool.and_eq_true, Bool.and_eq_true, beq_iff_eq, decide_eq_true_eq] at h'
  refine ⟨h'.1.1, fun h5 => ?_, h'.2⟩
  have h5' : k = 5 := h5
  have := h'.1.2
  rw [decide_eq_true h5'] at this
  exact this
theorem inR_of {N x : Nat} (h : x < N) : inR N (x : Int) = true := by unfold inR; simp; omega
theorem bndE_is {n : Strs} {g : Grid} (hF : formedB n g = true) {a b : Int} (ha : IsE n.len a) (hb : IsE n.len b) (up : Bool) : IsE n.len (bndE n g a b up) := by
  cases up
  · exact (bndE_dn hF ha hb).1
  · exact (bndE_up hF ha hb).1
theorem bnd_fm {n : Strs} {g : Grid} (hF : formedB n g = true) : ∀ (s t : Ty) (d d' : Nat) (up : Bool), s.fm n.len d = true → t.fm n.len d' = true → s.bok t = true → (s.bnd n g t up).fm n.len d = true := by
  intro s
  induction s with
  | dm => intro t d d' up h; cases h
  | mk k l h e ao b o len cap ps ih =>
    intro t d d' up hs ht hk
    obtain ⟨gs, hd6, cs⟩ := fm_gd hs
    obtain ⟨gt, _, ct⟩ := fm_gd ht
    obtain ⟨e1, _, e3⟩ := bok_parts hk
    have e1' : k = t.k := e1
    have el : len = t.len := by
      have a1 : (len : Int) = arityI k := gs.ar
      have a2 := gt.ar
      rw [← e1'] at a2
      omega
    obtain ⟨x, hx, hx1⟩ : ∃ x : Nat, l = x ∧ x < n.len := inR_nat gs.lab
    obtain ⟨y, hy, hy1⟩ := inR_nat gt.lab
    rw [bnd_eq, fm_eq]
    simp only [Bool.and_eq_true, decide_eq_true_eq, beq_iff_eq]
    refine ⟨⟨⟨⟨hd6, gs.ar⟩, ?_⟩, ?_⟩, fun i hi => ih i (t.ps i) (d + 1) (d' + 1) _ (cs i hi) (ct i (by omega)) (e3 i hi)⟩
    · rw [hx, hy, bndL_nat hF hx1 hy1]
      exact inR_of (bl_is hF hx1 hy1 up).1
    · unfold bndI
      by_cases k4 : k = 4
      · have b1 : bndI n.len k h e = true := gs.bnd
        have b2 := gt.bnd
        rw [← e1', k4] at b2
        rw [k4] at b1
        obtain ⟨r1, r2⟩ := bnd4 b1
        obtain ⟨r3, r4⟩ := bnd4 b2
        obtain ⟨xh, hxh, hxh1⟩ := inR_nat r1
        obtain ⟨yh, hyh, hyh1⟩ := inR_nat r3
        rw [if_pos k4, if_pos k4, if_pos k4, Bool.and_eq_true, Bool.or_eq_true, beq_iff_eq]
        refine ⟨?_, ?_⟩
        · rw [hxh, hyh, bndL_nat hF hxh1 hyh1]
          exact inR_of (bl_is hF hxh1 hyh1 (!up)).1
        · rcases bndE_is hF (r2.imp (fun h => h) inR_nat) (r4.imp (fun h => h) inR_nat) up with q | ⟨z, hz, hz1⟩
          · exact Or.inl q
          · exact Or.inr (by rw [hz]; exact inR_of hz1)
      · rw [if_neg k4, if_neg k4, if_neg k4]; rfl
theorem bnd_nodes {n : Strs} {g : Grid} : ∀ (s t : Ty) (up : Bool), (s.bnd n g t up).nodes = s.nodes := by
  intro s
  induction s with
  | dm => intro t up; rfl
  | mk k l h e ao b o len cap ps ih =>
    intro t up
    rw [bnd_eq]
    show 1 + sumTo (fun i => (Ty.bnd n g (ps i) (t.ps i) (up != (decide (k = 4) && decide (i = 0)))).nodes) len = 1 + sumTo (fun i => (ps i).nodes) len
    rw [sum_congr len (fun i _ => ih i (t.ps i) _)]
theorem bnd_ok {n : Strs} {g : Grid} (hF : formedB n g = true) {s t : Ty} (up : Bool) (hs : s.ok n.len = true) (ht : t.ok n.len = true) (h : s.bok t = true) : (s.bnd n g t up).ok n.len = true := by
  have a := ok_parts hs
  have b := ok_parts ht
  unfold Ty.ok
  rw [bnd_fm hF s t 1 1 up a.1 b.1 h, bnd_nodes, decide_eq_true a.2]; rfl
end Go.Proofs.Ytbdhbgilaeldgaa

/- Layer 2: the bound of two formed types is one, and the least (greatest). No program is walked here. -/
namespace Go.Proofs.Ytbdhbgilaeldgaa

/-- s below u, if up, else u below s. -/
def D (le : Nat → Nat → Bool) (up : Bool) (s u : Ty) : Prop := (if up then s.bel le true u else u.bel le true s) = true
def dE (le : Nat → Nat → Bool) (up : Bool) (a b : Int) : Bool := if up then excB le a b else excB le b a
structure DS (le : Nat → Nat → Bool) (up : Bool) (s u : Ty) : Prop where
  k : s.k = u.k
  l : dir le up s.l.toNat u.l.toNat = true
  pair : s.k = 3 → D le up (s.ps 0) (u.ps 0) ∧ D le up (s.ps 1) (u.ps 1)
  func : s.k = 4 → (D le (!up) (s.ps 0) (u.ps 0) ∧ D le up (s.ps 1) (u.ps 1)) ∧ dir le (!up) s.h.toNat u.h.toNat = true ∧ dE le up s.e u.e = true
  ref : s.k = 5 → (s.ps 0).same (u.ps 0) = true
theorem D_iff {N : Nat} {le : Nat → Nat → Bool} {s u : Ty} (hs : Fd N s) (hu : Fd N u) (up : Bool) : D le up s u ↔ DS le up s u := by
  cases up
  · show u.bel le true s = true ↔ _
    rw [bel_iff hu hs]
    constructor
    · intro h
      refine ⟨h.k.symm, h.l, fun h3 => h.pair (h.k.trans h3), fun h4 => ?_, fun h5 => same_symm _ _ (h.ref (h.k.trans h5))⟩
      have f := h.func (h.k.trans h4)
      exact ⟨f.1, f.2⟩
    · intro h
      refine ⟨h.k.symm, h.l, fun h3 => h.pair (h.k.trans h3), fun h4 => ?_, fun h5 => same_symm _ _ (h.ref (h.k.trans h5))⟩
      have f := h.func (h.k.trans h4)
      exact ⟨f.1, f.2⟩
  · show s.bel le true u = true ↔ _
    rw [bel_iff hs hu]
    exact ⟨fun h => ⟨h.k, h.l, h.pair, h.func, h.ref⟩, fun h => ⟨h.k, h.l, h.pair, h.func, h.ref⟩⟩

theorem bndE_law {n : Strs} {g : Grid} (hF : formedB n g = true) {a b : Int} (ha : IsE n.len a) (hb : IsE n.len b) (up : Bool) : IsE n.len (bndE n g a b up) ∧ dE g.B up a (bndE n g a b up) = true ∧ dE g.B up b (bndE n g a b up) = true ∧ ∀ c, IsE n.len c → dE g.B up a c = true → dE g.B up b c = true → dE g.B up (bndE n g a b up) c = true := by
  cases up
  · exact bndE_dn hF ha hb
  · exact bndE_up hF ha hb
theorem bndE_same {n : Strs} {g : Grid} (hF : formedB n g = true) {a : Int} (ha : IsE n.len a) (up : Bool) : bndE n g a a up = a := by
  have P := po_of hF
  have h := bndE_law hF ha ha up
  have r : dE g.B up a a = true := by cases up <;> exact exc_refl P ha
  have h2 := h.2.2.2 a ha r r
  cases up
  · exact exc_anti P h.1 ha h.2.1 h2
  · exact exc_anti P h.1 ha h2 h.2.1

theorem bnd_v (n : Strs) (g : Grid) {s t : Ty} (hs : s ≠ .dm) (up : Bool) : (s.bnd n g t up).k = s.k ∧ (s.bnd n g t up).l = bndL n g s.l t.l up ∧ (s.bnd n g t up).h = (if s.k = 4 then bndL n g s.h t.h (!up) else 0) ∧ (s.bnd n g t up).e = (if s.k = 4 then bndE n g s.e t.e up else 0) ∧ (s.bnd n g t up).len = s.len ∧ ∀ i, (s.bnd n g t up).ps i = (s.ps i).bnd n g (t.ps i) (up != (decide (s.k = 4) && decide (i = 0))) := by
  rcases s with _ | ⟨k, l, h, e, ao, b, o, len, cap, ps⟩
  · exact absurd rfl hs
  · exact ⟨rfl, rfl, rfl, rfl, rfl, fun _ => rfl⟩

/-- What is the same has itself as bound. -/
theorem bnd_same {n : Strs} {g : Grid} (hF : formedB n g = true) : ∀ (s t : Ty) (up : Bool), Fd n.len s → Fd n.len t → s.same t = true → (s.bnd n g t up).same s = true := by
  intro s
  induction s with
  | dm => intro t up hs; exact absurd rfl hs.ne
  | mk k l h e ao b o len cap ps ih =>
    intro t up hs ht hq
    have v := bnd_v n g (t := t) hs.ne up
    rw [same_iff] at hq
    obtain ⟨⟨_, q2, q3, q4, q5⟩, q6⟩ := hq
    rw [same_iff]
    obtain ⟨x, hx, hx1⟩ := hs.lab
    refine ⟨⟨v.1, ?_, ?_, ?_, v.2.2.2.2.1⟩, fun i hi => ?_⟩
    · rw [v.2.1, ← q2, hx, bndL_nat hF hx1 hx1, bl_same hF hx1]
    · rw [v.2.2.1]
      by_cases k4 : (Ty.mk k l h e ao b o len cap ps).k = 4
      · obtain ⟨y, hy, hy1⟩ := hs.heap k4
        rw [if_pos k4, ← q3, hy, bndL_nat hF hy1 hy1, bl_same hF hy1]
      · rw [if_neg k4]; exact (hs.zero k4).1.symm
    · rw [v.2.2.2.1]
      by_cases k4 : (Ty.mk k l h e ao b o len cap ps).k = 4
      · rw [if_pos k4, ← q4]
        exact bndE_same hF (hs.exc k4) up
      · rw [if_neg k4]; exact (hs.zero k4).2.symm
    · have hi' : i < (Ty.mk k l h e ao b o len cap ps).len := by rw [← v.2.2.2.2.1]; exact hi
      rw [v.2.2.2.2.2 i]
      exact ih i (t.ps i) _ (hs.sub hi') (ht.sub (by rw [← q5]; exact hi')) (q6 i hi')

/-- The law of bounds. -/
theorem bnd_law {n : Strs} {g : Grid} (hF : formedB n g = true) : ∀ (s t : Ty) (up : Bool), (∃ d, s.fm n.len d = true) → (∃ d, t.fm n.len d = true) → s.bok t = true →
    D g.B up s (s.bnd n g t up) ∧ D g.B up t (s.bnd n g t up) ∧ ∀ u, Fd n.len u → D g.B up s u → D g.B up t u → D g.B up (s.bnd n g t up) u := by
  intro s
  induction s with
  | dm => intro t up ⟨d, h⟩; cases h
  | mk k l h e ao b o len cap ps ih =>
    intro t up ⟨d, hd⟩ ⟨d', hd'⟩ hk
    have hs := fd_of hd
    have ht := fd_of hd'
    have hB := fd_of (bnd_fm hF _ t d d' up hd hd' hk)
    have v := bnd_v n g (t := t) hs.ne up
    obtain ⟨e1, e2, e3⟩ := bok_parts hk
    have cs := (fm_gd hd).2.2
    have ct := (fm_gd hd').2.2
    have el : (Ty.mk k l h e ao b o len cap ps).len = t.len := by
      have a1 := hs.gd.ar
      have a2 := ht.gd.ar
      rw [← e1] at a2
      omega
    obtain ⟨x, hx, hx1⟩ := hs.lab
    obtain ⟨y, hy, hy1⟩ := ht.lab
    have hl : (Ty.bnd n g (Ty.mk k l h e ao b o len cap ps) t up).l = (bl g x y up : Int) := by rw [v.2.1, hx, hy]; exact bndL_nat hF hx1 hy1 up
    have L := bl_is hF hx1 hy1 up
    have sub : ∀ i, i < (Ty.mk k l h e ao b o len cap ps).len → ∀ up', D g.B up' (ps i) (Ty.bnd n g (ps i) (t.ps i) up') ∧ D g.B up' (t.ps i) (Ty.bnd n g (ps i) (t.ps i) up') ∧ ∀ u, Fd n.len u → D g.B up' (ps i) u → D g.B up' (t.ps i) u → D g.B up' (Ty.bnd n g (ps i) (t.ps i) up') u := fun i hi up' => ih i (t.ps i) up' ⟨_, cs i hi⟩ ⟨_, ct i (by omega)⟩ (e3 i hi)
    have p3 : ∀ i, (Ty.mk k l h e ao b o len cap ps).k = 3 → (Ty.bnd n g (Ty.mk k l h e ao b o len cap ps) t up).ps i = Ty.bnd n g (ps i) (t.ps i) up := fun i h3 => by
      rw [v.2.2.2.2.2 i, decide_eq_false (by omega)]; simp; rfl
    have p40 : (Ty.mk k l h e ao b o len cap ps).k = 4 → (Ty.bnd n g (Ty.mk k l h e ao b o len cap ps) t up).ps 0 = Ty.bnd n g (ps 0) (t.ps 0) (!up) := fun h4 => by
      rw [v.2.2.2.2.2 0, decide_eq_true h4]; simp; rfl
    have p41 : (Ty.mk k l h e ao b o len cap ps).k = 4 → (Ty.bnd n g (Ty.mk k l h e ao b o len cap ps) t up).ps 1 = Ty.bnd n g (ps 1) (t.ps 1) up := fun h4 => by
      rw [v.2.2.2.2.2 1]; simp; rfl
    have two : (Ty.mk k l h e ao b o len cap ps).k = 3 ∨ (Ty.mk k l h e ao b o len cap ps).k = 4 → ∀ i, i < 2 → i < (Ty.mk k l h e ao b o len cap ps).len := fun h34 i hi => by rw [hs.two h34]; exact hi
    have heap : (Ty.mk k l h e ao b o len cap ps).k = 4 → ∃ xh yh : Nat, (Ty.mk k l h e ao b o len cap ps).h = xh ∧ xh < n.len ∧ t.h = yh ∧ yh < n.len ∧ (Ty.bnd n g (Ty.mk k l h e ao b o len cap ps) t up).h = (bl g xh yh (!up) : Int) := fun h4 => by
      obtain ⟨xh, hxh, hxh1⟩ := hs.heap h4
      obtain ⟨yh, hyh, hyh1⟩ := ht.heap (e1 ▸ h4)
      exact ⟨xh, yh, hxh, hxh1, hyh, hyh1, by rw [v.2.2.1, if_pos h4, hxh, hyh]; exact bndL_nat hF hxh1 hyh1 (!up)⟩
    have same5 : (Ty.mk k l h e ao b o len cap ps).k = 5 → ((Ty.bnd n g (Ty.mk k l h e ao b o len cap ps) t up).ps 0).same (ps 0) = true := fun h5 => by
      have h1 := hs.one h5
      rw [v.2.2.2.2.2 0]
      exact bnd_same hF (ps 0) (t.ps 0) _ (hs.sub (i := 0) (by omega)) (ht.sub (by omega)) (e2 h5)
    refine ⟨?_, ?_, fun u hu d1 d2 => ?_⟩
    · rw [D_iff hs hB up]
      refine ⟨v.1.symm, by rw [hl, hx, Int.toNat_natCast, Int.toNat_natCast]; exact L.2.1, fun h3 => ?_, fun h4 => ?_, fun h5 => same_symm _ _ (same5 h5)⟩
      · rw [p3 0 h3, p3 1 h3]
        exact ⟨(sub 0 (two (Or.inl h3) 0 (by omega)) up).1, (sub 1 (two (Or.inl h3) 1 (by omega)) up).1⟩
      · rw [p40 h4, p41 h4]
        obtain ⟨xh, yh, a1, a2, a3, a4, a5⟩ := heap h4
        refine ⟨⟨(sub 0 (two (Or.inr h4) 0 (by omega)) (!up)).1, (sub 1 (two (Or.inr h4) 1 (by omega)) up).1⟩, ?_, ?_⟩
        · rw [a5, a1, Int.toNat_natCast, Int.toNat_natCast]; exact (bl_is hF a2 a4 (!up)).2.1
        · rw [v.2.2.2.1, if_pos h4]; exact (bndE_law hF (hs.exc h4) (ht.exc (e1 ▸ h4)) up).2.1
    · rw [D_iff ht hB up]
      refine ⟨e1.symm.trans v.1.symm, by rw [hl, hy, Int.toNat_natCast, Int.toNat_natCast]; exact L.2.2.1, fun h3' => ?_, fun h4' => ?_, fun h5' => ?_⟩
      · have h3 := e1.trans h3'
        rw [p3 0 h3, p3 1 h3]
        exact ⟨(sub 0 (two (Or.inl h3) 0 (by omega)) up).2.1, (sub 1 (two (Or.inl h3) 1 (by omega)) up).2.1⟩
      · have h4 := e1.trans h4'
        rw [p40 h4, p41 h4]
        obtain ⟨xh, yh, a1, a2, a3, a4, a5⟩ := heap h4
        refine ⟨⟨(sub 0 (two (Or.inr h4) 0 (by omega)) (!up)).2.1, (sub 1 (two (Or.inr h4) 1 (by omega)) up).2.1⟩, ?_, ?_⟩
        · rw [a5, a3, Int.toNat_natCast, Int.toNat_natCast]; exact (bl_is hF a2 a4 (!up)).2.2.1
        · rw [v.2.2.2.1, if_pos h4]; exact (bndE_law hF (hs.exc h4) (ht.exc h4') up).2.2.1
      · have h5 := e1.trans h5'
        exact same_trans _ _ _ (same_symm _ _ (e2 h5)) (same_symm _ _ (same5 h5))
    · rw [D_iff hs hu up] at d1
      rw [D_iff ht hu up] at d2
      rw [D_iff hB hu up]
      obtain ⟨z, hz, hz1⟩ := hu.lab
      refine ⟨v.1.trans d1.k, ?_, fun h3' => ?_, fun h4' => ?_, fun h5' => ?_⟩
      · have q1 := d1.l
        have q2 := d2.l
        rw [hx, hz, Int.toNat_natCast, Int.toNat_natCast] at q1
        rw [hy, hz, Int.toNat_natCast, Int.toNat_natCast] at q2
        rw [hl, hz, Int.toNat_natCast, Int.toNat_natCast]
        exact L.2.2.2 z hz1 q1 q2
      · have h3 := v.1.symm.trans h3'
        have u2 := hu.two (Or.inl (d1.k.symm.trans h3))
        have a := d1.pair h3
        have c := d2.pair (e1.symm.trans h3)
        rw [p3 0 h3, p3 1 h3]
        exact ⟨(sub 0 (two (Or.inl h3) 0 (by omega)) up).2.2 _ (hu.sub (by omega)) a.1 c.1, (sub 1 (two (Or.inl h3) 1 (by omega)) up).2.2 _ (hu.sub (by omega)) a.2 c.2⟩
      · have h4 := v.1.symm.trans h4'
        have hu4 := d1.k.symm.trans h4
        have u2 := hu.two (Or.inr hu4)
        have a := d1.func h4
        have c := d2.func (e1.symm.trans h4)
        rw [p40 h4, p41 h4]
        obtain ⟨xh, yh, a1, a2, a3, a4, a5⟩ := heap h4
        obtain ⟨zh, hzh, hzh1⟩ := hu.heap hu4
        refine ⟨⟨(sub 0 (two (Or.inr h4) 0 (by omega)) (!up)).2.2 _ (hu.sub (by omega)) a.1.1 c.1.1, (sub 1 (two (Or.inr h4) 1 (by omega)) up).2.2 _ (hu.sub (by omega)) a.1.2 c.1.2⟩, ?_, ?_⟩
        · have q1 := a.2.1
          have q2 := c.2.1
          rw [a1, hzh, Int.toNat_natCast, Int.toNat_natCast] at q1
          rw [a3, hzh, Int.toNat_natCast, Int.toNat_natCast] at q2
          rw [a5, hzh, Int.toNat_natCast, Int.toNat_natCast]
          exact (bl_is hF a2 a4 (!up)).2.2.2 zh hzh1 q1 q2
        · rw [v.2.2.2.1, if_pos h4]
          exact (bndE_law hF (hs.exc h4) (ht.exc (e1.symm.trans h4)) up).2.2.2 _ (hu.exc hu4) a.2.2 c.2.2
      · have h5 := v.1.symm.trans h5'
        exact same_trans _ _ _ (same5 h5) (d1.ref h5)
end Go.Proofs.Ytbdhbgilaeldgaa

/- Layer 2: there is a bound, if anything is above (below) both. No program is walked here. -/
namespace Go.Proofs.Ytbdhbgilaeldgaa

theorem bok_intro {N : Nat} {s t : Ty} (hs : Fd N s) (h1 : s.k = t.k) (h2 : s.k = 5 → (s.ps 0).same (t.ps 0) = true) (h3 : ∀ i, i < s.len → (s.ps i).bok (t.ps i) = true) : s.bok t = true := by
  rcases s with _ | ⟨k, l, hh, e, ao, b, o, len, cap, ps⟩
  · exact absurd rfl hs.ne
  show (((k == t.k) && (!(decide (k = 5)) || (ps 0).same (t.ps 0))) && decide (∀ i, i < len → Ty.bok (ps i) (t.ps i) = true)) = true
  have h1' : k = t.k := h1
  rw [Bool.and_eq_true, Bool.and_eq_true, beq_iff_eq, decide_eq_true_eq]
  refine ⟨⟨h1', ?_⟩, h3⟩
  by_cases h5 : k = 5
  · have : (ps 0).same (t.ps 0) = true := h2 h5
    rw [this, Bool.or_true]
  · rw [decide_eq_false h5]; rfl
theorem same_bok {N : Nat} : ∀ s t : Ty, Fd N s → Fd N t → s.same t = true → s.bok t = true := by
  intro s
  induction s with
  | dm => intro t hs; exact absurd rfl hs.ne
  | mk k l h e ao b o len cap ps ih =>
    intro t hs ht hq
    rw [same_iff] at hq
    obtain ⟨⟨q1, _, _, _, q5⟩, q6⟩ := hq
    refine bok_intro hs q1 (fun h5 => q6 0 (by rw [hs.one h5]; omega)) (fun i hi => ih i (t.ps i) (hs.sub (i := i) hi) (ht.sub (by omega)) (q6 i hi))
theorem bok_of {N : Nat} {le : Nat → Nat → Bool} : ∀ (s t u : Ty) (up : Bool), Fd N s → Fd N t → Fd N u → D le up s u → D le up t u → s.bok t = true := by
  intro s
  induction s with
  | dm => intro t u up hs; exact absurd rfl hs.ne
  | mk k l h e ao b o len cap ps ih =>
    intro t u up hs ht hu d1 d2
    rw [D_iff hs hu up] at d1
    rw [D_iff ht hu up] at d2
    have e1 := d1.k.trans d2.k.symm
    have same5 : (Ty.mk k l h e ao b o len cap ps).k = 5 → (ps 0).same (t.ps 0) = true := fun h5 => same_trans _ _ _ (d1.ref h5) (same_symm _ _ (d2.ref (e1.symm.trans h5)))
    refine bok_intro hs e1 same5 (fun i hi => ?_)
    have elt : (Ty.mk k l h e ao b o len cap ps).len = t.len := by
      have a1 := hs.gd.ar
      have a2 := ht.gd.ar
      rw [← e1] at a2
      omega
    have elu : (Ty.mk k l h e ao b o len cap ps).len = u.len := by
      have a1 := hs.gd.ar
      have a2 := hu.gd.ar
      rw [← d1.k] at a2
      omega
    have go := fun up' (x1 : D le up' (ps i) (u.ps i)) (x2 : D le up' (t.ps i) (u.ps i)) => ih i (t.ps i) (u.ps i) up' (hs.sub (i := i) hi) (ht.sub (by omega)) (hu.sub (by omega)) x1 x2
    by_cases h3 : (Ty.mk k l h e ao b o len cap ps).k = 3
    · have p1 := d1.pair h3
      have p2 := d2.pair (e1.symm.trans h3)
      have h2 := hs.two (Or.inl h3)
      by_cases e0 : i = 0
      · subst e0; exact go up p1.1 p2.1
      · have e1' : i = 1 := by omega
        subst e1'; exact go up p1.2 p2.2
    · by_cases h4 : (Ty.mk k l h e ao b o len cap ps).k = 4
      · have p1 := d1.func h4
        have p2 := d2.func (e1.symm.trans h4)
        have h2 := hs.two (Or.inr h4)
        by_cases e0 : i = 0
        · subst e0; exact go (!up) p1.1.1 p2.1.1
        · have e1' : i = 1 := by omega
          subst e1'; exact go up p1.1.2 p2.1.2
      · by_cases h5 : (Ty.mk k l h e ao b o len cap ps).k = 5
        · have h1 := hs.one h5
          have e0 : i = 0 := by omega
          subst e0
          exact same_bok (ps 0) (t.ps 0) (hs.sub (i := 0) hi) (ht.sub (by omega)) (same5 h5)
        · exfalso
          have a1 := hs.gd.ar
          unfold arityI at a1
          rw [if_neg h5, if_neg h3, if_neg h4] at a1
          split at a1
          · omega
          · split at a1 <;> omega

/-- No part of it is none. -/
def Ty.Nd : Ty → Prop
  | .dm => False
  | .mk _ _ _ _ _ _ _ len _ ps => ∀ i, i < len → Ty.Nd (ps i)
theorem Ty.At.nd {w : World} : ∀ {t : Ty}, t.At w → t.Nd
  | .dm, h => h
  | .mk _ _ _ _ _ _ _ _ _ _, h => fun i hi => Ty.At.nd (h.2.2 i hi).2
theorem bnd_nd {n : Strs} {g : Grid} : ∀ (s t : Ty) (up : Bool), s.Nd → (s.bnd n g t up).Nd
  | .dm, _, _, h => h
  | .mk _ _ _ _ _ _ _ _ _ ps, t, _, h => fun i hi => bnd_nd (ps i) (t.ps i) _ (h i hi)
/-- What is alike is formed alike. -/
theorem same_fm_nd {N : Nat} : ∀ s t : Ty, s.Nd → t.Nd → s.same t = true → (∀ d, s.fm N d = t.fm N d) ∧ s.nodes = t.nodes := by
  intro s
  induction s with
  | dm => intro t h; exact h.elim
  | mk k l hh e ao b o len cap ps ih =>
    intro t hs ht h
    rcases t with _ | ⟨tk, tl, th, te, tao, tb, to', tlen, tcap, tps⟩
    · exact ht.elim
    rw [same_iff] at h
    obtain ⟨⟨h1, h2, h3, h4, h5⟩, h6⟩ := h
    have h1' : k = tk := h1
    have h2' : l = tl := h2
    have h3' : hh = th := h3
    have h4' : e = te := h4
    have h5' : len = tlen := h5
    subst h1' h2' h3' h4' h5'
    have sub : ∀ i, i < len → (∀ d, (ps i).fm N d = (tps i).fm N d) ∧ (ps i).nodes = (tps i).nodes := fun i hi => ih i (tps i) (hs i hi) (ht i hi) (h6 i hi)
    refine ⟨fun d => ?_, ?_⟩
    · rw [fm_eq, fm_eq]
      congr 1
      rw [decide_eq_decide]
      exact ⟨fun hh i hi => by rw [← (sub i hi).1]; exact hh i hi, fun hh i hi => by rw [(sub i hi).1]; exact hh i hi⟩
    · show 1 + sumTo (fun i => (ps i).nodes) len = 1 + sumTo (fun i => (tps i).nodes) len
      rw [sum_congr len (fun i hi => (sub i hi).2)]

/-- What TypesLeast asks of a join (up) or meet, told as data. -/
structure BFacts (n : Strs) (g : Grid) (s t : Ty) (up : Bool) (ok : Bool) (j : Ty) : Prop where
  yes : ok = true → (if up then belB n g s j else belB n g j s) = true ∧ (if up then belB n g t j else belB n g j t) = true
  least : ∀ u, (if up then belB n g s u else belB n g u s) = true → (if up then belB n g t u else belB n g u t) = true → ok = true ∧ (if up then belB n g j u else belB n g u j) = true
theorem bnd_facts {n : Strs} {g : Grid} {s t j : Ty} {w w' : World} (up : Bool) (sA : s.At w') (jA : j.At w) (hj : ((okB n g s && okB n g t) && s.bok t) = true → j.same (s.bnd n g t up) = true) : BFacts n g s t up ((okB n g s && okB n g t) && s.bok t) j := by
  have main : ∀ (hF : formedB n g = true) (hs : s.ok n.len = true) (ht : t.ok n.len = true) (hk : s.bok t = true), j.ok n.len = true ∧ D g.B up s j ∧ D g.B up t j ∧ ∀ u, Fd n.len u → D g.B up s u → D g.B up t u → D g.B up j u := fun hF hs ht hk => by
    have P := po_of hF
    have bo := bnd_ok hF up hs ht hk
    have hjs := hj (by unfold okB; rw [hF, hs, ht, hk]; rfl)
    have sf := same_fm_nd (N := n.len) j (s.bnd n g t up) jA.nd (bnd_nd s t up sA.nd) hjs
    have jo : j.ok n.len = true := by unfold Ty.ok at bo ⊢; rw [sf.1, sf.2]; exact bo
    have law := bnd_law hF s t up ⟨1, (ok_parts hs).1⟩ ⟨1, (ok_parts ht).1⟩ hk
    have sm := same_bel P j (s.bnd n g t up) (fd_ok jo) (fd_ok bo) hjs
    refine ⟨jo, ?_, ?_, fun u hu d1 d2 => ?_⟩
    · cases up
      · exact (bel_trans P j (s.bnd n g t false) s (fd_ok jo) (fd_ok bo) (fd_ok hs)).1 sm.1 law.1
      · exact (bel_trans P s (s.bnd n g t true) j (fd_ok hs) (fd_ok bo) (fd_ok jo)).1 law.1 sm.2
    · cases up
      · exact (bel_trans P j (s.bnd n g t false) t (fd_ok jo) (fd_ok bo) (fd_ok ht)).1 sm.1 law.2.1
      · exact (bel_trans P t (s.bnd n g t true) j (fd_ok ht) (fd_ok bo) (fd_ok jo)).1 law.2.1 sm.2
    · have l := law.2.2 u hu d1 d2
      cases up
      · exact (bel_trans P u (s.bnd n g t false) j hu (fd_ok bo) (fd_ok jo)).1 l sm.2
      · exact (bel_trans P j (s.bnd n g t true) u (fd_ok jo) (fd_ok bo) hu).1 sm.1 l
  refine ⟨fun h => ?_, fun u h1 h2 => ?_⟩
  · rw [Bool.and_eq_true, Bool.and_eq_true] at h
    have o1 := h.1.1
    have o2 := h.1.2
    unfold okB at o1 o2
    rw [Bool.and_eq_true] at o1 o2
    obtain ⟨jo, d1, d2, _⟩ := main o1.1 o1.2 o2.2 h.2
    cases up
    · exact ⟨belB_iff.2 ⟨o1.1, jo, o1.2, d1⟩, belB_iff.2 ⟨o1.1, jo, o2.2, d2⟩⟩
    · exact ⟨belB_iff.2 ⟨o1.1, o1.2, jo, d1⟩, belB_iff.2 ⟨o1.1, o2.2, jo, d2⟩⟩
  · have key : formedB n g = true ∧ s.ok n.len = true ∧ t.ok n.len = true ∧ u.ok n.len = true ∧ D g.B up s u ∧ D g.B up t u := by
      cases up
      · have a := belB_iff.1 h1
        have c := belB_iff.1 h2
        exact ⟨a.1, a.2.2.1, c.2.2.1, a.2.1, a.2.2.2, c.2.2.2⟩
      · have a := belB_iff.1 h1
        have c := belB_iff.1 h2
        exact ⟨a.1, a.2.1, c.2.1, a.2.2.1, a.2.2.2, c.2.2.2⟩
    obtain ⟨hF, hs, ht, hu, d1, d2⟩ := key
    have hk := bok_of s t u up (fd_ok hs) (fd_ok ht) (fd_ok hu) d1 d2
    obtain ⟨jo, _, _, l⟩ := main hF hs ht hk
    have dj := l u (fd_ok hu) d1 d2
    refine ⟨by unfold okB; rw [hF, hs, ht, hk]; rfl, ?_⟩
    cases up
    · exact belB_iff.2 ⟨hF, hu, jo, dj⟩
    · exact belB_iff.2 ⟨hF, jo, hu, dj⟩
end Go.Proofs.Ytbdhbgilaeldgaa

/- Layer 10: types up to where they lie; raise, read. -/
namespace Go.Proofs.Ytbdhbgilaeldgaa
open Go Go.RowKit

theorem bel_sameL {n : Strs} {g : Grid} {u r t : Ty} (hu : u.Nd) (hr : r.Nd) (h : u.same r = true) : belB n g u t = belB n g r t := by
  have e := same_fm_nd (N := n.len) u r hu hr h
  have eo : u.ok n.len = r.ok n.len := by unfold Ty.ok; rw [e.1, e.2]
  unfold belB
  rw [eo]
  cases hF : formedB n g
  · rfl
  cases hr' : r.ok n.len
  · rfl
  cases ht : t.ok n.len
  · rfl
  have P := po_of hF
  have fu : Fd n.len u := fd_ok (eo.trans hr')
  have fr : Fd n.len r := fd_ok hr'
  have ft : Fd n.len t := fd_ok ht
  have sb := same_bel P u r fu fr h
  have key : u.bel g.B true t = true ↔ r.bel g.B true t = true := ⟨fun x => (bel_trans P r u t fr fu ft).1 sb.2 x, fun x => (bel_trans P u r t fu fr ft).1 sb.1 x⟩
  rw [Bool.true_and, Bool.true_and]
  exact Bool.eq_iff_iff.2 key
theorem bel_sameR {n : Strs} {g : Grid} {u r t : Ty} (hu : u.Nd) (hr : r.Nd) (h : u.same r = true) : belB n g t u = belB n g t r := by
  have e := same_fm_nd (N := n.len) u r hu hr h
  have eo : u.ok n.len = r.ok n.len := by unfold Ty.ok; rw [e.1, e.2]
  unfold belB
  rw [eo]
  cases hF : formedB n g
  · rfl
  cases ht : t.ok n.len
  · rfl
  cases hr' : r.ok n.len
  · rfl
  have P := po_of hF
  have fu : Fd n.len u := fd_ok (eo.trans hr')
  have fr : Fd n.len r := fd_ok hr'
  have ft : Fd n.len t := fd_ok ht
  have sb := same_bel P u r fu fr h
  have key : t.bel g.B true u = true ↔ t.bel g.B true r = true := ⟨fun x => (bel_trans P t u r ft fu fr).1 x sb.1, fun x => (bel_trans P t r u ft fr fu).1 x sb.2⟩
  rw [Bool.true_and, Bool.true_and]
  exact Bool.eq_iff_iff.2 key
theorem setL_nd {j : Int} : ∀ {t : Ty}, t.Nd → (t.setL j).Nd
  | .dm, h => h.elim
  | .mk _ _ _ _ _ _ _ _ _ _, h => h
theorem leaf_nd (k l : Int) : (leafT k l).Nd := (leaf_at k l default).nd
theorem raise_nd {n : Strs} {g : Grid} {t : Ty} {a : Int} (h : t.Nd) : (raiseT n g t a).Nd := by
  unfold raiseT; split
  · exact setL_nd h
  · exact leaf_nd _ _
theorem setL_same' {j : Int} : ∀ {s t : Ty}, s.Nd → t.Nd → s.same t = true → (s.setL j).same (t.setL j) = true
  | .dm, _, h, _, _ => h.elim
  | _, .dm, _, h, _ => h.elim
  | .mk _ _ _ _ _ _ _ _ _ _, .mk _ _ _ _ _ _ _ _ _ _, _, _, h => by
    rw [same_iff] at h ⊢
    exact ⟨⟨h.1.1, rfl, h.1.2.2⟩, h.2⟩
theorem raise_same {n : Strs} {g : Grid} {u r : Ty} {a : Int} (hu : u.Nd) (hr : r.Nd) (h : u.same r = true) : (raiseT n g u a).same (raiseT n g r a) = true := by
  have e := same_fm_nd (N := n.len) u r hu hr h
  have eo : okB n g u = okB n g r := by unfold okB Ty.ok; rw [e.1, e.2]
  have el : u.l = r.l := ((same_iff u r).1 h).1.2.1
  unfold raiseT
  rw [eo, el]
  split
  · exact setL_same' hu hr h
  · exact same_refl _

theorem hid {p : Prop} (h : p) : Hid p := h
/-- A type answered: it lies in old memory, below D, and in memory made since. -/
def TyRet (D : Nat) (r : Ty) (w : World) (e : Ending) (w' : World) : Prop := ∃ u : Ty, e = .returned (.agg u.vs.toArray) ∧ u.At w' ∧ u.Blk (fun b => b < D ∨ w.heap.size ≤ b) ∧ u.same r = true ∧ Below w.heap.size w w'
theorem Ty.vs_one (t : Ty) : t.vs.all (·.oneCell') = true := by simp [Ty.vs, Value.oneCell']
def zTv : List Value := [.int .i64 0, .int .i64 0, .slice none 0 0, .int .i64 0, .int .i64 0]
theorem Raise_ret (D : Nat) (n : Strs) (g : Grid) (t : Ty) (a : Int) (w : World) (hn : n.At w) (hg : g.At w) (ht : t.At w) :
    Calls Try.prog 81 #[.agg #[.slice n.ao n.len n.cap, .slice g.ao g.len g.cap], .agg t.vs.toArray, .int .i64 a] w (TyRet D (raiseT n g t a) w) :=
  (Raise_any n g t a w hn hg ht).mono fun _ _ ⟨u, h1, h2, h3, h4, h5⟩ => ⟨u, h1, h2, h3.mono (fun _ h => Or.inr h), h4, h5⟩
theorem TyRet.to {D : Nat} {r r' : Ty} {w : World} {e : Ending} {w' : World} (h : TyRet D r w e w') (hs : r.same r' = true) : TyRet D r' w e w' := by
  obtain ⟨u, h1, h2, h3, h4, h5⟩ := h
  exact ⟨u, h1, h2, h3, same_trans _ _ _ h4 hs, h5⟩
/-- A type stays where another block is written. -/
theorem Ty.At.wrote {w w' : World} {B D m : Nat} {c : List Value} {t : TypeId} {u : Ty} (h : u.At w) (hk : u.Blk (fun b => b < D ∨ m ≤ b)) (W : WroteB w w' B c t) (h1 : D ≤ B) (h2 : B < m) : u.At w' :=
  Ty.At.agree (Q := fun b => b < D ∨ m ≤ b) (fun b hb => W.other b (by omega)) h hk

set_option maxRecDepth 100000 in
set_option maxHeartbeats 4000000 in
theorem jraise_any (D : Nat) (j : Jd) (t : Ty) (a : Int) (w : World) (hn : j.n.At w) (hg : j.g.At w) (ht : t.At w) (hD : D ≤ w.heap.size) : Calls Try.prog 54 #[.agg j.va, .agg t.vs.toArray, .int .i64 a] w (TyRet D (raiseT j.n j.g t a) w) := by
  have H := allocs_heap [.cells j.va 57, .cells t.vs.toArray 39, .cells zTv.toArray 39] w
  have B0 := allocs_below [.cells j.va 57, .cells t.vs.toArray 39, .cells zTv.toArray 39] w
  have SZ := allocs_size [.cells j.va 57, .cells t.vs.toArray 39, .cells zTv.toArray 39] w
  simp only [List.foldl, List.length] at H B0 SZ
  have bJ : Blk _ w.heap.size j.vs 57 := H 0 (by simp)
  have bT : Blk _ (w.heap.size + 1) t.vs 39 := H 1 (by simp)
  have bZ : Blk _ (w.heap.size + 2) zTv 39 := H 2 (by simp)
  clear H
  have hR := Raise_ret D j.n j.g t a _ (hn.kept B0) (hg.kept B0) (ht.kept B0)
  have a0 := bJ.cell 0 (v := .slice j.n.ao j.n.len j.n.cap) rfl
  have a1 := bJ.cell 1 (v := .slice j.g.ao j.g.len j.g.cap) rfl
  clear hn hg ht bJ
  unfold zTv at hR B0 bT bZ a0 a1 SZ
  have HZ := hid SZ
  clear SZ
  go_enter Try.func54, Try.ntmps54
  go_wp2_with (refine wpList_load_mid rfl 39 (.tmp 4) rfl (w.heap.size + 1) 0 rfl t.vs _ bT.range Try.underlying39 rfl (by kernel_rfl) ?_)
  refine hR.mono ?_
  rintro _ w1 ⟨u, rfl, uA, uB, uS, hb1⟩
  have bZ1 := bZ.kept hb1
  have B1 := Below.next B0 hb1
  have HU : Hid (u.At w1 ∧ u.same (raiseT j.n j.g t a) = true ∧ u.Blk (fun b => b < D ∨ w.heap.size + 3 ≤ b)) := ⟨uA, uS, by rw [HZ.out] at uB; exact uB⟩
  clear hR uA uS uB hb1 B0 bZ bT a0 a1 HZ
  go_wp2_with (refine wpList_store_blk rfl rfl 39 (.tmp 6) (.tmp 11) rfl (w.heap.size + 2) u.vs (by kernel_rfl) (by kernel_rfl) u.vs_one bZ1 rfl (by kernel_rfl) ?_; intro w2 W2)
  have z0 := W2.blk.cell 0 (v := .int .i64 u.k) rfl
  have z1 := W2.blk.cell 1 (v := .int .i64 u.l) rfl
  have z2 := W2.blk.cell 2 (v := .slice u.ao u.len u.cap) rfl
  have z3 := W2.blk.cell 3 (v := .int .i64 u.h) rfl
  have z4 := W2.blk.cell 4 (v := .int .i64 u.e) rfl
  exact bodyPost_ret (v := .agg u.vs.toArray) (by simp [results, Try.results54, go_sem, z0, z1, z2, z3, z4, Ty.vs]) rfl ⟨u, rfl, HU.out.1.wrote HU.out.2.2 W2 (by omega) (by omega), HU.out.2.2.mono (fun b h => by omega), HU.out.2.1, W2.below (by omega) B1⟩
end Go.Proofs.Ytbdhbgilaeldgaa

/- Layer 10: a slot read. -/
namespace Go.Proofs.Ytbdhbgilaeldgaa
open Go Go.RowKit

theorem C5.row {w : World} {b o : Nat} {t : Ty} (h : C5 w b o t) : w.rangeAt b o t.vs := fun j v hv => by
  match j, hv with
  | 0, hv => rw [← Option.some.inj hv]; exact h.c0
  | 1, hv => rw [← Option.some.inj hv]; exact h.c1
  | 2, hv => rw [← Option.some.inj hv]; exact h.c2
  | 3, hv => rw [← Option.some.inj hv]; exact h.c3
  | 4, hv => rw [← Option.some.inj hv]; exact h.c4
  | _ + 5, hv => simp [Ty.vs] at hv
theorem quiet_load_row {C : World → Prop} {K : Act → Prop} {a : Act} {o : Oper} (ty : TypeId) (x : Operand) (ho : o.op = .load ty x) (b oo : Nat) (hx : a.eval x = .pointer (some ⟨b, oo, none⟩)) (cs : List Value) (d : TypeDesc) (hc : ∀ w, C w → w.rangeAt b oo cs)
    (hu : Try.prog.underlying ty = some d) (hd : d.isRow = true) (hi : (Try.prog.info? ty).map (·.size) = some cs.length) (h : K (a.put o.dst (.agg cs.toArray))) : o.quiet Try.prog a C K := by
  refine ⟨.agg cs.toArray, fun w hC => ?_, h⟩
  unfold Oper.quietAt execOp
  simp only [ho, hx, Sem.run_bind, run_loadAt_mid w b oo ty cs d (hc w hC) hu hd hi, Result.andThen_ok, Sem.run_pure]
  exact ⟨rfl, rfl⟩

set_option maxRecDepth 100000 in
set_option maxHeartbeats 4000000 in
theorem read_any (D : Nat) (j : Jd) (nd : Nd) (i : Int) (w : World) (hj : j.At w) (hD : D ≤ w.heap.size) (h0 : 0 ≤ i) (h1 : i < j.f.slots.len) : Calls Try.prog 77 #[.agg j.va, .agg nd.va, .int .i64 i] w (TyRet D (j.read nd i) w) := by
  obtain ⟨k, rfl⟩ : ∃ k : Nat, i = k := ⟨i.toNat, by omega⟩
  have hk : k < j.f.slots.len := by omega
  have H := allocs_heap [.cells j.va 57, .cells nd.va 46, .cells zTv.toArray 39] w
  have B0 := allocs_below [.cells j.va 57, .cells nd.va 46, .cells zTv.toArray 39] w
  have SZ := allocs_size [.cells j.va 57, .cells nd.va 46, .cells zTv.toArray 39] w
  simp only [List.foldl, List.length] at H B0 SZ
  have bJ : Blk _ w.heap.size j.vs 57 := H 0 (by simp)
  have bN : Blk _ (w.heap.size + 1) nd.vs 46 := H 1 (by simp)
  have bZ : Blk _ (w.heap.size + 2) zTv 39 := H 2 (by simp)
  have hj1 := hj.kept B0
  clear H
  unfold zTv at hj1 B0 bJ bN bZ SZ
  go_enter Try.func77, Try.ntmps77
  go_upto_region 1 with fail
  generalize (((w.alloc (.cells j.va 57)).alloc (.cells nd.va 46)).alloc (.cells #[.int .i64 0, .int .i64 0, .slice none 0 0, .int .i64 0, .int .i64 0] 39)) = w1 at *
  have HI : Hid (j.At w1 ∧ Below w.heap.size w w1 ∧ Blk w1 (w.heap.size + 2) [.int .i64 0, .int .i64 0, .slice none 0 0, .int .i64 0, .int .i64 0] 39 ∧ w1.heap.size = w.heap.size + 3) := ⟨hj1, B0, bZ, SZ⟩
  have hao := hj1.f.slots.nil (by omega)
  have c17 := bJ.cell 17 (v := .slice j.f.slots.ao j.f.slots.len j.f.slots.cap) rfl
  have c5 := bN.cell 5 (v := .int .i64 nd.h.env) rfl
  have hC0 : ∀ u, (∃ x : Gr w1, u = x.w) → u.rangeAt w.heap.size 0 j.vs := by rintro _ ⟨x, rfl⟩; exact (bJ.kept x.bl).range
  have hC1 : ∀ u, (∃ x : Gr w1, u = x.w) → u.rangeAt j.f.slots.b (j.f.slots.o + k * 5) (j.f.slots.ps k).vs := by rintro _ ⟨x, rfl⟩; exact C5.row ((hj1.f.slots.kept x.bl).cells hk)
  rw [hao] at c17
  have p17 := fun x => Gr.cell x c17
  have p5 := fun x => Gr.cell x c5
  have hNE : Nonempty (Gr w1) := ⟨⟨_, Below.refl _ _⟩⟩
  have hk' : (k : Int) < j.f.slots.len := h1
  clear SZ hj1 B0 bJ bN bZ c17 c5 hj hao
  refine wp_region_gr_tail 9 (by kernel_rfl) (by kernel_rfl) ?_
  simp only [List.take, List.drop]
  go_big_quiet_want
  refine quiet_load_row 57 (.tmp 3) rfl _ 0 (by kernel_rfl) j.vs _ hC0 Try.underlying57 rfl (by kernel_rfl) ?_
  simp only [Act.put, List.setIfInBounds_toArray, List.set_cons_succ, List.set_cons_zero]
  go_big_quiet_on
  iterate 5 go_big_quiet_step (fail)
  go_big_quiet_want
  refine quiet_load_row 39 (.tmp 12) rfl j.f.slots.b (j.f.slots.o + k * 5) (by kernel_rfl) (j.f.slots.ps k).vs _ hC1 Try.underlying39 rfl (by kernel_rfl) ?_
  simp only [Act.put, List.setIfInBounds_toArray, List.set_cons_succ, List.set_cons_zero]
  go_big_quiet_on
  iterate 2 go_big_quiet_step (fail)
  refine wpQuiet_nil ?_
  rintro w4 ⟨x4, rfl⟩
  have B5 := x4.bl
  generalize x4.w = w4 at B5 ⊢
  have hR := jraise_any D j (j.f.slots.ps k) nd.h.env w4 (HI.out.1.n.kept B5) (HI.out.1.g.kept B5) ((HI.out.1.f.slots.kept B5).part hk) (by have h1 := HI.out.2.1.size; have h2 := B5.size; omega)
  clear x4 p17 p5 hNE hC0 hC1
  go_wp2_with fail
  refine hR.mono ?_
  rintro _ w5 ⟨u, rfl, uA, uB, uS, hb1⟩
  have HU : Hid (u.At w5 ∧ u.same (j.read nd k) = true ∧ u.Blk (fun b => b < D ∨ w.heap.size + 3 ≤ b) ∧ Below w.heap.size w w5) := ⟨uA, uS, uB.mono (fun b h => by have h1 := HI.out.2.2.2; have h2 := B5.size; omega), Below.next (Below.next HI.out.2.1 B5) hb1⟩
  have bZ1 := (HI.out.2.2.1.kept B5).kept hb1
  clear hR uA uS uB hb1 B5 HI
  go_wp2_with (refine wpList_store_blk rfl rfl 39 (.tmp 6) (.tmp 16) rfl (w.heap.size + 2) u.vs (by kernel_rfl) (by kernel_rfl) u.vs_one bZ1 rfl (by kernel_rfl) ?_; intro w2 W2)
  have z0 := W2.blk.cell 0 (v := .int .i64 u.k) rfl
  have z1 := W2.blk.cell 1 (v := .int .i64 u.l) rfl
  have z2 := W2.blk.cell 2 (v := .slice u.ao u.len u.cap) rfl
  have z3 := W2.blk.cell 3 (v := .int .i64 u.h) rfl
  have z4 := W2.blk.cell 4 (v := .int .i64 u.e) rfl
  exact bodyPost_ret (v := .agg u.vs.toArray) (by simp [results, Try.results77, go_sem, z0, z1, z2, z3, z4, Ty.vs]) rfl ⟨u, rfl, HU.out.1.wrote HU.out.2.2.1 W2 (by omega) (by omega), HU.out.2.2.1.mono (fun b h => by omega), HU.out.2.1, W2.below (by omega) HU.out.2.2.2⟩
end Go.Proofs.Ytbdhbgilaeldgaa

/- A region that draws its order: all that only reads or moves comes first, wherever it stands; what is left is one behind the other. -/
namespace Go.Proofs.Ytbdhbgilaeldgaa
open Go Go.RowKit

section
variable {P : Program} {ops : Array Oper} {Q : Exit → Act → World → Prop}
def isReadM (o : Oper) : Bool := match o.op with
  | .load .. | .fieldAddr .. | .indexAddr .. | .extract .. | .move .. => true
  | _ => false
theorem readM_value {o : Oper} (h : isReadM o = true) (ρ : Operand → Value) (w w' : World) (n : Next) (hr : (execOp ρ o).run P w = .ok n w') : ∃ u, n = .value u := by
  cases ho : o.op
  case load => unfold execOp at hr; rw [ho] at hr; exact run_val hr
  case fieldAddr => unfold execOp at hr; rw [ho] at hr; exact run_val hr
  case indexAddr => unfold execOp at hr; rw [ho] at hr; exact run_val hr
  case extract => unfold execOp at hr; rw [ho] at hr; exact run_val hr
  case move => unfold execOp at hr; rw [ho] at hr; exact ⟨_, (Result.ok.inj hr).1.symm⟩
  all_goals (unfold isReadM at h; rw [ho] at h; cases h)
theorem yieldsIf_of_quietM {S : World → Prop} {o : Oper} {a : Act} {K : Act → Prop} (hr : isReadM o = true) (h : if Region.wanted o (yielded ops a.tmps) then o.quiet P a S K else K (a.put o.dst undef)) : ∃ v, YieldsIf P ops S o v a ∧ K (a.put o.dst v) := by
  by_cases hw : Region.wanted o (yielded ops a.tmps) = true
  · rw [if_pos hw] at h
    obtain ⟨v, h1, h2⟩ := h
    refine ⟨v, Or.inl ⟨hw, fun w hS => ?_⟩, h2⟩
    have h3 := h1 w hS
    unfold Oper.quietAt at h3
    cases hq : (execOp a.eval o).run P w with
    | ok n w' =>
      obtain ⟨u, rfl⟩ := readM_value hr _ _ _ _ hq
      rw [hq] at h3
      simp only [Oper.quietUpon] at h3
      rw [h3.1, h3.2]
    | halt x w' => rw [hq] at h3; simp only [Oper.quietUpon] at h3
  · rw [if_neg hw] at h
    exact ⟨undef, Or.inr ⟨by simpa using hw, rfl⟩, h⟩
def lexM (ops : Array Oper) : List Nat → List Oper → Array Bool → Bool
  | [], [], _ => true
  | i :: js, o :: l, listed => isReadM o && (Region.ready .any ops listed).contains i && Region.free .any ops listed i && lexM ops js l (listed.setIfInBounds i true)
  | _, _, _ => false
theorem wpAnyH_readsM {S : World → Prop} {K : Act → Prop} {rest : Nat} {w : World} (hs : Region.noSelect ops = true) (hQ : ∀ c a d v w, Q (.panic c) (Act.put a d v) w → Q (.panic c) a w) (hS : S w) : ∀ (js : List Nat) (l : List Oper) (listed : Array Bool) (a : Act), (∀ j, j < l.length → ∃ i, js[j]? = some i ∧ ops[i]? = l[j]?) →
    lexM ops js l listed = true → wpQuiet P ops S K l a → (∀ a', K a' → wpAnyH P .any ops Q S rest (listedI js listed) a' w) → wpAnyH P .any ops Q S (js.length + rest) listed a w
  | [], [], _, _, _, _, h, hK => by simpa [listedI] using hK _ h
  | [], _ :: _, _, _, _, hB, _, _ => by simp [lexM] at hB
  | _ :: _, [], _, _, _, hB, _, _ => by simp [lexM] at hB
  | i :: js, o :: l, listed, a, hl, hB, h, hK => by
    have h0 : ops[i]? = some o := by
      obtain ⟨i', h1, h2⟩ := hl 0 (by simp)
      have : i = i' := by simpa using h1
      subst this
      simpa using h2
    simp only [lexM, Bool.and_eq_true] at hB
    obtain ⟨⟨⟨hr, hc⟩, hf⟩, hB'⟩ := hB
    have h' : if Region.wanted o (yielded ops a.tmps) then o.quiet P a S (wpQuiet P ops S K l) else wpQuiet P ops S K l (a.put o.dst undef) := h
    obtain ⟨v, hy, hk⟩ := yieldsIf_of_quietM (ops := ops) hr h'
    rw [show (i :: js).length + rest = (js.length + rest) + 1 by simp; omega]
    exact wpAnyH_take h0 hs hf hc (fun c a w => hQ c a _ _ w) hy hS (wpAnyH_readsM hs hQ hS js l _ _ (fun j hj => by
      obtain ⟨i', h1, h2⟩ := hl (j + 1) (by simp; omega)
      exact ⟨i', by simpa using h1, by simpa using h2⟩) hB' hk hK)
/-- A region that draws: first all that only reads. -/
theorem wp_region_readsM {id : Nat} {a : Act} {w : World} {l : List Oper} (S : World → Prop) (js : List Nat) (rest : Nat) (hm : P.follows .mixedOrders = true) (hlen : l.length = js.length + rest) (hB : (Region.noSelect l.toArray && lexM l.toArray js (js.filterMap (l[·]?)) (Array.replicate l.length false)) = true) (hj : ∀ j, j < (js.filterMap (l[·]?)).length → ∃ i, js[j]? = some i ∧ l.toArray[i]? = (js.filterMap (l[·]?))[j]?)
    (hQ : ∀ c a d v w, Q (.panic c) (Act.put a d v) w → Q (.panic c) a w) (hS : S w.drew)
    (h : wpQuiet P l.toArray (fun u => ∃ x : Wd S, u = x.w) (fun a' => wpAnyH P .any l.toArray Q S rest (listedI js (Array.replicate l.length false)) a' w.drew) (js.filterMap (l[·]?)) a) : (Code.region id l.toArray true).wp P Q a w := by
  simp only [Bool.and_eq_true] at hB
  refine wp_region_held_drew (S := S) hm hS fun hS => ?_
  have e3 : Array.replicate l.toArray.size false = Array.replicate l.length false := by simp
  have e2 : l.toArray.size = js.length + rest := by simpa using hlen
  have eS : (fun u : World => ∃ x : Wd S, u = x.w) = S := by
    funext u; apply propext
    exact ⟨fun ⟨x, hx⟩ => hx ▸ x.2, fun h => ⟨⟨u, h⟩, rfl⟩⟩
  rw [eS] at h
  rw [e3, e2]
  exact wpAnyH_readsM hB.1 hQ hS js _ _ a hj hB.2 h (fun a' h => h)
end
/-- The same where nothing panics. -/
def NoPanM (Q : Exit → Act → World → Prop) (e : Exit) (a : Act) (w : World) : Prop := (∀ c, e ≠ .panic c) ∧ Q e a w
theorem wp_region_readsMN {P : Program} {Q : Exit → Act → World → Prop} {id : Nat} {a : Act} {w : World} {l : List Oper} (S : World → Prop) (js : List Nat) (rest : Nat) (hm : P.follows .mixedOrders = true) (hlen : l.length = js.length + rest) (hB : (Region.noSelect l.toArray && lexM l.toArray js (js.filterMap (l[·]?)) (Array.replicate l.length false)) = true) (hj : ∀ j, j < (js.filterMap (l[·]?)).length → ∃ i, js[j]? = some i ∧ l.toArray[i]? = (js.filterMap (l[·]?))[j]?)
    (hS : S w.drew)
    (h : wpQuiet P l.toArray (fun u => ∃ x : Wd S, u = x.w) (fun a' => wpAnyH P .any l.toArray (NoPanM Q) S rest (listedI js (Array.replicate l.length false)) a' w.drew) (js.filterMap (l[·]?)) a) : (Code.region id l.toArray true).wp P Q a w :=
  Code.wp_mono (fun _ _ _ h => h.2) (wp_region_readsM S js rest hm hlen hB hj (fun c _ _ _ _ h => absurd rfl (h.1 c)) hS h)
end Go.Proofs.Ytbdhbgilaeldgaa
