/- Layer 2: there is a bound, if anything is above (below) both. No program is walked here. -/
import Derived.Test.YtnkipiegjpjfbaaGreatDoorP13
import Derived.Deep.MidRow
namespace Go.Proofs.YtnkipiegjpjfbaaGreatDoor

theorem bok_intro {N : Nat} {s t : Ty} (hs : Fd N s) (h1 : s.k = t.k) (h2 : s.k = 5 → (s.ps 0).same (t.ps 0) = true) (h3 : ∀ i, i < s.len → (s.ps i).bok (t.ps i) = true) : s.bok t = true := by
  rcases s with _ | ⟨k, l, hh, e, ao, b, o, len, cap, ps⟩
  · exact absurd rfl hs.ne
  show (((k == t.k) && (!(decide (k = 5)) || (ps 0).same (t.ps 0))) && decide (∀ i, i < len → Ty.bok (ps i) (t.ps i) = true)) = true
  have h1' : k = t.k := h1
  rw [Bool.and_eq_true, Bool.and_eq_true, beq_iff_eq, decide_eq_true_eq]
  refine ⟨⟨h1', ?_⟩, h3⟩
  by_cases h5 : k = 5
  · have : (ps 0).same (t.ps 0) = true := h2 h5
    rw [this, Bool.or_true]
  · rw [decide_eq_false h5]; rfl
theorem same_bok {N : Nat} : ∀ s t : Ty, Fd N s → Fd N t → s.same t = true → s.bok t = true := by
  intro s
  induction s with
  | dm => intro t hs; exact absurd rfl hs.ne
  | mk k l h e ao b o len cap ps ih =>
    intro t hs ht hq
    rw [same_iff] at hq
    obtain ⟨⟨q1, _, _, _, q5⟩, q6⟩ := hq
    refine bok_intro hs q1 (fun h5 => q6 0 (by rw [hs.one h5]; omega)) (fun i hi => ih i (t.ps i) (hs.sub (i := i) hi) (ht.sub (by omega)) (q6 i hi))
theorem bok_of {N : Nat} {le : Nat → Nat → Bool} : ∀ (s t u : Ty) (up : Bool), Fd N s → Fd N t → Fd N u → D le up s u → D le up t u → s.bok t = true := by
  intro s
  induction s with
  | dm => intro t u up hs; exact absurd rfl hs.ne
  | mk k l h e ao b o len cap ps ih =>
    intro t u up hs ht hu d1 d2
    rw [D_iff hs hu up] at d1
    rw [D_iff ht hu up] at d2
    have e1 := d1.k.trans d2.k.symm
    have same5 : (Ty.mk k l h e ao b o len cap ps).k = 5 → (ps 0).same (t.ps 0) = true := fun h5 => same_trans _ _ _ (d1.ref h5) (same_symm _ _ (d2.ref (e1.symm.trans h5)))
    refine bok_intro hs e1 same5 (fun i hi => ?_)
    have elt : (Ty.mk k l h e ao b o len cap ps).len = t.len := by
      have a1 := hs.gd.ar
      have a2 := ht.gd.ar
      rw [← e1] at a2
      omega
    have elu : (Ty.mk k l h e ao b o len cap ps).len = u.len := by
      have a1 := hs.gd.ar
      have a2 := hu.gd.ar
      rw [← d1.k] at a2
      omega
    have go := fun up' (x1 : D le up' (ps i) (u.ps i)) (x2 : D le up' (t.ps i) (u.ps i)) => ih i (t.ps i) (u.ps i) up' (hs.sub (i := i) hi) (ht.sub (by omega)) (hu.sub (by omega)) x1 x2
    by_cases h3 : (Ty.mk k l h e ao b o len cap ps).k = 3
    · have p1 := d1.pair h3
      have p2 := d2.pair (e1.symm.trans h3)
      have h2 := hs.two (Or.inl h3)
      by_cases e0 : i = 0
      · subst e0; exact go up p1.1 p2.1
      · have e1' : i = 1 := by omega
        subst e1'; exact go up p1.2 p2.2
    · by_cases h4 : (Ty.mk k l h e ao b o len cap ps).k = 4
      · have p1 := d1.func h4
        have p2 := d2.func (e1.symm.trans h4)
        have h2 := hs.two (Or.inr h4)
        by_cases e0 : i = 0
        · subst e0; exact go (!up) p1.1.1 p2.1.1
        · have e1' : i = 1 := by omega
          subst e1'; exact go up p1.1.2 p2.1.2
      · by_cases h5 : (Ty.mk k l h e ao b o len cap ps).k = 5
        · have h1 := hs.one h5
          have e0 : i = 0 := by omega
          subst e0
          exact same_bok (ps 0) (t.ps 0) (hs.sub (i := 0) hi) (ht.sub (by omega)) (same5 h5)
        · exfalso
          have a1 := hs.gd.ar
          unfold arityI at a1
          rw [if_neg h5, if_neg h3, if_neg h4] at a1
          split at a1
          · omega
          · split at a1 <;> omega

/-- No part of it is none. -/
def Ty.Nd : Ty → Prop
  | .dm => False
  | .mk _ _ _ _ _ _ _ len _ ps => ∀ i, i < len → Ty.Nd (ps i)
theorem Ty.At.nd {w : World} : ∀ {t : Ty}, t.At w → t.Nd
  | .dm, h => h
  | .mk _ _ _ _ _ _ _ _ _ _, h => fun i hi => Ty.At.nd (h.2.2 i hi).2
theorem bnd_nd {n : Strs} {g : Grid} : ∀ (s t : Ty) (up : Bool), s.Nd → (s.bnd n g t up).Nd
  | .dm, _, _, h => h
  | .mk _ _ _ _ _ _ _ _ _ ps, t, _, h => fun i hi => bnd_nd (ps i) (t.ps i) _ (h i hi)
/-- What is alike is formed alike. -/
theorem same_fm_nd {N : Nat} : ∀ s t : Ty, s.Nd → t.Nd → s.same t = true → (∀ d, s.fm N d = t.fm N d) ∧ s.nodes = t.nodes := by
  intro s
  induction s with
  | dm => intro t h; exact h.elim
  | mk k l hh e ao b o len cap ps ih =>
    intro t hs ht h
    rcases t with _ | ⟨tk, tl, th, te, tao, tb, to', tlen, tcap, tps⟩
    · exact ht.elim
    rw [same_iff] at h
    obtain ⟨⟨h1, h2, h3, h4, h5⟩, h6⟩ := h
    have h1' : k = tk := h1
    have h2' : l = tl := h2
    have h3' : hh = th := h3
    have h4' : e = te := h4
    have h5' : len = tlen := h5
    subst h1' h2' h3' h4' h5'
    have sub : ∀ i, i < len → (∀ d, (ps i).fm N d = (tps i).fm N d) ∧ (ps i).nodes = (tps i).nodes := fun i hi => ih i (tps i) (hs i hi) (ht i hi) (h6 i hi)
    refine ⟨fun d => ?_, ?_⟩
    · rw [fm_eq, fm_eq]
      congr 1
      rw [decide_eq_decide]
      exact ⟨fun hh i hi => by rw [← (sub i hi).1]; exact hh i hi, fun hh i hi => by rw [(sub i hi).1]; exact hh i hi⟩
    · show 1 + sumTo (fun i => (ps i).nodes) len = 1 + sumTo (fun i => (tps i).nodes) len
      rw [sum_congr len (fun i hi => (sub i hi).2)]

/-- What TypesLeast asks of a join (up) or meet, told as data. -/
structure BFacts (n : Strs) (g : Grid) (s t : Ty) (up : Bool) (ok : Bool) (j : Ty) : Prop where
  yes : ok = true → (if up then belB n g s j else belB n g j s) = true ∧ (if up then belB n g t j else belB n g j t) = true
  least : ∀ u, (if up then belB n g s u else belB n g u s) = true → (if up then belB n g t u else belB n g u t) = true → ok = true ∧ (if up then belB n g j u else belB n g u j) = true
theorem bnd_facts {n : Strs} {g : Grid} {s t j : Ty} {w w' : World} (up : Bool) (sA : s.At w') (jA : j.At w) (hj : ((okB n g s && okB n g t) && s.bok t) = true → j.same (s.bnd n g t up) = true) : BFacts n g s t up ((okB n g s && okB n g t) && s.bok t) j := by
  have main : ∀ (hF : formedB n g = true) (hs : s.ok n.len = true) (ht : t.ok n.len = true) (hk : s.bok t = true), j.ok n.len = true ∧ D g.B up s j ∧ D g.B up t j ∧ ∀ u, Fd n.len u → D g.B up s u → D g.B up t u → D g.B up j u := fun hF hs ht hk => by
    have P := po_of hF
    have bo := bnd_ok hF up hs ht hk
    have hjs := hj (by unfold okB; rw [hF, hs, ht, hk]; rfl)
    have sf := same_fm_nd (N := n.len) j (s.bnd n g t up) jA.nd (bnd_nd s t up sA.nd) hjs
    have jo : j.ok n.len = true := by unfold Ty.ok at bo ⊢; rw [sf.1, sf.2]; exact bo
    have law := bnd_law hF s t up ⟨1, (ok_parts hs).1⟩ ⟨1, (ok_parts ht).1⟩ hk
    have sm := same_bel P j (s.bnd n g t up) (fd_ok jo) (fd_ok bo) hjs
    refine ⟨jo, ?_, ?_, fun u hu d1 d2 => ?_⟩
    · cases up
      · exact (bel_trans P j (s.bnd n g t false) s (fd_ok jo) (fd_ok bo) (fd_ok hs)).1 sm.1 law.1
      · exact (bel_trans P s (s.bnd n g t true) j (fd_ok hs) (fd_ok bo) (fd_ok jo)).1 law.1 sm.2
    · cases up
      · exact (bel_trans P j (s.bnd n g t false) t (fd_ok jo) (fd_ok bo) (fd_ok ht)).1 sm.1 law.2.1
      · exact (bel_trans P t (s.bnd n g t true) j (fd_ok ht) (fd_ok bo) (fd_ok jo)).1 law.2.1 sm.2
    · have l := law.2.2 u hu d1 d2
      cases up
      · exact (bel_trans P u (s.bnd n g t false) j hu (fd_ok bo) (fd_ok jo)).1 l sm.2
      · exact (bel_trans P j (s.bnd n g t true) u (fd_ok jo) (fd_ok bo) hu).1 sm.1 l
  refine ⟨fun h => ?_, fun u h1 h2 => ?_⟩
  · rw [Bool.and_eq_true, Bool.and_eq_true] at h
    have o1 := h.1.1
    have o2 := h.1.2
    unfold okB at o1 o2
    rw [Bool.and_eq_true] at o1 o2
    obtain ⟨jo, d1, d2, _⟩ := main o1.1 o1.2 o2.2 h.2
    cases up
    · exact ⟨belB_iff.2 ⟨o1.1, jo, o1.2, d1⟩, belB_iff.2 ⟨o1.1, jo, o2.2, d2⟩⟩
    · exact ⟨belB_iff.2 ⟨o1.1, o1.2, jo, d1⟩, belB_iff.2 ⟨o1.1, o2.2, jo, d2⟩⟩
  · have key : formedB n g = true ∧ s.ok n.len = true ∧ t.ok n.len = true ∧ u.ok n.len = true ∧ D g.B up s u ∧ D g.B up t u := by
      cases up
      · have a := belB_iff.1 h1
        have c := belB_iff.1 h2
        exact ⟨a.1, a.2.2.1, c.2.2.1, a.2.1, a.2.2.2, c.2.2.2⟩
      · have a := belB_iff.1 h1
        have c := belB_iff.1 h2
        exact ⟨a.1, a.2.1, c.2.1, a.2.2.1, a.2.2.2, c.2.2.2⟩
    obtain ⟨hF, hs, ht, hu, d1, d2⟩ := key
    have hk := bok_of s t u up (fd_ok hs) (fd_ok ht) (fd_ok hu) d1 d2
    obtain ⟨jo, _, _, l⟩ := main hF hs ht hk
    have dj := l u (fd_ok hu) d1 d2
    refine ⟨by unfold okB; rw [hF, hs, ht, hk]; rfl, ?_⟩
    cases up
    · exact belB_iff.2 ⟨hF, hu, jo, dj⟩
    · exact belB_iff.2 ⟨hF, jo, hu, dj⟩
end Go.Proofs.YtnkipiegjpjfbaaGreatDoor

/- Layer 3: whether a value fits a type: what it hangs on, and the answer as data. -/
namespace Go.Proofs.YtnkipiegjpjfbaaGreatDoor
open Go.RowKit

/-- A row of functions. -/
structure Fs where
  ao : Option Addr
  b : Nat
  o : Nat
  len : Nat
  cap : Nat
  f : Nat → Fn
structure Fs.At (w : World) (s : Fs) : Prop where
  nil : 0 < s.len → s.ao = some ⟨s.b, s.o, none⟩
  bound : s.len ≤ 9223372036854775807
  cells : ∀ i, i < s.len → F18 w s.b (s.o + i * 18) (s.f i)
  part : ∀ i, i < s.len → (s.f i).At w
theorem Fs.At.kept {w w' : World} {s : Fs} (h : s.At w) (hb : Below w.heap.size w w') : s.At w' := ⟨h.nil, h.bound, fun i hi => (h.cells i hi).kept hb, fun i hi => (h.part i hi).kept hb⟩
/-- A row of cells. -/
structure Cs where
  ao : Option Addr
  b : Nat
  o : Nat
  len : Nat
  cap : Nat
  t : Nat → Ty
  v : Nat → Vl
structure Cs.At (w : World) (s : Cs) : Prop where
  nil : 0 < s.len → s.ao = some ⟨s.b, s.o, none⟩
  bound : s.len ≤ 9223372036854775807
  ct : ∀ i, i < s.len → C5 w s.b (s.o + i * 8) (s.t i)
  cv : ∀ i, i < s.len → C3 w s.b (s.o + i * 8 + 5) (s.v i)
  pt : ∀ i, i < s.len → (s.t i).At w
  pv : ∀ i, i < s.len → (s.v i).At w
theorem Cs.At.kept {w w' : World} {s : Cs} (h : s.At w) (hb : Below w.heap.size w w') : s.At w' := ⟨h.nil, h.bound, fun i hi => (h.ct i hi).kept hb, fun i hi => (h.cv i hi).kept hb, fun i hi => (h.pt i hi).kept hb, fun i hi => (h.pv i hi).kept hb⟩

/-- What a fit hangs on, in a variable at block X. -/
structure Env (w : World) (X : Nat) (n : Strs) (g : Grid) (fs : Fs) (cs : Cs) : Prop where
  c0 : w.cell? ⟨X, 0, none⟩ = some (.slice n.ao n.len n.cap)
  c1 : w.cell? ⟨X, 1, none⟩ = some (.slice g.ao g.len g.cap)
  c2 : w.cell? ⟨X, 2, none⟩ = some (.slice fs.ao fs.len fs.cap)
  c3 : w.cell? ⟨X, 3, none⟩ = some (.slice cs.ao cs.len cs.cap)
  hn : n.At w
  hg : g.At w
  hf : fs.At w
  hc : cs.At w
theorem Env.kept {w w' : World} {X : Nat} {n : Strs} {g : Grid} {fs : Fs} {cs : Cs} (h : Env w X n g fs cs) (hb : Below w.heap.size w w') : Env w' X n g fs cs := ⟨up hb h.c0, up hb h.c1, up hb h.c2, up hb h.c3, h.hn.kept hb, h.hg.kept hb, h.hf.kept hb, h.hc.kept hb⟩

/-- Whether a value fits a type, of a formed lattice and both being formed. -/
def Vl.fit (n : Strs) (g : Grid) (fs : Fs) (cs : Cs) : Vl → Ty → Bool
  | .dm, _ => false
  | .mk k m _ _ _ len _ ps, t => (t.k == k) && (if k = 3 then Vl.fit n g fs cs (ps 0) (t.ps 0) && Vl.fit n g fs cs (ps 1) (t.ps 1) else if k = 4 then (decide (m < fs.len) && ((len == (fs.f m.toNat).c.len) && belB n g (typeT n g (fs.f m.toNat)) t)) && decide (∀ i, i < len → (okB n g ((fs.f m.toNat).c.ps i) && Vl.fit n g fs cs (ps i) ((fs.f m.toNat).c.ps i)) = true) else if k = 5 then decide (m < cs.len) && (cs.t m.toNat).same (t.ps 0) else true)
/-- The part of a Fun. -/
def funB (n : Strs) (g : Grid) (fs : Fs) (cs : Cs) (m : Int) (len : Nat) (ps : Nat → Vl) (t : Ty) : Bool := (decide (m < fs.len) && ((len == (fs.f m.toNat).c.len) && belB n g (typeT n g (fs.f m.toNat)) t)) && decide (∀ i, i < len → (okB n g ((fs.f m.toNat).c.ps i) && Vl.fit n g fs cs (ps i) ((fs.f m.toNat).c.ps i)) = true)

/-- The contract of fits, of one value. -/
def FC (n : Strs) (g : Grid) (fs : Fs) (cs : Cs) (v : Vl) : Prop :=
  ∀ (t : Ty) (w : World) (X : Nat), Env w X n g fs cs → (∃ d, t.fm n.len d = true) → v.fm = true → t.At w → v.At w →
    Calls Tryz.prog 25 #[.pointer (some ⟨X, 0, none⟩), .agg #[.int .i64 t.k, .int .i64 t.l, .slice t.ao t.len t.cap, .int .i64 t.h, .int .i64 t.e], .agg #[.int .i64 v.k, .int .i64 v.m, .slice v.ao v.len v.cap]] w fun e w' => e = .returned (.bool (v.fit n g fs cs t)) ∧ Below w.heap.size w w'
theorem vfm_parts {k m : Int} {ao : Option Addr} {b o len cap : Nat} {ps : Nat → Vl} (h : Vl.fm (.mk k m ao b o len cap ps) = true) : ndB k m len = true ∧ ∀ i, i < len → (ps i).fm = true := by
  have h' : (ndB k m len && decide (∀ i, i < len → Vl.fm (ps i) = true)) = true := h
  rw [Bool.and_eq_true, decide_eq_true_eq] at h'
  exact h'
theorem nd_fun {m : Int} {len : Nat} (h : ndB 4 m len = true) : 0 ≤ m ∧ m < 60 := by
  simp only [ndB] at h
  simp at h
  exact h
theorem nd_pair {m : Int} {len : Nat} (h : ndB 3 m len = true) : len = 2 := by
  simp only [ndB] at h
  simp at h
  exact h.1
theorem nd_ref {m : Int} {len : Nat} (h : ndB 5 m len = true) : 0 ≤ m := by
  simp only [ndB] at h
  simp at h
  exact h.1.2
theorem bel_same {n : Strs} {g : Grid} {u r t : Ty} (hu : u.Nd) (hr : r.Nd) (h : u.same r = true) : belB n g u t = belB n g r t := by
  have e := same_fm_nd (N := n.len) u r hu hr h
  have eo : u.ok n.len = r.ok n.len := by unfold Ty.ok; rw [e.1, e.2]
  unfold belB
  rw [eo]
  cases hF : formedB n g
  · rfl
  cases hr' : r.ok n.len
  · rfl
  cases ht : t.ok n.len
  · rfl
  have P := po_of hF
  have fu : Fd n.len u := fd_ok (eo.trans hr')
  have fr : Fd n.len r := fd_ok hr'
  have ft : Fd n.len t := fd_ok ht
  have sb := same_bel P u r fu fr h
  have key : u.bel g.B true t = true ↔ r.bel g.B true t = true := ⟨fun x => (bel_trans P r u t fr fu ft).1 sb.2 x, fun x => (bel_trans P u r t fu fr ft).1 sb.1 x⟩
  rw [Bool.true_and, Bool.true_and]
  exact Bool.eq_iff_iff.2 key
theorem type_nd {n : Strs} {g : Grid} {f : Fn} {w : World} (hf : f.At w) : (typeT n g f).Nd := by
  unfold typeT raiseT
  split
  · intro i hi
    show (if i = 0 then f.p else f.r).Nd
    split
    · exact hf.p.nd
    · exact hf.r.nd
  · exact fun _ h => absurd h (Nat.not_lt_zero _)
end Go.Proofs.YtnkipiegjpjfbaaGreatDoor

/- Layer 3: a function loaded and stored whole. -/
namespace Go.Proofs.YtnkipiegjpjfbaaGreatDoor
open Go.RowKit

/-- A function's eighteen values. -/
def Fn.vs (f : Fn) : List Value := [.int .i64 f.p.k, .int .i64 f.p.l, .slice f.p.ao f.p.len f.p.cap, .int .i64 f.p.h, .int .i64 f.p.e, .int .i64 f.r.k, .int .i64 f.r.l, .slice f.r.ao f.r.len f.r.cap, .int .i64 f.r.h, .int .i64 f.r.e, .slice f.c.ao f.c.len f.c.cap, .int .i64 f.h, .int .i64 f.e, .int .i64 f.sl, .slice f.cd.ao f.cd.len f.cd.cap, .slice f.hd.ao f.hd.len f.hd.cap, .slice f.pt.ao f.pt.len f.pt.cap, .slice f.rg.ao f.rg.len f.rg.cap]
theorem F18.range {w : World} {b o : Nat} {f : Fn} (h : F18 w b o f) : w.rangeAt b o f.vs := fun j v hv => by
  match j, hv with
  | 0, hv => rw [← hv]; exact h.c0
  | 1, hv => rw [← hv]; exact h.c1
  | 2, hv => rw [← hv]; exact h.c2
  | 3, hv => rw [← hv]; exact h.c3
  | 4, hv => rw [← hv]; exact h.c4
  | 5, hv => rw [← hv]; exact h.c5
  | 6, hv => rw [← hv]; exact h.c6
  | 7, hv => rw [← hv]; exact h.c7
  | 8, hv => rw [← hv]; exact h.c8
  | 9, hv => rw [← hv]; exact h.c9
  | 10, hv => rw [← hv]; exact h.c10
  | 11, hv => rw [← hv]; exact h.c11
  | 12, hv => rw [← hv]; exact h.c12
  | 13, hv => rw [← hv]; exact h.c13
  | 14, hv => rw [← hv]; exact h.c14
  | 15, hv => rw [← hv]; exact h.c15
  | 16, hv => rw [← hv]; exact h.c16
  | 17, hv => rw [← hv]; exact h.c17
  | _ + 18, hv => simp [Fn.vs] at hv
theorem Bf.range {w : World} {B : Nat} {f : Fn} (h : Bf w B f) : w.rangeAt B 0 f.vs := fun j v hv => by
  rw [Nat.zero_add]
  match j, hv with
  | 0, hv => rw [← hv]; exact h.c0
  | 1, hv => rw [← hv]; exact h.c1
  | 2, hv => rw [← hv]; exact h.c2
  | 3, hv => rw [← hv]; exact h.c3
  | 4, hv => rw [← hv]; exact h.c4
  | 5, hv => rw [← hv]; exact h.c5
  | 6, hv => rw [← hv]; exact h.c6
  | 7, hv => rw [← hv]; exact h.c7
  | 8, hv => rw [← hv]; exact h.c8
  | 9, hv => rw [← hv]; exact h.c9
  | 10, hv => rw [← hv]; exact h.c10
  | 11, hv => rw [← hv]; exact h.c11
  | 12, hv => rw [← hv]; exact h.c12
  | 13, hv => rw [← hv]; exact h.c13
  | 14, hv => rw [← hv]; exact h.c14
  | 15, hv => rw [← hv]; exact h.c15
  | 16, hv => rw [← hv]; exact h.c16
  | 17, hv => rw [← hv]; exact h.c17
  | _ + 18, hv => simp [Fn.vs] at hv
theorem Bf.of_range {w : World} {B : Nat} {f : Fn} (h : w.rangeAt B 0 f.vs) : Bf w B f := by
  have key : ∀ j v, f.vs[j]? = some v → w.cell? ⟨B, j, none⟩ = some v := fun j v hv => by have := h j v hv; rwa [Nat.zero_add] at this
  exact ⟨key 0 _ rfl, key 1 _ rfl, key 2 _ rfl, key 3 _ rfl, key 4 _ rfl, key 5 _ rfl, key 6 _ rfl, key 7 _ rfl, key 8 _ rfl, key 9 _ rfl, key 10 _ rfl, key 11 _ rfl, key 12 _ rfl, key 13 _ rfl, key 14 _ rfl, key 15 _ rfl, key 16 _ rfl, key 17 _ rfl⟩
theorem Below.setCells {B : Nat} {a : World} {b : Nat} (hb : B ≤ b) : ∀ (vs : List Value) (o : Nat) (w : World), Below B a w → Below B a (w.setCells b o vs)
  | [], _, _, h => h
  | v :: vs, o, _, h => Below.setCells hb vs (o + 1) _ (h.setCell hb v)
theorem there_new (w : World) (cs : Array Value) (t : TypeId) (n : Nat) (hn : n = cs.size) : (w.alloc (.cells cs t)).drew.there w.heap.size 0 n := fun j hj => by
  subst hn
  refine ⟨?_, frozen_new _ _ _ _⟩
  show ((w.alloc (.cells cs t)).cell? ⟨w.heap.size, 0 + j, none⟩).isSome = true
  simp [hj]
theorem vs_one (f : Fn) : f.vs.toArray.all (·.oneCell') = true := by simp [Fn.vs, Value.oneCell']
theorem load_fn {w : World} {b o : Nat} {f : Fn} (h : w.rangeAt b o f.vs) : (Instr.loadAt 45 (.pointer (some ⟨b, o, none⟩))).run Tryz.prog w = .ok (.agg f.vs.toArray) w :=
  run_loadAt_mid w b o 45 f.vs _ h Tryz.underlying45 rfl (by kernel_rfl)
end Go.Proofs.YtnkipiegjpjfbaaGreatDoor
