/- Layer 2: Below. -/
import Derived.Test.YtbdhbgilaeldgaaGreatP10
import Derived.Deep.AppendLies
namespace Go.Proofs.YtbdhbgilaeldgaaGreat
open Go.RowKit

theorem fm_gd {N d : Nat} {t : Ty} (h : t.fm N d = true) : Gd N t ∧ d ≤ 6 ∧ ∀ i, i < t.len → (t.ps i).fm N (d + 1) = true := by
  rcases t with _ | ⟨k, l, h', e, ao, b, o, len, cap, ps⟩
  · cases h
  rw [fm_eq] at h
  simp only [Bool.and_eq_true, decide_eq_true_eq, beq_iff_eq] at h
  exact ⟨⟨h.1.1.1.2, h.1.1.2, h.1.2⟩, h.1.1.1.1, h.2⟩
theorem nodes_part {t : Ty} {i : Nat} (h : i < t.len) : (t.ps i).nodes < t.nodes := by
  rw [pn_nodes t]
  have := sumTo_le (fun i => (t.ps i).nodes) h
  unfold Ty.pn
  omega
theorem arity_two {k : Int} (h : k = 3 ∨ k = 4) : arityI k = 2 := by rcases h with h | h <;> subst h <;> rfl
theorem bel_up (le : Nat → Nat → Bool) (s t : Ty) (hs : s ≠ .dm) : s.bel le true t = stepB le s t (if s.k = 4 then (s.ps 0).bel le false (t.ps 0) else (s.ps 0).bel le true (t.ps 0)) ((s.ps 1).bel le true (t.ps 1)) := by
  rcases s with _ | ⟨k, l, h, e, ao, b, o, len, cap, ps⟩
  · exact absurd rfl hs
  clear hs
  show (((k == t.k) && le l.toNat t.l.toNat) && (if k = 3 then (ps 0).bel le true (t.ps 0) && (ps 1).bel le true (t.ps 1) else if k = 4 then (((ps 0).bel le false (t.ps 0) && (ps 1).bel le true (t.ps 1)) && le t.h.toNat h.toNat) && excB le e t.e else if k = 5 then (ps 0).same (t.ps 0) else true)) = (((k == t.k) && le l.toNat t.l.toNat) && (if k = 3 then (if k = 4 then (ps 0).bel le false (t.ps 0) else (ps 0).bel le true (t.ps 0)) && (ps 1).bel le true (t.ps 1) else if k = 4 then (((if k = 4 then (ps 0).bel le false (t.ps 0) else (ps 0).bel le true (t.ps 0)) && (ps 1).bel le true (t.ps 1)) && le t.h.toNat h.toNat) && excB le e t.e else if k = 5 then (ps 0).same (t.ps 0) else true))
  by_cases h3 : k = 3
  · subst h3; rfl
  · by_cases h4 : k = 4
    · subst h4; rfl
    · simp only [if_neg h3, if_neg h4]
theorem bel_dn (le : Nat → Nat → Bool) (s t : Ty) (hs : s ≠ .dm) : s.bel le false t = stepB le t s (if t.k = 4 then (s.ps 0).bel le true (t.ps 0) else (s.ps 0).bel le false (t.ps 0)) ((s.ps 1).bel le false (t.ps 1)) := by
  rcases s with _ | ⟨k, l, h, e, ao, b, o, len, cap, ps⟩
  · exact absurd rfl hs
  clear hs
  show (((t.k == k) && le t.l.toNat l.toNat) && (if t.k = 3 then (ps 0).bel le false (t.ps 0) && (ps 1).bel le false (t.ps 1) else if t.k = 4 then (((ps 0).bel le true (t.ps 0) && (ps 1).bel le false (t.ps 1)) && le h.toNat t.h.toNat) && excB le t.e e else if t.k = 5 then (t.ps 0).same (ps 0) else true)) = (((t.k == k) && le t.l.toNat l.toNat) && (if t.k = 3 then (if t.k = 4 then (ps 0).bel le true (t.ps 0) else (ps 0).bel le false (t.ps 0)) && (ps 1).bel le false (t.ps 1) else if t.k = 4 then (((if t.k = 4 then (ps 0).bel le true (t.ps 0) else (ps 0).bel le false (t.ps 0)) && (ps 1).bel le false (t.ps 1)) && le h.toNat t.h.toNat) && excB le t.e e else if t.k = 5 then (t.ps 0).same (ps 0) else true))
  by_cases h3 : t.k = 3
  · simp only [if_pos h3, if_neg (show ¬ t.k = 4 by omega)]
  · by_cases h4 : t.k = 4
    · simp only [if_pos h4, if_neg h3]
    · simp only [if_neg h3, if_neg h4]

theorem below_ct (n : Strs) (gb go gcap : Nat) (gA : Nat → Option Addr) (gL gC gAB gAO : Nat → Nat) (gB : Nat → Nat → Bool) (hF : Hid (formedB n (fgrid n.len gb go gcap gA gL gC gAB gAO gB) = true)) :
    ∀ s t : Ty, (∃ d, s.fm n.len d = true) → (∃ d, t.fm n.len d = true) → s.nodes ≤ 1000 → t.nodes ≤ 1000 → Ct n gb go gcap gA gL gC gAB gAO gB s t (s.bel gB true t) ∧ Ct n gb go gcap gA gL gC gAB gAO gB t s (s.bel gB false t) := by
  intro s
  induction s with
  | dm => intro t ⟨d, hd⟩; cases hd
  | mk sk sl sh se sao sb so slen scap sps ih =>
    intro t ⟨d, hd⟩ ⟨d', hd'⟩ h1 h2
    rcases t with _ | ⟨tk, tl, th, te, tao, tb, to', tlen, tcap, tps⟩
    · cases hd'
    obtain ⟨gs, _, cs⟩ := fm_gd hd
    obtain ⟨gt, _, ct⟩ := fm_gd hd'
    have a1 : (slen : Int) = arityI sk := gs.ar
    have a2 : (tlen : Int) = arityI tk := gt.ar
    have sub : ∀ i, i < slen → i < tlen → Ct n gb go gcap gA gL gC gAB gAO gB (sps i) (tps i) ((sps i).bel gB true (tps i)) ∧ Ct n gb go gcap gA gL gC gAB gAO gB (tps i) (sps i) ((sps i).bel gB false (tps i)) := fun i hi hi' =>
      ih i (tps i) ⟨_, cs i hi⟩ ⟨_, ct i hi'⟩ (by have : (sps i).nodes < _ := nodes_part (t := .mk sk sl sh se sao sb so slen scap sps) hi; omega) (by have : (tps i).nodes < _ := nodes_part (t := .mk tk tl th te tao tb to' tlen tcap tps) hi'; omega)
    have two : ∀ k : Int, (k = 3 ∨ k = 4) → arityI k = 2 := fun k h => arity_two h
    have pnS : sk = 5 → (sps 0).pn ≤ 1000 := fun h => by
      subst h
      have h5 : arityI 5 = 1 := rfl
      have hh : (sps 0).nodes < _ := nodes_part (t := .mk 5 sl sh se sao sb so slen scap sps) (i := 0) (by show 0 < slen; omega)
      have := pn_nodes (sps 0)
      omega
    have pnT : tk = 5 → (tps 0).pn ≤ 1000 := fun h => by
      subst h
      have h5 : arityI 5 = 1 := rfl
      have hh : (tps 0).nodes < _ := nodes_part (t := .mk 5 tl th te tao tb to' tlen tcap tps) (i := 0) (by show 0 < tlen; omega)
      have := pn_nodes (tps 0)
      omega
    refine ⟨?_, ?_⟩
    · rw [bel_up _ _ _ (by intro h; cases h)]
      refine below_step n gb go gcap gA gL gC gAB gAO gB hF sk sl sh se sao sb so slen scap sps tk tl th te tao tb to' tlen tcap tps gs gt _ _ (fun h => ?_) (fun h => ?_) (fun h => ?_) pnS
      · obtain ⟨rfl, rfl⟩ := h
        have := two 3 (Or.inl rfl)
        exact (sub 0 (by omega) (by omega)).1
      · obtain ⟨rfl, rfl⟩ := h
        have := two 4 (Or.inr rfl)
        exact (sub 0 (by omega) (by omega)).2
      · rcases h with ⟨rfl, rfl⟩ | ⟨rfl, rfl⟩
        · have := two 3 (Or.inl rfl)
          exact (sub 1 (by omega) (by omega)).1
        · have := two 4 (Or.inr rfl)
          exact (sub 1 (by omega) (by omega)).1
    · rw [bel_dn _ _ _ (by intro h; cases h)]
      refine below_step n gb go gcap gA gL gC gAB gAO gB hF tk tl th te tao tb to' tlen tcap tps sk sl sh se sao sb so slen scap sps gt gs _ _ (fun h => ?_) (fun h => ?_) (fun h => ?_) pnT
      · obtain ⟨rfl, rfl⟩ := h
        have := two 3 (Or.inl rfl)
        exact (sub 0 (by omega) (by omega)).2
      · obtain ⟨rfl, rfl⟩ := h
        have := two 4 (Or.inr rfl)
        exact (sub 0 (by omega) (by omega)).1
      · rcases h with ⟨rfl, rfl⟩ | ⟨rfl, rfl⟩
        · have := two 3 (Or.inl rfl)
          exact (sub 1 (by omega) (by omega)).2
        · have := two 4 (Or.inr rfl)
          exact (sub 1 (by omega) (by omega)).2

/-- What Below tells. -/
def belB (n : Strs) (g : Grid) (s t : Ty) : Bool := (formedB n g && (s.ok n.len && t.ok n.len)) && s.bel g.B true t
theorem ok_parts {N : Nat} {t : Ty} (h : t.ok N = true) : t.fm N 1 = true ∧ t.nodes ≤ 40 := by
  unfold Ty.ok at h
  rw [Bool.and_eq_true, decide_eq_true_eq] at h
  exact h

set_option maxRecDepth 100000 in
set_option maxHeartbeats 2000000 in
theorem Below_any2 (n : Strs) (g : Grid) (s t : Ty) (w : World) (hn : n.At w) (hg : g.At w) (hs : s.At w) (ht : t.At w) :
    Calls Tryz.prog 67 #[.agg #[.slice n.ao n.len n.cap, .slice g.ao g.len g.cap], .agg #[.int .i64 s.k, .int .i64 s.l, .slice s.ao s.len s.cap, .int .i64 s.h, .int .i64 s.e], .agg #[.int .i64 t.k, .int .i64 t.l, .slice t.ao t.len t.cap, .int .i64 t.h, .int .i64 t.e]] w fun e w' => e = .returned (.bool (belB n g s t)) ∧ Below w.heap.size w w' := by
  obtain ⟨L0, X0, Y0, B0⟩ := start_ltt w n g s t
  have R1 := row2_at _ s t (hs.kept B0) (ht.kept B0)
  have B1 := below_alloc (((w.alloc (latO n g)).alloc (tyO s)).alloc (tyO t)) (row2 s t)
  have hA := allFormed_any n g _ _ _ _ _ _ _ ((hn.kept B0).kept B1) ((hg.kept B0).kept B1) R1
  rw [alloc_size, alloc_size, alloc_size] at hA
  have HE : Hid ((formedB n g && decide (∀ i, i < 2 → Ty.ok n.len ((fun i => if i = 0 then s else t) i) = true)) = (formedB n g && (s.ok n.len && t.ok n.len))) := by
    show (formedB n g && decide (∀ i, i < 2 → Ty.ok n.len ((fun i => if i = 0 then s else t) i) = true)) = (formedB n g && (s.ok n.len && t.ok n.len))
    congr 1
    rw [Bool.eq_iff_iff, decide_eq_true_eq, Bool.and_eq_true]
    exact ⟨fun h => ⟨h 0 (by omega), h 1 (by omega)⟩, fun h i hi => by
      by_cases e : i = 0
      · subst e; exact h.1
      · have e1 : i = 1 := by omega
        subst e1; exact h.2⟩
  rw [HE.out] at hA
  have L1 := L0.kept B1
  have X1 := X0.kept B1
  have Y1 := Y0.kept B1
  have B2 := Below.next B0 B1
  clear HE R1 L0 X0 Y0 B0 B1
  unfold latO tyO row2 at *
  cases hq : (formedB n g && (s.ok n.len && t.ok n.len))
  · have HV : Hid (belB n g s t = false) := by show belB n g s t = false; unfold belB; rw [hq]; rfl
    rw [hq] at hA
    go_enter Tryz.func67, Tryz.ntmps67
    go_wp2_with fail
    refine hA.mono ?_
    rintro e w1 ⟨rfl, hb1⟩
    go_wp2
    go_ret
    exact ⟨ret_bool HV.out.symm, Below.next B2 hb1⟩
  · have HV : Hid (belB n g s t = s.bel g.B true t) := by show belB n g s t = _; unfold belB; rw [hq]; rfl
    rw [hq] at hA
    have hq' := hq
    rw [Bool.and_eq_true, Bool.and_eq_true] at hq'
    obtain ⟨f1, n1⟩ := ok_parts hq'.2.1
    obtain ⟨f2, n2⟩ := ok_parts hq'.2.2
    have hfp := formed_parts hq'.1
    have hC : ∀ u, n.At u → g.At u → s.At u → t.At u → Calls Tryz.prog 99 #[.agg #[.slice n.ao n.len n.cap, .slice g.ao g.len g.cap], .agg #[.int .i64 s.k, .int .i64 s.l, .slice s.ao s.len s.cap, .int .i64 s.h, .int .i64 s.e], .agg #[.int .i64 t.k, .int .i64 t.l, .slice t.ao t.len t.cap, .int .i64 t.h, .int .i64 t.e]] u fun e w' => e = .returned (.bool (s.bel g.B true t)) ∧ Below u.heap.size u w' := by
      have hF := hq'.1
      have hnil := hg.nil (by omega)
      obtain ⟨gao, gb, go, glen, gcap, gA, gL, gC, gAB, gAO, gB⟩ := g
      have e1 : gao = some ⟨gb, go, none⟩ := hnil
      have e2 : glen = n.len := hfp.1
      subst e1 e2
      exact (below_ct n gb go gcap gA gL gC gAB gAO gB hF s t ⟨1, f1⟩ ⟨1, f2⟩ (by omega) (by omega)).1
    have HN : Hid (n.At w ∧ g.At w ∧ s.At w ∧ t.At w) := ⟨hn, hg, hs, ht⟩
    clear hq hq' f1 f2 n1 n2 hfp hn hg hs ht
    go_enter Tryz.func67, Tryz.ntmps67
    go_wp2_with fail
    refine hA.mono ?_
    rintro e w1 ⟨rfl, hb1⟩
    have L2 := L1.kept hb1
    have X2 := X1.kept hb1
    have Y2 := Y1.kept hb1
    have B3 := Below.next B2 hb1
    have l0 := L2.c0
    have l1 := L2.c1
    have x0 := X2.c0
    have x1 := X2.c1
    have x2 := X2.c2
    have x3 := X2.c3
    have x4 := X2.c4
    have y0 := Y2.c0
    have y1 := Y2.c1
    have y2 := Y2.c2
    have y3 := Y2.c3
    have y4 := Y2.c4
    have hD := hC w1 (HN.out.1.kept B3) (HN.out.2.1.kept B3) (HN.out.2.2.1.kept B3) (HN.out.2.2.2.kept B3)
    clear L1 X1 Y1 hb1 hA hC
    go_wp2_with fail
    refine hD.mono ?_
    rintro e w2 ⟨rfl, hb2⟩
    go_wp2
    go_ret
    exact ⟨ret_bool HV.out.symm, Below.next B3 hb2⟩
end Go.Proofs.YtbdhbgilaeldgaaGreat

/- Layer 2: Below is an order on formed types. No program is walked here. -/
namespace Go.Proofs.YtbdhbgilaeldgaaGreat

/-- An order on the numbers below N. -/
structure Po (N : Nat) (le : Nat → Nat → Bool) : Prop where
  refl : ∀ a, a < N → le a a = true
  anti : ∀ a b, a < N → b < N → le a b = true → le b a = true → a = b
  trans : ∀ a b c, a < N → b < N → c < N → le a b = true → le b c = true → le a c = true
theorem po_of {n : Strs} {g : Grid} (hF : formedB n g = true) : Po n.len g.B :=
  ⟨fun _ ha => lq_refl hF ha, fun _ _ ha hb h1 h2 => lq_anti hF ha hb h1 h2, fun _ _ _ ha hb hc h1 h2 => lq_trans hF ha hb hc h1 h2⟩

/-- A formed type. -/
structure Fd (N : Nat) (t : Ty) : Prop where
  gd : Gd N t
  part : ∀ i, i < t.len → ∃ d, (t.ps i).fm N d = true
theorem fd_of {N d : Nat} {t : Ty} (h : t.fm N d = true) : Fd N t := ⟨(fm_gd h).1, fun i hi => ⟨_, (fm_gd h).2.2 i hi⟩⟩
theorem Fd.sub {N : Nat} {t : Ty} (h : Fd N t) {i : Nat} (hi : i < t.len) : Fd N (t.ps i) := by
  obtain ⟨d, hd⟩ := h.part i hi
  exact fd_of hd
theorem Fd.two {N : Nat} {t : Ty} (h : Fd N t) (hk : t.k = 3 ∨ t.k = 4) : t.len = 2 := by
  have := h.gd.ar
  rw [arity_two hk] at this
  omega
theorem Fd.one {N : Nat} {t : Ty} (h : Fd N t) (hk : t.k = 5) : t.len = 1 := by
  have := h.gd.ar
  rw [hk] at this
  have h5 : arityI 5 = 1 := rfl
  omega
theorem Fd.lab {N : Nat} {t : Ty} (h : Fd N t) : ∃ x : Nat, t.l = x ∧ x < N := inR_nat h.gd.lab
theorem Fd.heap {N : Nat} {t : Ty} (h : Fd N t) (hk : t.k = 4) : ∃ x : Nat, t.h = x ∧ x < N := by
  have := h.gd.bnd
  rw [hk] at this
  exact inR_nat (bnd4 this).1
theorem Fd.exc {N : Nat} {t : Ty} (h : Fd N t) (hk : t.k = 4) : t.e = -1 ∨ ∃ x : Nat, t.e = x ∧ x < N := by
  have := h.gd.bnd
  rw [hk] at this
  exact (bnd4 this).2.imp (fun h => h) inR_nat
theorem Fd.zero {N : Nat} {t : Ty} (h : Fd N t) (hk : t.k ≠ 4) : t.h = 0 ∧ t.e = 0 := by
  have := h.gd.bnd
  unfold bndI at this
  rw [if_neg hk, Bool.and_eq_true] at this
  exact ⟨by simpa using this.1, by simpa using this.2⟩
theorem Fd.ne {N : Nat} {t : Ty} (h : Fd N t) : t ≠ .dm := fun e => by
  subst e
  have := h.gd.ar
  have h0 : arityI (Ty.k .dm) = -1 := rfl
  rw [h0] at this
  have h1 : Ty.len .dm = 0 := rfl
  rw [h1] at this
  omega

theorem same_refl : ∀ s : Ty, s.same s = true := by
  intro s
  induction s with
  | dm => rfl
  | mk k l h e ao b o len cap ps ih =>
    rw [same_eq]
    unfold hdEq
    simp only [beq_self_eq_true, Bool.and_self, Bool.true_and, decide_eq_true_eq]
    exact fun i _ => ih i
theorem same_iff (s t : Ty) : s.same t = true ↔ (s.k = t.k ∧ s.l = t.l ∧ s.h = t.h ∧ s.e = t.e ∧ s.len = t.len) ∧ ∀ i, i < s.len → (s.ps i).same (t.ps i) = true := by
  rw [same_eq, Bool.and_eq_true, decide_eq_true_eq]
  unfold hdEq
  simp only [Bool.and_eq_true, beq_iff_eq]
  constructor
  · rintro ⟨⟨⟨⟨⟨h1, h2⟩, h3⟩, h4⟩, h5⟩, h6⟩
    exact ⟨⟨h1, h2, h3, h4, h5⟩, h6⟩
  · rintro ⟨⟨h1, h2, h3, h4, h5⟩, h6⟩
    exact ⟨⟨⟨⟨⟨h1, h2⟩, h3⟩, h4⟩, h5⟩, h6⟩
theorem same_trans : ∀ s t u : Ty, s.same t = true → t.same u = true → s.same u = true := by
  intro s
  induction s with
  | dm =>
    intro t u h1 h2
    rw [same_iff] at h1 h2 ⊢
    exact ⟨⟨h1.1.1.trans h2.1.1, h1.1.2.1.trans h2.1.2.1, h1.1.2.2.1.trans h2.1.2.2.1, h1.1.2.2.2.1.trans h2.1.2.2.2.1, h1.1.2.2.2.2.trans h2.1.2.2.2.2⟩, fun i hi => absurd hi (Nat.not_lt_zero _)⟩
  | mk k l h e ao b o len cap ps ih =>
    intro t u h1 h2
    rw [same_iff] at h1 h2 ⊢
    exact ⟨⟨h1.1.1.trans h2.1.1, h1.1.2.1.trans h2.1.2.1, h1.1.2.2.1.trans h2.1.2.2.1, h1.1.2.2.2.1.trans h2.1.2.2.2.1, h1.1.2.2.2.2.trans h2.1.2.2.2.2⟩, fun i hi => ih i (t.ps i) (u.ps i) (h1.2 i hi) (h2.2 i (by rw [← h1.1.2.2.2.2]; exact hi))⟩

theorem step_congr {le : Nat → Nat → Bool} {s t : Ty} {p0 p1 q0 q1 : Bool} (h : s.k = t.k → (s.k = 3 ∨ s.k = 4) → p0 = q0 ∧ p1 = q1) : stepB le s t p0 p1 = stepB le s t q0 q1 := by
  unfold stepB
  by_cases hk : s.k = t.k
  · by_cases h3 : s.k = 3
    · obtain ⟨rfl, rfl⟩ := h hk (Or.inl h3); rfl
    · by_cases h4 : s.k = 4
      · obtain ⟨rfl, rfl⟩ := h hk (Or.inr h4); rfl
      · simp only [if_neg h3, if_neg h4]
  · rw [beq_eq_false_iff_ne.2 hk]; rfl

theorem bel_flip {N : Nat} {le : Nat → Nat → Bool} : ∀ s t : Ty, Fd N s → Fd N t → s.bel le false t = t.bel le true s ∧ s.bel le true t = t.bel le false s := by
  intro s
  induction s with
  | dm => intro t hs; exact absurd rfl hs.ne
  | mk k l h e ao b o len cap ps ih =>
    intro t hs ht
    have key : ∀ i, (Ty.mk k l h e ao b o len cap ps).k = t.k → ((Ty.mk k l h e ao b o len cap ps).k = 3 ∨ (Ty.mk k l h e ao b o len cap ps).k = 4) → i < 2 → (ps i).bel le false (t.ps i) = (t.ps i).bel le true (ps i) ∧ (ps i).bel le true (t.ps i) = (t.ps i).bel le false (ps i) := fun i hk h34 hi => by
      have h1 := hs.two h34
      have h2 := ht.two (by rw [← hk]; exact h34)
      exact ih i (t.ps i) (hs.sub (i := i) (by omega)) (ht.sub (i := i) (by omega))
    rw [bel_dn _ _ _ hs.ne, bel_up _ _ _ ht.ne, bel_up _ _ _ hs.ne, bel_dn _ _ _ ht.ne]
    refine ⟨step_congr (fun hk h34 => ?_), step_congr (fun hk h34 => ?_)⟩
    · have k0 := key 0 hk.symm (by rw [← hk]; exact h34) (by omega)
      have k1 := key 1 hk.symm (by rw [← hk]; exact h34) (by omega)
      exact ⟨by show (if t.k = 4 then (ps 0).bel le true (t.ps 0) else (ps 0).bel le false (t.ps 0)) = (if t.k = 4 then (t.ps 0).bel le false (ps 0) else (t.ps 0).bel le true (ps 0)); rw [k0.1, k0.2], k1.1⟩
    · have k0 := key 0 hk h34 (by omega)
      have k1 := key 1 hk h34 (by omega)
      exact ⟨by show (if k = 4 then (ps 0).bel le false (t.ps 0) else (ps 0).bel le true (t.ps 0)) = (if k = 4 then (t.ps 0).bel le true (ps 0) else (t.ps 0).bel le false (ps 0)); rw [k0.1, k0.2], k1.2⟩

/-- What Below says of formed types, in one step. -/
structure BelS (le : Nat → Nat → Bool) (s t : Ty) : Prop where
  k : s.k = t.k
  l : le s.l.toNat t.l.toNat = true
  pair : s.k = 3 → (s.ps 0).bel le true (t.ps 0) = true ∧ (s.ps 1).bel le true (t.ps 1) = true
  func : s.k = 4 → ((t.ps 0).bel le true (s.ps 0) = true ∧ (s.ps 1).bel le true (t.ps 1) = true) ∧ le t.h.toNat s.h.toNat = true ∧ excB le s.e t.e = true
  ref : s.k = 5 → (s.ps 0).same (t.ps 0) = true
theorem bel_iff {N : Nat} {le : Nat → Nat → Bool} {s t : Ty} (hs : Fd N s) (ht : Fd N t) : s.bel le true t = true ↔ BelS le s t := by
  rw [bel_up _ _ _ hs.ne]
  unfold stepB
  rw [Bool.and_eq_true, Bool.and_eq_true, beq_iff_eq]
  constructor
  · rintro ⟨⟨hk, hl⟩, h⟩
    refine ⟨hk, hl, fun h3 => ?_, fun h4 => ?_, fun h5 => ?_⟩
    · rw [if_pos h3, if_neg (by omega), Bool.and_eq_true] at h
      exact h
    · rw [if_neg (by omega), if_pos h4, if_pos h4, Bool.and_eq_true, Bool.and_eq_true, Bool.and_eq_true] at h
      have h1 := hs.two (Or.inr h4)
      have h2 := ht.two (by rw [← hk]; exact Or.inr h4)
      have hf := (bel_flip (le := le) (s.ps 0) (t.ps 0) (hs.sub (by omega)) (ht.sub (by omega))).1
      rw [hf] at h
      exact ⟨h.1.1, h.1.2, h.2⟩
    · rw [if_neg (by omega), if_neg (by omega), if_pos h5] at h
      exact h
  · intro h
    refine ⟨⟨h.k, h.l⟩, ?_⟩
    by_cases h3 : s.k = 3
    · rw [if_pos h3, if_neg (by omega), Bool.and_eq_true]
      exact h.pair h3
    · rw [if_neg h3]
      by_cases h4 : s.k = 4
      · rw [if_pos h4, if_pos h4, Bool.and_eq_true, Bool.and_eq_true, Bool.and_eq_true]
        have h1 := hs.two (Or.inr h4)
        have h2 := ht.two (by rw [← h.k]; exact Or.inr h4)
        have hf := (bel_flip (le := le) (s.ps 0) (t.ps 0) (hs.sub (by omega)) (ht.sub (by omega))).1
        rw [hf]
        exact ⟨⟨(h.func h4).1, (h.func h4).2.1⟩, (h.func h4).2.2⟩
      · rw [if_neg h4]
        by_cases h5 : s.k = 5
        · rw [if_pos h5]; exact h.ref h5
        · rw [if_neg h5]

theorem exc_refl {N : Nat} {le : Nat → Nat → Bool} (P : Po N le) {a : Int} (ha : a = -1 ∨ ∃ x : Nat, a = x ∧ x < N) : excB le a a = true := by
  unfold excB
  rcases ha with rfl | ⟨x, rfl, hx⟩
  · rfl
  · rw [show ((x : Int) != -1) = true from by simp, Int.toNat_natCast, P.refl x hx]; simp
theorem exc_iff {le : Nat → Nat → Bool} {a b : Int} : excB le a b = true ↔ a = -1 ∨ (b ≠ -1 ∧ le a.toNat b.toNat = true) := by
  unfold excB
  rw [Bool.or_eq_true, Bool.and_eq_true, beq_iff_eq, bne_iff_ne]
theorem exc_trans {N : Nat} {le : Nat → Nat → Bool} (P : Po N le) {a b c : Int} (ha : a = -1 ∨ ∃ x : Nat, a = x ∧ x < N) (hb : b = -1 ∨ ∃ x : Nat, b = x ∧ x < N) (hc : c = -1 ∨ ∃ x : Nat, c = x ∧ x < N) (h1 : excB le a b = true) (h2 : excB le b c = true) : excB le a c = true := by
  rw [exc_iff] at h1 h2 ⊢
  rcases h1 with h1 | ⟨h1, h1'⟩
  · exact Or.inl h1
  rcases h2 with h2 | ⟨h2, h2'⟩
  · exact absurd h2 h1
  rcases ha with ha | ⟨x, rfl, hx⟩
  · exact Or.inl ha
  rcases hb with hb | ⟨y, rfl, hy⟩
  · exact absurd hb h1
  rcases hc with hc | ⟨z, rfl, hz⟩
  · exact absurd hc h2
  exact Or.inr ⟨h2, P.trans _ _ _ hx hy hz h1' h2'⟩
theorem exc_anti {N : Nat} {le : Nat → Nat → Bool} (P : Po N le) {a b : Int} (ha : a = -1 ∨ ∃ x : Nat, a = x ∧ x < N) (hb : b = -1 ∨ ∃ x : Nat, b = x ∧ x < N) (h1 : excB le a b = true) (h2 : excB le b a = true) : a = b := by
  rw [exc_iff] at h1 h2
  rcases h1 with h1 | ⟨h1, h1'⟩
  · rcases h2 with h2 | ⟨h2, _⟩
    · rw [h1, h2]
    · exact absurd h1 h2
  rcases h2 with h2 | ⟨h2, h2'⟩
  · exact absurd h2 h1
  rcases ha with ha | ⟨x, rfl, hx⟩
  · exact absurd ha h2
  rcases hb with hb | ⟨y, rfl, hy⟩
  · exact absurd hb h1
  rw [P.anti x y hx hy h1' h2']

theorem bel_refl {N : Nat} {le : Nat → Nat → Bool} (P : Po N le) : ∀ s : Ty, Fd N s → s.bel le true s = true := by
  intro s
  induction s with
  | dm => intro hs; exact absurd rfl hs.ne
  | mk k l h e ao b o len cap ps ih =>
    intro hs
    rw [bel_iff hs hs]
    obtain ⟨x, hx, hx1⟩ := hs.lab
    have sub : ∀ i, i < 2 → (Ty.mk k l h e ao b o len cap ps).k = 3 ∨ (Ty.mk k l h e ao b o len cap ps).k = 4 → (ps i).bel le true (ps i) = true := fun i hi h34 => ih i (hs.sub (i := i) (by rw [hs.two h34]; omega))
    refine ⟨rfl, by rw [hx, Int.toNat_natCast]; exact P.refl x hx1, fun h3 => ⟨sub 0 (by omega) (Or.inl h3), sub 1 (by omega) (Or.inl h3)⟩, fun h4 => ⟨⟨sub 0 (by omega) (Or.inr h4), sub 1 (by omega) (Or.inr h4)⟩, ?_, exc_refl P (hs.exc h4)⟩, fun _ => same_refl _⟩
    obtain ⟨y, hy, hy1⟩ := hs.heap h4
    rw [hy, Int.toNat_natCast]; exact P.refl y hy1

theorem bel_trans {N : Nat} {le : Nat → Nat → Bool} (P : Po N le) : ∀ s t u : Ty, Fd N s → Fd N t → Fd N u → (s.bel le true t = true → t.bel le true u = true → s.bel le true u = true) ∧ (u.bel le true t = true → t.bel le true s = true → u.bel le true s = true) := by
  intro s
  induction s with
  | dm => intro t u hs; exact absurd rfl hs.ne
  | mk k l h e ao b o len cap ps ih =>
    intro t u hs ht hu
    obtain ⟨x, hx, hx1⟩ := hs.lab
    obtain ⟨y, hy, hy1⟩ := ht.lab
    obtain ⟨z, hz, hz1⟩ := hu.lab
    rw [bel_iff hs ht, bel_iff ht hu, bel_iff hs hu, bel_iff hu ht, bel_iff ht hs, bel_iff hu hs]
    have sub : ∀ i, i < 2 → (Ty.mk k l h e ao b o len cap ps).k = 3 ∨ (Ty.mk k l h e ao b o len cap ps).k = 4 → (Ty.mk k l h e ao b o len cap ps).k = t.k → (Ty.mk k l h e ao b o len cap ps).k = u.k → ((ps i).bel le true (t.ps i) = true → (t.ps i).bel le true (u.ps i) = true → (ps i).bel le true (u.ps i) = true) ∧ ((u.ps i).bel le true (t.ps i) = true → (t.ps i).bel le true (ps i) = true → (u.ps i).bel le true (ps i) = true) := fun i hi h34 ht' hu' => by
      have h1 := hs.two h34
      have h2 := ht.two (by rw [← ht']; exact h34)
      have h3 := hu.two (by rw [← hu']; exact h34)
      exact ih i (t.ps i) (u.ps i) (hs.sub (i := i) (by omega)) (ht.sub (by omega)) (hu.sub (by omega))
    constructor
    · intro a b'
      have ku := a.k.trans b'.k
      refine ⟨ku, ?_, fun h3 => ?_, fun h4 => ?_, fun h5 => ?_⟩
      · have q1 := a.l
        have q2 := b'.l
        rw [hx, hy, Int.toNat_natCast, Int.toNat_natCast] at q1
        rw [hy, hz, Int.toNat_natCast, Int.toNat_natCast] at q2
        rw [hx, hz, Int.toNat_natCast, Int.toNat_natCast]
        exact P.trans x y z hx1 hy1 hz1 q1 q2
      · have p1 := a.pair h3
        have p2 := b'.pair (by rw [← a.k]; exact h3)
        exact ⟨(sub 0 (by omega) (Or.inl h3) a.k ku).1 p1.1 p2.1, (sub 1 (by omega) (Or.inl h3) a.k ku).1 p1.2 p2.2⟩
      · have p1 := a.func h4
        have p2 := b'.func (by rw [← a.k]; exact h4)
        obtain ⟨xh, hxh, hxh1⟩ := hs.heap h4
        obtain ⟨yh, hyh, hyh1⟩ := ht.heap (by rw [← a.k]; exact h4)
        obtain ⟨zh, hzh, hzh1⟩ := hu.heap (by rw [← ku]; exact h4)
        refine ⟨⟨(sub 0 (by omega) (Or.inr h4) a.k ku).2 p2.1.1 p1.1.1, (sub 1 (by omega) (Or.inr h4) a.k ku).1 p1.1.2 p2.1.2⟩, ?_, exc_trans P (hs.exc h4) (ht.exc (by rw [← a.k]; exact h4)) (hu.exc (by rw [← ku]; exact h4)) p1.2.2 p2.2.2⟩
        have q1 := p1.2.1
        have q2 := p2.2.1
        rw [hxh, hyh, Int.toNat_natCast, Int.toNat_natCast] at q1
        rw [hyh, hzh, Int.toNat_natCast, Int.toNat_natCast] at q2
        rw [hxh, hzh, Int.toNat_natCast, Int.toNat_natCast]
        exact P.trans zh yh xh hzh1 hyh1 hxh1 q2 q1
      · exact same_trans _ _ _ (a.ref h5) (b'.ref (by rw [← a.k]; exact h5))
    · intro a b'
      have ku := a.k.trans b'.k
      refine ⟨ku, ?_, fun h3 => ?_, fun h4 => ?_, fun h5 => ?_⟩
      · have q1 := a.l
        have q2 := b'.l
        rw [hz, hy, Int.toNat_natCast, Int.toNat_natCast] at q1
        rw [hy, hx, Int.toNat_natCast, Int.toNat_natCast] at q2
        rw [hz, hx, Int.toNat_natCast, Int.toNat_natCast]
        exact P.trans z y x hz1 hy1 hx1 q1 q2
      · have p1 := a.pair h3
        have p2 := b'.pair (by rw [← a.k]; exact h3)
        have hk3 : (Ty.mk k l h e ao b o len cap ps).k = 3 := by rw [← ku]; exact h3
        exact ⟨(sub 0 (by omega) (Or.inl hk3) b'.k.symm ku.symm).2 p1.1 p2.1, (sub 1 (by omega) (Or.inl hk3) b'.k.symm ku.symm).2 p1.2 p2.2⟩
      · have p1 := a.func h4
        have p2 := b'.func (by rw [← a.k]; exact h4)
        have hk4 : (Ty.mk k l h e ao b o len cap ps).k = 4 := by rw [← ku]; exact h4
        obtain ⟨xh, hxh, hxh1⟩ := hs.heap hk4
        obtain ⟨yh, hyh, hyh1⟩ := ht.heap (by rw [← a.k]; exact h4)
        obtain ⟨zh, hzh, hzh1⟩ := hu.heap h4
        refine ⟨⟨(sub 0 (by omega) (Or.inr hk4) b'.k.symm ku.symm).1 p2.1.1 p1.1.1, (sub 1 (by omega) (Or.inr hk4) b'.k.symm ku.symm).2 p1.1.2 p2.1.2⟩, ?_, exc_trans P (hu.exc h4) (ht.exc (by rw [← a.k]; exact h4)) (hs.exc hk4) p1.2.2 p2.2.2⟩
        have q1 := p1.2.1
        have q2 := p2.2.1
        rw [hzh, hyh, Int.toNat_natCast, Int.toNat_natCast] at q1
        rw [hyh, hxh, Int.toNat_natCast, Int.toNat_natCast] at q2
        rw [hzh, hxh, Int.toNat_natCast, Int.toNat_natCast]
        exact P.trans xh yh zh hxh1 hyh1 hzh1 q2 q1
      · exact same_trans _ _ _ (a.ref h5) (b'.ref (by rw [← a.k]; exact h5))

theorem bel_anti {N : Nat} {le : Nat → Nat → Bool} (P : Po N le) : ∀ s t : Ty, Fd N s → Fd N t → s.bel le true t = true → t.bel le true s = true → s.same t = true := by
  intro s
  induction s with
  | dm => intro t hs; exact absurd rfl hs.ne
  | mk k l h e ao b o len cap ps ih =>
    intro t hs ht h1 h2
    rw [bel_iff hs ht] at h1
    rw [bel_iff ht hs] at h2
    obtain ⟨x, hx, hx1⟩ := hs.lab
    obtain ⟨y, hy, hy1⟩ := ht.lab
    have el : (Ty.mk k l h e ao b o len cap ps).l = t.l := by
      have q1 := h1.l
      have q2 := h2.l
      rw [hx, hy, Int.toNat_natCast, Int.toNat_natCast] at q1 q2
      rw [hx, hy, P.anti x y hx1 hy1 q1 q2]
    have elen : (Ty.mk k l h e ao b o len cap ps).len = t.len := by
      have a1 := hs.gd.ar
      have a2 := ht.gd.ar
      rw [h1.k] at a1
      omega
    have sub : ∀ i, i < (Ty.mk k l h e ao b o len cap ps).len → (ps i).bel le true (t.ps i) = true → (t.ps i).bel le true (ps i) = true → (ps i).same (t.ps i) = true := fun i hi => ih i (t.ps i) (hs.sub (i := i) hi) (ht.sub (by omega))
    rw [same_iff]
    by_cases h4 : (Ty.mk k l h e ao b o len cap ps).k = 4
    · have t4 : t.k = 4 := by rw [← h1.k]; exact h4
      have p1 := h1.func h4
      have p2 := h2.func t4
      obtain ⟨xh, hxh, hxh1⟩ := hs.heap h4
      obtain ⟨yh, hyh, hyh1⟩ := ht.heap t4
      refine ⟨⟨h1.k, el, ?_, exc_anti P (hs.exc h4) (ht.exc t4) p1.2.2 p2.2.2, elen⟩, fun i hi => ?_⟩
      · have q1 := p1.2.1
        have q2 := p2.2.1
        rw [hxh, hyh, Int.toNat_natCast, Int.toNat_natCast] at q1 q2
        rw [hxh, hyh, P.anti xh yh hxh1 hyh1 q2 q1]
      · have h2' := hs.two (Or.inr h4)
        by_cases e0 : i = 0
        · subst e0; exact sub 0 hi p2.1.1 p1.1.1
        · have e1 : i = 1 := by omega
          subst e1; exact sub 1 hi p1.1.2 p2.1.2
    · have z1 := hs.zero h4
      have z2 := ht.zero (by rw [← h1.k]; exact h4)
      refine ⟨⟨h1.k, el, z1.1.trans z2.1.symm, z1.2.trans z2.2.symm, elen⟩, fun i hi => ?_⟩
      by_cases h3 : (Ty.mk k l h e ao b o len cap ps).k = 3
      · have p1 := h1.pair h3
        have p2 := h2.pair (by rw [← h1.k]; exact h3)
        have h2' := hs.two (Or.inl h3)
        by_cases e0 : i = 0
        · subst e0; exact sub 0 hi p1.1 p2.1
        · have e1 : i = 1 := by omega
          subst e1; exact sub 1 hi p1.2 p2.2
      · by_cases h5 : (Ty.mk k l h e ao b o len cap ps).k = 5
        · have h1' := hs.one h5
          have e0 : i = 0 := by omega
          subst e0; exact h1.ref h5
        · exfalso
          have a1 := hs.gd.ar
          unfold arityI at a1
          rw [if_neg h5, if_neg h3, if_neg h4] at a1
          split at a1
          · omega
          · split at a1 <;> omega

theorem belB_iff {n : Strs} {g : Grid} {s t : Ty} : belB n g s t = true ↔ formedB n g = true ∧ s.ok n.len = true ∧ t.ok n.len = true ∧ s.bel g.B true t = true := by
  unfold belB
  rw [Bool.and_eq_true, Bool.and_eq_true, Bool.and_eq_true]
  exact ⟨fun h => ⟨h.1.1, h.1.2.1, h.1.2.2, h.2⟩, fun h => ⟨⟨h.1, h.2.1, h.2.2.1⟩, h.2.2.2⟩⟩
theorem fd_ok {N : Nat} {t : Ty} (h : t.ok N = true) : Fd N t := fd_of (ok_parts h).1
theorem belB_refl (n : Strs) (g : Grid) (s : Ty) : belB n g s s = okB n g s := by
  rw [Bool.eq_iff_iff, belB_iff]
  unfold okB
  rw [Bool.and_eq_true]
  exact ⟨fun h => ⟨h.1, h.2.1⟩, fun h => ⟨h.1, h.2, h.2, bel_refl (po_of h.1) s (fd_ok h.2)⟩⟩
theorem belB_trans {n : Strs} {g : Grid} {s t u : Ty} (h1 : belB n g s t = true) (h2 : belB n g t u = true) : belB n g s u = true := by
  rw [belB_iff] at h1 h2 ⊢
  exact ⟨h1.1, h1.2.1, h2.2.2.1, (bel_trans (po_of h1.1) s t u (fd_ok h1.2.1) (fd_ok h1.2.2.1) (fd_ok h2.2.2.1)).1 h1.2.2.2 h2.2.2.2⟩
theorem belB_anti {n : Strs} {g : Grid} {s t : Ty} (h1 : belB n g s t = true) (h2 : belB n g t s = true) : s.same t = true := by
  rw [belB_iff] at h1 h2
  exact bel_anti (po_of h1.1) s t (fd_ok h1.2.1) (fd_ok h1.2.2.1) h1.2.2.2 h2.2.2.2
end Go.Proofs.YtbdhbgilaeldgaaGreat

/- Layer 2: a row of types that a call makes by append. -/
namespace Go.Proofs.YtbdhbgilaeldgaaGreat
open Go.RowKit

/-- All blocks of a type's Parts meet Q. -/
def Ty.Blk (Q : Nat → Prop) : Ty → Prop
  | .dm => True
  | .mk _ _ _ _ _ b _ len _ ps => (0 < len → Q b) ∧ ∀ i, i < len → Ty.Blk Q (ps i)
theorem Ty.Blk.mono {Q R : Nat → Prop} (hQR : ∀ b, Q b → R b) : ∀ {t : Ty}, t.Blk Q → t.Blk R
  | .dm, _ => True.intro
  | .mk _ _ _ _ _ _ _ _ _ _, h => ⟨fun hl => hQR _ (h.1 hl), fun i hi => Ty.Blk.mono hQR (h.2 i hi)⟩
theorem Ty.Blk.and {Q R : Nat → Prop} : ∀ {t : Ty}, t.Blk Q → t.Blk R → t.Blk (fun b => Q b ∧ R b)
  | .dm, _, _ => True.intro
  | .mk _ _ _ _ _ _ _ _ _ _, h, k => ⟨fun hl => ⟨h.1 hl, k.1 hl⟩, fun i hi => Ty.Blk.and (h.2 i hi) (k.2 i hi)⟩
theorem Ty.At.lt {w : World} : ∀ {t : Ty}, t.At w → t.Blk (fun b => b < w.heap.size)
  | .dm, h => h.elim
  | .mk _ _ _ _ _ _ _ _ _ _, h => ⟨fun hl => cell_lt (h.2.2 0 hl).1.c0, fun i hi => Ty.At.lt (h.2.2 i hi).2⟩
theorem Ty.At.agree {w w' : World} {Q : Nat → Prop} (hag : ∀ b, Q b → w'.heap[b]? = w.heap[b]?) : ∀ {t : Ty}, t.At w → t.Blk Q → t.At w'
  | .dm, h, _ => h.elim
  | .mk _ _ _ _ _ b o len _ ps, h, k => ⟨h.1, h.2.1, fun i hi => by
      have e := hag b (k.1 (by omega))
      have C := (h.2.2 i hi).1
      exact ⟨⟨(World.cell?_of_block (w := w) e).trans C.c0, (World.cell?_of_block (w := w) e).trans C.c1, (World.cell?_of_block (w := w) e).trans C.c2, (World.cell?_of_block (w := w) e).trans C.c3, (World.cell?_of_block (w := w) e).trans C.c4⟩, Ty.At.agree hag (h.2.2 i hi).2 (k.2 i hi)⟩⟩

def Ty.vs (t : Ty) : List Value := [.int .i64 t.k, .int .i64 t.l, .slice t.ao t.len t.cap, .int .i64 t.h, .int .i64 t.e]
def flatT (ts : Nat → Ty) : Nat → List Value
  | 0 => []
  | j + 1 => flatT ts j ++ (ts j).vs
theorem flat_len (ts : Nat → Ty) : ∀ j, (flatT ts j).length = j * 5
  | 0 => rfl
  | j + 1 => by
    show (flatT ts j ++ (ts j).vs).length = _
    rw [List.length_append, flat_len ts j]
    show j * 5 + 5 = _
    omega
theorem flat_get (ts : Nat → Ty) : ∀ j i q, i < j → q < 5 → (flatT ts j)[i * 5 + q]? = (ts i).vs[q]?
  | 0, _, _, h, _ => absurd h (Nat.not_lt_zero _)
  | j + 1, i, q, hi, hq => by
    show (flatT ts j ++ (ts j).vs)[i * 5 + q]? = _
    have hl := flat_len ts j
    by_cases e : i = j
    · subst e
      rw [List.getElem?_append_right (by omega), hl]
      congr 1
      omega
    · rw [List.getElem?_append_left (by omega)]
      exact flat_get ts j i q (by omega) hq
theorem flat_congr {ts us : Nat → Ty} : ∀ j, (∀ i, i < j → ts i = us i) → flatT ts j = flatT us j
  | 0, _ => rfl
  | j + 1, h => by
    show flatT ts j ++ (ts j).vs = flatT us j ++ (us j).vs
    rw [flat_congr j (fun i hi => h i (by omega)), h j (by omega)]

/-- A row of j types that v owns, behind w0. -/
structure GRow (w0 wr : World) (v : Value) (j : Nat) (ts : Nat → Ty) : Prop where
  bl : Below w0.heap.size w0 wr
  own : wr.ownsRow w0.heap.size 38 5 v j (flatT ts j)
  at' : ∀ i, i < j → (ts i).At wr
  blk : ∀ i, i < j → (ts i).Blk (fun b => w0.heap.size ≤ b ∧ some b ≠ v.ownBlock)
theorem GRow.start (w : World) (ts : Nat → Ty) : GRow w w (.slice none 0 0) 0 ts :=
  ⟨Below.refl _ _, World.ownsRow_nil _ _ _ _, fun _ h => absurd h (Nat.not_lt_zero _), fun _ h => absurd h (Nat.not_lt_zero _)⟩
theorem own_lt {w : World} {base : Nat} {e : TypeId} {size : Nat} {v : Value} {n : Nat} {xs : List Value} (h : w.ownsRow base e size v n xs) {b : Nat} (hb : v.ownBlock = some b) : b < w.heap.size := by
  obtain ⟨cur, hc⟩ := own_type h hb
  exact (Array.getElem?_eq_some_iff.1 hc).1

theorem GRow.push {w0 wr w1 w3 : World} {v : Value} {j : Nat} {ts : Nat → Ty} {t : Ty} {gg cap : Nat} (h : GRow w0 wr v j ts) (hb : Below wr.heap.size wr w1) (ht : t.At w1) (hk : t.Blk (fun b => wr.heap.size ≤ b))
    (hown : w3.ownsRow w0.heap.size 38 5 (.slice (some ⟨gg, 0, none⟩) (j + 1) cap) (j + 1) (flatT ts j ++ t.vs)) (hgrow : (w1.alloc (tyO t)).grownBy w3 v.ownBlock) (hat : v.ownBlock = some gg ∨ gg = w1.heap.size + 1) :
    GRow w0 w3 (.slice (some ⟨gg, 0, none⟩) (j + 1) cap) (j + 1) (fun i => if i < j then ts i else t) := by
  have s1 := h.bl.size
  have s2 := hb.size
  have ba := below_alloc w1 (tyO t)
  have sz : (w1.alloc (tyO t)).heap.size = w1.heap.size + 1 := alloc_size _ _
  have old1 : ∀ b, b < w1.heap.size → some b ≠ v.ownBlock → w3.heap[b]? = w1.heap[b]? := fun b hb1 hne => (hgrow.block b (by rw [sz]; omega) hne).trans (ba.block b hb1)
  have old : ∀ b, b < wr.heap.size → some b ≠ v.ownBlock → w3.heap[b]? = wr.heap[b]? := fun b hb1 hne => (old1 b (by omega) hne).trans (hb.block b hb1)
  have lt : ∀ b, v.ownBlock = some b → b < wr.heap.size := fun b hb' => own_lt h.own hb'
  have nat : t.At w3 := Ty.At.agree (Q := fun b => wr.heap.size ≤ b ∧ b < w1.heap.size) (fun b hq => old1 b hq.2 (fun e => by have := lt b e.symm; omega)) ht (hk.and ht.lt)
  refine ⟨?_, ?_, fun i hi => ?_, fun i hi => ?_⟩
  · refine ⟨hgrow.os.trans (ba.os.trans (hb.os.trans h.bl.os)), hgrow.tape.trans (ba.tape.trans (hb.tape.trans h.bl.tape)), hgrow.output.trans (ba.output.trans (hb.output.trans h.bl.output)), ?_, fun b hb1 => ?_⟩
    · have := hgrow.size
      omega
    · rw [old b (by omega) (fun e => by have := own_ge h.own e.symm; omega)]
      exact h.bl.block b hb1
  · have e : flatT (fun i => if i < j then ts i else t) (j + 1) = flatT ts j ++ t.vs := by
      show flatT (fun i => if i < j then ts i else t) j ++ (if j < j then ts j else t).vs = _
      rw [flat_congr j (us := ts) (fun i hi => by simp [hi]), if_neg (Nat.lt_irrefl _)]
    rw [e]; exact hown
  · by_cases hij : i < j
    · simp only [hij, if_true]
      exact Ty.At.agree (Q := fun b => (w0.heap.size ≤ b ∧ some b ≠ v.ownBlock) ∧ b < wr.heap.size) (fun b hq => old b hq.2 hq.1.2) (h.at' i hij) ((h.blk i hij).and (h.at' i hij).lt)
    · simp only [hij, if_false]
      exact nat
  · have key : ∀ b, (b < wr.heap.size ∧ some b ≠ v.ownBlock) ∨ (wr.heap.size ≤ b ∧ b < w1.heap.size) → some b ≠ (Value.slice (some ⟨gg, 0, none⟩) (j + 1) cap).ownBlock := fun b hq e => by
      have e' : b = gg := by simpa [Value.ownBlock] using e
      subst e'
      rcases hat with hat | hat
      · rcases hq with hq | hq
        · exact hq.2 hat.symm
        · have := lt b hat; omega
      · rcases hq with hq | hq <;> omega
    by_cases hij : i < j
    · simp only [hij, if_true]
      exact ((h.blk i hij).and (h.at' i hij).lt).mono (fun b hq => ⟨hq.1.1, key b (Or.inl ⟨hq.2, hq.1.2⟩)⟩)
    · simp only [hij, if_false]
      exact (hk.and ht.lt).mono (fun b hq => ⟨by omega, key b (Or.inr hq)⟩)

/-- The row's type. -/
theorem GRow.ty {w0 wr : World} {v : Value} {j : Nat} {ts : Nat → Ty} (h : GRow w0 wr v j ts) (hj : j ≤ 9223372036854775807) : ∃ (ao : Option Addr) (gg cap : Nat), v = .slice ao j cap ∧ ∀ k l hh e, Ty.At wr (.mk k l hh e ao gg 0 j cap ts) ∧ Ty.Blk (fun b => w0.heap.size ≤ b) (.mk k l hh e ao gg 0 j cap ts) := by
  by_cases h0 : 0 < j
  · obtain ⟨gg, cap, rfl, hge, _⟩ := h.own.form h0
    refine ⟨_, gg, cap, rfl, fun k l hh e => ⟨⟨fun _ => rfl, hj, fun i hi => ⟨?_, h.at' i hi⟩⟩, fun _ => hge, fun i hi => (h.blk i hi).mono (fun b hq => hq.1)⟩⟩
    have get : ∀ q, q < 5 → wr.cell? ⟨gg, 0 + i * 5 + q, none⟩ = (ts i).vs[q]? := fun q hq => by
      rw [Nat.zero_add, h.own.cellAt (i * 5 + q) (by omega), flat_get ts j i q hi hq]
    exact ⟨get 0 (by omega), get 1 (by omega), get 2 (by omega), get 3 (by omega), get 4 (by omega)⟩
  · have e : j = 0 := by omega
    subst e
    obtain ⟨_, ⟨rfl, _⟩ | ⟨gb, cap, cur, rfl, hg, _⟩⟩ := h.own
    · exact ⟨none, 0, 0, rfl, fun k l hh e => ⟨⟨fun h => absurd h (Nat.lt_irrefl _), hj, fun _ h => absurd h (Nat.not_lt_zero _)⟩, fun h => absurd h (Nat.lt_irrefl _), fun _ h => absurd h (Nat.not_lt_zero _)⟩⟩
    · exact ⟨_, gb, cap, rfl, fun k l hh e => ⟨⟨fun _ => rfl, hj, fun _ h => absurd h (Nat.not_lt_zero _)⟩, fun h => absurd h (Nat.lt_irrefl _), fun _ h => absurd h (Nat.not_lt_zero _)⟩⟩
end Go.Proofs.YtbdhbgilaeldgaaGreat
