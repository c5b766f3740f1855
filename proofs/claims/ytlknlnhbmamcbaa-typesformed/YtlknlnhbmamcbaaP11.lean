/- Layer 2: Below. -/
import Derived.Test.YtlknlnhbmamcbaaP10
import Derived.Test.YtlknlnhbmamcbaaP3
namespace Go.Proofs.Ytlknlnhbmamcbaa
open Go.RowKit

theorem fm_gd {N d : Nat} {t : Ty} (h : t.fm N d = true) : Gd N t ∧ d ≤ 6 ∧ ∀ i, i < t.len → (t.ps i).fm N (d + 1) = true := by
  rcases t with _ | ⟨k, l, h', e, ao, b, o, len, cap, ps⟩
  · cases h
  rw [fm_eq] at h
  simp only [Bool.and_eq_true, decide_eq_true_eq, beq_iff_eq] at h
  exact ⟨⟨h.1.1.1.2, h.1.1.2, h.1.2⟩, h.1.1.1.1, h.2⟩
theorem nodes_part {t : Ty} {i : Nat} (h : i < t.len) : (t.ps i).nodes < t.nodes := by
  rw [pn_nodes t]
  have := sumTo_le (fun i => (t.ps i).nodes) h
  unfold Ty.pn
  omega
theorem arity_two {k : Int} (h : k = 3 ∨ k = 4) : arityI k = 2 := by rcases h with h | h <;> subst h <;> rfl
theorem bel_up (le : Nat → Nat → Bool) (s t : Ty) (hs : s ≠ .dm) : s.bel le true t = stepB le s t (if s.k = 4 then (s.ps 0).bel le false (t.ps 0) else (s.ps 0).bel le true (t.ps 0)) ((s.ps 1).bel le true (t.ps 1)) := by
  rcases s with _ | ⟨k, l, h, e, ao, b, o, len, cap, ps⟩
  · exact absurd rfl hs
  clear hs
  show (((k == t.k) && le l.toNat t.l.toNat) && (if k = 3 then (ps 0).bel le true (t.ps 0) && (ps 1).bel le true (t.ps 1) else if k = 4 then (((ps 0).bel le false (t.ps 0) && (ps 1).bel le true (t.ps 1)) && le t.h.toNat h.toNat) && excB le e t.e else if k = 5 then (ps 0).same (t.ps 0) else true)) = (((k == t.k) && le l.toNat t.l.toNat) && (if k = 3 then (if k = 4 then (ps 0).bel le false (t.ps 0) else (ps 0).bel le true (t.ps 0)) && (ps 1).bel le true (t.ps 1) else if k = 4 then (((if k = 4 then (ps 0).bel le false (t.ps 0) else (ps 0).bel le true (t.ps 0)) && (ps 1).bel le true (t.ps 1)) && le t.h.toNat h.toNat) && excB le e t.e else if k = 5 then (ps 0).same (t.ps 0) else true))
  by_cases h3 : k = 3
  · subst h3; rfl
  · by_cases h4 : k = 4
    · subst h4; rfl
    · simp only [if_neg h3, if_neg h4]
theorem bel_dn (le : Nat → Nat → Bool) (s t : Ty) (hs : s ≠ .dm) : s.bel le false t = stepB le t s (if t.k = 4 then (s.ps 0).bel le true (t.ps 0) else (s.ps 0).bel le false (t.ps 0)) ((s.ps 1).bel le false (t.ps 1)) := by
  rcases s with _ | ⟨k, l, h, e, ao, b, o, len, cap, ps⟩
  · exact absurd rfl hs
  clear hs
  show (((t.k == k) && le t.l.toNat l.toNat) && (if t.k = 3 then (ps 0).bel le false (t.ps 0) && (ps 1).bel le false (t.ps 1) else if t.k = 4 then (((ps 0).bel le true (t.ps 0) && (ps 1).bel le false (t.ps 1)) && le h.toNat t.h.toNat) && excB le t.e e else if t.k = 5 then (t.ps 0).same (ps 0) else true)) = (((t.k == k) && le t.l.toNat l.toNat) && (if t.k = 3 then (if t.k = 4 then (ps 0).bel le true (t.ps 0) else (ps 0).bel le false (t.ps 0)) && (ps 1).bel le false (t.ps 1) else if t.k = 4 then (((if t.k = 4 then (ps 0).bel le true (t.ps 0) else (ps 0).bel le false (t.ps 0)) && (ps 1).bel le false (t.ps 1)) && le h.toNat t.h.toNat) && excB le t.e e else if t.k = 5 then (t.ps 0).same (ps 0) else true))
  by_cases h3 : t.k = 3
  · simp only [if_pos h3, if_neg (show ¬ t.k = 4 by omega)]
  · by_cases h4 : t.k = 4
    · simp only [if_pos h4, if_neg h3]
    · simp only [if_neg h3, if_neg h4]

theorem below_ct (n : Strs) (gb go gcap : Nat) (gA : Nat → Option Addr) (gL gC gAB gAO : Nat → Nat) (gB : Nat → Nat → Bool) (hF : Hid (formedB n (fgrid n.len gb go gcap gA gL gC gAB gAO gB) = true)) :
    ∀ s t : Ty, (∃ d, s.fm n.len d = true) → (∃ d, t.fm n.len d = true) → s.nodes ≤ 1000 → t.nodes ≤ 1000 → Ct n gb go gcap gA gL gC gAB gAO gB s t (s.bel gB true t) ∧ Ct n gb go gcap gA gL gC gAB gAO gB t s (s.bel gB false t) := by
  intro s
  induction s with
  | dm => intro t ⟨d, hd⟩; cases hd
  | mk sk sl sh se sao sb so slen scap sps ih =>
    intro t ⟨d, hd⟩ ⟨d', hd'⟩ h1 h2
    rcases t with _ | ⟨tk, tl, th, te, tao, tb, to', tlen, tcap, tps⟩
    · cases hd'
    obtain ⟨gs, _, cs⟩ := fm_gd hd
    obtain ⟨gt, _, ct⟩ := fm_gd hd'
    have a1 : (slen : Int) = arityI sk := gs.ar
    have a2 : (tlen : Int) = arityI tk := gt.ar
    have sub : ∀ i, i < slen → i < tlen → Ct n gb go gcap gA gL gC gAB gAO gB (sps i) (tps i) ((sps i).bel gB true (tps i)) ∧ Ct n gb go gcap gA gL gC gAB gAO gB (tps i) (sps i) ((sps i).bel gB false (tps i)) := fun i hi hi' =>
      ih i (tps i) ⟨_, cs i hi⟩ ⟨_, ct i hi'⟩ (by have : (sps i).nodes < _ := nodes_part (t := .mk sk sl sh se sao sb so slen scap sps) hi; omega) (by have : (tps i).nodes < _ := nodes_part (t := .mk tk tl th te tao tb to' tlen tcap tps) hi'; omega)
    have two : ∀ k : Int, (k = 3 ∨ k = 4) → arityI k = 2 := fun k h => arity_two h
    have pnS : sk = 5 → (sps 0).pn ≤ 1000 := fun h => by
      subst h
      have h5 : arityI 5 = 1 := rfl
      have hh : (sps 0).nodes < _ := nodes_part (t := .mk 5 sl sh se sao sb so slen scap sps) (i := 0) (by show 0 < slen; omega)
      have := pn_nodes (sps 0)
      omega
    have pnT : tk = 5 → (tps 0).pn ≤ 1000 := fun h => by
      subst h
      have h5 : arityI 5 = 1 := rfl
      have hh : (tps 0).nodes < _ := nodes_part (t := .mk 5 tl th te tao tb to' tlen tcap tps) (i := 0) (by show 0 < tlen; omega)
      have := pn_nodes (tps 0)
      omega
    refine ⟨?_, ?_⟩
    · rw [bel_up _ _ _ (by intro h; cases h)]
      refine below_step n gb go gcap gA gL gC gAB gAO gB hF sk sl sh se sao sb so slen scap sps tk tl th te tao tb to' tlen tcap tps gs gt _ _ (fun h => ?_) (fun h => ?_) (fun h => ?_) pnS
      · obtain ⟨rfl, rfl⟩ := h
        have := two 3 (Or.inl rfl)
        exact (sub 0 (by omega) (by omega)).1
      · obtain ⟨rfl, rfl⟩ := h
        have := two 4 (Or.inr rfl)
        exact (sub 0 (by omega) (by omega)).2
      · rcases h with ⟨rfl, rfl⟩ | ⟨rfl, rfl⟩
        · have := two 3 (Or.inl rfl)
          exact (sub 1 (by omega) (by omega)).1
        · have := two 4 (Or.inr rfl)
          exact (sub 1 (by omega) (by omega)).1
    · rw [bel_dn _ _ _ (by intro h; cases h)]
      refine below_step n gb go gcap gA gL gC gAB gAO gB hF tk tl th te tao tb to' tlen tcap tps sk sl sh se sao sb so slen scap sps gt gs _ _ (fun h => ?_) (fun h => ?_) (fun h => ?_) pnT
      · obtain ⟨rfl, rfl⟩ := h
        have := two 3 (Or.inl rfl)
        exact (sub 0 (by omega) (by omega)).2
      · obtain ⟨rfl, rfl⟩ := h
        have := two 4 (Or.inr rfl)
        exact (sub 0 (by omega) (by omega)).1
      · rcases h with ⟨rfl, rfl⟩ | ⟨rfl, rfl⟩
        · have := two 3 (Or.inl rfl)
          exact (sub 1 (by omega) (by omega)).2
        · have := two 4 (Or.inr rfl)
          exact (sub 1 (by omega) (by omega)).2

/-- What Below tells. -/
def belB (n : Strs) (g : Grid) (s t : Ty) : Bool := (formedB n g && (s.ok n.len && t.ok n.len)) && s.bel g.B true t
theorem ok_parts {N : Nat} {t : Ty} (h : t.ok N = true) : t.fm N 1 = true ∧ t.nodes ≤ 40 := by
  unfold Ty.ok at h
  rw [Bool.and_eq_true, decide_eq_true_eq] at h
  exact h

set_option maxRecDepth 100000 in
set_option maxHeartbeats 2000000 in
theorem Below_any2 (n : Strs) (g : Grid) (s t : Ty) (w : World) (hn : n.At w) (hg : g.At w) (hs : s.At w) (ht : t.At w) :
    Calls Try.prog 17 #[.agg #[.slice n.ao n.len n.cap, .slice g.ao g.len g.cap], .agg #[.int .i64 s.k, .int .i64 s.l, .slice s.ao s.len s.cap, .int .i64 s.h, .int .i64 s.e], .agg #[.int .i64 t.k, .int .i64 t.l, .slice t.ao t.len t.cap, .int .i64 t.h, .int .i64 t.e]] w fun e w' => e = .returned (.bool (belB n g s t)) ∧ Below w.heap.size w w' := by
  obtain ⟨L0, X0, Y0, B0⟩ := start_ltt w n g s t
  have R1 := row2_at _ s t (hs.kept B0) (ht.kept B0)
  have B1 := below_alloc (((w.alloc (latO n g)).alloc (tyO s)).alloc (tyO t)) (row2 s t)
  have hA := allFormed_any n g _ _ _ _ _ _ _ ((hn.kept B0).kept B1) ((hg.kept B0).kept B1) R1
  rw [alloc_size, alloc_size, alloc_size] at hA
  have HE : Hid ((formedB n g && decide (∀ i, i < 2 → Ty.ok n.len ((fun i => if i = 0 then s else t) i) = true)) = (formedB n g && (s.ok n.len && t.ok n.len))) := by
    show (formedB n g && decide (∀ i, i < 2 → Ty.ok n.len ((fun i => if i = 0 then s else t) i) = true)) = (formedB n g && (s.ok n.len && t.ok n.len))
    congr 1
    rw [Bool.eq_iff_iff, decide_eq_true_eq, Bool.and_eq_true]
    exact ⟨fun h => ⟨h 0 (by omega), h 1 (by omega)⟩, fun h i hi => by
      by_cases e : i = 0
      · subst e; exact h.1
      · have e1 : i = 1 := by omega
        subst e1; exact h.2⟩
  rw [HE.out] at hA
  have L1 := L0.kept B1
  have X1 := X0.kept B1
  have Y1 := Y0.kept B1
  have B2 := Below.next B0 B1
  clear HE R1 L0 X0 Y0 B0 B1
  unfold latO tyO row2 at *
  cases hq : (formedB n g && (s.ok n.len && t.ok n.len))
  · have HV : Hid (belB n g s t = false) := by show belB n g s t = false; unfold belB; rw [hq]; rfl
    rw [hq] at hA
    go_enter Try.func17, Try.ntmps17
    go_wp2_with fail
    refine hA.mono ?_
    rintro e w1 ⟨rfl, hb1⟩
    go_wp2
    go_ret
    exact ⟨ret_bool HV.out.symm, Below.next B2 hb1⟩
  · have HV : Hid (belB n g s t = s.bel g.B true t) := by show belB n g s t = _; unfold belB; rw [hq]; rfl
    rw [hq] at hA
    have hq' := hq
    rw [Bool.and_eq_true, Bool.and_eq_true] at hq'
    obtain ⟨f1, n1⟩ := ok_parts hq'.2.1
    obtain ⟨f2, n2⟩ := ok_parts hq'.2.2
    have hfp := formed_parts hq'.1
    have hC : ∀ u, n.At u → g.At u → s.At u → t.At u → Calls Try.prog 40 #[.agg #[.slice n.ao n.len n.cap, .slice g.ao g.len g.cap], .agg #[.int .i64 s.k, .int .i64 s.l, .slice s.ao s.len s.cap, .int .i64 s.h, .int .i64 s.e], .agg #[.int .i64 t.k, .int .i64 t.l, .slice t.ao t.len t.cap, .int .i64 t.h, .int .i64 t.e]] u fun e w' => e = .returned (.bool (s.bel g.B true t)) ∧ Below u.heap.size u w' := by
      have hF := hq'.1
      have hnil := hg.nil (by omega)
      obtain ⟨gao, gb, go, glen, gcap, gA, gL, gC, gAB, gAO, gB⟩ := g
      have e1 : gao = some ⟨gb, go, none⟩ := hnil
      have e2 : glen = n.len := hfp.1
      subst e1 e2
      exact (below_ct n gb go gcap gA gL gC gAB gAO gB hF s t ⟨1, f1⟩ ⟨1, f2⟩ (by omega) (by omega)).1
    have HN : Hid (n.At w ∧ g.At w ∧ s.At w ∧ t.At w) := ⟨hn, hg, hs, ht⟩
    clear hq hq' f1 f2 n1 n2 hfp hn hg hs ht
    go_enter Try.func17, Try.ntmps17
    go_wp2_with fail
    refine hA.mono ?_
    rintro e w1 ⟨rfl, hb1⟩
    have L2 := L1.kept hb1
    have X2 := X1.kept hb1
    have Y2 := Y1.kept hb1
    have B3 := Below.next B2 hb1
    have l0 := L2.c0
    have l1 := L2.c1
    have x0 := X2.c0
    have x1 := X2.c1
    have x2 := X2.c2
    have x3 := X2.c3
    have x4 := X2.c4
    have y0 := Y2.c0
    have y1 := Y2.c1
    have y2 := Y2.c2
    have y3 := Y2.c3
    have y4 := Y2.c4
    have hD := hC w1 (HN.out.1.kept B3) (HN.out.2.1.kept B3) (HN.out.2.2.1.kept B3) (HN.out.2.2.2.kept B3)
    clear L1 X1 Y1 hb1 hA hC
    go_wp2_with fail
    refine hD.mono ?_
    rintro e w2 ⟨rfl, hb2⟩
    go_wp2
    go_ret
    exact ⟨ret_bool HV.out.symm, Below.next B3 hb2⟩
end Go.Proofs.Ytlknlnhbmamcbaa

/- Layer 2: Below is an order on formed types. No program is walked here. -/
namespace Go.Proofs.Ytlknlnhbmamcbaa

/-- An order on the numbers below N. -/
structure Po (N : Nat) (le : Nat → Nat → Bool) : Prop where
  refl : ∀ a, a < N → le a a = true
  anti : ∀ a b, a < N → b < N → le a b = true → le b a = true → a = b
  trans : ∀ a b c, a < N → b < N → c < N → le a b = true → le b c = true → le a c = true
theorem po_of {n : Strs} {g : Grid} (hF : formedB n g = true) : Po n.len g.B :=
  ⟨fun _ ha => lq_refl hF ha, fun _ _ ha hb h1 h2 => lq_anti hF ha hb h1 h2, fun _ _ _ ha hb hc h1 h2 => lq_trans hF ha hb hc h1 h2⟩

/-- A formed type. -/
structure Fd (N : Nat) (t : Ty) : Prop where
  gd : Gd N t
  part : ∀ i, i < t.len → ∃ d, (t.ps i).fm N d = true
theorem fd_of {N d : Nat} {t : Ty} (h : t.fm N d = true) : Fd N t := ⟨(fm_gd h).1, fun i hi => ⟨_, (fm_gd h).2.2 i hi⟩⟩
theorem Fd.sub {N : Nat} {t : Ty} (h : Fd N t) {i : Nat} (hi : i < t.len) : Fd N (t.ps i) := by
  obtain ⟨d, hd⟩ := h.part i hi
  exact fd_of hd
theorem Fd.two {N : Nat} {t : Ty} (h : Fd N t) (hk : t.k = 3 ∨ t.k = 4) : t.len = 2 := by
  have := h.gd.ar
  rw [arity_two hk] at this
  omega
theorem Fd.one {N : Nat} {t : Ty} (h : Fd N t) (hk : t.k = 5) : t.len = 1 := by
  have := h.gd.ar
  rw [hk] at this
  have h5 : arityI 5 = 1 := rfl
  omega
theorem Fd.lab {N : Nat} {t : Ty} (h : Fd N t) : ∃ x : Nat, t.l = x ∧ x < N := inR_nat h.gd.lab
theorem Fd.heap {N : Nat} {t : Ty} (h : Fd N t) (hk : t.k = 4) : ∃ x : Nat, t.h = x ∧ x < N := by
  have := h.gd.bnd
  rw [hk] at this
  exact inR_nat (bnd4 this).1
theorem Fd.exc {N : Nat} {t : Ty} (h : Fd N t) (hk : t.k = 4) : t.e = -1 ∨ ∃ x : Nat, t.e = x ∧ x < N := by
  have := h.gd.bnd
  rw [hk] at this
  exact (bnd4 this).2.imp (fun h => h) inR_nat
theorem Fd.zero {N : Nat} {t : Ty} (h : Fd N t) (hk : t.k ≠ 4) : t.h = 0 ∧ t.e = 0 := by
  have := h.gd.bnd
  unfold bndI at this
  rw [if_neg hk, Bool.and_eq_true] at this
  exact ⟨by simpa using this.1, by simpa using this.2⟩
theorem Fd.ne {N : Nat} {t : Ty} (h : Fd N t) : t ≠ .dm := fun e => by
  subst e
  have := h.gd.ar
  have h0 : arityI (Ty.k .dm) = -1 := rfl
  rw [h0] at this
  have h1 : Ty.len .dm = 0 := rfl
  rw [h1] at this
  omega

theorem same_refl : ∀ s : Ty, s.same s = true := by
  intro s
  induction s with
  | dm => rfl
  | mk k l h e ao b o len cap ps ih =>
    rw [same_eq]
    unfold hdEq
    simp only [beq_self_eq_true, Bool.and_self, Bool.true_and, decide_eq_true_eq]
    exact fun i _ => ih i
theorem same_iff (s t : Ty) : s.same t = true ↔ (s.k = t.k ∧ s.l = t.l ∧ s.h = t.h ∧ s.e = t.e ∧ s.len = t.len) ∧ ∀ i, i < s.len → (s.ps i).same (t.ps i) = true := by
  rw [same_eq, Bool.and_eq_true, decide_eq_true_eq]
  unfold hdEq
  simp only [Bool.and_eq_true, beq_iff_eq]
  constructor
  · rintro ⟨⟨⟨⟨⟨h1, h2⟩, h3⟩, h4⟩, h5⟩, h6⟩
    exact ⟨⟨h1, h2, h3, h4, h5⟩, h6⟩
  · rintro ⟨⟨h1, h2, h3, h4, h5⟩, h6⟩
    exact ⟨⟨⟨⟨⟨h1, h2⟩, h3⟩, h4⟩, h5⟩, h6⟩
theorem same_trans : ∀ s t u : Ty, s.same t = true → t.same u = true → s.same u = true := by
  intro s
  induction s with
  | dm =>
    intro t u h1 h2
    rw [same_iff] at h1 h2 ⊢
    exact ⟨⟨h1.1.1.trans h2.1.1, h1.1.2.1.trans h2.1.2.1, h1.1.2.2.1.trans h2.1.2.2.1, h1.1.2.2.2.1.trans h2.1.2.2.2.1, h1.1.2.2.2.2.trans h2.1.2.2.2.2⟩, fun i hi => absurd hi (Nat.not_lt_zero _)⟩
  | mk k l h e ao b o len cap ps ih =>
    intro t u h1 h2
    rw [same_iff] at h1 h2 ⊢
    exact ⟨⟨h1.1.1.trans h2.1.1, h1.1.2.1.trans h2.1.2.1, h1.1.2.2.1.trans h2.1.2.2.1, h1.1.2.2.2.1.trans h2.1.2.2.2.1, h1.1.2.2.2.2.trans h2.1.2.2.2.2⟩, fun i hi => ih i (t.ps i) (u.ps i) (h1.2 i hi) (h2.2 i (by rw [← h1.1.2.2.2.2]; exact hi))⟩

theorem step_congr {le : Nat → Nat → Bool} {s t : Ty} {p0 p1 q0 q1 : Bool} (h : s.k = t.k → (s.k = 3 ∨ s.k = 4) → p0 = q0 ∧ p1 = q1) : stepB le s t p0 p1 = stepB le s t q0 q1 := by
  unfold stepB
  by_cases hk : s.k = t.k
  · by_cases h3 : s.k = 3
    · obtain ⟨rfl, rfl⟩ := h hk (Or.inl h3); rfl
    · by_cases h4 : s.k = 4
      · obtain ⟨rfl, rfl⟩ := h hk (Or.inr h4); rfl
      · simp only [if_neg h3, if_neg h4]
  · rw [beq_eq_false_iff_ne.2 hk]; rfl

theorem bel_flip {N : Nat} {le : Nat → Nat → Bool} : ∀ s t : Ty, Fd N s → Fd N t → s.bel le false t = t.bel le true s ∧ s.bel le true t = t.bel le false s := by
  intro s
  induction s with
  | dm => intro t hs; exact absurd rfl hs.ne
  | mk k l h e ao b o len cap ps ih =>
    intro t hs ht
    have key : ∀ i, (Ty.mk k l h e ao b o len cap ps).k = t.k → ((Ty.mk k l h e ao b o len cap ps).k = 3 ∨ (Ty.mk k l h e ao b o len cap ps).k = 4) → i < 2 → (ps i).bel le false (t.ps i) = (t.ps i).bel le true (ps i) ∧ (ps i).bel le true (t.ps i) = (t.ps i).bel le false (ps i) := fun i hk h34 hi => by
      have h1 := hs.two h34
      have h2 := ht.two (by rw [← hk]; exact h34)
      exact ih i (t.ps i) (hs.sub (i := i) (by omega)) (ht.sub (i := i) (by omega))
    rw [bel_dn _ _ _ hs.ne, bel_up _ _ _ ht.ne, bel_up _ _ _ hs.ne, bel_dn _ _ _ ht.ne]
    refine ⟨step_congr (fun hk h34 => ?_), step_congr (fun hk h34 => ?_)⟩
    · have k0 := key 0 hk.symm (by rw [← hk]; exact h34) (by omega)
      have k1 := key 1 hk.symm (by rw [← hk]; exact h34) (by omega)
      exact ⟨by show (if t.k = 4 then (ps 0).bel le true (t.ps 0) else (ps 0).bel le false (t.ps 0)) = (if t.k = 4 then (t.ps 0).bel le false (ps 0) else (t.ps 0).bel le true (ps 0)); rw [k0.1, k0.2], k1.1⟩
    · have k0 := key 0 hk h34 (by omega)
      have k1 := key 1 hk h34 (by omega)
      exact ⟨by show (if k = 4 then (ps 0).bel le false (t.ps 0) else (ps 0).bel le true (t.ps 0)) = (if k = 4 then (t.ps 0).bel le true (ps 0) else (t.ps 0).bel le false (ps 0)); rw [k0.1, k0.2], k1.2⟩

/-- What Below says of formed types, in one step. -/
structure BelS (le : Nat → Nat → Bool) (s t : Ty) : Prop where
  k : s.k = t.k
  l : le s.l.toNat t.l.toNat = true
  pair : s.k = 3 → (s.ps 0).bel le true (t.ps 0) = true ∧ (s.ps 1).bel le true (t.ps 1) = true
  func : s.k = 4 → ((t.ps 0).bel le true (s.ps 0) = true ∧ (s.ps 1).bel le true (t.ps 1) = true) ∧ le t.h.toNat s.h.toNat = true ∧ excB le s.e t.e = true
  ref : s.k = 5 → (s.ps 0).same (t.ps 0) = true
theorem bel_iff {N : Nat} {le : Nat → Nat → Bool} {s t : Ty} (hs : Fd N s) (ht : Fd N t) : s.bel le true t = true ↔ BelS le s t := by
  rw [bel_up _ _ _ hs.ne]
  unfold stepB
  rw [Bool.and_eq_true, Bool.and_eq_true, beq_iff_eq]
  constructor
  · rintro ⟨⟨hk, hl⟩, h⟩
    refine ⟨hk, hl, fun h3 => ?_, fun h4 => ?_, fun h5 => ?_⟩
    · rw [if_pos h3, if_neg (by omega), Bool.and_eq_true] at h
      exact h
    · rw [if_neg (by omega), if_pos h4, if_pos h4, Bool.and_eq_true, Bool.and_eq_true, Bool.and_eq_true] at h
      have h1 := hs.two (Or.inr h4)
      have h2 := ht.two (by rw [← hk]; exact Or.inr h4)
      have hf := (bel_flip (le := le) (s.ps 0) (t.ps 0) (hs.sub (by omega)) (ht.sub (by omega))).1
      rw [hf] at h
      exact ⟨h.1.1, h.1.2, h.2⟩
    · rw [if_neg (by omega), if_neg (by omega), if_pos h5] at h
      exact h
  · intro h
    refine ⟨⟨h.k, h.l⟩, ?_⟩
    by_cases h3 : s.k = 3
    · rw [if_pos h3, if_neg (by omega), Bool.and_eq_true]
      exact h.pair h3
    · rw [if_neg h3]
      by_cases h4 : s.k = 4
      · rw [if_pos h4, if_pos h4, Bool.and_eq_true, Bool.and_eq_true, Bool.and_eq_true]
        have h1 := hs.two (Or.inr h4)
        have h2 := ht.two (by rw [← h.k]; exact Or.inr h4)
        have hf := (bel_flip (le := le) (s.ps 0) (t.ps 0) (hs.sub (by omega)) (ht.sub (by omega))).1
        rw [hf]
        exact ⟨⟨(h.func h4).1, (h.func h4).2.1⟩, (h.func h4).2.2⟩
      · rw [if_neg h4]
        by_cases h5 : s.k = 5
        · rw [if_pos h5]; exact h.ref h5
        · rw [if_neg h5]

theorem exc_refl {N : Nat} {le : Nat → Nat → Bool} (P : Po N le) {a : Int} (ha : a = -1 ∨ ∃ x : Nat, a = x ∧ x < N) : excB le a a = true := by
  unfold excB
  rcases ha with rfl | ⟨x, rfl, hx⟩
  · rfl
  · rw [show ((x : Int) != -1) = true from by simp, Int.toNat_natCast, P.refl x hx]; simp
theorem exc_iff {le : Nat → Nat → Bool} {a b : Int} : excB le a b = true ↔ a = -1 ∨ (b ≠ -1 ∧ le a.toNat b.toNat = true) := by
  unfold excB
  rw [Bool.or_eq_true, Bool.and_eq_true, beq_iff_eq, bne_iff_ne]
theorem exc_trans {N : Nat} {le : Nat → Nat → Bool} (P : Po N le) {a b c : Int} (ha : a = -1 ∨ ∃ x : Nat, a = x ∧ x < N) (hb : b = -1 ∨ ∃ x : Nat, b = x ∧ x < N) (hc : c = -1 ∨ ∃ x : Nat, c = x ∧ x < N) (h1 : excB le a b = true) (h2 : excB le b c = true) : excB le a c = true := by
  rw [exc_iff] at h1 h2 ⊢
  rcases h1 with h1 | ⟨h1, h1'⟩
  · exact Or.inl h1
  rcases h2 with h2 | ⟨h2, h2'⟩
  · exact absurd h2 h1
  rcases ha with ha | ⟨x, rfl, hx⟩
  · exact Or.inl ha
  rcases hb with hb | ⟨y, rfl, hy⟩
  · exact absurd hb h1
  rcases hc with hc | ⟨z, rfl, hz⟩
  · exact absurd hc h2
  exact Or.inr ⟨h2, P.trans _ _ _ hx hy hz h1' h2'⟩
theorem exc_anti {N : Nat} {le : Nat → Nat → Bool} (P : Po N le) {a b : Int} (ha : a = -1 ∨ ∃ x : Nat, a = x ∧ x < N) (hb : b = -1 ∨ ∃ x : Nat, b = x ∧ x < N) (h1 : excB le a b = true) (h2 : excB le b a = true) : a = b := by
  rw [exc_iff] at h1 h2
  rcases h1 with h1 | ⟨h1, h1'⟩
  · rcases h2 with h2 | ⟨h2, _⟩
    · rw [h1, h2]
    · exact absurd h1 h2
  rcases h2 with h2 | ⟨h2, h2'⟩
  · exact absurd h2 h1
  rcases ha with ha | ⟨x, rfl, hx⟩
  · exact absurd ha h2
  rcases hb with hb | ⟨y, rfl, hy⟩
  · exact absurd hb h1
  rw [P.anti x y hx hy h1' h2']

theorem bel_refl {N : Nat} {le : Nat → Nat → Bool} (P : Po N le) : ∀ s : Ty, Fd N s → s.bel le true s = true := by
  intro s
  induction s with
  | dm => intro hs; exact absurd rfl hs.ne
  | mk k l h e ao b o len cap ps ih =>
    intro hs
    rw [bel_iff hs hs]
    obtain ⟨x, hx, hx1⟩ := hs.lab
    have sub : ∀ i, i < 2 → (Ty.mk k l h e ao b o len cap ps).k = 3 ∨ (Ty.mk k l h e ao b o len cap ps).k = 4 → (ps i).bel le true (ps i) = true := fun i hi h34 => ih i (hs.sub (i := i) (by rw [hs.two h34]; omega))
    refine ⟨rfl, by rw [hx, Int.toNat_natCast]; exact P.refl x hx1, fun h3 => ⟨sub 0 (by omega) (Or.inl h3), sub 1 (by omega) (Or.inl h3)⟩, fun h4 => ⟨⟨sub 0 (by omega) (Or.inr h4), sub 1 (by omega) (Or.inr h4)⟩, ?_, exc_refl P (hs.exc h4)⟩, fun _ => same_refl _⟩
    obtain ⟨y, hy, hy1⟩ := hs.heap h4
    rw [hy, Int.toNat_natCast]; exact P.refl y hy1

theorem bel_trans {N : Nat} {le : Nat → Nat → Bool} (P : Po N le) : ∀ s t u : Ty, Fd N s → Fd N t → Fd N u → (s.bel le true t = true → t.bel le true u = true → s.bel le true u = true) ∧ (u.bel le true t = true → t.bel le true s = true → u.bel le true s = true) := by
  intro s
  induction s with
  | dm => intro t u hs; exact absurd rfl hs.ne
  | mk k l h e ao b o len cap ps ih =>
    intro t u hs ht hu
    obtain ⟨x, hx, hx1⟩ := hs.lab
    obtain ⟨y, hy, hy1⟩ := ht.lab
    obtain ⟨z, hz, hz1⟩ := hu.lab
    rw [bel_iff hs ht, bel_iff ht hu, bel_iff hs hu, bel_iff hu ht, bel_iff ht hs, bel_iff hu hs]
    have sub : ∀ i, i < 2 → (Ty.mk k l h e ao b o len cap ps).k = 3 ∨ (Ty.mk k l h e ao b o len cap ps).k = 4 → (Ty.mk k l h e ao b o len cap ps).k = t.k → (Ty.mk k l h e ao b o len cap ps).k = u.k → ((ps i).bel le true (t.ps i) = true → (t.ps i).bel le true (u.ps i) = true → (ps i).bel le true (u.ps i) = true) ∧ ((u.ps i).bel le true (t.ps i) = true → (t.ps i).bel le true (ps i) = true → (u.ps i).bel le true (ps i) = true) := fun i hi h34 ht' hu' => by
      have h1 := hs.two h34
      have h2 := ht.two (by rw [← ht']; exact h34)
      have h3 := hu.two (by rw [← hu']; exact h34)
      exact ih i (t.ps i) (u.ps i) (hs.sub (i := i) (by omega)) (ht.sub (by omega)) (hu.sub (by omega))
    constructor
    · intro a b'
      have ku := a.k.trans b'.k
      refine ⟨ku, ?_, fun h3 => ?_, fun h4 => ?_, fun h5 => ?_⟩
      · have q1 := a.l
        have q2 := b'.l
        rw [hx, hy, Int.toNat_natCast, Int.toNat_natCast] at q1
        rw [hy, hz, Int.toNat_natCast, Int.toNat_natCast] at q2
        rw [hx, hz, Int.toNat_natCast, Int.toNat_natCast]
        exact P.trans x y z hx1 hy1 hz1 q1 q2
      · have p1 := a.pair h3
        have p2 := b'.pair (by rw [← a.k]; exact h3)
        exact ⟨(sub 0 (by omega) (Or.inl h3) a.k ku).1 p1.1 p2.1, (sub 1 (by omega) (Or.inl h3) a.k ku).1 p1.2 p2.2⟩
      · have p1 := a.func h4
        have p2 := b'.func (by rw [← a.k]; exact h4)
        obtain ⟨xh, hxh, hxh1⟩ := hs.heap h4
        obtain ⟨yh, hyh, hyh1⟩ := ht.heap (by rw [← a.k]; exact h4)
        obtain ⟨zh, hzh, hzh1⟩ := hu.heap (by rw [← ku]; exact h4)
        refine ⟨⟨(sub 0 (by omega) (Or.inr h4) a.k ku).2 p2.1.1 p1.1.1, (sub 1 (by omega) (Or.inr h4) a.k ku).1 p1.1.2 p2.1.2⟩, ?_, exc_trans P (hs.exc h4) (ht.exc (by rw [← a.k]; exact h4)) (hu.exc (by rw [← ku]; exact h4)) p1.2.2 p2.2.2⟩
        have q1 := p1.2.1
        have q2 := p2.2.1
        rw [hxh, hyh, Int.toNat_natCast, Int.toNat_natCast] at q1
        rw [hyh, hzh, Int.toNat_natCast, Int.toNat_natCast] at q2
        rw [hxh, hzh, Int.toNat_natCast, Int.toNat_natCast]
        exact P.trans zh yh xh hzh1 hyh1 hxh1 q2 q1
      · exact same_trans _ _ _ (a.ref h5) (b'.ref (by rw [← a.k]; exact h5))
    · intro a b'
      have ku := a.k.trans b'.k
      refine ⟨ku, ?_, fun h3 => ?_, fun h4 => ?_, fun h5 => ?_⟩
      · have q1 := a.l
        have q2 := b'.l
        rw [hz, hy, Int.toNat_natCast, Int.toNat_natCast] at q1
        rw [hy, hx, Int.toNat_natCast, Int.toNat_natCast] at q2
        rw [hz, hx, Int.toNat_natCast, Int.toNat_natCast]
        exact P.trans z y x hz1 hy1 hx1 q1 q2
      · have p1 := a.pair h3
        have p2 := b'.pair (by rw [← a.k]; exact h3)
        have hk3 : (Ty.mk k l h e ao b o len cap ps).k = 3 := by rw [← ku]; exact h3
        exact ⟨(sub 0 (by omega) (Or.inl hk3) b'.k.symm ku.symm).2 p1.1 p2.1, (sub 1 (by omega) (Or.inl hk3) b'.k.symm ku.symm).2 p1.2 p2.2⟩
      · have p1 := a.func h4
        have p2 := b'.func (by rw [← a.k]; exact h4)
        have hk4 : (Ty.mk k l h e ao b o len cap ps).k = 4 := by rw [← ku]; exact h4
        obtain ⟨xh, hxh, hxh1⟩ := hs.heap hk4
        obtain ⟨yh, hyh, hyh1⟩ := ht.heap (by rw [← a.k]; exact h4)
        obtain ⟨zh, hzh, hzh1⟩ := hu.heap h4
        refine ⟨⟨(sub 0 (by omega) (Or.inr hk4) b'.k.symm ku.symm).1 p2.1.1 p1.1.1, (sub 1 (by omega) (Or.inr hk4) b'.k.symm ku.symm).2 p1.1.2 p2.1.2⟩, ?_, exc_trans P (hu.exc h4) (ht.exc (by rw [← a.k]; exact h4)) (hs.exc hk4) p1.2.2 p2.2.2⟩
        have q1 := p1.2.1
        have q2 := p2.2.1
        rw [hzh, hyh, Int.toNat_natCast, Int.toNat_natCast] at q1
        rw [hyh, hxh, Int.toNat_natCast, Int.toNat_natCast] at q2
        rw [hzh, hxh, Int.toNat_natCast, Int.toNat_natCast]
        exact P.trans xh yh zh hxh1 hyh1 hzh1 q2 q1
      · exact same_trans _ _ _ (a.ref h5) (b'.ref (by rw [← a.k]; exact h5))

theorem bel_anti {N : Nat} {le : Nat → Nat → Bool} (P : Po N le) : ∀ s t : Ty, Fd N s → Fd N t → s.bel le true t = true → t.bel le true s = true → s.same t = true := by
  intro s
  induction s with
  | dm => intro t hs; exact absurd rfl hs.ne
  | mk k l h e ao b o len cap ps ih =>
    intro t hs ht h1 h2
    rw [bel_iff hs ht] at h1
    rw [bel_iff ht hs] at h2
    obtain ⟨x, hx, hx1⟩ := hs.lab
    obtain ⟨y, hy, hy1⟩ := ht.lab
    have el : (Ty.mk k l h e ao b o len cap ps).l = t.l := by
      have q1 := h1.l
      have q2 := h2.l
      rw [hx, hy, Int.toNat_natCast, Int.toNat_natCast] at q1 q2
      rw [hx, hy, P.anti x y hx1 hy1 q1 q2]
    have elen : (Ty.mk k l h e ao b o len cap ps).len = t.len := by
      have a1 := hs.gd.ar
      have a2 := ht.gd.ar
      rw [h1.k] at a1
      omega
    have sub : ∀ i, i < (Ty.mk k l h e ao b o len cap ps).len → (ps i).bel le true (t.ps i) = true → (t.ps i).bel le true (ps i) = true → (ps i).same (t.ps i) = true := fun i hi => ih i (t.ps i) (hs.sub (i := i) hi) (ht.sub (by omega))
    rw [same_iff]
    by_cases h4 : (Ty.mk k l h e ao b o len cap ps).k = 4
    · have t4 : t.k = 4 := by rw [← h1.k]; exact h4
      have p1 := h1.func h4
      have p2 := h2.func t4
      obtain ⟨xh, hxh, hxh1⟩ := hs.heap h4
      obtain ⟨yh, hyh, hyh1⟩ := ht.heap t4
      refine ⟨⟨h1.k, el, ?_, exc_anti P (hs.exc h4) (ht.exc t4) p1.2.2 p2.2.2, elen⟩, fun i hi => ?_⟩
      · have q1 := p1.2.1
        have q2 := p2.2.1
        rw [hxh, hyh, Int.toNat_natCast, Int.toNat_natCast] at q1 q2
        rw [hxh, hyh, P.anti xh yh hxh1 hyh1 q2 q1]
      · have h2' := hs.two (Or.inr h4)
        by_cases e0 : i = 0
        · subst e0; exact sub 0 hi p2.1.1 p1.1.1
        · have e1 : i = 1 := by omega
          subst e1; exact sub 1 hi p1.1.2 p2.1.2
    · have z1 := hs.zero h4
      have z2 := ht.zero (by rw [← h1.k]; exact h4)
      refine ⟨⟨h1.k, el, z1.1.trans z2.1.symm, z1.2.trans z2.2.symm, elen⟩, fun i hi => ?_⟩
      by_cases h3 : (Ty.mk k l h e ao b o len cap ps).k = 3
      · have p1 := h1.pair h3
        have p2 := h2.pair (by rw [← h1.k]; exact h3)
        have h2' := hs.two (Or.inl h3)
        by_cases e0 : i = 0
        · subst e0; exact sub 0 hi p1.1 p2.1
        · have e1 : i = 1 := by omega
          subst e1; exact sub 1 hi p1.2 p2.2
      · by_cases h5 : (Ty.mk k l h e ao b o len cap ps).k = 5
        · have h1' := hs.one h5
          have e0 : i = 0 := by omega
          subst e0; exact h1.ref h5
        · exfalso
          have a1 := hs.gd.ar
          unfold arityI at a1
          rw [if_neg h5, if_neg h3, if_neg h4] at a1
          split at a1
          · omega
          · split at a1 <;> omega

theorem belB_iff {n : Strs} {g : Grid} {s t : Ty} : belB n g s t = true ↔ formedB n g = true ∧ s.ok n.len = true ∧ t.ok n.len = true ∧ s.bel g.B true t = true := by
  unfold belB
  rw [Bool.and_eq_true, Bool.and_eq_true, Bool.and_eq_true]
  exact ⟨fun h => ⟨h.1.1, h.1.2.1, h.1.2.2, h.2⟩, fun h => ⟨⟨h.1, h.2.1, h.2.2.1⟩, h.2.2.2⟩⟩
theorem fd_ok {N : Nat} {t : Ty} (h : t.ok N = true) : Fd N t := fd_of (ok_parts h).1
theorem belB_refl (n : Strs) (g : Grid) (s : Ty) : belB n g s s = okB n g s := by
  rw [Bool.eq_iff_iff, belB_iff]
  unfold okB
  rw [Bool.and_eq_true]
  exact ⟨fun h => ⟨h.1, h.2.1⟩, fun h => ⟨h.1, h.2, h.2, bel_refl (po_of h.1) s (fd_ok h.2)⟩⟩
theorem belB_trans {n : Strs} {g : Grid} {s t u : Ty} (h1 : belB n g s t = true) (h2 : belB n g t u = true) : belB n g s u = true := by
  rw [belB_iff] at h1 h2 ⊢
  exact ⟨h1.1, h1.2.1, h2.2.2.1, (bel_trans (po_of h1.1) s t u (fd_ok h1.2.1) (fd_ok h1.2.2.1) (fd_ok h2.2.2.1)).1 h1.2.2.2 h2.2.2.2⟩
theorem belB_anti {n : Strs} {g : Grid} {s t : Ty} (h1 : belB n g s t = true) (h2 : belB n g t s = true) : s.same t = true := by
  rw [belB_iff] at h1 h2
  exact bel_anti (po_of h1.1) s t (fd_ok h1.2.1) (fd_ok h1.2.2.1) h1.2.2.2 h2.2.2.2
end Go.Proofs.Ytlknlnhbmamcbaa

/- The law's own small lattice, and what is asked of it first; few. -/
namespace Go.Proofs.Ytlknlnhbmamcbaa
open Go.RowKit

theorem formed_gen {n : Strs} {ao : Option Addr} {gg len cap : Nat} {s : Nat → ByteArray} {R : Nat → Nat} {M : Nat → Nat → Bool} (h1 : n.len = len) (h2 : n.s = s) : formedB n (gridR ao gg len cap R M) = formedM len s M := by
  obtain ⟨ao, b, o, l, c, s'⟩ := n
  simp only at h1 h2
  subst h1 h2
  rfl
theorem grid_set_nil {g : Grid} {w : World} (h : g.At w) {a : Addr} (ha : w.cell? a = some (.slice none 0 0)) (hA : ∀ r, r < g.len → g.A r ≠ none) (v : Value) : g.At (w.setCell a v) where
  lc := h.lc
  nil := h.nil
  bound := h.bound
  lbound := h.lbound
  row := fun r hr => by
    have hc := h.row r hr
    rw [World.cell?_setCell_other _ _ _ _ (fun e => by rw [← e, ha] at hc; injection hc with hc; injection hc with h1 _ _; exact hA r hr h1.symm)]
    exact hc
  adr := h.adr
  cell := fun r hr c hc => by
    have hc := h.cell r hr c hc
    rw [World.cell?_setCell_other _ _ _ _ (fun e => by rw [← e, ha] at hc; cases hc)]
    exact hc
/-- The lattice of two. -/
structure Lt2 (n : Strs) (g : Grid) (w : World) : Prop where
  nat : n.At w
  gat : g.At w
  fd : formedB n g = true
  two : n.len = 2
  le : g.B 0 1 = true
  rows : ∀ r, r < g.len → g.A r ≠ none

theorem two_make (w : World) :
    Calls Try.prog 48 #[.slice (some ⟨w.heap.size, 0, none⟩) 2 2, .slice (some ⟨w.heap.size + 1, 0, none⟩) 1 1] ((w.alloc (.cells #[.string ⟨#[108, 111, 119]⟩, .string ⟨#[104, 105, 103, 104]⟩] 9)).alloc (.cells #[.int .i64 0, .int .i64 1] 41))
      fun e w' => ∃ (n : Strs) (g : Grid), e = .returned (.tuple #[.agg #[.slice n.ao n.len n.cap, .slice g.ao g.len g.cap], .int .i64 0]) ∧ Lt2 n g w' ∧ Below w.heap.size w w' := by
  refine (rmake_any (awkN w.heap.size) (awkP (w.heap.size + 1)) (awkW w) (awkN_at w) (awkP_at w) (Or.inr rfl)).mono ?_
  rintro e w1 ⟨er, n', g', rfl, hM, hb1⟩
  have h0 : er = 0 := hM.er.trans (awk_e _ _)
  subst h0
  obtain ⟨h1, h2, ao, gg, cap, R, rfl⟩ := hM.yes rfl
  refine ⟨n', _, rfl, ⟨hM.nat, hM.gat, ?_, h1, ?_, fun r _ => by simp [gridR]⟩, (awkW_below w).trans (hb1.mono (awkW_below w).size)⟩
  · rw [formed_gen h1 h2]
    have he := awk_e w.heap.size (w.heap.size + 1)
    unfold makeE at he
    split at he
    · cases he
    · split at he
      · cases he
      · split at he
        · cases he
        · rename_i h; simpa using h
  · show leastM (awkP (w.heap.size + 1)) 2 0 1 = true
    refine within_war 2 _ 2 0 1 (by omega) (by omega) ?_
    unfold prsM
    rw [Bool.or_eq_true, decide_eq_true_eq]
    exact Or.inr ⟨0, by show 0 < 1; omega, rfl, rfl⟩

set_option maxHeartbeats 2000000 in
theorem two_any (w : World) : Calls Try.prog 30 #[] w fun e w' => ∃ (n : Strs) (g : Grid), e = .returned (.agg #[.slice n.ao n.len n.cap, .slice g.ao g.len g.cap]) ∧ Lt2 n g w' ∧ Below w.heap.size w w' := by
  have B0 := below_alloc w (.cells #[.slice none 0 0, .slice none 0 0] 25)
  have hm := two_make (w.alloc (.cells #[.slice none 0 0, .slice none 0 0] 25))
  rw [alloc_size] at hm
  have r0 : (w.alloc (.cells #[.slice none 0 0, .slice none 0 0] 25)).cell? ⟨w.heap.size, 0, none⟩ = some (.slice none 0 0) := by simp
  have r1 : (w.alloc (.cells #[.slice none 0 0, .slice none 0 0] 25)).cell? ⟨w.heap.size, 1, none⟩ = some (.slice none 0 0) := by simp
  have f0 : (w.alloc (.cells #[.slice none 0 0, .slice none 0 0] 25)).frozen? ⟨w.heap.size, 0, none⟩ = false := by simp
  have f1 : (w.alloc (.cells #[.slice none 0 0, .slice none 0 0] 25)).frozen? ⟨w.heap.size, 1, none⟩ = false := by simp
  go_enter Try.func30, Try.ntmps30
  go_wp2_with fail
  refine hm.mono ?_
  rintro e w1 ⟨n, g, rfl, hL, hb1⟩
  have hb1' : Below (w.alloc (.cells #[.slice none 0 0, .slice none 0 0] 25)).heap.size (w.alloc (.cells #[.slice none 0 0, .slice none 0 0] 25)) w1 := by rw [alloc_size]; exact hb1
  have X := Bl.new w1 n g
  have BX := below_alloc w1 (.cells #[.slice n.ao n.len n.cap, .slice g.ao g.len g.cap] 25)
  have B2 := Below.next hb1' BX
  have c0 := up B2 r0
  have c1 := up B2 r1
  have g0 := (B2.frozen (p := ⟨w.heap.size, 0, none⟩) (by rw [alloc_size]; exact Nat.lt_succ_self _)).trans f0
  have g1 := (B2.frozen (p := ⟨w.heap.size, 1, none⟩) (by rw [alloc_size]; exact Nat.lt_succ_self _)).trans f1
  have hn2 := hL.nat.kept BX
  have hg2 := hL.gat.kept BX
  have HL : Hid (Lt2 n g w1) := hL
  have B3 := Below.next B0 B2
  clear hL hm r0 r1 f0 f1 hb1 hb1' X B2
  go_wp2
  have c1' : ((w1.alloc (.cells #[.slice n.ao n.len n.cap, .slice g.ao g.len g.cap] 25)).setCell ⟨w.heap.size, 0, none⟩ (.slice n.ao n.len n.cap)).cell? ⟨w.heap.size, 1, none⟩ = some (.slice none 0 0) := by
    rw [World.cell?_setCell_other _ _ _ _ (by simp)]; exact c1
  refine bodyPost_ret (v := .agg #[.slice n.ao n.len n.cap, .slice g.ao g.len g.cap]) (by simp [results, Try.results30, go_sem, c0, c1]) rfl ⟨n, g, rfl, ⟨(hn2.set c0 _).set c1' _, grid_set_nil (grid_set_nil hg2 c0 HL.out.rows _) c1' HL.out.rows _, HL.out.fd, HL.out.two, HL.out.le, HL.out.rows⟩, below_set2 B3 _ _⟩

/-- A type without Parts. -/
def leafT (k l : Int) : Ty := .mk k l 0 0 none 0 0 0 0 (fun _ => .dm)
theorem leaf_at (k l : Int) (w : World) : (leafT k l).At w := ⟨fun h => absurd h (Nat.lt_irrefl _), Nat.zero_le _, fun _ h => absurd h (Nat.not_lt_zero _)⟩
theorem leaf_ok (l : Int) (N : Nat) (h : inR N l = true) : (leafT 1 l).ok N = true := by
  unfold Ty.ok leafT
  rw [fm_eq, h]
  rfl
theorem two_bel {n : Strs} {g : Grid} {w : World} (h : Lt2 n g w) : belB n g (leafT 1 0) (leafT 1 1) = true := by
  unfold belB
  rw [h.fd, leaf_ok 0 _ (by rw [h.two]; rfl), leaf_ok 1 _ (by rw [h.two]; rfl)]
  show (((1 : Int) == 1) && g.B 0 1 && true) = true
  rw [h.le]; rfl

set_option maxHeartbeats 2000000 in
theorem awake2_any (w : World) : Calls Try.prog 9 #[] w fun e w' => e = .returned (.bool true) ∧ Below w.heap.size w w' := by
  go_enter Try.func9, Try.ntmps9
  go_wp2_with fail
  refine (two_any w).mono ?_
  rintro e w1 ⟨n, g, rfl, hL, hb1⟩
  have hc := Below_any2 n g (leafT 1 0) (leafT 1 1) w1 hL.nat hL.gat (leaf_at _ _ _) (leaf_at _ _ _)
  rw [two_bel hL] at hc
  clear hL
  go_wp2_with fail
  refine hc.mono ?_
  rintro e w2 ⟨rfl, hb2⟩
  have hd : Calls Try.prog 13 #[.agg #[.int .i64 0, .int .i64 0, .slice none 0 0, .int .i64 0, .int .i64 0]] w2 fun e w' => e = .returned (.int .i64 1) ∧ Below w2.heap.size w2 w' := Nodes_any (leafT 0 0) w2 (leaf_at _ _ _)
  clear hc
  go_wp2_with fail
  refine hd.mono ?_
  rintro e w3 ⟨rfl, hb3⟩
  go_wp2
  go_ret
  exact ⟨rfl, Below.next (Below.next hb1 hb2) hb3⟩

/-- What few answers. -/
def fewB (n : Strs) (g : Grid) (s t : Ty) : Bool := (smallB n g && decide (s.nodes ≤ 40)) && decide (t.nodes ≤ 40)

set_option maxHeartbeats 2000000 in
theorem few_any (n : Strs) (g : Grid) (s t : Ty) (w : World) (hn : n.At w) (hg : g.At w) (hs : s.At w) (ht : t.At w) :
    Calls Try.prog 10 #[.agg #[.slice n.ao n.len n.cap, .slice g.ao g.len g.cap], .agg #[.int .i64 s.k, .int .i64 s.l, .slice s.ao s.len s.cap, .int .i64 s.h, .int .i64 s.e], .agg #[.int .i64 t.k, .int .i64 t.l, .slice t.ao t.len t.cap, .int .i64 t.h, .int .i64 t.e]] w fun e w' => e = .returned (.bool (fewB n g s t)) ∧ Below w.heap.size w w' := by
  obtain ⟨L0, X0, Y0, B0⟩ := start_ltt w n g s t
  have hn0 := hn.kept B0
  have hg0 := hg.kept B0
  have hs0 := hs.kept B0
  have ht0 := ht.kept B0
  clear hn hg hs ht
  unfold latO tyO at *
  go_enter Try.func10, Try.ntmps10
  go_wp2_with fail
  refine (small_any n g _ hn0 hg0).mono ?_
  rintro e w1 ⟨rfl, hb1⟩
  have X1 := X0.kept hb1
  have Y1 := Y0.kept hb1
  have B1 := Below.next B0 hb1
  have hs1 := hs0.kept hb1
  have ht1 := ht0.kept hb1
  clear L0 X0 Y0 B0 hn0 hg0 hs0 ht0 hb1
  cases h1 : smallB n g
  · have HE : Hid (fewB n g s t = false) := by show fewB n g s t = false; unfold fewB; rw [h1]; rfl
    go_wp2
    go_ret
    exact ⟨ret_bool HE.out.symm, B1⟩
  have x0 := X1.c0
  have x1 := X1.c1
  have x2 := X1.c2
  have x3 := X1.c3
  have x4 := X1.c4
  go_wp2_with fail
  refine (rSmall2_any s _ hs1).mono ?_
  rintro e w2 ⟨rfl, hb2⟩
  have Y2 := Y1.kept hb2
  have B2 := Below.next B1 hb2
  have ht2 := ht1.kept hb2
  clear x0 x1 x2 x3 x4 X1 Y1 hb2
  cases h2 : decide (s.nodes ≤ 40)
  · have HE : Hid (fewB n g s t = false) := by show fewB n g s t = false; unfold fewB; rw [h1, h2]; rfl
    go_wp2
    go_ret
    exact ⟨ret_bool HE.out.symm, B2⟩
  have HE : Hid (fewB n g s t = decide (t.nodes ≤ 40)) := by show fewB n g s t = _; unfold fewB; rw [h1, h2]; rfl
  have y0 := Y2.c0
  have y1 := Y2.c1
  have y2 := Y2.c2
  have y3 := Y2.c3
  have y4 := Y2.c4
  go_wp2_with fail
  refine (rSmall2_any t _ ht2).mono ?_
  rintro e w3 ⟨rfl, hb3⟩
  go_wp2
  go_ret
  exact ⟨ret_bool HE.out.symm, Below.next B2 hb3⟩
end Go.Proofs.Ytlknlnhbmamcbaa
