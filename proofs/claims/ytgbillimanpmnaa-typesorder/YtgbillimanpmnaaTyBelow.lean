/- Layer 2: Below. -/
import Derived.Test.YtgbillimanpmnaaTyStep
namespace Go.Proofs.Ytgbillimanpmnaa
open Go.RowKit

theorem fm_gd {N d : Nat} {t : Ty} (h : t.fm N d = true) : Gd N t ∧ d ≤ 6 ∧ ∀ i, i < t.len → (t.ps i).fm N (d + 1) = true := by
  rcases t with _ | ⟨k, l, h', e, ao, b, o, len, cap, ps⟩
  · cases h
  rw [fm_eq] at h
  simp only [Bool.and_eq_true, decide_eq_true_eq, beq_iff_eq] at h
  exact ⟨⟨h.1.1.1.2, h.1.1.2, h.1.2⟩, h.1.1.1.1, h.2⟩
theorem nodes_part {t : Ty} {i : Nat} (h : i < t.len) : (t.ps i).nodes < t.nodes := by
  rw [pn_nodes t]
  have := sumTo_le (fun i => (t.ps i).nodes) h
  unfold Ty.pn
  omega
theorem arity_two {k : Int} (h : k = 3 ∨ k = 4) : arityI k = 2 := by rcases h with h | h <;> subst h <;> rfl
theorem bel_up (le : Nat → Nat → Bool) (s t : Ty) (hs : s ≠ .dm) : s.bel le true t = stepB le s t (if s.k = 4 then (s.ps 0).bel le false (t.ps 0) else (s.ps 0).bel le true (t.ps 0)) ((s.ps 1).bel le true (t.ps 1)) := by
  rcases s with _ | ⟨k, l, h, e, ao, b, o, len, cap, ps⟩
  · exact absurd rfl hs
  clear hs
  show (((k == t.k) && le l.toNat t.l.toNat) && (if k = 3 then (ps 0).bel le true (t.ps 0) && (ps 1).bel le true (t.ps 1) else if k = 4 then (((ps 0).bel le false (t.ps 0) && (ps 1).bel le true (t.ps 1)) && le t.h.toNat h.toNat) && excB le e t.e else if k = 5 then (ps 0).same (t.ps 0) else true)) = (((k == t.k) && le l.toNat t.l.toNat) && (if k = 3 then (if k = 4 then (ps 0).bel le false (t.ps 0) else (ps 0).bel le true (t.ps 0)) && (ps 1).bel le true (t.ps 1) else if k = 4 then (((if k = 4 then (ps 0).bel le false (t.ps 0) else (ps 0).bel le true (t.ps 0)) && (ps 1).bel le true (t.ps 1)) && le t.h.toNat h.toNat) && excB le e t.e else if k = 5 then (ps 0).same (t.ps 0) else true))
  by_cases h3 : k = 3
  · subst h3; rfl
  · by_cases h4 : k = 4
    · subst h4; rfl
    · simp only [if_neg h3, if_neg h4]
theorem bel_dn (le : Nat → Nat → Bool) (s t : Ty) (hs : s ≠ .dm) : s.bel le false t = stepB le t s (if t.k = 4 then (s.ps 0).bel le true (t.ps 0) else (s.ps 0).bel le false (t.ps 0)) ((s.ps 1).bel le false (t.ps 1)) := by
  rcases s with _ | ⟨k, l, h, e, ao, b, o, len, cap, ps⟩
  · exact absurd rfl hs
  clear hs
  show (((t.k == k) && le t.l.toNat l.toNat) && (if t.k = 3 then (ps 0).bel le false (t.ps 0) && (ps 1).bel le false (t.ps 1) else if t.k = 4 then (((ps 0).bel le true (t.ps 0) && (ps 1).bel le false (t.ps 1)) && le h.toNat t.h.toNat) && excB le t.e e else if t.k = 5 then (t.ps 0).same (ps 0) else true)) = (((t.k == k) && le t.l.toNat l.toNat) && (if t.k = 3 then (if t.k = 4 then (ps 0).bel le true (t.ps 0) else (ps 0).bel le false (t.ps 0)) && (ps 1).bel le false (t.ps 1) else if t.k = 4 then (((if t.k = 4 then (ps 0).bel le true (t.ps 0) else (ps 0).bel le false (t.ps 0)) && (ps 1).bel le false (t.ps 1)) && le h.toNat t.h.toNat) && excB le t.e e else if t.k = 5 then (t.ps 0).same (ps 0) else true))
  by_cases h3 : t.k = 3
  · simp only [if_pos h3, if_neg (show ¬ t.k = 4 by omega)]
  · by_cases h4 : t.k = 4
    · simp only [if_pos h4, if_neg h3]
    · simp only [if_neg h3, if_neg h4]

theorem below_ct (n : Strs) (gb go gcap : Nat) (gA : Nat → Option Addr) (gL gC gAB gAO : Nat → Nat) (gB : Nat → Nat → Bool) (hF : Hid (formedB n (fgrid n.len gb go gcap gA gL gC gAB gAO gB) = true)) :
    ∀ s t : Ty, (∃ d, s.fm n.len d = true) → (∃ d, t.fm n.len d = true) → s.nodes ≤ 1000 → t.nodes ≤ 1000 → Ct n gb go gcap gA gL gC gAB gAO gB s t (s.bel gB true t) ∧ Ct n gb go gcap gA gL gC gAB gAO gB t s (s.bel gB false t) := by
  intro s
  induction s with
  | dm => intro t ⟨d, hd⟩; cases hd
  | mk sk sl sh se sao sb so slen scap sps ih =>
    intro t ⟨d, hd⟩ ⟨d', hd'⟩ h1 h2
    rcases t with _ | ⟨tk, tl, th, te, tao, tb, to', tlen, tcap, tps⟩
    · cases hd'
    obtain ⟨gs, _, cs⟩ := fm_gd hd
    obtain ⟨gt, _, ct⟩ := fm_gd hd'
    have a1 : (slen : Int) = arityI sk := gs.ar
    have a2 : (tlen : Int) = arityI tk := gt.ar
    have sub : ∀ i, i < slen → i < tlen → Ct n gb go gcap gA gL gC gAB gAO gB (sps i) (tps i) ((sps i).bel gB true (tps i)) ∧ Ct n gb go gcap gA gL gC gAB gAO gB (tps i) (sps i) ((sps i).bel gB false (tps i)) := fun i hi hi' =>
      ih i (tps i) ⟨_, cs i hi⟩ ⟨_, ct i hi'⟩ (by have : (sps i).nodes < _ := nodes_part (t := .mk sk sl sh se sao sb so slen scap sps) hi; omega) (by have : (tps i).nodes < _ := nodes_part (t := .mk tk tl th te tao tb to' tlen tcap tps) hi'; omega)
    have two : ∀ k : Int, (k = 3 ∨ k = 4) → arityI k = 2 := fun k h => arity_two h
    have pnS : sk = 5 → (sps 0).pn ≤ 1000 := fun h => by
      subst h
      have h5 : arityI 5 = 1 := rfl
      have hh : (sps 0).nodes < _ := nodes_part (t := .mk 5 sl sh se sao sb so slen scap sps) (i := 0) (by show 0 < slen; omega)
      have := pn_nodes (sps 0)
      omega
    have pnT : tk = 5 → (tps 0).pn ≤ 1000 := fun h => by
      subst h
      have h5 : arityI 5 = 1 := rfl
      have hh : (tps 0).nodes < _ := nodes_part (t := .mk 5 tl th te tao tb to' tlen tcap tps) (i := 0) (by show 0 < tlen; omega)
      have := pn_nodes (tps 0)
      omega
    refine ⟨?_, ?_⟩
    · rw [bel_up _ _ _ (by intro h; cases h)]
      refine below_step n gb go gcap gA gL gC gAB gAO gB hF sk sl sh se sao sb so slen scap sps tk tl th te tao tb to' tlen tcap tps gs gt _ _ (fun h => ?_) (fun h => ?_) (fun h => ?_) pnS
      · obtain ⟨rfl, rfl⟩ := h
        have := two 3 (Or.inl rfl)
        exact (sub 0 (by omega) (by omega)).1
      · obtain ⟨rfl, rfl⟩ := h
        have := two 4 (Or.inr rfl)
        exact (sub 0 (by omega) (by omega)).2
      · rcases h with ⟨rfl, rfl⟩ | ⟨rfl, rfl⟩
        · have := two 3 (Or.inl rfl)
          exact (sub 1 (by omega) (by omega)).1
        · have := two 4 (Or.inr rfl)
          exact (sub 1 (by omega) (by omega)).1
    · rw [bel_dn _ _ _ (by intro h; cases h)]
      refine below_step n gb go gcap gA gL gC gAB gAO gB hF tk tl th te tao tb to' tlen tcap tps sk sl sh se sao sb so slen scap sps gt gs _ _ (fun h => ?_) (fun h => ?_) (fun h => ?_) pnT
      · obtain ⟨rfl, rfl⟩ := h
        have := two 3 (Or.inl rfl)
        exact (sub 0 (by omega) (by omega)).2
      · obtain ⟨rfl, rfl⟩ := h
        have := two 4 (Or.inr rfl)
        exact (sub 0 (by omega) (by omega)).1
      · rcases h with ⟨rfl, rfl⟩ | ⟨rfl, rfl⟩
        · have := two 3 (Or.inl rfl)
          exact (sub 1 (by omega) (by omega)).2
        · have := two 4 (Or.inr rfl)
          exact (sub 1 (by omega) (by omega)).2

/-- What Below tells. -/
def belB (n : Strs) (g : Grid) (s t : Ty) : Bool := (formedB n g && (s.ok n.len && t.ok n.len)) && s.bel g.B true t
theorem ok_parts {N : Nat} {t : Ty} (h : t.ok N = true) : t.fm N 1 = true ∧ t.nodes ≤ 40 := by
  unfold Ty.ok at h
  rw [Bool.and_eq_true, decide_eq_true_eq] at h
  exact h

set_option maxRecDepth 100000 in
set_option maxHeartbeats 2000000 in
theorem Below_any2 (n : Strs) (g : Grid) (s t : Ty) (w : World) (hn : n.At w) (hg : g.At w) (hs : s.At w) (ht : t.At w) :
    Calls Try.prog 17 #[.agg #[.slice n.ao n.len n.cap, .slice g.ao g.len g.cap], .agg #[.int .i64 s.k, .int .i64 s.l, .slice s.ao s.len s.cap, .int .i64 s.h, .int .i64 s.e], .agg #[.int .i64 t.k, .int .i64 t.l, .slice t.ao t.len t.cap, .int .i64 t.h, .int .i64 t.e]] w fun e w' => e = .returned (.bool (belB n g s t)) ∧ Below w.heap.size w w' := by
  obtain ⟨L0, X0, Y0, B0⟩ := start_ltt w n g s t
  have R1 := row2_at _ s t (hs.kept B0) (ht.kept B0)
  have B1 := below_alloc (((w.alloc (latO n g)).alloc (tyO s)).alloc (tyO t)) (row2 s t)
  have hA := allFormed_any n g _ _ _ _ _ _ _ ((hn.kept B0).kept B1) ((hg.kept B0).kept B1) R1
  rw [alloc_size, alloc_size, alloc_size] at hA
  have HE : Hid ((formedB n g && decide (∀ i, i < 2 → Ty.ok n.len ((fun i => if i = 0 then s else t) i) = true)) = (formedB n g && (s.ok n.len && t.ok n.len))) := by
    show (formedB n g && decide (∀ i, i < 2 → Ty.ok n.len ((fun i => if i = 0 then s else t) i) = true)) = (formedB n g && (s.ok n.len && t.ok n.len))
    congr 1
    rw [Bool.eq_iff_iff, decide_eq_true_eq, Bool.and_eq_true]
    exact ⟨fun h => ⟨h 0 (by omega), h 1 (by omega)⟩, fun h i hi => by
      by_cases e : i = 0
      · subst e; exact h.1
      · have e1 : i = 1 := by omega
        subst e1; exact h.2⟩
  rw [HE.out] at hA
  have L1 := L0.kept B1
  have X1 := X0.kept B1
  have Y1 := Y0.kept B1
  have B2 := Below.next B0 B1
  clear HE R1 L0 X0 Y0 B0 B1
  unfold latO tyO row2 at *
  cases hq : (formedB n g && (s.ok n.len && t.ok n.len))
  · have HV : Hid (belB n g s t = false) := by show belB n g s t = false; unfold belB; rw [hq]; rfl
    rw [hq] at hA
    go_enter Try.func17, Try.ntmps17
    go_wp2_with fail
    refine hA.mono ?_
    rintro e w1 ⟨rfl, hb1⟩
    go_wp2
    go_ret
    exact ⟨ret_bool HV.out.symm, Below.next B2 hb1⟩
  · have HV : Hid (belB n g s t = s.bel g.B true t) := by show belB n g s t = _; unfold belB; rw [hq]; rfl
    rw [hq] at hA
    have hq' := hq
    rw [Bool.and_eq_true, Bool.and_eq_true] at hq'
    obtain ⟨f1, n1⟩ := ok_parts hq'.2.1
    obtain ⟨f2, n2⟩ := ok_parts hq'.2.2
    have hfp := formed_parts hq'.1
    have hC : ∀ u, n.At u → g.At u → s.At u → t.At u → Calls Try.prog 40 #[.agg #[.slice n.ao n.len n.cap, .slice g.ao g.len g.cap], .agg #[.int .i64 s.k, .int .i64 s.l, .slice s.ao s.len s.cap, .int .i64 s.h, .int .i64 s.e], .agg #[.int .i64 t.k, .int .i64 t.l, .slice t.ao t.len t.cap, .int .i64 t.h, .int .i64 t.e]] u fun e w' => e = .returned (.bool (s.bel g.B true t)) ∧ Below u.heap.size u w' := by
      have hF := hq'.1
      have hnil := hg.nil (by omega)
      obtain ⟨gao, gb, go, glen, gcap, gA, gL, gC, gAB, gAO, gB⟩ := g
      have e1 : gao = some ⟨gb, go, none⟩ := hnil
      have e2 : glen = n.len := hfp.1
      subst e1 e2
      exact (below_ct n gb go gcap gA gL gC gAB gAO gB hF s t ⟨1, f1⟩ ⟨1, f2⟩ (by omega) (by omega)).1
    have HN : Hid (n.At w ∧ g.At w ∧ s.At w ∧ t.At w) := ⟨hn, hg, hs, ht⟩
    clear hq hq' f1 f2 n1 n2 hfp hn hg hs ht
    go_enter Try.func17, Try.ntmps17
    go_wp2_with fail
    refine hA.mono ?_
    rintro e w1 ⟨rfl, hb1⟩
    have L2 := L1.kept hb1
    have X2 := X1.kept hb1
    have Y2 := Y1.kept hb1
    have B3 := Below.next B2 hb1
    have l0 := L2.c0
    have l1 := L2.c1
    have x0 := X2.c0
    have x1 := X2.c1
    have x2 := X2.c2
    have x3 := X2.c3
    have x4 := X2.c4
    have y0 := Y2.c0
    have y1 := Y2.c1
    have y2 := Y2.c2
    have y3 := Y2.c3
    have y4 := Y2.c4
    have hD := hC w1 (HN.out.1.kept B3) (HN.out.2.1.kept B3) (HN.out.2.2.1.kept B3) (HN.out.2.2.2.kept B3)
    clear L1 X1 Y1 hb1 hA hC
    go_wp2_with fail
    refine hD.mono ?_
    rintro e w2 ⟨rfl, hb2⟩
    go_wp2
    go_ret
    exact ⟨ret_bool HV.out.symm, Below.next B3 hb2⟩
end Go.Proofs.Ytgbillimanpmnaa
