/- Layer 2, the reference: Below. -/
import Derived.Test.YtgbillimanpmnaaTyRefU
namespace Go.Proofs.Ytgbillimanpmnaa
open Go.RowKit

theorem under_ct (n : Strs) (gb go gcap : Nat) (gA : Nat → Option Addr) (gL gC gAB gAO : Nat → Nat) (gB : Nat → Nat → Bool) (hF : Hid (formedB n (fgrid n.len gb go gcap gA gL gC gAB gAO gB) = true)) :
    ∀ s t : Ty, (∃ d, s.fm n.len d = true) → (∃ d, t.fm n.len d = true) → s.nodes ≤ 1000 → t.nodes ≤ 1000 → CtU n gb go gcap gA gL gC gAB gAO gB s t (s.bel gB true t) ∧ CtU n gb go gcap gA gL gC gAB gAO gB t s (s.bel gB false t) := by
  intro s
  induction s with
  | dm => intro t ⟨d, hd⟩; cases hd
  | mk sk sl sh se sao sb so slen scap sps ih =>
    intro t ⟨d, hd⟩ ⟨d', hd'⟩ h1 h2
    rcases t with _ | ⟨tk, tl, th, te, tao, tb, to', tlen, tcap, tps⟩
    · cases hd'
    obtain ⟨gs, _, cs⟩ := fm_gd hd
    obtain ⟨gt, _, ct⟩ := fm_gd hd'
    have a1 : (slen : Int) = arityI sk := gs.ar
    have a2 : (tlen : Int) = arityI tk := gt.ar
    have sub : ∀ i, i < slen → i < tlen → CtU n gb go gcap gA gL gC gAB gAO gB (sps i) (tps i) ((sps i).bel gB true (tps i)) ∧ CtU n gb go gcap gA gL gC gAB gAO gB (tps i) (sps i) ((sps i).bel gB false (tps i)) := fun i hi hi' =>
      ih i (tps i) ⟨_, cs i hi⟩ ⟨_, ct i hi'⟩ (by have : (sps i).nodes < _ := nodes_part (t := .mk sk sl sh se sao sb so slen scap sps) hi; omega) (by have : (tps i).nodes < _ := nodes_part (t := .mk tk tl th te tao tb to' tlen tcap tps) hi'; omega)
    have two : ∀ k : Int, (k = 3 ∨ k = 4) → arityI k = 2 := fun k h => arity_two h
    refine ⟨?_, ?_⟩
    · rw [bel_up _ _ _ (by intro h; cases h)]
      refine under_step n gb go gcap gA gL gC gAB gAO gB hF sk sl sh se sao sb so slen scap sps tk tl th te tao tb to' tlen tcap tps gs gt _ _ (fun h => ?_) (fun h => ?_) (fun h => ?_)
      · obtain ⟨rfl, rfl⟩ := h
        have := two 3 (Or.inl rfl)
        exact (sub 0 (by omega) (by omega)).1
      · obtain ⟨rfl, rfl⟩ := h
        have := two 4 (Or.inr rfl)
        exact (sub 0 (by omega) (by omega)).2
      · rcases h with ⟨rfl, rfl⟩ | ⟨rfl, rfl⟩
        · have := two 3 (Or.inl rfl)
          exact (sub 1 (by omega) (by omega)).1
        · have := two 4 (Or.inr rfl)
          exact (sub 1 (by omega) (by omega)).1
    · rw [bel_dn _ _ _ (by intro h; cases h)]
      refine under_step n gb go gcap gA gL gC gAB gAO gB hF tk tl th te tao tb to' tlen tcap tps sk sl sh se sao sb so slen scap sps gt gs _ _ (fun h => ?_) (fun h => ?_) (fun h => ?_)
      · obtain ⟨rfl, rfl⟩ := h
        have := two 3 (Or.inl rfl)
        exact (sub 0 (by omega) (by omega)).2
      · obtain ⟨rfl, rfl⟩ := h
        have := two 4 (Or.inr rfl)
        exact (sub 0 (by omega) (by omega)).1
      · rcases h with ⟨rfl, rfl⟩ | ⟨rfl, rfl⟩
        · have := two 3 (Or.inl rfl)
          exact (sub 1 (by omega) (by omega)).2
        · have := two 4 (Or.inr rfl)
          exact (sub 1 (by omega) (by omega)).2

set_option maxRecDepth 100000 in
set_option maxHeartbeats 2000000 in
theorem rBelow2_any (n : Strs) (g : Grid) (s t : Ty) (w : World) (hn : n.At w) (hg : g.At w) (hs : s.At w) (ht : t.At w) :
    Calls Try.prog 18 #[.agg #[.slice n.ao n.len n.cap, .slice g.ao g.len g.cap], .agg #[.int .i64 s.k, .int .i64 s.l, .slice s.ao s.len s.cap, .int .i64 s.h, .int .i64 s.e], .agg #[.int .i64 t.k, .int .i64 t.l, .slice t.ao t.len t.cap, .int .i64 t.h, .int .i64 t.e]] w fun e w' => e = .returned (.bool (belB n g s t)) ∧ Below w.heap.size w w' := by
  obtain ⟨L0, X0, Y0, B0⟩ := start_ltt w n g s t
  have hs0 := rFormed2_any n g s _ (hn.kept B0) (hg.kept B0) (hs.kept B0)
  have HN : Hid (n.At w ∧ g.At w ∧ s.At w ∧ t.At w) := ⟨hn, hg, hs, ht⟩
  unfold latO tyO at *
  cases h1 : okB n g s
  · have HV : Hid (belB n g s t = false) := by
      show belB n g s t = false
      unfold belB okB at *
      cases hf : formedB n g
      · rfl
      · rw [hf, Bool.true_and] at h1; rw [h1]; rfl
    rw [h1] at hs0
    clear hn hg hs ht h1
    go_enter Try.func18, Try.ntmps18
    go_wp2_with fail
    refine hs0.mono ?_
    rintro e w1 ⟨rfl, hb1⟩
    go_wp2
    go_ret
    exact ⟨ret_bool HV.out.symm, Below.next B0 hb1⟩
  rw [h1] at hs0
  have h1' := h1
  unfold okB at h1'
  rw [Bool.and_eq_true] at h1'
  have HF : Hid (formedB n g = true ∧ s.ok n.len = true) := h1'
  have hnil := hg.nil (by have := formed_parts h1'.1; omega)
  have hfp := formed_parts h1'.1
  have HG : Hid (g.ao = some ⟨g.gb, g.go, none⟩ ∧ g.len = n.len) := ⟨hnil, hfp.1⟩
  clear hn hs ht h1 h1' hnil hfp hg
  go_enter Try.func18, Try.ntmps18
  go_wp2_with fail
  refine hs0.mono ?_
  rintro e w1 ⟨rfl, hb1⟩
  have L1 := L0.kept hb1
  have X1 := X0.kept hb1
  have Y1 := Y0.kept hb1
  have B1 := Below.next B0 hb1
  have ht1 := rFormed2_any n g t _ (HN.out.1.kept B1) (HN.out.2.1.kept B1) (HN.out.2.2.2.kept B1)
  clear L0 X0 Y0 B0 hb1 hs0
  have l0 := L1.c0
  have l1 := L1.c1
  have y0 := Y1.c0
  have y1 := Y1.c1
  have y2 := Y1.c2
  have y3 := Y1.c3
  have y4 := Y1.c4
  cases h2 : okB n g t
  · have HV : Hid (belB n g s t = false) := by
      show belB n g s t = false
      unfold belB
      unfold okB at h2
      rw [HF.out.1, Bool.true_and] at h2
      rw [h2]; simp
    rw [h2] at ht1
    clear h2
    go_wp2_with fail
    refine ht1.mono ?_
    rintro e w2 ⟨rfl, hb2⟩
    go_wp2
    go_ret
    exact ⟨ret_bool HV.out.symm, Below.next B1 hb2⟩
  · have h2' : t.ok n.len = true := by
      unfold okB at h2
      rw [HF.out.1, Bool.true_and] at h2
      exact h2
    have HV : Hid (belB n g s t = s.bel g.B true t) := by
      show belB n g s t = _
      unfold belB
      rw [HF.out.1, HF.out.2, h2']; rfl
    obtain ⟨f1, n1⟩ := ok_parts HF.out.2
    obtain ⟨f2, n2⟩ := ok_parts h2'
    have hC : ∀ u, n.At u → g.At u → s.At u → t.At u → Calls Try.prog 41 #[.agg #[.slice n.ao n.len n.cap, .slice g.ao g.len g.cap], .agg #[.int .i64 s.k, .int .i64 s.l, .slice s.ao s.len s.cap, .int .i64 s.h, .int .i64 s.e], .agg #[.int .i64 t.k, .int .i64 t.l, .slice t.ao t.len t.cap, .int .i64 t.h, .int .i64 t.e]] u fun e w' => e = .returned (.bool (s.bel g.B true t)) ∧ Below u.heap.size u w' := by
      have hF := HF.out.1
      have hG := HG.out
      clear l0 l1 y0 y1 y2 y3 y4 L1 X1 Y1 ht1 HV HG HN HF h2 B1
      obtain ⟨gao, gb, go, glen, gcap, gA, gL, gC, gAB, gAO, gB⟩ := g
      have e1 : gao = some ⟨gb, go, none⟩ := hG.1
      have e2 : glen = n.len := hG.2
      subst e1 e2
      exact (under_ct n gb go gcap gA gL gC gAB gAO gB hF s t ⟨1, f1⟩ ⟨1, f2⟩ (by omega) (by omega)).1
    rw [h2] at ht1
    clear h2 h2' f1 f2 n1 n2
    go_wp2_with fail
    refine ht1.mono ?_
    rintro e w2 ⟨rfl, hb2⟩
    have L2 := L1.kept hb2
    have X2 := X1.kept hb2
    have Y2 := Y1.kept hb2
    have B2 := Below.next B1 hb2
    have hD := hC w2 (HN.out.1.kept B2) (HN.out.2.1.kept B2) (HN.out.2.2.1.kept B2) (HN.out.2.2.2.kept B2)
    clear L1 X1 Y1 hb2 ht1 hC l0 l1 y0 y1 y2 y3 y4
    have l0 := L2.c0
    have l1 := L2.c1
    have x0 := X2.c0
    have x1 := X2.c1
    have x2 := X2.c2
    have x3 := X2.c3
    have x4 := X2.c4
    have y0 := Y2.c0
    have y1 := Y2.c1
    have y2 := Y2.c2
    have y3 := Y2.c3
    have y4 := Y2.c4
    go_wp2_with fail
    refine hD.mono ?_
    rintro e w3 ⟨rfl, hb3⟩
    go_wp2
    go_ret
    exact ⟨ret_bool HV.out.symm, Below.next B2 hb3⟩

set_option maxRecDepth 100000 in
set_option maxHeartbeats 4000000 in
theorem typesBelow_any (n : Strs) (g : Grid) (s t : Ty) (w : World) (hn : n.At w) (hg : g.At w) (hs : s.At w) (ht : t.At w) :
    Calls Try.prog 4 #[.agg #[.slice n.ao n.len n.cap, .slice g.ao g.len g.cap], .agg #[.int .i64 s.k, .int .i64 s.l, .slice s.ao s.len s.cap, .int .i64 s.h, .int .i64 s.e], .agg #[.int .i64 t.k, .int .i64 t.l, .slice t.ao t.len t.cap, .int .i64 t.h, .int .i64 t.e]] w fun e w' => e = .returned (.bool true) ∧ Below w.heap.size w w' := by
  obtain ⟨L0, X0, Y0, B0⟩ := start_ltt w n g s t
  unfold latO tyO at *
  go_enter Try.func4, Try.ntmps4
  go_wp2_with fail
  refine (awake2_any _).mono ?_
  rintro e w1 ⟨rfl, hb1⟩
  have L1 := L0.kept hb1
  have X1 := X0.kept hb1
  have Y1 := Y0.kept hb1
  have B1 := Below.next B0 hb1
  clear L0 X0 Y0 B0 hb1
  have l0 := L1.c0
  have l1 := L1.c1
  have x0 := X1.c0
  have x1 := X1.c1
  have x2 := X1.c2
  have x3 := X1.c3
  have x4 := X1.c4
  have y0 := Y1.c0
  have y1 := Y1.c1
  have y2 := Y1.c2
  have y3 := Y1.c3
  have y4 := Y1.c4
  go_wp2_with fail
  refine (few_any n g s t _ (hn.kept B1) (hg.kept B1) (hs.kept B1) (ht.kept B1)).mono ?_
  rintro e w2 ⟨rfl, hb2⟩
  have L2 := L1.kept hb2
  have X2 := X1.kept hb2
  have Y2 := Y1.kept hb2
  have B2 := Below.next B1 hb2
  clear L1 X1 Y1 B1 hb2 l0 l1 x0 x1 x2 x3 x4 y0 y1 y2 y3 y4
  cases hfew : fewB n g s t
  · go_wp2_with fail
    refine (awake2_any _).mono ?_
    rintro e w3 ⟨rfl, hb3⟩
    go_wp2
    go_ret
    exact ⟨rfl, Below.next B2 hb3⟩
  have hnod : s.nodes ≤ 40 := by
    unfold fewB at hfew
    simp only [Bool.and_eq_true, decide_eq_true_eq] at hfew
    exact hfew.1.2
  have hpn : s.pn ≤ 1000 := by have := pn_nodes s; omega
  have HN : Hid (n.At w ∧ g.At w ∧ s.At w ∧ t.At w) := ⟨hn, hg, hs, ht⟩
  clear hfew hn hg hs ht hnod
  go_wp2
  have l0 := fun x => Gr.cell x L2.c0
  have l1 := fun x => Gr.cell x L2.c1
  have x0 := fun x => Gr.cell x X2.c0
  have x1 := fun x => Gr.cell x X2.c1
  have x2 := fun x => Gr.cell x X2.c2
  have x3 := fun x => Gr.cell x X2.c3
  have x4 := fun x => Gr.cell x X2.c4
  have y0 := fun x => Gr.cell x Y2.c0
  have y1 := fun x => Gr.cell x Y2.c1
  have y2 := fun x => Gr.cell x Y2.c2
  have y3 := fun x => Gr.cell x Y2.c3
  have y4 := fun x => Gr.cell x Y2.c4
  have H1 := fun u (hu : Below w2.heap.size w2 u) => Below_any2 n g s t u (HN.out.1.kept (Below.next B2 hu)) (HN.out.2.1.kept (Below.next B2 hu)) (HN.out.2.2.1.kept (Below.next B2 hu)) (HN.out.2.2.2.kept (Below.next B2 hu))
  have H2 := fun u (hu : Below w2.heap.size w2 u) => rBelow2_any n g s t u (HN.out.1.kept (Below.next B2 hu)) (HN.out.2.1.kept (Below.next B2 hu)) (HN.out.2.2.1.kept (Below.next B2 hu)) (HN.out.2.2.2.kept (Below.next B2 hu))
  have H3 := fun u (hu : Below w2.heap.size w2 u) => Same_any2 s t u (HN.out.2.2.1.kept (Below.next B2 hu)) (HN.out.2.2.2.kept (Below.next B2 hu)) hpn
  have H4 := fun u (hu : Below w2.heap.size w2 u) => rSame_any2 s t u (HN.out.2.2.1.kept (Below.next B2 hu)) (HN.out.2.2.2.kept (Below.next B2 hu))
  generalize belB n g s t = V at H1 H2
  generalize s.same t = U at H3 H4
  have hNE : Nonempty (Gr w2) := ⟨⟨_, Below.refl _ _⟩⟩
  refine wp_region_gr (by kernel_rfl) (by kernel_rfl) ?_
  repeat (first | go_big_quiet_step ((first | (go_at_call 17; exact Calls.gr _ (H1 _ (Gr.bl _))) | (go_at_call 18; exact Calls.gr _ (H2 _ (Gr.bl _))) | (go_at_call 19; exact Calls.gr _ (H3 _ (Gr.bl _))) | (go_at_call 20; exact Calls.gr _ (H4 _ (Gr.bl _))))))
  refine wpQuiet_nil ?_
  rintro w6 ⟨x6w, rfl⟩
  have B6 := x6w.bl
  generalize x6w.w = w6 at B6 ⊢
  clear x6w hNE l0 l1 x0 x1 x2 x3 x4 y0 y1 y2 y3 y4 H1 H2 H3 H4
  go_wp2
  go_ret
  exact ⟨rfl, Below.next B2 B6⟩
end Go.Proofs.Ytgbillimanpmnaa
