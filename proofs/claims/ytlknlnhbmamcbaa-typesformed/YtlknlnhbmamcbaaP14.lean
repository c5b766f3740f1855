/- Layer 2, the reference: Below. -/
import Derived.Test.YtlknlnhbmamcbaaP13
import Derived.Test.YtlknlnhbmamcbaaP10
import Derived.Test.YtlknlnhbmamcbaaP11
import Derived.Deep.AppendLies
namespace Go.Proofs.Ytlknlnhbmamcbaa
open Go.RowKit

theorem under_ct (n : Strs) (gb go gcap : Nat) (gA : Nat → Option Addr) (gL gC gAB gAO : Nat → Nat) (gB : Nat → Nat → Bool) (hF : Hid (formedB n (fgrid n.len gb go gcap gA gL gC gAB gAO gB) = true)) :
    ∀ s t : Ty, (∃ d, s.fm n.len d = true) → (∃ d, t.fm n.len d = true) → s.nodes ≤ 1000 → t.nodes ≤ 1000 → CtU n gb go gcap gA gL gC gAB gAO gB s t (s.bel gB true t) ∧ CtU n gb go gcap gA gL gC gAB gAO gB t s (s.bel gB false t) := by
  intro s
  induction s with
  | dm => intro t ⟨d, hd⟩; cases hd
  | mk sk sl sh se sao sb so slen scap sps ih =>
    intro t ⟨d, hd⟩ ⟨d', hd'⟩ h1 h2
    rcases t with _ | ⟨tk, tl, th, te, tao, tb, to', tlen, tcap, tps⟩
    · cases hd'
    obtain ⟨gs, _, cs⟩ := fm_gd hd
    obtain ⟨gt, _, ct⟩ := fm_gd hd'
    have a1 : (slen : Int) = arityI sk := gs.ar
    have a2 : (tlen : Int) = arityI tk := gt.ar
    have sub : ∀ i, i < slen → i < tlen → CtU n gb go gcap gA gL gC gAB gAO gB (sps i) (tps i) ((sps i).bel gB true (tps i)) ∧ CtU n gb go gcap gA gL gC gAB gAO gB (tps i) (sps i) ((sps i).bel gB false (tps i)) := fun i hi hi' =>
      ih i (tps i) ⟨_, cs i hi⟩ ⟨_, ct i hi'⟩ (by have : (sps i).nodes < _ := nodes_part (t := .mk sk sl sh se sao sb so slen scap sps) hi; omega) (by have : (tps i).nodes < _ := nodes_part (t := .mk tk tl th te tao tb to' tlen tcap tps) hi'; omega)
    have two : ∀ k : Int, (k = 3 ∨ k = 4) → arityI k = 2 := fun k h => arity_two h
    refine ⟨?_, ?_⟩
    · rw [bel_up _ _ _ (by intro h; cases h)]
      refine under_step n gb go gcap gA gL gC gAB gAO gB hF sk sl sh se sao sb so slen scap sps tk tl th te tao tb to' tlen tcap tps gs gt _ _ (fun h => ?_) (fun h => ?_) (fun h => ?_)
      · obtain ⟨rfl, rfl⟩ := h
        have := two 3 (Or.inl rfl)
        exact (sub 0 (by omega) (by omega)).1
      · obtain ⟨rfl, rfl⟩ := h
        have := two 4 (Or.inr rfl)
        exact (sub 0 (by omega) (by omega)).2
      · rcases h with ⟨rfl, rfl⟩ | ⟨rfl, rfl⟩
        · have := two 3 (Or.inl rfl)
          exact (sub 1 (by omega) (by omega)).1
        · have := two 4 (Or.inr rfl)
          exact (sub 1 (by omega) (by omega)).1
    · rw [bel_dn _ _ _ (by intro h; cases h)]
      refine under_step n gb go gcap gA gL gC gAB gAO gB hF tk tl th te tao tb to' tlen tcap tps sk sl sh se sao sb so slen scap sps gt gs _ _ (fun h => ?_) (fun h => ?_) (fun h => ?_)
      · obtain ⟨rfl, rfl⟩ := h
        have := two 3 (Or.inl rfl)
        exact (sub 0 (by omega) (by omega)).2
      · obtain ⟨rfl, rfl⟩ := h
        have := two 4 (Or.inr rfl)
        exact (sub 0 (by omega) (by omega)).1
      · rcases h with ⟨rfl, rfl⟩ | ⟨rfl, rfl⟩
        · have := two 3 (Or.inl rfl)
          exact (sub 1 (by omega) (by omega)).2
        · have := two 4 (Or.inr rfl)
          exact (sub 1 (by omega) (by omega)).2

set_option maxRecDepth 100000 in
set_option maxHeartbeats 2000000 in
theorem rBelow2_any (n : Strs) (g : Grid) (s t : Ty) (w : World) (hn : n.At w) (hg : g.At w) (hs : s.At w) (ht : t.At w) :
    Calls Try.prog 18 #[.agg #[.slice n.ao n.len n.cap, .slice g.ao g.len g.cap], .agg #[.int .i64 s.k, .int .i64 s.l, .slice s.ao s.len s.cap, .int .i64 s.h, .int .i64 s.e], .agg #[.int .i64 t.k, .int .i64 t.l, .slice t.ao t.len t.cap, .int .i64 t.h, .int .i64 t.e]] w fun e w' => e = .returned (.bool (belB n g s t)) ∧ Below w.heap.size w w' := by
  obtain ⟨L0, X0, Y0, B0⟩ := start_ltt w n g s t
  have hs0 := rFormed2_any n g s _ (hn.kept B0) (hg.kept B0) (hs.kept B0)
  have HN : Hid (n.At w ∧ g.At w ∧ s.At w ∧ t.At w) := ⟨hn, hg, hs, ht⟩
  unfold latO tyO at *
  cases h1 : okB n g s
  · have HV : Hid (belB n g s t = false) := by
      show belB n g s t = false
      unfold belB okB at *
      cases hf : formedB n g
      · rfl
      · rw [hf, Bool.true_and] at h1; rw [h1]; rfl
    rw [h1] at hs0
    clear hn hg hs ht h1
    go_enter Try.func18, Try.ntmps18
    go_wp2_with fail
    refine hs0.mono ?_
    rintro e w1 ⟨rfl, hb1⟩
    go_wp2
    go_ret
    exact ⟨ret_bool HV.out.symm, Below.next B0 hb1⟩
  rw [h1] at hs0
  have h1' := h1
  unfold okB at h1'
  rw [Bool.and_eq_true] at h1'
  have HF : Hid (formedB n g = true ∧ s.ok n.len = true) := h1'
  have hnil := hg.nil (by have := formed_parts h1'.1; omega)
  have hfp := formed_parts h1'.1
  have HG : Hid (g.ao = some ⟨g.gb, g.go, none⟩ ∧ g.len = n.len) := ⟨hnil, hfp.1⟩
  clear hn hs ht h1 h1' hnil hfp hg
  go_enter Try.func18, Try.ntmps18
  go_wp2_with fail
  refine hs0.mono ?_
  rintro e w1 ⟨rfl, hb1⟩
  have L1 := L0.kept hb1
  have X1 := X0.kept hb1
  have Y1 := Y0.kept hb1
  have B1 := Below.next B0 hb1
  have ht1 := rFormed2_any n g t _ (HN.out.1.kept B1) (HN.out.2.1.kept B1) (HN.out.2.2.2.kept B1)
  clear L0 X0 Y0 B0 hb1 hs0
  have l0 := L1.c0
  have l1 := L1.c1
  have y0 := Y1.c0
  have y1 := Y1.c1
  have y2 := Y1.c2
  have y3 := Y1.c3
  have y4 := Y1.c4
  cases h2 : okB n g t
  · have HV : Hid (belB n g s t = false) := by
      show belB n g s t = false
      unfold belB
      unfold okB at h2
      rw [HF.out.1, Bool.true_and] at h2
      rw [h2]; simp
    rw [h2] at ht1
    clear h2
    go_wp2_with fail
    refine ht1.mono ?_
    rintro e w2 ⟨rfl, hb2⟩
    go_wp2
    go_ret
    exact ⟨ret_bool HV.out.symm, Below.next B1 hb2⟩
  · have h2' : t.ok n.len = true := by
      unfold okB at h2
      rw [HF.out.1, Bool.true_and] at h2
      exact h2
    have HV : Hid (belB n g s t = s.bel g.B true t) := by
      show belB n g s t = _
      unfold belB
      rw [HF.out.1, HF.out.2, h2']; rfl
    obtain ⟨f1, n1⟩ := ok_parts HF.out.2
    obtain ⟨f2, n2⟩ := ok_parts h2'
    have hC : ∀ u, n.At u → g.At u → s.At u → t.At u → Calls Try.prog 41 #[.agg #[.slice n.ao n.len n.cap, .slice g.ao g.len g.cap], .agg #[.int .i64 s.k, .int .i64 s.l, .slice s.ao s.len s.cap, .int .i64 s.h, .int .i64 s.e], .agg #[.int .i64 t.k, .int .i64 t.l, .slice t.ao t.len t.cap, .int .i64 t.h, .int .i64 t.e]] u fun e w' => e = .returned (.bool (s.bel g.B true t)) ∧ Below u.heap.size u w' := by
      have hF := HF.out.1
      have hG := HG.out
      clear l0 l1 y0 y1 y2 y3 y4 L1 X1 Y1 ht1 HV HG HN HF h2 B1
      obtain ⟨gao, gb, go, glen, gcap, gA, gL, gC, gAB, gAO, gB⟩ := g
      have e1 : gao = some ⟨gb, go, none⟩ := hG.1
      have e2 : glen = n.len := hG.2
      subst e1 e2
      exact (under_ct n gb go gcap gA gL gC gAB gAO gB hF s t ⟨1, f1⟩ ⟨1, f2⟩ (by omega) (by omega)).1
    rw [h2] at ht1
    clear h2 h2' f1 f2 n1 n2
    go_wp2_with fail
    refine ht1.mono ?_
    rintro e w2 ⟨rfl, hb2⟩
    have L2 := L1.kept hb2
    have X2 := X1.kept hb2
    have Y2 := Y1.kept hb2
    have B2 := Below.next B1 hb2
    have hD := hC w2 (HN.out.1.kept B2) (HN.out.2.1.kept B2) (HN.out.2.2.1.kept B2) (HN.out.2.2.2.kept B2)
    clear L1 X1 Y1 hb2 ht1 hC l0 l1 y0 y1 y2 y3 y4
    have l0 := L2.c0
    have l1 := L2.c1
    have x0 := X2.c0
    have x1 := X2.c1
    have x2 := X2.c2
    have x3 := X2.c3
    have x4 := X2.c4
    have y0 := Y2.c0
    have y1 := Y2.c1
    have y2 := Y2.c2
    have y3 := Y2.c3
    have y4 := Y2.c4
    go_wp2_with fail
    refine hD.mono ?_
    rintro e w3 ⟨rfl, hb3⟩
    go_wp2
    go_ret
    exact ⟨ret_bool HV.out.symm, Below.next B2 hb3⟩

set_option maxRecDepth 100000 in
set_option maxHeartbeats 4000000 in
theorem typesBelow_any (n : Strs) (g : Grid) (s t : Ty) (w : World) (hn : n.At w) (hg : g.At w) (hs : s.At w) (ht : t.At w) :
    Calls Try.prog 4 #[.agg #[.slice n.ao n.len n.cap, .slice g.ao g.len g.cap], .agg #[.int .i64 s.k, .int .i64 s.l, .slice s.ao s.len s.cap, .int .i64 s.h, .int .i64 s.e], .agg #[.int .i64 t.k, .int .i64 t.l, .slice t.ao t.len t.cap, .int .i64 t.h, .int .i64 t.e]] w fun e w' => e = .returned (.bool true) ∧ Below w.heap.size w w' := by
  obtain ⟨L0, X0, Y0, B0⟩ := start_ltt w n g s t
  unfold latO tyO at *
  go_enter Try.func4, Try.ntmps4
  go_wp2_with fail
  refine (awake2_any _).mono ?_
  rintro e w1 ⟨rfl, hb1⟩
  have L1 := L0.kept hb1
  have X1 := X0.kept hb1
  have Y1 := Y0.kept hb1
  have B1 := Below.next B0 hb1
  clear L0 X0 Y0 B0 hb1
  have l0 := L1.c0
  have l1 := L1.c1
  have x0 := X1.c0
  have x1 := X1.c1
  have x2 := X1.c2
  have x3 := X1.c3
  have x4 := X1.c4
  have y0 := Y1.c0
  have y1 := Y1.c1
  have y2 := Y1.c2
  have y3 := Y1.c3
  have y4 := Y1.c4
  go_wp2_with fail
  refine (few_any n g s t _ (hn.kept B1) (hg.kept B1) (hs.kept B1) (ht.kept B1)).mono ?_
  rintro e w2 ⟨rfl, hb2⟩
  have L2 := L1.kept hb2
  have X2 := X1.kept hb2
  have Y2 := Y1.kept hb2
  have B2 := Below.next B1 hb2
  clear L1 X1 Y1 B1 hb2 l0 l1 x0 x1 x2 x3 x4 y0 y1 y2 y3 y4
  cases hfew : fewB n g s t
  · go_wp2_with fail
    refine (awake2_any _).mono ?_
    rintro e w3 ⟨rfl, hb3⟩
    go_wp2
    go_ret
    exact ⟨rfl, Below.next B2 hb3⟩
  have hnod : s.nodes ≤ 40 := by
    unfold fewB at hfew
    simp only [Bool.and_eq_true, decide_eq_true_eq] at hfew
    exact hfew.1.2
  have hpn : s.pn ≤ 1000 := by have := pn_nodes s; omega
  have HN : Hid (n.At w ∧ g.At w ∧ s.At w ∧ t.At w) := ⟨hn, hg, hs, ht⟩
  clear hfew hn hg hs ht hnod
  go_wp2
  have l0 := fun x => Gr.cell x L2.c0
  have l1 := fun x => Gr.cell x L2.c1
  have x0 := fun x => Gr.cell x X2.c0
  have x1 := fun x => Gr.cell x X2.c1
  have x2 := fun x => Gr.cell x X2.c2
  have x3 := fun x => Gr.cell x X2.c3
  have x4 := fun x => Gr.cell x X2.c4
  have y0 := fun x => Gr.cell x Y2.c0
  have y1 := fun x => Gr.cell x Y2.c1
  have y2 := fun x => Gr.cell x Y2.c2
  have y3 := fun x => Gr.cell x Y2.c3
  have y4 := fun x => Gr.cell x Y2.c4
  have H1 := fun u (hu : Below w2.heap.size w2 u) => Below_any2 n g s t u (HN.out.1.kept (Below.next B2 hu)) (HN.out.2.1.kept (Below.next B2 hu)) (HN.out.2.2.1.kept (Below.next B2 hu)) (HN.out.2.2.2.kept (Below.next B2 hu))
  have H2 := fun u (hu : Below w2.heap.size w2 u) => rBelow2_any n g s t u (HN.out.1.kept (Below.next B2 hu)) (HN.out.2.1.kept (Below.next B2 hu)) (HN.out.2.2.1.kept (Below.next B2 hu)) (HN.out.2.2.2.kept (Below.next B2 hu))
  have H3 := fun u (hu : Below w2.heap.size w2 u) => Same_any2 s t u (HN.out.2.2.1.kept (Below.next B2 hu)) (HN.out.2.2.2.kept (Below.next B2 hu)) hpn
  have H4 := fun u (hu : Below w2.heap.size w2 u) => rSame_any2 s t u (HN.out.2.2.1.kept (Below.next B2 hu)) (HN.out.2.2.2.kept (Below.next B2 hu))
  generalize belB n g s t = V at H1 H2
  generalize s.same t = U at H3 H4
  have hNE : Nonempty (Gr w2) := ⟨⟨_, Below.refl _ _⟩⟩
  refine wp_region_gr (by kernel_rfl) (by kernel_rfl) ?_
  repeat (first | go_big_quiet_step ((first | (go_at_call 17; exact Calls.gr _ (H1 _ (Gr.bl _))) | (go_at_call 18; exact Calls.gr _ (H2 _ (Gr.bl _))) | (go_at_call 19; exact Calls.gr _ (H3 _ (Gr.bl _))) | (go_at_call 20; exact Calls.gr _ (H4 _ (Gr.bl _))))))
  refine wpQuiet_nil ?_
  rintro w6 ⟨x6w, rfl⟩
  have B6 := x6w.bl
  generalize x6w.w = w6 at B6 ⊢
  clear x6w hNE l0 l1 x0 x1 x2 x3 x4 y0 y1 y2 y3 y4 H1 H2 H3 H4
  go_wp2
  go_ret
  exact ⟨rfl, Below.next B2 B6⟩
end Go.Proofs.Ytlknlnhbmamcbaa

/- Layer 2: Plain, by the walk through a type and itself, where it puts nothing off. -/
namespace Go.Proofs.Ytlknlnhbmamcbaa
open Go.RowKit

/-- No Fun in it. -/
def Ty.pln : Ty → Bool
  | .dm => true
  | .mk k _ _ _ _ _ _ len _ ps => (k != 4) && decide (∀ i, i < len → Ty.pln (ps i) = true)
theorem pln_eq (s : Ty) (h : s ≠ .dm) : s.pln = ((s.k != 4) && decide (∀ i, i < s.len → (s.ps i).pln = true)) := by
  rcases s with _ | ⟨k, l, h, e, ao, b, o, len, cap, ps⟩
  · exact absurd rfl h
  · rfl
theorem at_nd {t : Ty} {w : World} (h : t.At w) : t ≠ .dm := fun e => by subst e; exact h.elim

set_option maxHeartbeats 1000000 in
theorem plain1_any (s t : Ty) (w : World) :
    Calls Try.prog 39 #[.agg #[.int .i64 s.k, .int .i64 s.l, .slice s.ao s.len s.cap, .int .i64 s.h, .int .i64 s.e], .agg #[.int .i64 t.k, .int .i64 t.l, .slice t.ao t.len t.cap, .int .i64 t.h, .int .i64 t.e]] w fun e w' => e = .returned (.bool (s.k != 4)) ∧ Below w.heap.size w w' := by
  obtain ⟨X0, Y0, B0⟩ := start_tt w s t
  unfold tyO at *
  go_enter Try.func39, Try.ntmps39
  go_wp2
  go_ret
  exact ⟨rfl, B0⟩

/-- The walk's variable: asked is Plain's question. -/
structure Wp (w : World) (X L : Nat) : Prop where
  c0 : w.cell? ⟨X, 0, none⟩ = some (.func (.func 37) #[] #[])
  c1 : w.cell? ⟨X, 1, none⟩ = some (.func (.func 39) #[] #[])
  c2 : w.cell? ⟨X, 2, none⟩ = some (.int .i64 L)
  c3 : w.cell? ⟨X, 3, none⟩ = some (.slice none 0 0)
  f2 : w.frozen? ⟨X, 2, none⟩ = false
theorem Wp.kept {w w' : World} {X L : Nat} (h : Wp w X L) (hb : Below w.heap.size w w') : Wp w' X L :=
  ⟨up hb h.c0, up hb h.c1, up hb h.c2, up hb h.c3, by rw [hb.frozen (p := ⟨X, 2, none⟩) (by have := World.block_lt_of_cell? w _ h.c0; exact this)]; exact h.f2⟩
theorem Wp.set {w : World} {X L : Nat} (h : Wp w X L) (L' : Nat) : Wp (w.setCell ⟨X, 2, none⟩ (.int .i64 L')) X L' :=
  ⟨by rw [World.cell?_setCell_other _ _ _ _ (by simp)]; exact h.c0, by rw [World.cell?_setCell_other _ _ _ _ (by simp)]; exact h.c1, World.cell?_setCell_same _ _ _ h.c2, by rw [World.cell?_setCell_other _ _ _ _ (by simp)]; exact h.c3, by rw [World.frozen?_setCell]; exact h.f2⟩

/-- What the walk answers of the Parts of s, and what it leaves. -/
def PQ (w0 : World) (X : Nat) (s : Ty) (L : Nat) (e : Ending) (w' : World) : Prop :=
  ∃ r : Bool, e = .returned (.bool r) ∧ r = decide (∀ i, i < s.len → (s.ps i).pln = true) ∧ Below w0.heap.size w0 w' ∧ ∃ L', Wp w' X L' ∧ (r = true → L' + s.pn = L)
theorem PQ.intro {w0 : World} {X : Nat} {s : Ty} {L : Nat} {e : Ending} {w' : World} (r : Bool) (h1 : e = .returned (.bool r)) (h2 : r = decide (∀ i, i < s.len → (s.ps i).pln = true)) (h3 : Below w0.heap.size w0 w') (L' : Nat) (h4 : Wp w' X L') (h5 : r = true → L' + s.pn = L) : PQ w0 X s L e w' := ⟨r, h1, h2, h3, L', h4, h5⟩

set_option maxRecDepth 100000 in
set_option maxHeartbeats 8000000 in
theorem partsP_any (w0 : World) (X : Nat) (hX : w0.heap.size ≤ X) : ∀ (s : Ty) (w : World) (L : Nat), s.At w0 → s.pn ≤ L → L ≤ 4000 → Wp w X L → Below w0.heap.size w0 w →
    Calls Try.prog 56 #[.pointer (some ⟨X, 0, none⟩), .slice s.ao s.len s.cap, .slice s.ao s.len s.cap] w fun e w' => PQ w0 X s L e w' := by
  intro s
  induction s with
  | dm => intro w L hs; exact hs.elim
  | mk sk sl sh se sao sb so slen scap sps ih =>
    intro w L hs hL h4000 hW hB
    show Calls Try.prog 56 #[.pointer (some ⟨X, 0, none⟩), .slice sao slen scap, .slice sao slen scap] w fun e w' => PQ w0 X (.mk sk sl sh se sao sb so slen scap sps) L e w'
    have HL : Hid (sumTo (fun i => (sps i).nodes) slen ≤ L) := hL
    have b1 : slen ≤ 9223372036854775807 := hs.bound
    have n1 : 0 < slen → sao = some ⟨sb, so, none⟩ := hs.nil
    have HW : Hid (Wp w X L ∧ Below w0.heap.size w0 w) := ⟨hW, hB⟩
    clear hL hW hB
    go_enter Try.func56, Try.ntmps56
    go_wp2
    go_loopw [10] (fun i wr => ∃ j l : Nat, j ≤ slen ∧ i = .int .i64 j ∧ (∀ i, i < j → (sps i).pln = true) ∧ l + sumTo (fun i => (sps i).nodes) j = L ∧ Wp wr X l ∧ Below w0.heap.size w0 wr) (fun i _ => slen - (intOf i).toNat)
    case atStart => exact ⟨0, L, Nat.zero_le _, rfl, fun _ h => absurd h (Nat.not_lt_zero _), rfl, HW.out.1, HW.out.2⟩
    case round =>
      obtain ⟨j, l, hj, rfl, hdone, hl, hW, hB⟩ := hrel
      clear HW
      have HD : Hid ((∀ i, i < j → (sps i).pln = true) ∧ l + sumTo (fun i => (sps i).nodes) j = L) := ⟨hdone, hl⟩
      clear hdone
      by_cases hlt : j < slen
      · have ij : (j : Int) < slen := by omega
        have hsum := sumTo_le (fun i => (sps i).nodes) hlt
        have hnod := pn_nodes (sps j)
        have hLL := HL.out
        have hl0 : 1 ≤ l := by omega
        have HN : Hid ((sps j).pn ≤ l - 1 ∧ l ≤ 4000 ∧ (sps j).nodes = 1 + (sps j).pn) := ⟨by omega, by omega, hnod⟩
        clear hsum hnod hLL hl
        have a1 := n1 (by omega)
        subst a1
        have e0 : ((l : Int) == 0) = false := by simp; omega
        have k1 := hW.c2
        have kf := hW.f2
        have i1 : (1 : Int) ≤ l := by omega
        have i2 : (l : Int) ≤ 4000 := by have := HN.out.2.1; omega
        have W2 : Wp (wr.setCell ⟨X, 2, none⟩ (.int .i64 ((l : Int) - 1))) X (l - 1) := by
          have := hW.set (l - 1)
          rwa [show ((l - 1 : Nat) : Int) = (l : Int) - 1 by omega] at this
        have B2 : Below w0.heap.size w0 (wr.setCell ⟨X, 2, none⟩ (.int .i64 ((l : Int) - 1))) := hB.setCell hX _
        clear hW hB
        have C : C5 _ sb (so + j * 5) (sps j) := (hs.kept B2).cells hlt
        have P : (sps j).At w0 := hs.part hlt
        go_wp2
        generalize wr.setCell ⟨X, 2, none⟩ (.int .i64 ((l : Int) - 1)) = w2 at *
        have k0 := fun x => Gr.cell x W2.c1
        have p0 := fun x => Gr.cell x C.c0
        have p1 := fun x => Gr.cell x C.c1
        have p2 := fun x => Gr.cell x C.c2
        have p3 := fun x => Gr.cell x C.c3
        have p4 := fun x => Gr.cell x C.c4
        have hNE : Nonempty (Gr w2) := ⟨⟨_, Below.refl _ _⟩⟩
        have H1 : ∀ u, Calls Try.prog 39 #[.agg #[.int .i64 (sps j).k, .int .i64 (sps j).l, .slice (sps j).ao (sps j).len (sps j).cap, .int .i64 (sps j).h, .int .i64 (sps j).e], .agg #[.int .i64 (sps j).k, .int .i64 (sps j).l, .slice (sps j).ao (sps j).len (sps j).cap, .int .i64 (sps j).h, .int .i64 (sps j).e]] u fun e w' => e = .returned (.bool ((sps j).k != 4)) ∧ Below u.heap.size u w' := fun u => plain1_any (sps j) (sps j) u
        have hpe := pln_eq (sps j) (at_nd P)
        cases hq : ((sps j).k != 4)
        · rw [hq] at H1 hpe
          have HQ : Hid ((sps j).pln = false) := hpe
          clear hq hpe
          refine wp_region_gr (by kernel_rfl) (by kernel_rfl) ?_
          repeat (first | go_big_quiet_step ((go_at_call 39; exact Calls.gr _ (H1 _))))
          refine wpQuiet_nil ?_
          rintro w4 ⟨x4, rfl⟩
          have B4 := x4.bl
          generalize x4.w = w4 at B4 ⊢
          clear x4 k0 p0 p1 p2 p3 p4 hNE C P H1
          go_wp2
          go_ret
          exact PQ.intro false rfl (decide_eq_false (fun hh => absurd (HQ.out.symm.trans (hh j hlt)) (by decide))).symm (Below.next B2 B4) (l - 1) (W2.kept B4) (fun h => Bool.noConfusion h)
        · rw [hq] at H1 hpe
          have H2 := fun u (hu : Wp u X (l - 1)) (hv : Below w0.heap.size w0 u) => ih j u (l - 1) P HN.out.1 (by have := HN.out.2.1; omega) hu hv
          have HQ : Hid ((sps j).pln = decide (∀ i, i < (sps j).len → ((sps j).ps i).pln = true)) := by show (sps j).pln = _; rw [hpe]; rfl
          clear hq hpe
          have k9 := fun x => Gr.cell x W2.c0
          refine wp_region_gr_tail 34 (by kernel_rfl) (by kernel_rfl) ?_
          simp only [List.take, List.drop]
          repeat (first | go_big_quiet_step ((first | (go_at_call 39; exact Calls.gr _ (H1 _)) | (go_at_call 37; with_reducible exact Calls.gr _ (partsOf_any (sps j) _)))))
          refine wpQuiet_nil ?_
          rintro w4 ⟨x4, rfl⟩
          have B4 := x4.bl
          generalize x4.w = w4 at B4 ⊢
          clear x4 k0 k9 p0 p1 p2 p3 p4 hNE C P H1
          have H3 := H2 w4 (W2.kept B4) (Below.next B2 B4)
          clear H2 W2 B2 B4
          go_wp2_with fail
          refine H3.mono ?_
          intro e w6 hPP
          obtain ⟨r, rfl, hr, B6, L6, W6, hr6⟩ := hPP
          have HR : Hid (r = decide (∀ i, i < (sps j).len → ((sps j).ps i).pln = true) ∧ (r = true → L6 + (sps j).pn = l - 1)) := ⟨hr, hr6⟩
          clear hr hr6 H3
          cases r
          · go_wp2
            go_ret
            exact PQ.intro false rfl (decide_eq_false (fun hh => absurd ((HR.out.1.trans HQ.out.symm).trans (hh j hlt)) (by decide))).symm B6 L6 W6 (fun h => Bool.noConfusion h)
          · go_wp2
            go_roundw
            case rel => exact ⟨j + 1, L6, by omega, by go_num, fun i hi => (by
                by_cases e : i = j
                · subst e; rw [HQ.out, ← HR.out.1]
                · exact HD.out.1 i (by omega)), by have h1 := HD.out.2; have h2 := HR.out.2 (by simp); have h3 := HN.out; simp only [sumTo]; omega, W6, B6⟩
            case measure => simp [intOf]; omega
      · have e : slen = j := by omega
        subst e
        have dl : ¬ (slen : Int) < slen := by omega
        go_wp2
        go_ret
        exact PQ.intro true rfl (decide_eq_true HD.out.1).symm hB l hW (fun _ => HD.out.2)

theorem wp_new (w : World) : Wp (w.alloc (.cells #[.func (.func 37) #[] #[], .func (.func 39) #[] #[], .int .i64 4000, .slice none 0 0, .map none] 65)) w.heap.size 4000 := by
  constructor <;> simp

set_option maxRecDepth 100000 in
set_option maxHeartbeats 4000000 in
theorem everyP_any (s : Ty) (w : World) (hs : s.At w) (hL : s.pn ≤ 4000) :
    Calls Try.prog 38 #[.agg #[.int .i64 s.k, .int .i64 s.l, .slice s.ao s.len s.cap, .int .i64 s.h, .int .i64 s.e], .agg #[.int .i64 s.k, .int .i64 s.l, .slice s.ao s.len s.cap, .int .i64 s.h, .int .i64 s.e], .func (.func 37) #[] #[], .func (.func 39) #[] #[]] w fun e w' => e = .returned (.bool s.pln) ∧ Below w.heap.size w w' := by
  obtain ⟨X0, Y0, B0⟩ := start_tt w s s
  have hs0 := hs.kept B0
  have K0 := wp_new ((w.alloc (tyO s)).alloc (tyO s))
  have BK := below_alloc ((w.alloc (tyO s)).alloc (tyO s)) (.cells #[.func (.func 37) #[] #[], .func (.func 39) #[] #[], .int .i64 4000, .slice none 0 0, .map none] 65)
  have X1 := X0.kept BK
  have Y1 := Y0.kept BK
  have sz : ((w.alloc (tyO s)).alloc (tyO s)).heap.size = w.heap.size + 2 := by rw [alloc_size, alloc_size]
  have HP := fun u (L : Nat) (hu : Wp u ((w.alloc (tyO s)).alloc (tyO s)).heap.size L) (h1 : s.pn ≤ L) (h2 : L ≤ 4000) (hv : Below ((w.alloc (tyO s)).alloc (tyO s)).heap.size ((w.alloc (tyO s)).alloc (tyO s)) u) => partsP_any _ _ (Nat.le_refl _) s u L hs0 h1 h2 hu hv
  rw [sz] at HP K0
  unfold tyO at *
  have HB : Hid (Below w.heap.size w ((w.alloc (.cells #[.int .i64 s.k, .int .i64 s.l, .slice s.ao s.len s.cap, .int .i64 s.h, .int .i64 s.e] 28)).alloc (.cells #[.int .i64 s.k, .int .i64 s.l, .slice s.ao s.len s.cap, .int .i64 s.h, .int .i64 s.e] 28))) := B0
  have HZ : Hid (((w.alloc (.cells #[.int .i64 s.k, .int .i64 s.l, .slice s.ao s.len s.cap, .int .i64 s.h, .int .i64 s.e] 28)).alloc (.cells #[.int .i64 s.k, .int .i64 s.l, .slice s.ao s.len s.cap, .int .i64 s.h, .int .i64 s.e] 28)).heap.size = w.heap.size + 2) := sz
  have hpe := pln_eq s (at_nd hs)
  clear B0 sz
  go_enter Try.func38, Try.ntmps38
  go_wp2
  generalize ((w.alloc (.cells #[.int .i64 s.k, .int .i64 s.l, .slice s.ao s.len s.cap, .int .i64 s.h, .int .i64 s.e] 28)).alloc (.cells #[.int .i64 s.k, .int .i64 s.l, .slice s.ao s.len s.cap, .int .i64 s.h, .int .i64 s.e] 28)) = w0 at *
  generalize w0.alloc (.cells #[.func (.func 37) #[] #[], .func (.func 39) #[] #[], .int .i64 4000, .slice none 0 0, .map none] 65) = w2 at *
  have H1 : ∀ u, Calls Try.prog 39 #[.agg #[.int .i64 s.k, .int .i64 s.l, .slice s.ao s.len s.cap, .int .i64 s.h, .int .i64 s.e], .agg #[.int .i64 s.k, .int .i64 s.l, .slice s.ao s.len s.cap, .int .i64 s.h, .int .i64 s.e]] u fun e w' => e = .returned (.bool (s.k != 4)) ∧ Below u.heap.size u w' := fun u => plain1_any s s u
  have x0 := fun q => Gr.cell q X1.c0
  have x1 := fun q => Gr.cell q X1.c1
  have x2 := fun q => Gr.cell q X1.c2
  have x3 := fun q => Gr.cell q X1.c3
  have x4 := fun q => Gr.cell q X1.c4
  have y0 := fun q => Gr.cell q Y1.c0
  have y1 := fun q => Gr.cell q Y1.c1
  have y2 := fun q => Gr.cell q Y1.c2
  have y3 := fun q => Gr.cell q Y1.c3
  have y4 := fun q => Gr.cell q Y1.c4
  have hNE : Nonempty (Gr w2) := ⟨⟨_, Below.refl _ _⟩⟩
  clear X0 Y0 X1 Y1
  cases hq : (s.k != 4)
  · rw [hq] at H1 hpe
    have HQ : Hid (s.pln = false) := hpe
    clear hq HP hpe
    refine wp_region_gr (by kernel_rfl) (by kernel_rfl) ?_
    repeat (first | go_big_quiet_step ((go_at_call 39; exact Calls.gr _ (H1 _))))
    refine wpQuiet_nil ?_
    rintro w4 ⟨q4, rfl⟩
    have B4 := q4.bl
    generalize q4.w = w4 at B4 ⊢
    clear q4 x0 x1 x2 x3 x4 y0 y1 y2 y3 y4 hNE H1
    go_wp2
    go_ret
    exact ⟨ret_bool HQ.out.symm, Below.next HB.out (Below.next BK B4)⟩
  · rw [hq] at H1 hpe
    have HQ : Hid (s.pln = decide (∀ i, i < s.len → (s.ps i).pln = true)) := by show s.pln = _; rw [hpe]; rfl
    have hP := fun (w5 : World) (B5 : Below w2.heap.size w2 w5) => HP w5 4000 (K0.kept B5) hL (Nat.le_refl _) ((Below.next BK B5).mono (Nat.le_of_eq HZ.out.symm))
    clear hq hpe HP K0
    refine wp_region_gr_tail 12 (by kernel_rfl) (by kernel_rfl) ?_
    simp only [List.take, List.drop]
    repeat (first | go_big_quiet_step ((first | (go_at_call 39; exact Calls.gr _ (H1 _)) | (go_at_call 37; with_reducible exact Calls.gr _ (partsOf_any s _)))))
    refine wpQuiet_nil ?_
    rintro w4 ⟨q4, rfl⟩
    have B4 := q4.bl
    generalize q4.w = w4 at B4 ⊢
    clear q4 x0 x1 x2 x3 x4 y0 y1 y2 y3 y4 hNE H1
    have H3 := hP w4 B4
    clear hP
    go_wp2_with fail
    refine H3.mono ?_
    intro e w6 hPP
    obtain ⟨r, rfl, hr, B6, L6, W6, hr6⟩ := hPP
    have HR : Hid (r = decide (∀ i, i < s.len → (s.ps i).pln = true)) := hr
    clear hr hr6 H3
    cases r
    · go_wp2
      go_ret
      exact ⟨ret_bool (HR.out.trans HQ.out.symm), Below.next HB.out B6⟩
    · have k2 := W6.c3
      go_wp2
      go_loopw [10] (fun _ wr => wr = w6) (fun _ _ => 0)
      case atStart => rfl
      case round =>
        subst hrel
        go_wp2
        go_ret
        exact ⟨ret_bool (HR.out.trans HQ.out.symm), Below.next HB.out B6⟩

set_option maxHeartbeats 1000000 in
theorem Plain_any (s : Ty) (w : World) (hs : s.At w) (hL : s.pn ≤ 4000) :
    Calls Try.prog 15 #[.agg #[.int .i64 s.k, .int .i64 s.l, .slice s.ao s.len s.cap, .int .i64 s.h, .int .i64 s.e]] w fun e w' => e = .returned (.bool s.pln) ∧ Below w.heap.size w w' := by
  have X0 := Bx.new w s
  have B0 := below_alloc w (.cells #[.int .i64 s.k, .int .i64 s.l, .slice s.ao s.len s.cap, .int .i64 s.h, .int .i64 s.e] 28)
  have h := everyP_any s _ (hs.kept B0) hL
  go_enter Try.func15, Try.ntmps15
  go_wp2_with fail
  refine h.mono ?_
  rintro e w5 ⟨rfl, hb5⟩
  go_wp2
  go_ret
  exact ⟨rfl, Below.next B0 hb5⟩

set_option maxHeartbeats 2000000 in
theorem rPlain_any : ∀ (t : Ty) (w : World), t.At w → Calls Try.prog 16 #[.agg #[.int .i64 t.k, .int .i64 t.l, .slice t.ao t.len t.cap, .int .i64 t.h, .int .i64 t.e]] w fun e w' => e = .returned (.bool t.pln) ∧ Below w.heap.size w w' := by
  intro t
  induction t with
  | dm => intro w hAt; exact hAt.elim
  | mk k l h e ao b o len cap ps ih =>
    intro w hAt
    show Calls Try.prog 16 #[.agg #[.int .i64 k, .int .i64 l, .slice ao len cap, .int .i64 h, .int .i64 e]] w fun r w' => r = .returned (.bool ((k != 4) && decide (∀ i, i < len → (ps i).pln = true))) ∧ Below w.heap.size w w'
    have X0 := Bx.new w (.mk k l h e ao b o len cap ps)
    have hb : len ≤ 9223372036854775807 := hAt.bound
    have hnil : 0 < len → ao = some ⟨b, o, none⟩ := hAt.nil
    have B0 := below_alloc w (.cells #[.int .i64 k, .int .i64 l, .slice ao len cap, .int .i64 h, .int .i64 e] 28)
    have hA1 := hAt.kept B0
    have HS : Hid (Bx (w.alloc (.cells #[.int .i64 k, .int .i64 l, .slice ao len cap, .int .i64 h, .int .i64 e] 28)) w.heap.size (.mk k l h e ao b o len cap ps) ∧ Ty.At (w.alloc (.cells #[.int .i64 k, .int .i64 l, .slice ao len cap, .int .i64 h, .int .i64 e] 28)) (.mk k l h e ao b o len cap ps) ∧ Below w.heap.size w (w.alloc (.cells #[.int .i64 k, .int .i64 l, .slice ao len cap, .int .i64 h, .int .i64 e] 28))) := ⟨X0, hA1, B0⟩
    clear X0 hA1 B0 hAt
    go_enter Try.func16, Try.ntmps16
    go_wp2
    go_loopw [3] (fun i wr => ∃ (j : Nat), j ≤ len ∧ i = .int .i64 j ∧ (∀ i, i < j → (ps i).pln = true) ∧ Bx wr w.heap.size (.mk k l h e ao b o len cap ps) ∧ Ty.At wr (.mk k l h e ao b o len cap ps) ∧ Below w.heap.size w wr) (fun i _ => len - (intOf i).toNat)
    case atStart => exact ⟨0, Nat.zero_le _, rfl, fun _ h => absurd h (Nat.not_lt_zero _), HS.out⟩
    case round =>
      obtain ⟨j, hj, rfl, hdone, hX, hA, hB⟩ := hrel
      clear HS
      have x0 : wr.cell? ⟨w.heap.size, 0, none⟩ = some (.int .i64 k) := hX.c0
      have x2 : wr.cell? ⟨w.heap.size, 2, none⟩ = some (.slice ao len cap) := hX.c2
      have HS : Hid (Bx wr w.heap.size (.mk k l h e ao b o len cap ps) ∧ Ty.At wr (.mk k l h e ao b o len cap ps) ∧ Below w.heap.size w wr) := ⟨hX, hA, hB⟩
      have HD : Hid (∀ i, i < j → (ps i).pln = true) := hdone
      clear hX hdone hB
      by_cases hlt : j < len
      · have ij : (j : Int) < len := by omega
        have a0 := hnil (by omega)
        subst a0
        have C : C5 wr b (o + j * 5) (ps j) := hA.cells hlt
        have P : (ps j).At wr := hA.part hlt
        have y0 := C.c0
        have y1 := C.c1
        have y2 := C.c2
        have y3 := C.c3
        have y4 := C.c4
        clear hA C
        go_wp2_with fail
        refine (ih j _ P).mono ?_
        rintro r w1 ⟨rfl, hb1⟩
        clear y0 y1 y2 y3 y4 x2 x0
        cases hp : (ps j).pln
        · have HE : Hid (decide (∀ i, i < len → (ps i).pln = true) = false) := decide_eq_false (fun hh => absurd (hp.symm.trans (hh j hlt)) (by decide))
          clear hp
          go_wp2
          go_ret
          exact ⟨ret_bool (by rw [HE.out, Bool.and_false]), Below.next HS.out.2.2 hb1⟩
        · have HP : Hid ((ps j).pln = true) := hp
          clear hp
          go_wp2
          go_roundw
          case rel => exact ⟨j + 1, by omega, by go_num, fun i hi => (by
              by_cases e : i = j
              · subst e; exact HP.out
              · exact HD.out i (by omega)), HS.out.1.kept hb1, HS.out.2.1.kept hb1, Below.next HS.out.2.2 hb1⟩
          case measure => simp [intOf]; omega
      · have e : len = j := by omega
        subst e
        have d : ¬ (len : Int) < len := by omega
        have HE : Hid (decide (∀ i, i < len → (ps i).pln = true) = true) := decide_eq_true HD.out
        go_wp2
        go_ret
        exact ⟨ret_bool (by rw [HE.out, Bool.and_true]), HS.out.2.2⟩
end Go.Proofs.Ytlknlnhbmamcbaa

/- Layer 2: a row of types that a call makes by append. -/
namespace Go.Proofs.Ytlknlnhbmamcbaa
open Go.RowKit

/-- All blocks of a type's Parts meet Q. -/
def Ty.Blk (Q : Nat → Prop) : Ty → Prop
  | .dm => True
  | .mk _ _ _ _ _ b _ len _ ps => (0 < len → Q b) ∧ ∀ i, i < len → Ty.Blk Q (ps i)
theorem Ty.Blk.mono {Q R : Nat → Prop} (hQR : ∀ b, Q b → R b) : ∀ {t : Ty}, t.Blk Q → t.Blk R
  | .dm, _ => True.intro
  | .mk _ _ _ _ _ _ _ _ _ _, h => ⟨fun hl => hQR _ (h.1 hl), fun i hi => Ty.Blk.mono hQR (h.2 i hi)⟩
theorem Ty.Blk.and {Q R : Nat → Prop} : ∀ {t : Ty}, t.Blk Q → t.Blk R → t.Blk (fun b => Q b ∧ R b)
  | .dm, _, _ => True.intro
  | .mk _ _ _ _ _ _ _ _ _ _, h, k => ⟨fun hl => ⟨h.1 hl, k.1 hl⟩, fun i hi => Ty.Blk.and (h.2 i hi) (k.2 i hi)⟩
theorem Ty.At.lt {w : World} : ∀ {t : Ty}, t.At w → t.Blk (fun b => b < w.heap.size)
  | .dm, h => h.elim
  | .mk _ _ _ _ _ _ _ _ _ _, h => ⟨fun hl => cell_lt (h.2.2 0 hl).1.c0, fun i hi => Ty.At.lt (h.2.2 i hi).2⟩
theorem Ty.At.agree {w w' : World} {Q : Nat → Prop} (hag : ∀ b, Q b → w'.heap[b]? = w.heap[b]?) : ∀ {t : Ty}, t.At w → t.Blk Q → t.At w'
  | .dm, h, _ => h.elim
  | .mk _ _ _ _ _ b o len _ ps, h, k => ⟨h.1, h.2.1, fun i hi => by
      have e := hag b (k.1 (by omega))
      have C := (h.2.2 i hi).1
      exact ⟨⟨(World.cell?_of_block (w := w) e).trans C.c0, (World.cell?_of_block (w := w) e).trans C.c1, (World.cell?_of_block (w := w) e).trans C.c2, (World.cell?_of_block (w := w) e).trans C.c3, (World.cell?_of_block (w := w) e).trans C.c4⟩, Ty.At.agree hag (h.2.2 i hi).2 (k.2 i hi)⟩⟩

def Ty.vs (t : Ty) : List Value := [.int .i64 t.k, .int .i64 t.l, .slice t.ao t.len t.cap, .int .i64 t.h, .int .i64 t.e]
def flatT (ts : Nat → Ty) : Nat → List Value
  | 0 => []
  | j + 1 => flatT ts j ++ (ts j).vs
theorem flat_len (ts : Nat → Ty) : ∀ j, (flatT ts j).length = j * 5
  | 0 => rfl
  | j + 1 => by
    show (flatT ts j ++ (ts j).vs).length = _
    rw [List.length_append, flat_len ts j]
    show j * 5 + 5 = _
    omega
theorem flat_get (ts : Nat → Ty) : ∀ j i q, i < j → q < 5 → (flatT ts j)[i * 5 + q]? = (ts i).vs[q]?
  | 0, _, _, h, _ => absurd h (Nat.not_lt_zero _)
  | j + 1, i, q, hi, hq => by
    show (flatT ts j ++ (ts j).vs)[i * 5 + q]? = _
    have hl := flat_len ts j
    by_cases e : i = j
    · subst e
      rw [List.getElem?_append_right (by omega), hl]
      congr 1
      omega
    · rw [List.getElem?_append_left (by omega)]
      exact flat_get ts j i q (by omega) hq
theorem flat_congr {ts us : Nat → Ty} : ∀ j, (∀ i, i < j → ts i = us i) → flatT ts j = flatT us j
  | 0, _ => rfl
  | j + 1, h => by
    show flatT ts j ++ (ts j).vs = flatT us j ++ (us j).vs
    rw [flat_congr j (fun i hi => h i (by omega)), h j (by omega)]

/-- A row of j types that v owns, behind w0. -/
structure GRow (w0 wr : World) (v : Value) (j : Nat) (ts : Nat → Ty) : Prop where
  bl : Below w0.heap.size w0 wr
  own : wr.ownsRow w0.heap.size 28 5 v j (flatT ts j)
  at' : ∀ i, i < j → (ts i).At wr
  blk : ∀ i, i < j → (ts i).Blk (fun b => w0.heap.size ≤ b ∧ some b ≠ v.ownBlock)
theorem GRow.start (w : World) (ts : Nat → Ty) : GRow w w (.slice none 0 0) 0 ts :=
  ⟨Below.refl _ _, World.ownsRow_nil _ _ _ _, fun _ h => absurd h (Nat.not_lt_zero _), fun _ h => absurd h (Nat.not_lt_zero _)⟩
theorem own_lt {w : World} {base : Nat} {e : TypeId} {size : Nat} {v : Value} {n : Nat} {xs : List Value} (h : w.ownsRow base e size v n xs) {b : Nat} (hb : v.ownBlock = some b) : b < w.heap.size := by
  obtain ⟨cur, hc⟩ := own_type h hb
  exact (Array.getElem?_eq_some_iff.1 hc).1

theorem GRow.push {w0 wr w1 w3 : World} {v : Value} {j : Nat} {ts : Nat → Ty} {t : Ty} {gg cap : Nat} (h : GRow w0 wr v j ts) (hb : Below wr.heap.size wr w1) (ht : t.At w1) (hk : t.Blk (fun b => wr.heap.size ≤ b))
    (hown : w3.ownsRow w0.heap.size 28 5 (.slice (some ⟨gg, 0, none⟩) (j + 1) cap) (j + 1) (flatT ts j ++ t.vs)) (hgrow : (w1.alloc (tyO t)).grownBy w3 v.ownBlock) (hat : v.ownBlock = some gg ∨ gg = w1.heap.size + 1) :
    GRow w0 w3 (.slice (some ⟨gg, 0, none⟩) (j + 1) cap) (j + 1) (fun i => if i < j then ts i else t) := by
  have s1 := h.bl.size
  have s2 := hb.size
  have ba := below_alloc w1 (tyO t)
  have sz : (w1.alloc (tyO t)).heap.size = w1.heap.size + 1 := alloc_size _ _
  have old1 : ∀ b, b < w1.heap.size → some b ≠ v.ownBlock → w3.heap[b]? = w1.heap[b]? := fun b hb1 hne => (hgrow.block b (by rw [sz]; omega) hne).trans (ba.block b hb1)
  have old : ∀ b, b < wr.heap.size → some b ≠ v.ownBlock → w3.heap[b]? = wr.heap[b]? := fun b hb1 hne => (old1 b (by omega) hne).trans (hb.block b hb1)
  have lt : ∀ b, v.ownBlock = some b → b < wr.heap.size := fun b hb' => own_lt h.own hb'
  have nat : t.At w3 := Ty.At.agree (Q := fun b => wr.heap.size ≤ b ∧ b < w1.heap.size) (fun b hq => old1 b hq.2 (fun e => by have := lt b e.symm; omega)) ht (hk.and ht.lt)
  refine ⟨?_, ?_, fun i hi => ?_, fun i hi => ?_⟩
  · refine ⟨hgrow.os.trans (ba.os.trans (hb.os.trans h.bl.os)), hgrow.tape.trans (ba.tape.trans (hb.tape.trans h.bl.tape)), hgrow.output.trans (ba.output.trans (hb.output.trans h.bl.output)), ?_, fun b hb1 => ?_⟩
    · have := hgrow.size
      omega
    · rw [old b (by omega) (fun e => by have := own_ge h.own e.symm; omega)]
      exact h.bl.block b hb1
  · have e : flatT (fun i => if i < j then ts i else t) (j + 1) = flatT ts j ++ t.vs := by
      show flatT (fun i => if i < j then ts i else t) j ++ (if j < j then ts j else t).vs = _
      rw [flat_congr j (us := ts) (fun i hi => by simp [hi]), if_neg (Nat.lt_irrefl _)]
    rw [e]; exact hown
  · by_cases hij : i < j
    · simp only [hij, if_true]
      exact Ty.At.agree (Q := fun b => (w0.heap.size ≤ b ∧ some b ≠ v.ownBlock) ∧ b < wr.heap.size) (fun b hq => old b hq.2 hq.1.2) (h.at' i hij) ((h.blk i hij).and (h.at' i hij).lt)
    · simp only [hij, if_false]
      exact nat
  · have key : ∀ b, (b < wr.heap.size ∧ some b ≠ v.ownBlock) ∨ (wr.heap.size ≤ b ∧ b < w1.heap.size) → some b ≠ (Value.slice (some ⟨gg, 0, none⟩) (j + 1) cap).ownBlock := fun b hq e => by
      have e' : b = gg := by simpa [Value.ownBlock] using e
      subst e'
      rcases hat with hat | hat
      · rcases hq with hq | hq
        · exact hq.2 hat.symm
        · have := lt b hat; omega
      · rcases hq with hq | hq <;> omega
    by_cases hij : i < j
    · simp only [hij, if_true]
      exact ((h.blk i hij).and (h.at' i hij).lt).mono (fun b hq => ⟨hq.1.1, key b (Or.inl ⟨hq.2, hq.1.2⟩)⟩)
    · simp only [hij, if_false]
      exact (hk.and ht.lt).mono (fun b hq => ⟨by omega, key b (Or.inr hq)⟩)

/-- The row's type. -/
theorem GRow.ty {w0 wr : World} {v : Value} {j : Nat} {ts : Nat → Ty} (h : GRow w0 wr v j ts) (hj : j ≤ 9223372036854775807) : ∃ (ao : Option Addr) (gg cap : Nat), v = .slice ao j cap ∧ ∀ k l hh e, Ty.At wr (.mk k l hh e ao gg 0 j cap ts) ∧ Ty.Blk (fun b => w0.heap.size ≤ b) (.mk k l hh e ao gg 0 j cap ts) := by
  by_cases h0 : 0 < j
  · obtain ⟨gg, cap, rfl, hge, _⟩ := h.own.form h0
    refine ⟨_, gg, cap, rfl, fun k l hh e => ⟨⟨fun _ => rfl, hj, fun i hi => ⟨?_, h.at' i hi⟩⟩, fun _ => hge, fun i hi => (h.blk i hi).mono (fun b hq => hq.1)⟩⟩
    have get : ∀ q, q < 5 → wr.cell? ⟨gg, 0 + i * 5 + q, none⟩ = (ts i).vs[q]? := fun q hq => by
      rw [Nat.zero_add, h.own.cellAt (i * 5 + q) (by omega), flat_get ts j i q hi hq]
    exact ⟨get 0 (by omega), get 1 (by omega), get 2 (by omega), get 3 (by omega), get 4 (by omega)⟩
  · have e : j = 0 := by omega
    subst e
    obtain ⟨_, ⟨rfl, _⟩ | ⟨gb, cap, cur, rfl, hg, _⟩⟩ := h.own
    · exact ⟨none, 0, 0, rfl, fun k l hh e => ⟨⟨fun h => absurd h (Nat.lt_irrefl _), hj, fun _ h => absurd h (Nat.not_lt_zero _)⟩, fun h => absurd h (Nat.lt_irrefl _), fun _ h => absurd h (Nat.not_lt_zero _)⟩⟩
    · exact ⟨_, gb, cap, rfl, fun k l hh e => ⟨⟨fun _ => rfl, hj, fun _ h => absurd h (Nat.not_lt_zero _)⟩, fun h => absurd h (Nat.lt_irrefl _), fun _ h => absurd h (Nat.not_lt_zero _)⟩⟩
end Go.Proofs.Ytlknlnhbmamcbaa
