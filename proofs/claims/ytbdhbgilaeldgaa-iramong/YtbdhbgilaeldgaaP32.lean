/- Layer 10: awake. -/
import Derived.Test.YtbdhbgilaeldgaaP31
import Derived.Test.YtbdhbgilaeldgaaP1
import Derived.ProofKit
import Derived.Deep.Grids
import Derived.Lib.SmallJoins
import Derived.Test.YtbdhbgilaeldgaaP7
namespace Go.Proofs.Ytbdhbgilaeldgaa
open Go Go.RowKit

theorem Lt2.kept {n : Strs} {g : Grid} {w w' : World} (h : Lt2 n g w) (hb : Below w.heap.size w w') : Lt2 n g w' := ⟨h.nat.kept hb, h.gat.kept hb, h.fd, h.two, h.le, h.rows⟩
def f0 (B : Nat) (out : Int) : Fc := ⟨leafT 1 0, leafT 1 0, leafT 0 0, 0, -1, .mk 0 0 0 0 (some ⟨B, 0, none⟩) B 0 1 1 (fun _ => leafT 1 0), Ns.nl, out⟩
theorem f0_at {w : World} {B : Nat} {out : Int} (hb : Blk w B (leafT 1 0).vs 39) : (f0 B out).At w := by
  refine ⟨leaf_at _ _ _, leaf_at _ _ _, leaf_at _ _ _, ⟨fun _ => rfl, by decide, fun i hi => ?_⟩, Ns.nl_at w, Nat.le_refl 1⟩
  have h2 : i = 0 := by omega
  subst h2
  exact ⟨range_C5 hb.range, leaf_at _ _ _⟩
theorem f0_sf {n : Strs} {g : Grid} {w : World} (h : Lt2 n g w) (B : Nat) (out : Int) : Sf n g (f0 B out) (fun _ => 0) := by
  obtain ⟨m, hm, hml, _⟩ := bot_is h.fd
  have h0 : 0 < n.len := by rw [h.two]; omega
  refine ⟨h.fd, ?_, rfl, Nat.le_refl 1, by show 1 ≤ 250; decide, fun _ _ => rfl, fun _ _ => h0, rfl, Nat.zero_le _, fun i hi => absurd hi (Nat.not_lt_zero _)⟩
  rw [hm]
  exact fun_okB' h.fd h0 h0 h0 hml
theorem f0_yes {n : Strs} {g : Grid} {w : World} {B BF : Nat} {a b : Int} (h : Lt2 n g w) (hR : ChkR n g (fl1 BF (f0 B 0)) a b) : b = 0 := by
  obtain ⟨m, hm, hml, hlow⟩ := bot_is h.fd
  have hs := f0_sf h B 0
  have h0 : 0 < n.len := by rw [h.two]; omega
  have hl := hs.lf hm hml hlow BF
  refine ((chk1 hR (by rw [hs.hld]; rfl)).1 ?_).2
  show (jdg n g (fl1 BF (f0 B 0)) 0).ends (jdg n g (fl1 BF (f0 B 0)) 0).start = true
  have e : (jdg n g (fl1 BF (f0 B 0)) 0).start = ⟨(m : Int), -1, fun i => decide (i < 1), false⟩ := by
    show (⟨botI n g, -1, fun i => decide (i < 1 + 0), false⟩ : Sta) = _
    rw [hm]
  rw [e, hl.ends (o := 0) (rs := 0) hml (by show 0 < 1; omega) h0 rfl rfl (Or.inl rfl) rfl]
  show g.B (Jn g 0 m) 0 = true
  rw [jn_ge h.fd h0 hml (hlow 0 h0)]
  exact lq_refl h.fd h0
theorem f0_no {n : Strs} {g : Grid} {w : World} {B BF : Nat} {a b : Int} (h : Lt2 n g w) (hR : ChkR n g (fl1 BF (f0 B (-1))) a b) : b = 11 := by
  have hs := f0_sf h B (-1)
  exact ((chk1 hR (by rw [hs.hld]; rfl)).2 rfl).2
theorem Try.infoFn : (Try.prog.info? 43).map (fun i => (i.zero, i.size, i.bytes)) = some (some (.agg zFv.toArray), 16, 208) := by kernel_rfl
theorem fill1_fn (t : Fc) : Instr.fill (fun i => some (i * 16, 16)) (Array.map (fun x => zFv[x % zFv.length]?.getD default) (Array.range 16)) [(0, Value.agg t.vs.toArray)] = some t.vs.toArray := by kernel_rfl
theorem run_slice1_fn (t : Fc) (w : World) : (Instr.buildSlice 26 1 #[(0, .agg t.vs.toArray)]).run Try.prog w = .ok (.slice (some ⟨w.heap.size, 0, none⟩) 1 1) (w.alloc (.cells t.vs.toArray 43)) := by
  obtain ⟨i0, hi, hz0, hz1, hz2⟩ := info_parts Try.infoFn
  simp [Instr.buildSlice, run_underlying Try.underlying26, sizeOf, typeInfo, hi, hz0, hz1, zeroValue, newRow, Value.cells, fill1_fn]
set_option maxRecDepth 100000 in
set_option maxHeartbeats 8000000 in
theorem awake10_any (w : World) : Calls Try.prog 7 #[] w fun e w' => e = .returned (.bool true) ∧ Below w.heap.size w w' := by
  have H := allocs_heap [.cells (leafT 1 0).vs.toArray 39, .cells (leafT 1 0).vs.toArray 39, .cells (f0 (w.heap.size + 1) 0).vs.toArray 43] w
  have B0 := allocs_below [.cells (leafT 1 0).vs.toArray 39, .cells (leafT 1 0).vs.toArray 39, .cells (f0 (w.heap.size + 1) 0).vs.toArray 43] w
  simp only [List.foldl] at H B0
  have HI := hid (show Below w.heap.size w _ ∧ Blk _ (w.heap.size + 1) (leafT 1 0).vs 39 ∧ Blk _ (w.heap.size + 2) (f0 (w.heap.size + 1) 0).vs 43 from ⟨B0, H 1 (by simp), H 2 (by simp)⟩)
  clear H B0
  replace HI : Hid (Below w.heap.size w (((w.alloc (.cells #[.int .i64 1, .int .i64 0, .slice none 0 0, .int .i64 0, .int .i64 0] 39)).alloc (.cells #[.int .i64 1, .int .i64 0, .slice none 0 0, .int .i64 0, .int .i64 0] 39)).alloc (.cells #[.int .i64 1, .int .i64 0, .slice none 0 0, .int .i64 0, .int .i64 0, .int .i64 1, .int .i64 0, .slice none 0 0, .int .i64 0, .int .i64 0, .slice none 0 0, .int .i64 0, .int .i64 (-1), .slice (some ⟨w.heap.size + 1, 0, none⟩) 1 1, .slice none 0 0, .int .i64 0] 43)) ∧ Blk (((w.alloc (.cells #[.int .i64 1, .int .i64 0, .slice none 0 0, .int .i64 0, .int .i64 0] 39)).alloc (.cells #[.int .i64 1, .int .i64 0, .slice none 0 0, .int .i64 0, .int .i64 0] 39)).alloc (.cells #[.int .i64 1, .int .i64 0, .slice none 0 0, .int .i64 0, .int .i64 0, .int .i64 1, .int .i64 0, .slice none 0 0, .int .i64 0, .int .i64 0, .slice none 0 0, .int .i64 0, .int .i64 (-1), .slice (some ⟨w.heap.size + 1, 0, none⟩) 1 1, .slice none 0 0, .int .i64 0] 43)) (w.heap.size + 1) (leafT 1 0).vs 39 ∧ Blk (((w.alloc (.cells #[.int .i64 1, .int .i64 0, .slice none 0 0, .int .i64 0, .int .i64 0] 39)).alloc (.cells #[.int .i64 1, .int .i64 0, .slice none 0 0, .int .i64 0, .int .i64 0] 39)).alloc (.cells #[.int .i64 1, .int .i64 0, .slice none 0 0, .int .i64 0, .int .i64 0, .int .i64 1, .int .i64 0, .slice none 0 0, .int .i64 0, .int .i64 0, .slice none 0 0, .int .i64 0, .int .i64 (-1), .slice (some ⟨w.heap.size + 1, 0, none⟩) 1 1, .slice none 0 0, .int .i64 0] 43)) (w.heap.size + 2) (f0 (w.heap.size + 1) 0).vs 43) := HI
  go_enter Try.func7, Try.ntmps7
  go_upto_region 3 with fail
  generalize (((w.alloc (.cells #[.int .i64 1, .int .i64 0, .slice none 0 0, .int .i64 0, .int .i64 0] 39)).alloc (.cells #[.int .i64 1, .int .i64 0, .slice none 0 0, .int .i64 0, .int .i64 0] 39)).alloc (.cells #[.int .i64 1, .int .i64 0, .slice none 0 0, .int .i64 0, .int .i64 0, .int .i64 1, .int .i64 0, .slice none 0 0, .int .i64 0, .int .i64 0, .slice none 0 0, .int .i64 0, .int .i64 (-1), .slice (some ⟨w.heap.size + 1, 0, none⟩) 1 1, .slice none 0 0, .int .i64 0] 43)) = w1 at *
  go_cut [4] (fun b wx => ∃ rb : Int, b = .int .i64 rb ∧ rb = 0 ∧ Hid (Below w.heap.size w wx ∧ Blk wx (w.heap.size + 1) (leafT 1 0).vs 39 ∧ Blk wx (w.heap.size + 2) (f0 (w.heap.size + 1) 0).vs 43))
  case first =>
    have hCF : ∀ q, (∃ x : Wd (fun q => Below w1.heap.size w1 q), q = x.w) → q.rangeAt (w.heap.size + 2) 0 (f0 (w.heap.size + 1) 0).vs := by rintro _ ⟨x, rfl⟩; exact (HI.out.2.2.kept x.2).range
    have hNE : Nonempty (Wd (fun q => Below w1.heap.size w1 q)) := ⟨⟨_, Below.refl _ _⟩⟩
    refine wp_region_readsMN (fun q => Below w1.heap.size w1 q) [1] 8 (by kernel_rfl) rfl (by kernel_rfl) (hj_of (by kernel_rfl)) ((Below.refl _ _).drew) ?_
    simp only [List.filterMap, List.getElem?_cons_zero, List.getElem?_cons_succ]
    go_big_quiet_want
    refine quiet_load_row 43 (.tmp 2) rfl _ 0 (by kernel_rfl) (f0 (w.heap.size + 1) 0).vs _ hCF Try.underlying43 rfl (by kernel_rfl) ?_
    simp only [Act.put, List.setIfInBounds_toArray, List.set_cons_succ, List.set_cons_zero]
    go_big_quiet_on
    refine wpQuiet_nil ?_
    have HV0 := hid (show Below w1.heap.size w1 w1.drew from (Below.refl _ _).drew)
    generalize w1.drew = v0 at *
    refine wpAnyH_ready (rs := [0, 2]) (by kernel_rfl) (by simp) ?_
    refine AllReadyH.cons rfl (fun K hK => ?_) (AllReadyH.cons rfl (fun K hK => ?_) AllReadyH.nil)
    · rw [if_pos (by rfl)]
      go_simp
      refine (two10_any v0).mono ?_
      rintro _ v1 ⟨n, g, rfl, hL, hb9⟩
      have HV1 := hid (Below.next HV0.out hb9)
      have HL2 := hid hL
      refine hK.out _ _ HV1.out (fun _ => ?_)
      clear hK K hb9 hL
      refine wpAnyH_ready (rs := [2]) (by kernel_rfl) (by simp) ?_
      refine AllReadyH.cons rfl (fun K hK => ?_) AllReadyH.nil
      rw [if_pos (by rfl)]
      have hrn := run_slice1_fn (f0 (w.heap.size + 1) 0) v1
      have hb9 := below_alloc v1 (.cells (f0 (w.heap.size + 1) 0).vs.toArray 43)
      have HFB := hid (show Blk (v1.alloc (.cells (f0 (w.heap.size + 1) 0).vs.toArray 43)) v1.heap.size (f0 (w.heap.size + 1) 0).vs 43 from Blk.new v1 _ _)
      have HV2 := hid (Below.next HV1.out hb9)
      have HL3 := hid (show Lt2 n g _ from HL2.out.kept hb9)
      refine wp_sliceI 26 1 #[(0, .tmp 15)] rfl #[(0, .agg (f0 (w.heap.size + 1) 0).vs.toArray)] (by kernel_rfl) hrn ?_
      refine hK.out _ _ HV2.out (fun _ => ?_)
      clear hK K hrn hb9
      generalize (v1.alloc (.cells (f0 (w.heap.size + 1) 0).vs.toArray 43)) = v2 at *
      generalize v1.heap.size = BF at *
      refine wpAnyH_ready (rs := [3]) (by kernel_rfl) (by simp) ?_
      refine AllReadyH.cons rfl (fun K hK => ?_) AllReadyH.nil
      rw [if_pos (by rfl)]
      go_simp
      refine (Check_str n g (fl1 BF (f0 (w.heap.size + 1) 0)) v2 HL3.out.nat HL3.out.gat (fl1_at (f0_at (HI.out.2.1.kept HV2.out)) HFB.out) (fun i _ => Nat.zero_le _) (fun k _ i hi => absurd hi (Nat.not_lt_zero _))).mono ?_
      rintro _ v9 ⟨ra, rb, rfl, hR, hb9⟩
      have HV9 := hid (Below.next HV2.out hb9)
      have HRB := hid (f0_yes HL3.out hR)
      refine hK.out _ _ HV9.out (fun _ => ?_)
      clear hK K hb9 hR
      refine wpAnyH_readsN [4, 5, 6] (rest := 2) rfl (by kernel_rfl) (by kernel_rfl) HV9.out ?_
      simp only [List.filterMap, List.getElem?_cons_zero, List.getElem?_cons_succ]
      go_big_quiet_step (fail)
      go_big_quiet_step (fail)
      go_big_quiet_step (fail)
      refine wpQuiet_nil ?_
      refine wpAnyH_ready (rs := [7]) (by kernel_rfl) (by simp) ?_
      refine AllReadyH.cons rfl (fun K hK => ?_) AllReadyH.nil
      rw [if_pos (by rfl)]
      go_simp
      refine hK.out _ _ HV9.out (fun _ => ?_)
      clear hK K
      refine wpAnyH_ready (rs := [8]) (by kernel_rfl) (by simp) ?_
      refine AllReadyH.cons rfl (fun K hK => ?_) AllReadyH.nil
      rw [if_pos (by rfl)]
      go_simp
      refine hK.out _ _ HV9.out (fun _ => ?_)
      clear hK K
      refine wpAnyH_done (by kernel_rfl) ?_ _
      refine ⟨(fun c hc => by cases hc), ?_⟩
      go_wp2
      go_meet
      case rel => exact ⟨rb, rfl, HRB.out, ⟨Below.next HI.out.1 HV9.out, HI.out.2.1.kept HV9.out, HI.out.2.2.kept HV9.out⟩⟩
    · rw [if_pos (by rfl)]
      have hrn := run_slice1_fn (f0 (w.heap.size + 1) 0) v0
      have hb9 := below_alloc v0 (.cells (f0 (w.heap.size + 1) 0).vs.toArray 43)
      have HFB := hid (show Blk (v0.alloc (.cells (f0 (w.heap.size + 1) 0).vs.toArray 43)) v0.heap.size (f0 (w.heap.size + 1) 0).vs 43 from Blk.new v0 _ _)
      have HV1 := hid (Below.next HV0.out hb9)
      refine wp_sliceI 26 1 #[(0, .tmp 15)] rfl #[(0, .agg (f0 (w.heap.size + 1) 0).vs.toArray)] (by kernel_rfl) hrn ?_
      refine hK.out _ _ HV1.out (fun _ => ?_)
      clear hK K hrn hb9
      generalize (v0.alloc (.cells (f0 (w.heap.size + 1) 0).vs.toArray 43)) = v1 at *
      generalize v0.heap.size = BF at *
      refine wpAnyH_ready (rs := [0]) (by kernel_rfl) (by simp) ?_
      refine AllReadyH.cons rfl (fun K hK => ?_) AllReadyH.nil
      rw [if_pos (by rfl)]
      go_simp
      refine (two10_any v1).mono ?_
      rintro _ v2 ⟨n, g, rfl, hL, hb9⟩
      have HBB := hid hb9
      have HV2 := hid (Below.next HV1.out hb9)
      have HL2 := hid hL
      refine hK.out _ _ HV2.out (fun _ => ?_)
      clear hK K hb9 hL
      have HFC := hid (HFB.out.kept HBB.out)
      refine wpAnyH_ready (rs := [3]) (by kernel_rfl) (by simp) ?_
      refine AllReadyH.cons rfl (fun K hK => ?_) AllReadyH.nil
      rw [if_pos (by rfl)]
      go_simp
      refine (Check_str n g (fl1 BF (f0 (w.heap.size + 1) 0)) v2 HL2.out.nat HL2.out.gat (fl1_at (f0_at (HI.out.2.1.kept HV2.out)) HFC.out) (fun i _ => Nat.zero_le _) (fun k _ i hi => absurd hi (Nat.not_lt_zero _))).mono ?_
      rintro _ v9 ⟨ra, rb, rfl, hR, hb9⟩
      have HV9 := hid (Below.next HV2.out hb9)
      have HRB := hid (f0_yes HL2.out hR)
      refine hK.out _ _ HV9.out (fun _ => ?_)
      clear hK K hb9 hR
      refine wpAnyH_readsN [4, 5, 6] (rest := 2) rfl (by kernel_rfl) (by kernel_rfl) HV9.out ?_
      simp only [List.filterMap, List.getElem?_cons_zero, List.getElem?_cons_succ]
      go_big_quiet_step (fail)
      go_big_quiet_step (fail)
      go_big_quiet_step (fail)
      refine wpQuiet_nil ?_
      refine wpAnyH_ready (rs := [7]) (by kernel_rfl) (by simp) ?_
      refine AllReadyH.cons rfl (fun K hK => ?_) AllReadyH.nil
      rw [if_pos (by rfl)]
      go_simp
      refine hK.out _ _ HV9.out (fun _ => ?_)
      clear hK K
      refine wpAnyH_ready (rs := [8]) (by kernel_rfl) (by simp) ?_
      refine AllReadyH.cons rfl (fun K hK => ?_) AllReadyH.nil
      rw [if_pos (by rfl)]
      go_simp
      refine hK.out _ _ HV9.out (fun _ => ?_)
      clear hK K
      refine wpAnyH_done (by kernel_rfl) ?_ _
      refine ⟨(fun c hc => by cases hc), ?_⟩
      go_wp2
      go_meet
      case rel => exact ⟨rb, rfl, HRB.out, ⟨Below.next HI.out.1 HV9.out, HI.out.2.1.kept HV9.out, HI.out.2.2.kept HV9.out⟩⟩
  case rest =>
    obtain ⟨rb, rfl, rfl, hI⟩ := hcut
    clear HI
    have HI0 := hid hI.out
    clear hI
    have x15 := HI0.out.2.2.cell 15 (v := .int .i64 0) rfl
    have g15 := HI0.out.2.2.frozen 15
    go_upto_region 5 with fail
    have W1 := wrote_setCell (i := 15) HI0.out.2.2 (.int .i64 (-1))
    have HI := hid (show Below w.heap.size w (wc.setCell ⟨w.heap.size + 2, 15, none⟩ (.int .i64 (-1))) ∧ Blk (wc.setCell ⟨w.heap.size + 2, 15, none⟩ (.int .i64 (-1))) (w.heap.size + 1) (leafT 1 0).vs 39 ∧ Blk (wc.setCell ⟨w.heap.size + 2, 15, none⟩ (.int .i64 (-1))) (w.heap.size + 2) (f0 (w.heap.size + 1) (-1)).vs 43 from ⟨W1.below (by omega) HI0.out.1, W1.keep HI0.out.2.1 (by omega), W1.blk⟩)
    clear W1 x15 g15 HI0
    generalize (wc.setCell ⟨w.heap.size + 2, 15, none⟩ (.int .i64 (-1))) = w2 at *
    go_cut [6] (fun b wx => ∃ rb : Int, b = .int .i64 rb ∧ rb = 11 ∧ Hid (Below w.heap.size w wx ∧ Blk wx (w.heap.size + 1) (leafT 1 0).vs 39 ∧ Blk wx (w.heap.size + 2) (f0 (w.heap.size + 1) (-1)).vs 43))
    case first =>
      have hCF : ∀ q, (∃ x : Wd (fun q => Below w2.heap.size w2 q), q = x.w) → q.rangeAt (w.heap.size + 2) 0 (f0 (w.heap.size + 1) (-1)).vs := by rintro _ ⟨x, rfl⟩; exact (HI.out.2.2.kept x.2).range
      have hNE : Nonempty (Wd (fun q => Below w2.heap.size w2 q)) := ⟨⟨_, Below.refl _ _⟩⟩
      refine wp_region_readsMN (fun q => Below w2.heap.size w2 q) [1] 8 (by kernel_rfl) rfl (by kernel_rfl) (hj_of (by kernel_rfl)) ((Below.refl _ _).drew) ?_
      simp only [List.filterMap, List.getElem?_cons_zero, List.getElem?_cons_succ]
      go_big_quiet_want
      refine quiet_load_row 43 (.tmp 2) rfl _ 0 (by kernel_rfl) (f0 (w.heap.size + 1) (-1)).vs _ hCF Try.underlying43 rfl (by kernel_rfl) ?_
      simp only [Act.put, List.setIfInBounds_toArray, List.set_cons_succ, List.set_cons_zero]
      go_big_quiet_on
      refine wpQuiet_nil ?_
      have HV0 := hid (show Below w2.heap.size w2 w2.drew from (Below.refl _ _).drew)
      generalize w2.drew = v0 at *
      refine wpAnyH_ready (rs := [0, 2]) (by kernel_rfl) (by simp) ?_
      refine AllReadyH.cons rfl (fun K hK => ?_) (AllReadyH.cons rfl (fun K hK => ?_) AllReadyH.nil)
      · rw [if_pos (by rfl)]
        go_simp
        refine (two10_any v0).mono ?_
        rintro _ v1 ⟨n, g, rfl, hL, hb9⟩
        have HV1 := hid (Below.next HV0.out hb9)
        have HL2 := hid hL
        refine hK.out _ _ HV1.out (fun _ => ?_)
        clear hK K hb9 hL
        refine wpAnyH_ready (rs := [2]) (by kernel_rfl) (by simp) ?_
        refine AllReadyH.cons rfl (fun K hK => ?_) AllReadyH.nil
        rw [if_pos (by rfl)]
        have hrn := run_slice1_fn (f0 (w.heap.size + 1) (-1)) v1
        have hb9 := below_alloc v1 (.cells (f0 (w.heap.size + 1) (-1)).vs.toArray 43)
        have HFB := hid (show Blk (v1.alloc (.cells (f0 (w.heap.size + 1) (-1)).vs.toArray 43)) v1.heap.size (f0 (w.heap.size + 1) (-1)).vs 43 from Blk.new v1 _ _)
        have HV2 := hid (Below.next HV1.out hb9)
        have HL3 := hid (show Lt2 n g _ from HL2.out.kept hb9)
        refine wp_sliceI 26 1 #[(0, .tmp 23)] rfl #[(0, .agg (f0 (w.heap.size + 1) (-1)).vs.toArray)] (by kernel_rfl) hrn ?_
        refine hK.out _ _ HV2.out (fun _ => ?_)
        clear hK K hrn hb9
        generalize (v1.alloc (.cells (f0 (w.heap.size + 1) (-1)).vs.toArray 43)) = v2 at *
        generalize v1.heap.size = BF at *
        refine wpAnyH_ready (rs := [3]) (by kernel_rfl) (by simp) ?_
        refine AllReadyH.cons rfl (fun K hK => ?_) AllReadyH.nil
        rw [if_pos (by rfl)]
        go_simp
        refine (Check_str n g (fl1 BF (f0 (w.heap.size + 1) (-1))) v2 HL3.out.nat HL3.out.gat (fl1_at (f0_at (HI.out.2.1.kept HV2.out)) HFB.out) (fun i _ => Nat.zero_le _) (fun k _ i hi => absurd hi (Nat.not_lt_zero _))).mono ?_
        rintro _ v9 ⟨ra, rb, rfl, hR, hb9⟩
        have HV9 := hid (Below.next HV2.out hb9)
        have HRB := hid (f0_no HL3.out hR)
        refine hK.out _ _ HV9.out (fun _ => ?_)
        clear hK K hb9 hR
        refine wpAnyH_readsN [4, 5, 6] (rest := 2) rfl (by kernel_rfl) (by kernel_rfl) HV9.out ?_
        simp only [List.filterMap, List.getElem?_cons_zero, List.getElem?_cons_succ]
        go_big_quiet_step (fail)
        go_big_quiet_step (fail)
        go_big_quiet_step (fail)
        refine wpQuiet_nil ?_
        refine wpAnyH_ready (rs := [7]) (by kernel_rfl) (by simp) ?_
        refine AllReadyH.cons rfl (fun K hK => ?_) AllReadyH.nil
        rw [if_pos (by rfl)]
        go_simp
        refine hK.out _ _ HV9.out (fun _ => ?_)
        clear hK K
        refine wpAnyH_ready (rs := [8]) (by kernel_rfl) (by simp) ?_
        refine AllReadyH.cons rfl (fun K hK => ?_) AllReadyH.nil
        rw [if_pos (by rfl)]
        go_simp
        refine hK.out _ _ HV9.out (fun _ => ?_)
        clear hK K
        refine wpAnyH_done (by kernel_rfl) ?_ _
        refine ⟨(fun c hc => by cases hc), ?_⟩
        go_wp2
        go_meet
        case rel => exact ⟨rb, rfl, HRB.out, ⟨Below.next HI.out.1 HV9.out, HI.out.2.1.kept HV9.out, HI.out.2.2.kept HV9.out⟩⟩
      · rw [if_pos (by rfl)]
        have hrn := run_slice1_fn (f0 (w.heap.size + 1) (-1)) v0
        have hb9 := below_alloc v0 (.cells (f0 (w.heap.size + 1) (-1)).vs.toArray 43)
        have HFB := hid (show Blk (v0.alloc (.cells (f0 (w.heap.size + 1) (-1)).vs.toArray 43)) v0.heap.size (f0 (w.heap.size + 1) (-1)).vs 43 from Blk.new v0 _ _)
        have HV1 := hid (Below.next HV0.out hb9)
        refine wp_sliceI 26 1 #[(0, .tmp 23)] rfl #[(0, .agg (f0 (w.heap.size + 1) (-1)).vs.toArray)] (by kernel_rfl) hrn ?_
        refine hK.out _ _ HV1.out (fun _ => ?_)
        clear hK K hrn hb9
        generalize (v0.alloc (.cells (f0 (w.heap.size + 1) (-1)).vs.toArray 43)) = v1 at *
        generalize v0.heap.size = BF at *
        refine wpAnyH_ready (rs := [0]) (by kernel_rfl) (by simp) ?_
        refine AllReadyH.cons rfl (fun K hK => ?_) AllReadyH.nil
        rw [if_pos (by rfl)]
        go_simp
        refine (two10_any v1).mono ?_
        rintro _ v2 ⟨n, g, rfl, hL, hb9⟩
        have HBB := hid hb9
        have HV2 := hid (Below.next HV1.out hb9)
        have HL2 := hid hL
        refine hK.out _ _ HV2.out (fun _ => ?_)
        clear hK K hb9 hL
        have HFC := hid (HFB.out.kept HBB.out)
        refine wpAnyH_ready (rs := [3]) (by kernel_rfl) (by simp) ?_
        refine AllReadyH.cons rfl (fun K hK => ?_) AllReadyH.nil
        rw [if_pos (by rfl)]
        go_simp
        refine (Check_str n g (fl1 BF (f0 (w.heap.size + 1) (-1))) v2 HL2.out.nat HL2.out.gat (fl1_at (f0_at (HI.out.2.1.kept HV2.out)) HFC.out) (fun i _ => Nat.zero_le _) (fun k _ i hi => absurd hi (Nat.not_lt_zero _))).mono ?_
        rintro _ v9 ⟨ra, rb, rfl, hR, hb9⟩
        have HV9 := hid (Below.next HV2.out hb9)
        have HRB := hid (f0_no HL2.out hR)
        refine hK.out _ _ HV9.out (fun _ => ?_)
        clear hK K hb9 hR
        refine wpAnyH_readsN [4, 5, 6] (rest := 2) rfl (by kernel_rfl) (by kernel_rfl) HV9.out ?_
        simp only [List.filterMap, List.getElem?_cons_zero, List.getElem?_cons_succ]
        go_big_quiet_step (fail)
        go_big_quiet_step (fail)
        go_big_quiet_step (fail)
        refine wpQuiet_nil ?_
        refine wpAnyH_ready (rs := [7]) (by kernel_rfl) (by simp) ?_
        refine AllReadyH.cons rfl (fun K hK => ?_) AllReadyH.nil
        rw [if_pos (by rfl)]
        go_simp
        refine hK.out _ _ HV9.out (fun _ => ?_)
        clear hK K
        refine wpAnyH_ready (rs := [8]) (by kernel_rfl) (by simp) ?_
        refine AllReadyH.cons rfl (fun K hK => ?_) AllReadyH.nil
        rw [if_pos (by rfl)]
        go_simp
        refine hK.out _ _ HV9.out (fun _ => ?_)
        clear hK K
        refine wpAnyH_done (by kernel_rfl) ?_ _
        refine ⟨(fun c hc => by cases hc), ?_⟩
        go_wp2
        go_meet
        case rel => exact ⟨rb, rfl, HRB.out, ⟨Below.next HI.out.1 HV9.out, HI.out.2.1.kept HV9.out, HI.out.2.2.kept HV9.out⟩⟩
    case rest =>
      obtain ⟨rb, rfl, rfl, hI⟩ := hcut
      have HI2 := hid hI.out
      clear hI HI
      go_wp2
      go_ret
      exact ⟨rfl, HI2.out.1⟩
end Go.Proofs.Ytbdhbgilaeldgaa

/- The statement IrAmong walked. -/
namespace Go.Proofs.Ytbdhbgilaeldgaa
open Go Go.RowKit

/-- The lattice's variable, and what is handed in. -/
structure Am (w : World) (n : Strs) (g : Grid) (l m : Fl) (u : World) : Prop where
  bl : Below w.heap.size w u
  L : Blk u w.heap.size [.slice n.ao n.len n.cap, .slice g.ao g.len g.cap] 25
  hn : n.At u
  hg : g.At u
  hl : l.At u
  hm : m.At u
theorem Am.kept {w : World} {n : Strs} {g : Grid} {l m : Fl} {u u' : World} (h : Am w n g l m u) (hb : Below u.heap.size u u') : Am w n g l m u' := ⟨Below.next h.bl hb, h.L.kept hb, h.hn.kept hb, h.hg.kept hb, h.hl.kept hb, h.hm.kept hb⟩
theorem am_new {w : World} {n : Strs} {g : Grid} {l m : Fl} (hn : n.At w) (hg : g.At w) (hl : l.At w) (hm : m.At w) : Am w n g l m (w.alloc (.cells #[.slice n.ao n.len n.cap, .slice g.ao g.len g.cap] 25)) := by
  have b := below_alloc w (.cells #[.slice n.ao n.len n.cap, .slice g.ao g.len g.cap] 25)
  exact ⟨b, Blk.new w _ _, hn.kept b, hg.kept b, hl.kept b, hm.kept b⟩
set_option maxRecDepth 100000 in
set_option maxHeartbeats 16000000 in
theorem irAmong_any (n : Strs) (g : Grid) (l m : Fl) (w : World) (hn : n.At w) (hg : g.At w) (hl : l.At w) (hm : m.At w) (f1 : l.ao = none → l.len = 0 ∧ l.cap = 0) (f2 : m.ao = none → m.len = 0 ∧ m.cap = 0) :
    Calls Try.prog 3 #[.agg #[.slice n.ao n.len n.cap, .slice g.ao g.len g.cap], .slice l.ao l.len l.cap, .slice m.ao m.len m.cap] w fun e w' => e = .returned (.bool true) ∧ Below w.heap.size w w' := by
  have HI := hid (am_new hn hg hl hm)
  have HF := hid (show (l.ao = none → l.len = 0 ∧ l.cap = 0) ∧ (m.ao = none → m.len = 0 ∧ m.cap = 0) from ⟨f1, f2⟩)
  clear hn hg hl hm f1 f2
  go_enter Try.func3, Try.ntmps3
  go_upto_region 1 with fail
  generalize (w.alloc (.cells #[.slice n.ao n.len n.cap, .slice g.ao g.len g.cap] 25)) = w1 at *
  go_cut [25] (fun c wx => ∃ r : Bool, c = .bool r ∧ Hid (r = false → (l.len ≤ 70 ∧ ∀ i, i < l.len → (l.ps i).caps.len ≤ 30) ∧ (m.len ≤ 70 ∧ ∀ i, i < m.len → (m.ps i).caps.len ≤ 30)) ∧ Hid (Am w n g l m wx))
  case first =>
    go_wp2_with fail
    refine Calls.mono (awake10_any w1) ?_
    rintro _ w2 ⟨rfl, hb2⟩
    have HI2 := hid (HI.out.kept hb2)
    clear hb2 HI
    have e0 := HI2.out.L.cell 0 rfl
    have e1 := HI2.out.L.cell 1 rfl
    go_wp2_with fail
    refine Calls.mono (few_any10 n g l w2 HI2.out.hn HI2.out.hg HI2.out.hl) ?_
    rintro _ w3 ⟨r1, rfl, hr1, hb3⟩
    have HI3 := hid (HI2.out.kept hb3)
    have HR1 := hid hr1
    clear hb3 HI2 hr1 e0 e1
    cases r1
    · go_wp2
      go_meet
      case rel => exact ⟨_, rfl, (fun h => by cases h), HI3.out⟩
    have e0 := HI3.out.L.cell 0 rfl
    have e1 := HI3.out.L.cell 1 rfl
    go_wp2_with fail
    refine Calls.mono (few_any10 n g m w3 HI3.out.hn HI3.out.hg HI3.out.hm) ?_
    rintro _ w4 ⟨r2, rfl, hr2, hb4⟩
    have HI4 := hid (HI3.out.kept hb4)
    have HR2 := hid hr2
    clear hb4 HI3 hr2 e0 e1
    cases r2
    · go_wp2
      go_meet
      case rel => exact ⟨_, rfl, (fun h => by cases h), HI4.out⟩
    · go_wp2
      go_meet
      case rel => exact ⟨_, rfl, (fun _ => ⟨HR1.out (by simp), HR2.out (by simp)⟩), HI4.out⟩
  case rest =>
    obtain ⟨r, rfl, hr, hI⟩ := hcut
    clear HI
    have HI := hid hI.out
    clear hI
    cases r
    · have HC := hid (hr.out rfl)
      clear hr
      have hE := World.ownsRow_nil wc wc.heap.size 43 16
      go_upto_region 5 with ((at_builtin; refine wpList_append_any Try.underlying26 Try.infoIrFn rfl (by decide) rfl _ _ rfl wc.heap.size (.slice none 0 0) 0 [] rfl hE l.ao l.len l.cap (rowL l) rfl HF.out.1 (rowL_len l) (rowL_cell HI.out.hl) (rowL_one l) (by have := HC.out.1.1; unfold maxLen; omega) (by have := HC.out.1.1; omega) (Nat.le_refl _) ?_; intro v7 w5 h5 g5; have HO5 : Hid (w5.ownsRow wc.heap.size 43 16 v7 l.len (rowL l) ∧ Below wc.heap.size wc w5) := ⟨by rw [Nat.zero_add] at h5; exact h5, gb_bel (Below.refl _ _) g5 (fun k hk => by cases hk)⟩; obtain ⟨a7, c7, hv7⟩ := owform HO5.out.1; subst hv7; clear h5 g5))
      have HI5 := hid (HI.out.kept HO5.out.2)
      have hO5 := HO5.out.1
      go_upto_region 6 with ((at_builtin; refine wpList_append_any Try.underlying26 Try.infoIrFn rfl (by decide) rfl _ _ rfl wc.heap.size _ l.len (rowL l) rfl hO5 m.ao m.len m.cap (rowL m) rfl HF.out.2 (rowL_len m) (rowL_cell HI5.out.hm) (rowL_one m) (by have := HC.out.1.1; have := HC.out.2.1; unfold maxLen; omega) (by have := HC.out.1.1; have := HC.out.2.1; omega) HO5.out.2.size ?_; intro v8 w6 h6 g6; have HO6 : Hid (w6.ownsRow wc.heap.size 43 16 v8 (l.len + m.len) (rowL l ++ rowL m) ∧ Below wc.heap.size wc w6) := ⟨h6, gb_bel HO5.out.2 g6 (fun k hk => (owb HO5.out.1 hk).1)⟩; obtain ⟨a8, c8, hv8⟩ := owform HO6.out.1; subst hv8; clear h6 g6))
      have HI6 := hid (HI.out.kept HO6.out.2)
      have HA : Hid (∃ s : Fl, (.slice a8 (l.len + m.len) c8 : Value) = .slice s.ao s.len s.cap ∧ s.At w6 ∧ s.len = l.len + m.len ∧ s.ps = fun i => if i < l.len then l.ps i else m.ps (i - l.len)) := by
        refine Fl.of_own (base := wc.heap.size) ?_ (by have := HC.out.1.1; have := HC.out.2.1; omega) (fun i hi => ?_)
        · have e : (fun i => ((fun i => if i < l.len then l.ps i else m.ps (i - l.len)) i).vs) = fun i => if i < l.len then (l.ps i).vs else (m.ps (i - l.len)).vs := by
            funext i
            show (if i < l.len then l.ps i else m.ps (i - l.len)).vs = _
            split <;> rfl
          rw [e, flatN_app (fun i => (l.ps i).vs) (fun i => (m.ps i).vs) l.len m.len]
          exact HO6.out.1
        · show (if i < l.len then l.ps i else m.ps (i - l.len)).At w6
          split
          · exact HI6.out.hl.part i (by assumption)
          · exact HI6.out.hm.part _ (by omega)
      clear hE hO5 HO5 HI5 HO6 HI
      obtain ⟨L, hL, hLA, hLl, hLp⟩ := HA.out
      clear HA
      injection hL with hL1 hL2 hL3
      subst hL1 hL3
      rw [hL2]
      have HLL := hid (show L.At w6 ∧ L.len = l.len + m.len ∧ L.ps = fun i => if i < l.len then l.ps i else m.ps (i - l.len) from ⟨hLA, hLl, hLp⟩)
      clear hLA hLl hLp hL2
      have e0 := HI6.out.L.cell 0 rfl
      have e1 := HI6.out.L.cell 1 rfl
      go_wp2_with fail
      refine Calls.mono (Check_full n g l w6 HI6.out.hn HI6.out.hg HI6.out.hl (fun i hi => by have := HC.out.1.2 i hi; omega)) ?_
      rintro _ w7 ⟨k, e, rfl, hck, hb7⟩
      have HI7 := hid (HI6.out.kept hb7)
      have HL7 := hid (HLL.out.1.kept hb7)
      have HK := hid hck
      clear e0 e1 hb7 HI6 hck
      have e0 := HI7.out.L.cell 0 rfl
      have e1 := HI7.out.L.cell 1 rfl
      go_wp2_with fail
      refine Calls.mono (Check_full n g L w7 HI7.out.hn HI7.out.hg HL7.out (fun i hi => by
        have h1 := HLL.out.2.1
        rw [HLL.out.2.2]
        show (if i < l.len then l.ps i else m.ps (i - l.len)).caps.len ≤ _
        split
        · have := HC.out.1.2 i (by assumption); omega
        · have := HC.out.2.2 (i - l.len) (by omega); omega)) ?_
      rintro _ w8 ⟨k', e', rfl, hck', hb8⟩
      have HI8 := hid (HI7.out.kept hb8)
      have HM := hid (among_math (fun i hi => by rw [HLL.out.2.2]; exact if_pos hi) (by have := HLL.out.2.1; omega) HK.out hck')
      clear e0 e1 hb8 HI7 hck' HK HL7
      cases d1 : (e == 9)
      · cases d2 : (e' == 9)
        · have HM2 : Hid ((e = 11 ∧ e' = 11 ∧ k' = k) ∨ (e = 0 ∧ (e' = 0 ∨ (e' = 11 ∧ (l.len : Int) ≤ k')))) := by
            rcases HM.out with h | h
            · rcases h with h | h
              · rw [h] at d1; cases d1
              · rw [h] at d2; cases d2
            · exact h
          clear HM
          rcases HM2.out with ⟨h1, h2, h3⟩ | ⟨h1, h2⟩
          · subst h1 h2 h3
            clear HM2 d1 d2
            have x1 : (k' == k') = true := by simp
            go_wp2
            go_ret
            exact ⟨rfl, HI8.out.bl⟩
          · subst h1
            clear HM2
            rcases h2 with h2 | ⟨h2, h3⟩
            · subst h2
              clear d1 d2
              go_wp2
              go_ret
              exact ⟨rfl, HI8.out.bl⟩
            · subst h2
              clear d1 d2
              have x3 : decide ((l.len : Int) ≤ k') = true := by simpa using h3
              go_wp2
              go_ret
              exact ⟨rfl, HI8.out.bl⟩
        · clear HM
          go_wp2
          go_ret
          exact ⟨rfl, HI8.out.bl⟩
      · clear HM
        go_wp2
        go_ret
        exact ⟨rfl, HI8.out.bl⟩
    · clear hr
      go_wp2_with fail
      refine Calls.mono (awake10_any wc) ?_
      rintro _ w2 ⟨rfl, hb2⟩
      have HI2 := hid (HI.out.kept hb2)
      clear hb2 HI
      go_wp2
      go_ret
      exact ⟨rfl, HI2.out.bl⟩
end Go.Proofs.Ytbdhbgilaeldgaa

/- A lattice that comes in, opened into its names and its table. -/
namespace Go.Proofs.Ytbdhbgilaeldgaa
open Go.ChangeShapes Go.WideShapes Go.ChangeAt Go.RowKit Go.Deep Go.Joins

theorem Try.own : ownKnob Try.prog.godebug = none := by kernel_rfl
theorem Try.laidOut : laidOutB Try.prog = true := by kernel_rfl
theorem Try.cellsString : Try.prog.cellsOf 9 = 1 := by kernel_rfl
theorem Try.cellsBool : Try.prog.cellsOf 4 = 1 := by kernel_rfl
theorem Try.cellsRow : Try.prog.cellsOf 58 = 1 := by kernel_rfl
theorem Try.cellsLat : Try.prog.cellsOf 25 = 2 := by kernel_rfl
theorem addr_plain (b off i : Nat) : (⟨b, off, none⟩ : Addr).add i = ⟨b, off + i, none⟩ := by unfold Addr.add; split <;> simp_all

section
variable {H : Type} {enc : TypeId × Value → H} {W : World} {base : Nat}

set_option maxRecDepth 100000 in
theorem open_strs {fuel : Nat} {v : Value} {x : DataW H × List MemPlace} (h : DataW.trod enc Try.prog W base (fun _ => true) true fuel 22 [v] = some x) :
    ∃ n : Strs, v = .slice n.ao n.len n.cap ∧ n.At W := by
  rcases open_strings Try.underlying22 Try.underlying9 Try.cellsString h with ⟨hcs, _⟩ | ⟨a, len, cap, ss, hcs, _, hl, hm, hz, _, hcell, hws⟩
  · exact ⟨⟨none, 0, 0, 0, 0, fun _ => ByteArray.empty⟩, by simpa using hcs, ⟨Nat.le_refl _, fun h => absurd h (Nat.lt_irrefl _), Nat.zero_le _, fun _ h => absurd h (Nat.not_lt_zero _), fun _ h => absurd h (Nat.not_lt_zero _)⟩⟩
  · have hv : v = .slice (some a) len cap := by simpa using hcs
    simp only [if_true] at hz
    unfold maxLen at hm hws
    refine ⟨⟨some a, a.block, a.off, len, cap, fun i => ss.getD i ByteArray.empty⟩, hv, ⟨hl, fun hp => ?_, Nat.le_trans hl hm, fun i hi => ?_, fun i hi => ?_⟩⟩
    · have hp' : 0 < len := hp
      have hs := World.cell?_spot (hcell 0 (by omega))
      obtain ⟨ab, ao, asp⟩ := a
      have : asp = none := by simpa [Addr.add] using hs
      subst this; rfl
    · have hi' : i < len := hi
      have hs := World.cell?_spot (hcell 0 (by omega))
      obtain ⟨ab, ao, asp⟩ := a
      have : asp = none := by simpa [Addr.add] using hs
      subst this
      have := hcell i (by omega)
      rw [addr_plain] at this
      exact this
    · have hi' : i < len := hi
      have hmem : ss.getD i ByteArray.empty ∈ ss := by
        rw [List.getD_eq_getElem?_getD, List.getElem?_eq_getElem (by omega)]
        exact List.getElem_mem _
      exact hws _ hmem

set_option maxRecDepth 100000 in
theorem open_grid {fuel : Nat} {v : Value} {x : DataW H × List MemPlace} (h : DataW.trod enc Try.prog W base (fun _ => true) true fuel 23 [v] = some x) :
    ∃ g : Grid, v = .slice g.ao g.len g.cap ∧ g.At W := by
  rcases open_bool_rows Try.underlying23 Try.underlying58 Try.underlying4 Try.cellsRow Try.cellsBool h with ⟨hcs, _⟩ | ⟨a, len, cap, A, L, C, B, hcs, _, hl, hm, _, hrows⟩
  · exact ⟨⟨none, 0, 0, 0, 0, fun _ => none, fun _ => 0, fun _ => 0, fun _ => 0, fun _ => 0, fun _ _ => false⟩, by simpa using hcs,
      ⟨Nat.le_refl _, fun h => absurd h (Nat.lt_irrefl _), Nat.zero_le _, fun _ h => absurd h (Nat.not_lt_zero _), fun _ h => absurd h (Nat.not_lt_zero _), fun _ h => absurd h (Nat.not_lt_zero _), fun _ h => absurd h (Nat.not_lt_zero _)⟩⟩
  · have hv : v = .slice (some a) len cap := by simpa using hcs
    unfold maxLen at hm
    have hadr : ∀ r, r < len → 0 < L r → A r = some ⟨((A r).getD default).block, ((A r).getD default).off, none⟩ ∧ ∀ c, c < L r → W.cell? ⟨((A r).getD default).block, ((A r).getD default).off + c, none⟩ = some (.bool (B r c)) := fun r hr hp => by
      obtain ⟨_, h1, _, h3, h4⟩ := hrows r (by omega)
      cases hA : A r with
      | none => have := h3 hA; omega
      | some a' =>
        obtain ⟨ab, ao, asp⟩ := a'
        obtain ⟨_, hcell⟩ := h4 _ hA
        have has : asp = none := by simpa [Addr.add] using World.cell?_spot (hcell 0 (by omega))
        subst has
        exact ⟨rfl, fun c hc => by have := hcell c (by omega); rwa [addr_plain] at this⟩
    have hspot : 0 < len → a = ⟨a.block, a.off, none⟩ := fun hp => by
      have hs := World.cell?_spot (hrows 0 (by omega)).1
      obtain ⟨ab, ao, asp⟩ := a
      have : asp = none := by simpa [Addr.add] using hs
      subst this; rfl
    refine ⟨⟨some a, a.block, a.off, len, cap, A, L, C, fun r => ((A r).getD default).block, fun r => ((A r).getD default).off, B⟩, hv, ⟨hl, fun hp => congrArg some (hspot hp), Nat.le_trans hl hm, fun r hr => ?_, fun r hr => ?_, fun r hr hp => (hadr r hr hp).1, fun r hr c hc => (hadr r hr (Nat.lt_of_le_of_lt (Nat.zero_le _) hc)).2 c hc⟩⟩
    · have hr' : r < len := hr
      obtain ⟨_, h1, h2, _⟩ := hrows r (by omega)
      unfold maxLen at h2
      exact Nat.le_trans h1 h2
    · have hr' : r < len := hr
      have := (hrows r (by omega)).1
      rw [hspot (by omega), addr_plain] at this
      exact this

set_option maxRecDepth 100000 in
theorem open_lat {v : Value} {d : DataW H} {p : List MemPlace} {b0 : Nat} (hv : Value.okWide Try.prog W .any b0 25 v) (h : DataW.Trod enc Try.prog W base (fun _ => true) true 25 v d p) :
    ∃ (n : Strs) (g : Grid), v = .agg #[.slice n.ao n.len n.cap, .slice g.ao g.len g.cap] ∧ n.At W ∧ g.At W := by
  obtain ⟨c0, c1, y0, y1, m, rfl, _, _, hy0, hy1⟩ := open_agg2 Try.underlying25 (by kernel_rfl) Try.cellsLat hv h
  obtain ⟨n, rfl, hn⟩ := open_strs hy0
  obtain ⟨g, rfl, hg⟩ := open_grid hy1
  exact ⟨n, g, rfl, hn, hg⟩
end
end Go.Proofs.Ytbdhbgilaeldgaa

/- A type that comes in, opened. -/
namespace Go.Proofs.Ytbdhbgilaeldgaa
open Go.ChangeShapes Go.WideShapes Go.ChangeAt Go.RowKit Go.Deep Go.Joins

theorem Try.cellsInt' : Try.prog.cellsOf 3 = 1 := by kernel_rfl
theorem Try.cellsTys : Try.prog.cellsOf 37 = 1 := by kernel_rfl
theorem Try.cellsTy : Try.prog.cellsOf 39 = 5 := by kernel_rfl

section
variable {H : Type} {enc : TypeId × Value → H} {W : World} {base : Nat}

def Ty.cs (t : Ty) : List Value := [.int .i64 t.k, .int .i64 t.l, .slice t.ao t.len t.cap, .int .i64 t.h, .int .i64 t.e]

set_option maxRecDepth 100000 in
theorem open_ty : ∀ (fuel : Nat) (cs : List Value) (x : DataW H × List MemPlace), DataW.trod enc Try.prog W base (fun _ => true) true fuel 39 cs = some x → ∃ t : Ty, cs = t.cs ∧ t.At W := by
  intro fuel
  induction fuel using Nat.strongRecOn with
  | _ fuel ih =>
    intro cs x h
    obtain ⟨xs, n, rfl, _, hl, hlen, hf⟩ := DataW.trod_struct Try.underlying39 h
    rw [Try.cellsTy] at hl
    match cs, hl with
    | [c0, c1, c2, c3, c4], _ =>
      have hlen5 : xs.length = 5 := hlen
      match xs, hlen5 with
      | [y0, y1, y2, y3, y4], _ =>
        have f0 : DataW.trod enc Try.prog W base (fun _ => true) true n 3 [c0] = some y0 := by simpa [Try.cellsInt'] using hf 0 _ rfl
        have f1 : DataW.trod enc Try.prog W base (fun _ => true) true n 3 [c1] = some y1 := by simpa [Try.cellsInt'] using hf 1 _ rfl
        have f2 : DataW.trod enc Try.prog W base (fun _ => true) true n 37 [c2] = some y2 := by simpa [Try.cellsTys] using hf 2 _ rfl
        have f3 : DataW.trod enc Try.prog W base (fun _ => true) true n 3 [c3] = some y3 := by simpa [Try.cellsInt'] using hf 3 _ rfl
        have f4 : DataW.trod enc Try.prog W base (fun _ => true) true n 3 [c4] = some y4 := by simpa [Try.cellsInt'] using hf 4 _ rfl
        obtain ⟨k, q0, _⟩ := DataW.trod_int Try.underlying3 f0
        obtain ⟨l, q1, _⟩ := DataW.trod_int Try.underlying3 f1
        obtain ⟨hh, q3, _⟩ := DataW.trod_int Try.underlying3 f3
        obtain ⟨e, q4, _⟩ := DataW.trod_int Try.underlying3 f4
        simp only [List.cons.injEq, and_true] at q0 q1 q3 q4
        subst q0 q1 q3 q4
        rcases DataW.trod_slice Try.underlying37 f2 with ⟨hcs, _⟩ | ⟨a, len, cap, elems, rest, m, hm, hcs, _, _, hlc, hmx, hel, hx, _, _⟩
        · simp only [List.cons.injEq, and_true] at hcs
          subst hcs
          exact ⟨.mk k l hh e none 0 0 0 0 (fun _ => .dm), rfl, ⟨fun h => absurd h (Nat.lt_irrefl _), Nat.zero_le _, fun _ h => absurd h (Nat.not_lt_zero _)⟩⟩
        · simp only [List.cons.injEq, and_true] at hcs
          subst hcs hm
          unfold maxLen at hmx
          have each : ∀ i, i < len → ∃ t : Ty, (∀ j, j < 5 → W.cell? (a.add (i * 5 + j)) = t.cs[j]?) ∧ t.At W := by
            intro i hi
            have h1 := hx i hi
            rw [Try.cellsTy] at h1
            cases hc : W.cells? base (a.add (i * 5)) 5 with
            | none => rw [hc] at h1; simp at h1; omega
            | some cs' =>
              rw [hc] at h1
              have h2 : DataW.trod enc Try.prog W base (fun _ => true) true m 39 cs' = some elems[i] := by
                rw [List.getElem?_eq_getElem (by omega)] at h1
                simpa using h1
              obtain ⟨t, rfl, hA⟩ := ih m (by omega) cs' _ h2
              obtain ⟨_, _, hcell⟩ := World.cells?_some hc
              exact ⟨t, fun j hj => by rw [← hcell j hj, add_add], hA⟩
          have hspot : 0 < len → a = ⟨a.block, a.off, none⟩ := fun hp => by
            obtain ⟨t, ht, _⟩ := each 0 hp
            have hs := World.cell?_spot (a := a.add (0 * 5 + 0)) (v := .int .i64 t.k) (by rw [ht 0 (by omega)]; rfl)
            obtain ⟨ab, ao, asp⟩ := a
            have : asp = none := by simpa [Addr.add] using hs
            subst this; rfl
          refine ⟨.mk k l hh e (some a) a.block a.off len cap (fun i => if h : i < len then Classical.choose (each i h) else .dm), rfl, ⟨fun hp => congrArg some (hspot hp), by omega, fun i hi => ?_⟩⟩
          simp only [dif_pos hi]
          obtain ⟨ht, hA⟩ := Classical.choose_spec (each i hi)
          generalize Classical.choose (each i hi) = t at ht hA
          have ea := hspot (by omega)
          have get : ∀ j, j < 5 → W.cell? ⟨a.block, a.off + i * 5 + j, none⟩ = t.cs[j]? := fun j hj => by
            have := ht j hj
            rw [ea, addr_plain, ← Nat.add_assoc] at this
            exact this
          exact ⟨⟨get 0 (by omega), get 1 (by omega), get 2 (by omega), get 3 (by omega), get 4 (by omega)⟩, hA⟩
set_option maxRecDepth 100000 in
theorem open_type {v : Value} {d : DataW H} {p : List MemPlace} {b0 : Nat} (hv : Value.okWide Try.prog W .any b0 39 v) (h : DataW.Trod enc Try.prog W base (fun _ => true) true 39 v d p) :
    ∃ t : Ty, v = .agg #[.int .i64 t.k, .int .i64 t.l, .slice t.ao t.len t.cap, .int .i64 t.h, .int .i64 t.e] ∧ t.At W := by
  obtain ⟨cs, rfl, _⟩ := okWide_struct Try.underlying39 hv
  obtain ⟨fuel, hf⟩ := h
  obtain ⟨t, ht, hA⟩ := open_ty fuel _ _ hf
  refine ⟨t, ?_, hA⟩
  have : cs.toList = t.cs := by simpa [Value.cells] using ht
  obtain ⟨l⟩ := cs
  have e : l = t.cs := this
  rw [e]; rfl

end
end Go.Proofs.Ytbdhbgilaeldgaa
