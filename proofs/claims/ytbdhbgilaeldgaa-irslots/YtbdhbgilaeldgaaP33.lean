/- Layer 10: awake. -/
import Derived.Test.YtbdhbgilaeldgaaP32
import Derived.Test.YtbdhbgilaeldgaaP31
import Derived.Test.YtbdhbgilaeldgaaP6
namespace Go.Proofs.Ytbdhbgilaeldgaa
open Go Go.RowKit

theorem Lt2.kept {n : Strs} {g : Grid} {w w' : World} (h : Lt2 n g w) (hb : Below w.heap.size w w') : Lt2 n g w' := ⟨h.nat.kept hb, h.gat.kept hb, h.fd, h.two, h.le, h.rows⟩
def f0 (B : Nat) (out : Int) : Fc := ⟨leafT 1 0, leafT 1 0, leafT 0 0, 0, -1, .mk 0 0 0 0 (some ⟨B, 0, none⟩) B 0 1 1 (fun _ => leafT 1 0), Ns.nl, out⟩
theorem f0_at {w : World} {B : Nat} {out : Int} (hb : Blk w B (leafT 1 0).vs 39) : (f0 B out).At w := by
  refine ⟨leaf_at _ _ _, leaf_at _ _ _, leaf_at _ _ _, ⟨fun _ => rfl, by decide, fun i hi => ?_⟩, Ns.nl_at w, Nat.le_refl 1⟩
  have h2 : i = 0 := by omega
  subst h2
  exact ⟨range_C5 hb.range, leaf_at _ _ _⟩
theorem f0_sf {n : Strs} {g : Grid} {w : World} (h : Lt2 n g w) (B : Nat) (out : Int) : Sf n g (f0 B out) (fun _ => 0) := by
  obtain ⟨m, hm, hml, _⟩ := bot_is h.fd
  have h0 : 0 < n.len := by rw [h.two]; omega
  refine ⟨h.fd, ?_, rfl, Nat.le_refl 1, by show 1 ≤ 250; decide, fun _ _ => rfl, fun _ _ => h0, rfl, Nat.zero_le _, fun i hi => absurd hi (Nat.not_lt_zero _)⟩
  rw [hm]
  exact fun_okB' h.fd h0 h0 h0 hml
theorem f0_yes {n : Strs} {g : Grid} {w : World} {B BF : Nat} {a b : Int} (h : Lt2 n g w) (hR : ChkR n g (fl1 BF (f0 B 0)) a b) : b = 0 := by
  obtain ⟨m, hm, hml, hlow⟩ := bot_is h.fd
  have hs := f0_sf h B 0
  have h0 : 0 < n.len := by rw [h.two]; omega
  have hl := hs.lf hm hml hlow BF
  refine ((chk1 hR (by rw [hs.hld]; rfl)).1 ?_).2
  show (jdg n g (fl1 BF (f0 B 0)) 0).ends (jdg n g (fl1 BF (f0 B 0)) 0).start = true
  have e : (jdg n g (fl1 BF (f0 B 0)) 0).start = ⟨(m : Int), -1, fun i => decide (i < 1), false⟩ := by
    show (⟨botI n g, -1, fun i => decide (i < 1 + 0), false⟩ : Sta) = _
    rw [hm]
  rw [e, hl.ends (o := 0) (rs := 0) hml (by show 0 < 1; omega) h0 rfl rfl (Or.inl rfl) rfl]
  show g.B (Jn g 0 m) 0 = true
  rw [jn_ge h.fd h0 hml (hlow 0 h0)]
  exact lq_refl h.fd h0
theorem f0_no {n : Strs} {g : Grid} {w : World} {B BF : Nat} {a b : Int} (h : Lt2 n g w) (hR : ChkR n g (fl1 BF (f0 B (-1))) a b) : b = 11 := by
  have hs := f0_sf h B (-1)
  exact ((chk1 hR (by rw [hs.hld]; rfl)).2 rfl).2
theorem Try.infoFn : (Try.prog.info? 43).map (fun i => (i.zero, i.size, i.bytes)) = some (some (.agg zFv.toArray), 16, 208) := by kernel_rfl
theorem fill1_fn (t : Fc) : Instr.fill (fun i => some (i * 16, 16)) (Array.map (fun x => zFv[x % zFv.length]?.getD default) (Array.range 16)) [(0, Value.agg t.vs.toArray)] = some t.vs.toArray := by kernel_rfl
theorem run_slice1_fn (t : Fc) (w : World) : (Instr.buildSlice 26 1 #[(0, .agg t.vs.toArray)]).run Try.prog w = .ok (.slice (some ⟨w.heap.size, 0, none⟩) 1 1) (w.alloc (.cells t.vs.toArray 43)) := by
  obtain ⟨i0, hi, hz0, hz1, hz2⟩ := info_parts Try.infoFn
  simp [Instr.buildSlice, run_underlying Try.underlying26, sizeOf, typeInfo, hi, hz0, hz1, zeroValue, newRow, Value.cells, fill1_fn]
set_option maxRecDepth 100000 in
set_option maxHeartbeats 8000000 in
theorem awake10_any (w : World) : Calls Try.prog 7 #[] w fun e w' => e = .returned (.bool true) ∧ Below w.heap.size w w' := by
  have H := allocs_heap [.cells (leafT 1 0).vs.toArray 39, .cells (leafT 1 0).vs.toArray 39, .cells (f0 (w.heap.size + 1) 0).vs.toArray 43] w
  have B0 := allocs_below [.cells (leafT 1 0).vs.toArray 39, .cells (leafT 1 0).vs.toArray 39, .cells (f0 (w.heap.size + 1) 0).vs.toArray 43] w
  simp only [List.foldl] at H B0
  have HI := hid (show Below w.heap.size w _ ∧ Blk _ (w.heap.size + 1) (leafT 1 0).vs 39 ∧ Blk _ (w.heap.size + 2) (f0 (w.heap.size + 1) 0).vs 43 from ⟨B0, H 1 (by simp), H 2 (by simp)⟩)
  clear H B0
  replace HI : Hid (Below w.heap.size w (((w.alloc (.cells #[.int .i64 1, .int .i64 0, .slice none 0 0, .int .i64 0, .int .i64 0] 39)).alloc (.cells #[.int .i64 1, .int .i64 0, .slice none 0 0, .int .i64 0, .int .i64 0] 39)).alloc (.cells #[.int .i64 1, .int .i64 0, .slice none 0 0, .int .i64 0, .int .i64 0, .int .i64 1, .int .i64 0, .slice none 0 0, .int .i64 0, .int .i64 0, .slice none 0 0, .int .i64 0, .int .i64 (-1), .slice (some ⟨w.heap.size + 1, 0, none⟩) 1 1, .slice none 0 0, .int .i64 0] 43)) ∧ Blk (((w.alloc (.cells #[.int .i64 1, .int .i64 0, .slice none 0 0, .int .i64 0, .int .i64 0] 39)).alloc (.cells #[.int .i64 1, .int .i64 0, .slice none 0 0, .int .i64 0, .int .i64 0] 39)).alloc (.cells #[.int .i64 1, .int .i64 0, .slice none 0 0, .int .i64 0, .int .i64 0, .int .i64 1, .int .i64 0, .slice none 0 0, .int .i64 0, .int .i64 0, .slice none 0 0, .int .i64 0, .int .i64 (-1), .slice (some ⟨w.heap.size + 1, 0, none⟩) 1 1, .slice none 0 0, .int .i64 0] 43)) (w.heap.size + 1) (leafT 1 0).vs 39 ∧ Blk (((w.alloc (.cells #[.int .i64 1, .int .i64 0, .slice none 0 0, .int .i64 0, .int .i64 0] 39)).alloc (.cells #[.int .i64 1, .int .i64 0, .slice none 0 0, .int .i64 0, .int .i64 0] 39)).alloc (.cells #[.int .i64 1, .int .i64 0, .slice none 0 0, .int .i64 0, .int .i64 0, .int .i64 1, .int .i64 0, .slice none 0 0, .int .i64 0, .int .i64 0, .slice none 0 0, .int .i64 0, .int .i64 (-1), .slice (some ⟨w.heap.size + 1, 0, none⟩) 1 1, .slice none 0 0, .int .i64 0] 43)) (w.heap.size + 2) (f0 (w.heap.size + 1) 0).vs 43) := HI
  go_enter Try.func7, Try.ntmps7
  go_upto_region 3 with fail
  generalize (((w.alloc (.cells #[.int .i64 1, .int .i64 0, .slice none 0 0, .int .i64 0, .int .i64 0] 39)).alloc (.cells #[.int .i64 1, .int .i64 0, .slice none 0 0, .int .i64 0, .int .i64 0] 39)).alloc (.cells #[.int .i64 1, .int .i64 0, .slice none 0 0, .int .i64 0, .int .i64 0, .int .i64 1, .int .i64 0, .slice none 0 0, .int .i64 0, .int .i64 0, .slice none 0 0, .int .i64 0, .int .i64 (-1), .slice (some ⟨w.heap.size + 1, 0, none⟩) 1 1, .slice none 0 0, .int .i64 0] 43)) = w1 at *
  go_cut [4] (fun b wx => ∃ rb : Int, b = .int .i64 rb ∧ rb = 0 ∧ Hid (Below w.heap.size w wx ∧ Blk wx (w.heap.size + 1) (leafT 1 0).vs 39 ∧ Blk wx (w.heap.size + 2) (f0 (w.heap.size + 1) 0).vs 43))
  case first =>
    have hCF : ∀ q, (∃ x : Wd (fun q => Below w1.heap.size w1 q), q = x.w) → q.rangeAt (w.heap.size + 2) 0 (f0 (w.heap.size + 1) 0).vs := by rintro _ ⟨x, rfl⟩; exact (HI.out.2.2.kept x.2).range
    have hNE : Nonempty (Wd (fun q => Below w1.heap.size w1 q)) := ⟨⟨_, Below.refl _ _⟩⟩
    refine wp_region_readsMN (fun q => Below w1.heap.size w1 q) [1] 8 (by kernel_rfl) rfl (by kernel_rfl) (hj_of (by kernel_rfl)) ((Below.refl _ _).drew) ?_
    simp only [List.filterMap, List.getElem?_cons_zero, List.getElem?_cons_succ]
    go_big_quiet_want
    refine quiet_load_row 43 (.tmp 2) rfl _ 0 (by kernel_rfl) (f0 (w.heap.size + 1) 0).vs _ hCF Try.underlying43 rfl (by kernel_rfl) ?_
    simp only [Act.put, List.setIfInBounds_toArray, List.set_cons_succ, List.set_cons_zero]
    go_big_quiet_on
    refine wpQuiet_nil ?_
    have HV0 := hid (show Below w1.heap.size w1 w1.drew from (Below.refl _ _).drew)
    generalize w1.drew = v0 at *
    refine wpAnyH_ready (rs := [0, 2]) (by kernel_rfl) (by simp) ?_
    refine AllReadyH.cons rfl (fun K hK => ?_) (AllReadyH.cons rfl (fun K hK => ?_) AllReadyH.nil)
    · rw [if_pos (by rfl)]
      go_simp
      refine (two10_any v0).mono ?_
      rintro _ v1 ⟨n, g, rfl, hL, hb9⟩
      have HV1 := hid (Below.next HV0.out hb9)
      have HL2 := hid hL
      refine hK.out _ _ HV1.out (fun _ => ?_)
      clear hK K hb9 hL
      refine wpAnyH_ready (rs := [2]) (by kernel_rfl) (by simp) ?_
      refine AllReadyH.cons rfl (fun K hK => ?_) AllReadyH.nil
      rw [if_pos (by rfl)]
      have hrn := run_slice1_fn (f0 (w.heap.size + 1) 0) v1
      have hb9 := below_alloc v1 (.cells (f0 (w.heap.size + 1) 0).vs.toArray 43)
      have HFB := hid (show Blk (v1.alloc (.cells (f0 (w.heap.size + 1) 0).vs.toArray 43)) v1.heap.size (f0 (w.heap.size + 1) 0).vs 43 from Blk.new v1 _ _)
      have HV2 := hid (Below.next HV1.out hb9)
      have HL3 := hid (show Lt2 n g _ from HL2.out.kept hb9)
      refine wp_sliceI 26 1 #[(0, .tmp 15)] rfl #[(0, .agg (f0 (w.heap.size + 1) 0).vs.toArray)] (by kernel_rfl) hrn ?_
      refine hK.out _ _ HV2.out (fun _ => ?_)
      clear hK K hrn hb9
      generalize (v1.alloc (.cells (f0 (w.heap.size + 1) 0).vs.toArray 43)) = v2 at *
      generalize v1.heap.size = BF at *
      refine wpAnyH_ready (rs := [3]) (by kernel_rfl) (by simp) ?_
      refine AllReadyH.cons rfl (fun K hK => ?_) AllReadyH.nil
      rw [if_pos (by rfl)]
      go_simp
      refine (Check_str n g (fl1 BF (f0 (w.heap.size + 1) 0)) v2 HL3.out.nat HL3.out.gat (fl1_at (f0_at (HI.out.2.1.kept HV2.out)) HFB.out) (fun i _ => Nat.zero_le _) (fun k _ i hi => absurd hi (Nat.not_lt_zero _))).mono ?_
      rintro _ v9 ⟨ra, rb, rfl, hR, hb9⟩
      have HV9 := hid (Below.next HV2.out hb9)
      have HRB := hid (f0_yes HL3.out hR)
      refine hK.out _ _ HV9.out (fun _ => ?_)
      clear hK K hb9 hR
      refine wpAnyH_readsN [4, 5, 6] (rest := 2) rfl (by kernel_rfl) (by kernel_rfl) HV9.out ?_
      simp only [List.filterMap, List.getElem?_cons_zero, List.getElem?_cons_succ]
      go_big_quiet_step (fail)
      go_big_quiet_step (fail)
      go_big_quiet_step (fail)
      refine wpQuiet_nil ?_
      refine wpAnyH_ready (rs := [7]) (by kernel_rfl) (by simp) ?_
      refine AllReadyH.cons rfl (fun K hK => ?_) AllReadyH.nil
      rw [if_pos (by rfl)]
      go_simp
      refine hK.out _ _ HV9.out (fun _ => ?_)
      clear hK K
      refine wpAnyH_ready (rs := [8]) (by kernel_rfl) (by simp) ?_
      refine AllReadyH.cons rfl (fun K hK => ?_) AllReadyH.nil
      rw [if_pos (by rfl)]
      go_simp
      refine hK.out _ _ HV9.out (fun _ => ?_)
      clear hK K
      refine wpAnyH_done (by kernel_rfl) ?_ _
      refine ⟨(fun c hc => by cases hc), ?_⟩
      go_wp2
      go_meet
      case rel => exact ⟨rb, rfl, HRB.out, ⟨Below.next HI.out.1 HV9.out, HI.out.2.1.kept HV9.out, HI.out.2.2.kept HV9.out⟩⟩
    · rw [if_pos (by rfl)]
      have hrn := run_slice1_fn (f0 (w.heap.size + 1) 0) v0
      have hb9 := below_alloc v0 (.cells (f0 (w.heap.size + 1) 0).vs.toArray 43)
      have HFB := hid (show Blk (v0.alloc (.cells (f0 (w.heap.size + 1) 0).vs.toArray 43)) v0.heap.size (f0 (w.heap.size + 1) 0).vs 43 from Blk.new v0 _ _)
      have HV1 := hid (Below.next HV0.out hb9)
      refine wp_sliceI 26 1 #[(0, .tmp 15)] rfl #[(0, .agg (f0 (w.heap.size + 1) 0).vs.toArray)] (by kernel_rfl) hrn ?_
      refine hK.out _ _ HV1.out (fun _ => ?_)
      clear hK K hrn hb9
      generalize (v0.alloc (.cells (f0 (w.heap.size + 1) 0).vs.toArray 43)) = v1 at *
      generalize v0.heap.size = BF at *
      refine wpAnyH_ready (rs := [0]) (by kernel_rfl) (by simp) ?_
      refine AllReadyH.cons rfl (fun K hK => ?_) AllReadyH.nil
      rw [if_pos (by rfl)]
      go_simp
      refine (two10_any v1).mono ?_
      rintro _ v2 ⟨n, g, rfl, hL, hb9⟩
      have HBB := hid hb9
      have HV2 := hid (Below.next HV1.out hb9)
      have HL2 := hid hL
      refine hK.out _ _ HV2.out (fun _ => ?_)
      clear hK K hb9 hL
      have HFC := hid (HFB.out.kept HBB.out)
      refine wpAnyH_ready (rs := [3]) (by kernel_rfl) (by simp) ?_
      refine AllReadyH.cons rfl (fun K hK => ?_) AllReadyH.nil
      rw [if_pos (by rfl)]
      go_simp
      refine (Check_str n g (fl1 BF (f0 (w.heap.size + 1) 0)) v2 HL2.out.nat HL2.out.gat (fl1_at (f0_at (HI.out.2.1.kept HV2.out)) HFC.out) (fun i _ => Nat.zero_le _) (fun k _ i hi => absurd hi (Nat.not_lt_zero _))).mono ?_
      rintro _ v9 ⟨ra, rb, rfl, hR, hb9⟩
      have HV9 := hid (Below.next HV2.out hb9)
      have HRB := hid (f0_yes HL2.out hR)
      refine hK.out _ _ HV9.out (fun _ => ?_)
      clear hK K hb9 hR
      refine wpAnyH_readsN [4, 5, 6] (rest := 2) rfl (by kernel_rfl) (by kernel_rfl) HV9.out ?_
      simp only [List.filterMap, List.getElem?_cons_zero, List.getElem?_cons_succ]
      go_big_quiet_step (fail)
      go_big_quiet_step (fail)
      go_big_quiet_step (fail)
      refine wpQuiet_nil ?_
      refine wpAnyH_ready (rs := [7]) (by kernel_rfl) (by simp) ?_
      refine AllReadyH.cons rfl (fun K hK => ?_) AllReadyH.nil
      rw [if_pos (by rfl)]
      go_simp
      refine hK.out _ _ HV9.out (fun _ => ?_)
      clear hK K
      refine wpAnyH_ready (rs := [8]) (by kernel_rfl) (by simp) ?_
      refine AllReadyH.cons rfl (fun K hK => ?_) AllReadyH.nil
      rw [if_pos (by rfl)]
      go_simp
      refine hK.out _ _ HV9.out (fun _ => ?_)
      clear hK K
      refine wpAnyH_done (by kernel_rfl) ?_ _
      refine ⟨(fun c hc => by cases hc), ?_⟩
      go_wp2
      go_meet
      case rel => exact ⟨rb, rfl, HRB.out, ⟨Below.next HI.out.1 HV9.out, HI.out.2.1.kept HV9.out, HI.out.2.2.kept HV9.out⟩⟩
  case rest =>
    obtain ⟨rb, rfl, rfl, hI⟩ := hcut
    clear HI
    have HI0 := hid hI.out
    clear hI
    have x15 := HI0.out.2.2.cell 15 (v := .int .i64 0) rfl
    have g15 := HI0.out.2.2.frozen 15
    go_upto_region 5 with fail
    have W1 := wrote_setCell (i := 15) HI0.out.2.2 (.int .i64 (-1))
    have HI := hid (show Below w.heap.size w (wc.setCell ⟨w.heap.size + 2, 15, none⟩ (.int .i64 (-1))) ∧ Blk (wc.setCell ⟨w.heap.size + 2, 15, none⟩ (.int .i64 (-1))) (w.heap.size + 1) (leafT 1 0).vs 39 ∧ Blk (wc.setCell ⟨w.heap.size + 2, 15, none⟩ (.int .i64 (-1))) (w.heap.size + 2) (f0 (w.heap.size + 1) (-1)).vs 43 from ⟨W1.below (by omega) HI0.out.1, W1.keep HI0.out.2.1 (by omega), W1.blk⟩)
    clear W1 x15 g15 HI0
    generalize (wc.setCell ⟨w.heap.size + 2, 15, none⟩ (.int .i64 (-1))) = w2 at *
    go_cut [6] (fun b wx => ∃ rb : Int, b = .int .i64 rb ∧ rb = 11 ∧ Hid (Below w.heap.size w wx ∧ Blk wx (w.heap.size + 1) (leafT 1 0).vs 39 ∧ Blk wx (w.heap.size + 2) (f0 (w.heap.size + 1) (-1)).vs 43))
    case first =>
      have hCF : ∀ q, (∃ x : Wd (fun q => Below w2.heap.size w2 q), q = x.w) → q.rangeAt (w.heap.size + 2) 0 (f0 (w.heap.size + 1) (-1)).vs := by rintro _ ⟨x, rfl⟩; exact (HI.out.2.2.kept x.2).range
      have hNE : Nonempty (Wd (fun q => Below w2.heap.size w2 q)) := ⟨⟨_, Below.refl _ _⟩⟩
      refine wp_region_readsMN (fun q => Below w2.heap.size w2 q) [1] 8 (by kernel_rfl) rfl (by kernel_rfl) (hj_of (by kernel_rfl)) ((Below.refl _ _).drew) ?_
      simp only [List.filterMap, List.getElem?_cons_zero, List.getElem?_cons_succ]
      go_big_quiet_want
      refine quiet_load_row 43 (.tmp 2) rfl _ 0 (by kernel_rfl) (f0 (w.heap.size + 1) (-1)).vs _ hCF Try.underlying43 rfl (by kernel_rfl) ?_
      simp only [Act.put, List.setIfInBounds_toArray, List.set_cons_succ, List.set_cons_zero]
      go_big_quiet_on
      refine wpQuiet_nil ?_
      have HV0 := hid (show Below w2.heap.size w2 w2.drew from (Below.refl _ _).drew)
      generalize w2.drew = v0 at *
      refine wpAnyH_ready (rs := [0, 2]) (by kernel_rfl) (by simp) ?_
      refine AllReadyH.cons rfl (fun K hK => ?_) (AllReadyH.cons rfl (fun K hK => ?_) AllReadyH.nil)
      · rw [if_pos (by rfl)]
        go_simp
        refine (two10_any v0).mono ?_
        rintro _ v1 ⟨n, g, rfl, hL, hb9⟩
        have HV1 := hid (Below.next HV0.out hb9)
        have HL2 := hid hL
        refine hK.out _ _ HV1.out (fun _ => ?_)
        clear hK K hb9 hL
        refine wpAnyH_ready (rs := [2]) (by kernel_rfl) (by simp) ?_
        refine AllReadyH.cons rfl (fun K hK => ?_) AllReadyH.nil
        rw [if_pos (by rfl)]
        have hrn := run_slice1_fn (f0 (w.heap.size + 1) (-1)) v1
        have hb9 := below_alloc v1 (.cells (f0 (w.heap.size + 1) (-1)).vs.toArray 43)
        have HFB := hid (show Blk (v1.alloc (.cells (f0 (w.heap.size + 1) (-1)).vs.toArray 43)) v1.heap.size (f0 (w.heap.size + 1) (-1)).vs 43 from Blk.new v1 _ _)
        have HV2 := hid (Below.next HV1.out hb9)
        have HL3 := hid (show Lt2 n g _ from HL2.out.kept hb9)
        refine wp_sliceI 26 1 #[(0, .tmp 23)] rfl #[(0, .agg (f0 (w.heap.size + 1) (-1)).vs.toArray)] (by kernel_rfl) hrn ?_
        refine hK.out _ _ HV2.out (fun _ => ?_)
        clear hK K hrn hb9
        generalize (v1.alloc (.cells (f0 (w.heap.size + 1) (-1)).vs.toArray 43)) = v2 at *
        generalize v1.heap.size = BF at *
        refine wpAnyH_ready (rs := [3]) (by kernel_rfl) (by simp) ?_
        refine AllReadyH.cons rfl (fun K hK => ?_) AllReadyH.nil
        rw [if_pos (by rfl)]
        go_simp
        refine (Check_str n g (fl1 BF (f0 (w.heap.size + 1) (-1))) v2 HL3.out.nat HL3.out.gat (fl1_at (f0_at (HI.out.2.1.kept HV2.out)) HFB.out) (fun i _ => Nat.zero_le _) (fun k _ i hi => absurd hi (Nat.not_lt_zero _))).mono ?_
        rintro _ v9 ⟨ra, rb, rfl, hR, hb9⟩
        have HV9 := hid (Below.next HV2.out hb9)
        have HRB := hid (f0_no HL3.out hR)
        refine hK.out _ _ HV9.out (fun _ => ?_)
        clear hK K hb9 hR
        refine wpAnyH_readsN [4, 5, 6] (rest := 2) rfl (by kernel_rfl) (by kernel_rfl) HV9.out ?_
        simp only [List.filterMap, List.getElem?_cons_zero, List.getElem?_cons_succ]
        go_big_quiet_step (fail)
        go_big_quiet_step (fail)
        go_big_quiet_step (fail)
        refine wpQuiet_nil ?_
        refine wpAnyH_ready (rs := [7]) (by kernel_rfl) (by simp) ?_
        refine AllReadyH.cons rfl (fun K hK => ?_) AllReadyH.nil
        rw [if_pos (by rfl)]
        go_simp
        refine hK.out _ _ HV9.out (fun _ => ?_)
        clear hK K
        refine wpAnyH_ready (rs := [8]) (by kernel_rfl) (by simp) ?_
        refine AllReadyH.cons rfl (fun K hK => ?_) AllReadyH.nil
        rw [if_pos (by rfl)]
        go_simp
        refine hK.out _ _ HV9.out (fun _ => ?_)
        clear hK K
        refine wpAnyH_done (by kernel_rfl) ?_ _
        refine ⟨(fun c hc => by cases hc), ?_⟩
        go_wp2
        go_meet
        case rel => exact ⟨rb, rfl, HRB.out, ⟨Below.next HI.out.1 HV9.out, HI.out.2.1.kept HV9.out, HI.out.2.2.kept HV9.out⟩⟩
      · rw [if_pos (by rfl)]
        have hrn := run_slice1_fn (f0 (w.heap.size + 1) (-1)) v0
        have hb9 := below_alloc v0 (.cells (f0 (w.heap.size + 1) (-1)).vs.toArray 43)
        have HFB := hid (show Blk (v0.alloc (.cells (f0 (w.heap.size + 1) (-1)).vs.toArray 43)) v0.heap.size (f0 (w.heap.size + 1) (-1)).vs 43 from Blk.new v0 _ _)
        have HV1 := hid (Below.next HV0.out hb9)
        refine wp_sliceI 26 1 #[(0, .tmp 23)] rfl #[(0, .agg (f0 (w.heap.size + 1) (-1)).vs.toArray)] (by kernel_rfl) hrn ?_
        refine hK.out _ _ HV1.out (fun _ => ?_)
        clear hK K hrn hb9
        generalize (v0.alloc (.cells (f0 (w.heap.size + 1) (-1)).vs.toArray 43)) = v1 at *
        generalize v0.heap.size = BF at *
        refine wpAnyH_ready (rs := [0]) (by kernel_rfl) (by simp) ?_
        refine AllReadyH.cons rfl (fun K hK => ?_) AllReadyH.nil
        rw [if_pos (by rfl)]
        go_simp
        refine (two10_any v1).mono ?_
        rintro _ v2 ⟨n, g, rfl, hL, hb9⟩
        have HBB := hid hb9
        have HV2 := hid (Below.next HV1.out hb9)
        have HL2 := hid hL
        refine hK.out _ _ HV2.out (fun _ => ?_)
        clear hK K hb9 hL
        have HFC := hid (HFB.out.kept HBB.out)
        refine wpAnyH_ready (rs := [3]) (by kernel_rfl) (by simp) ?_
        refine AllReadyH.cons rfl (fun K hK => ?_) AllReadyH.nil
        rw [if_pos (by rfl)]
        go_simp
        refine (Check_str n g (fl1 BF (f0 (w.heap.size + 1) (-1))) v2 HL2.out.nat HL2.out.gat (fl1_at (f0_at (HI.out.2.1.kept HV2.out)) HFC.out) (fun i _ => Nat.zero_le _) (fun k _ i hi => absurd hi (Nat.not_lt_zero _))).mono ?_
        rintro _ v9 ⟨ra, rb, rfl, hR, hb9⟩
        have HV9 := hid (Below.next HV2.out hb9)
        have HRB := hid (f0_no HL2.out hR)
        refine hK.out _ _ HV9.out (fun _ => ?_)
        clear hK K hb9 hR
        refine wpAnyH_readsN [4, 5, 6] (rest := 2) rfl (by kernel_rfl) (by kernel_rfl) HV9.out ?_
        simp only [List.filterMap, List.getElem?_cons_zero, List.getElem?_cons_succ]
        go_big_quiet_step (fail)
        go_big_quiet_step (fail)
        go_big_quiet_step (fail)
        refine wpQuiet_nil ?_
        refine wpAnyH_ready (rs := [7]) (by kernel_rfl) (by simp) ?_
        refine AllReadyH.cons rfl (fun K hK => ?_) AllReadyH.nil
        rw [if_pos (by rfl)]
        go_simp
        refine hK.out _ _ HV9.out (fun _ => ?_)
        clear hK K
        refine wpAnyH_ready (rs := [8]) (by kernel_rfl) (by simp) ?_
        refine AllReadyH.cons rfl (fun K hK => ?_) AllReadyH.nil
        rw [if_pos (by rfl)]
        go_simp
        refine hK.out _ _ HV9.out (fun _ => ?_)
        clear hK K
        refine wpAnyH_done (by kernel_rfl) ?_ _
        refine ⟨(fun c hc => by cases hc), ?_⟩
        go_wp2
        go_meet
        case rel => exact ⟨rb, rfl, HRB.out, ⟨Below.next HI.out.1 HV9.out, HI.out.2.1.kept HV9.out, HI.out.2.2.kept HV9.out⟩⟩
    case rest =>
      obtain ⟨rb, rfl, rfl, hI⟩ := hcut
      have HI2 := hid hI.out
      clear hI HI
      go_wp2
      go_ret
      exact ⟨rfl, HI2.out.1⟩
end Go.Proofs.Ytbdhbgilaeldgaa

/- Layer 10: rows of types of one's own; what the statement IrSlots makes. -/
namespace Go.Proofs.Ytbdhbgilaeldgaa
open Go Go.RowKit

theorem tvs_len5 (t : Ty) : t.vs.length = 5 := rfl
def rowT (s : Ty) : List Value := flatN (fun i => (s.ps i).vs) s.len
theorem rowT_len (s : Ty) : (rowT s).length = s.len * 5 := flatN_len (fun i => tvs_len5 (s.ps i)) s.len
theorem rowT_cell {w : World} {s : Ty} (h : s.At w) : ∀ a, s.ao = some a → ∀ j u, (rowT s)[j]? = some u → w.cell? (a.add j) = some u := fun a ha j u hj => by
  have hlt : j < s.len * 5 := by rw [← rowT_len s]; exact (List.getElem?_eq_some_iff.1 hj).1
  have e := h.nil (by omega)
  rw [ha] at e
  injection e with e
  rw [e]
  exact flatN_cell (fun i => tvs_len5 (s.ps i)) (by omega) (fun i hi => C5.row (h.cells hi)) j u hj
theorem rowT_one (s : Ty) : ∀ u ∈ rowT s, u.oneCell' = true := fun u hu => by
  obtain ⟨i, _, h⟩ := flatN_mem _ hu
  exact List.all_eq_true.1 (s.ps i).vs_one u h
/-- Where what is old lies, and rows of types. -/
def QT (b0 : Nat) (u : World) (b : Nat) : Prop := b < b0 ∨ ∃ cur, u.heap[b]? = some (.cells cur 39 (0, 0))
theorem Ty.of_own {w : World} {base b0 : Nat} {v : Value} {n : Nat} {F : Nat → Ty} (h : w.ownsRow base 39 5 v n (flatN (fun i => (F i).vs) n)) (hb : n ≤ 1000) (hA : ∀ i, i < n → (F i).At w) (hK : ∀ i, i < n → (F i).Blk (fun b => b < b0)) : ∃ s : Ty, v = .slice s.ao s.len s.cap ∧ s.At w ∧ s.len = n ∧ s.ps = F ∧ s.len ≤ s.cap ∧ s.Blk (QT b0 w) := by
  obtain ⟨hl, ⟨rfl, rfl⟩ | ⟨g, cap, cur, rfl, hg, hh, hnc, hr⟩⟩ := h
  · exact ⟨.mk 0 0 0 0 none 0 0 0 0 F, rfl, ⟨fun h => absurd h (Nat.lt_irrefl _), Nat.zero_le _, fun _ h => absurd h (Nat.not_lt_zero _)⟩, rfl, rfl, Nat.le_refl _, ⟨fun h => absurd h (Nat.lt_irrefl _), fun _ h => absurd h (Nat.not_lt_zero _)⟩⟩
  · have ho : w.ownsRow base 39 5 (.slice (some ⟨g, 0, none⟩) n cap) n (flatN (fun i => (F i).vs) n) := ⟨hl, Or.inr ⟨g, cap, cur, rfl, hg, hh, hnc, hr⟩⟩
    refine ⟨.mk 0 0 0 0 (some ⟨g, 0, none⟩) g 0 n cap F, rfl, ⟨fun _ => rfl, by show n ≤ _; omega, fun i hi => ⟨?_, hA i hi⟩⟩, rfl, rfl, hnc, ⟨fun _ => Or.inr ⟨cur, hh⟩, fun i hi => (hK i hi).mono fun b hb => Or.inl hb⟩⟩
    refine range_C5 fun j u hu => ?_
    have hj : j < 5 := by rw [← tvs_len5 (F i)]; exact (List.getElem?_eq_some_iff.1 hu).1
    show w.cell? ⟨g, 0 + i * 5 + j, none⟩ = some u
    rw [Nat.zero_add, ho.cellAt (i * 5 + j) (by omega)]
    rw [flatN_get (fun i => tvs_len5 (F i)) n i j hi hj]
    exact hu
theorem wp_append_any {S E : TypeId} {size bytes : Nat} {z : Value} (hu : Try.prog.underlying S = some (.slice E)) (hinf : (Try.prog.info? E).map (fun i => (i.zero, i.size, i.bytes)) = some (some z, size, bytes)) (hzc : z.cells.size = size) (hpos : 0 < size) {w : World} {o : Oper} {a : Act} {K : Act → World → Prop} {Q : Exit → Act → World → Prop} (s x : Operand)
    (hop : o.op = .call { callee := .builtin .append, args := #[s, x], argTypes := #[S, S] }) (base : Nat) (v : Value) (n : Nat) (xs : List Value) (hs : a.eval s = v) (ho : w.ownsRow base E size v n xs) (ao : Option Addr) (m c : Nat) (news : List Value) (hx : a.eval x = .slice ao m c) (hnone : ao = none → m = 0 ∧ c = 0) (hl : news.length = m * size) (hn : ∀ a, ao = some a → ∀ j u, news[j]? = some u → w.cell? (a.add j) = some u) (h1 : ∀ u ∈ news, u.oneCell' = true) (h63 : n + m ≤ maxLen) (hbytes : (n + m) * bytes ≤ 140737488355328) (hb : base ≤ w.heap.size)
    (h : ∀ v' w', w'.ownsRow base E size v' (n + m) (xs ++ news) → w.grownBy w' v.ownBlock → K (a.put o.dst v') w') : o.wp Try.prog a w K Q := by
  obtain ⟨v', w', hr, h2, h3⟩ := run_append_any hu hinf hzc hpos w o.type base v n xs ho ao m c news hnone hl hn h1 h63 hbytes hb
  unfold Oper.wp execOp
  simp only [hop, resolve, invoke, builtin, Sem.run_bind, Sem.run_pure, Result.andThen_ok, List.map_toArray, List.map_cons, List.map_nil, hs, hx, hr]
  exact h v' w' h2 h3
/-- A row of one's own where another block is written. -/
theorem own_wrote {w w' : World} {base B : Nat} {e t : TypeId} {size : Nat} {v : Value} {n : Nat} {xs : List Value} {c : List Value} (h : w.ownsRow base e size v n xs) (W : WroteB w w' B c t) (hB : B < base) : w'.ownsRow base e size v n xs := own_agree h fun b hb _ => W.other b (by omega)
theorem gb_blk {w w' : World} {B : Nat} {c : List Value} {t : TypeId} {r : Option Nat} (h : Blk w B c t) (hg : w.grownBy w' r) (hr : some B ≠ r) : Blk w' B c t := by
  unfold Blk
  rw [hg.block B h.lt hr]; exact h
/-- The loop of IrSlots: what it has made so far. -/
structure Sl (w0 : World) (l : Fl) (t : Ty) (k : Nat) (sv : Value) (F : Nat → Fc) (u : World) : Prop where
  bl : Below w0.heap.size w0 u
  row : u.ownsRow w0.heap.size 43 16 sv k (flatN (fun i => (F i).vs) k)
  mo : ∀ i, i < k → Mo t (l.ps i) (F i)
  at_ : ∀ i, i < k → (F i).slots.At u
  kb : ∀ i, i < k → (F i).slots.Blk (QT w0.heap.size u)
  lc : ∀ i, i < k → (F i).slots.len ≤ (F i).slots.cap
theorem QT.kept {b0 : Nat} {u u' : World} {b : Nat} (h : QT b0 u b) (hb : Below u.heap.size u u') (_h0 : b0 ≤ u.heap.size) : QT b0 u' b := by
  rcases h with h | ⟨cur, h⟩
  · exact Or.inl h
  · exact Or.inr ⟨cur, by rw [hb.block b (Array.getElem?_eq_some_iff.1 h).1]; exact h⟩
theorem Sl.kept {w0 : World} {l : Fl} {t : Ty} {k : Nat} {sv : Value} {F : Nat → Fc} {u u' : World} (h : Sl w0 l t k sv F u) (hb : Below u.heap.size u u') : Sl w0 l t k sv F u' :=
  ⟨Below.next h.bl hb, owk h.row hb, h.mo, fun i hi => (h.at_ i hi).kept hb, fun i hi => (h.kb i hi).mono fun _ hq => hq.kept hb h.bl.size, h.lc⟩
/-- One function more. -/
theorem Sl.more {w0 : World} {l : Fl} {t : Ty} {k : Nat} {sv sv' : Value} {F : Nat → Fc} {u u' : World} (f : Fc) (h : Sl w0 l t k sv F u) (hm : Mo t (l.ps k) f) (hA : f.slots.At u) (hK : f.slots.Blk (QT w0.heap.size u)) (hlc : f.slots.len ≤ f.slots.cap) (hg : u.grownBy u' sv.ownBlock) (hr : u'.ownsRow w0.heap.size 43 16 sv' (k + 1) (flatN (fun i => (F i).vs) k ++ f.vs)) : Sl w0 l t (k + 1) sv' (fun i => if i < k then F i else f) u' := by
  have ag : ∀ b, QT w0.heap.size u b → u'.heap[b]? = u.heap[b]? := fun b hq => by
    rcases hq with hb | ⟨cur, hc⟩
    · refine hg.block b (Nat.lt_of_lt_of_le hb h.bl.size) fun e => ?_
      have := (owb h.row e.symm).1
      omega
    · refine hg.block b (Array.getElem?_eq_some_iff.1 hc).1 fun e => ?_
      obtain ⟨cur', hc'⟩ := own_type h.row e.symm
      rw [hc] at hc'
      injection hc' with hc'
      injection hc' with _ ht
      exact absurd ht (by decide)
  have qt : ∀ b, QT w0.heap.size u b → QT w0.heap.size u' b := fun b hq => by
    rcases hq with hb | ⟨cur, hc⟩
    · exact Or.inl hb
    · exact Or.inr ⟨cur, by rw [ag b (Or.inr ⟨cur, hc⟩)]; exact hc⟩
  have key : ∀ i, i < k + 1 → (i < k ∧ (if i < k then F i else f) = F i) ∨ (i = k ∧ (if i < k then F i else f) = f) := fun i hi => by
    rcases Nat.lt_or_ge i k with h1 | h1
    · exact Or.inl ⟨h1, if_pos h1⟩
    · exact Or.inr ⟨by omega, if_neg (by omega)⟩
  refine ⟨gb_bel h.bl hg (fun b hb => (owb h.row hb).1), ?_, fun i hi => ?_, fun i hi => ?_, fun i hi => ?_, fun i hi => ?_⟩
  · show u'.ownsRow _ _ _ _ _ (flatN (fun i => (if i < k then F i else f).vs) (k + 1))
    have e : flatN (fun i => (if i < k then F i else f).vs) (k + 1) = flatN (fun i => (F i).vs) k ++ f.vs := by
      have h1 := flatN_app (fun i => (F i).vs) (fun _ => f.vs) k 1
      have h2 : (fun i => (if i < k then F i else f).vs) = fun i => if i < k then (F i).vs else f.vs := by
        funext i
        split <;> rfl
      rw [h2, h1]
      rfl
    rw [e]
    exact hr
  all_goals
    rcases key i hi with ⟨h1, h2⟩ | ⟨h1, h2⟩
    · simp only [h2]
      first
        | exact h.mo i h1
        | exact Ty.At.agree ag (h.at_ i h1) (h.kb i h1)
        | exact (h.kb i h1).mono qt
        | exact h.lc i h1
    · subst h1
      simp only [h2]
      first
        | exact hm
        | exact Ty.At.agree ag hA hK
        | exact hK.mono qt
        | exact hlc
end Go.Proofs.Ytbdhbgilaeldgaa
