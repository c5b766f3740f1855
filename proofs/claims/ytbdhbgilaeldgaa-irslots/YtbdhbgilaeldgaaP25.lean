/- Layer 10: choice. -/
import Derived.Test.YtbdhbgilaeldgaaP24
namespace Go.Proofs.Ytbdhbgilaeldgaa
open Go Go.RowKit

theorem wp_alloc_stI {o : Oper} {a : Act} {w : World} {K : Act → World → Prop} {Q : Exit → Act → World → Prop} (ho : o.op = .alloc 75)
    (h : K (a.put o.dst (.pointer (some ⟨w.heap.size, 0, none⟩))) (w.alloc (.cells Sta.zero.va 75))) : o.wp Try.prog a w K Q := by
  unfold Oper.wp execOp
  simp only [ho, Sem.run_bind, alloc_st, Result.andThen_ok, Sem.run_pure]
  exact h
def chO (j : Jd) (nd : Nd) (s : Sta) : Option Sta :=
  if (j.read nd nd.h.a).k = 2 then
    (j.list nd.bd ⟨bothI j.n j.g s.at_ (j.read nd nd.h.a).l, -1, s.set, false⟩).bind fun a =>
    (j.list nd.el ⟨bothI j.n j.g s.at_ (j.read nd nd.h.a).l, -1, s.set, false⟩).bind fun b => some (j.junc s a b (bothI j.n j.g a.x b.x)) else none
theorem ch_ret {o1 o2 : Option Sta} {y1 y2 : Sta} {k1 k2 : Bool} {F : Sta → Sta → Sta} (h1 : k1 = o1.isSome) (e1 : ∀ s, o1 = some s → y1 = s) (h2 : k2 = o2.isSome) (e2 : ∀ s, o2 = some s → y2 = s) :
    (k1 && k2) = (o1.bind fun a => o2.bind fun b => some (F a b)).isSome ∧ ∀ s1, (o1.bind fun a => o2.bind fun b => some (F a b)) = some s1 → F y1 y2 = s1 := by
  cases o1 with
  | none => exact ⟨by rw [h1]; rfl, fun _ h => by cases h⟩
  | some a =>
    cases o2 with
    | none => exact ⟨by rw [h1, h2]; rfl, fun _ h => by cases h⟩
    | some b => exact ⟨by rw [h1, h2]; rfl, fun s1 h => by rw [e1 a rfl, e2 b rfl]; exact Option.some.inj h⟩
def S7 (w : World) (j : Jd) (s y1 y2 : Sta) (P1 P2 : Nat) (q : World) : Prop := Below w.heap.size w q ∧ Blk q w.heap.size j.vs 57 ∧ Blk q (w.heap.size + 2) s.vs 75 ∧ Blk q P1 y1.vs 75 ∧ Blk q P2 y2.vs 75
theorem S7.kept {w : World} {j : Jd} {s y1 y2 : Sta} {P1 P2 : Nat} {u u' : World} (h : S7 w j s y1 y2 P1 P2 u) (hb : Below u.heap.size u u') : S7 w j s y1 y2 P1 P2 u' := ⟨Below.next h.1 hb, h.2.1.kept hb, h.2.2.1.kept hb, h.2.2.2.1.kept hb, h.2.2.2.2.kept hb⟩
theorem S7.wrote {w : World} {j : Jd} {s y1 y2 : Sta} {P1 P2 : Nat} {u u' : World} {c : List Value} {t : TypeId} (h : S7 w j s y1 y2 P1 P2 u) (W : WroteB u u' (w.heap.size + 3) c t) (h1 : w.heap.size + 4 ≤ P1) (h2 : w.heap.size + 4 ≤ P2) : S7 w j s y1 y2 P1 P2 u' := ⟨W.below (by omega) h.1, W.keep h.2.1 (by omega), W.keep h.2.2.1 (by omega), W.keep h.2.2.2.1 (by omega), W.keep h.2.2.2.2 (by omega)⟩

set_option maxRecDepth 100000 in
set_option maxHeartbeats 32000000 in
theorem choice_any (j : Jd) (nd : Nd) (s : Sta) (w : World) (hj : j.At w) (hn : nd.At w) (ha : 0 ≤ nd.h.a) (ha1 : nd.h.a < j.f.slots.len)
    (hbd : ∀ t u, Below w.heap.size w u → ListC (j.list nd.bd t) j nd.bd t u) (hel : ∀ t u, Below w.heap.size w u → ListC (j.list nd.el t) j nd.el t u) :
    Calls Try.prog 75 #[.agg j.va, .agg nd.va, .agg s.va] w (StRet (chO j nd s) w) := by
  have HI := hid (nw_new w j nd s hj hn)
  unfold nwW at HI
  have HH := hid (show (0 ≤ nd.h.a ∧ nd.h.a < j.f.slots.len) ∧ (∀ t u, Below w.heap.size w u → ListC (j.list nd.bd t) j nd.bd t u) ∧ (∀ t u, Below w.heap.size w u → ListC (j.list nd.el t) j nd.el t u) from ⟨⟨ha, ha1⟩, hbd, hel⟩)
  have HJ := hid (show j.At w ∧ nd.At w from ⟨hj, hn⟩)
  have c2 := HI.out.N.cell 2 (v := .int .i64 nd.h.a) rfl
  clear hj hn ha ha1 hbd hel
  go_enter Try.func75, Try.ntmps75
  go_upto_region 1 with (refine wpList_alloc_st rfl rfl ?_)
  generalize ((((w.alloc (.cells j.va 57)).alloc (.cells nd.va 46)).alloc (.cells s.va 75)).alloc (.cells Sta.zero.va 75)) = w1 at *
  have bJ := HI.out.J
  have bN := HI.out.N
  go_wp2_with (first | (refine wpList_load_mid rfl 57 (.tmp 3) rfl w.heap.size 0 (by kernel_rfl) j.vs _ bJ.range Try.underlying57 rfl (by kernel_rfl) ?_) | (refine wpList_load_mid rfl 46 (.tmp 4) rfl (w.heap.size + 1) 0 (by kernel_rfl) nd.vs _ bN.range Try.underlying46 rfl (by kernel_rfl) ?_))
  refine (read_any 0 j nd nd.h.a w1 HI.out.hj (by omega) HH.out.1.1 HH.out.1.2).mono ?_
  rintro _ w2 ⟨u, rfl, uA, uB, uS, hb⟩
  have HI2 := hid (HI.out.kept hb)
  have HE : Hid (chO j nd s = if u.k = 2 then (j.list nd.bd ⟨bothI j.n j.g s.at_ u.l, -1, s.set, false⟩).bind fun a => (j.list nd.el ⟨bothI j.n j.g s.at_ u.l, -1, s.set, false⟩).bind fun b => some (j.junc s a b (bothI j.n j.g a.x b.x)) else none) := by show _ = _; unfold chO; rw [← same_k uS, ← same_l uS]
  clear HI c2 bJ bN hb uA uB uS
  have hN := below_alloc w2 (.cells u.vs.toArray 39)
  have HB := hid (show Nw w j nd s Sta.zero (w2.alloc (.cells u.vs.toArray 39)) ∧ Blk (w2.alloc (.cells u.vs.toArray 39)) w2.heap.size u.vs 39 from ⟨HI2.out.kept hN, Blk.new w2 _ _⟩)
  clear hN HI2
  go_upto_region 2 with (refine wpList_new_mid rfl rfl 39 rfl (.tmp 8) (.tmp 18) rfl zTv (alloc_ty _) rfl u.vs.toArray (by kernel_rfl) (by kernel_rfl) rfl (by kernel_rfl) (by simpa using u.vs_one) ?_)
  generalize (w2.alloc (.cells u.vs.toArray 39)) = w3 at *
  generalize w2.heap.size = B8 at *
  have x0 := HB.out.2.cell 0 (v := .int .i64 u.k) rfl
  cases hq : (u.k != 2)
  · replace HE : Hid (chO j nd s = (j.list nd.bd ⟨bothI j.n j.g s.at_ u.l, -1, s.set, false⟩).bind fun a => (j.list nd.el ⟨bothI j.n j.g s.at_ u.l, -1, s.set, false⟩).bind fun b => some (j.junc s a b (bothI j.n j.g a.x b.x))) := by show _ = _; rw [HE.out, if_pos (by simpa using hq)]
    go_upto_region 4 with fail
    clear x0 hq
    go_cut [9] (fun c wx => ∃ B : Nat, c = .pointer (some ⟨B, 0, none⟩) ∧ Hid (Nw w j nd s Sta.zero wx ∧ Blk wx B (⟨bothI j.n j.g s.at_ u.l, -1, s.set, false⟩ : Sta).vs 75))
    case first =>
      have hC0 : ∀ q, (∃ x : Wd (fun q => Below w3.heap.size w3 q), q = x.w) → q.rangeAt w.heap.size 0 j.vs := by rintro _ ⟨x, rfl⟩; exact (HB.out.1.J.kept x.2).range
      have hC2 : ∀ q, (∃ x : Wd (fun q => Below w3.heap.size w3 q), q = x.w) → q.rangeAt (w.heap.size + 2) 2 (setV s.set) := by rintro _ ⟨x, rfl⟩; exact Sta.row (HB.out.1.S.kept x.2)
      have p0 : ∀ x : Wd (fun q => Below w3.heap.size w3 q), x.w.cell? ⟨w.heap.size + 2, 0, none⟩ = some (.int .i64 s.at_) := fun x => (HB.out.1.S.kept x.2).cell 0 s.v0
      have p1 : ∀ x : Wd (fun q => Below w3.heap.size w3 q), x.w.cell? ⟨B8, 1, none⟩ = some (.int .i64 u.l) := fun x => (HB.out.2.kept x.2).cell 1 rfl
      have hNE : Nonempty (Wd (fun q => Below w3.heap.size w3 q)) := ⟨⟨_, Below.refl _ _⟩⟩
      refine wp_region_readsMN (fun q => Below w3.heap.size w3 q) [0, 1, 2, 3, 4, 6, 7] 4 (by kernel_rfl) rfl (by kernel_rfl) (hj_of (by kernel_rfl)) ((Below.refl _ _).drew) ?_
      simp only [List.filterMap, List.getElem?_cons_zero, List.getElem?_cons_succ]
      go_big_quiet_want
      refine quiet_load_row 57 (.tmp 3) rfl _ 0 (by kernel_rfl) j.vs _ hC0 Try.underlying57 rfl (by kernel_rfl) ?_
      simp only [Act.put, List.setIfInBounds_toArray, List.set_cons_succ, List.set_cons_zero]
      go_big_quiet_on
      iterate 5 go_big_quiet_step (fail)
      go_big_quiet_want
      refine quiet_load_row 73 (.tmp 29) rfl _ 2 (by kernel_rfl) (setV s.set) _ hC2 Try.underlying73 rfl (by rw [setV_len]; kernel_rfl) ?_
      simp only [Act.put, List.setIfInBounds_toArray, List.set_cons_succ, List.set_cons_zero]
      go_big_quiet_on
      refine wpQuiet_nil ?_
      clear hC0 hC2 p0 p1 hNE
      have HV0 := hid (show Below w3.heap.size w3 w3.drew from (Below.refl _ _).drew)
      generalize w3.drew = v0 at *
      refine wpAnyH_ready (rs := [5, 9]) (by kernel_rfl) (by simp) ?_
      refine AllReadyH.cons rfl (fun K hK => ?_) (AllReadyH.cons rfl (fun K hK => ?_) AllReadyH.nil)
      · rw [if_pos (by rfl)]
        go_simp
        refine (both_any j s.at_ u.l v0 ((HJ.out.1.n.kept HB.out.1.bl).kept HV0.out) ((HJ.out.1.g.kept HB.out.1.bl).kept HV0.out)).mono ?_
        rintro _ v1 ⟨rfl, hb9⟩
        have HV1 := hid (Below.next HV0.out hb9)
        refine hK.out _ _ HV1.out (fun _ => ?_)
        clear hK K hb9
        refine wpAnyH_ready (rs := [8, 9]) (by kernel_rfl) (by simp) ?_
        refine AllReadyH.cons rfl (fun K hK => ?_) (AllReadyH.cons rfl (fun K hK => ?_) AllReadyH.nil)
        · rw [if_pos (by rfl)]
          refine wp_buildI 75 #[(0, .tmp 28), (1, .const (.int .i64 (-1))), (2, .tmp 30)] rfl #[(0, .int .i64 (bothI j.n j.g s.at_ u.l)), (1, .int .i64 (-1)), (2, .agg (setV s.set).toArray)] (by kernel_rfl) (run_build_st3 _ (-1) s.set v1) ?_
          refine hK.out _ _ HV1.out (fun _ => ?_)
          simp only [Act.put, List.getElem_toArray, List.getElem_cons_zero, List.getElem_cons_succ, List.setIfInBounds_toArray, List.set_cons_succ, List.set_cons_zero]
          clear hK K
          refine wpAnyH_ready (rs := [9]) (by kernel_rfl) (by simp) ?_
          refine AllReadyH.cons rfl (fun K hK => ?_) AllReadyH.nil
          rw [if_pos (by rfl)]
          have hb9 := below_alloc v1 (.cells Sta.zero.va 75)
          have bNBA := hid (show Blk (v1.alloc (.cells Sta.zero.va 75)) v1.heap.size Sta.zero.vs 75 ∧ w3.heap.size ≤ v1.heap.size from ⟨Blk.new v1 _ _, HV1.out.size⟩)
          have HV2 := hid (Below.next HV1.out hb9)
          refine wp_alloc_stI rfl ?_
          refine hK.out _ _ HV2.out (fun _ => ?_)
          clear hb9
          generalize (v1.alloc (.cells Sta.zero.va 75)) = v2 at *
          generalize v1.heap.size = BA at *
          simp only [Act.put, List.getElem_toArray, List.getElem_cons_zero, List.getElem_cons_succ, List.setIfInBounds_toArray, List.set_cons_succ, List.set_cons_zero]
          clear hK K
          refine wpAnyH_ready (rs := [10]) (by kernel_rfl) (by simp) ?_
          refine AllReadyH.cons rfl (fun K hK => ?_) AllReadyH.nil
          rw [if_pos (by rfl)]
          refine wp_store_wrote' 75 (.tmp 9) (.tmp 31) rfl rfl BA (⟨bothI j.n j.g s.at_ u.l, -1, s.set, false⟩ : Sta).vs Sta.zero.vs (by kernel_rfl) (by kernel_rfl) (Sta.va_one _) bNBA.out.1 rfl (by simp only [List.size_toArray, Sta.len]; kernel_rfl) ?_
          intro w8 W8
          have HW := hid (show Below w3.heap.size w3 w8 from W8.below bNBA.out.2 HV2.out)
          refine hK.out _ _ HW.out (fun _ => ?_)
          clear hK K
          refine wpAnyH_done (by kernel_rfl) ?_ _
          refine ⟨(fun c hc => by cases hc), ?_⟩
          go_wp2
          go_meet
          case rel => exact ⟨_, rfl, ⟨HB.out.1.kept HW.out, W8.blk⟩⟩
        · rw [if_pos (by rfl)]
          have hb9 := below_alloc v1 (.cells Sta.zero.va 75)
          have bNBA := hid (show Blk (v1.alloc (.cells Sta.zero.va 75)) v1.heap.size Sta.zero.vs 75 ∧ w3.heap.size ≤ v1.heap.size from ⟨Blk.new v1 _ _, HV1.out.size⟩)
          have HV2 := hid (Below.next HV1.out hb9)
          refine wp_alloc_stI rfl ?_
          refine hK.out _ _ HV2.out (fun _ => ?_)
          clear hb9
          generalize (v1.alloc (.cells Sta.zero.va 75)) = v2 at *
          generalize v1.heap.size = BA at *
          simp only [Act.put, List.getElem_toArray, List.getElem_cons_zero, List.getElem_cons_succ, List.setIfInBounds_toArray, List.set_cons_succ, List.set_cons_zero]
          clear hK K
          refine wpAnyH_ready (rs := [8]) (by kernel_rfl) (by simp) ?_
          refine AllReadyH.cons rfl (fun K hK => ?_) AllReadyH.nil
          rw [if_pos (by rfl)]
          refine wp_buildI 75 #[(0, .tmp 28), (1, .const (.int .i64 (-1))), (2, .tmp 30)] rfl #[(0, .int .i64 (bothI j.n j.g s.at_ u.l)), (1, .int .i64 (-1)), (2, .agg (setV s.set).toArray)] (by kernel_rfl) (run_build_st3 _ (-1) s.set v2) ?_
          refine hK.out _ _ HV2.out (fun _ => ?_)
          simp only [Act.put, List.getElem_toArray, List.getElem_cons_zero, List.getElem_cons_succ, List.setIfInBounds_toArray, List.set_cons_succ, List.set_cons_zero]
          clear hK K
          refine wpAnyH_ready (rs := [10]) (by kernel_rfl) (by simp) ?_
          refine AllReadyH.cons rfl (fun K hK => ?_) AllReadyH.nil
          rw [if_pos (by rfl)]
          refine wp_store_wrote' 75 (.tmp 9) (.tmp 31) rfl rfl BA (⟨bothI j.n j.g s.at_ u.l, -1, s.set, false⟩ : Sta).vs Sta.zero.vs (by kernel_rfl) (by kernel_rfl) (Sta.va_one _) bNBA.out.1 rfl (by simp only [List.size_toArray, Sta.len]; kernel_rfl) ?_
          intro w8 W8
          have HW := hid (show Below w3.heap.size w3 w8 from W8.below bNBA.out.2 HV2.out)
          refine hK.out _ _ HW.out (fun _ => ?_)
          clear hK K
          refine wpAnyH_done (by kernel_rfl) ?_ _
          refine ⟨(fun c hc => by cases hc), ?_⟩
          go_wp2
          go_meet
          case rel => exact ⟨_, rfl, ⟨HB.out.1.kept HW.out, W8.blk⟩⟩
      · rw [if_pos (by rfl)]
        have hb9 := below_alloc v0 (.cells Sta.zero.va 75)
        have bNBA := hid (show Blk (v0.alloc (.cells Sta.zero.va 75)) v0.heap.size Sta.zero.vs 75 ∧ w3.heap.size ≤ v0.heap.size from ⟨Blk.new v0 _ _, HV0.out.size⟩)
        have HV1 := hid (Below.next HV0.out hb9)
        refine wp_alloc_stI rfl ?_
        refine hK.out _ _ HV1.out (fun _ => ?_)
        clear hb9
        generalize (v0.alloc (.cells Sta.zero.va 75)) = v1 at *
        generalize v0.heap.size = BA at *
        simp only [Act.put, List.getElem_toArray, List.getElem_cons_zero, List.getElem_cons_succ, List.setIfInBounds_toArray, List.set_cons_succ, List.set_cons_zero]
        clear hK K
        refine wpAnyH_ready (rs := [5]) (by kernel_rfl) (by simp) ?_
        refine AllReadyH.cons rfl (fun K hK => ?_) AllReadyH.nil
        rw [if_pos (by rfl)]
        go_simp
        refine (both_any j s.at_ u.l v1 ((HJ.out.1.n.kept HB.out.1.bl).kept HV1.out) ((HJ.out.1.g.kept HB.out.1.bl).kept HV1.out)).mono ?_
        rintro _ v2 ⟨rfl, hb9⟩
        have HV2 := hid (Below.next HV1.out hb9)
        refine hK.out _ _ HV2.out (fun _ => ?_)
        have bN2 := hid (bNBA.out.1.kept hb9)
        clear hK K hb9
        refine wpAnyH_ready (rs := [8]) (by kernel_rfl) (by simp) ?_
        refine AllReadyH.cons rfl (fun K hK => ?_) AllReadyH.nil
        rw [if_pos (by rfl)]
        refine wp_buildI 75 #[(0, .tmp 28), (1, .const (.int .i64 (-1))), (2, .tmp 30)] rfl #[(0, .int .i64 (bothI j.n j.g s.at_ u.l)), (1, .int .i64 (-1)), (2, .agg (setV s.set).toArray)] (by kernel_rfl) (run_build_st3 _ (-1) s.set v2) ?_
        refine hK.out _ _ HV2.out (fun _ => ?_)
        simp only [Act.put, List.getElem_toArray, List.getElem_cons_zero, List.getElem_cons_succ, List.setIfInBounds_toArray, List.set_cons_succ, List.set_cons_zero]
        clear hK K
        refine wpAnyH_ready (rs := [10]) (by kernel_rfl) (by simp) ?_
        refine AllReadyH.cons rfl (fun K hK => ?_) AllReadyH.nil
        rw [if_pos (by rfl)]
        refine wp_store_wrote' 75 (.tmp 9) (.tmp 31) rfl rfl BA (⟨bothI j.n j.g s.at_ u.l, -1, s.set, false⟩ : Sta).vs Sta.zero.vs (by kernel_rfl) (by kernel_rfl) (Sta.va_one _) bN2.out rfl (by simp only [List.size_toArray, Sta.len]; kernel_rfl) ?_
        intro w8 W8
        have HW := hid (show Below w3.heap.size w3 w8 from W8.below bNBA.out.2 HV2.out)
        refine hK.out _ _ HW.out (fun _ => ?_)
        clear hK K
        refine wpAnyH_done (by kernel_rfl) ?_ _
        refine ⟨(fun c hc => by cases hc), ?_⟩
        go_wp2
        go_meet
        case rel => exact ⟨_, rfl, ⟨HB.out.1.kept HW.out, W8.blk⟩⟩
    case rest =>
      obtain ⟨B9, rfl, hI⟩ := hcut
      clear HB
      have HB := hid hI.out
      clear hI
      generalize (⟨bothI j.n j.g s.at_ u.l, -1, s.set, false⟩ : Sta) = st at *
      have bJ := HB.out.1.J
      have b9 := HB.out.2
      have c12 := HB.out.1.N.cell 12 (v := .slice nd.bd.ao nd.bd.len nd.bd.cap) rfl
      have hC := HH.out.2.1 st wc HB.out.1.bl
      unfold ListC at hC
      go_wp2_with (first | (refine wpList_load_mid rfl 57 (.tmp 3) rfl w.heap.size 0 (by kernel_rfl) j.vs _ bJ.range Try.underlying57 rfl (by kernel_rfl) ?_) | (refine wpList_load_mid rfl 75 (.tmp 9) rfl B9 0 (by kernel_rfl) st.vs _ b9.range Try.underlying75 rfl (by rw [Sta.len]; kernel_rfl) ?_))
      refine Calls.mono hC ?_
      rintro _ w4 ⟨y1, k1, rfl, hk1, he1, hb4⟩
      have H1 := hid (show k1 = (j.list nd.bd st).isSome ∧ (∀ t, j.list nd.bd st = some t → y1 = t) from ⟨hk1, he1⟩)
      have HB4 := hid (show Nw w j nd s Sta.zero w4 ∧ Blk w4 B9 st.vs 75 from ⟨HB.out.1.kept hb4, HB.out.2.kept hb4⟩)
      clear hC bJ b9 c12 hk1 he1 hb4 HB
      have hN := below_alloc w4 (.cells y1.vs.toArray 75)
      have HB := hid (show Nw w j nd s Sta.zero (w4.alloc (.cells y1.vs.toArray 75)) ∧ Blk (w4.alloc (.cells y1.vs.toArray 75)) B9 st.vs 75 ∧ Blk (w4.alloc (.cells y1.vs.toArray 75)) w4.heap.size y1.vs 75 ∧ w.heap.size + 4 ≤ w4.heap.size from ⟨HB4.out.1.kept hN, HB4.out.2.kept hN, Blk.new w4 _ _, HB4.out.1.sz⟩)
      clear hN HB4
      go_upto_region 6 with (refine wpList_new_mid rfl rfl 75 rfl (.tmp 10) (.tmp 38) rfl Sta.zero.vs (alloc_st _) rfl y1.vs.toArray (by kernel_rfl) (by kernel_rfl) (by simp [Sta.len]) (by simp only [List.size_toArray, Sta.len]; kernel_rfl) (by simpa using y1.va_one) ?_)
      generalize (w4.alloc (.cells y1.vs.toArray 75)) = w5 at *
      generalize w4.heap.size = P1 at *
      have bJ := HB.out.1.J
      have b9 := HB.out.2.1
      have c13 := HB.out.1.N.cell 13 (v := .slice nd.el.ao nd.el.len nd.el.cap) rfl
      have hC := HH.out.2.2 st w5 HB.out.1.bl
      unfold ListC at hC
      go_wp2_with (first | (refine wpList_load_mid rfl 57 (.tmp 3) rfl w.heap.size 0 (by kernel_rfl) j.vs _ bJ.range Try.underlying57 rfl (by kernel_rfl) ?_) | (refine wpList_load_mid rfl 75 (.tmp 9) rfl B9 0 (by kernel_rfl) st.vs _ b9.range Try.underlying75 rfl (by rw [Sta.len]; kernel_rfl) ?_))
      refine Calls.mono hC ?_
      rintro _ w6 ⟨y2, k2, rfl, hk2, he2, hb6⟩
      have H2 := hid (show k2 = (j.list nd.el st).isSome ∧ (∀ t, j.list nd.el st = some t → y2 = t) from ⟨hk2, he2⟩)
      have HB6 := hid (show Nw w j nd s Sta.zero w6 ∧ Blk w6 P1 y1.vs 75 from ⟨HB.out.1.kept hb6, HB.out.2.2.1.kept hb6⟩)
      have HP1 := hid HB.out.2.2.2
      clear hC bJ b9 c13 hk2 he2 hb6 HB
      have hN := below_alloc w6 (.cells y2.vs.toArray 75)
      have HB := hid (show Nw w j nd s Sta.zero (w6.alloc (.cells y2.vs.toArray 75)) ∧ Blk (w6.alloc (.cells y2.vs.toArray 75)) P1 y1.vs 75 ∧ Blk (w6.alloc (.cells y2.vs.toArray 75)) w6.heap.size y2.vs 75 ∧ w.heap.size + 4 ≤ w6.heap.size from ⟨HB6.out.1.kept hN, HB6.out.2.kept hN, Blk.new w6 _ _, HB6.out.1.sz⟩)
      clear hN HB6
      go_upto_region 7 with (refine wpList_new_mid rfl rfl 75 rfl (.tmp 12) (.tmp 46) rfl Sta.zero.vs (alloc_st _) rfl y2.vs.toArray (by kernel_rfl) (by kernel_rfl) (by simp [Sta.len]) (by simp only [List.size_toArray, Sta.len]; kernel_rfl) (by simpa using y2.va_one) ?_)
      generalize (w6.alloc (.cells y2.vs.toArray 75)) = w7 at *
      generalize w6.heap.size = P2 at *
      have HR := hid (ch_ret (F := fun a b => j.junc s a b (bothI j.n j.g a.x b.x)) H1.out.1 H1.out.2 H2.out.1 H2.out.2)
      rw [← HE.out] at HR
      clear HE H1 H2
      have hS : ∀ q, (∃ x : Wd (S7 w j s y1 y2 P1 P2), q = x.w) → S7 w j s y1 y2 P1 P2 q := by rintro _ ⟨x, rfl⟩; exact x.2
      have q1 : ∀ x : Wd (S7 w j s y1 y2 P1 P2), x.w.cell? ⟨P1, 1, none⟩ = some (.int .i64 y1.x) := fun x => x.2.2.2.2.1.cell 1 y1.v1
      have q2 : ∀ x : Wd (S7 w j s y1 y2 P1 P2), x.w.cell? ⟨P2, 1, none⟩ = some (.int .i64 y2.x) := fun x => x.2.2.2.2.2.cell 1 y2.v1
      have hdb := (Below.refl w7.heap.size w7).drew
      have HV0 := hid (show S7 w j s y1 y2 P1 P2 w7.drew ∧ Nw w j nd s Sta.zero w7.drew from ⟨S7.kept ⟨HB.out.1.bl, HB.out.1.J, HB.out.1.S, HB.out.2.1, HB.out.2.2.1⟩ hdb, HB.out.1.kept hdb⟩)
      have HP2 := hid HB.out.2.2.2
      have hNE : Nonempty (Wd (S7 w j s y1 y2 P1 P2)) := ⟨⟨_, HV0.out.1⟩⟩
      clear hdb HB
      refine wp_region_readsMN (S7 w j s y1 y2 P1 P2) [0, 1, 2, 3, 4, 5, 6, 7, 8, 11] 7 (by kernel_rfl) rfl (by kernel_rfl) (hj_of (by kernel_rfl)) HV0.out.1 ?_
      simp only [List.filterMap, List.getElem?_cons_zero, List.getElem?_cons_succ]
      generalize w7.drew = v0 at *
      go_big_quiet_want
      refine quiet_load_row 57 (.tmp 3) rfl _ 0 (by kernel_rfl) j.vs _ (fun q hq => (hS q hq).2.1.range) Try.underlying57 rfl (by kernel_rfl) ?_
      simp only [Act.put, List.setIfInBounds_toArray, List.set_cons_succ, List.set_cons_zero]
      go_big_quiet_on
      go_big_quiet_want
      refine quiet_load_row 75 (.tmp 5) rfl _ 0 (by kernel_rfl) s.vs _ (fun q hq => (hS q hq).2.2.1.range) Try.underlying75 rfl (by rw [Sta.len]; kernel_rfl) ?_
      simp only [Act.put, List.setIfInBounds_toArray, List.set_cons_succ, List.set_cons_zero]
      go_big_quiet_on
      go_big_quiet_want
      refine quiet_load_row 75 (.tmp 10) rfl _ 0 (by kernel_rfl) y1.vs _ (fun q hq => (hS q hq).2.2.2.1.range) Try.underlying75 rfl (by rw [Sta.len]; kernel_rfl) ?_
      simp only [Act.put, List.setIfInBounds_toArray, List.set_cons_succ, List.set_cons_zero]
      go_big_quiet_on
      go_big_quiet_want
      refine quiet_load_row 75 (.tmp 12) rfl _ 0 (by kernel_rfl) y2.vs _ (fun q hq => (hS q hq).2.2.2.2.range) Try.underlying75 rfl (by rw [Sta.len]; kernel_rfl) ?_
      simp only [Act.put, List.setIfInBounds_toArray, List.set_cons_succ, List.set_cons_zero]
      go_big_quiet_on
      go_big_quiet_want
      refine quiet_load_row 57 (.tmp 3) rfl _ 0 (by kernel_rfl) j.vs _ (fun q hq => (hS q hq).2.1.range) Try.underlying57 rfl (by kernel_rfl) ?_
      simp only [Act.put, List.setIfInBounds_toArray, List.set_cons_succ, List.set_cons_zero]
      go_big_quiet_on
      iterate 5 go_big_quiet_step (fail)
      refine wpQuiet_nil ?_
      clear hS q1 q2
      refine wpAnyH_ready (rs := [9]) (by kernel_rfl) (by simp) ?_
      refine AllReadyH.cons rfl (fun K hK => ?_) AllReadyH.nil
      rw [if_pos (by rfl)]
      go_simp
      refine (both_any j y1.x y2.x v0 HV0.out.2.hj.n HV0.out.2.hj.g).mono ?_
      rintro _ v1 ⟨rfl, hb9⟩
      have HV1 := hid (show S7 w j s y1 y2 P1 P2 v1 ∧ Nw w j nd s Sta.zero v1 from ⟨HV0.out.1.kept hb9, HV0.out.2.kept hb9⟩)
      refine hK.out _ _ HV1.out.1 (fun _ => ?_)
      clear hK K hb9 HV0
      refine wpAnyH_ready (rs := [10]) (by kernel_rfl) (by simp) ?_
      refine AllReadyH.cons rfl (fun K hK => ?_) AllReadyH.nil
      rw [if_pos (by rfl)]
      go_simp
      refine (junction_any j s y1 y2 (bothI j.n j.g y1.x y2.x) v1 HV1.out.2.hj.n HV1.out.2.hj.g).mono ?_
      rintro _ v2 ⟨rfl, hb9⟩
      have HV2 := hid (show S7 w j s y1 y2 P1 P2 v2 ∧ Nw w j nd s Sta.zero v2 from ⟨HV1.out.1.kept hb9, HV1.out.2.kept hb9⟩)
      refine hK.out _ _ HV2.out.1 (fun _ => ?_)
      clear hK K hb9 HV1
      have HR2 := hid (show _ ∧ ∀ s1, _ = some s1 → j.junc s y1 y2 (bothI j.n j.g y1.x y2.x) = s1 from HR.out)
      clear HR
      generalize bothI j.n j.g y1.x y2.x = xx at *
      generalize j.junc s y1 y2 xx = sj at *
      cases k1
      · refine wpAnyH_readsN [12, 13] (rest := 3) rfl (by kernel_rfl) (by kernel_rfl) HV2.out.1 ?_
        simp only [List.filterMap, List.getElem?_cons_zero, List.getElem?_cons_succ]
        iterate 2 go_big_quiet_step (fail)
        refine wpQuiet_nil ?_
        clear hNE
        refine wpAnyH_ready (rs := [14, 15]) (by kernel_rfl) (by simp) ?_
        refine AllReadyH.cons rfl (fun K hK => ?_) (AllReadyH.cons rfl (fun K hK => ?_) AllReadyH.nil)
        · rw [if_pos (by rfl)]
          go_simp
          refine hK.out _ _ HV2.out.1 (fun _ => ?_)
          clear hK K
          refine wpAnyH_ready (rs := [15]) (by kernel_rfl) (by simp) ?_
          refine AllReadyH.cons rfl (fun K hK => ?_) AllReadyH.nil
          rw [if_pos (by rfl)]
          refine wp_store_wrote' 75 (.tmp 6) (.tmp 58) rfl rfl (w.heap.size + 3) sj.vs Sta.zero.vs (by kernel_rfl) (by kernel_rfl) (Sta.va_one _) HV2.out.2.Z (by rw [Sta.len, Sta.len]) (by simp only [List.size_toArray, Sta.len]; kernel_rfl) ?_
          intro w8 W8
          have HV3 := hid (HV2.out.1.wrote W8 HP1.out HP2.out)
          refine hK.out _ _ HV3.out (fun _ => ?_)
          clear hK K
          refine wpAnyH_ready (rs := [16]) (by kernel_rfl) (by simp) ?_
          refine AllReadyH.cons rfl (fun K hK => ?_) AllReadyH.nil
          rw [if_pos (by rfl)]
          go_simp
          refine hK.out _ _ HV3.out (fun _ => ?_)
          clear hK K
          refine wpAnyH_done (by kernel_rfl) ?_ _
          refine ⟨(fun c hc => by cases hc), ?_⟩
          go_wp2
          refine bodyPost_ret (v := .tuple #[.agg sj.vs.toArray, .bool false]) (results_st Try.results75 rfl rfl W8.blk.range) rfl ⟨_, _, rfl, ?_, HR2.out.2, HV3.out.1⟩
          rw [← HR2.out.1]
          rfl
        · rw [if_pos (by rfl)]
          refine wp_store_wrote' 75 (.tmp 6) (.tmp 58) rfl rfl (w.heap.size + 3) sj.vs Sta.zero.vs (by kernel_rfl) (by kernel_rfl) (Sta.va_one _) HV2.out.2.Z (by rw [Sta.len, Sta.len]) (by simp only [List.size_toArray, Sta.len]; kernel_rfl) ?_
          intro w8 W8
          have HV3 := hid (HV2.out.1.wrote W8 HP1.out HP2.out)
          refine hK.out _ _ HV3.out (fun _ => ?_)
          clear hK K
          refine wpAnyH_ready (rs := [14]) (by kernel_rfl) (by simp) ?_
          refine AllReadyH.cons rfl (fun K hK => ?_) AllReadyH.nil
          rw [if_pos (by rfl)]
          go_simp
          refine hK.out _ _ HV3.out (fun _ => ?_)
          clear hK K
          refine wpAnyH_ready (rs := [16]) (by kernel_rfl) (by simp) ?_
          refine AllReadyH.cons rfl (fun K hK => ?_) AllReadyH.nil
          rw [if_pos (by rfl)]
          go_simp
          refine hK.out _ _ HV3.out (fun _ => ?_)
          clear hK K
          refine wpAnyH_done (by kernel_rfl) ?_ _
          refine ⟨(fun c hc => by cases hc), ?_⟩
          go_wp2
          refine bodyPost_ret (v := .tuple #[.agg sj.vs.toArray, .bool false]) (results_st Try.results75 rfl rfl W8.blk.range) rfl ⟨_, _, rfl, ?_, HR2.out.2, HV3.out.1⟩
          rw [← HR2.out.1]
          rfl
      · refine wpAnyH_readsN [12, 13] (rest := 3) rfl (by kernel_rfl) (by kernel_rfl) HV2.out.1 ?_
        simp only [List.filterMap, List.getElem?_cons_zero, List.getElem?_cons_succ]
        iterate 2 go_big_quiet_step (fail)
        refine wpQuiet_nil ?_
        clear hNE
        refine wpAnyH_ready (rs := [14, 15]) (by kernel_rfl) (by simp) ?_
        refine AllReadyH.cons rfl (fun K hK => ?_) (AllReadyH.cons rfl (fun K hK => ?_) AllReadyH.nil)
        · rw [if_pos (by rfl)]
          go_simp
          refine hK.out _ _ HV2.out.1 (fun _ => ?_)
          clear hK K
          refine wpAnyH_ready (rs := [15]) (by kernel_rfl) (by simp) ?_
          refine AllReadyH.cons rfl (fun K hK => ?_) AllReadyH.nil
          rw [if_pos (by rfl)]
          refine wp_store_wrote' 75 (.tmp 6) (.tmp 58) rfl rfl (w.heap.size + 3) sj.vs Sta.zero.vs (by kernel_rfl) (by kernel_rfl) (Sta.va_one _) HV2.out.2.Z (by rw [Sta.len, Sta.len]) (by simp only [List.size_toArray, Sta.len]; kernel_rfl) ?_
          intro w8 W8
          have HV3 := hid (HV2.out.1.wrote W8 HP1.out HP2.out)
          refine hK.out _ _ HV3.out (fun _ => ?_)
          clear hK K
          refine wpAnyH_ready (rs := [16]) (by kernel_rfl) (by simp) ?_
          refine AllReadyH.cons rfl (fun K hK => ?_) AllReadyH.nil
          rw [if_pos (by rfl)]
          go_simp
          refine hK.out _ _ HV3.out (fun _ => ?_)
          clear hK K
          refine wpAnyH_done (by kernel_rfl) ?_ _
          refine ⟨(fun c hc => by cases hc), ?_⟩
          go_wp2
          refine bodyPost_ret (v := .tuple #[.agg sj.vs.toArray, .bool k2]) (results_st Try.results75 rfl rfl W8.blk.range) rfl ⟨_, _, rfl, ?_, HR2.out.2, HV3.out.1⟩
          rw [← HR2.out.1]
          rfl
        · rw [if_pos (by rfl)]
          refine wp_store_wrote' 75 (.tmp 6) (.tmp 58) rfl rfl (w.heap.size + 3) sj.vs Sta.zero.vs (by kernel_rfl) (by kernel_rfl) (Sta.va_one _) HV2.out.2.Z (by rw [Sta.len, Sta.len]) (by simp only [List.size_toArray, Sta.len]; kernel_rfl) ?_
          intro w8 W8
          have HV3 := hid (HV2.out.1.wrote W8 HP1.out HP2.out)
          refine hK.out _ _ HV3.out (fun _ => ?_)
          clear hK K
          refine wpAnyH_ready (rs := [14]) (by kernel_rfl) (by simp) ?_
          refine AllReadyH.cons rfl (fun K hK => ?_) AllReadyH.nil
          rw [if_pos (by rfl)]
          go_simp
          refine hK.out _ _ HV3.out (fun _ => ?_)
          clear hK K
          refine wpAnyH_ready (rs := [16]) (by kernel_rfl) (by simp) ?_
          refine AllReadyH.cons rfl (fun K hK => ?_) AllReadyH.nil
          rw [if_pos (by rfl)]
          go_simp
          refine hK.out _ _ HV3.out (fun _ => ?_)
          clear hK K
          refine wpAnyH_done (by kernel_rfl) ?_ _
          refine ⟨(fun c hc => by cases hc), ?_⟩
          go_wp2
          refine bodyPost_ret (v := .tuple #[.agg sj.vs.toArray, .bool k2]) (results_st Try.results75 rfl rfl W8.blk.range) rfl ⟨_, _, rfl, ?_, HR2.out.2, HV3.out.1⟩
          rw [← HR2.out.1]
          rfl
  · have HF : Hid (chO j nd s = none) := by show _ = _; rw [HE.out, if_neg (by simpa using hq)]
    have bZ := HB.out.1.Z
    go_wp2_with (first | (refine wpList_buildI rfl 75 #[] rfl #[] rfl (run_build_st0 _) ?_) | (refine wpList_store_blk rfl rfl 75 (.tmp 6) (.tmp 22) rfl (w.heap.size + 3) Sta.zero.vs (by kernel_rfl) (by kernel_rfl) (Sta.va_one _) bZ rfl (by simp only [List.size_toArray, Sta.len]; kernel_rfl) ?_; intro w5 W))
    refine bodyPost_ret (v := .tuple #[.agg Sta.zero.vs.toArray, .bool false]) (results_st Try.results75 rfl rfl W.blk.range) rfl ⟨_, _, rfl, ?_, ?_, W.below (by omega) HB.out.1.bl⟩
    · rw [HF.out]; rfl
    · intro s1 h1; rw [HF.out] at h1; cases h1
end Go.Proofs.Ytbdhbgilaeldgaa
