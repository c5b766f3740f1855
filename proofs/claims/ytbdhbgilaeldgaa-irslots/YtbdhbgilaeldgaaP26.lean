/- Layer 10: attempt. -/
import Derived.Test.YtbdhbgilaeldgaaP25
namespace Go.Proofs.Ytbdhbgilaeldgaa
open Go Go.RowKit

def atO (j : Jd) (nd : Nd) (s : Sta) : Option Sta :=
  (j.list nd.bd ⟨s.at_, -1, s.set, false⟩).bind fun a =>
    (j.list nd.el ⟨bothI j.n j.g s.at_ a.x, -1, upd s.set nd.h.dst.toNat, false⟩).bind fun b =>
    if belB j.n j.g (leafT 1 (bothI j.n j.g s.at_ a.x)) (j.f.slots.ps nd.h.dst.toNat) = true then some (j.junc s a b b.x) else none
theorem at_ret {o1 : Option Sta} {G : Int → Option Sta} {bb : Int → Bool} {y1 y2 : Sta} {k1 k2 : Bool} {F : Sta → Sta → Sta} (h1 : k1 = o1.isSome) (e1 : ∀ s, o1 = some s → y1 = s) (h2 : k2 = (G y1.x).isSome) (e2 : ∀ s, G y1.x = some s → y2 = s) :
    (k1 && (k2 && bb y1.x)) = (o1.bind fun a => (G a.x).bind fun b => if bb a.x = true then some (F a b) else none).isSome ∧ ∀ s1, (o1.bind fun a => (G a.x).bind fun b => if bb a.x = true then some (F a b) else none) = some s1 → F y1 y2 = s1 := by
  cases o1 with
  | none => exact ⟨by rw [h1]; rfl, fun _ h => by cases h⟩
  | some a =>
    have ea := e1 a rfl
    subst ea
    show _ = ((G y1.x).bind fun b => if bb y1.x = true then some (F y1 b) else none).isSome ∧ ∀ s1, ((G y1.x).bind fun b => if bb y1.x = true then some (F y1 b) else none) = some s1 → _
    cases hG : G y1.x with
    | none => exact ⟨by rw [h1, h2, hG]; rfl, fun _ h => by cases h⟩
    | some b =>
      have eb := e2 b hG
      subst eb
      rw [h1, h2, hG]
      show (bb y1.x) = (if bb y1.x = true then some (F y1 y2) else none).isSome ∧ ∀ s1, (if bb y1.x = true then some (F y1 y2) else none) = some s1 → _
      cases bb y1.x
      · exact ⟨rfl, fun _ h => by cases h⟩
      · exact ⟨rfl, fun s1 h => Option.some.inj h⟩
def S6 (w : World) (j : Jd) (nd : Nd) (s y1 y2 : Sta) (P1 P2 BT : Nat) (x : Int) (q : World) : Prop := S7 w j s y1 y2 P1 P2 q ∧ Blk q (w.heap.size + 1) nd.vs 46 ∧ Blk q BT (leafT 1 x).vs 39
theorem S6.kept {w : World} {j : Jd} {nd : Nd} {s y1 y2 : Sta} {P1 P2 BT : Nat} {x : Int} {u u' : World} (h : S6 w j nd s y1 y2 P1 P2 BT x u) (hb : Below u.heap.size u u') : S6 w j nd s y1 y2 P1 P2 BT x u' := ⟨h.1.kept hb, h.2.1.kept hb, h.2.2.kept hb⟩
theorem S6.wrote {w : World} {j : Jd} {nd : Nd} {s y1 y2 : Sta} {P1 P2 BT : Nat} {x : Int} {u u' : World} {c : List Value} {t : TypeId} (h : S6 w j nd s y1 y2 P1 P2 BT x u) (W : WroteB u u' (w.heap.size + 3) c t) (h1 : w.heap.size + 4 ≤ P1) (h2 : w.heap.size + 4 ≤ P2) (h3 : w.heap.size + 4 ≤ BT) : S6 w j nd s y1 y2 P1 P2 BT x u' := ⟨h.1.wrote W h1 h2, W.keep h.2.1 (by omega), W.keep h.2.2 (by omega)⟩

set_option maxRecDepth 100000 in
set_option maxHeartbeats 32000000 in
theorem attempt_any (j : Jd) (nd : Nd) (s : Sta) (w : World) (hj : j.At w) (hn : nd.At w) (hd : 0 ≤ nd.h.dst) (hd1 : nd.h.dst < j.f.slots.len) (hs : j.f.slots.len ≤ 250)
    (hbd : ∀ t u, Below w.heap.size w u → ListC (j.list nd.bd t) j nd.bd t u) (hel : ∀ t u, Below w.heap.size w u → ListC (j.list nd.el t) j nd.el t u) :
    Calls Try.prog 76 #[.agg j.va, .agg nd.va, .agg s.va] w (StRet (atO j nd s) w) := by
  have HI := hid (nw_new w j nd s hj hn)
  unfold nwW at HI
  obtain ⟨dn, hdn⟩ : ∃ m : Nat, nd.h.dst = m := ⟨nd.h.dst.toNat, by omega⟩
  have HH := hid (show (nd.h.dst = dn ∧ dn < j.f.slots.len ∧ dn < 250) ∧ (∀ t u, Below w.heap.size w u → ListC (j.list nd.bd t) j nd.bd t u) ∧ (∀ t u, Below w.heap.size w u → ListC (j.list nd.el t) j nd.el t u) from ⟨⟨hdn, by omega, by omega⟩, hbd, hel⟩)
  have HJ := hid (show j.At w ∧ nd.At w from ⟨hj, hn⟩)
  have HE : Hid (atO j nd s = (j.list nd.bd ⟨s.at_, -1, s.set, false⟩).bind fun a => (j.list nd.el ⟨bothI j.n j.g s.at_ a.x, -1, upd s.set dn, false⟩).bind fun b => if belB j.n j.g (leafT 1 (bothI j.n j.g s.at_ a.x)) (j.f.slots.ps dn) = true then some (j.junc s a b b.x) else none) := by show _ = _; unfold atO; rw [hdn, Int.toNat_natCast]
  clear hj hn hd hd1 hs hbd hel hdn
  go_enter Try.func76, Try.ntmps76
  go_upto_region 1 with (refine wpList_alloc_st rfl rfl ?_)
  generalize ((((w.alloc (.cells j.va 57)).alloc (.cells nd.va 46)).alloc (.cells s.va 75)).alloc (.cells Sta.zero.va 75)) = w1 at *
  have bJ := HI.out.J
  have c12 := HI.out.N.cell 12 (v := .slice nd.bd.ao nd.bd.len nd.bd.cap) rfl
  have c0 := HI.out.S.cell 0 s.v0
  have rS := Sta.row HI.out.S
  have hC := HH.out.2.1 ⟨s.at_, -1, s.set, false⟩ w1 HI.out.bl
  unfold ListC at hC
  go_wp2_with (first | (refine wpList_load_mid rfl 57 (.tmp 3) rfl w.heap.size 0 (by kernel_rfl) j.vs _ bJ.range Try.underlying57 rfl (by kernel_rfl) ?_) | (refine wpList_load_mid rfl 73 (.tmp 20) rfl (w.heap.size + 2) 2 (by kernel_rfl) (setV s.set) _ rS Try.underlying73 rfl (by rw [setV_len]; kernel_rfl) ?_) | (refine wpList_buildI rfl 75 #[(0, .tmp 19), (1, .const (.int .i64 (-1))), (2, .tmp 21)] rfl #[(0, .int .i64 s.at_), (1, .int .i64 (-1)), (2, .agg (setV s.set).toArray)] (by kernel_rfl) (run_build_st3 s.at_ (-1) s.set _) ?_))
  refine Calls.mono hC ?_
  rintro _ w4 ⟨y1, k1, rfl, hk1, he1, hb4⟩
  have H1 := hid (show k1 = (j.list nd.bd ⟨s.at_, -1, s.set, false⟩).isSome ∧ (∀ t, j.list nd.bd ⟨s.at_, -1, s.set, false⟩ = some t → y1 = t) from ⟨hk1, he1⟩)
  have HB4 := hid (HI.out.kept hb4)
  clear hC bJ c12 c0 rS hk1 he1 hb4 HI
  have hN := below_alloc w4 (.cells y1.vs.toArray 75)
  have HB := hid (show Nw w j nd s Sta.zero (w4.alloc (.cells y1.vs.toArray 75)) ∧ Blk (w4.alloc (.cells y1.vs.toArray 75)) w4.heap.size y1.vs 75 from ⟨HB4.out.kept hN, Blk.new w4 _ _⟩)
  have HP1 := hid (HB4.out.sz)
  clear hN HB4
  go_upto_region 2 with (refine wpList_new_mid rfl rfl 75 rfl (.tmp 8) (.tmp 24) rfl Sta.zero.vs (alloc_st _) rfl y1.vs.toArray (by kernel_rfl) (by kernel_rfl) (by simp [Sta.len]) (by simp only [List.size_toArray, Sta.len]; kernel_rfl) (by simpa using y1.va_one) ?_)
  generalize (w4.alloc (.cells y1.vs.toArray 75)) = w5 at *
  generalize w4.heap.size = P1 at *
  go_cut [10] (fun c wx => ∃ B : Nat, c = .pointer (some ⟨B, 0, none⟩) ∧ Hid (Nw w j nd s Sta.zero wx ∧ Blk wx B (⟨bothI j.n j.g s.at_ y1.x, -1, s.set, false⟩ : Sta).vs 75 ∧ Blk wx P1 y1.vs 75 ∧ P1 < B ∧ w.heap.size + 4 ≤ B))
  case first =>
    have hC0 : ∀ q, (∃ x : Wd (fun q => Below w5.heap.size w5 q), q = x.w) → q.rangeAt w.heap.size 0 j.vs := by rintro _ ⟨x, rfl⟩; exact (HB.out.1.J.kept x.2).range
    have hC2 : ∀ q, (∃ x : Wd (fun q => Below w5.heap.size w5 q), q = x.w) → q.rangeAt (w.heap.size + 2) 2 (setV s.set) := by rintro _ ⟨x, rfl⟩; exact Sta.row (HB.out.1.S.kept x.2)
    have p0 : ∀ x : Wd (fun q => Below w5.heap.size w5 q), x.w.cell? ⟨w.heap.size + 2, 0, none⟩ = some (.int .i64 s.at_) := fun x => (HB.out.1.S.kept x.2).cell 0 s.v0
    have p1 : ∀ x : Wd (fun q => Below w5.heap.size w5 q), x.w.cell? ⟨P1, 1, none⟩ = some (.int .i64 y1.x) := fun x => (HB.out.2.kept x.2).cell 1 y1.v1
    have hNE : Nonempty (Wd (fun q => Below w5.heap.size w5 q)) := ⟨⟨_, Below.refl _ _⟩⟩
    refine wp_region_readsMN (fun q => Below w5.heap.size w5 q) [0, 1, 2, 3, 4, 6, 7] 4 (by kernel_rfl) rfl (by kernel_rfl) (hj_of (by kernel_rfl)) ((Below.refl _ _).drew) ?_
    simp only [List.filterMap, List.getElem?_cons_zero, List.getElem?_cons_succ]
    go_big_quiet_want
    refine quiet_load_row 57 (.tmp 3) rfl _ 0 (by kernel_rfl) j.vs _ hC0 Try.underlying57 rfl (by kernel_rfl) ?_
    simp only [Act.put, List.setIfInBounds_toArray, List.set_cons_succ, List.set_cons_zero]
    go_big_quiet_on
    iterate 5 go_big_quiet_step (fail)
    go_big_quiet_want
    refine quiet_load_row 73 (.tmp 32) rfl _ 2 (by kernel_rfl) (setV s.set) _ hC2 Try.underlying73 rfl (by rw [setV_len]; kernel_rfl) ?_
    simp only [Act.put, List.setIfInBounds_toArray, List.set_cons_succ, List.set_cons_zero]
    go_big_quiet_on
    refine wpQuiet_nil ?_
    clear hC0 hC2 p0 p1 hNE
    have HV0 := hid (show Below w5.heap.size w5 w5.drew from (Below.refl _ _).drew)
    generalize w5.drew = v0 at *
    refine wpAnyH_ready (rs := [5, 9]) (by kernel_rfl) (by simp) ?_
    refine AllReadyH.cons rfl (fun K hK => ?_) (AllReadyH.cons rfl (fun K hK => ?_) AllReadyH.nil)
    · rw [if_pos (by rfl)]
      go_simp
      refine (both_any j s.at_ y1.x v0 ((HJ.out.1.n.kept HB.out.1.bl).kept HV0.out) ((HJ.out.1.g.kept HB.out.1.bl).kept HV0.out)).mono ?_
      rintro _ v1 ⟨rfl, hb9⟩
      have HV1 := hid (Below.next HV0.out hb9)
      refine hK.out _ _ HV1.out (fun _ => ?_)
      clear hK K hb9
      refine wpAnyH_ready (rs := [8, 9]) (by kernel_rfl) (by simp) ?_
      refine AllReadyH.cons rfl (fun K hK => ?_) (AllReadyH.cons rfl (fun K hK => ?_) AllReadyH.nil)
      · rw [if_pos (by rfl)]
        refine wp_buildI 75 #[(0, .tmp 31), (1, .const (.int .i64 (-1))), (2, .tmp 33)] rfl #[(0, .int .i64 (bothI j.n j.g s.at_ y1.x)), (1, .int .i64 (-1)), (2, .agg (setV s.set).toArray)] (by kernel_rfl) (run_build_st3 _ (-1) s.set v1) ?_
        refine hK.out _ _ HV1.out (fun _ => ?_)
        simp only [Act.put, List.getElem_toArray, List.getElem_cons_zero, List.getElem_cons_succ, List.setIfInBounds_toArray, List.set_cons_succ, List.set_cons_zero]
        clear hK K
        refine wpAnyH_ready (rs := [9]) (by kernel_rfl) (by simp) ?_
        refine AllReadyH.cons rfl (fun K hK => ?_) AllReadyH.nil
        rw [if_pos (by rfl)]
        have hb9 := below_alloc v1 (.cells Sta.zero.va 75)
        have bNBA := hid (show Blk (v1.alloc (.cells Sta.zero.va 75)) v1.heap.size Sta.zero.vs 75 ∧ w5.heap.size ≤ v1.heap.size from ⟨Blk.new v1 _ _, HV1.out.size⟩)
        have HV2 := hid (Below.next HV1.out hb9)
        refine wp_alloc_stI rfl ?_
        refine hK.out _ _ HV2.out (fun _ => ?_)
        clear hb9
        generalize (v1.alloc (.cells Sta.zero.va 75)) = v2 at *
        generalize v1.heap.size = BA at *
        simp only [Act.put, List.getElem_toArray, List.getElem_cons_zero, List.getElem_cons_succ, List.setIfInBounds_toArray, List.set_cons_succ, List.set_cons_zero]
        clear hK K
        refine wpAnyH_ready (rs := [10]) (by kernel_rfl) (by simp) ?_
        refine AllReadyH.cons rfl (fun K hK => ?_) AllReadyH.nil
        rw [if_pos (by rfl)]
        refine wp_store_wrote' 75 (.tmp 10) (.tmp 34) rfl rfl BA (⟨bothI j.n j.g s.at_ y1.x, -1, s.set, false⟩ : Sta).vs Sta.zero.vs (by kernel_rfl) (by kernel_rfl) (Sta.va_one _) bNBA.out.1 rfl (by simp only [List.size_toArray, Sta.len]; kernel_rfl) ?_
        intro w8 W8
        have HW := hid (show Below w5.heap.size w5 w8 from W8.below bNBA.out.2 HV2.out)
        refine hK.out _ _ HW.out (fun _ => ?_)
        clear hK K
        refine wpAnyH_done (by kernel_rfl) ?_ _
        refine ⟨(fun c hc => by cases hc), ?_⟩
        go_wp2
        go_meet
        case rel => exact ⟨_, rfl, ⟨HB.out.1.kept HW.out, W8.blk, HB.out.2.kept HW.out, Nat.lt_of_lt_of_le HB.out.2.lt bNBA.out.2, Nat.le_trans HB.out.1.sz bNBA.out.2⟩⟩
      · rw [if_pos (by rfl)]
        have hb9 := below_alloc v1 (.cells Sta.zero.va 75)
        have bNBA := hid (show Blk (v1.alloc (.cells Sta.zero.va 75)) v1.heap.size Sta.zero.vs 75 ∧ w5.heap.size ≤ v1.heap.size from ⟨Blk.new v1 _ _, HV1.out.size⟩)
        have HV2 := hid (Below.next HV1.out hb9)
        refine wp_alloc_stI rfl ?_
        refine hK.out _ _ HV2.out (fun _ => ?_)
        clear hb9
        generalize (v1.alloc (.cells Sta.zero.va 75)) = v2 at *
        generalize v1.heap.size = BA at *
        simp only [Act.put, List.getElem_toArray, List.getElem_cons_zero, List.getElem_cons_succ, List.setIfInBounds_toArray, List.set_cons_succ, List.set_cons_zero]
        clear hK K
        refine wpAnyH_ready (rs := [8]) (by kernel_rfl) (by simp) ?_
        refine AllReadyH.cons rfl (fun K hK => ?_) AllReadyH.nil
        rw [if_pos (by rfl)]
        refine wp_buildI 75 #[(0, .tmp 31), (1, .const (.int .i64 (-1))), (2, .tmp 33)] rfl #[(0, .int .i64 (bothI j.n j.g s.at_ y1.x)), (1, .int .i64 (-1)), (2, .agg (setV s.set).toArray)] (by kernel_rfl) (run_build_st3 _ (-1) s.set v2) ?_
        refine hK.out _ _ HV2.out (fun _ => ?_)
        simp only [Act.put, List.getElem_toArray, List.getElem_cons_zero, List.getElem_cons_succ, List.setIfInBounds_toArray, List.set_cons_succ, List.set_cons_zero]
        clear hK K
        refine wpAnyH_ready (rs := [10]) (by kernel_rfl) (by simp) ?_
        refine AllReadyH.cons rfl (fun K hK => ?_) AllReadyH.nil
        rw [if_pos (by rfl)]
        refine wp_store_wrote' 75 (.tmp 10) (.tmp 34) rfl rfl BA (⟨bothI j.n j.g s.at_ y1.x, -1, s.set, false⟩ : Sta).vs Sta.zero.vs (by kernel_rfl) (by kernel_rfl) (Sta.va_one _) bNBA.out.1 rfl (by simp only [List.size_toArray, Sta.len]; kernel_rfl) ?_
        intro w8 W8
        have HW := hid (show Below w5.heap.size w5 w8 from W8.below bNBA.out.2 HV2.out)
        refine hK.out _ _ HW.out (fun _ => ?_)
        clear hK K
        refine wpAnyH_done (by kernel_rfl) ?_ _
        refine ⟨(fun c hc => by cases hc), ?_⟩
        go_wp2
        go_meet
        case rel => exact ⟨_, rfl, ⟨HB.out.1.kept HW.out, W8.blk, HB.out.2.kept HW.out, Nat.lt_of_lt_of_le HB.out.2.lt bNBA.out.2, Nat.le_trans HB.out.1.sz bNBA.out.2⟩⟩
    · rw [if_pos (by rfl)]
      have hb9 := below_alloc v0 (.cells Sta.zero.va 75)
      have bNBA := hid (show Blk (v0.alloc (.cells Sta.zero.va 75)) v0.heap.size Sta.zero.vs 75 ∧ w5.heap.size ≤ v0.heap.size from ⟨Blk.new v0 _ _, HV0.out.size⟩)
      have HV1 := hid (Below.next HV0.out hb9)
      refine wp_alloc_stI rfl ?_
      refine hK.out _ _ HV1.out (fun _ => ?_)
      clear hb9
      generalize (v0.alloc (.cells Sta.zero.va 75)) = v1 at *
      generalize v0.heap.size = BA at *
      simp only [Act.put, List.getElem_toArray, List.getElem_cons_zero, List.getElem_cons_succ, List.setIfInBounds_toArray, List.set_cons_succ, List.set_cons_zero]
      clear hK K
      refine wpAnyH_ready (rs := [5]) (by kernel_rfl) (by simp) ?_
      refine AllReadyH.cons rfl (fun K hK => ?_) AllReadyH.nil
      rw [if_pos (by rfl)]
      go_simp
      refine (both_any j s.at_ y1.x v1 ((HJ.out.1.n.kept HB.out.1.bl).kept HV1.out) ((HJ.out.1.g.kept HB.out.1.bl).kept HV1.out)).mono ?_
      rintro _ v2 ⟨rfl, hb9⟩
      have HV2 := hid (Below.next HV1.out hb9)
      refine hK.out _ _ HV2.out (fun _ => ?_)
      have bN2 := hid (bNBA.out.1.kept hb9)
      clear hK K hb9
      refine wpAnyH_ready (rs := [8]) (by kernel_rfl) (by simp) ?_
      refine AllReadyH.cons rfl (fun K hK => ?_) AllReadyH.nil
      rw [if_pos (by rfl)]
      refine wp_buildI 75 #[(0, .tmp 31), (1, .const (.int .i64 (-1))), (2, .tmp 33)] rfl #[(0, .int .i64 (bothI j.n j.g s.at_ y1.x)), (1, .int .i64 (-1)), (2, .agg (setV s.set).toArray)] (by kernel_rfl) (run_build_st3 _ (-1) s.set v2) ?_
      refine hK.out _ _ HV2.out (fun _ => ?_)
      simp only [Act.put, List.getElem_toArray, List.getElem_cons_zero, List.getElem_cons_succ, List.setIfInBounds_toArray, List.set_cons_succ, List.set_cons_zero]
      clear hK K
      refine wpAnyH_ready (rs := [10]) (by kernel_rfl) (by simp) ?_
      refine AllReadyH.cons rfl (fun K hK => ?_) AllReadyH.nil
      rw [if_pos (by rfl)]
      refine wp_store_wrote' 75 (.tmp 10) (.tmp 34) rfl rfl BA (⟨bothI j.n j.g s.at_ y1.x, -1, s.set, false⟩ : Sta).vs Sta.zero.vs (by kernel_rfl) (by kernel_rfl) (Sta.va_one _) bN2.out rfl (by simp only [List.size_toArray, Sta.len]; kernel_rfl) ?_
      intro w8 W8
      have HW := hid (show Below w5.heap.size w5 w8 from W8.below bNBA.out.2 HV2.out)
      refine hK.out _ _ HW.out (fun _ => ?_)
      clear hK K
      refine wpAnyH_done (by kernel_rfl) ?_ _
      refine ⟨(fun c hc => by cases hc), ?_⟩
      go_wp2
      go_meet
      case rel => exact ⟨_, rfl, ⟨HB.out.1.kept HW.out, W8.blk, HB.out.2.kept HW.out, Nat.lt_of_lt_of_le HB.out.2.lt bNBA.out.2, Nat.le_trans HB.out.1.sz bNBA.out.2⟩⟩
  case rest =>
    obtain ⟨BA, rfl, hI⟩ := hcut
    clear HB
    have HB := hid hI.out
    clear hI
    have HE2 : Hid (∀ y2 k2, k2 = (j.list nd.el ⟨bothI j.n j.g s.at_ y1.x, -1, upd s.set dn, false⟩).isSome → (∀ t, j.list nd.el ⟨bothI j.n j.g s.at_ y1.x, -1, upd s.set dn, false⟩ = some t → y2 = t) → (k1 && (k2 && belB j.n j.g (leafT 1 (bothI j.n j.g s.at_ y1.x)) (j.f.slots.ps dn))) = (atO j nd s).isSome ∧ ∀ s1, atO j nd s = some s1 → j.junc s y1 y2 y2.x = s1) := by
      intro y2 k2 h1 h2
      have := at_ret (G := fun x => j.list nd.el ⟨bothI j.n j.g s.at_ x, -1, upd s.set dn, false⟩) (bb := fun x => belB j.n j.g (leafT 1 (bothI j.n j.g s.at_ x)) (j.f.slots.ps dn)) (F := fun a b => j.junc s a b b.x) H1.out.1 H1.out.2 h1 h2
      rw [← HE.out] at this
      exact this
    clear HE H1
    generalize bothI j.n j.g s.at_ y1.x = bx at *
    have hdl : dn < 250 := HH.out.1.2.2
    have c1 := HB.out.1.N.cell 1 (v := .int .i64 nd.h.dst) rfl
    rw [HH.out.1.1] at c1
    have d2 := HB.out.2.1.cell (2 + dn) (Sta.v2 ⟨bx, -1, s.set, false⟩ hdl)
    have g2 := HB.out.2.1.frozen (2 + dn)
    have W1 := wrote_setCell (i := 2 + dn) HB.out.2.1 (.bool true)
    rw [Sta.put2 _ hdl] at W1
    have HB2 := hid (show Nw w j nd s Sta.zero (wc.setCell ⟨BA, 2 + dn, none⟩ (.bool true)) ∧ Blk (wc.setCell ⟨BA, 2 + dn, none⟩ (.bool true)) BA (⟨bx, -1, upd s.set dn, false⟩ : Sta).vs 75 ∧ Blk (wc.setCell ⟨BA, 2 + dn, none⟩ (.bool true)) P1 y1.vs 75 from (fun h1 h2 h3 h4 h5 => by
      have hb := W1.below (B0 := w.heap.size) (a := w) (by omega) h1.bl
      exact ⟨⟨hb, HJ.out.1.kept hb, HJ.out.2.kept hb, W1.keep h1.J (by omega), W1.keep h1.N (by omega), W1.keep h1.S (by omega), W1.keep h1.Z (by omega), by rw [W1.size]; exact h1.sz⟩, W1.blk, W1.keep h3 (by omega)⟩) HB.out.1 HB.out.2.1 HB.out.2.2.1 HB.out.2.2.2.1 HB.out.2.2.2.2)
    clear W1 HB
    go_upto_region 4 with fail
    generalize wc.setCell ⟨BA, 2 + dn, none⟩ (.bool true) = w6 at *
    clear c1 d2 g2
    have e0 := HB2.out.2.1.cell 0 (v := .int .i64 bx) rfl
    have hN := below_alloc w6 (.cells (leafT 1 bx).vs.toArray 39)
    have HB := hid (show Nw w j nd s Sta.zero (w6.alloc (.cells (leafT 1 bx).vs.toArray 39)) ∧ Blk (w6.alloc (.cells (leafT 1 bx).vs.toArray 39)) BA (⟨bx, -1, upd s.set dn, false⟩ : Sta).vs 75 ∧ Blk (w6.alloc (.cells (leafT 1 bx).vs.toArray 39)) P1 y1.vs 75 ∧ Blk (w6.alloc (.cells (leafT 1 bx).vs.toArray 39)) w6.heap.size (leafT 1 bx).vs 39 from ⟨HB2.out.1.kept hN, HB2.out.2.1.kept hN, HB2.out.2.2.kept hN, Blk.new w6 _ _⟩)
    have HPT := hid HB2.out.1.sz
    clear hN HB2
    go_upto_region 5 with (refine wpList_new_mid rfl rfl 39 rfl (.tmp 11) (.tmp 41) rfl zTv (alloc_ty _) rfl (leafT 1 bx).vs.toArray (by kernel_rfl) (by kernel_rfl) rfl (by kernel_rfl) (by simpa using (leafT 1 bx).vs_one) ?_)
    generalize (w6.alloc (.cells (leafT 1 bx).vs.toArray 39)) = w7 at *
    generalize w6.heap.size = BT at *
    clear e0
    generalize (⟨bx, -1, upd s.set dn, false⟩ : Sta) = st at *
    have bJ := HB.out.1.J
    have b9 := HB.out.2.1
    have c13 := HB.out.1.N.cell 13 (v := .slice nd.el.ao nd.el.len nd.el.cap) rfl
    have hC := HH.out.2.2 st w7 HB.out.1.bl
    unfold ListC at hC
    go_wp2_with (first | (refine wpList_load_mid rfl 57 (.tmp 3) rfl w.heap.size 0 (by kernel_rfl) j.vs _ bJ.range Try.underlying57 rfl (by kernel_rfl) ?_) | (refine wpList_load_mid rfl 75 (.tmp 10) rfl BA 0 (by kernel_rfl) st.vs _ b9.range Try.underlying75 rfl (by rw [Sta.len]; kernel_rfl) ?_))
    refine Calls.mono hC ?_
    rintro _ w8 ⟨y2, k2, rfl, hk2, he2, hb8⟩
    have HR := hid (HE2.out y2 k2 hk2 he2)
    have HB8 := hid (show Nw w j nd s Sta.zero w8 ∧ Blk w8 P1 y1.vs 75 ∧ Blk w8 BT (leafT 1 bx).vs 39 from ⟨HB.out.1.kept hb8, HB.out.2.2.1.kept hb8, HB.out.2.2.2.kept hb8⟩)
    clear hC bJ b9 c13 hk2 he2 hb8 HB HE2
    have hN := below_alloc w8 (.cells y2.vs.toArray 75)
    have HB := hid (show Nw w j nd s Sta.zero (w8.alloc (.cells y2.vs.toArray 75)) ∧ Blk (w8.alloc (.cells y2.vs.toArray 75)) P1 y1.vs 75 ∧ Blk (w8.alloc (.cells y2.vs.toArray 75)) w8.heap.size y2.vs 75 ∧ Blk (w8.alloc (.cells y2.vs.toArray 75)) BT (leafT 1 bx).vs 39 from ⟨HB8.out.1.kept hN, HB8.out.2.1.kept hN, Blk.new w8 _ _, HB8.out.2.2.kept hN⟩)
    have HP2 := hid HB8.out.1.sz
    clear hN HB8
    go_upto_region 6 with (refine wpList_new_mid rfl rfl 75 rfl (.tmp 12) (.tmp 48) rfl Sta.zero.vs (alloc_st _) rfl y2.vs.toArray (by kernel_rfl) (by kernel_rfl) (by simp [Sta.len]) (by simp only [List.size_toArray, Sta.len]; kernel_rfl) (by simpa using y2.va_one) ?_)
    generalize (w8.alloc (.cells y2.vs.toArray 75)) = w9 at *
    generalize w8.heap.size = P2 at *
    have hS : ∀ q, (∃ x : Wd (S6 w j nd s y1 y2 P1 P2 BT bx), q = x.w) → S6 w j nd s y1 y2 P1 P2 BT bx q := by rintro _ ⟨x, rfl⟩; exact x.2
    have q2 : ∀ x : Wd (S6 w j nd s y1 y2 P1 P2 BT bx), x.w.cell? ⟨P2, 1, none⟩ = some (.int .i64 y2.x) := fun x => x.2.1.2.2.2.2.cell 1 y2.v1
    have p0 : ∀ x : Wd (S6 w j nd s y1 y2 P1 P2 BT bx), x.w.cell? ⟨w.heap.size, 0, none⟩ = some (.slice j.n.ao j.n.len j.n.cap) := fun x => x.2.1.2.1.cell 0 rfl
    have p1 : ∀ x : Wd (S6 w j nd s y1 y2 P1 P2 BT bx), x.w.cell? ⟨w.heap.size, 1, none⟩ = some (.slice j.g.ao j.g.len j.g.cap) := fun x => x.2.1.2.1.cell 1 rfl
    have p17 : ∀ x : Wd (S6 w j nd s y1 y2 P1 P2 BT bx), x.w.cell? ⟨w.heap.size, 17, none⟩ = some (.slice j.f.slots.ao j.f.slots.len j.f.slots.cap) := fun x => x.2.1.2.1.cell 17 rfl
    rw [HJ.out.1.f.slots.nil (by have := HH.out.1.2.1; omega)] at p17
    have pd : ∀ x : Wd (S6 w j nd s y1 y2 P1 P2 BT bx), x.w.cell? ⟨w.heap.size + 1, 1, none⟩ = some (.int .i64 dn) := fun x => x.2.2.1.cell 1 (by show some (Value.int .i64 nd.h.dst) = _; rw [HH.out.1.1])
    have hdl' : (dn : Int) < j.f.slots.len := by have := HH.out.1.2.1; omega
    have hdb := (Below.refl w9.heap.size w9).drew
    have HV0 := hid (show S6 w j nd s y1 y2 P1 P2 BT bx w9.drew ∧ Nw w j nd s Sta.zero w9.drew from ⟨S6.kept ⟨⟨HB.out.1.bl, HB.out.1.J, HB.out.1.S, HB.out.2.1, HB.out.2.2.1⟩, HB.out.1.N, HB.out.2.2.2⟩ hdb, HB.out.1.kept hdb⟩)
    have hNE : Nonempty (Wd (S6 w j nd s y1 y2 P1 P2 BT bx)) := ⟨⟨_, HV0.out.1⟩⟩
    clear hdb HB
    refine wp_region_readsMN (S6 w j nd s y1 y2 P1 P2 BT bx) [0, 1, 2, 3, 4, 5, 7] 19 (by kernel_rfl) rfl (by kernel_rfl) (hj_of (by kernel_rfl)) HV0.out.1 ?_
    simp only [List.filterMap, List.getElem?_cons_zero, List.getElem?_cons_succ]
    generalize w9.drew = v0 at *
    go_big_quiet_want
    refine quiet_load_row 57 (.tmp 3) rfl _ 0 (by kernel_rfl) j.vs _ (fun q hq => (hS q hq).1.2.1.range) Try.underlying57 rfl (by kernel_rfl) ?_
    simp only [Act.put, List.setIfInBounds_toArray, List.set_cons_succ, List.set_cons_zero]
    go_big_quiet_on
    go_big_quiet_want
    refine quiet_load_row 75 (.tmp 5) rfl _ 0 (by kernel_rfl) s.vs _ (fun q hq => (hS q hq).1.2.2.1.range) Try.underlying75 rfl (by rw [Sta.len]; kernel_rfl) ?_
    simp only [Act.put, List.setIfInBounds_toArray, List.set_cons_succ, List.set_cons_zero]
    go_big_quiet_on
    go_big_quiet_want
    refine quiet_load_row 75 (.tmp 8) rfl _ 0 (by kernel_rfl) y1.vs _ (fun q hq => (hS q hq).1.2.2.2.1.range) Try.underlying75 rfl (by rw [Sta.len]; kernel_rfl) ?_
    simp only [Act.put, List.setIfInBounds_toArray, List.set_cons_succ, List.set_cons_zero]
    go_big_quiet_on
    go_big_quiet_want
    refine quiet_load_row 75 (.tmp 12) rfl _ 0 (by kernel_rfl) y2.vs _ (fun q hq => (hS q hq).1.2.2.2.2.range) Try.underlying75 rfl (by rw [Sta.len]; kernel_rfl) ?_
    simp only [Act.put, List.setIfInBounds_toArray, List.set_cons_succ, List.set_cons_zero]
    go_big_quiet_on
    iterate 3 go_big_quiet_step (fail)
    refine wpQuiet_nil ?_
    refine wpAnyH_ready (rs := [6]) (by kernel_rfl) (by simp) ?_
    refine AllReadyH.cons rfl (fun K hK => ?_) AllReadyH.nil
    rw [if_pos (by rfl)]
    go_simp
    refine (junction_any j s y1 y2 y2.x v0 HV0.out.2.hj.n HV0.out.2.hj.g).mono ?_
    rintro _ v2 ⟨rfl, hb9⟩
    have HV2 := hid (show S6 w j nd s y1 y2 P1 P2 BT bx v2 ∧ Nw w j nd s Sta.zero v2 from ⟨HV0.out.1.kept hb9, HV0.out.2.kept hb9⟩)
    refine hK.out _ _ HV2.out.1 (fun _ => ?_)
    clear hK K hb9 HV0
    generalize j.junc s y1 y2 y2.x = sj at *
    cases k1
    · refine wpAnyH_readsN [8, 9] (rest := 16) rfl (by kernel_rfl) (by kernel_rfl) HV2.out.1 ?_
      simp only [List.filterMap, List.getElem?_cons_zero, List.getElem?_cons_succ]
      iterate 2 go_big_quiet_step (fail)
      refine wpQuiet_nil ?_
      refine wpAnyH_ready (rs := [10]) (by kernel_rfl) (by simp) ?_
      refine AllReadyH.cons rfl (fun K hK => ?_) AllReadyH.nil
      rw [if_pos (by rfl)]
      go_simp
      refine hK.out _ _ HV2.out.1 (fun _ => ?_)
      clear hK K
      refine wpAnyH_readsN [11] (rest := 14) rfl (by kernel_rfl) (by kernel_rfl) HV2.out.1 ?_
      simp only [List.filterMap, List.getElem?_cons_zero, List.getElem?_cons_succ]
      go_big_quiet_step (fail)
      refine wpQuiet_nil ?_
      refine wpAnyH_readsN [12, 13, 14, 15, 16, 17, 18, 19, 20, 21] (rest := 4) rfl (by kernel_rfl) (by kernel_rfl) HV2.out.1 ?_
      simp only [List.filterMap, List.getElem?_cons_zero, List.getElem?_cons_succ]
      iterate 10 go_big_quiet_step (fail)
      refine wpQuiet_nil ?_
      clear hS q2 p0 p1 p17 pd hNE hdl'
      refine wpAnyH_ready (rs := [22]) (by kernel_rfl) (by simp) ?_
      refine AllReadyH.cons rfl (fun K hK => ?_) AllReadyH.nil
      rw [if_neg (unwanted (by kernel_rfl))]
      refine hK.out _ _ HV2.out.1 (fun _ => ?_)
      clear hK K
      refine wpAnyH_ready (rs := [23, 24]) (by kernel_rfl) (by simp) ?_
      refine AllReadyH.cons rfl (fun K hK => ?_) (AllReadyH.cons rfl (fun K hK => ?_) AllReadyH.nil)
      · rw [if_pos (by rfl)]
        go_simp
        refine hK.out _ _ HV2.out.1 (fun _ => ?_)
        clear hK K
        refine wpAnyH_ready (rs := [24]) (by kernel_rfl) (by simp) ?_
        refine AllReadyH.cons rfl (fun K hK => ?_) AllReadyH.nil
        rw [if_pos (by rfl)]
        refine wp_store_wrote' 75 (.tmp 6) (.tmp 56) rfl rfl (w.heap.size + 3) sj.vs Sta.zero.vs (by kernel_rfl) (by kernel_rfl) (Sta.va_one _) HV2.out.2.Z (by rw [Sta.len, Sta.len]) (by simp only [List.size_toArray, Sta.len]; kernel_rfl) ?_
        intro w10 W8
        have HVF := hid (HV2.out.1.wrote W8 HP1.out HP2.out HPT.out)
        refine hK.out _ _ HVF.out (fun _ => ?_)
        clear hK K
        refine wpAnyH_ready (rs := [25]) (by kernel_rfl) (by simp) ?_
        refine AllReadyH.cons rfl (fun K hK => ?_) AllReadyH.nil
        rw [if_pos (by rfl)]
        go_simp
        refine hK.out _ _ HVF.out (fun _ => ?_)
        clear hK K
        refine wpAnyH_done (by kernel_rfl) ?_ _
        refine ⟨(fun c hc => by cases hc), ?_⟩
        go_wp2
        refine bodyPost_ret (v := .tuple #[.agg sj.vs.toArray, .bool false]) (results_st Try.results76 rfl rfl W8.blk.range) rfl ⟨_, _, rfl, ?_, HR.out.2, HVF.out.1.1⟩
        rw [← HR.out.1]
        rfl
      · rw [if_pos (by rfl)]
        refine wp_store_wrote' 75 (.tmp 6) (.tmp 56) rfl rfl (w.heap.size + 3) sj.vs Sta.zero.vs (by kernel_rfl) (by kernel_rfl) (Sta.va_one _) HV2.out.2.Z (by rw [Sta.len, Sta.len]) (by simp only [List.size_toArray, Sta.len]; kernel_rfl) ?_
        intro w10 W8
        have HVF := hid (HV2.out.1.wrote W8 HP1.out HP2.out HPT.out)
        refine hK.out _ _ HVF.out (fun _ => ?_)
        clear hK K
        refine wpAnyH_ready (rs := [23]) (by kernel_rfl) (by simp) ?_
        refine AllReadyH.cons rfl (fun K hK => ?_) AllReadyH.nil
        rw [if_pos (by rfl)]
        go_simp
        refine hK.out _ _ HVF.out (fun _ => ?_)
        clear hK K
        refine wpAnyH_ready (rs := [25]) (by kernel_rfl) (by simp) ?_
        refine AllReadyH.cons rfl (fun K hK => ?_) AllReadyH.nil
        rw [if_pos (by rfl)]
        go_simp
        refine hK.out _ _ HVF.out (fun _ => ?_)
        clear hK K
        refine wpAnyH_done (by kernel_rfl) ?_ _
        refine ⟨(fun c hc => by cases hc), ?_⟩
        go_wp2
        refine bodyPost_ret (v := .tuple #[.agg sj.vs.toArray, .bool false]) (results_st Try.results76 rfl rfl W8.blk.range) rfl ⟨_, _, rfl, ?_, HR.out.2, HVF.out.1.1⟩
        rw [← HR.out.1]
        rfl
    · cases k2
      · refine wpAnyH_readsN [8, 9] (rest := 16) rfl (by kernel_rfl) (by kernel_rfl) HV2.out.1 ?_
        simp only [List.filterMap, List.getElem?_cons_zero, List.getElem?_cons_succ]
        iterate 2 go_big_quiet_step (fail)
        refine wpQuiet_nil ?_
        refine wpAnyH_ready (rs := [10]) (by kernel_rfl) (by simp) ?_
        refine AllReadyH.cons rfl (fun K hK => ?_) AllReadyH.nil
        rw [if_pos (by rfl)]
        go_simp
        refine hK.out _ _ HV2.out.1 (fun _ => ?_)
        clear hK K
        refine wpAnyH_readsN [11] (rest := 14) rfl (by kernel_rfl) (by kernel_rfl) HV2.out.1 ?_
        simp only [List.filterMap, List.getElem?_cons_zero, List.getElem?_cons_succ]
        go_big_quiet_step (fail)
        refine wpQuiet_nil ?_
        refine wpAnyH_readsN [12, 13, 14, 15, 16, 17, 18, 19, 20, 21] (rest := 4) rfl (by kernel_rfl) (by kernel_rfl) HV2.out.1 ?_
        simp only [List.filterMap, List.getElem?_cons_zero, List.getElem?_cons_succ]
        iterate 10 go_big_quiet_step (fail)
        refine wpQuiet_nil ?_
        clear hS q2 p0 p1 p17 pd hNE hdl'
        refine wpAnyH_ready (rs := [22]) (by kernel_rfl) (by simp) ?_
        refine AllReadyH.cons rfl (fun K hK => ?_) AllReadyH.nil
        rw [if_neg (unwanted (by kernel_rfl))]
        refine hK.out _ _ HV2.out.1 (fun _ => ?_)
        clear hK K
        refine wpAnyH_ready (rs := [23, 24]) (by kernel_rfl) (by simp) ?_
        refine AllReadyH.cons rfl (fun K hK => ?_) (AllReadyH.cons rfl (fun K hK => ?_) AllReadyH.nil)
        · rw [if_pos (by rfl)]
          go_simp
          refine hK.out _ _ HV2.out.1 (fun _ => ?_)
          clear hK K
          refine wpAnyH_ready (rs := [24]) (by kernel_rfl) (by simp) ?_
          refine AllReadyH.cons rfl (fun K hK => ?_) AllReadyH.nil
          rw [if_pos (by rfl)]
          refine wp_store_wrote' 75 (.tmp 6) (.tmp 56) rfl rfl (w.heap.size + 3) sj.vs Sta.zero.vs (by kernel_rfl) (by kernel_rfl) (Sta.va_one _) HV2.out.2.Z (by rw [Sta.len, Sta.len]) (by simp only [List.size_toArray, Sta.len]; kernel_rfl) ?_
          intro w10 W8
          have HVF := hid (HV2.out.1.wrote W8 HP1.out HP2.out HPT.out)
          refine hK.out _ _ HVF.out (fun _ => ?_)
          clear hK K
          refine wpAnyH_ready (rs := [25]) (by kernel_rfl) (by simp) ?_
          refine AllReadyH.cons rfl (fun K hK => ?_) AllReadyH.nil
          rw [if_pos (by rfl)]
          go_simp
          refine hK.out _ _ HVF.out (fun _ => ?_)
          clear hK K
          refine wpAnyH_done (by kernel_rfl) ?_ _
          refine ⟨(fun c hc => by cases hc), ?_⟩
          go_wp2
          refine bodyPost_ret (v := .tuple #[.agg sj.vs.toArray, .bool false]) (results_st Try.results76 rfl rfl W8.blk.range) rfl ⟨_, _, rfl, ?_, HR.out.2, HVF.out.1.1⟩
          rw [← HR.out.1]
          rfl
        · rw [if_pos (by rfl)]
          refine wp_store_wrote' 75 (.tmp 6) (.tmp 56) rfl rfl (w.heap.size + 3) sj.vs Sta.zero.vs (by kernel_rfl) (by kernel_rfl) (Sta.va_one _) HV2.out.2.Z (by rw [Sta.len, Sta.len]) (by simp only [List.size_toArray, Sta.len]; kernel_rfl) ?_
          intro w10 W8
          have HVF := hid (HV2.out.1.wrote W8 HP1.out HP2.out HPT.out)
          refine hK.out _ _ HVF.out (fun _ => ?_)
          clear hK K
          refine wpAnyH_ready (rs := [23]) (by kernel_rfl) (by simp) ?_
          refine AllReadyH.cons rfl (fun K hK => ?_) AllReadyH.nil
          rw [if_pos (by rfl)]
          go_simp
          refine hK.out _ _ HVF.out (fun _ => ?_)
          clear hK K
          refine wpAnyH_ready (rs := [25]) (by kernel_rfl) (by simp) ?_
          refine AllReadyH.cons rfl (fun K hK => ?_) AllReadyH.nil
          rw [if_pos (by rfl)]
          go_simp
          refine hK.out _ _ HVF.out (fun _ => ?_)
          clear hK K
          refine wpAnyH_done (by kernel_rfl) ?_ _
          refine ⟨(fun c hc => by cases hc), ?_⟩
          go_wp2
          refine bodyPost_ret (v := .tuple #[.agg sj.vs.toArray, .bool false]) (results_st Try.results76 rfl rfl W8.blk.range) rfl ⟨_, _, rfl, ?_, HR.out.2, HVF.out.1.1⟩
          rw [← HR.out.1]
          rfl
      · refine wpAnyH_readsN [8, 9] (rest := 16) rfl (by kernel_rfl) (by kernel_rfl) HV2.out.1 ?_
        simp only [List.filterMap, List.getElem?_cons_zero, List.getElem?_cons_succ]
        iterate 2 go_big_quiet_step (fail)
        refine wpQuiet_nil ?_
        refine wpAnyH_ready (rs := [10]) (by kernel_rfl) (by simp) ?_
        refine AllReadyH.cons rfl (fun K hK => ?_) AllReadyH.nil
        rw [if_pos (by rfl)]
        go_simp
        refine hK.out _ _ HV2.out.1 (fun _ => ?_)
        clear hK K
        refine wpAnyH_readsN [11] (rest := 14) rfl (by kernel_rfl) (by kernel_rfl) HV2.out.1 ?_
        simp only [List.filterMap, List.getElem?_cons_zero, List.getElem?_cons_succ]
        go_big_quiet_step (fail)
        refine wpQuiet_nil ?_
        refine wpAnyH_readsN [12, 13, 14, 15, 16, 17, 18, 19, 20, 21] (rest := 4) rfl (by kernel_rfl) (by kernel_rfl) HV2.out.1 ?_
        simp only [List.filterMap, List.getElem?_cons_zero, List.getElem?_cons_succ]
        iterate 2 go_big_quiet_step (fail)
        go_big_quiet_want
        refine quiet_load_row 39 (.tmp 11) rfl _ 0 (by kernel_rfl) (leafT 1 bx).vs _ (fun q hq => (hS q hq).2.2.range) Try.underlying39 rfl (by kernel_rfl) ?_
        simp only [Act.put, List.setIfInBounds_toArray, List.set_cons_succ, List.set_cons_zero]
        go_big_quiet_on
        iterate 6 go_big_quiet_step (fail)
        go_big_quiet_want
        refine quiet_load_row 39 (.tmp 70) rfl j.f.slots.b (j.f.slots.o + dn * 5) (by kernel_rfl) (j.f.slots.ps dn).vs _ (fun q hq => C5.row ((HJ.out.1.f.slots.kept (hS q hq).1.1).cells HH.out.1.2.1)) Try.underlying39 rfl (by kernel_rfl) ?_
        simp only [Act.put, List.setIfInBounds_toArray, List.set_cons_succ, List.set_cons_zero]
        go_big_quiet_on
        refine wpQuiet_nil ?_
        clear hS q2 p0 p1 p17 pd hNE hdl'
        refine wpAnyH_ready (rs := [22]) (by kernel_rfl) (by simp) ?_
        refine AllReadyH.cons rfl (fun K hK => ?_) AllReadyH.nil
        rw [if_pos (by rfl)]
        go_simp
        refine (Below_any2 j.n j.g (leafT 1 bx) (j.f.slots.ps dn) v2 HV2.out.2.hj.n HV2.out.2.hj.g (leaf_at _ _ _) (HV2.out.2.hj.f.slots.part HH.out.1.2.1)).mono ?_
        rintro _ v3 ⟨rfl, hb9⟩
        have HV3 := hid (show S6 w j nd s y1 y2 P1 P2 BT bx v3 ∧ Nw w j nd s Sta.zero v3 from ⟨HV2.out.1.kept hb9, HV2.out.2.kept hb9⟩)
        refine hK.out _ _ HV3.out.1 (fun _ => ?_)
        clear hK K hb9 HV2
        generalize belB j.n j.g (leafT 1 bx) (j.f.slots.ps dn) = b3 at *
        refine wpAnyH_ready (rs := [23, 24]) (by kernel_rfl) (by simp) ?_
        refine AllReadyH.cons rfl (fun K hK => ?_) (AllReadyH.cons rfl (fun K hK => ?_) AllReadyH.nil)
        · rw [if_pos (by rfl)]
          go_simp
          refine hK.out _ _ HV3.out.1 (fun _ => ?_)
          clear hK K
          refine wpAnyH_ready (rs := [24]) (by kernel_rfl) (by simp) ?_
          refine AllReadyH.cons rfl (fun K hK => ?_) AllReadyH.nil
          rw [if_pos (by rfl)]
          refine wp_store_wrote' 75 (.tmp 6) (.tmp 56) rfl rfl (w.heap.size + 3) sj.vs Sta.zero.vs (by kernel_rfl) (by kernel_rfl) (Sta.va_one _) HV3.out.2.Z (by rw [Sta.len, Sta.len]) (by simp only [List.size_toArray, Sta.len]; kernel_rfl) ?_
          intro w10 W8
          have HVF := hid (HV3.out.1.wrote W8 HP1.out HP2.out HPT.out)
          refine hK.out _ _ HVF.out (fun _ => ?_)
          clear hK K
          refine wpAnyH_ready (rs := [25]) (by kernel_rfl) (by simp) ?_
          refine AllReadyH.cons rfl (fun K hK => ?_) AllReadyH.nil
          rw [if_pos (by rfl)]
          go_simp
          refine hK.out _ _ HVF.out (fun _ => ?_)
          clear hK K
          refine wpAnyH_done (by kernel_rfl) ?_ _
          refine ⟨(fun c hc => by cases hc), ?_⟩
          go_wp2
          refine bodyPost_ret (v := .tuple #[.agg sj.vs.toArray, .bool b3]) (results_st Try.results76 rfl rfl W8.blk.range) rfl ⟨_, _, rfl, ?_, HR.out.2, HVF.out.1.1⟩
          rw [← HR.out.1]
          rfl
        · rw [if_pos (by rfl)]
          refine wp_store_wrote' 75 (.tmp 6) (.tmp 56) rfl rfl (w.heap.size + 3) sj.vs Sta.zero.vs (by kernel_rfl) (by kernel_rfl) (Sta.va_one _) HV3.out.2.Z (by rw [Sta.len, Sta.len]) (by simp only [List.size_toArray, Sta.len]; kernel_rfl) ?_
          intro w10 W8
          have HVF := hid (HV3.out.1.wrote W8 HP1.out HP2.out HPT.out)
          refine hK.out _ _ HVF.out (fun _ => ?_)
          clear hK K
          refine wpAnyH_ready (rs := [23]) (by kernel_rfl) (by simp) ?_
          refine AllReadyH.cons rfl (fun K hK => ?_) AllReadyH.nil
          rw [if_pos (by rfl)]
          go_simp
          refine hK.out _ _ HVF.out (fun _ => ?_)
          clear hK K
          refine wpAnyH_ready (rs := [25]) (by kernel_rfl) (by simp) ?_
          refine AllReadyH.cons rfl (fun K hK => ?_) AllReadyH.nil
          rw [if_pos (by rfl)]
          go_simp
          refine hK.out _ _ HVF.out (fun _ => ?_)
          clear hK K
          refine wpAnyH_done (by kernel_rfl) ?_ _
          refine ⟨(fun c hc => by cases hc), ?_⟩
          go_wp2
          refine bodyPost_ret (v := .tuple #[.agg sj.vs.toArray, .bool b3]) (results_st Try.results76 rfl rfl W8.blk.range) rfl ⟨_, _, rfl, ?_, HR.out.2, HVF.out.1.1⟩
          rw [← HR.out.1]
          rfl
end Go.Proofs.Ytbdhbgilaeldgaa
