/- Layer 16: the statement RegionsMeet, walked. -/
import Derived.Test.YtibhcbdofadamaaP21
import Derived.Test.YtibhcbdofadamaaP22
import Derived.Deep.CutBlock
import Derived.BigQuiet
namespace Go.Proofs.Ytibhcbdofadamaa
open Go Go.RowKit

set_option maxRecDepth 100000 in
set_option maxHeartbeats 16000000 in
theorem regionsMeet_any (f : Cf) (g : Rw Bool) (at_ : Int) (w : World) (hf : f.At w) (hg : BlAt w g) (ha : I64 at_) : Calls Try.prog 5 #[.agg f.vs.toArray, .slice g.ao g.len g.cap, .int .i64 at_] w fun e w' => e = .returned (.bool true) ∧ Below w.heap.size w w' := by
  have H0 := hyd (Fb.new w f)
  have HD := hyd (show (f.At w ∧ BlAt w g) ∧ True from ⟨⟨hf, hg⟩, trivial⟩)
  clear hf hg
  generalize hw : w.alloc (.cells f.vs.toArray 30) = u0 at *
  have h0 := awake16_any u0
  go_enter Try.func5, Try.ntmps5
  go_wp2_with fail
  refine h0.mono ?_
  rintro _ u1 ⟨rfl, hb⟩
  have H1 := hyd (H0.out.kept hb)
  clear h0 hb H0 hw
  have rF := H1.out.b.range
  have h0 := few16_any f g u1
  have HFW : Hid (f.fewR g = true → f.cd.len ≤ 40 ∧ f.hd.len ≤ 40) := fun h => by unfold Cf.fewR at h; simp only [Bool.and_eq_true, decide_eq_true_eq] at h; exact h.1
  generalize f.fewR g = bb at *
  go_wp2_with (refine wpList_loadW (by kernel_rfl) 30 (.tmp 3) rfl w.heap.size 0 (by kernel_rfl) f.vs _ rF Try.underlying30 rfl (by kernel_rfl) ?_)
  refine h0.mono ?_
  rintro _ u2 ⟨rfl, hb⟩
  have H2 := hyd (H1.out.kept hb)
  clear h0 hb H1 rF
  cases bb
  · have h0 := awake16_any u2
    go_wp2_with fail
    refine h0.mono ?_
    rintro _ u9 ⟨rfl, hb⟩
    have H9 := hyd (Below.next H2.out.bl hb)
    clear h0 hb
    go_wp2
    go_ret
    exact ⟨rfl, H9.out⟩
  have HN := hyd (HFW.out (by simp))
  clear HFW
  have rF := H2.out.b.range
  have h0 := rahead_any f u2 (Cf.At.kept H2.out.bl HD.out.1.1)
  go_wp2_with (refine wpList_loadW (by kernel_rfl) 30 (.tmp 3) rfl w.heap.size 0 (by kernel_rfl) f.vs _ rF Try.underlying30 rfl (by kernel_rfl) ?_)
  refine h0.mono ?_
  rintro _ u3 ⟨bb, rfl, hAg, hb⟩
  have H3 := hyd (H2.out.kept hb)
  have HAG := hyd hAg
  clear h0 hb H2 rF hAg
  cases bb
  · have h0 := awake16_any u3
    go_wp2_with fail
    refine h0.mono ?_
    rintro _ u9 ⟨rfl, hb⟩
    have H9 := hyd (Below.next H3.out.bl hb)
    clear h0 hb
    go_wp2
    go_ret
    exact ⟨rfl, H9.out⟩
  have HA := hyd (HAG.out rfl)
  clear HAG
  have hn : f.cd.len ≤ 100000 := by have := HN.out; omega
  have hh : f.hd.len ≤ 100000 := by have := HN.out; omega
  have HI := hyd ha
  clear ha
  have c14 := H3.out.b.cell 14 rfl
  by_cases a1 : at_ < 0
  · have h0 := awake16_any u3
    go_wp2_with fail
    refine h0.mono ?_
    rintro _ u9 ⟨rfl, hb⟩
    have H9 := hyd (Below.next H3.out.bl hb)
    clear h0 hb
    go_wp2
    go_ret
    exact ⟨rfl, H9.out⟩
  by_cases a2 : (f.cd.len : Int) ≤ at_
  · have h0 := awake16_any u3
    go_wp2_with fail
    refine h0.mono ?_
    rintro _ u9 ⟨rfl, hb⟩
    have H9 := hyd (Below.next H3.out.bl hb)
    clear h0 hb
    go_wp2
    go_ret
    exact ⟨rfl, H9.out⟩
  obtain ⟨p, rfl⟩ : ∃ p : Nat, at_ = p := ⟨at_.toNat, by omega⟩
  have hp : p < f.cd.len := by omega
  go_upto_region 3 with fail
  clear a1 a2 c14
  have rF := H3.out.b.range
  have h0 := gjoin_any f g p u3 (Cf.At.kept H3.out.bl HD.out.1.1) (BlAt.kept HD.out.1.2 H3.out.bl) HA.out hp hh
  have HJC := hyd (Cf.jn_cases f g p)
  generalize hz : f.jn g p = z at *
  go_wp2_with (refine wpList_load_mid rfl 30 (.tmp 3) rfl w.heap.size 0 (by kernel_rfl) f.vs _ rF Try.underlying30 rfl (by kernel_rfl) ?_)
  refine h0.mono ?_
  rintro _ u4 ⟨rfl, hb⟩
  have H4 := hyd (H3.out.kept hb)
  clear h0 hb H3 rF
  rcases HJC.out with ⟨e, _⟩ | ⟨j, e, hJ⟩
  · subst e
    clear HJC hz
    go_wp2
    go_ret
    exact ⟨rfl, H4.out.bl⟩
  subst e
  clear HJC
  have HJ := hyd hJ
  have HUP := hyd (HA.out.up g)
  have HJL := hyd (HUP.out.jn_place hp hJ.1)
  have HZ := hyd hz
  clear hJ hz
  have e1 : ((j : Int) == -1) = false := by simp
  go_upto_region 6 with fail
  clear e1
  have D5 := (Below.refl u4.heap.size u4).drew
  have H5 := hyd (H4.out.kept D5)
  have hCF : ∀ q, (∃ x : Wd (fun q => Blk q w.heap.size f.vs 30), q = x.w) → q.rangeAt w.heap.size 0 f.vs := by rintro _ ⟨x, rfl⟩; exact x.2.range
  have hNE : Nonempty (Wd (fun q => Blk q w.heap.size f.vs 30)) := ⟨⟨_, H5.out.b⟩⟩
  refine wp_region_readsL (fun q => Blk q w.heap.size f.vs 30) 8 [0, 1, 2, 3, 4, 6] 3 (by kernel_rfl) rfl (by kernel_rfl) H5.out.b ?_
  simp only [List.filterMap, List.getElem?_cons_zero, List.getElem?_cons_succ]
  go_big_quiet_want
  refine quiet_load_rowF 30 (.tmp 3) rfl w.heap.size 0 (by kernel_rfl) f.vs _ hCF Try.underlying30 rfl (by kernel_rfl) ?_
  simp only [Act.put, List.setIfInBounds_toArray, List.set_cons_succ, List.set_cons_zero]
  go_big_quiet_on
  go_big_quiet_step (fail)
  go_big_quiet_want
  refine quiet_load_rowF 30 (.tmp 3) rfl w.heap.size 0 (by kernel_rfl) f.vs _ hCF Try.underlying30 rfl (by kernel_rfl) ?_
  simp only [Act.put, List.setIfInBounds_toArray, List.set_cons_succ, List.set_cons_zero]
  go_big_quiet_on
  iterate 3 go_big_quiet_step (fail)
  refine wpQuiet_nil ?_
  clear hCF hNE D5 H4
  generalize u4.drew = y0 at *
  refine wpAnyL_ready (rs := [5]) (by kernel_rfl) (by simp) ?_
  refine AllReadyL.cons rfl (fun K hK => ?_) AllReadyL.nil
  rw [if_pos (by rfl)]
  go_simp
  refine (ways_any f g p y0 (Cf.At.kept H5.out.bl HD.out.1.1) (BlAt.kept HD.out.1.2 H5.out.bl) hp).mono ?_
  rintro _ y1 ⟨v1, rfl, hO, hb⟩
  obtain ⟨rw1, rfl, hrw, hrwl⟩ := hO.readW hn
  have H6 := hyd (show Fb w f w.heap.size y1 ∧ NmAt y1 rw1 from ⟨H5.out.kept hb, hrw⟩)
  have HE : Hid (f.rch g rw1 j = (Fl.lst f.cd.len (Fl.Rch (f.wy g) (f.wy g p) j)).map fun q : Nat => (q : Int)) := Cf.rch_ways hp hrwl
  clear hO hrw hrwl hb H5
  refine hK.out _ _ (fun _ => H6.out.1.b) ?_
  clear hK K
  refine wpAnyL_ready (rs := [7]) (by kernel_rfl) (by simp) ?_
  refine AllReadyL.cons rfl (fun K hK => ?_) AllReadyL.nil
  rw [if_pos (by rfl)]
  go_simp
  refine (reach_any f g rw1 j y1 (Cf.At.kept H6.out.1.bl HD.out.1.1) (BlAt.kept HD.out.1.2 H6.out.1.bl) H6.out.2 hn).mono ?_
  rintro _ y2 ⟨v2, rfl, hO, hb⟩
  obtain ⟨r, rfl, hr, hrl⟩ := hO.readR hn
  have H7 := hyd (show Fb w f w.heap.size y2 ∧ NmAt y2 r from ⟨H6.out.1.kept hb, hr⟩)
  have HQ : Hid (∀ k, k < r.len → ∃ q : Nat, r.x k = q ∧ q < f.cd.len ∧ (f.lv g q = false ∧ (f.ws g q).length ≠ 0) ∧ q < j) := fun k hk => by
    have h1 : r.x k ∈ r.ls := Rw.mem_ls.2 ⟨k, hk, rfl⟩
    rw [hrl, HE.out] at h1
    obtain ⟨q, e, hq, hR⟩ := mem_lstm.1 h1
    exact ⟨q, e, hq, (alive_iff hq).1 (HJ.out.1.2 q hR), (HJ.out.1.within HUP.out hR).2⟩
  have hbr := hr.bound
  have HNR := hyd hr.nil
  clear hO hr hrl hb H6 HE
  refine hK.out _ _ (fun _ => H7.out.1.b) ?_
  clear hK K
  refine wpAnyL_ready (rs := [8]) (by kernel_rfl) (by simp) ?_
  refine AllReadyL.cons rfl (fun K hK => ?_) AllReadyL.nil
  rw [if_pos (by rfl)]
  go_simp
  refine hK.out _ _ (fun h => absurd rfl h) ?_
  clear hK K
  refine wpAnyL_done (by kernel_rfl) ?_ _
  refine ⟨(fun c hc => by cases hc), ?_⟩
  go_upto_block 0 with fail
  go_cut [9] (fun _ wx => Hid (Fb w f w.heap.size wx))
  case first =>
    go_wp2_with fail
    go_loopw [9] (fun i wr => ∃ (k : Nat), k ≤ r.len ∧ i = .int .i64 k ∧ (Fb w f w.heap.size wr ∧ NmAt wr r)) (fun i _ => r.len - (intOf i).toNat)
    case atStart => exact ⟨0, Nat.zero_le _, rfl, H7.out⟩
    case round =>
      clear H7
      obtain ⟨k, hk, rfl, hB⟩ := hrel
      have HB := hyd hB
      clear hB
      by_cases hlt : k < r.len
      · as_aux_lemma =>
        have ik : (k : Int) < r.len := by omega
        obtain ⟨q, hq, hql, hal, hqj⟩ := HQ.out k hlt
        have HR0 : Hid (∀ u, NmAt u r → u.cell? ⟨r.b, r.o + k, none⟩ = some (.int .i64 q)) := fun u hu => by have := hu.row k hlt 0 _ rfl; simp only [hq] at this; simpa using this
        have HAL := hyd hal.2
        have hlv := hal.1
        clear hq hal HQ
        rw [HNR.out (by omega)]
        go_upto_region 10 with fail
        have DW := (Below.refl wr.heap.size wr).drew
        have HBd := hyd (show Fb w f w.heap.size wr.drew ∧ NmAt wr.drew r from ⟨HB.out.1.kept DW, HB.out.2.kept DW⟩)
        have hCF : ∀ u, (∃ x : Wd (fun u => Blk u w.heap.size f.vs 30 ∧ NmAt u r), u = x.w) → u.rangeAt w.heap.size 0 f.vs := by rintro _ ⟨x, rfl⟩; exact x.2.1.range
        have x1 : ∀ x : Wd (fun u => Blk u w.heap.size f.vs 30 ∧ NmAt u r), x.w.cell? ⟨r.b, r.o + k, none⟩ = some (.int .i64 q) := fun x => HR0.out x.w x.2.2
        have hNE : Nonempty (Wd (fun u => Blk u w.heap.size f.vs 30 ∧ NmAt u r)) := ⟨⟨_, HBd.out.1.b, HBd.out.2⟩⟩
        refine wp_region_readsQN (fun u => Blk u w.heap.size f.vs 30 ∧ NmAt u r) [0, 1, 2, 3, 4, 5] 20 (by kernel_rfl) rfl (by kernel_rfl) (hj_ofQ (by kernel_rfl)) ⟨HBd.out.1.b, HBd.out.2⟩ ?_
        simp only [List.filterMap, List.getElem?_cons_zero, List.getElem?_cons_succ]
        go_big_quiet_want
        refine quiet_load_rowF 30 (.tmp 3) rfl w.heap.size 0 (by kernel_rfl) f.vs _ hCF Try.underlying30 rfl (by kernel_rfl) ?_
        simp only [Act.put, List.setIfInBounds_toArray, List.set_cons_succ, List.set_cons_zero]
        go_big_quiet_on
        iterate 5 (go_big_quiet_step (fail))
        refine wpQuiet_nil ?_
        clear HB DW
        generalize wr.drew = y0 at *
        refine wpAnyH_ready (rs := [6]) (by kernel_rfl) (by simp) ?_
        refine AllReadyH.cons rfl (fun K hK => ?_) AllReadyH.nil
        rw [if_pos (by rfl)]
        go_simp
        have h0 := leaves_any f g q y0 (Cf.At.kept HBd.out.1.bl HD.out.1.1) (BlAt.kept HD.out.1.2 HBd.out.1.bl) hql
        rw [hlv] at h0
        refine h0.mono ?_
        rintro _ y1 ⟨rfl, hb⟩
        have HT := hyd (show Fb w f w.heap.size y1 ∧ NmAt y1 r from ⟨HBd.out.1.kept hb, HBd.out.2.kept hb⟩)
        clear h0 hb HBd hlv
        refine hK.out _ _ ⟨HT.out.1.b, HT.out.2⟩ (fun _ => ?_)
        clear hK K
        refine wpAnyH_readsQm [7, 8, 9, 10, 11, 12, 13] (rest := 12) rfl (by kernel_rfl) (by kernel_rfl) ⟨HT.out.1.b, HT.out.2⟩ ?_
        simp only [List.filterMap, List.getElem?_cons_zero, List.getElem?_cons_succ]
        go_big_quiet_step (fail)
        go_big_quiet_want
        refine quiet_load_rowF 30 (.tmp 3) rfl w.heap.size 0 (by kernel_rfl) f.vs _ hCF Try.underlying30 rfl (by kernel_rfl) ?_
        simp only [Act.put, List.setIfInBounds_toArray, List.set_cons_succ, List.set_cons_zero]
        go_big_quiet_on
        iterate 5 (go_big_quiet_step (fail))
        refine wpQuiet_nil ?_
        clear hCF x1 hNE
        refine wpAnyH_ready (rs := [14]) (by kernel_rfl) (by simp) ?_
        refine AllReadyH.cons rfl (fun K hK => ?_) AllReadyH.nil
        rw [if_pos (by rfl)]
        go_simp
        have h0 := ways_any f g q y1 (Cf.At.kept HT.out.1.bl HD.out.1.1) (BlAt.kept HD.out.1.2 HT.out.1.bl) hql
        refine h0.mono ?_
        rintro _ y2 ⟨vw, rfl, hO, hb⟩
        obtain ⟨rw2, rfl, _, hrw2⟩ := hO.readW hn
        have HT2 := hyd (show Fb w f w.heap.size y2 ∧ NmAt y2 r from ⟨HT.out.1.kept hb, HT.out.2.kept hb⟩)
        have e2 : ((rw2.len : Int) == 0) = false := by
          have h1 := rw2.ls_len
          rw [hrw2] at h1
          have := HAL.out
          simp; omega
        clear h0 hO hb HT hrw2
        refine hK.out _ _ ⟨HT2.out.1.b, HT2.out.2⟩ (fun _ => ?_)
        clear hK K
        have x1 : ∀ x : Gr y2, x.w.cell? ⟨r.b, r.o + k, none⟩ = some (.int .i64 q) := fun x => HR0.out x.w (HT2.out.2.kept x.bl)
        have hNE : Nonempty (Gr y2) := ⟨⟨_, Below.refl _ _⟩⟩
        have e3 : ¬ (j : Int) < q := by omega
        refine wpAnyH_grR 15 rfl (by kernel_rfl) (fun u hu => ⟨HT2.out.1.b.kept hu, HT2.out.2.kept hu⟩) ?_
        simp only [List.drop]
        iterate 11 (go_big_quiet_step (fail))
        refine wpQuiet_nil ?_
        rintro y3 ⟨xg, rfl⟩
        have Bg := xg.bl
        generalize xg.w = y3 at Bg ⊢
        have HT3 := hyd (show Fb w f w.heap.size y3 ∧ NmAt y3 r from ⟨HT2.out.1.kept Bg, HT2.out.2.kept Bg⟩)
        clear x1 hNE HT2 Bg xg
        refine ⟨(fun c hc => by cases hc), ?_⟩
        go_wp2
        go_roundw
        case rel => exact ⟨k + 1, by omega, by go_num, HT3.out⟩
        case measure => simp [intOf]; omega
      · have ik : ¬ (k : Int) < r.len := by omega
        go_wp2
        go_meet
        case rel => exact HB.out.1
  case rest =>
  have H8 := hyd hcut.out
  clear hcut H7 HQ HNR
  have c14 := H8.out.b.cell 14 rfl
  have rF := H8.out.b.range
  have ij : (j : Int) < f.cd.len := by have := HJL.out; omega
  have HIN : Hid (∀ t : Rw Int, t.ls = f.rch g ⟨some ⟨wc.heap.size, 0, none⟩, wc.heap.size, 0, 1, 1, fun _ => p⟩ (-1) → t.has j = true) := fun t ht => by
    refine Rw.has_true ?_
    rw [ht]
    refine Cf.mem_rch.2 ⟨j, rfl, ?_⟩
    unfold Cf.Rq
    rw [rch_wy (fun _ h => h.2)]
    refine Fl.Rch.mono (fun q hq => ?_) (HJ.out.1.come HUP.out)
    subst hq
    exact ⟨by unfold Rw.ls; simp, hp⟩
  have h0 : ∀ u, Below wc.heap.size (wc.alloc (.cells #[.int .i64 p] 3)) u → True := fun _ _ => trivial
  clear h0
  have B9 := below_alloc wc (.cells #[.int .i64 p] 3)
  have H9 := hyd (H8.out.kept B9)
  have h0 := reach_any f g ⟨some ⟨wc.heap.size, 0, none⟩, wc.heap.size, 0, 1, 1, fun _ => p⟩ (-1) (wc.alloc (.cells #[.int .i64 p] 3)) (Cf.At.kept H9.out.bl HD.out.1.1) (BlAt.kept HD.out.1.2 H9.out.bl) ⟨fun _ => rfl, by show 1 ≤ _; omega, fun i hi => by
    have hi1 : i < 1 := hi
    have : i = 0 := by omega
    subst this
    exact (Blk.new wc [.int .i64 p] 3).range, fun i hi => ⟨by show -9223372036854775808 ≤ (p : Int); omega, by show (p : Int) ≤ 9223372036854775807; omega⟩⟩ hn
  clear B9
  go_wp2_with (refine wpList_loadW (by kernel_rfl) 30 (.tmp 3) rfl w.heap.size 0 (by kernel_rfl) f.vs _ rF Try.underlying30 rfl (by kernel_rfl) ?_)
  refine h0.mono ?_
  rintro _ w9 ⟨v9, rfl, hO, hb⟩
  obtain ⟨t, rfl, ht, htl⟩ := hO.readR hn
  have H10 := hyd (H9.out.kept hb)
  have HTT := hyd (HIN.out t htl)
  have h1 := in_any t j w9 ht
  rw [HTT.out] at h1
  clear h0 hO hb htl H9 H8 c14 rF ht
  go_wp2_with fail
  refine h1.mono ?_
  rintro _ w10 ⟨rfl, hb⟩
  have H11 := hyd (Below.next H10.out.bl hb)
  clear h1 hb H10
  go_wp2
  go_ret
  exact ⟨rfl, H11.out⟩
end Go.Proofs.Ytibhcbdofadamaa
