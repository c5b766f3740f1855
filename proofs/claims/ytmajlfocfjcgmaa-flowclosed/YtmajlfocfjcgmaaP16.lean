/- Layer 15: the statement FlowClosed, walked. -/
import Derived.Test.YtmajlfocfjcgmaaP15
import Derived.Deep.CutBlock
import Derived.BigQuiet
namespace Go.Proofs.Ytmajlfocfjcgmaa
open Go Go.RowKit

set_option maxRecDepth 100000 in
set_option maxHeartbeats 16000000 in
theorem flowClosed_any (f : Cf) (g : Rw Bool) (r : Rw Int) (stop : Int) (w : World) (hf : f.At w) (hg : BlAt w g) (hr : NmAt w r) (hrn : Nn r) : Calls Try.prog 4 #[.agg f.vs.toArray, .agg #[.slice g.ao g.len g.cap, .slice r.ao r.len r.cap, .int .i64 stop]] w fun e w' => e = .returned (.bool true) ∧ Below w.heap.size w w' := by
  have H0 := hyd (Lk15.new w f g r stop)
  have HD := hyd (show (f.At w ∧ BlAt w g ∧ NmAt w r ∧ Nn r) ∧ True from ⟨⟨hf, hg, hr, hrn⟩, trivial⟩)
  have hbr := hr.bound
  clear hf hg hr hrn
  unfold axV at H0
  generalize hw : (w.alloc (.cells f.vs.toArray 30)).alloc (.cells #[.slice g.ao g.len g.cap, .slice r.ao r.len r.cap, .int .i64 stop] 34) = u0 at *
  have h0 := awake15_any u0
  go_enter Try.func4, Try.ntmps4
  go_wp2_with fail
  refine h0.mono ?_
  rintro _ u1 ⟨rfl, hb⟩
  have H1 := hyd (H0.out.kept hb)
  clear h0 hb H0 hw
  have rF := H1.out.bF.range
  have c0 := H1.out.bX.cell 0 rfl
  have h0 := few15_any f g u1
  have HFW : Hid (f.fewB g = true → f.cd.len ≤ 60 ∧ f.hd.len ≤ 60) := fun h => by unfold Cf.fewB at h; simp only [Bool.and_eq_true, decide_eq_true_eq] at h; exact h.1
  generalize f.fewB g = bb at *
  go_wp2_with (refine wpList_loadW (by kernel_rfl) 30 (.tmp 2) rfl w.heap.size 0 (by kernel_rfl) f.vs _ rF Try.underlying30 rfl (by kernel_rfl) ?_)
  refine h0.mono ?_
  rintro _ u2 ⟨rfl, hb⟩
  have H2 := hyd (H1.out.kept hb)
  clear h0 hb H1 rF c0
  cases bb
  · have h0 := awake15_any u2
    go_wp2_with fail
    refine h0.mono ?_
    rintro _ u9 ⟨rfl, hb⟩
    have H9 := hyd (Below.next H2.out.bl hb)
    clear h0 hb
    go_wp2
    go_ret
    exact ⟨rfl, H9.out⟩
  have HN := hyd (HFW.out (by simp))
  clear HFW
  have c1 := H2.out.bX.cell 1 rfl
  by_cases hl : (200 : Int) < r.len
  · have h0 := awake15_any u2
    go_wp2_with fail
    refine h0.mono ?_
    rintro _ u9 ⟨rfl, hb⟩
    have H9 := hyd (Below.next H2.out.bl hb)
    clear h0 hb
    go_wp2
    go_ret
    exact ⟨rfl, H9.out⟩
  have hn : f.cd.len ≤ 100000 := by have := HN.out; omega
  go_upto_region 3 with fail
  clear hl c1
  have rF := H2.out.bF.range
  have c0 := H2.out.bX.cell 0 rfl
  have c1 := H2.out.bX.cell 1 rfl
  have c2 := H2.out.bX.cell 2 rfl
  have h0 := reach_any f g r (stop) u2 (Cf.At.kept H2.out.bl HD.out.1.1) (BlAt.kept HD.out.1.2.1 H2.out.bl) (HD.out.1.2.2.1.kept H2.out.bl) hn
  go_upto_region 4 with (refine wpList_load_mid rfl 30 (.tmp 2) rfl w.heap.size 0 (by kernel_rfl) f.vs _ rF Try.underlying30 rfl (by kernel_rfl) ?_)
  refine h0.mono ?_
  rintro _ w5 ⟨vv, rfl, hO, hb⟩
  obtain ⟨ra, rfl, hra, hral⟩ := hO.readR hn
  have H6 := hyd (show Lk15 w f g r stop w5 ∧ NmAt w5 ra from ⟨H2.out.kept hb, hra⟩)
  have HRL := hyd hral
  clear h0 hO hb hra hral rF c0 c1 c2 H2
  have hla : ra.len ≤ 100000 := by have := f.rch_len g r stop; rw [← ra.ls_len, HRL.out]; omega
  have HNA := hyd H6.out.2.nil
  have HNR := hyd HD.out.1.2.2.1.nil
  go_upto_block 0 with fail
  go_cut [6] (fun _ wx => Hid (Lk15 w f g r stop wx ∧ NmAt wx ra))
  case first =>
    go_wp2_with fail
    go_loopw [6] (fun i wr => ∃ (j : Nat), j ≤ r.len ∧ i = .int .i64 j ∧ (Lk15 w f g r stop wr ∧ NmAt wr ra)) (fun i _ => r.len - (intOf i).toNat)
    case atStart => exact ⟨0, Nat.zero_le _, rfl, H6.out⟩
    case round =>
      clear H6
      obtain ⟨j, hj, rfl, hS⟩ := hrel
      have HS := hyd hS
      clear hS
      have c1 := HS.out.1.bX.cell 1 rfl
      by_cases hlt : j < r.len
      · have ij : (j : Int) < r.len := by omega
        have r0 := (HD.out.1.2.2.1.kept HS.out.1.bl).row j hlt 0 _ rfl
        simp only [Nat.add_zero, Nat.mul_one] at r0
        have HMEM := hyd (show r.x j ∈ r.ls from Rw.mem_ls.2 ⟨j, hlt, rfl⟩)
        generalize r.x j = z at *
        rw [HNR.out (by omega)] at c1
        go_upto_region 7 with fail
        have c2 := HS.out.1.bX.cell 2 rfl
        have c14 := HS.out.1.bF.cell 14 rfl
        have x1 : ∀ x : Gr wr, x.w.cell? ⟨w.heap.size + 1, 1, none⟩ = some (.slice (some ⟨r.b, r.o, none⟩) r.len r.cap) := fun x => Gr.cell x c1
        have x2 : ∀ x : Gr wr, x.w.cell? ⟨w.heap.size + 1, 2, none⟩ = some (.int .i64 stop) := fun x => Gr.cell x c2
        have x14 : ∀ x : Gr wr, x.w.cell? ⟨w.heap.size, 14, none⟩ = some (.slice f.cd.ao f.cd.len f.cd.cap) := fun x => Gr.cell x c14
        have xr : ∀ x : Gr wr, x.w.cell? ⟨r.b, r.o + j, none⟩ = some (.int .i64 z) := fun x => Gr.cell x r0
        have hNE : Nonempty (Gr wr) := ⟨⟨wr, Below.refl _ _⟩⟩
        clear c1 c2 c14 r0
        go_cut [79] (fun c wx => c = .bool false ∧ Hid (Lk15 w f g r stop wx ∧ NmAt wx ra))
        case first =>
          have HIN : Hid ((0 ≤ z ∧ z < f.cd.len) ∧ z ≠ stop → ra.has z = true) := fun h => by
            obtain ⟨q, rfl⟩ : ∃ q : Nat, z = q := ⟨z.toNat, by omega⟩
            refine Rw.has_true ?_
            rw [HRL.out]
            exact Cf.rch_from HMEM.out (by omega) h.2
          have hin : ∀ x : Gr wr, Calls Try.prog 12 #[.slice ra.ao ra.len ra.cap, .int .i64 z] x.w fun e w' => e = .returned (.bool (ra.has z)) ∧ Below x.w.heap.size x.w w' := fun x => in_any ra z x.w (HS.out.2.kept x.bl)
          generalize ra.has z = bz at *
          by_cases z1 : 0 ≤ z
          · by_cases z2 : z < (f.cd.len : Int)
            · by_cases z3 : z = stop
              · have e3 : (z != stop) = false := by simpa using z3
                clear z3
                refine wp_region_gr (by kernel_rfl) (by kernel_rfl) ?_
                iterate 37 (go_big_quiet_step (fail))
                refine wpQuiet_nil ?_
                rintro y1 ⟨xg, rfl⟩
                have Bg := xg.bl
                generalize xg.w = y1 at Bg ⊢
                go_wp2
                go_meet
                case rel => exact ⟨rfl, HS.out.1.kept Bg, HS.out.2.kept Bg⟩
              · have e3 : (z != stop) = true := by simpa using z3
                have hbz : bz = true := HIN.out ⟨⟨z1, z2⟩, z3⟩
                subst hbz
                clear z3
                refine wp_region_gr (by kernel_rfl) (by kernel_rfl) ?_
                iterate 37 (go_big_quiet_step ((go_at_call 12; exact Calls.gr _ (hin _))))
                refine wpQuiet_nil ?_
                rintro y1 ⟨xg, rfl⟩
                have Bg := xg.bl
                generalize xg.w = y1 at Bg ⊢
                go_wp2
                go_meet
                case rel => exact ⟨rfl, HS.out.1.kept Bg, HS.out.2.kept Bg⟩
            · refine wp_region_gr (by kernel_rfl) (by kernel_rfl) ?_
              iterate 37 (go_big_quiet_step (fail))
              refine wpQuiet_nil ?_
              rintro y1 ⟨xg, rfl⟩
              have Bg := xg.bl
              generalize xg.w = y1 at Bg ⊢
              go_wp2
              go_meet
              case rel => exact ⟨rfl, HS.out.1.kept Bg, HS.out.2.kept Bg⟩
          · refine wp_region_gr (by kernel_rfl) (by kernel_rfl) ?_
            iterate 37 (go_big_quiet_step (fail))
            refine wpQuiet_nil ?_
            rintro y1 ⟨xg, rfl⟩
            have Bg := xg.bl
            generalize xg.w = y1 at Bg ⊢
            go_wp2
            go_meet
            case rel => exact ⟨rfl, HS.out.1.kept Bg, HS.out.2.kept Bg⟩
        case rest =>
          obtain ⟨rfl, h9⟩ := hcut
          have HS9 := hyd h9.out
          clear h9 HS
          go_wp2
          go_roundw
          case rel => exact ⟨j + 1, by omega, by go_num, HS9.out⟩
          case measure => simp [intOf]; omega
      · have ij : ¬ (j : Int) < r.len := by omega
        go_wp2
        go_meet
        case rel => exact HS.out
  case rest =>
  have H7 := hyd hcut.out
  clear hcut H6
  have HZ : Hid (∀ j, j < ra.len → ∃ p : Nat, ra.x j = p ∧ p < f.cd.len) := fun j hj => by
    have h1 : ra.x j ∈ ra.ls := Rw.mem_ls.2 ⟨j, hj, rfl⟩
    rw [HRL.out] at h1
    obtain ⟨q, e, hq⟩ := Cf.mem_rch.1 h1
    exact ⟨q, e, Cf.Rq.lt hq⟩
  have HIN : Hid (∀ j, j < ra.len → ra.x j ∈ f.rch g r stop) := fun j hj => by rw [← HRL.out]; exact Rw.mem_ls.2 ⟨j, hj, rfl⟩
  go_wp2
  go_loopw [7] (fun i wr => ∃ (j : Nat), j ≤ ra.len ∧ i = .int .i64 j ∧ (Lk15 w f g r stop wr ∧ NmAt wr ra)) (fun i _ => ra.len - (intOf i).toNat)
  case atStart => exact ⟨0, Nat.zero_le _, rfl, H7.out⟩
  case round =>
    clear H7
    obtain ⟨j, hj, rfl, hS⟩ := hrel
    have HS := hyd hS
    clear hS
    by_cases hlt : j < ra.len
    · as_aux_lemma =>
      have ij : (j : Int) < ra.len := by omega
      have HZN := hyd (show ra.x j ≠ stop from Cf.rch_ne (HIN.out j hlt))
      have HIJ := hyd (HIN.out j hlt)
      obtain ⟨p, hp, hpl⟩ := HZ.out j hlt
      have HR0 : Hid (∀ u, NmAt u ra → u.cell? ⟨ra.b, ra.o + j, none⟩ = some (.int .i64 p)) := fun u hu => by have := hu.row j hlt 0 _ rfl; simp only [hp] at this; simpa using this
      have HUP : Hid (0 < j → ra.x (j - 1) < p) := fun h => by
        have e := HRL.out
        unfold Cf.rch at e
        have := Rw.rising e (i := j - 1) (by omega)
        rwa [show j - 1 + 1 = j by omega, hp] at this
      have HR1 : Hid (∀ u, NmAt u ra → 0 < j → u.cell? ⟨ra.b, ra.o + (j - 1), none⟩ = some (.int .i64 (ra.x (j - 1)))) := fun u hu h => by have := hu.row (j - 1) (by omega) 0 _ rfl; simpa using this
      rw [hp] at HZN HIJ
      have HP := hyd hp
      clear hp
      generalize ra.x (j - 1) = y at *
      rw [HNA.out (by omega)]
      go_upto_region 12 with fail
      have c2 := HS.out.1.bX.cell 2 rfl
      have x2 : ∀ x : Gr wr, x.w.cell? ⟨w.heap.size + 1, 2, none⟩ = some (.int .i64 stop) := fun x => Gr.cell x c2
      have xa : ∀ x : Gr wr, x.w.cell? ⟨ra.b, ra.o + j, none⟩ = some (.int .i64 p) := fun x => HR0.out x.w (HS.out.2.kept x.bl)
      have hNE : Nonempty (Gr wr) := ⟨⟨wr, Below.refl _ _⟩⟩
      have e3 : ((p : Int) == stop) = false := by simpa using HZN.out
      clear c2
      go_cut [108] (fun c wx => c = .bool false ∧ Hid (Lk15 w f g r stop wx ∧ NmAt wx ra))
      case first =>
        by_cases j0 : 0 < j
        · have xb : ∀ x : Gr wr, x.w.cell? ⟨ra.b, ra.o + (j - 1), none⟩ = some (.int .i64 y) := fun x => HR1.out x.w (HS.out.2.kept x.bl) j0
          have e4 : ¬ (p : Int) ≤ y := by have := HUP.out j0; omega
          refine wp_region_gr (by kernel_rfl) (by kernel_rfl) ?_
          iterate 23 (go_big_quiet_step (fail))
          refine wpQuiet_nil ?_
          rintro y1 ⟨xg, rfl⟩
          have Bg := xg.bl
          generalize xg.w = y1 at Bg ⊢
          go_wp2
          go_meet
          case rel => exact ⟨rfl, HS.out.1.kept Bg, HS.out.2.kept Bg⟩
        · refine wp_region_gr (by kernel_rfl) (by kernel_rfl) ?_
          iterate 23 (go_big_quiet_step (fail))
          refine wpQuiet_nil ?_
          rintro y1 ⟨xg, rfl⟩
          have Bg := xg.bl
          generalize xg.w = y1 at Bg ⊢
          go_wp2
          go_meet
          case rel => exact ⟨rfl, HS.out.1.kept Bg, HS.out.2.kept Bg⟩
      case rest =>
      obtain ⟨rfl, h9⟩ := hcut
      have HS9 := hyd h9.out
      clear h9 HS x2 xa hNE e3 HUP HR1
      go_upto_region 14 with fail
      have rF := HS9.out.1.bF.range
      have c0 := HS9.out.1.bX.cell 0 rfl
      have x0 : ∀ x : Gr wc, x.w.cell? ⟨w.heap.size + 1, 0, none⟩ = some (.slice g.ao g.len g.cap) := fun x => Gr.cell x c0
      have xa : ∀ x : Gr wc, x.w.cell? ⟨ra.b, ra.o + j, none⟩ = some (.int .i64 p) := fun x => HR0.out x.w (HS9.out.2.kept x.bl)
      have hNE : Nonempty (Gr wc) := ⟨⟨wc, Below.refl _ _⟩⟩
      clear c0
      refine wp_region_gr_tail 7 (by kernel_rfl) (by kernel_rfl) ?_
      simp only [List.take, List.drop]
      go_big_quiet_want
      refine quiet_load_rowF 30 (.tmp 2) rfl w.heap.size 0 (by kernel_rfl) f.vs _ (fun _ hC => by obtain ⟨x, rfl⟩ := hC; exact range_kept rF (Gr.bl x)) Try.underlying30 rfl (by kernel_rfl) ?_
      simp only [Act.put, List.setIfInBounds_toArray, List.set_cons_succ, List.set_cons_zero]
      go_big_quiet_on
      iterate 6 go_big_quiet_step (fail)
      refine wpQuiet_nil ?_
      rintro y1 ⟨xg, rfl⟩
      have Bg := xg.bl
      generalize xg.w = y1 at Bg ⊢
      have HT := hyd (show Lk15 w f g r stop y1 ∧ NmAt y1 ra from ⟨HS9.out.1.kept Bg, HS9.out.2.kept Bg⟩)
      clear Bg xg HS9 rF x0 xa hNE
      have h0 := ways_any f g p y1 (Cf.At.kept HT.out.1.bl HD.out.1.1) (BlAt.kept HD.out.1.2.1 HT.out.1.bl) hpl
      go_wp2_with fail
      refine h0.mono ?_
      rintro _ y2 ⟨vw, rfl, hO, hb⟩
      obtain ⟨rw, rfl, hrw, hrwl⟩ := hO.readW hn
      have HT2 := hyd (show Lk15 w f g r stop y2 ∧ NmAt y2 ra ∧ NmAt y2 rw from ⟨HT.out.1.kept hb, HT.out.2.kept hb, hrw⟩)
      have HWL : Hid (∀ a ∈ rw.ls, a ≠ stop → ra.has a = true) := fun a ha hs => Rw.has_true (by rw [HRL.out]; rw [hrwl] at ha; exact Cf.rch_way HIJ.out ha hs)
      have hbw := hrw.bound
      have HNW := hyd hrw.nil
      clear h0 hO hb HT hrw hrwl
      go_upto_block 4 with fail
      go_cut [9] (fun _ wx => Hid (Lk15 w f g r stop wx ∧ NmAt wx ra))
      case first =>
        go_wp2_with fail
        go_loopw [9] (fun i wr => ∃ (k : Nat), k ≤ rw.len ∧ i = .int .i64 k ∧ (Lk15 w f g r stop wr ∧ NmAt wr ra ∧ NmAt wr rw)) (fun i _ => rw.len - (intOf i).toNat)
        case atStart => exact ⟨0, Nat.zero_le _, rfl, HT2.out⟩
        case round =>
          clear HT2
          obtain ⟨k, hk, rfl, hS⟩ := hrel
          have HS := hyd hS
          clear hS
          by_cases klt : k < rw.len
          · have ik : (k : Int) < rw.len := by omega
            have HA := hyd (HWL.out _ (Rw.mem_ls.2 ⟨k, klt, rfl⟩))
            have HR2 : Hid (∀ u, NmAt u rw → u.cell? ⟨rw.b, rw.o + k, none⟩ = some (.int .i64 (rw.x k))) := fun u hu => by have := hu.row k klt 0 _ rfl; simpa using this
            generalize rw.x k = z at *
            rw [HNW.out (by omega)]
            go_upto_region 18 with fail
            have c2 := HS.out.1.bX.cell 2 rfl
            have x2 : ∀ x : Gr wr, x.w.cell? ⟨w.heap.size + 1, 2, none⟩ = some (.int .i64 stop) := fun x => Gr.cell x c2
            have xa : ∀ x : Gr wr, x.w.cell? ⟨rw.b, rw.o + k, none⟩ = some (.int .i64 z) := fun x => HR2.out x.w (HS.out.2.2.kept x.bl)
            have hNE : Nonempty (Gr wr) := ⟨⟨wr, Below.refl _ _⟩⟩
            have hin : ∀ x : Gr wr, Calls Try.prog 12 #[.slice (some ⟨ra.b, ra.o, none⟩) ra.len ra.cap, .int .i64 z] x.w fun e w' => e = .returned (.bool (ra.has z)) ∧ Below x.w.heap.size x.w w' := fun x => by rw [← HNA.out (by omega)]; exact in_any ra z x.w (HS.out.2.1.kept x.bl)
            generalize ra.has z = bz at *
            clear c2
            go_cut [138] (fun c wx => c = .bool false ∧ Hid (Lk15 w f g r stop wx ∧ NmAt wx ra ∧ NmAt wx rw))
            case first =>
              by_cases z3 : z = stop
              · have e3 : (z != stop) = false := by simpa using z3
                clear z3
                refine wp_region_gr (by kernel_rfl) (by kernel_rfl) ?_
                iterate 16 (go_big_quiet_step (fail))
                refine wpQuiet_nil ?_
                rintro y1 ⟨xg, rfl⟩
                have Bg := xg.bl
                generalize xg.w = y1 at Bg ⊢
                go_wp2
                go_meet
                case rel => exact ⟨rfl, HS.out.1.kept Bg, HS.out.2.1.kept Bg, HS.out.2.2.kept Bg⟩
              · have e3 : (z != stop) = true := by simpa using z3
                have hbz : bz = true := HA.out z3
                subst hbz
                clear z3
                refine wp_region_gr (by kernel_rfl) (by kernel_rfl) ?_
                iterate 16 (go_big_quiet_step ((go_at_call 12; exact Calls.gr _ (hin _))))
                refine wpQuiet_nil ?_
                rintro y1 ⟨xg, rfl⟩
                have Bg := xg.bl
                generalize xg.w = y1 at Bg ⊢
                go_wp2
                go_meet
                case rel => exact ⟨rfl, HS.out.1.kept Bg, HS.out.2.1.kept Bg, HS.out.2.2.kept Bg⟩
            case rest =>
              obtain ⟨rfl, h9⟩ := hcut
              have HS9 := hyd h9.out
              clear h9 HS
              go_wp2
              go_roundw
              case rel => exact ⟨k + 1, by omega, by go_num, HS9.out⟩
              case measure => simp [intOf]; omega
          · have ik : ¬ (k : Int) < rw.len := by omega
            go_wp2
            go_meet
            case rel => exact ⟨HS.out.1, HS.out.2.1⟩
      case rest =>
      have H7 := hyd hcut.out
      clear hcut HT2 HWL hbw HNW
      go_upto_region 20 with fail
      have c1 := H7.out.1.bX.cell 1 rfl
      have x1 : ∀ x : Gr wc, x.w.cell? ⟨w.heap.size + 1, 1, none⟩ = some (.slice r.ao r.len r.cap) := fun x => Gr.cell x c1
      have xa : ∀ x : Gr wc, x.w.cell? ⟨ra.b, ra.o + j, none⟩ = some (.int .i64 p) := fun x => HR0.out x.w (H7.out.2.kept x.bl)
      have hNE : Nonempty (Gr wc) := ⟨⟨wc, Below.refl _ _⟩⟩
      have hin : ∀ x : Gr wc, Calls Try.prog 12 #[.slice r.ao r.len r.cap, .int .i64 p] x.w fun e w' => e = .returned (.bool (r.has p)) ∧ Below x.w.heap.size x.w w' := fun x => in_any r p x.w (HD.out.1.2.2.1.kept (Below.next H7.out.1.bl x.bl))
      clear c1
      go_cut [10] (fun c wx => c = .bool (r.has p) ∧ Hid (Lk15 w f g r stop wx ∧ NmAt wx ra))
      case first =>
        refine wp_region_gr (by kernel_rfl) (by kernel_rfl) ?_
        iterate 8 (go_big_quiet_step ((go_at_call 12; exact Calls.gr _ (hin _))))
        refine wpQuiet_nil ?_
        rintro y1 ⟨xg, rfl⟩
        have Bg := xg.bl
        generalize xg.w = y1 at Bg ⊢
        go_wp2
        go_meet
        case rel => exact ⟨rfl, H7.out.1.kept Bg, H7.out.2.kept Bg⟩
      case rest =>
      obtain ⟨rfl, h9⟩ := hcut
      clear H7
      have H7 := hyd h9.out
      clear h9 x1 xa hNE hin
      have HB0 : Hid (r.has p = true ∨ ((p : Int) ∉ r.ls ∧ ∀ i, i < 0 → (p : Int) ∉ f.ws g (ra.x i).toNat)) := by
        by_cases h : (p : Int) ∈ r.ls
        · exact Or.inl (Rw.has_true h)
        · exact Or.inr ⟨h, fun i hi => absurd hi (Nat.not_lt_zero _)⟩
      generalize r.has p = bp at *
      go_upto_block 6 with fail
      go_cut [10] (fun c wx => c = .bool true ∧ Hid (Lk15 w f g r stop wx ∧ NmAt wx ra))
      case first =>
        go_wp2_with fail
        go_loopw [10, 11] (fun c i wr => ∃ (k : Nat) (b : Bool), k ≤ ra.len ∧ c = .bool b ∧ i = .int .i64 k ∧ (b = true ∨ ((p : Int) ∉ r.ls ∧ ∀ i, i < k → (p : Int) ∉ f.ws g (ra.x i).toNat)) ∧ (Lk15 w f g r stop wr ∧ NmAt wr ra)) (fun _ i _ => ra.len - (intOf i).toNat)
        case atStart => exact ⟨0, bp, Nat.zero_le _, rfl, rfl, HB0.out, H7.out⟩
        case round =>
          clear H7 HB0
          obtain ⟨k, b, hk, rfl, rfl, hB, hS⟩ := hrel
          have HS := hyd hS
          have HB := hyd hB
          clear hS hB
          by_cases klt : k < ra.len
          · have ik : (k : Int) < ra.len := by omega
            go_upto_region 24 with fail
            cases b
            · obtain ⟨pk, hpk, hpkl⟩ := HZ.out k klt
              have HRK : Hid (∀ u, NmAt u ra → u.cell? ⟨ra.b, ra.o + k, none⟩ = some (.int .i64 pk)) := fun u hu => by have := hu.row k klt 0 _ rfl; simp only [hpk] at this; simpa using this
              have HPK := hyd hpk
              clear hpk
              have rF := HS.out.1.bF.range
              have c0 := HS.out.1.bX.cell 0 rfl
              have x0 : ∀ x : Wd (fun u : World => Below wr.heap.size wr u), x.w.cell? ⟨w.heap.size + 1, 0, none⟩ = some (.slice g.ao g.len g.cap) := fun x => up x.2 c0
              have xa : ∀ x : Wd (fun u : World => Below wr.heap.size wr u), x.w.cell? ⟨ra.b, ra.o + j, none⟩ = some (.int .i64 p) := fun x => HR0.out x.w (HS.out.2.kept x.2)
              have xk : ∀ x : Wd (fun u : World => Below wr.heap.size wr u), x.w.cell? ⟨ra.b, ra.o + k, none⟩ = some (.int .i64 pk) := fun x => HRK.out x.w (HS.out.2.kept x.2)
              have hNE : Nonempty (Wd (fun u : World => Below wr.heap.size wr u)) := ⟨⟨wr, Below.refl _ _⟩⟩
              clear c0
              refine wp_region_readsQN (fun u : World => Below wr.heap.size wr u) [0, 1, 2, 3, 4, 5, 6, 7, 8, 10, 11, 12, 13] 4 (by kernel_rfl) rfl (by kernel_rfl) (hj_ofQ (by kernel_rfl)) (Below.refl _ _).drew ?_
              simp only [List.filterMap, List.getElem?_cons_zero, List.getElem?_cons_succ]
              iterate 2 go_big_quiet_step (fail)
              go_big_quiet_want
              refine quiet_load_rowF 30 (.tmp 2) rfl w.heap.size 0 (by kernel_rfl) f.vs _ (fun _ hC => by obtain ⟨x, rfl⟩ := hC; exact range_kept rF x.2) Try.underlying30 rfl (by kernel_rfl) ?_
              simp only [Act.put, List.setIfInBounds_toArray, List.set_cons_succ, List.set_cons_zero]
              go_big_quiet_on
              iterate 10 go_big_quiet_step (fail)
              refine wpQuiet_nil ?_
              have HT := hyd (show Lk15 w f g r stop wr.drew ∧ NmAt wr.drew ra ∧ Below wr.heap.size wr wr.drew from ⟨HS.out.1.kept (Below.refl _ _).drew, HS.out.2.kept (Below.refl _ _).drew, (Below.refl _ _).drew⟩)
              clear x0 xa xk hNE rF
              generalize wr.drew = y1 at *
              refine wpAnyH_ready (rs := [9]) (by kernel_rfl) (by simp) ?_
              refine AllReadyH.cons rfl (fun K hK => ?_) AllReadyH.nil
              rw [if_pos (by kernel_rfl)]
              go_simp
              refine (ways_any f g pk y1 (Cf.At.kept HT.out.1.bl HD.out.1.1) (BlAt.kept HD.out.1.2.1 HT.out.1.bl) hpkl).mono ?_
              rintro _ y2 ⟨vw, rfl, hO, hb⟩
              obtain ⟨rk, rfl, hrk, hrkl⟩ := hO.readW hn
              have HT2 := hyd (show Lk15 w f g r stop y2 ∧ NmAt y2 ra ∧ Below wr.heap.size wr y2 ∧ NmAt y2 rk from ⟨HT.out.1.kept hb, HT.out.2.1.kept hb, Below.next HT.out.2.2 hb, hrk⟩)
              have HRKL := hyd hrkl
              clear hO hb hrk hrkl HT
              refine hK.out _ _ HT2.out.2.2.1 (fun _ => ?_)
              clear hK K
              refine wpAnyH_ready (rs := [14]) (by kernel_rfl) (by simp) ?_
              refine AllReadyH.cons rfl (fun K hK => ?_) AllReadyH.nil
              rw [if_pos (by kernel_rfl)]
              go_simp
              refine (in_any rk p y2 HT2.out.2.2.2).mono ?_
              rintro _ y3 ⟨rfl, hb⟩
              have HT3 := hyd (show Lk15 w f g r stop y3 ∧ NmAt y3 ra ∧ Below wr.heap.size wr y3 from ⟨HT2.out.1.kept hb, HT2.out.2.1.kept hb, Below.next HT2.out.2.2.1 hb⟩)
              clear hb HT2
              refine hK.out _ _ HT3.out.2.2 (fun _ => ?_)
              clear hK K
              have HB2 : Hid (rk.has p = true ∨ ((p : Int) ∉ r.ls ∧ ∀ i, i < k + 1 → (p : Int) ∉ f.ws g (ra.x i).toNat)) := by
                by_cases h : (p : Int) ∈ rk.ls
                · exact Or.inl (Rw.has_true h)
                · obtain ⟨h1, h2⟩ := HB.out.resolve_left (by simp)
                  refine Or.inr ⟨h1, fun i hi => ?_⟩
                  by_cases e : i = k
                  · rw [e, HPK.out, Int.toNat_natCast, ← HRKL.out]; exact h
                  · exact h2 i (by omega)
              generalize rk.has p = bq at *
              refine wpAnyH_ready (rs := [15]) (by kernel_rfl) (by simp) ?_
              refine AllReadyH.cons rfl (fun K hK => ?_) AllReadyH.nil
              rw [if_pos (by kernel_rfl)]
              go_simp
              refine hK.out _ _ HT3.out.2.2 (fun _ => ?_)
              clear hK K
              refine wpAnyH_ready (rs := [16]) (by kernel_rfl) (by simp) ?_
              refine AllReadyH.cons rfl (fun K hK => ?_) AllReadyH.nil
              rw [if_pos (by kernel_rfl)]
              go_simp
              refine hK.out _ _ HT3.out.2.2 (fun _ => ?_)
              clear hK K
              refine wpAnyH_done (by kernel_rfl) ?_ _
              refine ⟨(fun c hc => by cases hc), ?_⟩
              go_wp2
              go_roundw
              case rel => exact ⟨k + 1, bq, by omega, rfl, by go_num, HB2.out, HT3.out.1, HT3.out.2.1⟩
              case measure => simp [intOf]; omega
            · have hNE : Nonempty (Gr wr) := ⟨⟨wr, Below.refl _ _⟩⟩
              refine wp_region_gr (by kernel_rfl) (by kernel_rfl) ?_
              iterate 17 (go_big_quiet_step (fail))
              refine wpQuiet_nil ?_
              rintro y1 ⟨xg, rfl⟩
              have Bg := xg.bl
              generalize xg.w = y1 at Bg ⊢
              have HT := hyd (show Lk15 w f g r stop y1 ∧ NmAt y1 ra from ⟨HS.out.1.kept Bg, HS.out.2.kept Bg⟩)
              clear HS Bg xg
              go_wp2
              go_roundw
              case rel => exact ⟨k + 1, true, by omega, rfl, by go_num, Or.inl rfl, HT.out⟩
              case measure => simp [intOf]; omega
          · have ik : ¬ (k : Int) < ra.len := by omega
            have hbt : b = true := by
              rcases HB.out with h | ⟨h1, h2⟩
              · exact h
              · exfalso
                rcases Cf.rch_come HIJ.out with h3 | ⟨q, h3, h4⟩
                · exact h1 h3
                · rw [← HRL.out] at h3
                  obtain ⟨i, hi, e⟩ := Rw.mem_ls.1 h3
                  exact h2 i (by omega) (by rw [e, Int.toNat_natCast]; exact h4)
            subst hbt
            go_wp2
            go_meet
            case rel => exact ⟨rfl, HS.out⟩
      case rest =>
      obtain ⟨rfl, h9⟩ := hcut
      clear H7
      have H8 := hyd h9.out
      clear h9
      go_wp2
      go_roundw
      case rel => exact ⟨j + 1, by omega, by go_num, H8.out⟩
      case measure => simp [intOf]; omega
    · have ij : ¬ (j : Int) < ra.len := by omega
      go_wp2
      go_ret
      exact ⟨rfl, HS.out.1.bl⟩
end Go.Proofs.Ytmajlfocfjcgmaa
