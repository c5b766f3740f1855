/- Layer 16: the statement RegionsRight, walked. -/
import Derived.Test.YtibhcbdofadamaaP21
import Derived.Test.YtibhcbdofadamaaP22
import Derived.Deep.CutBlock
import Derived.BigQuiet
namespace Go.Proofs.Ytibhcbdofadamaa
open Go Go.RowKit

set_option maxRecDepth 100000 in
set_option maxHeartbeats 16000000 in
theorem regionsRight_any (f : Cf) (g : Rw Bool) (w : World) (hf : f.At w) (hg : BlAt w g) : Calls Try.prog 3 #[.agg f.vs.toArray, .slice g.ao g.len g.cap] w fun e w' => e = .returned (.bool true) ∧ Below w.heap.size w w' := by
  have H0 := hyd (Fb.new w f)
  have HD := hyd (show (f.At w ∧ BlAt w g) ∧ True from ⟨⟨hf, hg⟩, trivial⟩)
  clear hf hg
  generalize hw : w.alloc (.cells f.vs.toArray 30) = u0 at *
  have h0 := awake16_any u0
  go_enter Try.func3, Try.ntmps3
  go_wp2_with fail
  refine h0.mono ?_
  rintro _ u1 ⟨rfl, hb⟩
  have H1 := hyd (H0.out.kept hb)
  clear h0 hb H0 hw
  have rF := H1.out.b.range
  have h0 := few16_any f g u1
  have HFW : Hid (f.fewR g = true → f.cd.len ≤ 40 ∧ f.hd.len ≤ 40) := fun h => by unfold Cf.fewR at h; simp only [Bool.and_eq_true, decide_eq_true_eq] at h; exact h.1
  generalize f.fewR g = bb at *
  go_wp2_with (refine wpList_loadW (by kernel_rfl) 30 (.tmp 2) rfl w.heap.size 0 (by kernel_rfl) f.vs _ rF Try.underlying30 rfl (by kernel_rfl) ?_)
  refine h0.mono ?_
  rintro _ u2 ⟨rfl, hb⟩
  have H2 := hyd (H1.out.kept hb)
  clear h0 hb H1 rF
  cases bb
  · have h0 := awake16_any u2
    go_wp2_with fail
    refine h0.mono ?_
    rintro _ u9 ⟨rfl, hb⟩
    have H9 := hyd (Below.next H2.out.bl hb)
    clear h0 hb
    go_wp2
    go_ret
    exact ⟨rfl, H9.out⟩
  have HN := hyd (HFW.out (by simp))
  clear HFW
  have rF := H2.out.b.range
  have h0 := rahead_any f u2 (Cf.At.kept H2.out.bl HD.out.1.1)
  go_wp2_with (refine wpList_loadW (by kernel_rfl) 30 (.tmp 2) rfl w.heap.size 0 (by kernel_rfl) f.vs _ rF Try.underlying30 rfl (by kernel_rfl) ?_)
  refine h0.mono ?_
  rintro _ u3 ⟨bb, rfl, hAg, hb⟩
  have H3 := hyd (H2.out.kept hb)
  have HAG := hyd hAg
  clear h0 hb H2 rF hAg
  cases bb
  · have h0 := awake16_any u3
    go_wp2_with fail
    refine h0.mono ?_
    rintro _ u9 ⟨rfl, hb⟩
    have H9 := hyd (Below.next H3.out.bl hb)
    clear h0 hb
    go_wp2
    go_ret
    exact ⟨rfl, H9.out⟩
  have HA := hyd (HAG.out rfl)
  clear HAG
  have hn : f.cd.len ≤ 100000 := by have := HN.out; omega
  have hh : f.hd.len ≤ 100000 := by have := HN.out; omega
  have rF := H3.out.b.range
  have h0 := make16_any f g u3 (Cf.At.kept H3.out.bl HD.out.1.1) (BlAt.kept HD.out.1.2 H3.out.bl) HA.out hh
  go_wp2_with (refine wpList_load_mid rfl 30 (.tmp 2) rfl w.heap.size 0 (by kernel_rfl) f.vs _ rF Try.underlying30 rfl (by kernel_rfl) ?_)
  refine h0.mono ?_
  rintro _ u4 ⟨r, rfl, hr, hrl, hrm, hb⟩
  have H4 := hyd (show Fb w f w.heap.size u4 ∧ RnsAt u4 r from ⟨H3.out.kept hb, hr⟩)
  have HRL := hyd hrl
  have HRM := hyd hrm
  have hbr := hr.bound
  have HNR := hyd hr.nil
  clear h0 hr hrl hrm hb H3 rF
  go_wp2
  go_loopw [6, 7] (fun kk i wr => ∃ (j : Nat), j ≤ f.cd.len ∧ i = .int .i64 j ∧ kk = .int .i64 ((brL f g j).length : Nat) ∧ (Fb w f w.heap.size wr ∧ RnsAt wr r)) (fun _ i _ => f.cd.len - (intOf i).toNat)
  case atStart => exact ⟨0, Nat.zero_le _, rfl, rfl, H4.out⟩
  case round =>
    clear H4
    obtain ⟨j, hj, rfl, rfl, hB⟩ := hrel
    have HB := hyd hB
    clear hB
    have c14 := HB.out.1.b.cell 14 rfl
    by_cases hlt : j < f.cd.len
    · as_aux_lemma =>
      have ij : (j : Int) < f.cd.len := by omega
      have hkl := brL_len f g j
      have HBA := hyd (fun h => brL_at (f := f) (g := g) hlt h)
      have HBS := hyd (brL_succ f g j)
      have rF := HB.out.1.b.range
      have h0 := of_any f g j wr (Cf.At.kept HB.out.1.bl HD.out.1.1) (BlAt.kept HD.out.1.2 HB.out.1.bl) HA.out hlt hh
      obtain ⟨K, hKq⟩ : ∃ K, (brL f g j).length = K := ⟨_, rfl⟩
      rw [hKq] at HBA hkl ⊢
      have HKE := hyd hKq
      clear hKq
      go_upto_region 9 with (first | (refine wpList_load_mid rfl 30 (.tmp 2) rfl w.heap.size 0 (by kernel_rfl) f.vs _ rF Try.underlying30 rfl (by kernel_rfl) ?_) | fail)
      refine h0.mono ?_
      rintro _ u5 ⟨x, rfl, hx, hm, _, hb⟩
      have H5 := hyd (show (Fb w f w.heap.size u5 ∧ RnsAt u5 r) ∧ x.At u5 from ⟨⟨HB.out.1.kept hb, HB.out.2.kept hb⟩, hx⟩)
      have HM := hyd hm
      clear h0 hx hm hb HB rF c14
      go_upto_region 9 with (refine wpList_new_mid rfl rfl 38 rfl (.tmp 8) (.tmp 36) rfl z_rn (alloc_rn _) rfl x.vs.toArray (by kernel_rfl) (by kernel_rfl) rfl (by kernel_rfl) (by simpa using x.vs_one) ?_)
      simp only [Act.put, List.setIfInBounds_toArray, List.set_cons_succ, List.set_cons_zero]
      have B6 := below_alloc u5 (.cells x.vs.toArray 38)
      have H6 := hyd (show ((Fb w f w.heap.size (u5.alloc (.cells x.vs.toArray 38)) ∧ RnsAt (u5.alloc (.cells x.vs.toArray 38)) r) ∧ x.At (u5.alloc (.cells x.vs.toArray 38))) ∧ Blk _ u5.heap.size x.vs 38 from ⟨⟨⟨H5.out.1.1.kept B6, H5.out.1.2.kept B6⟩, Rn.At.kept B6 H5.out.2⟩, Blk.new u5 x.vs 38⟩)
      clear B6 H5
      generalize u5.alloc (.cells x.vs.toArray 38) = u6 at *
      generalize u5.heap.size = BX at *
      have HF := hyd (show f.hold g x = 0 ∧ x.at_ = j ∧ x.ps.has x.join = false from ⟨HM.out.hold HA.out.ag hlt, HM.out.at_, by
        unfold Rw.has
        rw [decide_eq_false_iff_not]
        intro h
        exact (HM.out.ahead HA.out.ag h).2 rfl⟩)
      have HP0 : Hid (0 < x.ps.len → (j : Int) < x.ps.x 0) := fun h => (HM.out.ahead HA.out.ag (Rw.mem_ls.2 ⟨0, h, rfl⟩)).1
      have HJN : Hid (x.join = -1 ∨ (j : Int) < x.join) := by
        have := Cf.jn_ahead HA.out.ag (g := g) hlt
        rw [← HM.out.join] at this
        exact this
      have rF := H6.out.1.1.1.b.range
      have rX := H6.out.2.range
      have h0 := holds16_any f g x u6 (Cf.At.kept H6.out.1.1.1.bl HD.out.1.1) (BlAt.kept HD.out.1.2 H6.out.1.1.1.bl) H6.out.1.2 HA.out hh
      rw [HF.out.1] at h0
      go_wp2_with (first
        | (refine wpList_load_mid rfl 30 (.tmp 2) rfl w.heap.size 0 (by kernel_rfl) f.vs _ rF Try.underlying30 rfl (by kernel_rfl) ?_)
        | (refine wpList_load_mid rfl 38 (.tmp 8) rfl BX 0 (by kernel_rfl) x.vs _ rX Try.underlying38 rfl (by kernel_rfl) ?_))
      refine h0.mono ?_
      rintro _ u7 ⟨rfl, hb⟩
      have H7 := hyd (show ((Fb w f w.heap.size u7 ∧ RnsAt u7 r) ∧ x.At u7) ∧ Blk u7 BX x.vs 38 from ⟨⟨⟨H6.out.1.1.1.kept hb, H6.out.1.1.2.kept hb⟩, Rn.At.kept hb H6.out.1.2⟩, H6.out.2.kept hb⟩)
      clear h0 hb H6 rF rX
      have c0 := H7.out.2.cell 0 rfl
      rw [HF.out.2.1] at c0
      have c1 := H7.out.2.cell 1 rfl
      have c2 := H7.out.2.cell 2 rfl
      have e1 : ((j : Int) != (j : Int)) = false := by simp
      have h0 := in_any x.ps x.join u7 H7.out.1.2.ps
      rw [HF.out.2.2] at h0
      go_wp2_with fail
      refine h0.mono ?_
      rintro _ u8 ⟨rfl, hb⟩
      have H8 := hyd (show ((Fb w f w.heap.size u8 ∧ RnsAt u8 r) ∧ x.At u8) ∧ Blk u8 BX x.vs 38 from ⟨⟨⟨H7.out.1.1.1.kept hb, H7.out.1.1.2.kept hb⟩, Rn.At.kept hb H7.out.1.2⟩, H7.out.2.kept hb⟩)
      clear h0 hb H7 c0 c1 c2 e1
      go_upto_region 11 with fail
      go_cut [77] (fun c wx => c = .bool false ∧ Hid (((Fb w f w.heap.size wx ∧ RnsAt wx r) ∧ x.At wx) ∧ Blk wx BX x.vs 38))
      case first =>
        have c1 := H8.out.2.cell 1 rfl
        have c2 := H8.out.2.cell 2 rfl
        have hbx := H8.out.1.2.ps.bound
        have HNX := hyd H8.out.1.2.ps.nil
        have HX0 : Hid (0 < x.ps.len → u8.cell? ⟨x.ps.b, x.ps.o, none⟩ = some (.int .i64 (x.ps.x 0))) := fun h => by have := H8.out.1.2.ps.row 0 h 0 _ rfl; simpa using this
        rcases Nat.eq_zero_or_pos x.ps.len with p0 | p0
        · rw [p0] at c2
          have n0 : ¬ (0 : Int) < ((0 : Nat) : Int) := by omega
          rcases HJN.out with e | e
          · rw [e] at c1
            go_wp2
            go_meet
            case rel => exact ⟨rfl, H8.out⟩
          · have e2 : (x.join != -1) = true := by simp; omega
            have e3 : ¬ x.join ≤ (j : Int) := by omega
            clear e HJN HF
            generalize x.join = xj at *
            go_wp2
            go_meet
            case rel => exact ⟨rfl, H8.out⟩
        · have i0 : (0 : Int) < x.ps.len := by omega
          have cz := HX0.out p0
          have hz := HP0.out p0
          rw [HNX.out p0] at c2
          have n0 : ¬ x.ps.x 0 ≤ (j : Int) := by omega
          clear hz
          generalize x.ps.x 0 = z at *
          rcases HJN.out with e | e
          · rw [e] at c1
            go_wp2
            go_meet
            case rel => exact ⟨rfl, H8.out⟩
          · have e2 : (x.join != -1) = true := by simp; omega
            have e3 : ¬ x.join ≤ (j : Int) := by omega
            clear e HJN HF
            generalize x.join = xj at *
            go_wp2
            go_meet
            case rel => exact ⟨rfl, H8.out⟩
      case rest =>
      obtain ⟨rfl, h9⟩ := hcut
      have H9 := hyd h9.out
      clear h9 H8 HP0 HJN HF
      have rF := H9.out.1.1.1.b.range
      have h0 := branches_any f g j wc (Cf.At.kept H9.out.1.1.1.bl HD.out.1.1) (BlAt.kept HD.out.1.2 H9.out.1.1.1.bl) hlt
      have HBE := hyd (rfl : f.br g j = f.br g j)
      generalize hbq : f.br g j = bq at *
      go_wp2_with (refine wpList_load_mid rfl 30 (.tmp 2) rfl w.heap.size 0 (by kernel_rfl) f.vs _ rF Try.underlying30 rfl (by kernel_rfl) ?_)
      refine h0.mono ?_
      rintro _ w10 ⟨rfl, hb⟩
      have H10 := hyd (show ((Fb w f w.heap.size w10 ∧ RnsAt w10 r) ∧ x.At w10) ∧ Blk w10 BX x.vs 38 from ⟨⟨⟨H9.out.1.1.1.kept hb, H9.out.1.1.2.kept hb⟩, Rn.At.kept hb H9.out.1.2⟩, H9.out.2.kept hb⟩)
      clear h0 hb H9 rF hbq HBE
      cases bq
      · have HK : Hid (K = (brL f g (j + 1)).length) := by show _ = _; rw [HBS.out]; simp [HKE.out]
        clear HBA HBS HM
        go_wp2
        go_roundw
        case rel => exact ⟨j + 1, by omega, by go_num, by rw [HK.out], H10.out.1.1⟩
        case measure => simp [intOf]; omega
      · have HK : Hid (K + 1 = (brL f g (j + 1)).length) := by show _ = _; rw [HBS.out]; simp [HKE.out]
        obtain ⟨hk1, hk2⟩ := HBA.out rfl
        rw [← HRL.out] at hk1
        have hmk := HRM.out K hk1
        rw [hk2] at hmk
        have ik : ¬ (r.len : Int) ≤ K := by omega
        have ikn : ¬ r.len ≤ K := by omega
        have ik2 : (K : Int) < r.len := by omega
        have rK := H10.out.1.1.2.row K hk1
        have hsm : ∀ y : Gr w10, Calls Try.prog 15 #[.agg (r.x K).vs.toArray, .agg x.vs.toArray] y.w fun e w' => e = .returned (.bool true) ∧ Below y.w.heap.size y.w w' := fun y => same16_yes (r.x K) x y.w (Rn.At.kept y.bl (H10.out.1.1.2.each K hk1)) (Rn.At.kept y.bl H10.out.1.2) (by rw [hmk.at_, HM.out.at_]) (by rw [hmk.join, HM.out.join]) (by rw [hmk.ps, HM.out.ps])
        rw [HNR.out (by omega)]
        have rX := H10.out.2.range
        generalize r.x K = xk at *
        clear hmk hk2 HBA HBS HM
        go_upto_region 14 with fail
        have hNE : Nonempty (Gr w10) := ⟨⟨w10, Below.refl _ _⟩⟩
        refine wp_region_gr (by kernel_rfl) (by kernel_rfl) ?_
        iterate 8 (go_big_quiet_step (fail))
        go_big_quiet_want
        refine quiet_load_rowF 38 (.tmp 89) rfl r.b (r.o + K * 3) (by kernel_rfl) xk.vs _ (fun _ hC => by obtain ⟨y, rfl⟩ := hC; exact range_kept rK (Gr.bl y)) Try.underlying38 rfl (by kernel_rfl) ?_
        simp only [Act.put, List.setIfInBounds_toArray, List.set_cons_succ, List.set_cons_zero]
        go_big_quiet_on
        go_big_quiet_want
        refine quiet_load_rowF 38 (.tmp 8) rfl BX 0 (by kernel_rfl) x.vs _ (fun _ hC => by obtain ⟨y, rfl⟩ := hC; exact range_kept rX (Gr.bl y)) Try.underlying38 rfl (by kernel_rfl) ?_
        simp only [Act.put, List.setIfInBounds_toArray, List.set_cons_succ, List.set_cons_zero]
        go_big_quiet_on
        iterate 3 (go_big_quiet_step ((go_at_call 15; exact Calls.gr _ (hsm _))))
        refine wpQuiet_nil ?_
        rintro y1 ⟨xg, rfl⟩
        have Bg := xg.bl
        generalize xg.w = y1 at Bg ⊢
        have H11 := hyd (show Fb w f w.heap.size y1 ∧ RnsAt y1 r from ⟨H10.out.1.1.1.kept Bg, H10.out.1.1.2.kept Bg⟩)
        clear xg Bg H10 rK hsm rX hNE ik
        rw [← HNR.out (by omega)]
        have hKb : K ≤ 100000 := by omega
        go_wp2
        go_roundw
        case rel => exact ⟨j + 1, by omega, by go_num, by rw [← HK.out]; rfl, H11.out⟩
        case measure => simp [intOf]; omega
    · have ij : ¬ (j : Int) < f.cd.len := by omega
      have hje : j = f.cd.len := by omega
      subst hje
      rw [← HRL.out]
      have e1 : ((r.len : Int) == (r.len : Int)) = true := by simp
      go_wp2
      go_ret
      exact ⟨rfl, HB.out.1.bl⟩
end Go.Proofs.Ytibhcbdofadamaa
