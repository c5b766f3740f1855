/- Layer 16: the statement RegionsLeast, walked. -/
import Derived.Test.YtibhcbdofadamaaP21
import Derived.Test.YtibhcbdofadamaaP22
import Derived.Deep.CutBlock
import Derived.BigQuiet
namespace Go.Proofs.Ytibhcbdofadamaa
open Go Go.RowKit

set_option maxRecDepth 100000 in
set_option maxHeartbeats 16000000 in
theorem regionsLeast_any (f : Cf) (g : Rw Bool) (x : Rn) (w : World) (hf : f.At w) (hg : BlAt w g) (hx : x.At w) : Calls Try.prog 4 #[.agg f.vs.toArray, .slice g.ao g.len g.cap, .agg x.vs.toArray] w fun e w' => e = .returned (.bool true) ∧ Below w.heap.size w w' := by
  have A0 := allocs_below [.cells f.vs.toArray 30, .cells x.vs.toArray 38] w
  have A1 := allocs_heap [.cells f.vs.toArray 30, .cells x.vs.toArray 38] w
  simp only [List.foldl] at A0 A1
  have H0 : Hid (F2 w f x _) := ⟨A0, A1 0 (by simp), A1 1 (by simp)⟩
  have HD := hyd (show (f.At w ∧ BlAt w g) ∧ x.At w from ⟨⟨hf, hg⟩, hx⟩)
  clear A0 A1 hf hg hx
  generalize hw : (w.alloc (.cells f.vs.toArray 30)).alloc (.cells x.vs.toArray 38) = u0 at *
  have h0 := awake16_any u0
  go_enter Try.func4, Try.ntmps4
  go_wp2_with fail
  refine h0.mono ?_
  rintro _ u1 ⟨rfl, hb⟩
  have H1 := hyd (H0.out.kept hb)
  clear h0 hb H0 hw
  have rF := H1.out.b.range
  have h0 := few16_any f g u1
  have HFW : Hid (f.fewR g = true → f.cd.len ≤ 40 ∧ f.hd.len ≤ 40) := fun h => by unfold Cf.fewR at h; simp only [Bool.and_eq_true, decide_eq_true_eq] at h; exact h.1
  generalize f.fewR g = bb at *
  go_wp2_with (refine wpList_loadW (by kernel_rfl) 30 (.tmp 3) rfl w.heap.size 0 (by kernel_rfl) f.vs _ rF Try.underlying30 rfl (by kernel_rfl) ?_)
  refine h0.mono ?_
  rintro _ u2 ⟨rfl, hb⟩
  have H2 := hyd (H1.out.kept hb)
  clear h0 hb H1 rF
  cases bb
  · have h0 := awake16_any u2
    go_wp2_with fail
    refine h0.mono ?_
    rintro _ u9 ⟨rfl, hb⟩
    have H9 := hyd (Below.next H2.out.bl hb)
    clear h0 hb
    go_wp2
    go_ret
    exact ⟨rfl, H9.out⟩
  have HN := hyd (HFW.out (by simp))
  clear HFW
  have rF := H2.out.b.range
  have h0 := rahead_any f u2 (Cf.At.kept H2.out.bl HD.out.1.1)
  go_wp2_with (refine wpList_loadW (by kernel_rfl) 30 (.tmp 3) rfl w.heap.size 0 (by kernel_rfl) f.vs _ rF Try.underlying30 rfl (by kernel_rfl) ?_)
  refine h0.mono ?_
  rintro _ u3 ⟨bb, rfl, hAg, hb⟩
  have H3 := hyd (H2.out.kept hb)
  have HAG := hyd hAg
  clear h0 hb H2 rF hAg
  cases bb
  · have h0 := awake16_any u3
    go_wp2_with fail
    refine h0.mono ?_
    rintro _ u9 ⟨rfl, hb⟩
    have H9 := hyd (Below.next H3.out.bl hb)
    clear h0 hb
    go_wp2
    go_ret
    exact ⟨rfl, H9.out⟩
  have HA := hyd (HAG.out rfl)
  clear HAG
  have hn : f.cd.len ≤ 100000 := by have := HN.out; omega
  have hh : f.hd.len ≤ 100000 := by have := HN.out; omega
  have hbx := HD.out.2.ps.bound
  have c2 := H3.out.bX.cell 2 rfl
  have c1 := H3.out.bX.cell 1 rfl
  by_cases l1 : (200 : Int) < x.ps.len
  · have h0 := awake16_any u3
    go_wp2_with fail
    refine h0.mono ?_
    rintro _ u9 ⟨rfl, hb⟩
    have H9 := hyd (Below.next H3.out.bl hb)
    clear h0 hb
    go_wp2
    go_ret
    exact ⟨rfl, H9.out⟩
  by_cases l2 : x.join = -1
  · have e1 : (x.join == -1) = true := by simpa using l2
    have h0 := awake16_any u3
    go_wp2_with fail
    refine h0.mono ?_
    rintro _ u9 ⟨rfl, hb⟩
    have H9 := hyd (Below.next H3.out.bl hb)
    clear h0 hb
    go_wp2
    go_ret
    exact ⟨rfl, H9.out⟩
  have e1 : (x.join == -1) = false := by simpa using l2
  have HJN := hyd l2
  go_upto_region 3 with fail
  clear l1 l2 e1 c1 c2
  have HNP := hyd HD.out.2.ps.nil
  go_upto_block 0 with fail
  go_cut [7] (fun _ wx => Hid (F2 w f x wx ∧ ∀ i, i < x.ps.len → ∃ p : Nat, x.ps.x i = p ∧ p < f.cd.len ∧ (p : Int) ≠ x.join ∧ (f.ws g p).length ≠ 0))
  case first =>
    go_wp2_with fail
    go_loopw [7] (fun i wr => ∃ (k : Nat), k ≤ x.ps.len ∧ i = .int .i64 k ∧ (F2 w f x wr ∧ ∀ i, i < k → ∃ p : Nat, x.ps.x i = p ∧ p < f.cd.len ∧ (p : Int) ≠ x.join ∧ (f.ws g p).length ≠ 0)) (fun i _ => x.ps.len - (intOf i).toNat)
    case atStart => exact ⟨0, Nat.zero_le _, rfl, H3.out, fun i hi => absurd hi (Nat.not_lt_zero _)⟩
    case round =>
      clear H3
      obtain ⟨k, hk, rfl, hB⟩ := hrel
      have HB := hyd hB
      clear hB
      have c2 := HB.out.1.bX.cell 2 rfl
      by_cases hlt : k < x.ps.len
      · as_aux_lemma =>
        have ik : (k : Int) < x.ps.len := by omega
        rw [HNP.out (by omega)] at c2
        have cA := (HD.out.2.ps.kept HB.out.1.bl).row k hlt 0 _ rfl
        simp only [Nat.add_zero, Nat.mul_one] at cA
        have c1 := HB.out.1.bX.cell 1 rfl
        have c14 := HB.out.1.b.cell 14 rfl
        have HG : Hid ((∃ p : Nat, x.ps.x k = p ∧ p < f.cd.len ∧ (p : Int) ≠ x.join ∧ (f.ws g p).length ≠ 0) → ∀ i, i < k + 1 → ∃ p : Nat, x.ps.x i = p ∧ p < f.cd.len ∧ (p : Int) ≠ x.join ∧ (f.ws g p).length ≠ 0) := fun h i hi => by
          by_cases e : i = k
          · rw [e]; exact h
          · exact HB.out.2 i (by omega)
        generalize x.ps.x k = z at *
        go_upto_region 6 with fail
        have x2 : ∀ y : Gr wr, y.w.cell? ⟨w.heap.size + 1, 2, none⟩ = some (.slice (some ⟨x.ps.b, x.ps.o, none⟩) x.ps.len x.ps.cap) := fun y => Gr.cell y c2
        have xa : ∀ y : Gr wr, y.w.cell? ⟨x.ps.b, x.ps.o + k, none⟩ = some (.int .i64 z) := fun y => Gr.cell y cA
        have x1 : ∀ y : Gr wr, y.w.cell? ⟨w.heap.size + 1, 1, none⟩ = some (.int .i64 x.join) := fun y => Gr.cell y c1
        have x14 : ∀ y : Gr wr, y.w.cell? ⟨w.heap.size, 14, none⟩ = some (.slice f.cd.ao f.cd.len f.cd.cap) := fun y => Gr.cell y c14
        have hNE : Nonempty (Gr wr) := ⟨⟨wr, Below.refl _ _⟩⟩
        clear c2 cA c1 c14
        by_cases z1 : z < 0
        · clear HG
          refine wp_region_gr (by kernel_rfl) (by kernel_rfl) ?_
          iterate 39 (go_big_quiet_step (fail))
          refine wpQuiet_nil ?_
          rintro y1 ⟨xg, rfl⟩
          have Bg := xg.bl
          generalize xg.w = y1 at Bg ⊢
          have H9 := hyd (Below.next HB.out.1.bl Bg)
          clear xg Bg
          go_wp2
          go_ret
          exact ⟨rfl, H9.out⟩
        by_cases z2 : (f.cd.len : Int) ≤ z
        · clear HG
          refine wp_region_gr (by kernel_rfl) (by kernel_rfl) ?_
          iterate 39 (go_big_quiet_step (fail))
          refine wpQuiet_nil ?_
          rintro y1 ⟨xg, rfl⟩
          have Bg := xg.bl
          generalize xg.w = y1 at Bg ⊢
          have H9 := hyd (Below.next HB.out.1.bl Bg)
          clear xg Bg
          go_wp2
          go_ret
          exact ⟨rfl, H9.out⟩
        by_cases z3 : z = x.join
        · have e3 : (z == x.join) = true := by simpa using z3
          clear HG z3
          refine wp_region_gr (by kernel_rfl) (by kernel_rfl) ?_
          iterate 39 (go_big_quiet_step (fail))
          refine wpQuiet_nil ?_
          rintro y1 ⟨xg, rfl⟩
          have Bg := xg.bl
          generalize xg.w = y1 at Bg ⊢
          have H9 := hyd (Below.next HB.out.1.bl Bg)
          clear xg Bg
          go_wp2
          go_ret
          exact ⟨rfl, H9.out⟩
        have e3 : (z == x.join) = false := by simpa using z3
        obtain ⟨p, rfl⟩ : ∃ p : Nat, z = p := ⟨z.toNat, by omega⟩
        have hp : p < f.cd.len := by omega
        have HZ3 := hyd z3
        clear z3
        have rF := HB.out.1.b.range
        refine wp_region_gr_tail 35 (by kernel_rfl) (by kernel_rfl) ?_
        simp only [List.take, List.drop]
        iterate 28 (go_big_quiet_step (fail))
        go_big_quiet_want
        refine quiet_load_rowF 30 (.tmp 3) rfl w.heap.size 0 (by kernel_rfl) f.vs _ (fun _ hC => by obtain ⟨y, rfl⟩ := hC; exact range_kept rF (Gr.bl y)) Try.underlying30 rfl (by kernel_rfl) ?_
        simp only [Act.put, List.setIfInBounds_toArray, List.set_cons_succ, List.set_cons_zero]
        go_big_quiet_on
        iterate 6 (go_big_quiet_step (fail))
        refine wpQuiet_nil ?_
        rintro y1 ⟨xg, rfl⟩
        have Bg := xg.bl
        generalize xg.w = y1 at Bg ⊢
        have H9 := hyd (HB.out.1.kept Bg)
        clear xg Bg HB rF x1 x2 xa x14 hNE z1 z2
        have h0 := ways_any f g p y1 (Cf.At.kept H9.out.bl HD.out.1.1) (BlAt.kept HD.out.1.2 H9.out.bl) hp
        go_wp2_with fail
        refine h0.mono ?_
        rintro _ y2 ⟨vw, rfl, hO, hb⟩
        obtain ⟨rw2, rfl, _, hrw2⟩ := hO.readW hn
        have H10 := hyd (H9.out.kept hb)
        have HLW : Hid ((f.ws g p).length = rw2.len) := by show _ = _; rw [← hrw2, rw2.ls_len]
        clear h0 hO hb H9 hrw2
        by_cases z4 : rw2.len = 0
        · have e4 : ((rw2.len : Int) == 0) = true := by simp [z4]
          clear z4
          go_wp2
          go_ret
          exact ⟨rfl, H10.out.bl⟩
        · have e4 : ((rw2.len : Int) == 0) = false := by simpa using z4
          have HE := hyd (HG.out ⟨p, rfl, hp, HZ3.out, by rw [HLW.out]; exact z4⟩)
          clear z4 HG HLW
          go_wp2
          go_roundw
          case rel => exact ⟨k + 1, by omega, by go_num, H10.out, HE.out⟩
          case measure => simp [intOf]; omega
      · have ik : ¬ (k : Int) < x.ps.len := by omega
        have hke : k = x.ps.len := by omega
        have HE := hyd hke
        go_wp2
        go_meet
        case rel => rw [← HE.out]; exact HB.out
  case rest =>
  have H4 := hyd hcut.out.1
  have HGD := hyd hcut.out.2
  clear hcut H3
  have rF := H4.out.b.range
  have rX := H4.out.bX.range
  have h0 := holds16_any f g x wc (Cf.At.kept H4.out.bl HD.out.1.1) (BlAt.kept HD.out.1.2 H4.out.bl) (Rn.At.kept H4.out.bl HD.out.2) HA.out hh
  have HPL : Hid (f.hold g x = 0 → ∃ p : Nat, x.at_ = p ∧ p < f.cd.len) := fun h => pl_nat (by
    cases c : f.pl x.at_
    · rw [hold_bad (g := g) (bad_iff.2 (Or.inl c))] at h; cases h
    · rfl)
  have HLM := hyd (fun y a ha hhd hwn hy => least_math (y := y) (a := a) HA.out.ag ha HJN.out HGD.out hhd hwn hy)
  generalize f.hold g x = hv at *
  go_wp2_with (first
    | (refine wpList_load_mid rfl 30 (.tmp 3) rfl w.heap.size 0 (by kernel_rfl) f.vs _ rF Try.underlying30 rfl (by kernel_rfl) ?_)
    | (refine wpList_load_mid rfl 38 (.tmp 5) rfl (w.heap.size + 1) 0 (by kernel_rfl) x.vs _ rX Try.underlying38 rfl (by kernel_rfl) ?_))
  refine h0.mono ?_
  rintro _ u5 ⟨rfl, hb⟩
  have H5 := hyd (H4.out.kept hb)
  clear h0 hb H4 rF rX HGD
  by_cases z1 : hv = 0
  case neg =>
    have e1 : (hv != 0) = true := by simpa using z1
    clear z1
    go_wp2
    go_ret
    exact ⟨rfl, H5.out.bl⟩
  have e1 : (hv != 0) = false := by simpa using z1
  obtain ⟨p, hpa, hp⟩ := HPL.out z1
  have HPA := hyd hpa
  have HLM2 := hyd (fun y hwn hy => HLM.out y p HPA.out z1 hwn hy)
  subst z1
  clear HLM HPL hpa
  have rF := H5.out.b.range
  have c0 := H5.out.bX.cell 0 rfl
  rw [HPA.out] at c0
  have h0 := ways_any f g p u5 (Cf.At.kept H5.out.bl HD.out.1.1) (BlAt.kept HD.out.1.2 H5.out.bl) hp
  go_wp2_with (refine wpList_loadW (by kernel_rfl) 30 (.tmp 3) rfl w.heap.size 0 (by kernel_rfl) f.vs _ rF Try.underlying30 rfl (by kernel_rfl) ?_)
  refine h0.mono ?_
  rintro _ u6 ⟨vw, rfl, hO, hb⟩
  obtain ⟨rw3, rfl, _, hrw3⟩ := hO.readW hn
  have H6 := hyd (H5.out.kept hb)
  have HLW : Hid ((f.wsI g p).length = rw3.len) := by show _ = _; rw [wsI_place hp, ← hrw3, rw3.ls_len]
  clear h0 hO hb H5 hrw3 rF c0 e1
  by_cases z4 : rw3.len = 0
  · have e4 : ((rw3.len : Int) == 0) = true := by simp [z4]
    clear z4
    go_wp2
    go_ret
    exact ⟨rfl, H6.out.bl⟩
  have e4 : ((rw3.len : Int) == 0) = false := by simpa using z4
  have HLM3 := hyd (fun y hy => HLM2.out y (by rw [HLW.out]; exact z4) hy)
  clear z4 HLM2 HLW
  go_upto_region 10 with fail
  clear e4
  have rF := H6.out.b.range
  have c0 := H6.out.bX.cell 0 rfl
  rw [HPA.out] at c0
  have h0 := of_any f g p u6 (Cf.At.kept H6.out.bl HD.out.1.1) (BlAt.kept HD.out.1.2 H6.out.bl) HA.out hp hh
  go_wp2_with (refine wpList_load_mid rfl 30 (.tmp 3) rfl w.heap.size 0 (by kernel_rfl) f.vs _ rF Try.underlying30 rfl (by kernel_rfl) ?_)
  refine h0.mono ?_
  rintro _ u7 ⟨y, rfl, hy, hm, _, hb⟩
  have H7 := hyd (show F2 w f x u7 ∧ y.At u7 from ⟨H6.out.kept hb, hy⟩)
  obtain ⟨⟨hm1, hm2⟩, hm3⟩ := HLM3.out y hm
  have HM := hyd hm3
  have HM1 := hyd hm1
  have HM2 := hyd hm2
  clear h0 hm hb hy H6 rF c0 hm1 hm2 hm3 HLM3
  go_upto_region 11 with (refine wpList_new_mid rfl rfl 38 rfl (.tmp 8) (.tmp 99) rfl z_rn (alloc_rn _) rfl y.vs.toArray (by kernel_rfl) (by kernel_rfl) rfl (by kernel_rfl) (by simpa using y.vs_one) ?_)
  simp only [Act.put, List.setIfInBounds_toArray, List.set_cons_succ, List.set_cons_zero]
  have B8 := below_alloc u7 (.cells y.vs.toArray 38)
  have H8 := hyd (show (F2 w f x (u7.alloc (.cells y.vs.toArray 38)) ∧ y.At (u7.alloc (.cells y.vs.toArray 38))) ∧ Blk _ u7.heap.size y.vs 38 from ⟨⟨H7.out.1.kept B8, Rn.At.kept B8 H7.out.2⟩, Blk.new u7 y.vs 38⟩)
  clear B8 H7
  generalize u7.alloc (.cells y.vs.toArray 38) = u8 at *
  generalize u7.heap.size = BY at *
  have c1 := H8.out.2.cell 1 rfl
  have d1 := H8.out.1.1.bX.cell 1 rfl
  have e1 : (y.join == -1) = false := by simpa using HM1.out
  have e2 : ¬ x.join < y.join := by have := HM2.out; omega
  generalize y.join = yj at *
  generalize x.join = xj at *
  go_upto_block 2 with fail
  clear c1 d1 e1 e2
  have hby := H8.out.1.2.ps.bound
  have HNY := hyd H8.out.1.2.ps.nil
  go_wp2
  go_loopw [9] (fun i wr => ∃ (k : Nat), k ≤ y.ps.len ∧ i = .int .i64 k ∧ ((F2 w f x wr ∧ y.At wr) ∧ Blk wr BY y.vs 38)) (fun i _ => y.ps.len - (intOf i).toNat)
  case atStart => exact ⟨0, Nat.zero_le _, rfl, H8.out⟩
  case round =>
    clear H8
    obtain ⟨k, hk, rfl, hB⟩ := hrel
    have HB := hyd hB
    clear hB
    have d2 := HB.out.2.cell 2 rfl
    by_cases hlt : k < y.ps.len
    · as_aux_lemma =>
      have ik : (k : Int) < y.ps.len := by omega
      rw [HNY.out (by omega)] at d2
      have cA := HB.out.1.2.ps.row k hlt 0 _ rfl
      simp only [Nat.add_zero, Nat.mul_one] at cA
      have c2 := HB.out.1.1.bX.cell 2 rfl
      have hin : ∀ v : Gr wr, Calls Try.prog 13 #[.slice x.ps.ao x.ps.len x.ps.cap, .int .i64 (y.ps.x k)] v.w fun e w' => e = .returned (.bool true) ∧ Below v.w.heap.size v.w w' := fun v => by
        have := in_any x.ps (y.ps.x k) v.w (HD.out.2.ps.kept (Below.next HB.out.1.1.bl v.bl))
        rw [Rw.has_true (HM.out _ (Rw.mem_ls.2 ⟨k, hlt, rfl⟩))] at this
        exact this
      generalize y.ps.x k = z at *
      go_upto_region 16 with fail
      have x2 : ∀ v : Gr wr, v.w.cell? ⟨w.heap.size + 1, 2, none⟩ = some (.slice x.ps.ao x.ps.len x.ps.cap) := fun v => Gr.cell v c2
      have xa : ∀ v : Gr wr, v.w.cell? ⟨y.ps.b, y.ps.o + k, none⟩ = some (.int .i64 z) := fun v => Gr.cell v cA
      have y2 : ∀ v : Gr wr, v.w.cell? ⟨BY, 2, none⟩ = some (.slice (some ⟨y.ps.b, y.ps.o, none⟩) y.ps.len y.ps.cap) := fun v => Gr.cell v d2
      have hNE : Nonempty (Gr wr) := ⟨⟨wr, Below.refl _ _⟩⟩
      clear d2 cA c2
      refine wp_region_gr (by kernel_rfl) (by kernel_rfl) ?_
      iterate 9 (go_big_quiet_step ((go_at_call 13; exact Calls.gr _ (hin _))))
      refine wpQuiet_nil ?_
      rintro y1 ⟨xg, rfl⟩
      have Bg := xg.bl
      generalize xg.w = y1 at Bg ⊢
      have H9 := hyd (show (F2 w f x y1 ∧ y.At y1) ∧ Blk y1 BY y.vs 38 from ⟨⟨HB.out.1.1.kept Bg, Rn.At.kept Bg HB.out.1.2⟩, HB.out.2.kept Bg⟩)
      clear xg Bg HB hin x2 xa y2 hNE
      go_wp2
      go_roundw
      case rel => exact ⟨k + 1, by omega, by go_num, H9.out⟩
      case measure => simp [intOf]; omega
    · have ik : ¬ (k : Int) < y.ps.len := by omega
      go_wp2
      go_ret
      exact ⟨rfl, HB.out.1.1.bl⟩
end Go.Proofs.Ytibhcbdofadamaa
