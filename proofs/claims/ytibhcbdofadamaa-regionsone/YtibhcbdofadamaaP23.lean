/- Layer 16: the statement RegionsOne, walked. -/
import Derived.Test.YtibhcbdofadamaaP21
import Derived.Test.YtibhcbdofadamaaP22
import Derived.Deep.CutBlock
import Derived.BigQuiet
namespace Go.Proofs.Ytibhcbdofadamaa
open Go Go.RowKit

set_option maxRecDepth 100000 in
set_option maxHeartbeats 16000000 in
theorem regionsOne_any (f : Cf) (g : Rw Bool) (w : World) (hf : f.At w) (hg : BlAt w g) : Calls Try.prog 6 #[.agg f.vs.toArray, .slice g.ao g.len g.cap] w fun e w' => e = .returned (.bool true) ∧ Below w.heap.size w w' := by
  have H0 := hyd (Fb.new w f)
  have HD := hyd (show (f.At w ∧ BlAt w g) ∧ True from ⟨⟨hf, hg⟩, trivial⟩)
  clear hf hg
  generalize hw : w.alloc (.cells f.vs.toArray 30) = u0 at *
  have h0 := awake16_any u0
  go_enter Try.func6, Try.ntmps6
  go_wp2_with fail
  refine h0.mono ?_
  rintro _ u1 ⟨rfl, hb⟩
  have H1 := hyd (H0.out.kept hb)
  clear h0 hb H0 hw
  have rF := H1.out.b.range
  have h0 := few16_any f g u1
  have HFW : Hid (f.fewR g = true → f.cd.len ≤ 40 ∧ f.hd.len ≤ 40) := fun h => by unfold Cf.fewR at h; simp only [Bool.and_eq_true, decide_eq_true_eq] at h; exact h.1
  generalize f.fewR g = bb at *
  go_wp2_with (refine wpList_loadW (by kernel_rfl) 30 (.tmp 2) rfl w.heap.size 0 (by kernel_rfl) f.vs _ rF Try.underlying30 rfl (by kernel_rfl) ?_)
  refine h0.mono ?_
  rintro _ u2 ⟨rfl, hb⟩
  have H2 := hyd (H1.out.kept hb)
  clear h0 hb H1 rF
  cases bb
  · have h0 := awake16_any u2
    go_wp2_with fail
    refine h0.mono ?_
    rintro _ u9 ⟨rfl, hb⟩
    have H9 := hyd (Below.next H2.out.bl hb)
    clear h0 hb
    go_wp2
    go_ret
    exact ⟨rfl, H9.out⟩
  have HN := hyd (HFW.out (by simp))
  clear HFW
  have rF := H2.out.b.range
  have h0 := rahead_any f u2 (Cf.At.kept H2.out.bl HD.out.1.1)
  go_wp2_with (refine wpList_loadW (by kernel_rfl) 30 (.tmp 2) rfl w.heap.size 0 (by kernel_rfl) f.vs _ rF Try.underlying30 rfl (by kernel_rfl) ?_)
  refine h0.mono ?_
  rintro _ u3 ⟨bb, rfl, hAg, hb⟩
  have H3 := hyd (H2.out.kept hb)
  have HAG := hyd hAg
  clear h0 hb H2 rF hAg
  cases bb
  · have h0 := awake16_any u3
    go_wp2_with fail
    refine h0.mono ?_
    rintro _ u9 ⟨rfl, hb⟩
    have H9 := hyd (Below.next H3.out.bl hb)
    clear h0 hb
    go_wp2
    go_ret
    exact ⟨rfl, H9.out⟩
  have HA := hyd (HAG.out rfl)
  clear HAG
  have hn : f.cd.len ≤ 100000 := by have := HN.out; omega
  have hh : f.hd.len ≤ 100000 := by have := HN.out; omega
  go_wp2
  go_loopw [5] (fun i wr => ∃ (j : Nat), j ≤ f.cd.len ∧ i = .int .i64 j ∧ Fb w f w.heap.size wr) (fun i _ => f.cd.len - (intOf i).toNat)
  case atStart => exact ⟨0, Nat.zero_le _, rfl, H3.out⟩
  case round =>
    clear H3
    obtain ⟨j, hj, rfl, hB⟩ := hrel
    have HB := hyd hB
    clear hB
    have c14 := HB.out.b.cell 14 rfl
    by_cases hlt : j < f.cd.len
    · have ij : (j : Int) < f.cd.len := by omega
      have rF := HB.out.b.range
      have h0 := ways_any f g j wr (Cf.At.kept HB.out.bl HD.out.1.1) (BlAt.kept HD.out.1.2 HB.out.bl) hlt
      go_wp2_with (refine wpList_load_mid rfl 30 (.tmp 2) rfl w.heap.size 0 (by kernel_rfl) f.vs _ rF Try.underlying30 rfl (by kernel_rfl) ?_)
      refine h0.mono ?_
      rintro _ u4 ⟨v, rfl, hO, hb⟩
      obtain ⟨r, rfl, hr, hrl⟩ := hO.readW hn
      have H4 := hyd (show Fb w f w.heap.size u4 ∧ NmAt u4 r from ⟨HB.out.kept hb, hr⟩)
      have HRL := hyd hrl
      clear h0 hO hb hr hrl HB rF c14
      have rF := H4.out.1.b.range
      have h0 := of_any f g j u4 (Cf.At.kept H4.out.1.bl HD.out.1.1) (BlAt.kept HD.out.1.2 H4.out.1.bl) HA.out hlt hh
      go_upto_region 8 with (first | (refine wpList_load_mid rfl 30 (.tmp 2) rfl w.heap.size 0 (by kernel_rfl) f.vs _ rF Try.underlying30 rfl (by kernel_rfl) ?_) | fail)
      refine h0.mono ?_
      rintro _ u5 ⟨x, rfl, _, hm, _, hb⟩
      have H5 := hyd (show Fb w f w.heap.size u5 ∧ NmAt u5 r from ⟨H4.out.1.kept hb, H4.out.2.kept hb⟩)
      have HM := hyd hm
      clear h0 hm hb H4 rF
      go_upto_region 8 with (refine wpList_new_mid rfl rfl 38 rfl (.tmp 7) (.tmp 36) rfl z_rn (alloc_rn _) rfl x.vs.toArray (by kernel_rfl) (by kernel_rfl) rfl (by kernel_rfl) (by simpa using x.vs_one) ?_)
      simp only [Act.put, List.setIfInBounds_toArray, List.set_cons_succ, List.set_cons_zero]
      have B6 := below_alloc u5 (.cells x.vs.toArray 38)
      have H6 := hyd (show (Fb w f w.heap.size (u5.alloc (.cells x.vs.toArray 38)) ∧ NmAt (u5.alloc (.cells x.vs.toArray 38)) r) ∧ Blk _ u5.heap.size x.vs 38 from ⟨⟨H5.out.1.kept B6, H5.out.2.kept B6⟩, Blk.new u5 x.vs 38⟩)
      clear B6 H5
      generalize u5.alloc (.cells x.vs.toArray 38) = u6 at *
      generalize u5.heap.size = BX at *
      have HL : Hid (∀ u, Fb w f w.heap.size u → Calls Try.prog 19 #[.agg f.vs.toArray, .slice g.ao g.len g.cap, .int .i64 j] u fun e u' => e = .returned (.bool (f.lv g j)) ∧ Below u.heap.size u u') := fun u hu => leaves_any f g j u (Cf.At.kept hu.bl HD.out.1.1) (BlAt.kept HD.out.1.2 hu.bl) hlt
      have HNO : Hid (f.lv g j = true ∨ r.len = 0 → x.join = -1) := fun h => none_math hlt HM.out (h.imp id (fun h => by rw [← HRL.out, r.ls_len]; exact h))
      have HONE : Hid (f.lv g j = false → r.len = 1 → x.join = r.x 0 ∧ x.ps.len = 0) := fun h1 h2 => by
        have e : r.ls = [r.x 0] := by unfold Rw.ls; rw [h2]; rfl
        have h3 : r.x 0 ∈ f.ws g j := by rw [← HRL.out, e]; simp
        obtain ⟨q, hq, _⟩ := ws_mem.1 h3
        have := one_math (b := q) HA.out.ag hlt HM.out h1 (by rw [← HRL.out, e, hq])
        rw [hq]
        exact this
      clear HM HRL
      generalize f.lv g j = lb at *
      have HNR := hyd H6.out.1.2.nil
      have HR0 : Hid (∀ u, NmAt u r → 0 < r.len → u.cell? ⟨r.b, r.o, none⟩ = some (.int .i64 (r.x 0))) := fun u hu h => by have := hu.row 0 h 0 _ rfl; simpa using this
      have hbr := H6.out.1.2.bound
      have HX1 : Hid (∀ u, Blk u BX x.vs 38 → u.cell? ⟨BX, 1, none⟩ = some (.int .i64 x.join)) := fun u hu => hu.cell 1 rfl
      have HX2 : Hid (∀ u, Blk u BX x.vs 38 → u.cell? ⟨BX, 2, none⟩ = some (.slice x.ps.ao x.ps.len x.ps.cap)) := fun u hu => hu.cell 2 rfl
      generalize x.join = xj at *
      generalize x.ps.len = xl at *
      generalize r.x 0 = z at *
      go_cut [50] (fun c wx => c = .bool false ∧ Hid ((Fb w f w.heap.size wx ∧ NmAt wx r) ∧ Blk wx BX x.vs 38))
      case first =>
        have rF := H6.out.1.1.b.range
        have h0 := HL.out u6 H6.out.1.1
        go_wp2_with (refine wpList_load_mid rfl 30 (.tmp 2) rfl w.heap.size 0 (by kernel_rfl) f.vs _ rF Try.underlying30 rfl (by kernel_rfl) ?_)
        refine h0.mono ?_
        rintro _ u7 ⟨rfl, hb⟩
        have H7 := hyd (show (Fb w f w.heap.size u7 ∧ NmAt u7 r) ∧ Blk u7 BX x.vs 38 from ⟨⟨H6.out.1.1.kept hb, H6.out.1.2.kept hb⟩, H6.out.2.kept hb⟩)
        clear h0 hb H6 rF
        have c1 := HX1.out u7 H7.out.2
        cases lb
        · by_cases h0 : r.len = 0
          · have e1 : ((r.len : Int) == 0) = true := by simp [h0]
            have e2 := HNO.out (Or.inr h0)
            subst e2
            clear h0
            go_wp2
            go_meet
            case rel => exact ⟨rfl, H7.out⟩
          · have e1 : ((r.len : Int) == 0) = false := by simpa using h0
            clear h0
            go_wp2
            go_meet
            case rel => exact ⟨rfl, H7.out⟩
        · have e2 := HNO.out (Or.inl rfl)
          subst e2
          go_wp2
          go_meet
          case rel => exact ⟨rfl, H7.out⟩
      case rest =>
      obtain ⟨rfl, h7⟩ := hcut
      have H7 := hyd h7.out
      clear h7 H6 HNO
      go_upto_region 10 with fail
      have rF := H7.out.1.1.b.range
      have hL : ∀ y : Gr wc, Calls Try.prog 19 #[.agg f.vs.toArray, .slice g.ao g.len g.cap, .int .i64 j] y.w fun e w' => e = .returned (.bool lb) ∧ Below y.w.heap.size y.w w' := fun y => HL.out y.w (H7.out.1.1.kept y.bl)
      have c1 := HX1.out wc H7.out.2
      have c2 := HX2.out wc H7.out.2
      have x1 : ∀ y : Gr wc, y.w.cell? ⟨BX, 1, none⟩ = some (.int .i64 xj) := fun y => Gr.cell y c1
      have x2 : ∀ y : Gr wc, y.w.cell? ⟨BX, 2, none⟩ = some (.slice x.ps.ao xl x.ps.cap) := fun y => Gr.cell y c2
      have hNE : Nonempty (Gr wc) := ⟨⟨wc, Below.refl _ _⟩⟩
      clear c1 c2 HL HX1 HX2
      cases lb
      · by_cases h1 : r.len = 1
        · have e1 : ((r.len : Int) == 1) = true := by simp [h1]
          obtain ⟨e2, e3⟩ := HONE.out rfl h1
          have c3 := HR0.out wc H7.out.1.2 (by omega)
          have x3 : ∀ y : Gr wc, y.w.cell? ⟨r.b, r.o, none⟩ = some (.int .i64 z) := fun y => Gr.cell y c3
          rw [HNR.out (by omega)]
          have i0 : (0 : Int) < r.len := by omega
          subst e2
          subst e3
          clear c3 h1
          refine wp_region_gr (by kernel_rfl) (by kernel_rfl) ?_
          go_big_quiet_want
          refine quiet_load_rowF 30 (.tmp 2) rfl w.heap.size 0 (by kernel_rfl) f.vs _ (fun _ hC => by obtain ⟨y, rfl⟩ := hC; exact range_kept rF (Gr.bl y)) Try.underlying30 rfl (by kernel_rfl) ?_
          simp only [Act.put, List.setIfInBounds_toArray, List.set_cons_succ, List.set_cons_zero]
          go_big_quiet_on
          iterate 23 (go_big_quiet_step ((go_at_call 19; exact Calls.gr _ (hL _))))
          refine wpQuiet_nil ?_
          rintro y1 ⟨xg, rfl⟩
          have Bg := xg.bl
          generalize xg.w = y1 at Bg ⊢
          have H8 := hyd (H7.out.1.1.kept Bg)
          clear H7 rF hL hNE Bg xg
          go_wp2
          go_roundw
          case rel => exact ⟨j + 1, by omega, by go_num, H8.out⟩
          case measure => simp [intOf]; omega
        · have e1 : ((r.len : Int) == 1) = false := by simp; omega
          clear h1
          refine wp_region_gr (by kernel_rfl) (by kernel_rfl) ?_
          go_big_quiet_want
          refine quiet_load_rowF 30 (.tmp 2) rfl w.heap.size 0 (by kernel_rfl) f.vs _ (fun _ hC => by obtain ⟨y, rfl⟩ := hC; exact range_kept rF (Gr.bl y)) Try.underlying30 rfl (by kernel_rfl) ?_
          simp only [Act.put, List.setIfInBounds_toArray, List.set_cons_succ, List.set_cons_zero]
          go_big_quiet_on
          iterate 23 (go_big_quiet_step ((go_at_call 19; exact Calls.gr _ (hL _))))
          refine wpQuiet_nil ?_
          rintro y1 ⟨xg, rfl⟩
          have Bg := xg.bl
          generalize xg.w = y1 at Bg ⊢
          have H8 := hyd (H7.out.1.1.kept Bg)
          clear H7 rF hL hNE Bg xg
          go_wp2
          go_roundw
          case rel => exact ⟨j + 1, by omega, by go_num, H8.out⟩
          case measure => simp [intOf]; omega
      · refine wp_region_gr (by kernel_rfl) (by kernel_rfl) ?_
        go_big_quiet_want
        refine quiet_load_rowF 30 (.tmp 2) rfl w.heap.size 0 (by kernel_rfl) f.vs _ (fun _ hC => by obtain ⟨y, rfl⟩ := hC; exact range_kept rF (Gr.bl y)) Try.underlying30 rfl (by kernel_rfl) ?_
        simp only [Act.put, List.setIfInBounds_toArray, List.set_cons_succ, List.set_cons_zero]
        go_big_quiet_on
        iterate 23 (go_big_quiet_step ((go_at_call 19; exact Calls.gr _ (hL _))))
        refine wpQuiet_nil ?_
        rintro y1 ⟨xg, rfl⟩
        have Bg := xg.bl
        generalize xg.w = y1 at Bg ⊢
        have H8 := hyd (H7.out.1.1.kept Bg)
        clear H7 rF hL hNE Bg xg
        go_wp2
        go_roundw
        case rel => exact ⟨j + 1, by omega, by go_num, H8.out⟩
        case measure => simp [intOf]; omega
    · have ij : ¬ (j : Int) < f.cd.len := by omega
      go_wp2
      go_ret
      exact ⟨rfl, HB.out.bl⟩
end Go.Proofs.Ytibhcbdofadamaa
