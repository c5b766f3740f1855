/- Layer 15: the statement FlowMore, walked. -/
import Derived.Test.YtmajlfocfjcgmaaP15
namespace Go.Proofs.Ytmajlfocfjcgmaa
open Go Go.RowKit

set_option maxRecDepth 100000 in
set_option maxHeartbeats 16000000 in
theorem flowMore_any (f : Cf) (g : Rw Bool) (r : Rw Int) (stop : Int) (m : Rw Int) (w : World) (hf : f.At w) (hg : BlAt w g) (hr : NmAt w r) (hrn : Nn r) (hm : NmAt w m) (hmn : Nn m) : Calls Try.prog 5 #[.agg f.vs.toArray, .agg #[.slice g.ao g.len g.cap, .slice r.ao r.len r.cap, .int .i64 stop], .slice m.ao m.len m.cap] w fun e w' => e = .returned (.bool true) ∧ Below w.heap.size w w' := by
  have H0 := hyd (Lk15.new w f g r stop)
  have HD := hyd (show (f.At w ∧ BlAt w g ∧ NmAt w r ∧ Nn r) ∧ NmAt w m ∧ Nn m from ⟨⟨hf, hg, hr, hrn⟩, hm, hmn⟩)
  clear hm hmn
  have hbr := hr.bound
  clear hf hg hr hrn
  unfold axV at H0
  generalize hw : (w.alloc (.cells f.vs.toArray 30)).alloc (.cells #[.slice g.ao g.len g.cap, .slice r.ao r.len r.cap, .int .i64 stop] 34) = u0 at *
  have h0 := awake15_any u0
  go_enter Try.func5, Try.ntmps5
  go_wp2_with fail
  refine h0.mono ?_
  rintro _ u1 ⟨rfl, hb⟩
  have H1 := hyd (H0.out.kept hb)
  clear h0 hb H0 hw
  have rF := H1.out.bF.range
  have c0 := H1.out.bX.cell 0 rfl
  have h0 := few15_any f g u1
  have HFW : Hid (f.fewB g = true → f.cd.len ≤ 60 ∧ f.hd.len ≤ 60) := fun h => by unfold Cf.fewB at h; simp only [Bool.and_eq_true, decide_eq_true_eq] at h; exact h.1
  generalize f.fewB g = bb at *
  go_wp2_with (refine wpList_loadW (by kernel_rfl) 30 (.tmp 3) rfl w.heap.size 0 (by kernel_rfl) f.vs _ rF Try.underlying30 rfl (by kernel_rfl) ?_)
  refine h0.mono ?_
  rintro _ u2 ⟨rfl, hb⟩
  have H2 := hyd (H1.out.kept hb)
  clear h0 hb H1 rF c0
  cases bb
  · have h0 := awake15_any u2
    go_wp2_with fail
    refine h0.mono ?_
    rintro _ u9 ⟨rfl, hb⟩
    have H9 := hyd (Below.next H2.out.bl hb)
    clear h0 hb
    go_wp2
    go_ret
    exact ⟨rfl, H9.out⟩
  have HN := hyd (HFW.out (by simp))
  clear HFW
  have c1 := H2.out.bX.cell 1 rfl
  by_cases hl : (200 : Int) < r.len
  · have h0 := awake15_any u2
    go_wp2_with fail
    refine h0.mono ?_
    rintro _ u9 ⟨rfl, hb⟩
    have H9 := hyd (Below.next H2.out.bl hb)
    clear h0 hb
    go_wp2
    go_ret
    exact ⟨rfl, H9.out⟩
  by_cases hl2 : (200 : Int) < m.len
  · have h0 := awake15_any u2
    go_wp2_with fail
    refine h0.mono ?_
    rintro _ u9 ⟨rfl, hb⟩
    have H9 := hyd (Below.next H2.out.bl hb)
    clear h0 hb
    go_wp2
    go_ret
    exact ⟨rfl, H9.out⟩
  go_upto_region 5 with (at_builtin; refine wpList_appR rfl _ _ rfl (w.heap.size + 2) (.slice none 0 0) [] r rfl (Oi.nil _ _) rfl (HD.out.1.2.2.1.kept H2.out.bl) HD.out.1.2.2.2 (by simp; omega) H2.out.bX.lt ?_; intro v3 w3 h6 g6; have H3 := hyd (show Lk15 w f g r stop w3 ∧ Oi w3 (w.heap.size + 2) v3 r.ls from ⟨H2.out.grown g6 (fun b hb => by cases hb), by simpa using h6⟩); clear h6 g6 H2 c1)
  go_upto_region 6 with (at_builtin; refine wpList_appR rfl _ _ rfl (w.heap.size + 2) v3 r.ls m rfl H3.out.2 rfl (HD.out.2.1.kept H3.out.1.bl) HD.out.2.2 (by rw [r.ls_len]; omega) H3.out.1.bX.lt ?_; intro v4 w4 h6 g6; have H4 := hyd (show Lk15 w f g r stop w4 ∧ Oi w4 (w.heap.size + 2) v4 (r.ls ++ m.ls) from ⟨H3.out.1.grown g6 (fun b hb => (owb H3.out.2 hb).1), h6⟩); clear h6 g6 H3)
  obtain ⟨rb, hv4, hrb, hrbl, _, _⟩ := H4.out.2.rw (fun a ha => by
    rcases List.mem_append.1 ha with h | h
    · obtain ⟨i, hi, rfl⟩ := Rw.mem_ls.1 h; exact HD.out.1.2.2.1.each i hi
    · obtain ⟨i, hi, rfl⟩ := Rw.mem_ls.1 h; exact HD.out.2.1.each i hi) (by rw [List.length_append, r.ls_len, m.ls_len]; omega)
  subst hv4
  have H5 := hyd (show Lk15 w f g r stop w4 ∧ (NmAt w4 rb ∧ rb.ls = r.ls ++ m.ls) from ⟨H4.out.1, hrb, hrbl⟩)
  clear H4 hrb hrbl
  have hn : f.cd.len ≤ 100000 := by have := HN.out; omega
  clear hl hl2
  have rF := H5.out.1.bF.range
  have c0 := H5.out.1.bX.cell 0 rfl
  have c1 := H5.out.1.bX.cell 1 rfl
  have c2 := H5.out.1.bX.cell 2 rfl
  have h0 := reach_any f g r (stop) w4 (Cf.At.kept H5.out.1.bl HD.out.1.1) (BlAt.kept HD.out.1.2.1 H5.out.1.bl) (HD.out.1.2.2.1.kept H5.out.1.bl) hn
  go_upto_region 7 with (refine wpList_load_mid rfl 30 (.tmp 3) rfl w.heap.size 0 (by kernel_rfl) f.vs _ rF Try.underlying30 rfl (by kernel_rfl) ?_)
  refine h0.mono ?_
  rintro _ w5 ⟨vv, rfl, hO, hb⟩
  obtain ⟨ra, rfl, hra, hral⟩ := hO.readR hn
  have H6 := hyd (show Lk15 w f g r stop w5 ∧ (NmAt w5 rb ∧ rb.ls = r.ls ++ m.ls) ∧ (NmAt w5 ra ∧ ra.ls = f.rch g r (stop)) from ⟨H5.out.1.kept hb, ⟨H5.out.2.1.kept hb, H5.out.2.2⟩, ⟨hra, hral⟩⟩)
  clear h0 hO hb hra hral rF c0 c1 c2 H5
  have rF := H6.out.1.bF.range
  have c0 := H6.out.1.bX.cell 0 rfl
  have c1 := H6.out.1.bX.cell 1 rfl
  have c2 := H6.out.1.bX.cell 2 rfl
  have h0 := reach_any f g rb (stop) w5 (Cf.At.kept H6.out.1.bl HD.out.1.1) (BlAt.kept HD.out.1.2.1 H6.out.1.bl) (H6.out.2.1.1) hn
  go_upto_region 8 with (refine wpList_load_mid rfl 30 (.tmp 3) rfl w.heap.size 0 (by kernel_rfl) f.vs _ rF Try.underlying30 rfl (by kernel_rfl) ?_)
  refine h0.mono ?_
  rintro _ w6 ⟨vv, rfl, hO, hb⟩
  obtain ⟨rc, rfl, hra, hral⟩ := hO.readR hn
  have H7 := hyd (show Lk15 w f g r stop w6 ∧ (NmAt w6 rb ∧ rb.ls = r.ls ++ m.ls) ∧ (NmAt w6 ra ∧ ra.ls = f.rch g r (stop)) ∧ (NmAt w6 rc ∧ rc.ls = f.rch g rb (stop)) from ⟨H6.out.1.kept hb, ⟨H6.out.2.1.1.kept hb, H6.out.2.1.2⟩, ⟨H6.out.2.2.1.kept hb, H6.out.2.2.2⟩, ⟨hra, hral⟩⟩)
  clear h0 hO hb hra hral rF c0 c1 c2 H6
  have rF := H7.out.1.bF.range
  have c0 := H7.out.1.bX.cell 0 rfl
  have c1 := H7.out.1.bX.cell 1 rfl
  have c2 := H7.out.1.bX.cell 2 rfl
  have h0 := reach_any f g r (-1) w6 (Cf.At.kept H7.out.1.bl HD.out.1.1) (BlAt.kept HD.out.1.2.1 H7.out.1.bl) (HD.out.1.2.2.1.kept H7.out.1.bl) hn
  go_upto_region 9 with (refine wpList_load_mid rfl 30 (.tmp 3) rfl w.heap.size 0 (by kernel_rfl) f.vs _ rF Try.underlying30 rfl (by kernel_rfl) ?_)
  refine h0.mono ?_
  rintro _ w7 ⟨vv, rfl, hO, hb⟩
  obtain ⟨rd, rfl, hra, hral⟩ := hO.readR hn
  have H8 := hyd (show Lk15 w f g r stop w7 ∧ (NmAt w7 rb ∧ rb.ls = r.ls ++ m.ls) ∧ (NmAt w7 ra ∧ ra.ls = f.rch g r (stop)) ∧ (NmAt w7 rc ∧ rc.ls = f.rch g rb (stop)) ∧ (NmAt w7 rd ∧ rd.ls = f.rch g r (-1)) from ⟨H7.out.1.kept hb, ⟨H7.out.2.1.1.kept hb, H7.out.2.1.2⟩, ⟨H7.out.2.2.1.1.kept hb, H7.out.2.2.1.2⟩, ⟨H7.out.2.2.2.1.kept hb, H7.out.2.2.2.2⟩, ⟨hra, hral⟩⟩)
  clear h0 hO hb hra hral rF c0 c1 c2 H7
  have HAL : Hid (∀ a ∈ ra.ls, a ∈ rc.ls ∧ a ∈ rd.ls) := fun a ha => by
    rw [H8.out.2.2.1.2] at ha
    rw [H8.out.2.2.2.1.2, H8.out.2.2.2.2.2]
    exact ⟨Cf.rch_more (fun a h => by rw [H8.out.2.1.2]; exact List.mem_append.2 (Or.inl h)) ha, Cf.rch_free ha⟩
  have HST : Hid (stop ∉ rd.ls → ra.len = rd.len) := fun h => by
    rw [H8.out.2.2.2.2.2] at h
    rw [← ra.ls_len, ← rd.ls_len, H8.out.2.2.1.2, H8.out.2.2.2.2.2, Cf.rch_stop h]
  have hla : ra.len ≤ 100000 := by have := f.rch_len g r stop; rw [← ra.ls_len, H8.out.2.2.1.2]; omega
  have HNA := hyd H8.out.2.2.1.1.nil
  go_wp2
  go_loopw [11] (fun i wr => ∃ (j : Nat), j ≤ ra.len ∧ i = .int .i64 j ∧ (Lk15 w f g r stop wr ∧ NmAt wr ra ∧ NmAt wr rc ∧ NmAt wr rd)) (fun i _ => ra.len - (intOf i).toNat)
  case atStart => exact ⟨0, Nat.zero_le _, rfl, H8.out.1, H8.out.2.2.1.1, H8.out.2.2.2.1.1, H8.out.2.2.2.2.1⟩
  case round =>
    clear H8
    obtain ⟨j, hj, rfl, hS⟩ := hrel
    have HS := hyd hS
    clear hS
    by_cases hlt : j < ra.len
    · have ij : (j : Int) < ra.len := by omega
      have r0 := HS.out.2.1.row j hlt 0 _ rfl
      simp only [Nat.add_zero, Nat.mul_one] at r0
      have HA := hyd (HAL.out _ (Rw.mem_ls.2 ⟨j, hlt, rfl⟩))
      have HR0 : Hid (∀ u, NmAt u ra → u.cell? ⟨ra.b, ra.o + j, none⟩ = some (.int .i64 (ra.x j))) := fun u hu => by have := hu.row j hlt 0 _ rfl; simpa using this
      generalize ra.x j = z at *
      have h0 := in_any rc z wr HS.out.2.2.1
      rw [Rw.has_true HA.out.1] at h0
      rw [HNA.out (by omega)]
      go_wp2_with fail
      refine h0.mono ?_
      rintro _ u8 ⟨rfl, hb⟩
      have HS2 := hyd (show Lk15 w f g r stop u8 ∧ NmAt u8 ra ∧ NmAt u8 rc ∧ NmAt u8 rd from ⟨HS.out.1.kept hb, HS.out.2.1.kept hb, HS.out.2.2.1.kept hb, HS.out.2.2.2.kept hb⟩)
      clear h0 hb HS r0
      have r0 := HR0.out u8 HS2.out.2.1
      have h0 := in_any rd z u8 HS2.out.2.2.2
      rw [Rw.has_true HA.out.2] at h0
      go_wp2_with fail
      refine h0.mono ?_
      rintro _ u9 ⟨rfl, hb⟩
      have HS3 := hyd (show Lk15 w f g r stop u9 ∧ NmAt u9 ra ∧ NmAt u9 rc ∧ NmAt u9 rd from ⟨HS2.out.1.kept hb, HS2.out.2.1.kept hb, HS2.out.2.2.1.kept hb, HS2.out.2.2.2.kept hb⟩)
      clear h0 hb HS2 r0
      go_wp2
      go_roundw
      case rel => exact ⟨j + 1, by omega, by go_num, HS3.out⟩
      case measure => simp [intOf]; omega
    · have ij : ¬ (j : Int) < ra.len := by omega
      have c2 := HS.out.1.bX.cell 2 rfl
      have h0 := in_any rd stop wr HS.out.2.2.2
      have HST2 : Hid (rd.has stop = false → ra.len = rd.len) := fun h => HST.out (by unfold Rw.has at h; simpa using h)
      generalize rd.has stop = bs at *
      go_wp2_with fail
      refine h0.mono ?_
      rintro _ u8 ⟨rfl, hb⟩
      have HB := hyd (Below.next HS.out.1.bl hb)
      clear h0 hb HS c2
      cases bs
      · have e1 : ((ra.len : Int) == rd.len) = true := by have := HST2.out (by simp); simp [this]
        go_wp2
        go_ret
        exact ⟨rfl, HB.out⟩
      · go_wp2
        go_ret
        exact ⟨rfl, HB.out⟩
end Go.Proofs.Ytmajlfocfjcgmaa
