/- Layers 13 to 15: the reference's Few: a class of a size that is looked at. -/
import Derived.Test.YtmajlfocfjcgmaaGreatDoorP24
import Derived.Test.YtmajlfocfjcgmaaGreatDoorP14
import Derived.Test.YtmajlfocfjcgmaaGreatDoorP3
import Derived.Deep.QuietTactic
import Derived.Test.YtmajlfocfjcgmaaGreatDoorP19
import Derived.Deep.CutBlock
import Derived.Test.YtmajlfocfjcgmaaGreatDoorP22
import Derived.Test.YtmajlfocfjcgmaaGreatDoorRows
import Derived.Stop.LaidErr
import Derived.Stop.Joined
import Derived.Lib.LaidTab
import Derived.LaidMore
import Derived.OpenShut
import Derived.Test.YtmajlfocfjcgmaaGreatDoorP2
import Derived.ProofKit
import Derived.Deep.Grids
import Derived.Lib.SmallJoins
import Derived.Test.YtmajlfocfjcgmaaGreatDoorP6
namespace Go.Proofs.YtmajlfocfjcgmaaGreatDoor
open Go Go.RowKit

/-- What Few answers: something, and yes only of at most seventy functions. -/
structure FewR (c : Kl) (w : World) (e : Ending) (w' : World) : Prop where
  ret : ∃ b : Bool, e = .returned (.bool b) ∧ (b = true → c.fs.len ≤ 70)
  bl : Below w.heap.size w w'
theorem FewR.no {c : Kl} {w w' : World} (h : Below w.heap.size w w') : FewR c w (.returned (.bool false)) w' := ⟨⟨false, rfl, fun h => (by cases h)⟩, h⟩

/-- Where Few stands within a function. -/
structure Fz (w : World) (c : Kl) (f : Cf) (BF : Nat) (u : World) : Prop where
  bl : Below w.heap.size w u
  bC : Blk u w.heap.size [.slice c.n.ao c.n.len c.n.cap, .slice c.g.ao c.g.len c.g.cap, .slice c.fs.ao c.fs.len c.fs.cap] 28
  bF : Blk u BF f.vs 43
  f : f.At u
theorem Fz.kept {w : World} {c : Kl} {f : Cf} {BF : Nat} {u u' : World} (h : Fz w c f BF u) (hb : Below u.heap.size u u') : Fz w c f BF u' := ⟨Below.next h.bl hb, h.bC.kept hb, h.bF.kept hb, Cf.At.kept hb h.f⟩

set_option maxRecDepth 100000 in
set_option maxHeartbeats 16000000 in
theorem rFew_any (c : Kl) (m : Int) (w : World) (hc : c.At w) : Calls Tryz.prog 5 #[.agg #[.slice c.n.ao c.n.len c.n.cap, .slice c.g.ao c.g.len c.g.cap, .slice c.fs.ao c.fs.len c.fs.cap], .int .i64 m] w fun e w' => FewR c w e w' := by
  have B0 := below_alloc w (.cells #[.slice c.n.ao c.n.len c.n.cap, .slice c.g.ao c.g.len c.g.cap, .slice c.fs.ao c.fs.len c.fs.cap] 28)
  have b := Blk.new w [.slice c.n.ao c.n.len c.n.cap, .slice c.g.ao c.g.len c.g.cap, .slice c.fs.ao c.fs.len c.fs.cap] 28
  have c0 := b.cell 0 rfl
  have c1 := b.cell 1 rfl
  have c2 := b.cell 2 rfl
  have hs := small_any c.n c.g _ (hc.n.kept B0) (hc.g.kept B0)
  have HD := hyd hc
  have HB := hyd (show Below w.heap.size w (w.alloc (.cells #[.slice c.n.ao c.n.len c.n.cap, .slice c.g.ao c.g.len c.g.cap, .slice c.fs.ao c.fs.len c.fs.cap] 28)) ∧ Blk (w.alloc (.cells #[.slice c.n.ao c.n.len c.n.cap, .slice c.g.ao c.g.len c.g.cap, .slice c.fs.ao c.fs.len c.fs.cap] 28)) w.heap.size [.slice c.n.ao c.n.len c.n.cap, .slice c.g.ao c.g.len c.g.cap, .slice c.fs.ao c.fs.len c.fs.cap] 28 from ⟨B0, b⟩)
  have hbd : c.fs.len ≤ 9223372036854775807 := hc.fs.bound
  have hnil : 0 < c.fs.len → c.fs.ao = some ⟨c.fs.b, c.fs.o, none⟩ := hc.fs.nil
  clear hc B0 b
  generalize smallB c.n c.g = b0 at *
  go_enter Tryz.func5, Tryz.ntmps5
  go_wp2_with fail
  refine hs.mono ?_
  rintro _ w1 ⟨rfl, hb1⟩
  have HB1 := hyd (show Below w.heap.size w w1 ∧ Blk w1 w.heap.size [.slice c.n.ao c.n.len c.n.cap, .slice c.g.ao c.g.len c.g.cap, .slice c.fs.ao c.fs.len c.fs.cap] 28 from ⟨Below.next HB.out.1 hb1, HB.out.2.kept hb1⟩)
  have d2 := HB1.out.2.cell 2 rfl
  clear hs c0 c1 c2 hb1 HB
  cases b0
  · go_wp2
    go_ret
    exact FewR.no HB1.out.1
  by_cases hl : 70 < c.fs.len
  · have e1 : (70 : Int) < c.fs.len := by omega
    go_wp2
    go_ret
    exact FewR.no HB1.out.1
  have e1 : ¬ (70 : Int) < c.fs.len := by omega
  have HLN := hyd (show c.fs.len ≤ 70 by omega)
  have HY : Hid (∀ b w', Below w.heap.size w w' → FewR c w (.returned (.bool b)) w') := fun b w' h => ⟨⟨b, rfl, fun _ => HLN.out⟩, h⟩
  go_wp2
  clear d2 e1 hl
  go_loopw [5, 6] (fun x i wr => ∃ (n : Int) (j : Nat), x = .int .i64 n ∧ j ≤ c.fs.len ∧ i = .int .i64 j ∧ Below w.heap.size w wr ∧ Blk wr w.heap.size [.slice c.n.ao c.n.len c.n.cap, .slice c.g.ao c.g.len c.g.cap, .slice c.fs.ao c.fs.len c.fs.cap] 28) (fun _ i _ => c.fs.len - (intOf i).toNat)
  case atStart => exact ⟨0, 0, rfl, Nat.zero_le _, rfl, HB1.out.1, HB1.out.2⟩
  case round =>
    clear HB1
    obtain ⟨n, j, rfl, hj, rfl, hBl, hBk⟩ := hrel
    have d2 := hBk.cell 2 rfl
    have HB := hyd (show Below w.heap.size w wr ∧ Blk wr w.heap.size _ 28 from ⟨hBl, hBk⟩)
    clear hBl hBk
    by_cases hlt : j < c.fs.len
    · have ij : (j : Int) < c.fs.len := by omega
      by_cases hnm : n ≤ m
      · have a0 := hnil (by omega)
        have r0 := range_kept (HD.out.fs.row j hlt) HB.out.1
        have HF := hyd (Cf.At.kept HB.out.1 (HD.out.fs.each j hlt))
        rw [a0] at d2
        have HA0 := hyd a0
        have hHs : Hid (c.fs.ao = some ⟨c.fs.b, c.fs.o, none⟩) := a0
        clear a0
        generalize c.fs.x j = f at *
        go_upto_region 8 with (first | (refine wpList_load_mid rfl 43 (.tmp 36) rfl c.fs.b (c.fs.o + j * 18) (by kernel_rfl) f.vs _ r0 Tryz.underlying43 rfl (by kernel_rfl) ?_) | (refine wpList_new_mid rfl rfl 43 rfl (.tmp 7) (.tmp 37) rfl z_fn (alloc_fn _) rfl f.vs.toArray (by kernel_rfl) (by kernel_rfl) rfl (by kernel_rfl) (by simpa using f.vs_one) ?_))
        have B1 := below_alloc wr (.cells f.vs.toArray 43)
        have HU := hyd (show Fz w c f wr.heap.size (wr.alloc (.cells f.vs.toArray 43)) from ⟨Below.next HB.out.1 B1, HB.out.2.kept B1, Blk.new wr _ _, Cf.At.kept B1 HF.out⟩)
        clear d2 r0 HF HB B1
        generalize wr.alloc (.cells f.vs.toArray 43) = U at *
        generalize wr.heap.size = BF at *
        have f0 := HU.out.bF.cell 0 rfl
        have f1 := HU.out.bF.cell 1 rfl
        have f2 := HU.out.bF.cell 2 rfl
        have f3 := HU.out.bF.cell 3 rfl
        have f4 := HU.out.bF.cell 4 rfl
        have f10 := HU.out.bF.cell 10 rfl
        have f14 := HU.out.bF.cell 14 rfl
        have f15 := HU.out.bF.cell 15 rfl
        have hS1 := rSmall2_any f.p U HU.out.f.p
        generalize decide (f.p.nodes ≤ 40) = s1 at *
        generalize f.vs.toArray = V at *
        go_wp2_with fail
        refine hS1.mono ?_
        rintro _ u1 ⟨rfl, hb1⟩
        generalize wrap64 (n + wrap64 (wrap64 (wrap64 (4 + (f.c.len : Int)) + (f.cd.len : Int)) + (f.hd.len : Int))) = n1 at *
        have HU1 := hyd (HU.out.kept hb1)
        clear hS1 hb1 f0 f1 f2 f3 f4 f10 f14 f15 HU
        cases s1
        · go_wp2
          go_ret
          exact HY.out _ _ HU1.out.bl
        have f5 := HU1.out.bF.cell 5 rfl
        have f6 := HU1.out.bF.cell 6 rfl
        have f7 := HU1.out.bF.cell 7 rfl
        have f8 := HU1.out.bF.cell 8 rfl
        have f9 := HU1.out.bF.cell 9 rfl
        have hS2 := rSmall2_any f.r u1 HU1.out.f.r
        generalize decide (f.r.nodes ≤ 40) = s2 at *
        go_wp2_with fail
        refine hS2.mono ?_
        rintro _ u2 ⟨rfl, hb2⟩
        have HU2 := hyd (HU1.out.kept hb2)
        clear hS2 hb2 f5 f6 f7 f8 f9 HU1
        cases s2
        · go_wp2
          go_ret
          exact HY.out _ _ HU2.out.bl
        have f10 := HU2.out.bF.cell 10 rfl
        have hS3 := rsmall_any f.c u2 HU2.out.f.c
        generalize decide (∀ i, i < f.c.len → (f.c.ps i).nodes ≤ 40) = s3 at *
        go_wp2_with fail
        refine hS3.mono ?_
        rintro _ u3 ⟨rfl, hb3⟩
        have HU3 := hyd (HU2.out.kept hb3)
        clear hS3 hb3 f10 HU2
        cases s3
        · go_wp2
          go_ret
          exact HY.out _ _ HU3.out.bl
        by_cases hm1 : m < n1
        · go_wp2
          go_ret
          exact HY.out _ _ HU3.out.bl
        go_wp2
        go_loopw [8] (fun k wx => ∃ (q : Nat), q ≤ f.cd.len ∧ k = .int .i64 q ∧ Fz w c f BF wx) (fun k _ => f.cd.len - (intOf k).toNat)
        case atStart => exact ⟨0, Nat.zero_le _, rfl, HU3.out⟩
        case round =>
          clear HU3
          obtain ⟨q, hq, rfl, hZ⟩ := hrel
          have HZ := hyd hZ
          have g14 := hZ.bF.cell 14 rfl
          have hbq : f.cd.len ≤ 9223372036854775807 := hZ.f.cd.bound
          by_cases hql : q < f.cd.len
          · have iq : (q : Int) < f.cd.len := by omega
            rw [hZ.f.cd.nil (by omega)] at g14
            have r2 : wr.rangeAt f.cd.b (f.cd.o + q * 7 + 2) (f.cd.x q).t.vs := fun i v hv => by
              have := hZ.f.cd.row q hql (i + 2) v hv
              rw [show f.cd.o + q * 7 + 2 + i = f.cd.o + q * 7 + (i + 2) by omega]
              exact this
            have hS := rSmall2_any (f.cd.x q).t wr (hZ.f.cd.each q hql).t
            clear hZ
            generalize (f.cd.x q).t = tq at *
            generalize decide (tq.nodes ≤ 40) = sb at *
            go_wp2_with (refine wpList_load_mid rfl 37 (.tmp 84) rfl f.cd.b (f.cd.o + q * 7 + 2) (by kernel_rfl) tq.vs _ r2 Tryz.underlying37 rfl (by kernel_rfl) ?_)
            refine Calls.mono hS ?_
            rintro _ v1 ⟨rfl, hb1⟩
            have HZ1 := hyd (HZ.out.kept hb1)
            clear hS hb1 r2 g14 HZ
            cases sb
            · go_wp2
              go_ret
              exact HY.out _ _ HZ1.out.bl
            · go_wp2
              go_roundw
              case rel => exact ⟨q + 1, by omega, by go_num, HZ1.out⟩
              case measure => simp [intOf]; omega
          · have e2 : q = f.cd.len := by omega
            subst e2
            have dj : ¬ (f.cd.len : Int) < f.cd.len := by omega
            clear hZ
            go_wp2
            clear g14 dj
            go_loopw [5, 9] (fun x k wx => ∃ (n2 : Int) (q : Nat), x = .int .i64 n2 ∧ q ≤ f.pt.len ∧ k = .int .i64 q ∧ Fz w c f BF wx) (fun _ k _ => f.pt.len - (intOf k).toNat)
            case atStart => exact ⟨_, 0, rfl, Nat.zero_le _, rfl, HZ.out⟩
            case round =>
              clear HZ
              obtain ⟨n2, q, rfl, hq, rfl, hZ⟩ := hrel
              have HZ := hyd hZ
              have g16 := hZ.bF.cell 16 rfl
              have hbq : f.pt.len ≤ 9223372036854775807 := hZ.f.pt.bound
              by_cases hql : q < f.pt.len
              · have iq : (q : Int) < f.pt.len := by omega
                by_cases hn2 : n2 ≤ m
                · rw [hZ.f.pt.nil (by omega)] at g16
                  have r0 := hZ.f.pt.row q hql 0 _ rfl
                  have r1 := hZ.f.pt.row q hql 1 _ rfl
                  simp only [Nat.add_zero] at r0
                  have HP := hyd (hZ.f.pt.each q hql)
                  clear hZ
                  generalize f.pt.x q = P at *
                  go_upto_region 19 with fail
                  go_quiet (fail)
                  have HZq := hyd (HZ.out.kept (below_drewN (Below.refl _ _) nq))
                  have HPq := hyd (Pt.At.kept (below_drewN (Below.refl _ _) nq) HP.out)
                  have r0q : (wr.drewN nq).cell? ⟨f.pt.b, f.pt.o + q * 3, none⟩ = some (.slice P.st.ao P.st.len P.st.cap) := r0
                  have r1q : (wr.drewN nq).cell? ⟨f.pt.b, f.pt.o + q * 3 + 1, none⟩ = some (.slice P.sl.ao P.sl.len P.sl.cap) := r1
                  have g16q : (wr.drewN nq).cell? ⟨BF, 16, none⟩ = some (.slice (some ⟨f.pt.b, f.pt.o, none⟩) f.pt.len f.pt.cap) := g16
                  clear r0 r1 g16 HZ HP
                  generalize wr.drewN nq = W at *
                  generalize wrap64 (n2 + wrap64 (wrap64 (2 + (P.st.len : Int)) + (P.sl.len : Int))) = n4 at *
                  by_cases hn4 : n4 ≤ m
                  · have hSa := rsmall_any P.st W HPq.out.st
                    generalize decide (∀ i, i < P.st.len → (P.st.ps i).nodes ≤ 40) = sa at *
                    go_wp2_with fail
                    refine Calls.mono hSa ?_
                    rintro _ v1 ⟨rfl, hb1⟩
                    have HZ1 := hyd (HZq.out.kept hb1)
                    have HP1 := hyd (Pt.At.kept hb1 HPq.out)
                    have r1v := up hb1 r1q
                    have g16v := up hb1 g16q
                    clear hSa hb1 r0q r1q g16q HZq HPq
                    cases sa
                    · go_wp2
                      go_ret
                      exact HY.out _ _ HZ1.out.bl
                    · have hSb := rsmall_any P.sl v1 HP1.out.sl
                      generalize decide (∀ i, i < P.sl.len → (P.sl.ps i).nodes ≤ 40) = sb at *
                      go_wp2_with fail
                      refine Calls.mono hSb ?_
                      rintro _ v2 ⟨rfl, hb2⟩
                      have HZ2 := hyd (HZ1.out.kept hb2)
                      clear hSb hb2 r1v g16v HZ1 HP1
                      cases sb
                      · go_wp2
                        go_ret
                        exact HY.out _ _ HZ2.out.bl
                      · go_wp2
                        go_roundw
                        case rel => exact ⟨_, q + 1, rfl, by omega, by go_num, HZ2.out⟩
                        case measure => simp [intOf]; omega
                  · go_wp2
                    go_roundw
                    case rel => exact ⟨_, q + 1, rfl, by omega, by go_num, HZq.out⟩
                    case measure => simp [intOf]; omega
                · clear hZ
                  go_wp2
                  clear g16
                  go_loopw [5, 10] (fun x k wx => ∃ (n3 : Int) (q : Nat), x = .int .i64 n3 ∧ q ≤ f.rg.len ∧ k = .int .i64 q ∧ Fz w c f BF wx) (fun _ k _ => f.rg.len - (intOf k).toNat)
                  case atStart => exact ⟨_, 0, rfl, Nat.zero_le _, rfl, HZ.out⟩
                  case round =>
                    clear HZ
                    obtain ⟨n3, q, rfl, hq, rfl, hZ⟩ := hrel
                    have HZ := hyd hZ
                    have g17 := hZ.bF.cell 17 rfl
                    have hbq : f.rg.len ≤ 9223372036854775807 := hZ.f.rg.bound
                    by_cases hql : q < f.rg.len
                    · have iq : (q : Int) < f.rg.len := by omega
                      by_cases hn3 : n3 ≤ m
                      · rw [hZ.f.rg.nil (by omega)] at g17
                        have r2 := hZ.f.rg.row q hql 2 _ rfl
                        clear hZ
                        go_wp2
                        go_roundw
                        case rel => exact ⟨_, q + 1, rfl, by omega, by go_num, HZ.out⟩
                        case measure => simp [intOf]; omega
                      · clear hZ
                        go_wp2
                        go_roundw
                        case rel => exact ⟨_, j + 1, rfl, by omega, by go_num, HZ.out.bl, HZ.out.bC⟩
                        case measure => simp [intOf]; omega
                    · have e2 : q = f.rg.len := by omega
                      subst e2
                      have dj : ¬ (f.rg.len : Int) < f.rg.len := by omega
                      clear hZ
                      go_wp2
                      go_roundw
                      case rel => exact ⟨_, j + 1, rfl, by omega, by go_num, HZ.out.bl, HZ.out.bC⟩
                      case measure => simp [intOf]; omega
              · have e2 : q = f.pt.len := by omega
                subst e2
                have dj : ¬ (f.pt.len : Int) < f.pt.len := by omega
                clear hZ
                go_wp2
                clear g16 dj
                go_loopw [5, 10] (fun x k wx => ∃ (n3 : Int) (q : Nat), x = .int .i64 n3 ∧ q ≤ f.rg.len ∧ k = .int .i64 q ∧ Fz w c f BF wx) (fun _ k _ => f.rg.len - (intOf k).toNat)
                case atStart => exact ⟨_, 0, rfl, Nat.zero_le _, rfl, HZ.out⟩
                case round =>
                  clear HZ
                  obtain ⟨n3, q, rfl, hq, rfl, hZ⟩ := hrel
                  have HZ := hyd hZ
                  have g17 := hZ.bF.cell 17 rfl
                  have hbq : f.rg.len ≤ 9223372036854775807 := hZ.f.rg.bound
                  by_cases hql : q < f.rg.len
                  · have iq : (q : Int) < f.rg.len := by omega
                    by_cases hn3 : n3 ≤ m
                    · rw [hZ.f.rg.nil (by omega)] at g17
                      have r2 := hZ.f.rg.row q hql 2 _ rfl
                      clear hZ
                      go_wp2
                      go_roundw
                      case rel => exact ⟨_, q + 1, rfl, by omega, by go_num, HZ.out⟩
                      case measure => simp [intOf]; omega
                    · clear hZ
                      go_wp2
                      go_roundw
                      case rel => exact ⟨_, j + 1, rfl, by omega, by go_num, HZ.out.bl, HZ.out.bC⟩
                      case measure => simp [intOf]; omega
                  · have e2 : q = f.rg.len := by omega
                    subst e2
                    have dj : ¬ (f.rg.len : Int) < f.rg.len := by omega
                    clear hZ
                    go_wp2
                    go_roundw
                    case rel => exact ⟨_, j + 1, rfl, by omega, by go_num, HZ.out.bl, HZ.out.bC⟩
                    case measure => simp [intOf]; omega
      · go_wp2
        go_ret
        exact HY.out _ _ HB.out.1
    · have e2 : j = c.fs.len := by omega
      subst e2
      have dj : ¬ (c.fs.len : Int) < c.fs.len := by omega
      go_wp2
      go_ret
      exact HY.out _ _ HB.out.1
end Go.Proofs.YtmajlfocfjcgmaaGreatDoor

/- Layer 15: the statement FlowAhead, walked. -/
namespace Go.Proofs.YtmajlfocfjcgmaaGreatDoor
open Go Go.RowKit

set_option maxRecDepth 100000 in
set_option maxHeartbeats 16000000 in
theorem flowAhead_any (c : Kl) (g : Rw Bool) (w : World) (hc : c.At w) (hg : BlAt w g) (hO : Og w) : Calls Tryz.prog 3 #[.agg #[.slice c.n.ao c.n.len c.n.cap, .slice c.g.ao c.g.len c.g.cap, .slice c.fs.ao c.fs.len c.fs.cap], .slice g.ao g.len g.cap] w fun e w' => e = .returned (.bool true) ∧ Below w.heap.size w w' := by
  have B0 := below_alloc w (.cells #[.slice c.n.ao c.n.len c.n.cap, .slice c.g.ao c.g.len c.g.cap, .slice c.fs.ao c.fs.len c.fs.cap] 28)
  have b := Blk.new w c.cs 28
  have H0 := hyd (show Below w.heap.size w _ ∧ Blk _ w.heap.size c.cs 28 from ⟨B0, b⟩)
  have HD := hyd (show c.At w ∧ Og w ∧ BlAt w g from ⟨hc, hO, hg⟩)
  have hbd := hc.fs.bound
  have HNIL := hyd hc.fs.nil
  have hbg := hg.bound
  have h0 := awake15_any (w.alloc (.cells #[.slice c.n.ao c.n.len c.n.cap, .slice c.g.ao c.g.len c.g.cap, .slice c.fs.ao c.fs.len c.fs.cap] 28))
  clear B0 b hc hO hg
  go_enter Tryz.func3, Tryz.ntmps3
  go_wp2_with fail
  refine h0.mono ?_
  rintro _ u1 ⟨rfl, hb⟩
  have H1 := hyd (show Below w.heap.size w u1 ∧ Blk u1 w.heap.size c.cs 28 from ⟨Below.next H0.out.1 hb, H0.out.2.kept hb⟩)
  clear h0 hb H0
  have c0 := H1.out.2.cell 0 rfl
  have c1 := H1.out.2.cell 1 rfl
  have c2 := H1.out.2.cell 2 rfl
  have h0 := rFew_any c 400 u1 (Kl.At.kept H1.out.1 HD.out.1)
  go_wp2_with fail
  refine h0.mono ?_
  rintro e u2 ⟨⟨bb, rfl, _⟩, hb⟩
  have H2 := hyd (show Below w.heap.size w u2 ∧ Blk u2 w.heap.size c.cs 28 from ⟨Below.next H1.out.1 hb, H1.out.2.kept hb⟩)
  clear h0 hb H1 c0 c1 c2
  cases bb
  · have h0 := awake15_any u2
    go_wp2_with fail
    refine h0.mono ?_
    rintro _ u3 ⟨rfl, hb⟩
    have H3 := hyd (Below.next H2.out.1 hb)
    clear h0 hb
    go_wp2
    go_ret
    exact ⟨rfl, H3.out⟩
  by_cases hl : (1000 : Int) < g.len
  · have h0 := awake15_any u2
    go_wp2_with fail
    refine h0.mono ?_
    rintro _ u3 ⟨rfl, hb⟩
    have H3 := hyd (Below.next H2.out.1 hb)
    clear h0 hb
    go_wp2
    go_ret
    exact ⟨rfl, H3.out⟩
  have c0 := H2.out.2.cell 0 rfl
  have c1 := H2.out.2.cell 1 rfl
  have c2 := H2.out.2.cell 2 rfl
  have h0 := check14_any c u2 (Kl.At.kept H2.out.1 HD.out.1) (HD.out.2.1.kept H2.out.1)
  go_wp2_with fail
  refine h0.mono ?_
  rintro e u3 ⟨⟨k, r, er, rfl, hR⟩, hb⟩
  have H3 := hyd (show Below w.heap.size w u3 ∧ Blk u3 w.heap.size c.cs 28 from ⟨Below.next H2.out.1 hb, H2.out.2.kept hb⟩)
  have HR := hyd hR
  clear h0 hb hR H2 c0 c1 c2 hl
  by_cases he : er = 0
  · have HOK := hyd (HR.out.yes he)
    subst he
    clear HR
    go_wp2
    go_loopw [8] (fun i wr => ∃ (j : Nat), j ≤ c.fs.len ∧ i = .int .i64 j ∧ (Below w.heap.size w wr ∧ Blk wr w.heap.size c.cs 28)) (fun i _ => c.fs.len - (intOf i).toNat)
    case atStart => exact ⟨0, Nat.zero_le _, rfl, H3.out⟩
    case round =>
      clear H3
      obtain ⟨j, hj, rfl, hBl⟩ := hrel
      have HB := hyd hBl
      clear hBl
      have c2 := HB.out.2.cell 2 rfl
      by_cases hlt : j < c.fs.len
      · as_aux_lemma =>
        have ij : (j : Int) < c.fs.len := by omega
        rw [HNIL.out (by omega)] at c2
        have r0 := range_kept (HD.out.1.fs.row j hlt) HB.out.1
        have HF := hyd (Cf.At.kept HB.out.1 (HD.out.1.fs.each j hlt))
        have HWG := hyd (Kl.wg HOK.out.1 HOK.out.2 hlt)
        generalize c.fs.x j = f at *
        go_upto_region 10 with (first | (refine wpList_load_mid rfl 43 (.tmp 45) rfl c.fs.b (c.fs.o + j * 18) (by kernel_rfl) f.vs _ r0 Tryz.underlying43 rfl (by kernel_rfl) ?_) | (refine wpList_new_mid rfl rfl 43 rfl (.tmp 9) (.tmp 46) rfl z_fn (alloc_fn _) rfl f.vs.toArray (by kernel_rfl) (by kernel_rfl) rfl (by kernel_rfl) (by simpa using f.vs_one) ?_))
        have B1 := below_alloc wr (.cells f.vs.toArray 43)
        have HU := hyd (show Sb w c f w.heap.size wr.heap.size (wr.alloc (.cells f.vs.toArray 43)) from ⟨Below.next HB.out.1 B1, HB.out.2.kept B1, Blk.new wr _ _, Cf.At.kept B1 HF.out⟩)
        clear r0 HF HB B1 c2
        generalize wr.alloc (.cells f.vs.toArray 43) = U at *
        generalize wr.heap.size = BF at *
        have hn : f.cd.len ≤ 100000 := by have := HWG.out.2; omega
        go_wp2
        go_loopw [10] (fun i wr => ∃ (m : Nat), m ≤ f.cd.len ∧ i = .int .i64 m ∧ Sb w c f w.heap.size BF wr) (fun i _ => f.cd.len - (intOf i).toNat)
        case atStart => exact ⟨0, Nat.zero_le _, rfl, HU.out⟩
        case round =>
          clear HU
          obtain ⟨p, hp, rfl, hS⟩ := hrel
          have HS := hyd hS
          clear hS
          have f14 := HS.out.bF.cell 14 rfl
          by_cases plt : p < f.cd.len
          · have ip : (p : Int) < f.cd.len := by omega
            have rF := HS.out.bF.range
            have h0 := ways_any f g p wr HS.out.f (BlAt.kept HD.out.2.2 HS.out.bl) plt
            go_upto_region 14 with (refine wpList_load_mid rfl 43 (.tmp 9) rfl BF 0 (by kernel_rfl) f.vs _ rF Tryz.underlying43 rfl (by kernel_rfl) ?_)
            refine h0.mono ?_
            rintro _ y1 ⟨vw, rfl, hO, hb⟩
            obtain ⟨rw, rfl, hrw, hrwl⟩ := hO.readW hn
            have HT := hyd (show Sb w c f w.heap.size BF y1 ∧ NmAt y1 rw from ⟨HS.out.kept hb, hrw⟩)
            have HWL := hyd hrwl
            have hl2 : rw.len ≤ 2 := by have := ws_two f g p; rw [← hrwl, rw.ls_len] at this; exact this
            have HNW := hyd hrw.nil
            have HEM : Hid (rw.len = 0 → ∀ q, ¬ f.way g p q) := fun h q hq => by
              have : (q : Int) ∈ rw.ls := by rw [hrwl]; exact ws_mem.2 ⟨q, rfl, hq⟩
              obtain ⟨i, hi, _⟩ := Rw.mem_ls.1 this
              omega
            clear h0 hO hb hrw hrwl HS rF f14
            go_upto_region 14 with fail
            go_cut [72] (fun cc wx => cc = .bool false ∧ Hid (Sb w c f w.heap.size BF wx ∧ NmAt wx rw))
            case first =>
              by_cases hz : rw.len = 0
              · have e0 : ((rw.len : Int) == 0) = true := by simp [hz]
                have HLV := hyd (HWG.out.1.on plt (HEM.out hz))
                have rF := HT.out.1.bF.range
                have h0 := leaves_any f g p y1 HT.out.1.f (BlAt.kept HD.out.2.2 HT.out.1.bl) plt
                rw [HLV.out] at h0
                have e1 : ¬ (2 : Int) < rw.len := by omega
                clear hz
                go_wp2_with (refine wpList_loadW (by kernel_rfl) 43 (.tmp 9) rfl BF 0 (by kernel_rfl) f.vs _ rF Tryz.underlying43 rfl (by kernel_rfl) ?_)
                refine h0.mono ?_
                rintro _ y2 ⟨rfl, hb⟩
                have HT2 := hyd (show Sb w c f w.heap.size BF y2 ∧ NmAt y2 rw from ⟨HT.out.1.kept hb, HT.out.2.kept hb⟩)
                clear h0 hb rF HT
                go_wp2
                go_meet
                case rel => exact ⟨by first | rfl | rw [decide_eq_false (show ¬ (2 : Int) < rw.len by omega)], HT2.out⟩
              · have e0 : ((rw.len : Int) == 0) = false := by simp; omega
                have e1 : ¬ (2 : Int) < rw.len := by omega
                clear hz
                go_wp2
                go_meet
                case rel => exact ⟨rfl, HT.out⟩
            case rest =>
            obtain ⟨rfl, h9⟩ := hcut
            clear HT
            have HT := hyd h9.out
            clear h9
            go_upto_block 4 with fail
            go_cut [12] (fun _ wx => Hid (Sb w c f w.heap.size BF wx ∧ NmAt wx rw))
            case first =>
              go_wp2_with fail
              go_loopw [12] (fun i wr => ∃ (k : Nat), k ≤ rw.len ∧ i = .int .i64 k ∧ (Sb w c f w.heap.size BF wr ∧ NmAt wr rw)) (fun i _ => rw.len - (intOf i).toNat)
              case atStart => exact ⟨0, Nat.zero_le _, rfl, HT.out⟩
              case round =>
                clear HT
                obtain ⟨k, hk, rfl, hS⟩ := hrel
                have HS := hyd hS
                clear hS
                by_cases klt : k < rw.len
                · have ik : (k : Int) < rw.len := by omega
                  have r0 := HS.out.2.row k klt 0 _ rfl
                  simp only [Nat.add_zero, Nat.mul_one] at r0
                  have HUP : Hid ((p : Int) < rw.x k) := by
                    have : rw.x k ∈ rw.ls := Rw.mem_ls.2 ⟨k, klt, rfl⟩
                    rw [HWL.out] at this
                    obtain ⟨q, e, hq⟩ := ws_mem.1 this
                    have := HWG.out.1.up plt hq
                    show _ < _
                    omega
                  generalize rw.x k = z at *
                  have e1 : ¬ z ≤ (p : Int) := by have := HUP.out; omega
                  rw [HNW.out (by omega)]
                  go_wp2
                  go_roundw
                  case rel => exact ⟨k + 1, by omega, by go_num, HS.out⟩
                  case measure => simp [intOf]; omega
                · have ik : ¬ (k : Int) < rw.len := by omega
                  go_wp2
                  go_meet
                  case rel => exact HS.out
            case rest =>
            clear HT
            have HT := hyd hcut.out
            clear hcut
            have rF := HT.out.1.bF.range
            have h0 := reach_any f g rw (-1) wc HT.out.1.f (BlAt.kept HD.out.2.2 HT.out.1.bl) HT.out.2 hn
            go_upto_region 22 with (refine wpList_load_mid rfl 43 (.tmp 9) rfl BF 0 (by kernel_rfl) f.vs _ rF Tryz.underlying43 rfl (by kernel_rfl) ?_)
            refine h0.mono ?_
            rintro _ y3 ⟨va, rfl, hO, hb⟩
            obtain ⟨ra, rfl, hra, hral⟩ := hO.readR hn
            have HT3 := hyd (show Sb w c f w.heap.size BF y3 ∧ NmAt y3 ra from ⟨HT.out.1.kept hb, hra⟩)
            have HUP : Hid (0 < ra.len → (p : Int) < ra.x 0) := fun h => HWG.out.1.reach plt HWL.out (by rw [← hral]; exact Rw.mem_ls.2 ⟨0, h, rfl⟩)
            have HNA := hyd hra.nil
            have hla : ra.len ≤ 100000 := by have := f.rch_len g rw (-1); rw [← hral, ra.ls_len] at this; omega
            clear h0 hO hb hra hral HT rF
            go_upto_region 22 with fail
            go_cut [13, 109] (fun _ cc wx => cc = .bool false ∧ Hid (Sb w c f w.heap.size BF wx))
            case first =>
              have rF := HT3.out.1.bF.range
              have h0 := branches_any f g p y3 HT3.out.1.f (BlAt.kept HD.out.2.2 HT3.out.1.bl) plt
              have HBR : Hid (f.br g p = true → rw.len ≠ 0) := fun h h2 => by
                obtain ⟨q, hq⟩ := HWG.out.1.br plt h
                exact HEM.out h2 q hq
              generalize f.br g p = bb at *
              by_cases hz : 0 < ra.len
              · have i0 : (0 : Int) < ra.len := by omega
                have r0 := HT3.out.2.row 0 hz 0 _ rfl
                simp only [Nat.zero_mul, Nat.add_zero] at r0
                have e1 : ¬ ra.x 0 ≤ (p : Int) := by have := HUP.out hz; omega
                generalize ra.x 0 = z at *
                rw [HNA.out hz]
                clear hz
                go_wp2_with (refine wpList_loadW (by kernel_rfl) 43 (.tmp 9) rfl BF 0 (by kernel_rfl) f.vs _ rF Tryz.underlying43 rfl (by kernel_rfl) ?_)
                refine h0.mono ?_
                rintro _ y4 ⟨rfl, hb⟩
                have HT4 := hyd (HT3.out.1.kept hb)
                clear h0 hb rF HT3 r0
                cases bb
                · go_wp2
                  go_meet
                  case rel => exact ⟨rfl, HT4.out⟩
                · have e2 : ((rw.len : Int) == 0) = false := by have := HBR.out (by simp); simp; omega
                  go_wp2
                  go_meet
                  case rel => exact ⟨rfl, HT4.out⟩
              · have i0 : ¬ (0 : Int) < ra.len := by omega
                clear hz
                go_wp2_with (refine wpList_loadW (by kernel_rfl) 43 (.tmp 9) rfl BF 0 (by kernel_rfl) f.vs _ rF Tryz.underlying43 rfl (by kernel_rfl) ?_)
                refine h0.mono ?_
                rintro _ y4 ⟨rfl, hb⟩
                have HT4 := hyd (HT3.out.1.kept hb)
                clear h0 hb rF HT3
                cases bb
                · go_wp2
                  go_meet
                  case rel => exact ⟨rfl, HT4.out⟩
                · have e2 : ((rw.len : Int) == 0) = false := by have := HBR.out (by simp); simp; omega
                  go_wp2
                  go_meet
                  case rel => exact ⟨rfl, HT4.out⟩
            case rest =>
            obtain ⟨rfl, h9⟩ := hcut
            have HS9 := hyd h9.out
            clear h9 HT3
            go_wp2
            go_roundw
            case rel => exact ⟨p + 1, by omega, by go_num, HS9.out⟩
            case measure => simp [intOf]; omega
          · have e2 : ¬ (p : Int) < f.cd.len := by omega
            go_wp2
            go_roundw
            case rel => exact ⟨j + 1, by omega, by go_num, ⟨HS.out.bl, HS.out.bC⟩⟩
            case measure => simp [intOf]; omega
      · have e2 : ¬ (j : Int) < c.fs.len := by omega
        go_wp2
        go_ret
        exact ⟨rfl, HB.out.1⟩
  · have e1 : (er != 0) = true := by simpa using he
    clear he
    go_wp2
    go_ret
    exact ⟨rfl, H3.out.1⟩
end Go.Proofs.YtmajlfocfjcgmaaGreatDoor

/- Layer 14: what the rows say of the variables, as the walks want it. -/
namespace Go.Proofs.YtmajlfocfjcgmaaGreatDoor
open Go.RowKit

def oprL : List Int := [0, 1, 2, 3, 3, 0, 0, 0, 0, 0, 0, 0, 0, 0, 0, 0, 0, 3, 0, 0, 4, 0, 0, 3, 3, 3, 0, 0]
theorem oprL_get (i : Nat) (h : i < 28) : oprL[i]? = some (opr i : Int) := by
  have := (show (List.range 28).all (fun i => oprL[i]? == some ((opr (i : Int) : Nat) : Int)) = true by decide)
  have h2 := List.all_eq_true.1 this i (List.mem_range.2 h)
  simpa using h2
theorem opr_data : (Rows.laid_palisade_class_operands : DataW Unit) = Lib.tabData .i64 oprL := by kernel_rfl
theorem Tryz.gON : Tryz.prog.globalNamed "palisade/class.operands" = some 0 := by kernel_rfl
theorem Tryz.gOTy : (Tryz.prog.globals[0]?).map (·.type) = some 126 := by kernel_rfl
/-- A table of 28 numbers, out of the head of what is laid. -/
theorem tab_head {W : World} {name : String} {g : Nat} {d : DataW Unit} {rest : List (String × DataW Unit)} {zs : List Int} (hd : d = Lib.tabData .i64 zs) (hN : Tryz.prog.globalNamed name = some g) (hT : (Tryz.prog.globals[g]?).map (·.type) = some 126) (h : laidMet Tryz.prog ((name, d) :: rest) W) : ∀ j, W.cell? ⟨g, j, none⟩ = (zs.map fun z => Value.int .i64 z)[j]? := by
  obtain ⟨ps, ⟨g0, t0, cs0, f0, p0, q0, hg0, ht0, hv0, hd0, _, _⟩, _⟩ := h
  obtain rfl := Option.some.inj (hN.symm.trans hg0)
  obtain rfl := Option.some.inj (hT.symm.trans ht0)
  rw [hd] at hd0
  have hcs := Lib.cells_of_tab Tryz.underlying126 Tryz.underlying3 (by kernel_rfl) (by kernel_rfl) hd0
  intro j
  rw [World.var?_cell hN hv0 j, ← hcs, Array.getElem?_toList]
theorem og_of_head {W : World} {rest : List (String × DataW Unit)} (h : laidMet Tryz.prog (("palisade/class.operands", Rows.laid_palisade_class_operands) :: rest) W) : Og W := fun i hi => by
  rw [tab_head opr_data Tryz.gON Tryz.gOTy h i, List.getElem?_map, oprL_get i hi]
  rfl
end Go.Proofs.YtmajlfocfjcgmaaGreatDoor

/- A lattice that comes in, opened into its names and its table. -/
namespace Go.Proofs.YtmajlfocfjcgmaaGreatDoor
open Go.ChangeShapes Go.WideShapes Go.ChangeAt Go.RowKit Go.Deep Go.Joins

theorem Tryz.own : ownKnob Tryz.prog.godebug = none := by kernel_rfl
theorem Tryz.laidOut : laidOutB Tryz.prog = true := by kernel_rfl
theorem Tryz.cellsString : Tryz.prog.cellsOf 9 = 1 := by kernel_rfl
theorem Tryz.cellsBool : Tryz.prog.cellsOf 4 = 1 := by kernel_rfl
theorem Tryz.cellsRow : Tryz.prog.cellsOf 29 = 1 := by kernel_rfl
theorem Tryz.cellsLat : Tryz.prog.cellsOf 25 = 2 := by kernel_rfl
theorem addr_plain (b off i : Nat) : (⟨b, off, none⟩ : Addr).add i = ⟨b, off + i, none⟩ := by unfold Addr.add; split <;> simp_all

section
variable {H : Type} {enc : TypeId × Value → H} {W : World} {base : Nat}

set_option maxRecDepth 100000 in
theorem open_strs {fuel : Nat} {v : Value} {x : DataW H × List MemPlace} (h : DataW.trod enc Tryz.prog W base (fun _ => true) true fuel 22 [v] = some x) :
    ∃ n : Strs, v = .slice n.ao n.len n.cap ∧ n.At W := by
  rcases open_strings Tryz.underlying22 Tryz.underlying9 Tryz.cellsString h with ⟨hcs, _⟩ | ⟨a, len, cap, ss, hcs, _, hl, hm, hz, _, hcell, hws⟩
  · exact ⟨⟨none, 0, 0, 0, 0, fun _ => ByteArray.empty⟩, by simpa using hcs, ⟨Nat.le_refl _, fun h => absurd h (Nat.lt_irrefl _), Nat.zero_le _, fun _ h => absurd h (Nat.not_lt_zero _), fun _ h => absurd h (Nat.not_lt_zero _)⟩⟩
  · have hv : v = .slice (some a) len cap := by simpa using hcs
    simp only [if_true] at hz
    unfold maxLen at hm hws
    refine ⟨⟨some a, a.block, a.off, len, cap, fun i => ss.getD i ByteArray.empty⟩, hv, ⟨hl, fun hp => ?_, Nat.le_trans hl hm, fun i hi => ?_, fun i hi => ?_⟩⟩
    · have hp' : 0 < len := hp
      have hs := World.cell?_spot (hcell 0 (by omega))
      obtain ⟨ab, ao, asp⟩ := a
      have : asp = none := by simpa [Addr.add] using hs
      subst this; rfl
    · have hi' : i < len := hi
      have hs := World.cell?_spot (hcell 0 (by omega))
      obtain ⟨ab, ao, asp⟩ := a
      have : asp = none := by simpa [Addr.add] using hs
      subst this
      have := hcell i (by omega)
      rw [addr_plain] at this
      exact this
    · have hi' : i < len := hi
      have hmem : ss.getD i ByteArray.empty ∈ ss := by
        rw [List.getD_eq_getElem?_getD, List.getElem?_eq_getElem (by omega)]
        exact List.getElem_mem _
      exact hws _ hmem

set_option maxRecDepth 100000 in
theorem open_grid {fuel : Nat} {v : Value} {x : DataW H × List MemPlace} (h : DataW.trod enc Tryz.prog W base (fun _ => true) true fuel 23 [v] = some x) :
    ∃ g : Grid, v = .slice g.ao g.len g.cap ∧ g.At W := by
  rcases open_bool_rows Tryz.underlying23 Tryz.underlying29 Tryz.underlying4 Tryz.cellsRow Tryz.cellsBool h with ⟨hcs, _⟩ | ⟨a, len, cap, A, L, C, B, hcs, _, hl, hm, _, hrows⟩
  · exact ⟨⟨none, 0, 0, 0, 0, fun _ => none, fun _ => 0, fun _ => 0, fun _ => 0, fun _ => 0, fun _ _ => false⟩, by simpa using hcs,
      ⟨Nat.le_refl _, fun h => absurd h (Nat.lt_irrefl _), Nat.zero_le _, fun _ h => absurd h (Nat.not_lt_zero _), fun _ h => absurd h (Nat.not_lt_zero _), fun _ h => absurd h (Nat.not_lt_zero _), fun _ h => absurd h (Nat.not_lt_zero _)⟩⟩
  · have hv : v = .slice (some a) len cap := by simpa using hcs
    unfold maxLen at hm
    have hadr : ∀ r, r < len → 0 < L r → A r = some ⟨((A r).getD default).block, ((A r).getD default).off, none⟩ ∧ ∀ c, c < L r → W.cell? ⟨((A r).getD default).block, ((A r).getD default).off + c, none⟩ = some (.bool (B r c)) := fun r hr hp => by
      obtain ⟨_, h1, _, h3, h4⟩ := hrows r (by omega)
      cases hA : A r with
      | none => have := h3 hA; omega
      | some a' =>
        obtain ⟨ab, ao, asp⟩ := a'
        obtain ⟨_, hcell⟩ := h4 _ hA
        have has : asp = none := by simpa [Addr.add] using World.cell?_spot (hcell 0 (by omega))
        subst has
        exact ⟨rfl, fun c hc => by have := hcell c (by omega); rwa [addr_plain] at this⟩
    have hspot : 0 < len → a = ⟨a.block, a.off, none⟩ := fun hp => by
      have hs := World.cell?_spot (hrows 0 (by omega)).1
      obtain ⟨ab, ao, asp⟩ := a
      have : asp = none := by simpa [Addr.add] using hs
      subst this; rfl
    refine ⟨⟨some a, a.block, a.off, len, cap, A, L, C, fun r => ((A r).getD default).block, fun r => ((A r).getD default).off, B⟩, hv, ⟨hl, fun hp => congrArg some (hspot hp), Nat.le_trans hl hm, fun r hr => ?_, fun r hr => ?_, fun r hr hp => (hadr r hr hp).1, fun r hr c hc => (hadr r hr (Nat.lt_of_le_of_lt (Nat.zero_le _) hc)).2 c hc⟩⟩
    · have hr' : r < len := hr
      obtain ⟨_, h1, h2, _⟩ := hrows r (by omega)
      unfold maxLen at h2
      exact Nat.le_trans h1 h2
    · have hr' : r < len := hr
      have := (hrows r (by omega)).1
      rw [hspot (by omega), addr_plain] at this
      exact this

set_option maxRecDepth 100000 in
theorem open_lat {v : Value} {d : DataW H} {p : List MemPlace} {b0 : Nat} (hv : Value.okWide Tryz.prog W .any b0 25 v) (h : DataW.Trod enc Tryz.prog W base (fun _ => true) true 25 v d p) :
    ∃ (n : Strs) (g : Grid), v = .agg #[.slice n.ao n.len n.cap, .slice g.ao g.len g.cap] ∧ n.At W ∧ g.At W := by
  obtain ⟨c0, c1, y0, y1, m, rfl, _, _, hy0, hy1⟩ := open_agg2 Tryz.underlying25 (by kernel_rfl) Tryz.cellsLat hv h
  obtain ⟨n, rfl, hn⟩ := open_strs hy0
  obtain ⟨g, rfl, hg⟩ := open_grid hy1
  exact ⟨n, g, rfl, hn, hg⟩
end
end Go.Proofs.YtmajlfocfjcgmaaGreatDoor

/- A type that comes in, opened. -/
namespace Go.Proofs.YtmajlfocfjcgmaaGreatDoor
open Go.ChangeShapes Go.WideShapes Go.ChangeAt Go.RowKit Go.Deep Go.Joins

theorem Tryz.cellsInt' : Tryz.prog.cellsOf 3 = 1 := by kernel_rfl
theorem Tryz.cellsTys : Tryz.prog.cellsOf 35 = 1 := by kernel_rfl
theorem Tryz.cellsTy : Tryz.prog.cellsOf 37 = 5 := by kernel_rfl

section
variable {H : Type} {enc : TypeId × Value → H} {W : World} {base : Nat}

def Ty.cs (t : Ty) : List Value := [.int .i64 t.k, .int .i64 t.l, .slice t.ao t.len t.cap, .int .i64 t.h, .int .i64 t.e]

set_option maxRecDepth 100000 in
theorem open_ty : ∀ (fuel : Nat) (cs : List Value) (x : DataW H × List MemPlace), DataW.trod enc Tryz.prog W base (fun _ => true) true fuel 37 cs = some x → ∃ t : Ty, cs = t.cs ∧ t.At W := by
  intro fuel
  induction fuel using Nat.strongRecOn with
  | _ fuel ih =>
    intro cs x h
    obtain ⟨xs, n, rfl, _, hl, hlen, hf⟩ := DataW.trod_struct Tryz.underlying37 h
    rw [Tryz.cellsTy] at hl
    match cs, hl with
    | [c0, c1, c2, c3, c4], _ =>
      have hlen5 : xs.length = 5 := hlen
      match xs, hlen5 with
      | [y0, y1, y2, y3, y4], _ =>
        have f0 : DataW.trod enc Tryz.prog W base (fun _ => true) true n 3 [c0] = some y0 := by simpa [Tryz.cellsInt'] using hf 0 _ rfl
        have f1 : DataW.trod enc Tryz.prog W base (fun _ => true) true n 3 [c1] = some y1 := by simpa [Tryz.cellsInt'] using hf 1 _ rfl
        have f2 : DataW.trod enc Tryz.prog W base (fun _ => true) true n 35 [c2] = some y2 := by simpa [Tryz.cellsTys] using hf 2 _ rfl
        have f3 : DataW.trod enc Tryz.prog W base (fun _ => true) true n 3 [c3] = some y3 := by simpa [Tryz.cellsInt'] using hf 3 _ rfl
        have f4 : DataW.trod enc Tryz.prog W base (fun _ => true) true n 3 [c4] = some y4 := by simpa [Tryz.cellsInt'] using hf 4 _ rfl
        obtain ⟨k, q0, _⟩ := DataW.trod_int Tryz.underlying3 f0
        obtain ⟨l, q1, _⟩ := DataW.trod_int Tryz.underlying3 f1
        obtain ⟨hh, q3, _⟩ := DataW.trod_int Tryz.underlying3 f3
        obtain ⟨e, q4, _⟩ := DataW.trod_int Tryz.underlying3 f4
        simp only [List.cons.injEq, and_true] at q0 q1 q3 q4
        subst q0 q1 q3 q4
        rcases DataW.trod_slice Tryz.underlying35 f2 with ⟨hcs, _⟩ | ⟨a, len, cap, elems, rest, m, hm, hcs, _, _, hlc, hmx, hel, hx, _, _⟩
        · simp only [List.cons.injEq, and_true] at hcs
          subst hcs
          exact ⟨.mk k l hh e none 0 0 0 0 (fun _ => .dm), rfl, ⟨fun h => absurd h (Nat.lt_irrefl _), Nat.zero_le _, fun _ h => absurd h (Nat.not_lt_zero _)⟩⟩
        · simp only [List.cons.injEq, and_true] at hcs
          subst hcs hm
          unfold maxLen at hmx
          have each : ∀ i, i < len → ∃ t : Ty, (∀ j, j < 5 → W.cell? (a.add (i * 5 + j)) = t.cs[j]?) ∧ t.At W := by
            intro i hi
            have h1 := hx i hi
            rw [Tryz.cellsTy] at h1
            cases hc : W.cells? base (a.add (i * 5)) 5 with
            | none => rw [hc] at h1; simp at h1; omega
            | some cs' =>
              rw [hc] at h1
              have h2 : DataW.trod enc Tryz.prog W base (fun _ => true) true m 37 cs' = some elems[i] := by
                rw [List.getElem?_eq_getElem (by omega)] at h1
                simpa using h1
              obtain ⟨t, rfl, hA⟩ := ih m (by omega) cs' _ h2
              obtain ⟨_, _, hcell⟩ := World.cells?_some hc
              exact ⟨t, fun j hj => by rw [← hcell j hj, add_add], hA⟩
          have hspot : 0 < len → a = ⟨a.block, a.off, none⟩ := fun hp => by
            obtain ⟨t, ht, _⟩ := each 0 hp
            have hs := World.cell?_spot (a := a.add (0 * 5 + 0)) (v := .int .i64 t.k) (by rw [ht 0 (by omega)]; rfl)
            obtain ⟨ab, ao, asp⟩ := a
            have : asp = none := by simpa [Addr.add] using hs
            subst this; rfl
          refine ⟨.mk k l hh e (some a) a.block a.off len cap (fun i => if h : i < len then Classical.choose (each i h) else .dm), rfl, ⟨fun hp => congrArg some (hspot hp), by omega, fun i hi => ?_⟩⟩
          simp only [dif_pos hi]
          obtain ⟨ht, hA⟩ := Classical.choose_spec (each i hi)
          generalize Classical.choose (each i hi) = t at ht hA
          have ea := hspot (by omega)
          have get : ∀ j, j < 5 → W.cell? ⟨a.block, a.off + i * 5 + j, none⟩ = t.cs[j]? := fun j hj => by
            have := ht j hj
            rw [ea, addr_plain, ← Nat.add_assoc] at this
            exact this
          exact ⟨⟨get 0 (by omega), get 1 (by omega), get 2 (by omega), get 3 (by omega), get 4 (by omega)⟩, hA⟩
set_option maxRecDepth 100000 in
theorem open_type {v : Value} {d : DataW H} {p : List MemPlace} {b0 : Nat} (hv : Value.okWide Tryz.prog W .any b0 37 v) (h : DataW.Trod enc Tryz.prog W base (fun _ => true) true 37 v d p) :
    ∃ t : Ty, v = .agg #[.int .i64 t.k, .int .i64 t.l, .slice t.ao t.len t.cap, .int .i64 t.h, .int .i64 t.e] ∧ t.At W := by
  obtain ⟨cs, rfl, _⟩ := okWide_struct Tryz.underlying37 hv
  obtain ⟨fuel, hf⟩ := h
  obtain ⟨t, ht, hA⟩ := open_ty fuel _ _ hf
  refine ⟨t, ?_, hA⟩
  have : cs.toList = t.cs := by simpa [Value.cells] using ht
  obtain ⟨l⟩ := cs
  have e : l = t.cs := this
  rw [e]; rfl

end
end Go.Proofs.YtmajlfocfjcgmaaGreatDoor
