/- Layers 13 to 15: the reference's Few: a class of a size that is looked at. -/
import Derived.Test.YtjfijpiadfkmfaaGreatDoorP21
import Derived.Test.YtjfijpiadfkmfaaGreatDoorP15
import Derived.Test.YtjfijpiadfkmfaaGreatDoorP2
import Derived.Deep.QuietTactic
import Derived.BigQuiet
import Derived.Test.YtjfijpiadfkmfaaGreatDoorP18
import Derived.Test.YtjfijpiadfkmfaaGreatDoorRows
import Derived.Stop.LaidErr
import Derived.Stop.Joined
import Derived.Lib.LaidTab
import Derived.LaidMore
import Derived.OpenShut
import Derived.Test.YtjfijpiadfkmfaaGreatDoorP1
import Derived.ProofKit
import Derived.Deep.Grids
import Derived.Lib.SmallJoins
namespace Go.Proofs.YtjfijpiadfkmfaaGreatDoor
open Go Go.RowKit

/-- What Few answers: something, and yes only of at most seventy functions. -/
structure FewR (c : Kl) (w : World) (e : Ending) (w' : World) : Prop where
  ret : ∃ b : Bool, e = .returned (.bool b) ∧ (b = true → c.fs.len ≤ 70)
  bl : Below w.heap.size w w'
theorem FewR.no {c : Kl} {w w' : World} (h : Below w.heap.size w w') : FewR c w (.returned (.bool false)) w' := ⟨⟨false, rfl, fun h => (by cases h)⟩, h⟩

/-- Where Few stands within a function. -/
structure Fz (w : World) (c : Kl) (f : Cf) (BF : Nat) (u : World) : Prop where
  bl : Below w.heap.size w u
  bC : Blk u w.heap.size [.slice c.n.ao c.n.len c.n.cap, .slice c.g.ao c.g.len c.g.cap, .slice c.fs.ao c.fs.len c.fs.cap] 28
  bF : Blk u BF f.vs 42
  f : f.At u
theorem Fz.kept {w : World} {c : Kl} {f : Cf} {BF : Nat} {u u' : World} (h : Fz w c f BF u) (hb : Below u.heap.size u u') : Fz w c f BF u' := ⟨Below.next h.bl hb, h.bC.kept hb, h.bF.kept hb, Cf.At.kept hb h.f⟩

set_option maxRecDepth 100000 in
set_option maxHeartbeats 16000000 in
theorem rFew_any (c : Kl) (m : Int) (w : World) (hc : c.At w) : Calls Tryz.prog 5 #[.agg #[.slice c.n.ao c.n.len c.n.cap, .slice c.g.ao c.g.len c.g.cap, .slice c.fs.ao c.fs.len c.fs.cap], .int .i64 m] w fun e w' => FewR c w e w' := by
  have B0 := below_alloc w (.cells #[.slice c.n.ao c.n.len c.n.cap, .slice c.g.ao c.g.len c.g.cap, .slice c.fs.ao c.fs.len c.fs.cap] 28)
  have b := Blk.new w [.slice c.n.ao c.n.len c.n.cap, .slice c.g.ao c.g.len c.g.cap, .slice c.fs.ao c.fs.len c.fs.cap] 28
  have c0 := b.cell 0 rfl
  have c1 := b.cell 1 rfl
  have c2 := b.cell 2 rfl
  have hs := small_any c.n c.g _ (hc.n.kept B0) (hc.g.kept B0)
  have HD := hyd hc
  have HB := hyd (show Below w.heap.size w (w.alloc (.cells #[.slice c.n.ao c.n.len c.n.cap, .slice c.g.ao c.g.len c.g.cap, .slice c.fs.ao c.fs.len c.fs.cap] 28)) ∧ Blk (w.alloc (.cells #[.slice c.n.ao c.n.len c.n.cap, .slice c.g.ao c.g.len c.g.cap, .slice c.fs.ao c.fs.len c.fs.cap] 28)) w.heap.size [.slice c.n.ao c.n.len c.n.cap, .slice c.g.ao c.g.len c.g.cap, .slice c.fs.ao c.fs.len c.fs.cap] 28 from ⟨B0, b⟩)
  have hbd : c.fs.len ≤ 9223372036854775807 := hc.fs.bound
  have hnil : 0 < c.fs.len → c.fs.ao = some ⟨c.fs.b, c.fs.o, none⟩ := hc.fs.nil
  clear hc B0 b
  generalize smallB c.n c.g = b0 at *
  go_enter Tryz.func5, Tryz.ntmps5
  go_wp2_with fail
  refine hs.mono ?_
  rintro _ w1 ⟨rfl, hb1⟩
  have HB1 := hyd (show Below w.heap.size w w1 ∧ Blk w1 w.heap.size [.slice c.n.ao c.n.len c.n.cap, .slice c.g.ao c.g.len c.g.cap, .slice c.fs.ao c.fs.len c.fs.cap] 28 from ⟨Below.next HB.out.1 hb1, HB.out.2.kept hb1⟩)
  have d2 := HB1.out.2.cell 2 rfl
  clear hs c0 c1 c2 hb1 HB
  cases b0
  · go_wp2
    go_ret
    exact FewR.no HB1.out.1
  by_cases hl : 70 < c.fs.len
  · have e1 : (70 : Int) < c.fs.len := by omega
    go_wp2
    go_ret
    exact FewR.no HB1.out.1
  have e1 : ¬ (70 : Int) < c.fs.len := by omega
  have HLN := hyd (show c.fs.len ≤ 70 by omega)
  have HY : Hid (∀ b w', Below w.heap.size w w' → FewR c w (.returned (.bool b)) w') := fun b w' h => ⟨⟨b, rfl, fun _ => HLN.out⟩, h⟩
  go_wp2
  clear d2 e1 hl
  go_loopw [5, 6] (fun x i wr => ∃ (n : Int) (j : Nat), x = .int .i64 n ∧ j ≤ c.fs.len ∧ i = .int .i64 j ∧ Below w.heap.size w wr ∧ Blk wr w.heap.size [.slice c.n.ao c.n.len c.n.cap, .slice c.g.ao c.g.len c.g.cap, .slice c.fs.ao c.fs.len c.fs.cap] 28) (fun _ i _ => c.fs.len - (intOf i).toNat)
  case atStart => exact ⟨0, 0, rfl, Nat.zero_le _, rfl, HB1.out.1, HB1.out.2⟩
  case round =>
    clear HB1
    obtain ⟨n, j, rfl, hj, rfl, hBl, hBk⟩ := hrel
    have d2 := hBk.cell 2 rfl
    have HB := hyd (show Below w.heap.size w wr ∧ Blk wr w.heap.size _ 28 from ⟨hBl, hBk⟩)
    clear hBl hBk
    by_cases hlt : j < c.fs.len
    · have ij : (j : Int) < c.fs.len := by omega
      by_cases hnm : n ≤ m
      · have a0 := hnil (by omega)
        have r0 := range_kept (HD.out.fs.row j hlt) HB.out.1
        have HF := hyd (Cf.At.kept HB.out.1 (HD.out.fs.each j hlt))
        rw [a0] at d2
        have HA0 := hyd a0
        have hHs : Hid (c.fs.ao = some ⟨c.fs.b, c.fs.o, none⟩) := a0
        clear a0
        generalize c.fs.x j = f at *
        go_upto_region 8 with (first | (refine wpList_load_mid rfl 42 (.tmp 36) rfl c.fs.b (c.fs.o + j * 18) (by kernel_rfl) f.vs _ r0 Tryz.underlying42 rfl (by kernel_rfl) ?_) | (refine wpList_new_mid rfl rfl 42 rfl (.tmp 7) (.tmp 37) rfl z_fn (alloc_fn _) rfl f.vs.toArray (by kernel_rfl) (by kernel_rfl) rfl (by kernel_rfl) (by simpa using f.vs_one) ?_))
        have B1 := below_alloc wr (.cells f.vs.toArray 42)
        have HU := hyd (show Fz w c f wr.heap.size (wr.alloc (.cells f.vs.toArray 42)) from ⟨Below.next HB.out.1 B1, HB.out.2.kept B1, Blk.new wr _ _, Cf.At.kept B1 HF.out⟩)
        clear d2 r0 HF HB B1
        generalize wr.alloc (.cells f.vs.toArray 42) = U at *
        generalize wr.heap.size = BF at *
        have f0 := HU.out.bF.cell 0 rfl
        have f1 := HU.out.bF.cell 1 rfl
        have f2 := HU.out.bF.cell 2 rfl
        have f3 := HU.out.bF.cell 3 rfl
        have f4 := HU.out.bF.cell 4 rfl
        have f10 := HU.out.bF.cell 10 rfl
        have f14 := HU.out.bF.cell 14 rfl
        have f15 := HU.out.bF.cell 15 rfl
        have hS1 := rSmall2_any f.p U HU.out.f.p
        generalize decide (f.p.nodes ≤ 40) = s1 at *
        generalize f.vs.toArray = V at *
        go_wp2_with fail
        refine hS1.mono ?_
        rintro _ u1 ⟨rfl, hb1⟩
        generalize wrap64 (n + wrap64 (wrap64 (wrap64 (4 + (f.c.len : Int)) + (f.cd.len : Int)) + (f.hd.len : Int))) = n1 at *
        have HU1 := hyd (HU.out.kept hb1)
        clear hS1 hb1 f0 f1 f2 f3 f4 f10 f14 f15 HU
        cases s1
        · go_wp2
          go_ret
          exact HY.out _ _ HU1.out.bl
        have f5 := HU1.out.bF.cell 5 rfl
        have f6 := HU1.out.bF.cell 6 rfl
        have f7 := HU1.out.bF.cell 7 rfl
        have f8 := HU1.out.bF.cell 8 rfl
        have f9 := HU1.out.bF.cell 9 rfl
        have hS2 := rSmall2_any f.r u1 HU1.out.f.r
        generalize decide (f.r.nodes ≤ 40) = s2 at *
        go_wp2_with fail
        refine hS2.mono ?_
        rintro _ u2 ⟨rfl, hb2⟩
        have HU2 := hyd (HU1.out.kept hb2)
        clear hS2 hb2 f5 f6 f7 f8 f9 HU1
        cases s2
        · go_wp2
          go_ret
          exact HY.out _ _ HU2.out.bl
        have f10 := HU2.out.bF.cell 10 rfl
        have hS3 := rsmall_any f.c u2 HU2.out.f.c
        generalize decide (∀ i, i < f.c.len → (f.c.ps i).nodes ≤ 40) = s3 at *
        go_wp2_with fail
        refine hS3.mono ?_
        rintro _ u3 ⟨rfl, hb3⟩
        have HU3 := hyd (HU2.out.kept hb3)
        clear hS3 hb3 f10 HU2
        cases s3
        · go_wp2
          go_ret
          exact HY.out _ _ HU3.out.bl
        by_cases hm1 : m < n1
        · go_wp2
          go_ret
          exact HY.out _ _ HU3.out.bl
        go_wp2
        go_loopw [8] (fun k wx => ∃ (q : Nat), q ≤ f.cd.len ∧ k = .int .i64 q ∧ Fz w c f BF wx) (fun k _ => f.cd.len - (intOf k).toNat)
        case atStart => exact ⟨0, Nat.zero_le _, rfl, HU3.out⟩
        case round =>
          clear HU3
          obtain ⟨q, hq, rfl, hZ⟩ := hrel
          have HZ := hyd hZ
          have g14 := hZ.bF.cell 14 rfl
          have hbq : f.cd.len ≤ 9223372036854775807 := hZ.f.cd.bound
          by_cases hql : q < f.cd.len
          · have iq : (q : Int) < f.cd.len := by omega
            rw [hZ.f.cd.nil (by omega)] at g14
            have r2 : wr.rangeAt f.cd.b (f.cd.o + q * 7 + 2) (f.cd.x q).t.vs := fun i v hv => by
              have := hZ.f.cd.row q hql (i + 2) v hv
              rw [show f.cd.o + q * 7 + 2 + i = f.cd.o + q * 7 + (i + 2) by omega]
              exact this
            have hS := rSmall2_any (f.cd.x q).t wr (hZ.f.cd.each q hql).t
            clear hZ
            generalize (f.cd.x q).t = tq at *
            generalize decide (tq.nodes ≤ 40) = sb at *
            go_wp2_with (refine wpList_load_mid rfl 36 (.tmp 84) rfl f.cd.b (f.cd.o + q * 7 + 2) (by kernel_rfl) tq.vs _ r2 Tryz.underlying36 rfl (by kernel_rfl) ?_)
            refine Calls.mono hS ?_
            rintro _ v1 ⟨rfl, hb1⟩
            have HZ1 := hyd (HZ.out.kept hb1)
            clear hS hb1 r2 g14 HZ
            cases sb
            · go_wp2
              go_ret
              exact HY.out _ _ HZ1.out.bl
            · go_wp2
              go_roundw
              case rel => exact ⟨q + 1, by omega, by go_num, HZ1.out⟩
              case measure => simp [intOf]; omega
          · have e2 : q = f.cd.len := by omega
            subst e2
            have dj : ¬ (f.cd.len : Int) < f.cd.len := by omega
            clear hZ
            go_wp2
            clear g14 dj
            go_loopw [5, 9] (fun x k wx => ∃ (n2 : Int) (q : Nat), x = .int .i64 n2 ∧ q ≤ f.pt.len ∧ k = .int .i64 q ∧ Fz w c f BF wx) (fun _ k _ => f.pt.len - (intOf k).toNat)
            case atStart => exact ⟨_, 0, rfl, Nat.zero_le _, rfl, HZ.out⟩
            case round =>
              clear HZ
              obtain ⟨n2, q, rfl, hq, rfl, hZ⟩ := hrel
              have HZ := hyd hZ
              have g16 := hZ.bF.cell 16 rfl
              have hbq : f.pt.len ≤ 9223372036854775807 := hZ.f.pt.bound
              by_cases hql : q < f.pt.len
              · have iq : (q : Int) < f.pt.len := by omega
                by_cases hn2 : n2 ≤ m
                · rw [hZ.f.pt.nil (by omega)] at g16
                  have r0 := hZ.f.pt.row q hql 0 _ rfl
                  have r1 := hZ.f.pt.row q hql 1 _ rfl
                  simp only [Nat.add_zero] at r0
                  have HP := hyd (hZ.f.pt.each q hql)
                  clear hZ
                  generalize f.pt.x q = P at *
                  go_upto_region 19 with fail
                  go_quiet (fail)
                  have HZq := hyd (HZ.out.kept (below_drewN (Below.refl _ _) nq))
                  have HPq := hyd (Pt.At.kept (below_drewN (Below.refl _ _) nq) HP.out)
                  have r0q : (wr.drewN nq).cell? ⟨f.pt.b, f.pt.o + q * 3, none⟩ = some (.slice P.st.ao P.st.len P.st.cap) := r0
                  have r1q : (wr.drewN nq).cell? ⟨f.pt.b, f.pt.o + q * 3 + 1, none⟩ = some (.slice P.sl.ao P.sl.len P.sl.cap) := r1
                  have g16q : (wr.drewN nq).cell? ⟨BF, 16, none⟩ = some (.slice (some ⟨f.pt.b, f.pt.o, none⟩) f.pt.len f.pt.cap) := g16
                  clear r0 r1 g16 HZ HP
                  generalize wr.drewN nq = W at *
                  generalize wrap64 (n2 + wrap64 (wrap64 (2 + (P.st.len : Int)) + (P.sl.len : Int))) = n4 at *
                  by_cases hn4 : n4 ≤ m
                  · have hSa := rsmall_any P.st W HPq.out.st
                    generalize decide (∀ i, i < P.st.len → (P.st.ps i).nodes ≤ 40) = sa at *
                    go_wp2_with fail
                    refine Calls.mono hSa ?_
                    rintro _ v1 ⟨rfl, hb1⟩
                    have HZ1 := hyd (HZq.out.kept hb1)
                    have HP1 := hyd (Pt.At.kept hb1 HPq.out)
                    have r1v := up hb1 r1q
                    have g16v := up hb1 g16q
                    clear hSa hb1 r0q r1q g16q HZq HPq
                    cases sa
                    · go_wp2
                      go_ret
                      exact HY.out _ _ HZ1.out.bl
                    · have hSb := rsmall_any P.sl v1 HP1.out.sl
                      generalize decide (∀ i, i < P.sl.len → (P.sl.ps i).nodes ≤ 40) = sb at *
                      go_wp2_with fail
                      refine Calls.mono hSb ?_
                      rintro _ v2 ⟨rfl, hb2⟩
                      have HZ2 := hyd (HZ1.out.kept hb2)
                      clear hSb hb2 r1v g16v HZ1 HP1
                      cases sb
                      · go_wp2
                        go_ret
                        exact HY.out _ _ HZ2.out.bl
                      · go_wp2
                        go_roundw
                        case rel => exact ⟨_, q + 1, rfl, by omega, by go_num, HZ2.out⟩
                        case measure => simp [intOf]; omega
                  · go_wp2
                    go_roundw
                    case rel => exact ⟨_, q + 1, rfl, by omega, by go_num, HZq.out⟩
                    case measure => simp [intOf]; omega
                · clear hZ
                  go_wp2
                  clear g16
                  go_loopw [5, 10] (fun x k wx => ∃ (n3 : Int) (q : Nat), x = .int .i64 n3 ∧ q ≤ f.rg.len ∧ k = .int .i64 q ∧ Fz w c f BF wx) (fun _ k _ => f.rg.len - (intOf k).toNat)
                  case atStart => exact ⟨_, 0, rfl, Nat.zero_le _, rfl, HZ.out⟩
                  case round =>
                    clear HZ
                    obtain ⟨n3, q, rfl, hq, rfl, hZ⟩ := hrel
                    have HZ := hyd hZ
                    have g17 := hZ.bF.cell 17 rfl
                    have hbq : f.rg.len ≤ 9223372036854775807 := hZ.f.rg.bound
                    by_cases hql : q < f.rg.len
                    · have iq : (q : Int) < f.rg.len := by omega
                      by_cases hn3 : n3 ≤ m
                      · rw [hZ.f.rg.nil (by omega)] at g17
                        have r2 := hZ.f.rg.row q hql 2 _ rfl
                        clear hZ
                        go_wp2
                        go_roundw
                        case rel => exact ⟨_, q + 1, rfl, by omega, by go_num, HZ.out⟩
                        case measure => simp [intOf]; omega
                      · clear hZ
                        go_wp2
                        go_roundw
                        case rel => exact ⟨_, j + 1, rfl, by omega, by go_num, HZ.out.bl, HZ.out.bC⟩
                        case measure => simp [intOf]; omega
                    · have e2 : q = f.rg.len := by omega
                      subst e2
                      have dj : ¬ (f.rg.len : Int) < f.rg.len := by omega
                      clear hZ
                      go_wp2
                      go_roundw
                      case rel => exact ⟨_, j + 1, rfl, by omega, by go_num, HZ.out.bl, HZ.out.bC⟩
                      case measure => simp [intOf]; omega
              · have e2 : q = f.pt.len := by omega
                subst e2
                have dj : ¬ (f.pt.len : Int) < f.pt.len := by omega
                clear hZ
                go_wp2
                clear g16 dj
                go_loopw [5, 10] (fun x k wx => ∃ (n3 : Int) (q : Nat), x = .int .i64 n3 ∧ q ≤ f.rg.len ∧ k = .int .i64 q ∧ Fz w c f BF wx) (fun _ k _ => f.rg.len - (intOf k).toNat)
                case atStart => exact ⟨_, 0, rfl, Nat.zero_le _, rfl, HZ.out⟩
                case round =>
                  clear HZ
                  obtain ⟨n3, q, rfl, hq, rfl, hZ⟩ := hrel
                  have HZ := hyd hZ
                  have g17 := hZ.bF.cell 17 rfl
                  have hbq : f.rg.len ≤ 9223372036854775807 := hZ.f.rg.bound
                  by_cases hql : q < f.rg.len
                  · have iq : (q : Int) < f.rg.len := by omega
                    by_cases hn3 : n3 ≤ m
                    · rw [hZ.f.rg.nil (by omega)] at g17
                      have r2 := hZ.f.rg.row q hql 2 _ rfl
                      clear hZ
                      go_wp2
                      go_roundw
                      case rel => exact ⟨_, q + 1, rfl, by omega, by go_num, HZ.out⟩
                      case measure => simp [intOf]; omega
                    · clear hZ
                      go_wp2
                      go_roundw
                      case rel => exact ⟨_, j + 1, rfl, by omega, by go_num, HZ.out.bl, HZ.out.bC⟩
                      case measure => simp [intOf]; omega
                  · have e2 : q = f.rg.len := by omega
                    subst e2
                    have dj : ¬ (f.rg.len : Int) < f.rg.len := by omega
                    clear hZ
                    go_wp2
                    go_roundw
                    case rel => exact ⟨_, j + 1, rfl, by omega, by go_num, HZ.out.bl, HZ.out.bC⟩
                    case measure => simp [intOf]; omega
      · go_wp2
        go_ret
        exact HY.out _ _ HB.out.1
    · have e2 : j = c.fs.len := by omega
      subst e2
      have dj : ¬ (c.fs.len : Int) < c.fs.len := by omega
      go_wp2
      go_ret
      exact HY.out _ _ HB.out.1
end Go.Proofs.YtjfijpiadfkmfaaGreatDoor

/- Layer 13: the statement ClassPool, walked. -/
namespace Go.Proofs.YtjfijpiadfkmfaaGreatDoor
open Go Go.RowKit

/-- The first Parts of a type, as a type. -/
def Ty.upto (T : Ty) (j : Nat) : Ty := .mk 0 0 0 0 T.ao T.b T.o j T.cap T.ps
theorem Ty.At.upto {w : World} {j : Nat} : ∀ {T : Ty}, T.At w → j ≤ T.len → (T.upto j).At w
  | .dm, h, _ => h.elim
  | .mk _ _ _ _ _ _ _ _ _ _, h, hj => ⟨fun h0 => h.1 (Nat.lt_of_lt_of_le h0 hj), Nat.le_trans hj h.2.1, fun i hi => h.2.2 i (Nat.lt_of_lt_of_le hi hj)⟩
/-- What the statement asks of a function's types. -/
structure AskF (T : Ty) (f : Cf) : Prop where
  p : ¬ ((plN T.ps T.len f.p : Nat) : Int) = (T.len : Int)
  r : ¬ ((plN T.ps T.len f.r : Nat) : Int) = (T.len : Int)
  st : ∀ k, k < f.pt.len → ∀ m, m < (f.pt.x k).st.len → ¬ ((plN T.ps T.len ((f.pt.x k).st.ps m) : Nat) : Int) = (T.len : Int)
/-- What it asks of the pool's copy. -/
structure Asked (c : Kl) (T : Ty) : Prop where
  once : ∀ i, i < T.len → ¬ ((plN T.ps i (T.ps i) : Nat) : Int) < (i : Int)
  part : ∀ i, i < T.len → ∀ k, k < (T.ps i).len → ¬ ((plN T.ps i ((T.ps i).ps k) : Nat) : Int) = (i : Int)
  fn : ∀ i, i < c.fs.len → AskF T (c.fs.x i)
theorem asked {c : Kl} {T : Ty} {Q : List (List Int)} (h : c.fm = true) (hC : Cop (fnL c.fs.x c.fs.len []) T) (hG : Good c.n.len (fnL c.fs.x c.fs.len []) Q) : Asked c T :=
  ⟨fun i hi => by have := cop_once hG hC hi; omega, fun i hi k hk => by have := cop_part hG hC hi hk; omega,
   fun i hi => ⟨by have := cop_has hC (stands h hi).p; omega, by have := cop_has hC (stands h hi).r; omega, fun k hk m hm => by have := cop_has hC ((stands h hi).st k hk m hm); omega⟩⟩
/-- Where the statement stands. -/
structure Sc (w : World) (c : Kl) (T : Ty) (u : World) : Prop where
  bl : Below w.heap.size w u
  bC : Blk u w.heap.size [.slice c.n.ao c.n.len c.n.cap, .slice c.g.ao c.g.len c.g.cap, .slice c.fs.ao c.fs.len c.fs.cap] 28
  t : T.At u
theorem Sc.kept {w : World} {c : Kl} {T : Ty} {u u' : World} (h : Sc w c T u) (hb : Below u.heap.size u u') : Sc w c T u' := ⟨Below.next h.bl hb, h.bC.kept hb, h.t.kept hb⟩
structure Sf (w : World) (c : Kl) (T : Ty) (f : Cf) (BF : Nat) (u : World) : Prop where
  s : Sc w c T u
  bF : Blk u BF f.vs 42
  f : f.At u
theorem Sf.kept {w : World} {c : Kl} {T : Ty} {f : Cf} {BF : Nat} {u u' : World} (h : Sf w c T f BF u) (hb : Below u.heap.size u u') : Sf w c T f BF u' := ⟨h.s.kept hb, h.bF.kept hb, Cf.At.kept hb h.f⟩

set_option maxRecDepth 100000 in
set_option maxHeartbeats 16000000 in
theorem classPool_any (aw : ∀ u : World, Og u → Calls Tryz.prog 4 #[] u fun e u' => e = .returned (.bool true) ∧ Below u.heap.size u u') (c : Kl) (w : World) (hc : c.At w) (hO : Og w) : Calls Tryz.prog 3 #[.agg #[.slice c.n.ao c.n.len c.n.cap, .slice c.g.ao c.g.len c.g.cap, .slice c.fs.ao c.fs.len c.fs.cap]] w fun e w' => e = .returned (.bool true) ∧ Below w.heap.size w w' := by
  have H0 := hyd (show Below w.heap.size w (w.alloc (.cells #[.slice c.n.ao c.n.len c.n.cap, .slice c.g.ao c.g.len c.g.cap, .slice c.fs.ao c.fs.len c.fs.cap] 28)) ∧ Blk (w.alloc (.cells #[.slice c.n.ao c.n.len c.n.cap, .slice c.g.ao c.g.len c.g.cap, .slice c.fs.ao c.fs.len c.fs.cap] 28)) w.heap.size [.slice c.n.ao c.n.len c.n.cap, .slice c.g.ao c.g.len c.g.cap, .slice c.fs.ao c.fs.len c.fs.cap] 28 from ⟨below_alloc _ _, Blk.new _ _ _⟩)
  have HD := hyd (show c.At w ∧ Og w from ⟨hc, hO⟩)
  have HAw := hyd aw
  have h0 := aw _ (hO.kept H0.out.1)
  have hbc : c.fs.len ≤ 9223372036854775807 := hc.fs.bound
  have hnc : 0 < c.fs.len → c.fs.ao = some ⟨c.fs.b, c.fs.o, none⟩ := hc.fs.nil
  clear hc hO aw
  generalize hw0 : w.alloc (.cells #[.slice c.n.ao c.n.len c.n.cap, .slice c.g.ao c.g.len c.g.cap, .slice c.fs.ao c.fs.len c.fs.cap] 28) = u0 at *
  go_enter Tryz.func3, Tryz.ntmps3
  go_wp2_with fail
  refine h0.mono ?_
  rintro _ u2 ⟨rfl, hb⟩
  have H1 := hyd (show Below w.heap.size w u2 ∧ Blk u2 w.heap.size _ 28 from ⟨Below.next H0.out.1 hb, H0.out.2.kept hb⟩)
  clear h0 hb H0 hw0
  have c0 := H1.out.2.cell 0 rfl
  have c1 := H1.out.2.cell 1 rfl
  have c2 := H1.out.2.cell 2 rfl
  have h0 := rFew_any c 1500 u2 (Kl.At.kept H1.out.1 HD.out.1)
  go_wp2_with fail
  refine h0.mono ?_
  rintro e u3 ⟨⟨bb, rfl, _⟩, hb⟩
  have H2 := hyd (show Below w.heap.size w u3 ∧ Blk u3 w.heap.size _ 28 from ⟨Below.next H1.out.1 hb, H1.out.2.kept hb⟩)
  clear h0 hb H1 c0 c1 c2
  cases bb
  · have h0 := HAw.out u3 (HD.out.2.kept H2.out.1)
    go_wp2_with fail
    refine h0.mono ?_
    rintro _ u4 ⟨rfl, hb⟩
    have H3 := hyd (Below.next H2.out.1 hb)
    clear h0 hb
    go_wp2
    go_ret
    exact ⟨rfl, H3.out⟩
  have c0 := H2.out.2.cell 0 rfl
  have c1 := H2.out.2.cell 1 rfl
  have c2 := H2.out.2.cell 2 rfl
  have h0 := pool_any c u3 (Kl.At.kept H2.out.1 HD.out.1) (HD.out.2.kept H2.out.1)
  go_wp2_with fail
  refine Calls.mono h0 ?_
  intro e u4 hP
  have H3 := hyd (show Below w.heap.size w u4 ∧ Blk u4 w.heap.size _ 28 from ⟨Below.next H2.out.1 hP.bl, H2.out.2.kept hP.bl⟩)
  clear h0 H2 c0 c1 c2
  have c0 := H3.out.2.cell 0 rfl
  have c1 := H3.out.2.cell 1 rfl
  have c2 := H3.out.2.cell 2 rfl
  have h0 := cFormed_any c u4 (Kl.At.kept H3.out.1 HD.out.1) (HD.out.2.kept H3.out.1)
  cases hf : c.fm
  · obtain rfl := hP.no hf
    rw [hf] at h0
    clear hP hf
    go_wp2_with fail
    refine h0.mono ?_
    rintro _ u5 ⟨rfl, hb⟩
    have H4 := hyd (Below.next H3.out.1 hb)
    clear h0 hb
    go_wp2
    go_ret
    exact ⟨rfl, H4.out⟩
  obtain ⟨T, rfl, hT, hC, hcap, Q, hG⟩ := hP.yes hf
  have HQ := hyd (asked hf hC hG)
  have HT := hyd hT
  have hnT := hT.nil
  have hbT := hT.bound
  have HCap := hyd hcap
  rw [hf] at h0
  clear hP hf hT hC hG hcap
  go_wp2_with fail
  refine h0.mono ?_
  rintro _ u5 ⟨rfl, hb⟩
  have HS0 := hyd (show Sc w c T u5 from ⟨Below.next H3.out.1 hb, H3.out.2.kept hb, HT.out.kept hb⟩)
  clear h0 hb H3 HT c0 c1 c2
  go_wp2
  go_loopw [4] (fun i wr => ∃ (j : Nat), j ≤ T.len ∧ i = .int .i64 j ∧ Sc w c T wr) (fun i _ => T.len - (intOf i).toNat)
  case atStart => exact ⟨0, Nat.zero_le _, rfl, HS0.out⟩
  case round =>
    clear HS0
    obtain ⟨j, hj, rfl, hS⟩ := hrel
    have HS := hyd hS
    clear hS
    by_cases hlt : j < T.len
    · have ij : (j : Int) < T.len := by omega
      have jc : (j : Int) ≤ T.cap := by have := HCap.out; omega
      have a0 := hnT (by omega)
      have C := HS.out.t.cells hlt
      obtain ⟨z, hz⟩ : ∃ z : Int, z = ((plN T.ps j (T.ps j) : Nat) : Int) := ⟨_, rfl⟩
      have e1 : ¬ z < (j : Int) := by rw [hz]; exact HQ.out.once j hlt
      have hs : ∀ (y : Gr wr) (v : Value), v = .slice (some ⟨T.b, T.o, none⟩) j T.cap → Calls Tryz.prog 8 #[v, .agg #[.int .i64 (T.ps j).k, .int .i64 (T.ps j).l, .slice (T.ps j).ao (T.ps j).len (T.ps j).cap, .int .i64 (T.ps j).h, .int .i64 (T.ps j).e]] y.w fun e w' => e = .returned (.int .i64 z) ∧ Below y.w.heap.size y.w w' := fun y v hv => by
        subst hv
        rw [hz, ← a0]
        exact rPlace_any (T.upto j) (T.ps j) y.w ((HS.out.t.kept y.bl).upto hj) ((HS.out.t.kept y.bl).part hlt)
      have y0 : ∀ y : Gr wr, y.w.cell? ⟨T.b, T.o + j * 5, none⟩ = some (.int .i64 (T.ps j).k) := fun y => Gr.cell y C.c0
      have y1 : ∀ y : Gr wr, y.w.cell? ⟨T.b, T.o + j * 5 + 1, none⟩ = some (.int .i64 (T.ps j).l) := fun y => Gr.cell y C.c1
      have y2 : ∀ y : Gr wr, y.w.cell? ⟨T.b, T.o + j * 5 + 2, none⟩ = some (.slice (T.ps j).ao (T.ps j).len (T.ps j).cap) := fun y => Gr.cell y C.c2
      have y3 : ∀ y : Gr wr, y.w.cell? ⟨T.b, T.o + j * 5 + 3, none⟩ = some (.int .i64 (T.ps j).h) := fun y => Gr.cell y C.c3
      have y4 : ∀ y : Gr wr, y.w.cell? ⟨T.b, T.o + j * 5 + 4, none⟩ = some (.int .i64 (T.ps j).e) := fun y => Gr.cell y C.c4
      have hNE : Nonempty (Gr wr) := ⟨⟨wr, Below.refl _ _⟩⟩
      rw [a0]
      clear C hz a0
      go_upto_region 9 with fail
      refine wp_region_gr (by kernel_rfl) (by kernel_rfl) ?_
      repeat go_big_quiet_step ((first | (go_at_call 8; exact Calls.gr _ (hs _ _ rfl))))
      refine wpQuiet_nil ?_
      rintro q1 ⟨xg, rfl⟩
      have Bg := xg.bl
      have HS1 := hyd (HS.out.kept Bg)
      generalize xg.w = q1 at HS1 ⊢
      clear xg Bg HS hs y0 y1 y2 y3 y4 hNE
      go_wp2
      clear e1
      go_loopw [5] (fun k wx => ∃ (m : Nat), m ≤ (T.ps j).len ∧ k = .int .i64 m ∧ Sc w c T wx) (fun k _ => (T.ps j).len - (intOf k).toNat)
      case atStart => exact ⟨0, Nat.zero_le _, rfl, HS1.out⟩
      case round =>
        clear HS1
        obtain ⟨m, hm, rfl, hS⟩ := hrel
        have HS := hyd hS
        clear hS
        have C := HS.out.t.cells hlt
        have P := HS.out.t.part hlt
        have hbP := P.bound
        by_cases hml : m < (T.ps j).len
        · have im : (m : Int) < (T.ps j).len := by omega
          have a1 := P.nil (by omega)
          have D := P.cells hml
          have a0 := hnT (by omega)
          obtain ⟨z, hz⟩ : ∃ z : Int, z = ((plN T.ps j ((T.ps j).ps m) : Nat) : Int) := ⟨_, rfl⟩
          have e1 : ¬ z = (j : Int) := by rw [hz]; exact HQ.out.part j hlt m hml
          have hs : ∀ (y : Gr wr) (v : Value), v = .slice (some ⟨T.b, T.o, none⟩) j T.cap → Calls Tryz.prog 8 #[v, .agg #[.int .i64 ((T.ps j).ps m).k, .int .i64 ((T.ps j).ps m).l, .slice ((T.ps j).ps m).ao ((T.ps j).ps m).len ((T.ps j).ps m).cap, .int .i64 ((T.ps j).ps m).h, .int .i64 ((T.ps j).ps m).e]] y.w fun e w' => e = .returned (.int .i64 z) ∧ Below y.w.heap.size y.w w' := fun y v hv => by
            subst hv
            rw [hz, ← a0]
            exact rPlace_any (T.upto j) ((T.ps j).ps m) y.w ((HS.out.t.kept y.bl).upto hj) (((HS.out.t.kept y.bl).part hlt).part hml)
          have c2 := C.c2
          rw [a1] at c2
          have y2 : ∀ y : Gr wr, y.w.cell? ⟨T.b, T.o + j * 5 + 2, none⟩ = some (.slice (some ⟨(T.ps j).b, (T.ps j).o, none⟩) (T.ps j).len (T.ps j).cap) := fun y => Gr.cell y c2
          have z0 : ∀ y : Gr wr, y.w.cell? ⟨(T.ps j).b, (T.ps j).o + m * 5, none⟩ = some (.int .i64 ((T.ps j).ps m).k) := fun y => Gr.cell y D.c0
          have z1 : ∀ y : Gr wr, y.w.cell? ⟨(T.ps j).b, (T.ps j).o + m * 5 + 1, none⟩ = some (.int .i64 ((T.ps j).ps m).l) := fun y => Gr.cell y D.c1
          have z2 : ∀ y : Gr wr, y.w.cell? ⟨(T.ps j).b, (T.ps j).o + m * 5 + 2, none⟩ = some (.slice ((T.ps j).ps m).ao ((T.ps j).ps m).len ((T.ps j).ps m).cap) := fun y => Gr.cell y D.c2
          have z3 : ∀ y : Gr wr, y.w.cell? ⟨(T.ps j).b, (T.ps j).o + m * 5 + 3, none⟩ = some (.int .i64 ((T.ps j).ps m).h) := fun y => Gr.cell y D.c3
          have z4 : ∀ y : Gr wr, y.w.cell? ⟨(T.ps j).b, (T.ps j).o + m * 5 + 4, none⟩ = some (.int .i64 ((T.ps j).ps m).e) := fun y => Gr.cell y D.c4
          have hNE : Nonempty (Gr wr) := ⟨⟨wr, Below.refl _ _⟩⟩
          clear C D P hz a0
          go_upto_region 14 with fail
          refine wp_region_gr (by kernel_rfl) (by kernel_rfl) ?_
          repeat go_big_quiet_step ((first | (go_at_call 8; exact Calls.gr _ (hs _ _ rfl))))
          refine wpQuiet_nil ?_
          rintro q1 ⟨xg, rfl⟩
          have Bg := xg.bl
          have HS1 := hyd (HS.out.kept Bg)
          generalize xg.w = q1 at HS1 ⊢
          clear xg Bg HS hs y2 z0 z1 z2 z3 z4 hNE c2
          go_wp2
          go_roundw
          case rel => exact ⟨m + 1, by omega, by go_num, HS1.out⟩
          case measure => simp [intOf]; omega
        · have im : ¬ (m : Int) < (T.ps j).len := by omega
          have c2 := C.c2
          clear C P
          go_wp2
          go_roundw
          case rel => exact ⟨j + 1, by omega, by go_num, HS.out⟩
          case measure => simp [intOf]; omega
    · have ij : ¬ (j : Int) < T.len := by omega
      go_wp2
      clear ij
      go_loopw [6] (fun i wx => ∃ (q : Nat), q ≤ c.fs.len ∧ i = .int .i64 q ∧ Sc w c T wx) (fun i _ => c.fs.len - (intOf i).toNat)
      case atStart => exact ⟨0, Nat.zero_le _, rfl, HS.out⟩
      case round =>
        clear HS
        obtain ⟨q, hq, rfl, hS⟩ := hrel
        have HS := hyd hS
        clear hS
        have d1 := HS.out.bC.cell 2 rfl
        by_cases hql : q < c.fs.len
        · have iq : (q : Int) < c.fs.len := by omega
          have a0 := hnc (by omega)
          have r0 := range_kept (HD.out.1.fs.row q hql) HS.out.bl
          have HF := hyd (Cf.At.kept HS.out.bl (HD.out.1.fs.each q hql))
          have HK := hyd (HQ.out.fn q hql)
          rw [a0] at d1
          clear a0
          generalize c.fs.x q = f at *
          go_upto_region 20 with (first | (refine wpList_load_mid rfl 42 (.tmp 76) rfl c.fs.b (c.fs.o + q * 18) (by kernel_rfl) f.vs _ r0 Tryz.underlying42 rfl (by kernel_rfl) ?_) | (refine wpList_new_mid rfl rfl 42 rfl (.tmp 7) (.tmp 77) rfl z_fn (alloc_fn _) rfl f.vs.toArray (by kernel_rfl) (by kernel_rfl) rfl (by kernel_rfl) (by simpa using f.vs_one) ?_))
          have B1 := below_alloc wr (.cells f.vs.toArray 42)
          have HU := hyd (show Sf w c T f wr.heap.size (wr.alloc (.cells f.vs.toArray 42)) from ⟨HS.out.kept B1, Blk.new wr _ _, Cf.At.kept B1 HF.out⟩)
          clear d1 r0 HF HS B1
          generalize wr.alloc (.cells f.vs.toArray 42) = U at *
          generalize wr.heap.size = BF at *
          have f0 := HU.out.bF.cell 0 rfl
          have f1 := HU.out.bF.cell 1 rfl
          have f2 := HU.out.bF.cell 2 rfl
          have f3 := HU.out.bF.cell 3 rfl
          have f4 := HU.out.bF.cell 4 rfl
          have hS1 := rPlace_any T f.p U HU.out.s.t HU.out.f.p
          have e1 := HK.out.p
          generalize ((plN T.ps T.len f.p : Nat) : Int) = z at hS1 e1
          generalize f.vs.toArray = V at *
          go_wp2_with fail
          refine hS1.mono ?_
          rintro _ u1 ⟨rfl, hb1⟩
          have HU1 := hyd (HU.out.kept hb1)
          clear hS1 hb1 f0 f1 f2 f3 f4 HU
          have f5 := HU1.out.bF.cell 5 rfl
          have f6 := HU1.out.bF.cell 6 rfl
          have f7 := HU1.out.bF.cell 7 rfl
          have f8 := HU1.out.bF.cell 8 rfl
          have f9 := HU1.out.bF.cell 9 rfl
          have hS2 := rPlace_any T f.r u1 HU1.out.s.t HU1.out.f.r
          have e2 := HK.out.r
          generalize ((plN T.ps T.len f.r : Nat) : Int) = z2 at hS2 e2
          go_wp2_with fail
          refine hS2.mono ?_
          rintro _ u2 ⟨rfl, hb2⟩
          have HU2 := hyd (HU1.out.kept hb2)
          clear hS2 hb2 f5 f6 f7 f8 f9 HU1
          have g1 : (z == (T.len : Int)) = false := by simpa using e1
          have g2 : (z2 == (T.len : Int)) = false := by simpa using e2
          clear e1 e2
          go_wp2
          clear g1 g2
          go_loopw [8] (fun k wx => ∃ (n : Nat), n ≤ f.pt.len ∧ k = .int .i64 n ∧ Sf w c T f BF wx) (fun k _ => f.pt.len - (intOf k).toNat)
          case atStart => exact ⟨0, Nat.zero_le _, rfl, HU2.out⟩
          case round =>
            clear HU2
            obtain ⟨n, hn, rfl, hZ⟩ := hrel
            have HZ := hyd hZ
            have g16 := hZ.bF.cell 16 rfl
            have hbq : f.pt.len ≤ 9223372036854775807 := hZ.f.pt.bound
            clear hZ
            by_cases hnl : n < f.pt.len
            · have i1 : (n : Int) < f.pt.len := by omega
              go_wp2
              clear g16
              go_loopw [9] (fun k wx => ∃ (m : Nat), m ≤ (f.pt.x n).st.len ∧ k = .int .i64 m ∧ Sf w c T f BF wx) (fun k _ => (f.pt.x n).st.len - (intOf k).toNat)
              case atStart => exact ⟨0, Nat.zero_le _, rfl, HZ.out⟩
              case round =>
                clear HZ
                obtain ⟨m, hm, rfl, hZ⟩ := hrel
                have HZ := hyd hZ
                have g16 := hZ.bF.cell 16 rfl
                rw [hZ.f.pt.nil (by omega)] at g16
                have r0 := hZ.f.pt.row n hnl 0 _ rfl
                simp only [Nat.add_zero] at r0
                have HP := hyd (hZ.f.pt.each n hnl)
                have hbm : (f.pt.x n).st.len ≤ 9223372036854775807 := HP.out.st.bound
                clear hZ
                by_cases hml : m < (f.pt.x n).st.len
                · have i2 : (m : Int) < (f.pt.x n).st.len := by omega
                  have D := HP.out.st.cells hml
                  have D0 := D.c0
                  have D1 := D.c1
                  have D2 := D.c2
                  have D3 := D.c3
                  have D4 := D.c4
                  rw [HP.out.st.nil (by omega)] at r0
                  have hS := rPlace_any T ((f.pt.x n).st.ps m) wr HZ.out.s.t (HP.out.st.part hml)
                  have e1 := HK.out.st n hnl m hml
                  generalize ((plN T.ps T.len ((f.pt.x n).st.ps m) : Nat) : Int) = z3 at hS e1
                  clear D
                  go_wp2_with fail
                  refine hS.mono ?_
                  rintro _ v1 ⟨rfl, hb1⟩
                  have HZ1 := hyd (HZ.out.kept hb1)
                  clear hS hb1 D0 D1 D2 D3 D4 r0 g16 HZ HP
                  go_wp2
                  go_roundw
                  case rel => exact ⟨m + 1, by omega, by go_num, HZ1.out⟩
                  case measure => simp [intOf]; omega
                · have i2 : ¬ (m : Int) < (f.pt.x n).st.len := by omega
                  go_wp2
                  go_roundw
                  case rel => exact ⟨n + 1, by omega, by go_num, HZ.out⟩
                  case measure => simp [intOf]; omega
            · have i1 : ¬ (n : Int) < f.pt.len := by omega
              go_wp2
              go_roundw
              case rel => exact ⟨q + 1, by omega, by go_num, HZ.out.s⟩
              case measure => simp [intOf]; omega
        · have iq : ¬ (q : Int) < c.fs.len := by omega
          go_wp2
          go_ret
          exact ⟨rfl, HS.out.bl⟩
end Go.Proofs.YtjfijpiadfkmfaaGreatDoor

/- Layer 14: what the rows say of the variables, as the walks want it. -/
namespace Go.Proofs.YtjfijpiadfkmfaaGreatDoor
open Go.RowKit

def oprL : List Int := [0, 1, 2, 3, 3, 0, 0, 0, 0, 0, 0, 0, 0, 0, 0, 0, 0, 3, 0, 0, 4, 0, 0, 3, 3, 3, 0, 0]
theorem oprL_get (i : Nat) (h : i < 28) : oprL[i]? = some (opr i : Int) := by
  have := (show (List.range 28).all (fun i => oprL[i]? == some ((opr (i : Int) : Nat) : Int)) = true by decide)
  have h2 := List.all_eq_true.1 this i (List.mem_range.2 h)
  simpa using h2
theorem opr_data : (Rows.laid_palisade_class_operands : DataW Unit) = Lib.tabData .i64 oprL := by kernel_rfl
theorem Tryz.gON : Tryz.prog.globalNamed "palisade/class.operands" = some 0 := by kernel_rfl
theorem Tryz.gOTy : (Tryz.prog.globals[0]?).map (·.type) = some 130 := by kernel_rfl
/-- A table of 28 numbers, out of the head of what is laid. -/
theorem tab_head {W : World} {name : String} {g : Nat} {d : DataW Unit} {rest : List (String × DataW Unit)} {zs : List Int} (hd : d = Lib.tabData .i64 zs) (hN : Tryz.prog.globalNamed name = some g) (hT : (Tryz.prog.globals[g]?).map (·.type) = some 130) (h : laidMet Tryz.prog ((name, d) :: rest) W) : ∀ j, W.cell? ⟨g, j, none⟩ = (zs.map fun z => Value.int .i64 z)[j]? := by
  obtain ⟨ps, ⟨g0, t0, cs0, f0, p0, q0, hg0, ht0, hv0, hd0, _, _⟩, _⟩ := h
  obtain rfl := Option.some.inj (hN.symm.trans hg0)
  obtain rfl := Option.some.inj (hT.symm.trans ht0)
  rw [hd] at hd0
  have hcs := Lib.cells_of_tab Tryz.underlying130 Tryz.underlying3 (by kernel_rfl) (by kernel_rfl) hd0
  intro j
  rw [World.var?_cell hN hv0 j, ← hcs, Array.getElem?_toList]
theorem og_of_head {W : World} {rest : List (String × DataW Unit)} (h : laidMet Tryz.prog (("palisade/class.operands", Rows.laid_palisade_class_operands) :: rest) W) : Og W := fun i hi => by
  rw [tab_head opr_data Tryz.gON Tryz.gOTy h i, List.getElem?_map, oprL_get i hi]
  rfl
end Go.Proofs.YtjfijpiadfkmfaaGreatDoor

/- A lattice that comes in, opened into its names and its table. -/
namespace Go.Proofs.YtjfijpiadfkmfaaGreatDoor
open Go.ChangeShapes Go.WideShapes Go.ChangeAt Go.RowKit Go.Deep Go.Joins

theorem Tryz.own : ownKnob Tryz.prog.godebug = none := by kernel_rfl
theorem Tryz.laidOut : laidOutB Tryz.prog = true := by kernel_rfl
theorem Tryz.cellsString : Tryz.prog.cellsOf 9 = 1 := by kernel_rfl
theorem Tryz.cellsBool : Tryz.prog.cellsOf 4 = 1 := by kernel_rfl
theorem Tryz.cellsRow : Tryz.prog.cellsOf 72 = 1 := by kernel_rfl
theorem Tryz.cellsLat : Tryz.prog.cellsOf 25 = 2 := by kernel_rfl
theorem addr_plain (b off i : Nat) : (⟨b, off, none⟩ : Addr).add i = ⟨b, off + i, none⟩ := by unfold Addr.add; split <;> simp_all

section
variable {H : Type} {enc : TypeId × Value → H} {W : World} {base : Nat}

set_option maxRecDepth 100000 in
theorem open_strs {fuel : Nat} {v : Value} {x : DataW H × List MemPlace} (h : DataW.trod enc Tryz.prog W base (fun _ => true) true fuel 22 [v] = some x) :
    ∃ n : Strs, v = .slice n.ao n.len n.cap ∧ n.At W := by
  rcases open_strings Tryz.underlying22 Tryz.underlying9 Tryz.cellsString h with ⟨hcs, _⟩ | ⟨a, len, cap, ss, hcs, _, hl, hm, hz, _, hcell, hws⟩
  · exact ⟨⟨none, 0, 0, 0, 0, fun _ => ByteArray.empty⟩, by simpa using hcs, ⟨Nat.le_refl _, fun h => absurd h (Nat.lt_irrefl _), Nat.zero_le _, fun _ h => absurd h (Nat.not_lt_zero _), fun _ h => absurd h (Nat.not_lt_zero _)⟩⟩
  · have hv : v = .slice (some a) len cap := by simpa using hcs
    simp only [if_true] at hz
    unfold maxLen at hm hws
    refine ⟨⟨some a, a.block, a.off, len, cap, fun i => ss.getD i ByteArray.empty⟩, hv, ⟨hl, fun hp => ?_, Nat.le_trans hl hm, fun i hi => ?_, fun i hi => ?_⟩⟩
    · have hp' : 0 < len := hp
      have hs := World.cell?_spot (hcell 0 (by omega))
      obtain ⟨ab, ao, asp⟩ := a
      have : asp = none := by simpa [Addr.add] using hs
      subst this; rfl
    · have hi' : i < len := hi
      have hs := World.cell?_spot (hcell 0 (by omega))
      obtain ⟨ab, ao, asp⟩ := a
      have : asp = none := by simpa [Addr.add] using hs
      subst this
      have := hcell i (by omega)
      rw [addr_plain] at this
      exact this
    · have hi' : i < len := hi
      have hmem : ss.getD i ByteArray.empty ∈ ss := by
        rw [List.getD_eq_getElem?_getD, List.getElem?_eq_getElem (by omega)]
        exact List.getElem_mem _
      exact hws _ hmem

set_option maxRecDepth 100000 in
theorem open_grid {fuel : Nat} {v : Value} {x : DataW H × List MemPlace} (h : DataW.trod enc Tryz.prog W base (fun _ => true) true fuel 23 [v] = some x) :
    ∃ g : Grid, v = .slice g.ao g.len g.cap ∧ g.At W := by
  rcases open_bool_rows Tryz.underlying23 Tryz.underlying72 Tryz.underlying4 Tryz.cellsRow Tryz.cellsBool h with ⟨hcs, _⟩ | ⟨a, len, cap, A, L, C, B, hcs, _, hl, hm, _, hrows⟩
  · exact ⟨⟨none, 0, 0, 0, 0, fun _ => none, fun _ => 0, fun _ => 0, fun _ => 0, fun _ => 0, fun _ _ => false⟩, by simpa using hcs,
      ⟨Nat.le_refl _, fun h => absurd h (Nat.lt_irrefl _), Nat.zero_le _, fun _ h => absurd h (Nat.not_lt_zero _), fun _ h => absurd h (Nat.not_lt_zero _), fun _ h => absurd h (Nat.not_lt_zero _), fun _ h => absurd h (Nat.not_lt_zero _)⟩⟩
  · have hv : v = .slice (some a) len cap := by simpa using hcs
    unfold maxLen at hm
    have hadr : ∀ r, r < len → 0 < L r → A r = some ⟨((A r).getD default).block, ((A r).getD default).off, none⟩ ∧ ∀ c, c < L r → W.cell? ⟨((A r).getD default).block, ((A r).getD default).off + c, none⟩ = some (.bool (B r c)) := fun r hr hp => by
      obtain ⟨_, h1, _, h3, h4⟩ := hrows r (by omega)
      cases hA : A r with
      | none => have := h3 hA; omega
      | some a' =>
        obtain ⟨ab, ao, asp⟩ := a'
        obtain ⟨_, hcell⟩ := h4 _ hA
        have has : asp = none := by simpa [Addr.add] using World.cell?_spot (hcell 0 (by omega))
        subst has
        exact ⟨rfl, fun c hc => by have := hcell c (by omega); rwa [addr_plain] at this⟩
    have hspot : 0 < len → a = ⟨a.block, a.off, none⟩ := fun hp => by
      have hs := World.cell?_spot (hrows 0 (by omega)).1
      obtain ⟨ab, ao, asp⟩ := a
      have : asp = none := by simpa [Addr.add] using hs
      subst this; rfl
    refine ⟨⟨some a, a.block, a.off, len, cap, A, L, C, fun r => ((A r).getD default).block, fun r => ((A r).getD default).off, B⟩, hv, ⟨hl, fun hp => congrArg some (hspot hp), Nat.le_trans hl hm, fun r hr => ?_, fun r hr => ?_, fun r hr hp => (hadr r hr hp).1, fun r hr c hc => (hadr r hr (Nat.lt_of_le_of_lt (Nat.zero_le _) hc)).2 c hc⟩⟩
    · have hr' : r < len := hr
      obtain ⟨_, h1, h2, _⟩ := hrows r (by omega)
      unfold maxLen at h2
      exact Nat.le_trans h1 h2
    · have hr' : r < len := hr
      have := (hrows r (by omega)).1
      rw [hspot (by omega), addr_plain] at this
      exact this

set_option maxRecDepth 100000 in
theorem open_lat {v : Value} {d : DataW H} {p : List MemPlace} {b0 : Nat} (hv : Value.okWide Tryz.prog W .any b0 25 v) (h : DataW.Trod enc Tryz.prog W base (fun _ => true) true 25 v d p) :
    ∃ (n : Strs) (g : Grid), v = .agg #[.slice n.ao n.len n.cap, .slice g.ao g.len g.cap] ∧ n.At W ∧ g.At W := by
  obtain ⟨c0, c1, y0, y1, m, rfl, _, _, hy0, hy1⟩ := open_agg2 Tryz.underlying25 (by kernel_rfl) Tryz.cellsLat hv h
  obtain ⟨n, rfl, hn⟩ := open_strs hy0
  obtain ⟨g, rfl, hg⟩ := open_grid hy1
  exact ⟨n, g, rfl, hn, hg⟩
end
end Go.Proofs.YtjfijpiadfkmfaaGreatDoor
