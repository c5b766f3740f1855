/- Layer 13: the reference's function. -/
import Derived.Test.YtdplabhgdonbiaaDoorP24
import Derived.Test.YtdplabhgdonbiaaDoorP5
namespace Go.Proofs.YtdplabhgdonbiaaDoor
open Go Go.RowKit

/-- Its variables lie as they did. -/
structure Rfs (w : World) (n : Strs) (g : Grid) (f : Cf) (u : World) : Prop where
  bl : Below w.heap.size w u
  bL : Blk u w.heap.size [.slice n.ao n.len n.cap, .slice g.ao g.len g.cap] 25
  bF : Blk u (w.heap.size + 1) f.vs 43
theorem Rfs.kept {w u u' : World} {n : Strs} {g : Grid} {f : Cf} (h : Rfs w n g f u) (hb : Below u.heap.size u u') : Rfs w n g f u' := ⟨Below.next h.bl hb, h.bL.kept hb, h.bF.kept hb⟩
def P1 (N : Nat) (f : Cf) : Prop := (((inR N f.h && (decide (f.e = -1) || inR N f.e)) && decide (1 ≤ f.sl)) && decide (f.sl ≤ 250)) = true ∧ decide (f.c.len ≤ 16) = true ∧ (f.p.ok N && f.r.ok N) = true ∧ decide (∀ i, i < f.c.len → (f.c.ps i).ok N = true) = true
def RfB (w : World) (n : Strs) (g : Grid) (f : Cf) (F : Bool) (c : Value) (u : World) : Prop := ∃ bb : Bool, c = .bool bb ∧ Rfs w n g f u ∧ (bb = true → F = false) ∧ (bb = false → P1 n.len f)
theorem RfB.no {w u : World} {n : Strs} {g : Grid} {f : Cf} {F : Bool} (h : Rfs w n g f u) (hF : F = false) : RfB w n g f F (.bool true) u := ⟨true, rfl, h, fun _ => hF, fun h => by cases h⟩
theorem RfB.yes {w u : World} {n : Strs} {g : Grid} {f : Cf} {F : Bool} (h : Rfs w n g f u) (h1 : P1 n.len f) : RfB w n g f F (.bool false) u := ⟨false, rfl, h, fun h => (by cases h), fun _ => h1⟩
theorem all_step {P : Nat → Bool} {len j : Nat} (hlt : j < len) (HL : ∀ i, i < j → P i = true) : (P j = true → ∀ i, i < j + 1 → P i = true) ∧ (P j = false → decide (∀ i, i < len → P i = true) = false) := by
  refine ⟨fun h1 i hi => ?_, fun h1 => ?_⟩
  · rcases Nat.lt_or_ge i j with h2 | h2
    · exact HL i h2
    · have : i = j := by omega
      subst this
      exact h1
  · rw [decide_eq_false_iff_not]
    intro hh
    have h2 := hh j hlt
    rw [h1] at h2
    cases h2
set_option maxRecDepth 100000 in
set_option maxHeartbeats 16000000 in
theorem rfunction_any (n : Strs) (g : Grid) (f : Cf) (w : World) (hFo : formedB n g = true) (hn : n.At w) (hg : g.At w) (hf : f.At w) : Calls Tryd.prog 35 #[.agg #[.slice n.ao n.len n.cap, .slice g.ao g.len g.cap], .agg f.vs.toArray] w fun e w' => e = .returned (.bool (f.fm n.len)) ∧ Below w.heap.size w w' := by
  have B1 := below_alloc w (.cells #[.slice n.ao n.len n.cap, .slice g.ao g.len g.cap] 25)
  have B2 := below_alloc (w.alloc (.cells #[.slice n.ao n.len n.cap, .slice g.ao g.len g.cap] 25)) (.cells f.vs.toArray 43)
  have bL := (Blk.new w [.slice n.ao n.len n.cap, .slice g.ao g.len g.cap] 25).kept B2
  have bF := Blk.new (w.alloc (.cells #[.slice n.ao n.len n.cap, .slice g.ao g.len g.cap] 25)) f.vs 43
  rw [alloc_size] at bF
  have H0 := hyd (show Rfs w n g f _ from ⟨Below.next B1 B2, bL, bF⟩)
  have HD := hyd (show formedB n g = true ∧ n.At w ∧ g.At w ∧ f.At w from ⟨hFo, hn, hg, hf⟩)
  have HX : Hid (f.fm n.len = (((((inR n.len f.h && (decide (f.e = -1) || inR n.len f.e)) && decide (1 ≤ f.sl)) && decide (f.sl ≤ 250)) && (decide (f.c.len ≤ 16) && (decide (f.cd.len ≤ 2000) && (decide (f.hd.len ≤ 2000) && (decide (f.pt.len ≤ 2000) && decide (f.rg.len ≤ 2000)))))) && ((f.p.ok n.len && f.r.ok n.len) && (decide (∀ i, i < f.c.len → (f.c.ps i).ok n.len = true) && (decide (∀ i, i < f.cd.len → (f.cd.x i).fm n.len = true) && (decide (∀ i, i < f.pt.len → (f.pt.x i).fm n.len f.sl = true) && (decide (∀ i, i < f.hd.len → (f.hd.x i).fm = true) && decide (∀ i, i < f.rg.len → (f.rg.x i).fm = true)))))))) := rfl
  have hb10 := hf.c.bound
  have hb14 := hf.cd.bound
  have hb15 := hf.hd.bound
  have hb16 := hf.pt.bound
  have hb17 := hf.rg.bound
  generalize f.fm n.len = F at *
  clear B1 B2 bL bF hFo hn hg hf
  go_enter Tryd.func35, Tryd.ntmps35
  go_upto_region 1 with fail
  generalize ((w.alloc (.cells #[.slice n.ao n.len n.cap, .slice g.ao g.len g.cap] 25)).alloc (.cells f.vs.toArray 43)) = u0 at *
  go_cut [63] (fun c wx => RfB w n g f F c wx)
  case first =>
    have l0 := H0.out.bL.cell 0 rfl
    have l1 := H0.out.bL.cell 1 rfl
    have c0 := H0.out.bF.cell 0 rfl
    have c1 := H0.out.bF.cell 1 rfl
    have c2 := H0.out.bF.cell 2 rfl
    have c3 := H0.out.bF.cell 3 rfl
    have c4 := H0.out.bF.cell 4 rfl
    have hc := rFormed2_any n g f.p u0 (HD.out.2.1.kept H0.out.bl) (HD.out.2.2.1.kept H0.out.bl) (HD.out.2.2.2.p.kept H0.out.bl)
    unfold okB at hc
    rw [HD.out.1, Bool.true_and] at hc
    generalize hG : f.p.ok n.len = bp at hc
    have HGbp := hyd hG
    clear hG
    go_wp2_with fail
    refine hc.mono ?_
    rintro _ u1 ⟨rfl, hb⟩
    have H1 := hyd (H0.out.kept hb)
    clear hc hb l0 l1 c0 c1 c2 c3 c4 H0
    cases bp
    · have HE : Hid (F = false) := by show _ = _; rw [HX.out, HGbp.out]; simp
      go_wp2
      go_meet
      case rel => exact RfB.no H1.out HE.out
    have l0 := H1.out.bL.cell 0 rfl
    have l1 := H1.out.bL.cell 1 rfl
    have c5 := H1.out.bF.cell 5 rfl
    have c6 := H1.out.bF.cell 6 rfl
    have c7 := H1.out.bF.cell 7 rfl
    have c8 := H1.out.bF.cell 8 rfl
    have c9 := H1.out.bF.cell 9 rfl
    have hc := rFormed2_any n g f.r u1 (HD.out.2.1.kept H1.out.bl) (HD.out.2.2.1.kept H1.out.bl) (HD.out.2.2.2.r.kept H1.out.bl)
    unfold okB at hc
    rw [HD.out.1, Bool.true_and] at hc
    generalize hG : f.r.ok n.len = br at hc
    have HGbr := hyd hG
    clear hG
    go_wp2_with fail
    refine hc.mono ?_
    rintro _ u2 ⟨rfl, hb⟩
    have H2 := hyd (H1.out.kept hb)
    clear hc hb l0 l1 c5 c6 c7 c8 c9 H1
    cases br
    · have HE : Hid (F = false) := by show _ = _; rw [HX.out, HGbr.out]; simp
      go_wp2
      go_meet
      case rel => exact RfB.no H2.out HE.out
    have l0 := H2.out.bL.cell 0 rfl
    have l1 := H2.out.bL.cell 1 rfl
    have c10 := H2.out.bF.cell 10 rfl
    have l0 := H2.out.bL.cell 0 rfl
    have l1 := H2.out.bL.cell 1 rfl
    have c10 := H2.out.bF.cell 10 rfl
    have hc := rtyN_any n g f.c u2 HD.out.1 (HD.out.2.1.kept H2.out.bl) (HD.out.2.2.1.kept H2.out.bl) (HD.out.2.2.2.c.kept H2.out.bl)
    generalize hG : decide (∀ i, i < f.c.len → (f.c.ps i).ok n.len = true) = bc at hc
    have HGbc := hyd hG
    clear hG
    go_wp2_with fail
    refine hc.mono ?_
    rintro _ u3 ⟨rfl, hb⟩
    have H3 := hyd (H2.out.kept hb)
    clear hc hb l0 l1 c10 H2
    cases bc
    · have HE : Hid (F = false) := by show _ = _; rw [HX.out, HGbc.out]; simp
      go_wp2
      go_meet
      case rel => exact RfB.no H3.out HE.out
    have c10 := H3.out.bF.cell 10 rfl
    by_cases q1 : 16 < f.c.len
    · have d1 : decide ((16 : Int) < f.c.len) = true := by simp; omega
      have HE : Hid (F = false) := by show _ = _; rw [HX.out, decide_eq_false (show ¬ f.c.len ≤ 16 by omega)]; simp
      clear q1
      go_wp2
      go_meet
      case rel => exact RfB.no H3.out HE.out
    have d1 : decide ((16 : Int) < f.c.len) = false := by simp; omega
    have Hq1 : Hid (decide (f.c.len ≤ 16) = true) := decide_eq_true (show f.c.len ≤ 16 by omega)
    clear q1
    have l0 := H3.out.bL.cell 0 rfl
    have l1 := H3.out.bL.cell 1 rfl
    have c11 := H3.out.bF.cell 11 rfl
    have l0 := H3.out.bL.cell 0 rfl
    have l1 := H3.out.bL.cell 1 rfl
    have c11 := H3.out.bF.cell 11 rfl
    have hc := lab_any n g f.h u3
    generalize hG : inR n.len f.h = bh at hc
    have HGbh := hyd hG
    clear hG
    go_wp2_with fail
    refine hc.mono ?_
    rintro _ u4 ⟨rfl, hb⟩
    have H4 := hyd (H3.out.kept hb)
    clear hc hb l0 l1 c11 H3 d1 c10
    cases bh
    · have HE : Hid (F = false) := by show _ = _; rw [HX.out, HGbh.out]; simp
      go_wp2
      go_meet
      case rel => exact RfB.no H4.out HE.out
    have c12 := H4.out.bF.cell 12 rfl
    by_cases qe : f.e = -1
    · have de : (f.e != -1) = false := by simpa using qe
      have HEXC : Hid ((decide (f.e = -1) || inR n.len f.e) = true) := by show _ = _; rw [decide_eq_true qe]; rfl
      clear qe
      have c13 := H4.out.bF.cell 13 rfl
      by_cases q2 : f.sl < 1
      · have dq2 : decide (f.sl < 1) = true := by simp; omega
        have HE : Hid (F = false) := by show _ = _; rw [HX.out, decide_eq_false (show ¬ 1 ≤ f.sl by omega)]; simp
        clear q2
        go_wp2
        go_meet
        case rel => exact RfB.no H4.out HE.out
      have dq2 : decide (f.sl < 1) = false := by simp; omega
      have Hq2 : Hid (decide (1 ≤ f.sl) = true) := decide_eq_true (show 1 ≤ f.sl by omega)
      clear q2
      by_cases q3 : 250 < f.sl
      · have dq3 : decide (250 < f.sl) = true := by simp; omega
        have HE : Hid (F = false) := by show _ = _; rw [HX.out, decide_eq_false (show ¬ f.sl ≤ 250 by omega)]; simp
        clear q3
        go_wp2
        go_meet
        case rel => exact RfB.no H4.out HE.out
      have dq3 : decide (250 < f.sl) = false := by simp; omega
      have Hq3 : Hid (decide (f.sl ≤ 250) = true) := decide_eq_true (show f.sl ≤ 250 by omega)
      clear q3
      have HP : Hid (P1 n.len f) := ⟨by rw [HGbh.out, HEXC.out, Hq2.out, Hq3.out]; rfl, Hq1.out, by rw [HGbp.out, HGbr.out]; rfl, HGbc.out⟩
      go_wp2
      go_meet
      case rel => exact RfB.yes H4.out HP.out
    · have de : (f.e != -1) = true := by simpa using qe
      have hc := lab_any n g f.e u4
      have l0 := H4.out.bL.cell 0 rfl
      have l1 := H4.out.bL.cell 1 rfl
      have HEXC : Hid ((decide (f.e = -1) || inR n.len f.e) = inR n.len f.e) := by show _ = _; rw [decide_eq_false qe]; rfl
      clear qe
      generalize hG : inR n.len f.e = be at hc
      have HGbe := hyd hG
      clear hG
      go_wp2_with fail
      refine hc.mono ?_
      rintro _ u5 ⟨rfl, hb⟩
      have H5 := hyd (H4.out.kept hb)
      clear hc hb l0 l1 c12 H4 de
      cases be
      · have HE : Hid (F = false) := by show _ = _; rw [HX.out, HEXC.out, HGbe.out]; simp
        go_wp2
        go_meet
        case rel => exact RfB.no H5.out HE.out
      have HEX2 : Hid ((decide (f.e = -1) || inR n.len f.e) = true) := HEXC.out.trans HGbe.out
      clear HEXC
      have HEXC := hyd HEX2.out
      have c13 := H5.out.bF.cell 13 rfl
      by_cases q2 : f.sl < 1
      · have dq2 : decide (f.sl < 1) = true := by simp; omega
        have HE : Hid (F = false) := by show _ = _; rw [HX.out, decide_eq_false (show ¬ 1 ≤ f.sl by omega)]; simp
        clear q2
        go_wp2
        go_meet
        case rel => exact RfB.no H5.out HE.out
      have dq2 : decide (f.sl < 1) = false := by simp; omega
      have Hq2 : Hid (decide (1 ≤ f.sl) = true) := decide_eq_true (show 1 ≤ f.sl by omega)
      clear q2
      by_cases q3 : 250 < f.sl
      · have dq3 : decide (250 < f.sl) = true := by simp; omega
        have HE : Hid (F = false) := by show _ = _; rw [HX.out, decide_eq_false (show ¬ f.sl ≤ 250 by omega)]; simp
        clear q3
        go_wp2
        go_meet
        case rel => exact RfB.no H5.out HE.out
      have dq3 : decide (250 < f.sl) = false := by simp; omega
      have Hq3 : Hid (decide (f.sl ≤ 250) = true) := decide_eq_true (show f.sl ≤ 250 by omega)
      clear q3
      have HP : Hid (P1 n.len f) := ⟨by rw [HGbh.out, HEXC.out, Hq2.out, Hq3.out]; rfl, Hq1.out, by rw [HGbp.out, HGbr.out]; rfl, HGbc.out⟩
      go_wp2
      go_meet
      case rel => exact RfB.yes H5.out HP.out
  case rest =>
    obtain ⟨bb, rfl, hR, h1, h2⟩ := hcut
    have HR := hyd hR
    have HF1 := hyd h1
    have HP1 := hyd h2
    clear hR h1 h2 H0
    cases bb
    rotate_left
    · have HE := hyd (HF1.out (by simp))
      go_wp2
      go_ret
      exact ⟨ret_bool HE.out.symm, HR.out.bl⟩
    have HP := hyd (HP1.out (by simp))
    clear HP1 HF1
    have c14 := HR.out.bF.cell 14 rfl
    have c15 := HR.out.bF.cell 15 rfl
    have c16 := HR.out.bF.cell 16 rfl
    have c17 := HR.out.bF.cell 17 rfl
    by_cases q4 : 2000 < f.cd.len
    · have dq4 : decide ((2000 : Int) < f.cd.len) = true := by simp; omega
      have HE : Hid (F = false) := by show _ = _; rw [HX.out, decide_eq_false (show ¬ f.cd.len ≤ 2000 by omega)]; simp
      clear q4
      go_wp2
      go_ret
      exact ⟨ret_bool HE.out.symm, HR.out.bl⟩
    have dq4 : decide ((2000 : Int) < f.cd.len) = false := by simp; omega
    have Hq4 : Hid (decide (f.cd.len ≤ 2000) = true) := decide_eq_true (show f.cd.len ≤ 2000 by omega)
    clear q4
    by_cases q5 : 2000 < f.hd.len
    · have dq5 : decide ((2000 : Int) < f.hd.len) = true := by simp; omega
      have HE : Hid (F = false) := by show _ = _; rw [HX.out, decide_eq_false (show ¬ f.hd.len ≤ 2000 by omega)]; simp
      clear q5
      go_wp2
      go_ret
      exact ⟨ret_bool HE.out.symm, HR.out.bl⟩
    have dq5 : decide ((2000 : Int) < f.hd.len) = false := by simp; omega
    have Hq5 : Hid (decide (f.hd.len ≤ 2000) = true) := decide_eq_true (show f.hd.len ≤ 2000 by omega)
    clear q5
    by_cases q6 : 2000 < f.pt.len
    · have dq6 : decide ((2000 : Int) < f.pt.len) = true := by simp; omega
      have HE : Hid (F = false) := by show _ = _; rw [HX.out, decide_eq_false (show ¬ f.pt.len ≤ 2000 by omega)]; simp
      clear q6
      go_wp2
      go_ret
      exact ⟨ret_bool HE.out.symm, HR.out.bl⟩
    have dq6 : decide ((2000 : Int) < f.pt.len) = false := by simp; omega
    have Hq6 : Hid (decide (f.pt.len ≤ 2000) = true) := decide_eq_true (show f.pt.len ≤ 2000 by omega)
    clear q6
    by_cases q7 : 2000 < f.rg.len
    · have dq7 : decide ((2000 : Int) < f.rg.len) = true := by simp; omega
      have HE : Hid (F = false) := by show _ = _; rw [HX.out, decide_eq_false (show ¬ f.rg.len ≤ 2000 by omega)]; simp
      clear q7
      go_wp2
      go_ret
      exact ⟨ret_bool HE.out.symm, HR.out.bl⟩
    have dq7 : decide ((2000 : Int) < f.rg.len) = false := by simp; omega
    have Hq7 : Hid (decide (f.rg.len ≤ 2000) = true) := decide_eq_true (show f.rg.len ≤ 2000 by omega)
    clear q7
    go_wp2
    clear c14 c15 c16 c17 dq4 dq5 dq6 dq7
    go_loopw [5] (fun i wr => ∃ (j : Nat), j ≤ f.cd.len ∧ i = .int .i64 j ∧ Rfs w n g f wr ∧ (∀ i, i < j → (f.cd.x i).fm n.len = true)) (fun i _ => f.cd.len - (intOf i).toNat)
    case atStart => exact ⟨0, Nat.zero_le _, rfl, HR.out, fun i hi => absurd hi (Nat.not_lt_zero _)⟩
    case round =>
      obtain ⟨j, hj, rfl, hBl, hall⟩ := hrel
      have HB := hyd hBl
      have HL := hyd hall
      clear hBl hall
      have c14 := HB.out.bF.cell 14 rfl
      by_cases hlt : j < f.cd.len
      · as_aux_lemma =>
        have ij : (j : Int) < f.cd.len := by omega
        rw [HD.out.2.2.2.cd.nil (by omega)] at c14
        have H6 := hyd (all_step (P := fun i => (f.cd.x i).fm n.len) hlt HL.out)
        have HX6 : Hid (decide (∀ i, i < f.cd.len → (f.cd.x i).fm n.len = true) = false → F = false) := by intro h; rw [HX.out, h]; simp
        have r0 := (HD.out.2.2.2.cd.kept HB.out.bl).row j hlt 0 _ rfl
        have r1 := (HD.out.2.2.2.cd.kept HB.out.bl).row j hlt 1 _ rfl
        have r2 := (HD.out.2.2.2.cd.kept HB.out.bl).row j hlt 2 _ rfl
        have r3 := (HD.out.2.2.2.cd.kept HB.out.bl).row j hlt 3 _ rfl
        have r4 := (HD.out.2.2.2.cd.kept HB.out.bl).row j hlt 4 _ rfl
        have r5 := (HD.out.2.2.2.cd.kept HB.out.bl).row j hlt 5 _ rfl
        have r6 := (HD.out.2.2.2.cd.kept HB.out.bl).row j hlt 6 _ rfl
        simp only [Nat.add_zero] at r0
        have l0 := HB.out.bL.cell 0 rfl
        have l1 := HB.out.bL.cell 1 rfl
        have H1 := hyd (show ∀ x : Gr wr, Calls Tryd.prog 48 #[.agg #[.slice n.ao n.len n.cap, .slice g.ao g.len g.cap], .agg #[.int .i64 (f.cd.x j).op, .int .i64 (f.cd.x j).a, .int .i64 (f.cd.x j).t.k, .int .i64 (f.cd.x j).t.l, .slice (f.cd.x j).t.ao (f.cd.x j).t.len (f.cd.x j).t.cap, .int .i64 (f.cd.x j).t.h, .int .i64 (f.cd.x j).t.e]] x.w fun e w' => e = .returned (.bool ((f.cd.x j).fm n.len)) ∧ Below x.w.heap.size x.w w' from fun x => rins_any n g (f.cd.x j) x.w HD.out.1 (HD.out.2.1.kept (Below.next HB.out.bl x.bl)) (HD.out.2.2.1.kept (Below.next HB.out.bl x.bl)) ((HD.out.2.2.2.cd.kept (Below.next HB.out.bl x.bl)).each j hlt))
        generalize (f.cd.x j).fm n.len = bb at H6 H1
        have hNE : Nonempty (Gr wr) := ⟨⟨_, Below.refl _ _⟩⟩
        have gl0 := fun x => Gr.cell x l0
        have gl1 := fun x => Gr.cell x l1
        have gr0 := fun x => Gr.cell x r0
        have gr1 := fun x => Gr.cell x r1
        have gr2 := fun x => Gr.cell x r2
        have gr3 := fun x => Gr.cell x r3
        have gr4 := fun x => Gr.cell x r4
        have gr5 := fun x => Gr.cell x r5
        have gr6 := fun x => Gr.cell x r6
        have gc14 := fun x => Gr.cell x c14
        go_upto_region 8 with fail
        refine wp_region_gr (by kernel_rfl) (by kernel_rfl) ?_
        repeat (first | go_big_quiet_step ((go_at_call 48; exact Calls.gr _ (H1.out _))))
        refine wpQuiet_nil ?_
        rintro _ ⟨x4, rfl⟩
        have HN := hyd (HB.out.kept x4.bl)
        generalize x4.w = w4 at HN ⊢
        clear x4 hNE gl0 gl1 gr0 gr1 gr2 gr3 gr4 gr5 gr6 gc14 l0 l1 r0 r1 r2 r3 r4 r5 r6 c14 H1 HB
        cases bb
        · have HE := hyd (HX6.out (H6.out.2 (by simp)))
          go_wp2
          go_ret
          exact ⟨ret_bool HE.out.symm, HN.out.bl⟩
        · go_wp2
          go_roundw
          case rel => exact ⟨j + 1, by omega, by go_num, HN.out, H6.out.1 (by simp)⟩
          case measure => simp [intOf]; omega
      · have e2 : ¬ (j : Int) < f.cd.len := by omega
        have HAcd : Hid (decide (∀ i, i < f.cd.len → (f.cd.x i).fm n.len = true) = true) := by show _ = _; rw [decide_eq_true_eq]; intro i hi; exact HL.out i (by omega)
        clear HL hlt
        go_wp2
        have HB1 := hyd HB.out
        go_loopw [6] (fun i wr => ∃ (j : Nat), j ≤ f.hd.len ∧ i = .int .i64 j ∧ Rfs w n g f wr ∧ (∀ i, i < j → (f.hd.x i).fm = true)) (fun i _ => f.hd.len - (intOf i).toNat)
        case atStart => exact ⟨0, Nat.zero_le _, rfl, HB1.out, fun i hi => absurd hi (Nat.not_lt_zero _)⟩
        case round =>
          obtain ⟨j, hj, rfl, hBl, hall⟩ := hrel
          have HB := hyd hBl
          have HL := hyd hall
          clear hBl hall
          have c15 := HB.out.bF.cell 15 rfl
          by_cases hlt : j < f.hd.len
          · as_aux_lemma =>
            have ij : (j : Int) < f.hd.len := by omega
            rw [HD.out.2.2.2.hd.nil (by omega)] at c15
            have H6 := hyd (all_step (P := fun i => (f.hd.x i).fm) hlt HL.out)
            have HX6 : Hid (decide (∀ i, i < f.hd.len → (f.hd.x i).fm = true) = false → F = false) := by intro h; rw [HX.out, h]; simp
            have r0 := (HD.out.2.2.2.hd.kept HB.out.bl).row j hlt 0 _ rfl
            have r1 := (HD.out.2.2.2.hd.kept HB.out.bl).row j hlt 1 _ rfl
            have r2 := (HD.out.2.2.2.hd.kept HB.out.bl).row j hlt 2 _ rfl
            simp only [Nat.add_zero] at r0
            have B5 := below_alloc wr (.cells #[.int .i64 (f.hd.x j).fr, .int .i64 (f.hd.x j).to, .int .i64 (f.hd.x j).at_] 50)
            have b5 := Blk.new wr [.int .i64 (f.hd.x j).fr, .int .i64 (f.hd.x j).to, .int .i64 (f.hd.x j).at_] 50
            have HB5 := hyd (HB.out.kept B5)
            have H5 := hyd b5
            have s0 := b5.cell 0 rfl
            have hc := rshort13_any (f.hd.x j).fr (wr.alloc (.cells #[.int .i64 (f.hd.x j).fr, .int .i64 (f.hd.x j).to, .int .i64 (f.hd.x j).at_] 50))
            have HFM : Hid ((f.hd.x j).fm = ((shB (f.hd.x j).fr && shB (f.hd.x j).to) && shB (f.hd.x j).at_)) := rfl
            generalize shB (f.hd.x j).fr = b1 at *
            clear B5 b5
            go_wp2_with fail
            refine hc.mono ?_
            rintro _ v1 ⟨rfl, hb⟩
            have HB6 := hyd (HB5.out.kept hb)
            have H7 := hyd (H5.out.kept hb)
            clear hc hb s0 HB5 H5 r0 r1 r2 c15 HB
            cases b1
            · have HE := hyd (HX6.out (H6.out.2 (by rw [HFM.out]; rfl)))
              go_wp2
              go_ret
              exact ⟨ret_bool HE.out.symm, HB6.out.bl⟩
            have s1 := H7.out.cell 1 rfl
            have hc := rshort13_any (f.hd.x j).to v1
            generalize shB (f.hd.x j).to = b2 at *
            go_wp2_with fail
            refine hc.mono ?_
            rintro _ v2 ⟨rfl, hb⟩
            have HB8 := hyd (HB6.out.kept hb)
            have H9 := hyd (H7.out.kept hb)
            clear hc hb s1 HB6 H7
            cases b2
            · have HE := hyd (HX6.out (H6.out.2 (by rw [HFM.out]; rfl)))
              go_wp2
              go_ret
              exact ⟨ret_bool HE.out.symm, HB8.out.bl⟩
            have s2 := H9.out.cell 2 rfl
            have hc := rshort13_any (f.hd.x j).at_ v2
            generalize shB (f.hd.x j).at_ = bb at *
            go_wp2_with fail
            refine hc.mono ?_
            rintro _ v3 ⟨rfl, hb⟩
            have HN := hyd (HB8.out.kept hb)
            clear hc hb s2 HB8 H9
            rw [show (f.hd.x j).fm = bb from HFM.out] at H6
            clear HFM
            cases bb
            · have HE := hyd (HX6.out (H6.out.2 (by simp)))
              go_wp2
              go_ret
              exact ⟨ret_bool HE.out.symm, HN.out.bl⟩
            · go_wp2
              go_roundw
              case rel => exact ⟨j + 1, by omega, by go_num, HN.out, H6.out.1 (by simp)⟩
              case measure => simp [intOf]; omega
          · have e2 : ¬ (j : Int) < f.hd.len := by omega
            have HAhd : Hid (decide (∀ i, i < f.hd.len → (f.hd.x i).fm = true) = true) := by show _ = _; rw [decide_eq_true_eq]; intro i hi; exact HL.out i (by omega)
            clear HL hlt
            go_wp2
            have HB2 := hyd HB.out
            go_loopw [8] (fun i wr => ∃ (j : Nat), j ≤ f.pt.len ∧ i = .int .i64 j ∧ Rfs w n g f wr ∧ (∀ i, i < j → (f.pt.x i).fm n.len f.sl = true)) (fun i _ => f.pt.len - (intOf i).toNat)
            case atStart => exact ⟨0, Nat.zero_le _, rfl, HB2.out, fun i hi => absurd hi (Nat.not_lt_zero _)⟩
            case round =>
              obtain ⟨j, hj, rfl, hBl, hall⟩ := hrel
              have HB := hyd hBl
              have HL := hyd hall
              clear hBl hall
              have c16 := HB.out.bF.cell 16 rfl
              by_cases hlt : j < f.pt.len
              · as_aux_lemma =>
                have ij : (j : Int) < f.pt.len := by omega
                rw [HD.out.2.2.2.pt.nil (by omega)] at c16
                have H6 := hyd (all_step (P := fun i => (f.pt.x i).fm n.len f.sl) hlt HL.out)
                have HX6 : Hid (decide (∀ i, i < f.pt.len → (f.pt.x i).fm n.len f.sl = true) = false → F = false) := by intro h; rw [HX.out, h]; simp
                have r0 := (HD.out.2.2.2.pt.kept HB.out.bl).row j hlt 0 _ rfl
                have r1 := (HD.out.2.2.2.pt.kept HB.out.bl).row j hlt 1 _ rfl
                have r2 := (HD.out.2.2.2.pt.kept HB.out.bl).row j hlt 2 _ rfl
                simp only [Nat.add_zero] at r0
                have l0 := HB.out.bL.cell 0 rfl
                have l1 := HB.out.bL.cell 1 rfl
                have c0 := HB.out.bF.cell 0 rfl
                have c1 := HB.out.bF.cell 1 rfl
                have c2 := HB.out.bF.cell 2 rfl
                have c3 := HB.out.bF.cell 3 rfl
                have c4 := HB.out.bF.cell 4 rfl
                have c5 := HB.out.bF.cell 5 rfl
                have c6 := HB.out.bF.cell 6 rfl
                have c7 := HB.out.bF.cell 7 rfl
                have c8 := HB.out.bF.cell 8 rfl
                have c9 := HB.out.bF.cell 9 rfl
                have c10 := HB.out.bF.cell 10 rfl
                have c11 := HB.out.bF.cell 11 rfl
                have c12 := HB.out.bF.cell 12 rfl
                have c13 := HB.out.bF.cell 13 rfl
                have c14 := HB.out.bF.cell 14 rfl
                have c15 := HB.out.bF.cell 15 rfl
                have c17 := HB.out.bF.cell 17 rfl
                have H1 := hyd (show ∀ x : Gr wr, Calls Tryd.prog 50 #[.agg #[.slice n.ao n.len n.cap, .slice g.ao g.len g.cap], .agg #[.int .i64 f.p.k, .int .i64 f.p.l, .slice f.p.ao f.p.len f.p.cap, .int .i64 f.p.h, .int .i64 f.p.e, .int .i64 f.r.k, .int .i64 f.r.l, .slice f.r.ao f.r.len f.r.cap, .int .i64 f.r.h, .int .i64 f.r.e, .slice f.c.ao f.c.len f.c.cap, .int .i64 f.h, .int .i64 f.e, .int .i64 f.sl, .slice f.cd.ao f.cd.len f.cd.cap, .slice f.hd.ao f.hd.len f.hd.cap, .slice f.pt.ao f.pt.len f.pt.cap, .slice f.rg.ao f.rg.len f.rg.cap], .agg #[.slice (f.pt.x j).st.ao (f.pt.x j).st.len (f.pt.x j).st.cap, .slice (f.pt.x j).sl.ao (f.pt.x j).sl.len (f.pt.x j).sl.cap, .int .i64 (f.pt.x j).env]] x.w fun e w' => e = .returned (.bool ((f.pt.x j).fm n.len f.sl)) ∧ Below x.w.heap.size x.w w' from fun x => rpoint_any n g f (f.pt.x j) x.w HD.out.1 (HD.out.2.1.kept (Below.next HB.out.bl x.bl)) (HD.out.2.2.1.kept (Below.next HB.out.bl x.bl)) ((HD.out.2.2.2.pt.kept (Below.next HB.out.bl x.bl)).each j hlt))
                rw [HD.out.2.2.2.pt.nil (by omega)] at H1
                generalize (f.pt.x j).fm n.len f.sl = bb at H6 H1
                have hNE : Nonempty (Gr wr) := ⟨⟨_, Below.refl _ _⟩⟩
                have gl0 := fun x => Gr.cell x l0
                have gl1 := fun x => Gr.cell x l1
                have gr0 := fun x => Gr.cell x r0
                have gr1 := fun x => Gr.cell x r1
                have gr2 := fun x => Gr.cell x r2
                have gc0 := fun x => Gr.cell x c0
                have gc1 := fun x => Gr.cell x c1
                have gc2 := fun x => Gr.cell x c2
                have gc3 := fun x => Gr.cell x c3
                have gc4 := fun x => Gr.cell x c4
                have gc5 := fun x => Gr.cell x c5
                have gc6 := fun x => Gr.cell x c6
                have gc7 := fun x => Gr.cell x c7
                have gc8 := fun x => Gr.cell x c8
                have gc9 := fun x => Gr.cell x c9
                have gc10 := fun x => Gr.cell x c10
                have gc11 := fun x => Gr.cell x c11
                have gc12 := fun x => Gr.cell x c12
                have gc13 := fun x => Gr.cell x c13
                have gc14 := fun x => Gr.cell x c14
                have gc15 := fun x => Gr.cell x c15
                have gc16 := fun x => Gr.cell x c16
                have gc17 := fun x => Gr.cell x c17
                go_upto_region 19 with fail
                refine wp_region_gr (by kernel_rfl) (by kernel_rfl) ?_
                repeat (first | go_big_quiet_step ((go_at_call 50; exact Calls.gr _ (H1.out _))))
                refine wpQuiet_nil ?_
                rintro _ ⟨x4, rfl⟩
                have HN := hyd (HB.out.kept x4.bl)
                generalize x4.w = w4 at HN ⊢
                clear x4 hNE gl0 gl1 gr0 gr1 gr2 gc0 gc1 gc2 gc3 gc4 gc5 gc6 gc7 gc8 gc9 gc10 gc11 gc12 gc13 gc14 gc15 gc16 gc17 l0 l1 r0 r1 r2 c0 c1 c2 c3 c4 c5 c6 c7 c8 c9 c10 c11 c12 c13 c14 c15 c16 c17 H1 HB
                cases bb
                · have HE := hyd (HX6.out (H6.out.2 (by simp)))
                  go_wp2
                  go_ret
                  exact ⟨ret_bool HE.out.symm, HN.out.bl⟩
                · go_wp2
                  go_roundw
                  case rel => exact ⟨j + 1, by omega, by go_num, HN.out, H6.out.1 (by simp)⟩
                  case measure => simp [intOf]; omega
              · have e2 : ¬ (j : Int) < f.pt.len := by omega
                have HApt : Hid (decide (∀ i, i < f.pt.len → (f.pt.x i).fm n.len f.sl = true) = true) := by show _ = _; rw [decide_eq_true_eq]; intro i hi; exact HL.out i (by omega)
                clear HL hlt
                go_wp2
                have HB3 := hyd HB.out
                go_loopw [9] (fun i wr => ∃ (j : Nat), j ≤ f.rg.len ∧ i = .int .i64 j ∧ Rfs w n g f wr ∧ (∀ i, i < j → (f.rg.x i).fm = true)) (fun i _ => f.rg.len - (intOf i).toNat)
                case atStart => exact ⟨0, Nat.zero_le _, rfl, HB3.out, fun i hi => absurd hi (Nat.not_lt_zero _)⟩
                case round =>
                  obtain ⟨j, hj, rfl, hBl, hall⟩ := hrel
                  have HB := hyd hBl
                  have HL := hyd hall
                  clear hBl hall
                  have c17 := HB.out.bF.cell 17 rfl
                  by_cases hlt : j < f.rg.len
                  · as_aux_lemma =>
                    have ij : (j : Int) < f.rg.len := by omega
                    rw [HD.out.2.2.2.rg.nil (by omega)] at c17
                    have H6 := hyd (all_step (P := fun i => (f.rg.x i).fm) hlt HL.out)
                    have HX6 : Hid (decide (∀ i, i < f.rg.len → (f.rg.x i).fm = true) = false → F = false) := by intro h; rw [HX.out, h]; simp
                    have r0 := (HD.out.2.2.2.rg.kept HB.out.bl).row j hlt 0 _ rfl
                    have r1 := (HD.out.2.2.2.rg.kept HB.out.bl).row j hlt 1 _ rfl
                    have r2 := (HD.out.2.2.2.rg.kept HB.out.bl).row j hlt 2 _ rfl
                    simp only [Nat.add_zero] at r0
                    have hc := rregion_any (f.rg.x j) wr ((HD.out.2.2.2.rg.kept HB.out.bl).each j hlt)
                    generalize (f.rg.x j).fm = bb at H6 hc
                    go_wp2_with fail
                    refine hc.mono ?_
                    rintro _ w4 ⟨rfl, hb⟩
                    have HN := hyd (HB.out.kept hb)
                    clear hc hb r0 r1 r2 c17 HB
                    cases bb
                    · have HE := hyd (HX6.out (H6.out.2 (by simp)))
                      go_wp2
                      go_ret
                      exact ⟨ret_bool HE.out.symm, HN.out.bl⟩
                    · go_wp2
                      go_roundw
                      case rel => exact ⟨j + 1, by omega, by go_num, HN.out, H6.out.1 (by simp)⟩
                      case measure => simp [intOf]; omega
                  · have e2 : ¬ (j : Int) < f.rg.len := by omega
                    have HArg : Hid (decide (∀ i, i < f.rg.len → (f.rg.x i).fm = true) = true) := by show _ = _; rw [decide_eq_true_eq]; intro i hi; exact HL.out i (by omega)
                    clear HL hlt
                    have HE : Hid (F = true) := by show _ = _; rw [HX.out, HAcd.out, HAhd.out, HApt.out, HArg.out, Hq4.out, Hq5.out, Hq6.out, Hq7.out, HP.out.1, HP.out.2.1, HP.out.2.2.1, HP.out.2.2.2]; rfl
                    go_wp2
                    go_ret
                    exact ⟨ret_bool HE.out.symm, HB.out.bl⟩
end Go.Proofs.YtdplabhgdonbiaaDoor

/- Layer 13: the reference's Formed over any class. -/
namespace Go.Proofs.YtdplabhgdonbiaaDoor
open Go Go.RowKit

set_option maxRecDepth 100000 in
set_option maxHeartbeats 8000000 in
theorem rFormed13_any (c : Kl) (w : World) (hc : c.At w) : Calls Tryd.prog 21 #[.agg #[.slice c.n.ao c.n.len c.n.cap, .slice c.g.ao c.g.len c.g.cap, .slice c.fs.ao c.fs.len c.fs.cap]] w fun e w' => e = .returned (.bool c.fm) ∧ Below w.heap.size w w' := by
  have B1 := below_alloc w (.cells #[.slice c.n.ao c.n.len c.n.cap, .slice c.g.ao c.g.len c.g.cap, .slice c.fs.ao c.fs.len c.fs.cap] 28)
  have b := Blk.new w [.slice c.n.ao c.n.len c.n.cap, .slice c.g.ao c.g.len c.g.cap, .slice c.fs.ao c.fs.len c.fs.cap] 28
  have H0 := hyd (show Below w.heap.size w _ ∧ _ from ⟨B1, b⟩)
  have HD := hyd hc
  have hcl := rformed_any c.n c.g _ (hc.n.kept B1) (hc.g.kept B1)
  have HX : Hid (c.fm = (formedB c.n c.g && ((decide (1 ≤ c.fs.len) && decide (c.fs.len ≤ 60)) && decide (∀ i, i < c.fs.len → (c.fs.x i).fm c.n.len = true)))) := rfl
  have hbd := hc.fs.bound
  generalize c.fm = F at *
  have c0 := b.cell 0 rfl
  have c1 := b.cell 1 rfl
  clear B1 b hc
  generalize hG : formedB c.n c.g = b1 at hcl
  have HG := hyd hG
  clear hG
  go_enter Tryd.func21, Tryd.ntmps21
  go_wp2_with fail
  refine hcl.mono ?_
  rintro _ u1 ⟨rfl, hb⟩
  have H1 := hyd (show Below w.heap.size w u1 ∧ Blk u1 w.heap.size [.slice c.n.ao c.n.len c.n.cap, .slice c.g.ao c.g.len c.g.cap, .slice c.fs.ao c.fs.len c.fs.cap] 28 from ⟨Below.next H0.out.1 hb, H0.out.2.kept hb⟩)
  clear hcl hb c0 c1 H0
  cases b1
  · have HE : Hid (F = false) := by show _ = _; rw [HX.out, HG.out]; rfl
    go_wp2
    go_ret
    exact ⟨ret_bool HE.out.symm, H1.out.1⟩
  have c2 := H1.out.2.cell 2 rfl
  by_cases q1 : c.fs.len < 1
  · have d1 : decide ((c.fs.len : Int) < 1) = true := by simp; omega
    have HE : Hid (F = false) := by show _ = _; rw [HX.out, decide_eq_false (show ¬ 1 ≤ c.fs.len by omega)]; simp
    clear q1
    go_wp2
    go_ret
    exact ⟨ret_bool HE.out.symm, H1.out.1⟩
  have d1 : decide ((c.fs.len : Int) < 1) = false := by simp; omega
  have K1 : Hid (decide (1 ≤ c.fs.len) = true) := decide_eq_true (show 1 ≤ c.fs.len by omega)
  clear q1
  by_cases q2 : 60 < c.fs.len
  · have d2 : decide ((60 : Int) < c.fs.len) = true := by simp; omega
    have HE : Hid (F = false) := by show _ = _; rw [HX.out, decide_eq_false (show ¬ c.fs.len ≤ 60 by omega)]; simp
    clear q2
    go_wp2
    go_ret
    exact ⟨ret_bool HE.out.symm, H1.out.1⟩
  have d2 : decide ((60 : Int) < c.fs.len) = false := by simp; omega
  have HA : Hid (F = decide (∀ i, i < c.fs.len → (c.fs.x i).fm c.n.len = true)) := by show _ = _; rw [HX.out, HG.out, K1.out, decide_eq_true (show c.fs.len ≤ 60 by omega)]; simp
  clear q2 HX K1
  go_wp2
  clear c2 d1 d2
  go_loopw [3] (fun i wr => ∃ (j : Nat), j ≤ c.fs.len ∧ i = .int .i64 j ∧ (Below w.heap.size w wr ∧ Blk wr w.heap.size [.slice c.n.ao c.n.len c.n.cap, .slice c.g.ao c.g.len c.g.cap, .slice c.fs.ao c.fs.len c.fs.cap] 28) ∧ (∀ i, i < j → (c.fs.x i).fm c.n.len = true)) (fun i _ => c.fs.len - (intOf i).toNat)
  case atStart => exact ⟨0, Nat.zero_le _, rfl, H1.out, fun i hi => absurd hi (Nat.not_lt_zero _)⟩
  case round =>
    clear H1
    obtain ⟨j, hj, rfl, hBl, hall⟩ := hrel
    have HB := hyd hBl
    have HL := hyd hall
    clear hBl hall
    have c2 := HB.out.2.cell 2 rfl
    by_cases hlt : j < c.fs.len
    · as_aux_lemma =>
      have ij : (j : Int) < c.fs.len := by omega
      rw [HD.out.fs.nil (by omega)] at c2
      have c0 := HB.out.2.cell 0 rfl
      have c1 := HB.out.2.cell 1 rfl
      have H6 := hyd (all_step (P := fun i => (c.fs.x i).fm c.n.len) hlt HL.out)
      have r0 := (HD.out.fs.kept HB.out.1).row j hlt 0 _ rfl
      have r1 := (HD.out.fs.kept HB.out.1).row j hlt 1 _ rfl
      have r2 := (HD.out.fs.kept HB.out.1).row j hlt 2 _ rfl
      have r3 := (HD.out.fs.kept HB.out.1).row j hlt 3 _ rfl
      have r4 := (HD.out.fs.kept HB.out.1).row j hlt 4 _ rfl
      have r5 := (HD.out.fs.kept HB.out.1).row j hlt 5 _ rfl
      have r6 := (HD.out.fs.kept HB.out.1).row j hlt 6 _ rfl
      have r7 := (HD.out.fs.kept HB.out.1).row j hlt 7 _ rfl
      have r8 := (HD.out.fs.kept HB.out.1).row j hlt 8 _ rfl
      have r9 := (HD.out.fs.kept HB.out.1).row j hlt 9 _ rfl
      have r10 := (HD.out.fs.kept HB.out.1).row j hlt 10 _ rfl
      have r11 := (HD.out.fs.kept HB.out.1).row j hlt 11 _ rfl
      have r12 := (HD.out.fs.kept HB.out.1).row j hlt 12 _ rfl
      have r13 := (HD.out.fs.kept HB.out.1).row j hlt 13 _ rfl
      have r14 := (HD.out.fs.kept HB.out.1).row j hlt 14 _ rfl
      have r15 := (HD.out.fs.kept HB.out.1).row j hlt 15 _ rfl
      have r16 := (HD.out.fs.kept HB.out.1).row j hlt 16 _ rfl
      have r17 := (HD.out.fs.kept HB.out.1).row j hlt 17 _ rfl
      simp only [Nat.add_zero] at r0
      have H5 := hyd (show ∀ x : Gr wr, Calls Tryd.prog 35 #[.agg #[.slice c.n.ao c.n.len c.n.cap, .slice c.g.ao c.g.len c.g.cap], .agg #[.int .i64 (c.fs.x j).p.k, .int .i64 (c.fs.x j).p.l, .slice (c.fs.x j).p.ao (c.fs.x j).p.len (c.fs.x j).p.cap, .int .i64 (c.fs.x j).p.h, .int .i64 (c.fs.x j).p.e, .int .i64 (c.fs.x j).r.k, .int .i64 (c.fs.x j).r.l, .slice (c.fs.x j).r.ao (c.fs.x j).r.len (c.fs.x j).r.cap, .int .i64 (c.fs.x j).r.h, .int .i64 (c.fs.x j).r.e, .slice (c.fs.x j).c.ao (c.fs.x j).c.len (c.fs.x j).c.cap, .int .i64 (c.fs.x j).h, .int .i64 (c.fs.x j).e, .int .i64 (c.fs.x j).sl, .slice (c.fs.x j).cd.ao (c.fs.x j).cd.len (c.fs.x j).cd.cap, .slice (c.fs.x j).hd.ao (c.fs.x j).hd.len (c.fs.x j).hd.cap, .slice (c.fs.x j).pt.ao (c.fs.x j).pt.len (c.fs.x j).pt.cap, .slice (c.fs.x j).rg.ao (c.fs.x j).rg.len (c.fs.x j).rg.cap]] x.w fun e w' => e = .returned (.bool ((c.fs.x j).fm c.n.len)) ∧ Below x.w.heap.size x.w w' from fun x => rfunction_any c.n c.g (c.fs.x j) x.w HG.out (HD.out.n.kept (Below.next HB.out.1 x.bl)) (HD.out.g.kept (Below.next HB.out.1 x.bl)) ((HD.out.fs.kept (Below.next HB.out.1 x.bl)).each j hlt))
      generalize (c.fs.x j).fm c.n.len = bb at H6 H5
      have hNE : Nonempty (Gr wr) := ⟨⟨_, Below.refl _ _⟩⟩
      have gc0 := fun x => Gr.cell x c0
      have gc1 := fun x => Gr.cell x c1
      have gc2 := fun x => Gr.cell x c2
      have gr0 := fun x => Gr.cell x r0
      have gr1 := fun x => Gr.cell x r1
      have gr2 := fun x => Gr.cell x r2
      have gr3 := fun x => Gr.cell x r3
      have gr4 := fun x => Gr.cell x r4
      have gr5 := fun x => Gr.cell x r5
      have gr6 := fun x => Gr.cell x r6
      have gr7 := fun x => Gr.cell x r7
      have gr8 := fun x => Gr.cell x r8
      have gr9 := fun x => Gr.cell x r9
      have gr10 := fun x => Gr.cell x r10
      have gr11 := fun x => Gr.cell x r11
      have gr12 := fun x => Gr.cell x r12
      have gr13 := fun x => Gr.cell x r13
      have gr14 := fun x => Gr.cell x r14
      have gr15 := fun x => Gr.cell x r15
      have gr16 := fun x => Gr.cell x r16
      have gr17 := fun x => Gr.cell x r17
      go_upto_region 6 with fail
      refine wp_region_gr (by kernel_rfl) (by kernel_rfl) ?_
      repeat (first | go_big_quiet_step ((go_at_call 35; exact Calls.gr _ (H5.out _))))
      refine wpQuiet_nil ?_
      rintro _ ⟨x4, rfl⟩
      have HN := hyd (show Below w.heap.size w x4.w ∧ Blk x4.w w.heap.size [.slice c.n.ao c.n.len c.n.cap, .slice c.g.ao c.g.len c.g.cap, .slice c.fs.ao c.fs.len c.fs.cap] 28 from ⟨Below.next HB.out.1 x4.bl, HB.out.2.kept x4.bl⟩)
      generalize x4.w = w4 at HN ⊢
      clear x4 hNE gc0 gc1 gc2 gr0 gr1 gr2 gr3 gr4 gr5 gr6 gr7 gr8 gr9 gr10 gr11 gr12 gr13 gr14 gr15 gr16 gr17 c0 c1 c2 r0 r1 r2 r3 r4 r5 r6 r7 r8 r9 r10 r11 r12 r13 r14 r15 r16 r17 H5 HB
      cases bb
      · have HE : Hid (F = false) := by show _ = _; rw [HA.out]; exact H6.out.2 (by simp)
        go_wp2
        go_ret
        exact ⟨ret_bool HE.out.symm, HN.out.1⟩
      · go_wp2
        go_roundw
        case rel => exact ⟨j + 1, by omega, by go_num, HN.out, H6.out.1 (by simp)⟩
        case measure => simp [intOf]; omega
    · have e2 : ¬ (j : Int) < c.fs.len := by omega
      have HE : Hid (F = true) := by show _ = _; rw [HA.out, decide_eq_true_eq]; intro i hi; exact HL.out i (by omega)
      go_wp2
      go_ret
      exact ⟨ret_bool HE.out.symm, HB.out.1⟩
end Go.Proofs.YtdplabhgdonbiaaDoor
