/- Layer 14: the reference's first three rules. -/
import Derived.Test.YtdplabhgdonbiaaDoorP21
namespace Go.Proofs.YtdplabhgdonbiaaDoor
open Go Go.RowKit

theorem Cf.fm_parts {N : Nat} {f : Cf} (h : f.fm N = true) : (f.c.len ≤ 16 ∧ f.cd.len ≤ 2000) ∧ (∀ i, i < f.cd.len → (f.cd.x i).fm N = true) ∧ (∀ i, i < f.rg.len → (f.rg.x i).fm = true) := by
  unfold Cf.fm Cf.few at h
  simp only [Bool.and_eq_true, decide_eq_true_eq] at h
  exact ⟨⟨h.1.2.1, h.1.2.2.1⟩, h.2.2.2.1, h.2.2.2.2.2.2⟩
theorem In.fm_pos {N : Nat} {x : In} (h : x.fm N = true) (ho : x.op = 3 ∨ x.op = 4 ∨ x.op = 17 ∨ x.op = 23) : 0 ≤ x.a := by
  unfold In.fm at h
  rw [if_neg (by omega)] at h
  have h3 : opr x.op = 3 := by
    unfold opr
    rcases ho with e | e | e | e <;> rw [e] <;> rfl
  rw [h3] at h
  simp only [Bool.and_eq_true, nmB, shB, decide_eq_true_eq] at h
  have := h.2.2
  simp at this
  exact this.1
theorem Rn.fm_pos {x : Rn} (h : x.fm = true) : 0 ≤ x.at_ := by
  unfold Rn.fm shB at h
  simp only [Bool.and_eq_true, decide_eq_true_eq] at h
  exact h.1.1.1.1
theorem btw_lt {a hi : Int} (h : 0 ≤ a) : btw a 0 hi = decide (a < hi) := by
  unfold btw
  rw [decide_eq_true h]; rfl

set_option maxHeartbeats 4000000 in
theorem rfirst_any (f : Cf) (w : World) (h16 : f.c.len ≤ 16) : Calls Tryd.prog 22 #[.agg f.vs.toArray] w fun e w' => e = .returned (.bool f.cntB) ∧ Below w.heap.size w w' := by
  have B0 := hyd (below_alloc w (.cells f.vs.toArray 43))
  have b := Blk.new w f.vs 43
  have c10 := b.cell 10 rfl
  have c13 := b.cell 13 rfl
  have c14 := b.cell 14 rfl
  have c16 := b.cell 16 rfl
  have HF : Hid (f.cntB = ((decide (0 < f.cd.len) && decide (f.pt.len = f.cd.len)) && decide ((f.c.len : Int) < f.sl))) := rfl
  have hw : wrap64 (1 + (f.c.len : Int)) = 1 + (f.c.len : Int) := by unfold wrap64; omega
  generalize f.cntB = F at *
  generalize f.vs.toArray = V at *
  clear b
  by_cases h1 : 0 < f.cd.len
  · have i1 : (1 : Int) ≤ f.cd.len := by omega
    by_cases h2 : f.pt.len = f.cd.len
    · have HE : Hid (F = decide ((f.c.len : Int) < f.sl)) := by show _ = _; rw [HF.out, decide_eq_true h1, decide_eq_true h2]; rfl
      have e2 : ((f.pt.len : Int) == f.cd.len) = true := by simp; omega
      by_cases h3 : (f.c.len : Int) < f.sl
      · have HG : Hid (F = true) := HE.out.trans (decide_eq_true h3)
        have l3 : 1 + (f.c.len : Int) ≤ f.sl := by omega
        clear h2 h1 h3
        go_enter Tryd.func22, Tryd.ntmps22
        go_wp2
        go_ret
        exact ⟨ret_bool HG.out.symm, B0.out⟩
      · have HG : Hid (F = false) := HE.out.trans (decide_eq_false h3)
        have l3 : ¬ 1 + (f.c.len : Int) ≤ f.sl := by omega
        clear h2 h1 h3
        go_enter Tryd.func22, Tryd.ntmps22
        go_wp2
        go_ret
        exact ⟨ret_bool HG.out.symm, B0.out⟩
    · have HE : Hid (F = false) := by show _ = _; rw [HF.out, decide_eq_true h1, decide_eq_false h2]; rfl
      have e2 : ((f.pt.len : Int) == f.cd.len) = false := by simp; omega
      clear h2 h1
      go_enter Tryd.func22, Tryd.ntmps22
      go_wp2
      go_ret
      exact ⟨ret_bool HE.out.symm, B0.out⟩
  · have HE : Hid (F = false) := by show _ = _; rw [HF.out, decide_eq_false h1]; rfl
    have i1 : ¬ (1 : Int) ≤ f.cd.len := by omega
    clear h1
    go_enter Tryd.func22, Tryd.ntmps22
    go_wp2
    go_ret
    exact ⟨ret_bool HE.out.symm, B0.out⟩

set_option maxRecDepth 100000 in
set_option maxHeartbeats 16000000 in
theorem rsecond_any (c : Kl) (f : Cf) (w : World) (hf : f.At w) (hpos : 0 < f.cd.len) (hm : f.cd.len ≤ 2000) (hfm : ∀ i, i < f.cd.len → (f.cd.x i).fm c.n.len = true) : Calls Tryd.prog 23 #[.agg #[.slice c.n.ao c.n.len c.n.cap, .slice c.g.ao c.g.len c.g.cap, .slice c.fs.ao c.fs.len c.fs.cap], .agg f.vs.toArray] w fun e w' => e = .returned (.bool (f.codB c.fs.len c.n.len)) ∧ Below w.heap.size w w' := by
  have H1 := hyd (Sb.new w c f hf)
  have HA : Hid (f.codB c.fs.len c.n.len = (decide (∀ i, i < f.cd.len → (f.cd.x i).nhB c.fs.len c.n.len f.sl f.cd.len i = true) && lastB (f.cd.x (f.cd.len - 1)).op)) := rfl
  have HNIL := hyd (hf.cd.nil hpos)
  have HP := hyd hpos
  have HFM := hyd hfm
  generalize f.codB c.fs.len c.n.len = F at *
  clear hf hpos hfm
  have hs := alloc_size w (.cells #[.slice c.n.ao c.n.len c.n.cap, .slice c.g.ao c.g.len c.g.cap, .slice c.fs.ao c.fs.len c.fs.cap] 28)
  generalize hw0 : w.alloc (.cells #[.slice c.n.ao c.n.len c.n.cap, .slice c.g.ao c.g.len c.g.cap, .slice c.fs.ao c.fs.len c.fs.cap] 28) = u0 at *
  generalize hw1 : u0.alloc (.cells f.vs.toArray 43) = u1 at *
  have c14 := H1.out.bF.cell 14 rfl
  rw [HNIL.out] at c14
  go_enter Tryd.func23, Tryd.ntmps23
  go_wp2
  clear hw0 hw1 hs
  go_loopw [6] (fun i wr => ∃ (j : Nat), j ≤ f.cd.len ∧ i = .int .i64 j ∧ Sb w c f w.heap.size (w.heap.size + 1) wr ∧ (∀ i, i < j → (f.cd.x i).nhB c.fs.len c.n.len f.sl f.cd.len i = true)) (fun i _ => f.cd.len - (intOf i).toNat)
  case atStart => exact ⟨0, Nat.zero_le _, rfl, H1.out, fun i hi => absurd hi (Nat.not_lt_zero _)⟩
  case round =>
    clear H1 c14
    obtain ⟨j, hj, rfl, hBl, hall⟩ := hrel
    have HB := hyd hBl
    have HL := hyd hall
    clear hBl hall
    have c14 := HB.out.bF.cell 14 rfl
    rw [HNIL.out] at c14
    by_cases hlt : j < f.cd.len
    · as_aux_lemma =>
      have ij : (j : Int) < f.cd.len := by omega
      have d0 := HB.out.bC.cell 0 rfl
      have d2 := HB.out.bC.cell 2 rfl
      have c13 := HB.out.bF.cell 13 rfl
      have r0 := HB.out.f.cd.row j hlt 0 _ rfl
      have r1 := HB.out.f.cd.row j hlt 1 _ rfl
      simp only [Nat.add_zero] at r0
      have HY := hyd (all_step14 (P := fun i => (f.cd.x i).nhB c.fs.len c.n.len f.sl f.cd.len i = true) HL.out)
      have HNo : Hid ((f.cd.x j).nhB c.fs.len c.n.len f.sl f.cd.len j = false → F = false) := fun h => by
        rw [HA.out, decide_eq_false (fun hh => by have := hh j hlt; rw [h] at this; cases this)]; rfl
      have HX : Hid ((f.cd.x j).nhB c.fs.len c.n.len f.sl f.cd.len j = (if (f.cd.x j).op = 3 ∨ (f.cd.x j).op = 4 then btw (f.cd.x j).a 0 f.sl else if (f.cd.x j).op = 17 then btw (f.cd.x j).a 0 c.fs.len else if (f.cd.x j).op = 23 then btw (f.cd.x j).a 0 c.n.len else if (f.cd.x j).op = 24 ∨ (f.cd.x j).op = 25 then btw (f.cd.x j).a ((j : Int) + 1) f.cd.len else true)) := rfl
      have HPO := hyd (show ((f.cd.x j).op = 3 ∨ (f.cd.x j).op = 4 ∨ (f.cd.x j).op = 17 ∨ (f.cd.x j).op = 23) → 0 ≤ (f.cd.x j).a from In.fm_pos (HFM.out j hlt))
      generalize (f.cd.x j).nhB c.fs.len c.n.len f.sl f.cd.len j = q at *
      generalize (f.cd.x j).op = op at *
      generalize (f.cd.x j).a = a at *
      by_cases o3 : op = 3
      · subst o3
        have hp := HPO.out (by omega)
        have HX2 : Hid (q = decide (a < f.sl)) := by show _ = _; rw [HX.out]; exact btw_lt hp
        clear hp HX HPO
        by_cases l : a < f.sl
        · have l2 : ¬ f.sl ≤ a := by omega
          have HE : Hid (q = true) := by show _ = _; rw [HX2.out, decide_eq_true l]
          have HE2 := hyd (HY.out HE.out)
          go_wp2
          go_roundw
          case rel => exact ⟨j + 1, by omega, by go_num, HB.out, HE2.out⟩
          case measure => simp [intOf]; omega
        · have l2 : f.sl ≤ a := by omega
          have HE : Hid (q = false) := by show _ = _; rw [HX2.out, decide_eq_false l]
          have HE2 := hyd (HNo.out HE.out)
          go_wp2
          go_ret
          exact ⟨ret_bool HE2.out.symm, HB.out.bl⟩
      have n3 : (op == 3) = false := by simpa using o3
      by_cases o4 : op = 4
      · subst o4
        have hp := HPO.out (by omega)
        clear n3
        have HX2 : Hid (q = decide (a < f.sl)) := by show _ = _; rw [HX.out]; exact btw_lt hp
        clear hp HX HPO
        by_cases l : a < f.sl
        · have l2 : ¬ f.sl ≤ a := by omega
          have HE : Hid (q = true) := by show _ = _; rw [HX2.out, decide_eq_true l]
          have HE2 := hyd (HY.out HE.out)
          go_wp2
          go_roundw
          case rel => exact ⟨j + 1, by omega, by go_num, HB.out, HE2.out⟩
          case measure => simp [intOf]; omega
        · have l2 : f.sl ≤ a := by omega
          have HE : Hid (q = false) := by show _ = _; rw [HX2.out, decide_eq_false l]
          have HE2 := hyd (HNo.out HE.out)
          go_wp2
          go_ret
          exact ⟨ret_bool HE2.out.symm, HB.out.bl⟩
      have n4 : (op == 4) = false := by simpa using o4
      by_cases o17 : op = 17
      · subst o17
        have hp := HPO.out (by omega)
        clear n3 n4
        have HX2 : Hid (q = decide (a < (c.fs.len : Int))) := by show _ = _; rw [HX.out]; exact btw_lt hp
        clear hp HX HPO
        by_cases l : a < (c.fs.len : Int)
        · have l2 : ¬ (c.fs.len : Int) ≤ a := by omega
          have HE : Hid (q = true) := by show _ = _; rw [HX2.out, decide_eq_true l]
          have HE2 := hyd (HY.out HE.out)
          go_wp2
          go_roundw
          case rel => exact ⟨j + 1, by omega, by go_num, HB.out, HE2.out⟩
          case measure => simp [intOf]; omega
        · have l2 : (c.fs.len : Int) ≤ a := by omega
          have HE : Hid (q = false) := by show _ = _; rw [HX2.out, decide_eq_false l]
          have HE2 := hyd (HNo.out HE.out)
          go_wp2
          go_ret
          exact ⟨ret_bool HE2.out.symm, HB.out.bl⟩
      have n17 : (op == 17) = false := by simpa using o17
      by_cases o23 : op = 23
      · subst o23
        have hp := HPO.out (by omega)
        clear n3 n4 n17
        have HX2 : Hid (q = decide (a < (c.n.len : Int))) := by show _ = _; rw [HX.out]; exact btw_lt hp
        clear hp HX HPO
        by_cases l : a < (c.n.len : Int)
        · have l2 : ¬ (c.n.len : Int) ≤ a := by omega
          have HE : Hid (q = true) := by show _ = _; rw [HX2.out, decide_eq_true l]
          have HE2 := hyd (HY.out HE.out)
          go_wp2
          go_roundw
          case rel => exact ⟨j + 1, by omega, by go_num, HB.out, HE2.out⟩
          case measure => simp [intOf]; omega
        · have l2 : (c.n.len : Int) ≤ a := by omega
          have HE : Hid (q = false) := by show _ = _; rw [HX2.out, decide_eq_false l]
          have HE2 := hyd (HNo.out HE.out)
          go_wp2
          go_ret
          exact ⟨ret_bool HE2.out.symm, HB.out.bl⟩
      have n23 : (op == 23) = false := by simpa using o23
      by_cases o24 : op = 24
      · subst o24
        clear n3 n4 n17 n23
        have HX2 : Hid (q = (decide ((j : Int) + 1 ≤ a) && decide (a < f.cd.len))) := by show _ = _; rw [HX.out]; rfl
        clear HX HPO
        by_cases l : (j : Int) < a
        · have l2 : ¬ a ≤ (j : Int) := by omega
          by_cases m : a < (f.cd.len : Int)
          · have m2 : ¬ (f.cd.len : Int) ≤ a := by omega
            have HE : Hid (q = true) := by show _ = _; rw [HX2.out, decide_eq_true (show (j : Int) + 1 ≤ a by omega), decide_eq_true m]; rfl
            have HE2 := hyd (HY.out HE.out)
            go_wp2
            go_roundw
            case rel => exact ⟨j + 1, by omega, by go_num, HB.out, HE2.out⟩
            case measure => simp [intOf]; omega
          · have m2 : (f.cd.len : Int) ≤ a := by omega
            have HE : Hid (q = false) := by show _ = _; rw [HX2.out, decide_eq_false m, Bool.and_false]
            have HE2 := hyd (HNo.out HE.out)
            go_wp2
            go_ret
            exact ⟨ret_bool HE2.out.symm, HB.out.bl⟩
        · have l2 : a ≤ (j : Int) := by omega
          have HE : Hid (q = false) := by show _ = _; rw [HX2.out, decide_eq_false (show ¬ (j : Int) + 1 ≤ a by omega)]; rfl
          have HE2 := hyd (HNo.out HE.out)
          go_wp2
          go_ret
          exact ⟨ret_bool HE2.out.symm, HB.out.bl⟩
      have n24 : (op == 24) = false := by simpa using o24
      by_cases o25 : op = 25
      · subst o25
        clear n3 n4 n17 n23 n24
        have HX2 : Hid (q = (decide ((j : Int) + 1 ≤ a) && decide (a < f.cd.len))) := by show _ = _; rw [HX.out]; rfl
        clear HX HPO
        by_cases l : (j : Int) < a
        · have l2 : ¬ a ≤ (j : Int) := by omega
          by_cases m : a < (f.cd.len : Int)
          · have m2 : ¬ (f.cd.len : Int) ≤ a := by omega
            have HE : Hid (q = true) := by show _ = _; rw [HX2.out, decide_eq_true (show (j : Int) + 1 ≤ a by omega), decide_eq_true m]; rfl
            have HE2 := hyd (HY.out HE.out)
            go_wp2
            go_roundw
            case rel => exact ⟨j + 1, by omega, by go_num, HB.out, HE2.out⟩
            case measure => simp [intOf]; omega
          · have m2 : (f.cd.len : Int) ≤ a := by omega
            have HE : Hid (q = false) := by show _ = _; rw [HX2.out, decide_eq_false m, Bool.and_false]
            have HE2 := hyd (HNo.out HE.out)
            go_wp2
            go_ret
            exact ⟨ret_bool HE2.out.symm, HB.out.bl⟩
        · have l2 : a ≤ (j : Int) := by omega
          have HE : Hid (q = false) := by show _ = _; rw [HX2.out, decide_eq_false (show ¬ (j : Int) + 1 ≤ a by omega)]; rfl
          have HE2 := hyd (HNo.out HE.out)
          go_wp2
          go_ret
          exact ⟨ret_bool HE2.out.symm, HB.out.bl⟩
      have n25 : (op == 25) = false := by simpa using o25
      have HE : Hid (q = true) := by show _ = _; rw [HX.out, if_neg (by omega), if_neg (by omega), if_neg (by omega), if_neg (by omega)]
      have HE2 := hyd (HY.out HE.out)
      clear HX HPO o3 o4 o17 o23 o24 o25
      go_wp2
      go_roundw
      case rel => exact ⟨j + 1, by omega, by go_num, HB.out, HE2.out⟩
      case measure => simp [intOf]; omega
    · have e2 : ¬ (j : Int) < f.cd.len := by omega
      have HE : Hid (F = lastB (f.cd.x (f.cd.len - 1)).op) := by show _ = _; rw [HA.out, decide_eq_true (fun i hi => HL.out i (by omega))]; rfl
      have hp0 : (0 : Int) < f.cd.len := by have := HP.out; omega
      have r0 := HB.out.f.cd.row (f.cd.len - 1) (by omega) 0 _ rfl
      simp only [Nat.add_zero] at r0
      have HE2 : Hid (F = (decide ((f.cd.x (f.cd.len - 1)).op = 27) || decide ((f.cd.x (f.cd.len - 1)).op = 26))) := by show _ = _; rw [HE.out]; rfl
      have o3 : (f.cd.x (f.cd.len - 1)).op ≠ 24 := fun e => by
        have h1 := HL.out (f.cd.len - 1) (by omega)
        unfold In.nhB at h1
        rw [if_neg (by omega), if_neg (by omega), if_neg (by omega), if_pos (Or.inl e)] at h1
        unfold btw at h1
        simp only [Bool.and_eq_true, decide_eq_true_eq] at h1
        omega
      clear HE HP
      generalize (f.cd.x (f.cd.len - 1)).op = op at *
      have n3 : (op == 24) = false := by simpa using o3
      by_cases o1 : op = 27
      · subst o1
        have HE3 : Hid (F = true) := by show _ = _; rw [HE2.out]; rfl
        clear n3 o3
        go_wp2
        go_ret
        exact ⟨ret_bool HE3.out.symm, HB.out.bl⟩
      have n1 : (op == 27) = false := by simpa using o1
      by_cases o2 : op = 26
      · subst o2
        have HE3 : Hid (F = true) := by show _ = _; rw [HE2.out]; rfl
        clear n1 n3 o3
        go_wp2
        go_ret
        exact ⟨ret_bool HE3.out.symm, HB.out.bl⟩
      have n2 : (op == 26) = false := by simpa using o2
      have HE3 : Hid (F = false) := by show _ = _; rw [HE2.out, decide_eq_false o1, decide_eq_false o2]; rfl
      clear o1 o2 o3
      go_wp2
      go_ret
      exact ⟨ret_bool HE3.out.symm, HB.out.bl⟩

set_option maxRecDepth 100000 in
set_option maxHeartbeats 8000000 in
theorem rthird_any (f : Cf) (w : World) (hf : f.At w) : Calls Tryd.prog 24 #[.agg f.vs.toArray] w fun e w' => e = .returned (.bool f.hanB) ∧ Below w.heap.size w w' := by
  have B1 := below_alloc w (.cells f.vs.toArray 43)
  have b := Blk.new w f.vs 43
  have H1 := hyd (show Below w.heap.size w _ ∧ _ from ⟨B1, b⟩)
  have HD := hyd hf
  have HA : Hid (f.hanB = decide (∀ i, i < f.hd.len → (f.hd.x i).hold f.cd.len = true)) := rfl
  have hbd := hf.hd.bound
  have HNIL := hyd hf.hd.nil
  generalize f.hanB = F at *
  clear B1 b hf
  generalize hw0 : w.alloc (.cells f.vs.toArray 43) = u0 at *
  have HN : Hid (∀ (j : Nat) (wr : World), j < f.hd.len → Below w.heap.size w wr → wr.rangeAt f.hd.b (f.hd.o + j * 3) (f.hd.x j).vs) := fun j wr hj hb => (HD.out.hd.kept hb).row j hj
  have HNo : Hid (∀ j, j < f.hd.len → (f.hd.x j).hold f.cd.len = false → F = false) := fun j hj h => by
    rw [HA.out, decide_eq_false_iff_not]
    exact fun hh => by have := hh j hj; rw [h] at this; cases this
  go_enter Tryd.func24, Tryd.ntmps24
  go_wp2
  clear hw0
  go_loopw [3] (fun i wr => ∃ (j : Nat), j ≤ f.hd.len ∧ i = .int .i64 j ∧ (Below w.heap.size w wr ∧ Blk wr w.heap.size f.vs 43) ∧ (∀ i, i < j → (f.hd.x i).hold f.cd.len = true)) (fun i _ => f.hd.len - (intOf i).toNat)
  case atStart => exact ⟨0, Nat.zero_le _, rfl, H1.out, fun i hi => absurd hi (Nat.not_lt_zero _)⟩
  case round =>
    clear H1
    obtain ⟨j, hj, rfl, hBl, hall⟩ := hrel
    have HB := hyd hBl
    have HL := hyd hall
    clear hBl hall
    have c15 := HB.out.2.cell 15 rfl
    by_cases hlt : j < f.hd.len
    · have ij : (j : Int) < f.hd.len := by omega
      rw [HNIL.out (by omega)] at c15
      have r0 := HN.out j wr hlt HB.out.1
      have HNo2 := hyd (HNo.out j hlt)
      have HY := hyd (all_step14 (P := fun i => (f.hd.x i).hold f.cd.len = true) HL.out)
      have HH : Hid ((f.hd.x j).hold f.cd.len = ((decide ((f.hd.x j).fr < (f.hd.x j).to) && decide ((f.hd.x j).to ≤ (f.hd.x j).at_)) && decide ((f.hd.x j).at_ < f.cd.len))) := rfl
      have B2 := below_alloc wr (.cells (f.hd.x j).vs.toArray 50)
      have bH := Blk.new wr (f.hd.x j).vs 50
      have HB2 := hyd (show Below w.heap.size w _ ∧ Blk _ w.heap.size f.vs 43 from ⟨Below.next HB.out.1 B2, HB.out.2.kept B2⟩)
      have c14 := HB2.out.2.cell 14 rfl
      have d0 := bH.cell 0 rfl
      have d1 := bH.cell 1 rfl
      have d2 := bH.cell 2 rfl
      clear B2 bH HB
      generalize hh : f.hd.x j = h at *
      go_upto_region 5 with (first | (refine wpList_load_mid rfl 50 (.tmp 15) rfl f.hd.b (f.hd.o + j * 3) (by kernel_rfl) h.vs _ r0 Tryd.underlying50 rfl (by kernel_rfl) ?_) | (refine wpList_new_mid rfl rfl 50 rfl (.tmp 4) (.tmp 16) rfl z_hn (alloc_hn _) rfl h.vs.toArray (by kernel_rfl) (by kernel_rfl) rfl (by kernel_rfl) (by simpa using h.vs_one) ?_))
      clear hh r0 c15
      generalize wr.alloc (.cells h.vs.toArray 50) = u2 at *
      generalize wr.heap.size = BH at *
      generalize hq : h.hold f.cd.len = q at *
      clear hq
      by_cases k1 : h.fr < h.to
      · by_cases k2 : h.to ≤ h.at_
        · by_cases k3 : h.at_ < (f.cd.len : Int)
          · have HE : Hid (q = true) := by show _ = _; rw [HH.out, decide_eq_true k1, decide_eq_true k2, decide_eq_true k3]; rfl
            have HE2 := hyd (HY.out (by show _ = _; rw [HE.out]))
            go_wp2
            go_roundw
            case rel => exact ⟨j + 1, by omega, by go_num, HB2.out, HE2.out⟩
            case measure => simp [intOf]; omega
          · have HE : Hid (q = false) := by show _ = _; rw [HH.out, decide_eq_true k1, decide_eq_true k2, decide_eq_false k3]; rfl
            have HE2 := hyd (HNo2.out HE.out)
            go_wp2
            go_ret
            exact ⟨ret_bool HE2.out.symm, HB2.out.1⟩
        · have HE : Hid (q = false) := by show _ = _; rw [HH.out, decide_eq_true k1, decide_eq_false k2]; rfl
          have HE2 := hyd (HNo2.out HE.out)
          go_wp2
          go_ret
          exact ⟨ret_bool HE2.out.symm, HB2.out.1⟩
      · have HE : Hid (q = false) := by show _ = _; rw [HH.out, decide_eq_false k1]; rfl
        have HE2 := hyd (HNo2.out HE.out)
        go_wp2
        go_ret
        exact ⟨ret_bool HE2.out.symm, HB2.out.1⟩
    · have e2 : ¬ (j : Int) < f.hd.len := by omega
      have HE : Hid (F = true) := by show _ = _; rw [HA.out, decide_eq_true_eq]; intro i hi; exact HL.out i (by omega)
      go_wp2
      go_ret
      exact ⟨ret_bool HE.out.symm, HB.out.1⟩
end Go.Proofs.YtdplabhgdonbiaaDoor
