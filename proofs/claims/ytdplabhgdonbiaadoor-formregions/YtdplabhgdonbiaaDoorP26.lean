/- Layer 14: the reference's fourth rule, and its Check. -/
import Derived.Test.YtdplabhgdonbiaaDoorP22
import Derived.Test.YtdplabhgdonbiaaDoorP25
import Derived.BigQuiet
import Derived.Test.YtdplabhgdonbiaaDoorP7
import Derived.Test.YtdplabhgdonbiaaDoorP12
import Derived.Test.YtdplabhgdonbiaaDoorP10
namespace Go.Proofs.YtdplabhgdonbiaaDoor
open Go Go.RowKit

theorem Rn.up_all {x : Rn} {k : Nat} (h : ∀ i, i < k → x.ah i < x.ps.x i) : x.at_ ≤ x.ah k ∧ (0 < k → x.at_ < x.ah k) := by
  induction k with
  | zero => exact ⟨Int.le_refl _, fun h => absurd h (Nat.lt_irrefl _)⟩
  | succ k ih =>
    have h1 := ih (fun i hi => h i (by omega))
    have h2 := h k (by omega)
    have e : x.ah (k + 1) = x.ps.x k := rfl
    rw [e]
    exact ⟨by omega, fun _ => by omega⟩
/-- Where fourth stands: its own box, the region's. -/
structure S4 (w : World) (f : Cf) (x : Rn) (BR : Nat) (u : World) : Prop where
  bl : Below w.heap.size w u
  bF : Blk u w.heap.size f.vs 43
  bR : Blk u BR x.vs 58
theorem S4.kept {w : World} {f : Cf} {x : Rn} {BR : Nat} {u u' : World} (h : S4 w f x BR u) (hb : Below u.heap.size u u') : S4 w f x BR u' := ⟨Below.next h.bl hb, h.bF.kept hb, h.bR.kept hb⟩
set_option maxRecDepth 100000 in
set_option maxHeartbeats 32000000 in
theorem rfourth_any (f : Cf) (w : World) (hf : f.At w) (hfm : ∀ i, i < f.rg.len → (f.rg.x i).fm = true) : Calls Tryd.prog 25 #[.agg f.vs.toArray] w fun e w' => e = .returned (.bool f.regB) ∧ Below w.heap.size w w' := by
  have B1 := below_alloc w (.cells f.vs.toArray 43)
  have b := Blk.new w f.vs 43
  have H1 := hyd (show Below w.heap.size w _ ∧ _ from ⟨B1, b⟩)
  have HD := hyd hf
  have HA : Hid (f.regB = decide (∀ i, i < f.rg.len → ((f.ah i < (f.rg.x i).at_ ∧ (f.rg.x i).at_ < f.cd.len) ∧ (f.rg.x i).joinB f.cd.len = true) ∧ (f.rg.x i).plcB f.cd.len = true)) := rfl
  have hbd := hf.rg.bound
  have HNIL := hyd hf.rg.nil
  have HFM : Hid (∀ i, i < f.rg.len → 0 ≤ (f.rg.x i).at_) := fun i hi => Rn.fm_pos (hfm i hi)
  generalize f.regB = F at *
  have c14 := b.cell 14 rfl
  clear B1 b hf hfm
  generalize hw0 : w.alloc (.cells f.vs.toArray 43) = u0 at *
  have HN : Hid (∀ (j : Nat) (wr : World), j < f.rg.len → Below w.heap.size w wr → wr.rangeAt f.rg.b (f.rg.o + j * 3) (f.rg.x j).vs) := fun j wr hj hb => (HD.out.rg.kept hb).row j hj
  have HNo : Hid (∀ j, j < f.rg.len → ¬ (((f.ah j < (f.rg.x j).at_ ∧ (f.rg.x j).at_ < f.cd.len) ∧ (f.rg.x j).joinB f.cd.len = true) ∧ (f.rg.x j).plcB f.cd.len = true) → F = false) := fun j hj h => by
    rw [HA.out, decide_eq_false_iff_not]
    exact fun hh => h (hh j hj)
  go_enter Tryd.func25, Tryd.ntmps25
  go_wp2
  clear hw0 c14
  go_loopw [4] (fun i wr => ∃ (j : Nat), j ≤ f.rg.len ∧ i = .int .i64 j ∧ (Below w.heap.size w wr ∧ Blk wr w.heap.size f.vs 43) ∧ (∀ i, i < j → ((f.ah i < (f.rg.x i).at_ ∧ (f.rg.x i).at_ < f.cd.len) ∧ (f.rg.x i).joinB f.cd.len = true) ∧ (f.rg.x i).plcB f.cd.len = true)) (fun i _ => f.rg.len - (intOf i).toNat)
  case atStart => exact ⟨0, Nat.zero_le _, rfl, H1.out, fun i hi => absurd hi (Nat.not_lt_zero _)⟩
  case round =>
    clear H1
    obtain ⟨j, hj, rfl, hBl, hall⟩ := hrel
    have HB := hyd hBl
    have HL := hyd hall
    clear hBl hall
    have c17 := HB.out.2.cell 17 rfl
    by_cases hlt : j < f.rg.len
    · as_aux_lemma =>
      have ij : (j : Int) < f.rg.len := by omega
      rw [HNIL.out (by omega)] at c17
      have r0 := HN.out j wr hlt HB.out.1
      have HNo2 := hyd (HNo.out j hlt)
      have HY := hyd (all_step14 (P := fun i => ((f.ah i < (f.rg.x i).at_ ∧ (f.rg.x i).at_ < f.cd.len) ∧ (f.rg.x i).joinB f.cd.len = true) ∧ (f.rg.x i).plcB f.cd.len = true) HL.out)
      have HPV : Hid (∀ m, j = m + 1 → ∀ u, Below w.heap.size w u → u.cell? ⟨f.rg.b, f.rg.o + m * 3, none⟩ = some (.int .i64 (f.ah j))) := fun m hm u hb => by
        subst hm
        have := HN.out m u (by omega) hb 0 _ rfl
        show _ = some (Value.int .i64 (f.rg.x m).at_)
        simpa using this
      have HP0 : Hid (j = 0 → f.ah j = -1) := fun h => by subst h; rfl
      have HAT := hyd (HFM.out j hlt)
      have B2 := below_alloc wr (.cells (f.rg.x j).vs.toArray 58)
      have bH := Blk.new wr (f.rg.x j).vs 58
      have HX := hyd (HD.out.rg.each j hlt)
      have HS := hyd (show S4 w f (f.rg.x j) wr.heap.size _ from ⟨Below.next HB.out.1 B2, HB.out.2.kept B2, bH⟩)
      clear B2 bH HB
      generalize f.ah j = q at *
      generalize hh : f.rg.x j = x at *
      go_upto_region 6 with (first | (refine wpList_load_mid rfl 58 (.tmp 21) rfl f.rg.b (f.rg.o + j * 3) (by kernel_rfl) x.vs _ r0 Tryd.underlying58 rfl (by kernel_rfl) ?_) | (refine wpList_new_mid rfl rfl 58 rfl (.tmp 5) (.tmp 22) rfl z_rn (alloc_rn _) rfl x.vs.toArray (by kernel_rfl) (by kernel_rfl) rfl (by kernel_rfl) (by simpa using x.vs_one) ?_))
      clear hh r0 c17
      simp only [Act.put, List.setIfInBounds_toArray, List.set_cons_succ, List.set_cons_zero]
      generalize wr.alloc (.cells x.vs.toArray 58) = u2 at *
      generalize wr.heap.size = BH at *
      have c17 := HS.out.bF.cell 17 rfl
      rw [HNIL.out (by omega)] at c17
      have d0 := HS.out.bR.cell 0 rfl
      have d1 := HS.out.bR.cell 1 rfl
      have HPL : Hid (x.plcB f.cd.len = decide (∀ i, i < x.ps.len → (x.ah i < x.ps.x i ∧ x.ps.x i < f.cd.len) ∧ x.ps.x i ≠ x.join)) := rfl
      have HJB : Hid (x.joinB f.cd.len = (decide (x.join = -1) || (decide (x.at_ < x.join) && decide (x.join < f.cd.len)))) := rfl
      have HAT2 : Hid (j = 0 → q < x.at_) := fun h => by have h1 := HP0.out h; have h2 := HAT.out; omega
      generalize x.joinB f.cd.len = jb at *
      generalize x.plcB f.cd.len = pb at *
      by_cases k1 : x.at_ < (f.cd.len : Int)
      · have k1n : ¬ (f.cd.len : Int) ≤ x.at_ := by omega
        rcases Nat.eq_zero_or_pos j with h0 | h0
        · have i0 : ¬ 0 < j := by omega
          have k0 := HAT2.out h0
          clear h0
          by_cases j1 : x.join = -1
          · have j1b : (x.join != -1) = false := by simp [j1]
            have HJT : Hid (jb = true) := by show _ = _; rw [HJB.out, decide_eq_true j1]; rfl
            clear j1
            have HK : Hid (q < x.at_ ∧ x.at_ < (f.cd.len : Int)) := ⟨k0, k1⟩
            clear k0 k1
            go_quiet (fail)
            have HS2 := hyd (HS.out.kept (below_drewN (Below.refl _ _) nq))
            clear HS c17 d0 d1 i0 k1n j1b
            generalize u2.drewN nq = u3 at *
            go_wp2
            go_loopw [6] (fun i wr => ∃ (k : Nat), k ≤ x.ps.len ∧ i = .int .i64 k ∧ S4 w f x BH wr ∧ (∀ i, i < k → (x.ah i < x.ps.x i ∧ x.ps.x i < f.cd.len) ∧ x.ps.x i ≠ x.join)) (fun i _ => x.ps.len - (intOf i).toNat)
            case atStart => exact ⟨0, Nat.zero_le _, rfl, HS2.out, fun i hi => absurd hi (Nat.not_lt_zero _)⟩
            case round =>
              clear HS2
              obtain ⟨k, hk, rfl, hS3, hall3⟩ := hrel
              have HS3 := hyd hS3
              have HL3 := hyd hall3
              clear hS3 hall3
              have d2 := HS3.out.bR.cell 2 rfl
              have hbk := HX.out.ps.bound
              by_cases klt : k < x.ps.len
              · have ik : (k : Int) < x.ps.len := by omega
                rw [HX.out.ps.nil (by omega)] at d2
                have d0 := HS3.out.bR.cell 0 rfl
                have d1 := HS3.out.bR.cell 1 rfl
                have p0 : wr.cell? ⟨x.ps.b, x.ps.o + k, none⟩ = some (.int .i64 (x.ps.x k)) := by have := (HX.out.ps.kept HS3.out.bl).row k klt 0 _ rfl; simpa using this
                have HU := hyd (Rn.up_all (x := x) (k := k) (fun i hi => (HL3.out i hi).1.1))
                have HY3 := hyd (all_step14 (P := fun i => (x.ah i < x.ps.x i ∧ x.ps.x i < f.cd.len) ∧ x.ps.x i ≠ x.join) HL3.out)
                have HN3 : Hid (¬ ((x.ah k < x.ps.x k ∧ x.ps.x k < f.cd.len) ∧ x.ps.x k ≠ x.join) → F = false) := fun h => HNo2.out (fun hh => by
                  have h1 : pb = true := by simpa using hh.2
                  rw [HPL.out, decide_eq_true_eq] at h1
                  exact h (h1 k klt))
                have HPK : Hid (∀ m, k = m + 1 → wr.cell? ⟨x.ps.b, x.ps.o + m, none⟩ = some (.int .i64 (x.ah k))) := fun m hm => by
                  subst hm
                  have := (HX.out.ps.kept HS3.out.bl).row m (by omega) 0 _ rfl
                  show _ = some (Value.int .i64 (x.ps.x m))
                  simpa using this
                have HK0 : Hid (k = 0 → x.ah k = x.at_) := fun h => by subst h; rfl
                generalize x.ah k = y at *
                generalize x.ps.x k = z at *
                by_cases l1 : z ≤ x.at_
                · have HE := hyd (HN3.out (fun h => by have := HU.out.1; have := h.1.1; omega))
                  go_wp2
                  go_ret
                  exact ⟨ret_bool HE.out.symm, HS3.out.bl⟩
                by_cases l2 : (f.cd.len : Int) ≤ z
                · have HE := hyd (HN3.out (fun h => by have := h.1.2; omega))
                  go_wp2
                  go_ret
                  exact ⟨ret_bool HE.out.symm, HS3.out.bl⟩
                by_cases l3 : z = x.join
                · have e3 : (z == x.join) = true := by simpa using l3
                  have HE := hyd (HN3.out (fun h => h.2 l3))
                  clear l3
                  go_wp2
                  go_ret
                  exact ⟨ret_bool HE.out.symm, HS3.out.bl⟩
                have e3 : (z == x.join) = false := by simpa using l3
                have HZ := hyd (show (x.at_ < z ∧ z < (f.cd.len : Int)) ∧ z ≠ x.join from ⟨⟨by omega, by omega⟩, l3⟩)
                clear l3
                rcases Nat.eq_zero_or_pos k with h0 | h0
                · have HE := hyd (HY3.out ⟨⟨by rw [HK0.out h0]; exact HZ.out.1.1, HZ.out.1.2⟩, HZ.out.2⟩)
                  have i0 : ¬ 0 < k := by omega
                  clear h0
                  go_wp2
                  go_roundw
                  case rel => exact ⟨k + 1, by omega, by go_num, HS3.out, HE.out⟩
                  case measure => simp [intOf]; omega
                · have i0 : 0 < k := h0
                  have p1 : wr.cell? ⟨x.ps.b, x.ps.o + (k - 1), none⟩ = some (.int .i64 y) := HPK.out (k - 1) (by omega)
                  by_cases l4 : z ≤ y
                  · have HE := hyd (HN3.out (fun h => by have := h.1.1; omega))
                    clear h0
                    go_wp2
                    go_ret
                    exact ⟨ret_bool HE.out.symm, HS3.out.bl⟩
                  · have HE := hyd (HY3.out ⟨⟨by omega, HZ.out.1.2⟩, HZ.out.2⟩)
                    clear h0
                    go_wp2
                    go_roundw
                    case rel => exact ⟨k + 1, by omega, by go_num, HS3.out, HE.out⟩
                    case measure => simp [intOf]; omega
              · have e2 : ¬ (k : Int) < x.ps.len := by omega
                have HP : Hid (pb = true) := by show _ = _; rw [HPL.out, decide_eq_true_eq]; intro i hi; exact HL3.out i (by omega)
                have HE := hyd (HY.out ⟨⟨HK.out, HJT.out⟩, HP.out⟩)
                go_wp2
                go_roundw
                case rel => exact ⟨j + 1, by omega, by go_num, ⟨HS3.out.bl, HS3.out.bF⟩, HE.out⟩
                case measure => simp [intOf]; omega
          have j1b : (x.join != -1) = true := by simpa using j1
          by_cases j2 : x.join ≤ x.at_
          · have HJF : Hid (jb = false) := by show _ = _; rw [HJB.out, decide_eq_false j1, decide_eq_false (show ¬ x.at_ < x.join by omega)]; rfl
            clear j1
            have HE := hyd (HNo2.out (fun h => by have := h.1.2; rw [HJF.out] at this; cases this))
            go_quiet (fail)
            have HS2 := hyd (HS.out.kept (below_drewN (Below.refl _ _) nq))
            go_wp2
            go_ret
            exact ⟨ret_bool HE.out.symm, HS2.out.bl⟩
          by_cases j3 : (f.cd.len : Int) ≤ x.join
          · have HJF : Hid (jb = false) := by show _ = _; rw [HJB.out, decide_eq_false j1, decide_eq_false (show ¬ x.join < (f.cd.len : Int) by omega), Bool.and_false]; rfl
            clear j1
            have HE := hyd (HNo2.out (fun h => by have := h.1.2; rw [HJF.out] at this; cases this))
            go_quiet (fail)
            have HS2 := hyd (HS.out.kept (below_drewN (Below.refl _ _) nq))
            go_wp2
            go_ret
            exact ⟨ret_bool HE.out.symm, HS2.out.bl⟩
          have HJT : Hid (jb = true) := by show _ = _; rw [HJB.out, decide_eq_true (show x.at_ < x.join by omega), decide_eq_true (show x.join < (f.cd.len : Int) by omega)]; simp
          clear j1
          have HK : Hid (q < x.at_ ∧ x.at_ < (f.cd.len : Int)) := ⟨k0, k1⟩
          clear k0 k1
          go_quiet (fail)
          have HS2 := hyd (HS.out.kept (below_drewN (Below.refl _ _) nq))
          clear HS c17 d0 d1 i0 k1n j1b j2 j3
          generalize u2.drewN nq = u3 at *
          go_wp2
          go_loopw [6] (fun i wr => ∃ (k : Nat), k ≤ x.ps.len ∧ i = .int .i64 k ∧ S4 w f x BH wr ∧ (∀ i, i < k → (x.ah i < x.ps.x i ∧ x.ps.x i < f.cd.len) ∧ x.ps.x i ≠ x.join)) (fun i _ => x.ps.len - (intOf i).toNat)
          case atStart => exact ⟨0, Nat.zero_le _, rfl, HS2.out, fun i hi => absurd hi (Nat.not_lt_zero _)⟩
          case round =>
            clear HS2
            obtain ⟨k, hk, rfl, hS3, hall3⟩ := hrel
            have HS3 := hyd hS3
            have HL3 := hyd hall3
            clear hS3 hall3
            have d2 := HS3.out.bR.cell 2 rfl
            have hbk := HX.out.ps.bound
            by_cases klt : k < x.ps.len
            · have ik : (k : Int) < x.ps.len := by omega
              rw [HX.out.ps.nil (by omega)] at d2
              have d0 := HS3.out.bR.cell 0 rfl
              have d1 := HS3.out.bR.cell 1 rfl
              have p0 : wr.cell? ⟨x.ps.b, x.ps.o + k, none⟩ = some (.int .i64 (x.ps.x k)) := by have := (HX.out.ps.kept HS3.out.bl).row k klt 0 _ rfl; simpa using this
              have HU := hyd (Rn.up_all (x := x) (k := k) (fun i hi => (HL3.out i hi).1.1))
              have HY3 := hyd (all_step14 (P := fun i => (x.ah i < x.ps.x i ∧ x.ps.x i < f.cd.len) ∧ x.ps.x i ≠ x.join) HL3.out)
              have HN3 : Hid (¬ ((x.ah k < x.ps.x k ∧ x.ps.x k < f.cd.len) ∧ x.ps.x k ≠ x.join) → F = false) := fun h => HNo2.out (fun hh => by
                have h1 : pb = true := by simpa using hh.2
                rw [HPL.out, decide_eq_true_eq] at h1
                exact h (h1 k klt))
              have HPK : Hid (∀ m, k = m + 1 → wr.cell? ⟨x.ps.b, x.ps.o + m, none⟩ = some (.int .i64 (x.ah k))) := fun m hm => by
                subst hm
                have := (HX.out.ps.kept HS3.out.bl).row m (by omega) 0 _ rfl
                show _ = some (Value.int .i64 (x.ps.x m))
                simpa using this
              have HK0 : Hid (k = 0 → x.ah k = x.at_) := fun h => by subst h; rfl
              generalize x.ah k = y at *
              generalize x.ps.x k = z at *
              by_cases l1 : z ≤ x.at_
              · have HE := hyd (HN3.out (fun h => by have := HU.out.1; have := h.1.1; omega))
                go_wp2
                go_ret
                exact ⟨ret_bool HE.out.symm, HS3.out.bl⟩
              by_cases l2 : (f.cd.len : Int) ≤ z
              · have HE := hyd (HN3.out (fun h => by have := h.1.2; omega))
                go_wp2
                go_ret
                exact ⟨ret_bool HE.out.symm, HS3.out.bl⟩
              by_cases l3 : z = x.join
              · have e3 : (z == x.join) = true := by simpa using l3
                have HE := hyd (HN3.out (fun h => h.2 l3))
                clear l3
                go_wp2
                go_ret
                exact ⟨ret_bool HE.out.symm, HS3.out.bl⟩
              have e3 : (z == x.join) = false := by simpa using l3
              have HZ := hyd (show (x.at_ < z ∧ z < (f.cd.len : Int)) ∧ z ≠ x.join from ⟨⟨by omega, by omega⟩, l3⟩)
              clear l3
              rcases Nat.eq_zero_or_pos k with h0 | h0
              · have HE := hyd (HY3.out ⟨⟨by rw [HK0.out h0]; exact HZ.out.1.1, HZ.out.1.2⟩, HZ.out.2⟩)
                have i0 : ¬ 0 < k := by omega
                clear h0
                go_wp2
                go_roundw
                case rel => exact ⟨k + 1, by omega, by go_num, HS3.out, HE.out⟩
                case measure => simp [intOf]; omega
              · have i0 : 0 < k := h0
                have p1 : wr.cell? ⟨x.ps.b, x.ps.o + (k - 1), none⟩ = some (.int .i64 y) := HPK.out (k - 1) (by omega)
                by_cases l4 : z ≤ y
                · have HE := hyd (HN3.out (fun h => by have := h.1.1; omega))
                  clear h0
                  go_wp2
                  go_ret
                  exact ⟨ret_bool HE.out.symm, HS3.out.bl⟩
                · have HE := hyd (HY3.out ⟨⟨by omega, HZ.out.1.2⟩, HZ.out.2⟩)
                  clear h0
                  go_wp2
                  go_roundw
                  case rel => exact ⟨k + 1, by omega, by go_num, HS3.out, HE.out⟩
                  case measure => simp [intOf]; omega
            · have e2 : ¬ (k : Int) < x.ps.len := by omega
              have HP : Hid (pb = true) := by show _ = _; rw [HPL.out, decide_eq_true_eq]; intro i hi; exact HL3.out i (by omega)
              have HE := hyd (HY.out ⟨⟨HK.out, HJT.out⟩, HP.out⟩)
              go_wp2
              go_roundw
              case rel => exact ⟨j + 1, by omega, by go_num, ⟨HS3.out.bl, HS3.out.bF⟩, HE.out⟩
              case measure => simp [intOf]; omega
        · have i0 : 0 < j := h0
          have p1 : u2.cell? ⟨f.rg.b, f.rg.o + (j - 1) * 3, none⟩ = some (.int .i64 q) := HPV.out (j - 1) (by omega) u2 HS.out.bl
          clear h0
          by_cases k0n : x.at_ ≤ q
          · clear k1
            have HE := hyd (HNo2.out (fun h => by have := h.1.1.1; omega))
            go_quiet (fail)
            have HS2 := hyd (HS.out.kept (below_drewN (Below.refl _ _) nq))
            go_wp2
            go_ret
            exact ⟨ret_bool HE.out.symm, HS2.out.bl⟩
          have k0 : q < x.at_ := by omega
          by_cases j1 : x.join = -1
          · have j1b : (x.join != -1) = false := by simp [j1]
            have HJT : Hid (jb = true) := by show _ = _; rw [HJB.out, decide_eq_true j1]; rfl
            clear j1
            have HK : Hid (q < x.at_ ∧ x.at_ < (f.cd.len : Int)) := ⟨k0, k1⟩
            clear k0 k1
            go_quiet (fail)
            have HS2 := hyd (HS.out.kept (below_drewN (Below.refl _ _) nq))
            clear HS c17 d0 d1 i0 k1n k0n p1 j1b
            generalize u2.drewN nq = u3 at *
            go_wp2
            go_loopw [6] (fun i wr => ∃ (k : Nat), k ≤ x.ps.len ∧ i = .int .i64 k ∧ S4 w f x BH wr ∧ (∀ i, i < k → (x.ah i < x.ps.x i ∧ x.ps.x i < f.cd.len) ∧ x.ps.x i ≠ x.join)) (fun i _ => x.ps.len - (intOf i).toNat)
            case atStart => exact ⟨0, Nat.zero_le _, rfl, HS2.out, fun i hi => absurd hi (Nat.not_lt_zero _)⟩
            case round =>
              clear HS2
              obtain ⟨k, hk, rfl, hS3, hall3⟩ := hrel
              have HS3 := hyd hS3
              have HL3 := hyd hall3
              clear hS3 hall3
              have d2 := HS3.out.bR.cell 2 rfl
              have hbk := HX.out.ps.bound
              by_cases klt : k < x.ps.len
              · have ik : (k : Int) < x.ps.len := by omega
                rw [HX.out.ps.nil (by omega)] at d2
                have d0 := HS3.out.bR.cell 0 rfl
                have d1 := HS3.out.bR.cell 1 rfl
                have p0 : wr.cell? ⟨x.ps.b, x.ps.o + k, none⟩ = some (.int .i64 (x.ps.x k)) := by have := (HX.out.ps.kept HS3.out.bl).row k klt 0 _ rfl; simpa using this
                have HU := hyd (Rn.up_all (x := x) (k := k) (fun i hi => (HL3.out i hi).1.1))
                have HY3 := hyd (all_step14 (P := fun i => (x.ah i < x.ps.x i ∧ x.ps.x i < f.cd.len) ∧ x.ps.x i ≠ x.join) HL3.out)
                have HN3 : Hid (¬ ((x.ah k < x.ps.x k ∧ x.ps.x k < f.cd.len) ∧ x.ps.x k ≠ x.join) → F = false) := fun h => HNo2.out (fun hh => by
                  have h1 : pb = true := by simpa using hh.2
                  rw [HPL.out, decide_eq_true_eq] at h1
                  exact h (h1 k klt))
                have HPK : Hid (∀ m, k = m + 1 → wr.cell? ⟨x.ps.b, x.ps.o + m, none⟩ = some (.int .i64 (x.ah k))) := fun m hm => by
                  subst hm
                  have := (HX.out.ps.kept HS3.out.bl).row m (by omega) 0 _ rfl
                  show _ = some (Value.int .i64 (x.ps.x m))
                  simpa using this
                have HK0 : Hid (k = 0 → x.ah k = x.at_) := fun h => by subst h; rfl
                generalize x.ah k = y at *
                generalize x.ps.x k = z at *
                by_cases l1 : z ≤ x.at_
                · have HE := hyd (HN3.out (fun h => by have := HU.out.1; have := h.1.1; omega))
                  go_wp2
                  go_ret
                  exact ⟨ret_bool HE.out.symm, HS3.out.bl⟩
                by_cases l2 : (f.cd.len : Int) ≤ z
                · have HE := hyd (HN3.out (fun h => by have := h.1.2; omega))
                  go_wp2
                  go_ret
                  exact ⟨ret_bool HE.out.symm, HS3.out.bl⟩
                by_cases l3 : z = x.join
                · have e3 : (z == x.join) = true := by simpa using l3
                  have HE := hyd (HN3.out (fun h => h.2 l3))
                  clear l3
                  go_wp2
                  go_ret
                  exact ⟨ret_bool HE.out.symm, HS3.out.bl⟩
                have e3 : (z == x.join) = false := by simpa using l3
                have HZ := hyd (show (x.at_ < z ∧ z < (f.cd.len : Int)) ∧ z ≠ x.join from ⟨⟨by omega, by omega⟩, l3⟩)
                clear l3
                rcases Nat.eq_zero_or_pos k with h0 | h0
                · have HE := hyd (HY3.out ⟨⟨by rw [HK0.out h0]; exact HZ.out.1.1, HZ.out.1.2⟩, HZ.out.2⟩)
                  have i0 : ¬ 0 < k := by omega
                  clear h0
                  go_wp2
                  go_roundw
                  case rel => exact ⟨k + 1, by omega, by go_num, HS3.out, HE.out⟩
                  case measure => simp [intOf]; omega
                · have i0 : 0 < k := h0
                  have p1 : wr.cell? ⟨x.ps.b, x.ps.o + (k - 1), none⟩ = some (.int .i64 y) := HPK.out (k - 1) (by omega)
                  by_cases l4 : z ≤ y
                  · have HE := hyd (HN3.out (fun h => by have := h.1.1; omega))
                    clear h0
                    go_wp2
                    go_ret
                    exact ⟨ret_bool HE.out.symm, HS3.out.bl⟩
                  · have HE := hyd (HY3.out ⟨⟨by omega, HZ.out.1.2⟩, HZ.out.2⟩)
                    clear h0
                    go_wp2
                    go_roundw
                    case rel => exact ⟨k + 1, by omega, by go_num, HS3.out, HE.out⟩
                    case measure => simp [intOf]; omega
              · have e2 : ¬ (k : Int) < x.ps.len := by omega
                have HP : Hid (pb = true) := by show _ = _; rw [HPL.out, decide_eq_true_eq]; intro i hi; exact HL3.out i (by omega)
                have HE := hyd (HY.out ⟨⟨HK.out, HJT.out⟩, HP.out⟩)
                go_wp2
                go_roundw
                case rel => exact ⟨j + 1, by omega, by go_num, ⟨HS3.out.bl, HS3.out.bF⟩, HE.out⟩
                case measure => simp [intOf]; omega
          have j1b : (x.join != -1) = true := by simpa using j1
          by_cases j2 : x.join ≤ x.at_
          · have HJF : Hid (jb = false) := by show _ = _; rw [HJB.out, decide_eq_false j1, decide_eq_false (show ¬ x.at_ < x.join by omega)]; rfl
            clear j1
            have HE := hyd (HNo2.out (fun h => by have := h.1.2; rw [HJF.out] at this; cases this))
            go_quiet (fail)
            have HS2 := hyd (HS.out.kept (below_drewN (Below.refl _ _) nq))
            go_wp2
            go_ret
            exact ⟨ret_bool HE.out.symm, HS2.out.bl⟩
          by_cases j3 : (f.cd.len : Int) ≤ x.join
          · have HJF : Hid (jb = false) := by show _ = _; rw [HJB.out, decide_eq_false j1, decide_eq_false (show ¬ x.join < (f.cd.len : Int) by omega), Bool.and_false]; rfl
            clear j1
            have HE := hyd (HNo2.out (fun h => by have := h.1.2; rw [HJF.out] at this; cases this))
            go_quiet (fail)
            have HS2 := hyd (HS.out.kept (below_drewN (Below.refl _ _) nq))
            go_wp2
            go_ret
            exact ⟨ret_bool HE.out.symm, HS2.out.bl⟩
          have HJT : Hid (jb = true) := by show _ = _; rw [HJB.out, decide_eq_true (show x.at_ < x.join by omega), decide_eq_true (show x.join < (f.cd.len : Int) by omega)]; simp
          clear j1
          have HK : Hid (q < x.at_ ∧ x.at_ < (f.cd.len : Int)) := ⟨k0, k1⟩
          clear k0 k1
          go_quiet (fail)
          have HS2 := hyd (HS.out.kept (below_drewN (Below.refl _ _) nq))
          clear HS c17 d0 d1 i0 k1n k0n p1 j1b j2 j3
          generalize u2.drewN nq = u3 at *
          go_wp2
          go_loopw [6] (fun i wr => ∃ (k : Nat), k ≤ x.ps.len ∧ i = .int .i64 k ∧ S4 w f x BH wr ∧ (∀ i, i < k → (x.ah i < x.ps.x i ∧ x.ps.x i < f.cd.len) ∧ x.ps.x i ≠ x.join)) (fun i _ => x.ps.len - (intOf i).toNat)
          case atStart => exact ⟨0, Nat.zero_le _, rfl, HS2.out, fun i hi => absurd hi (Nat.not_lt_zero _)⟩
          case round =>
            clear HS2
            obtain ⟨k, hk, rfl, hS3, hall3⟩ := hrel
            have HS3 := hyd hS3
            have HL3 := hyd hall3
            clear hS3 hall3
            have d2 := HS3.out.bR.cell 2 rfl
            have hbk := HX.out.ps.bound
            by_cases klt : k < x.ps.len
            · have ik : (k : Int) < x.ps.len := by omega
              rw [HX.out.ps.nil (by omega)] at d2
              have d0 := HS3.out.bR.cell 0 rfl
              have d1 := HS3.out.bR.cell 1 rfl
              have p0 : wr.cell? ⟨x.ps.b, x.ps.o + k, none⟩ = some (.int .i64 (x.ps.x k)) := by have := (HX.out.ps.kept HS3.out.bl).row k klt 0 _ rfl; simpa using this
              have HU := hyd (Rn.up_all (x := x) (k := k) (fun i hi => (HL3.out i hi).1.1))
              have HY3 := hyd (all_step14 (P := fun i => (x.ah i < x.ps.x i ∧ x.ps.x i < f.cd.len) ∧ x.ps.x i ≠ x.join) HL3.out)
              have HN3 : Hid (¬ ((x.ah k < x.ps.x k ∧ x.ps.x k < f.cd.len) ∧ x.ps.x k ≠ x.join) → F = false) := fun h => HNo2.out (fun hh => by
                have h1 : pb = true := by simpa using hh.2
                rw [HPL.out, decide_eq_true_eq] at h1
                exact h (h1 k klt))
              have HPK : Hid (∀ m, k = m + 1 → wr.cell? ⟨x.ps.b, x.ps.o + m, none⟩ = some (.int .i64 (x.ah k))) := fun m hm => by
                subst hm
                have := (HX.out.ps.kept HS3.out.bl).row m (by omega) 0 _ rfl
                show _ = some (Value.int .i64 (x.ps.x m))
                simpa using this
              have HK0 : Hid (k = 0 → x.ah k = x.at_) := fun h => by subst h; rfl
              generalize x.ah k = y at *
              generalize x.ps.x k = z at *
              by_cases l1 : z ≤ x.at_
              · have HE := hyd (HN3.out (fun h => by have := HU.out.1; have := h.1.1; omega))
                go_wp2
                go_ret
                exact ⟨ret_bool HE.out.symm, HS3.out.bl⟩
              by_cases l2 : (f.cd.len : Int) ≤ z
              · have HE := hyd (HN3.out (fun h => by have := h.1.2; omega))
                go_wp2
                go_ret
                exact ⟨ret_bool HE.out.symm, HS3.out.bl⟩
              by_cases l3 : z = x.join
              · have e3 : (z == x.join) = true := by simpa using l3
                have HE := hyd (HN3.out (fun h => h.2 l3))
                clear l3
                go_wp2
                go_ret
                exact ⟨ret_bool HE.out.symm, HS3.out.bl⟩
              have e3 : (z == x.join) = false := by simpa using l3
              have HZ := hyd (show (x.at_ < z ∧ z < (f.cd.len : Int)) ∧ z ≠ x.join from ⟨⟨by omega, by omega⟩, l3⟩)
              clear l3
              rcases Nat.eq_zero_or_pos k with h0 | h0
              · have HE := hyd (HY3.out ⟨⟨by rw [HK0.out h0]; exact HZ.out.1.1, HZ.out.1.2⟩, HZ.out.2⟩)
                have i0 : ¬ 0 < k := by omega
                clear h0
                go_wp2
                go_roundw
                case rel => exact ⟨k + 1, by omega, by go_num, HS3.out, HE.out⟩
                case measure => simp [intOf]; omega
              · have i0 : 0 < k := h0
                have p1 : wr.cell? ⟨x.ps.b, x.ps.o + (k - 1), none⟩ = some (.int .i64 y) := HPK.out (k - 1) (by omega)
                by_cases l4 : z ≤ y
                · have HE := hyd (HN3.out (fun h => by have := h.1.1; omega))
                  clear h0
                  go_wp2
                  go_ret
                  exact ⟨ret_bool HE.out.symm, HS3.out.bl⟩
                · have HE := hyd (HY3.out ⟨⟨by omega, HZ.out.1.2⟩, HZ.out.2⟩)
                  clear h0
                  go_wp2
                  go_roundw
                  case rel => exact ⟨k + 1, by omega, by go_num, HS3.out, HE.out⟩
                  case measure => simp [intOf]; omega
            · have e2 : ¬ (k : Int) < x.ps.len := by omega
              have HP : Hid (pb = true) := by show _ = _; rw [HPL.out, decide_eq_true_eq]; intro i hi; exact HL3.out i (by omega)
              have HE := hyd (HY.out ⟨⟨HK.out, HJT.out⟩, HP.out⟩)
              go_wp2
              go_roundw
              case rel => exact ⟨j + 1, by omega, by go_num, ⟨HS3.out.bl, HS3.out.bF⟩, HE.out⟩
              case measure => simp [intOf]; omega
      · have k1n : (f.cd.len : Int) ≤ x.at_ := by omega
        clear k1
        have HE := hyd (HNo2.out (fun h => by have := h.1.1.2; omega))
        go_quiet (fail)
        have HS2 := hyd (HS.out.kept (below_drewN (Below.refl _ _) nq))
        go_wp2
        go_ret
        exact ⟨ret_bool HE.out.symm, HS2.out.bl⟩
    · have e2 : ¬ (j : Int) < f.rg.len := by omega
      have HE : Hid (F = true) := by show _ = _; rw [HA.out, decide_eq_true_eq]; intro i hi; exact HL.out i (by omega)
      go_wp2
      go_ret
      exact ⟨ret_bool HE.out.symm, HB.out.1⟩
end Go.Proofs.YtdplabhgdonbiaaDoor

/- Layer 14: the reference's Check. -/
namespace Go.Proofs.YtdplabhgdonbiaaDoor
open Go Go.RowKit

set_option maxRecDepth 100000 in
set_option maxHeartbeats 8000000 in
theorem rcheck14_any (c : Kl) (w : World) (hc : c.At w) : Calls Tryd.prog 12 #[.agg #[.slice c.n.ao c.n.len c.n.cap, .slice c.g.ao c.g.len c.g.cap, .slice c.fs.ao c.fs.len c.fs.cap]] w fun e w' => ChkR c w e w' := by
  have B0 := below_alloc w (.cells #[.slice c.n.ao c.n.len c.n.cap, .slice c.g.ao c.g.len c.g.cap, .slice c.fs.ao c.fs.len c.fs.cap] 28)
  have b := Blk.new w c.cs 28
  have c0 := b.cell 0 rfl
  have c1 := b.cell 1 rfl
  have c2 := b.cell 2 rfl
  have h0 := rFormed13_any c _ (Kl.At.kept B0 hc)
  have H0 := hyd (show Below w.heap.size w _ ∧ Blk _ w.heap.size c.cs 28 from ⟨B0, b⟩)
  have HD := hyd hc
  have hbd := hc.fs.bound
  have HNIL := hyd hc.fs.nil
  have HNo := hyd (@ChR.no c)
  have HAt := hyd (@ChR.at_ c)
  have HAll := hyd (@ChR.all c)
  have HFm : Hid (c.fm = true → ∀ i, i < c.fs.len → (c.fs.x i).fm c.n.len = true) := fun h => by
    unfold Kl.fm at h
    simp only [Bool.and_eq_true, decide_eq_true_eq] at h
    exact h.2.2
  clear B0 b hc
  generalize c.fm = F at *
  go_enter Tryd.func12, Tryd.ntmps12
  go_wp2_with fail
  refine h0.mono ?_
  rintro _ u1 ⟨rfl, hb⟩
  have H1 := hyd (show Below w.heap.size w u1 ∧ Blk u1 w.heap.size c.cs 28 from ⟨Below.next H0.out.1 hb, H0.out.2.kept hb⟩)
  clear h0 hb c0 c1 c2 H0
  cases F
  · go_wp2
    refine bodyPost_ret (results_tmp3 rfl _ _ _) rfl ?_
    exact ⟨⟨_, _, _, rfl, HNo.out (by simp)⟩, H1.out.1⟩
  go_wp2
  go_loopw [5] (fun i wr => ∃ (j : Nat), j ≤ c.fs.len ∧ i = .int .i64 j ∧ (Below w.heap.size w wr ∧ Blk wr w.heap.size c.cs 28) ∧ (∀ i, i < j → c.brk i = 0)) (fun i _ => c.fs.len - (intOf i).toNat)
  case atStart => exact ⟨0, Nat.zero_le _, rfl, H1.out, fun i hi => absurd hi (Nat.not_lt_zero _)⟩
  case round =>
    clear H1
    obtain ⟨j, hj, rfl, hBl, hall⟩ := hrel
    have HB := hyd hBl
    have HL := hyd hall
    clear hBl hall
    have c2 := HB.out.2.cell 2 rfl
    by_cases hlt : j < c.fs.len
    · as_aux_lemma =>
      have ij : (j : Int) < c.fs.len := by omega
      rw [HNIL.out (by omega)] at c2
      have r0 := range_kept (HD.out.fs.row j hlt) HB.out.1
      have HF := hyd (Cf.At.kept HB.out.1 (HD.out.fs.each j hlt))
      have HY := hyd (all_step14 (P := fun i => c.brk i = 0) HL.out)
      have HAt2 : Hid (c.brk j ≠ 0 → ChR c j (c.brk j) 11) := fun h => HAt.out (by simp) hlt h HL.out
      have HX : Hid (c.brk j = if (c.fs.x j).cntB = false then 1 else if (c.fs.x j).codB c.fs.len c.n.len = false then 2 else if (c.fs.x j).hanB = false then 3 else if (c.fs.x j).regB = false then 4 else 0) := rfl
      have HP := hyd (Cf.fm_parts (HFm.out (by simp) j hlt))
      have HPO : Hid ((c.fs.x j).cntB = true → 0 < (c.fs.x j).cd.len) := fun h => by
        unfold Cf.cntB at h
        simp only [Bool.and_eq_true, decide_eq_true_eq] at h
        exact h.1.1
      generalize c.brk j = q at *
      generalize c.fs.x j = f at *
      go_upto_region 7 with (first | (refine wpList_load_mid rfl 43 (.tmp 21) rfl c.fs.b (c.fs.o + j * 18) (by kernel_rfl) f.vs _ r0 Tryd.underlying43 rfl (by kernel_rfl) ?_) | (refine wpList_new_mid rfl rfl 43 rfl (.tmp 6) (.tmp 22) rfl z_fn (alloc_fn _) rfl f.vs.toArray (by kernel_rfl) (by kernel_rfl) rfl (by kernel_rfl) (by simpa using f.vs_one) ?_))
      have B1 := below_alloc wr (.cells f.vs.toArray 43)
      have HU1 := hyd (show Sb w c f w.heap.size wr.heap.size (wr.alloc (.cells f.vs.toArray 43)) from ⟨Below.next HB.out.1 B1, HB.out.2.kept B1, Blk.new wr _ _, Cf.At.kept B1 HF.out⟩)
      clear r0 HF HB B1 c2
      generalize wr.alloc (.cells f.vs.toArray 43) = U1 at *
      generalize wr.heap.size = BF at *
      have rF := HU1.out.bF.range
      have hc := rfirst_any f U1 HP.out.1.1
      generalize f.cntB = b1 at *
      go_wp2_with (refine wpList_load_mid rfl 43 (.tmp 6) rfl BF 0 (by kernel_rfl) f.vs _ rF Tryd.underlying43 rfl (by kernel_rfl) ?_)
      refine hc.mono ?_
      rintro _ U2 ⟨rfl, hb⟩
      have HU2 := hyd (HU1.out.kept hb)
      clear hc hb rF HU1
      cases b1
      · have HE : Hid (q = 1) := by show _ = _; rw [HX.out]; rfl
        have HE2 := hyd (HAt2.out (by rw [HE.out]; decide))
        rw [HE.out] at HE2
        go_wp2
        refine bodyPost_ret (results_tmp3 rfl _ _ _) rfl ?_
        exact ⟨⟨_, _, _, rfl, HE2.out⟩, HU2.out.bl⟩
      have d0 := HU2.out.bC.cell 0 rfl
      have d1 := HU2.out.bC.cell 1 rfl
      have d2 := HU2.out.bC.cell 2 rfl
      have rF := HU2.out.bF.range
      have hc := rsecond_any c f U2 HU2.out.f (HPO.out (by simp)) HP.out.1.2 HP.out.2.1
      generalize f.codB c.fs.len c.n.len = b2 at *
      go_wp2_with (refine wpList_load_mid rfl 43 (.tmp 6) rfl BF 0 (by kernel_rfl) f.vs _ rF Tryd.underlying43 rfl (by kernel_rfl) ?_)
      refine hc.mono ?_
      rintro _ U3 ⟨rfl, hb⟩
      have HU3 := hyd (HU2.out.kept hb)
      clear hc hb rF HU2 d0 d1 d2
      cases b2
      · have HE : Hid (q = 2) := by show _ = _; rw [HX.out]; rfl
        have HE2 := hyd (HAt2.out (by rw [HE.out]; decide))
        rw [HE.out] at HE2
        go_wp2
        refine bodyPost_ret (results_tmp3 rfl _ _ _) rfl ?_
        exact ⟨⟨_, _, _, rfl, HE2.out⟩, HU3.out.bl⟩
      have rF := HU3.out.bF.range
      have hc := rthird_any f U3 HU3.out.f
      generalize f.hanB = b3 at *
      go_wp2_with (refine wpList_load_mid rfl 43 (.tmp 6) rfl BF 0 (by kernel_rfl) f.vs _ rF Tryd.underlying43 rfl (by kernel_rfl) ?_)
      refine hc.mono ?_
      rintro _ U4 ⟨rfl, hb⟩
      have HU4 := hyd (HU3.out.kept hb)
      clear hc hb rF HU3
      cases b3
      · have HE : Hid (q = 3) := by show _ = _; rw [HX.out]; rfl
        have HE2 := hyd (HAt2.out (by rw [HE.out]; decide))
        rw [HE.out] at HE2
        go_wp2
        refine bodyPost_ret (results_tmp3 rfl _ _ _) rfl ?_
        exact ⟨⟨_, _, _, rfl, HE2.out⟩, HU4.out.bl⟩
      have rF := HU4.out.bF.range
      have hc := rfourth_any f U4 HU4.out.f HP.out.2.2
      generalize f.regB = b4 at *
      go_wp2_with (refine wpList_load_mid rfl 43 (.tmp 6) rfl BF 0 (by kernel_rfl) f.vs _ rF Tryd.underlying43 rfl (by kernel_rfl) ?_)
      refine hc.mono ?_
      rintro _ U5 ⟨rfl, hb⟩
      have HU5 := hyd (HU4.out.kept hb)
      clear hc hb rF HU4
      cases b4
      · have HE : Hid (q = 4) := by show _ = _; rw [HX.out]; rfl
        have HE2 := hyd (HAt2.out (by rw [HE.out]; decide))
        rw [HE.out] at HE2
        go_wp2
        refine bodyPost_ret (results_tmp3 rfl _ _ _) rfl ?_
        exact ⟨⟨_, _, _, rfl, HE2.out⟩, HU5.out.bl⟩
      have HE : Hid (q = 0) := by show _ = _; rw [HX.out]; rfl
      have HE2 := hyd (HY.out HE.out)
      go_wp2
      go_roundw
      case rel => exact ⟨j + 1, by omega, by go_num, ⟨HU5.out.bl, HU5.out.bC⟩, HE2.out⟩
      case measure => simp [intOf]; omega
    · have e2 : ¬ (j : Int) < c.fs.len := by omega
      have HE := hyd (HAll.out (by simp) (fun i hi => HL.out i (by omega)))
      go_wp2
      refine bodyPost_ret (results_tmp3 rfl _ _ _) rfl ?_
      exact ⟨⟨_, _, _, rfl, HE.out⟩, HB.out.1⟩
end Go.Proofs.YtdplabhgdonbiaaDoor

/- Layers 13 to 15: the lattice of one label, as the statements make it. -/
namespace Go.Proofs.YtdplabhgdonbiaaDoor
open Go Go.RowKit

def litS : Nat → ByteArray := fun _ => ⟨#[108, 111, 119]⟩
def litN (b : Nat) : Strs := ⟨some ⟨b, 0, none⟩, b, 0, 1, 1, litS⟩
def litP : Prs := ⟨none, 0, 0, 0, 0, fun _ => 0, fun _ => 0⟩
theorem lit_e (b : Nat) : makeE (litN b) litP = 0 := by kernel_rfl
def litW (w : World) : World := w.alloc (.cells #[.string ⟨#[108, 111, 119]⟩] 9)
theorem litW_below (w : World) : Below w.heap.size w (litW w) := below_alloc _ _
theorem litN_at (w : World) : (litN w.heap.size).At (litW w) := by
  refine ⟨Nat.le_refl _, fun _ => rfl, by show (1 : Nat) ≤ _; omega, fun i hi => ?_, fun i hi => ?_⟩
  · match i, hi with
    | 0, _ => simp [litW, litN, litS]
  · show (3 : Nat) ≤ _; omega
theorem litP_at (w : World) : litP.At w := ⟨Nat.le_refl _, fun h => absurd h (Nat.lt_irrefl _), Nat.zero_le _, fun _ h => absurd h (Nat.not_lt_zero _), fun _ h => absurd h (Nat.not_lt_zero _)⟩
/-- The lattice of one. -/
structure Lt1 (n : Strs) (g : Grid) (w : World) : Prop where
  nat : n.At w
  gat : g.At w
  fd : formedB n g = true
  one : n.len = 1
  nm : n.s 0 = ⟨#[108, 111, 119]⟩
  le : g.B 0 0 = true
  rows : ∀ r, r < g.len → g.A r ≠ none
theorem one_make (w : World) :
    Calls Tryd.prog 27 #[.slice (some ⟨w.heap.size, 0, none⟩) 1 1, .slice none 0 0] (w.alloc (.cells #[.string ⟨#[108, 111, 119]⟩] 9))
      fun e w' => ∃ (n : Strs) (g : Grid), e = .returned (.tuple #[.agg #[.slice n.ao n.len n.cap, .slice g.ao g.len g.cap], .int .i64 0]) ∧ Lt1 n g w' ∧ Below w.heap.size w w' := by
  refine (rmake_any (litN w.heap.size) litP (litW w) (litN_at w) (litP_at _) (Or.inr rfl)).mono ?_
  rintro e w1 ⟨er, n', g', rfl, hM, hb1⟩
  have h0 : er = 0 := hM.er.trans (lit_e _)
  subst h0
  obtain ⟨h1, h2, ao, gg, cap, R, rfl⟩ := hM.yes rfl
  refine ⟨n', _, rfl, ⟨hM.nat, hM.gat, ?_, h1, by rw [h2]; rfl, ?_, fun r _ => by simp [gridR]⟩, (litW_below w).trans (hb1.mono (litW_below w).size)⟩
  · rw [formed_gen h1 h2]
    have he := lit_e w.heap.size
    unfold makeE at he
    split at he
    · cases he
    · split at he
      · cases he
      · split at he
        · cases he
        · rename_i h; simpa using h
  · show leastM litP 1 0 0 = true
    kernel_rfl
def nilRw {α : Type} (x : α) : Rw α := ⟨none, 0, 0, 0, 0, fun _ => x⟩
theorem nilRw_at {α : Type} (x : α) (z : Nat) (vs : α → List Value) (A : World → α → Prop) (w : World) : Rw.At z vs A w (nilRw x) := ⟨fun h => absurd h (Nat.lt_irrefl _), Nat.zero_le _, fun _ h => absurd h (Nat.not_lt_zero _), fun _ h => absurd h (Nat.not_lt_zero _)⟩
end Go.Proofs.YtdplabhgdonbiaaDoor
