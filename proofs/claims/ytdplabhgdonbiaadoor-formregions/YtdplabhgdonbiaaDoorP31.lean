/- Layer 14: the statement FormRegions, walked. -/
import Derived.Test.YtdplabhgdonbiaaDoorP30
import Derived.BigQuiet
namespace Go.Proofs.YtdplabhgdonbiaaDoor
open Go Go.RowKit

structure Fh (w : World) (c : Kl) (r : Rn) (D : Nat) (v : Value) (u : World) : Prop where
  fg : Fg w c r u
  bD : Blk u D [.slice c.n.ao c.n.len c.n.cap, .slice c.g.ao c.g.len c.g.cap, v] 28
  ge : w.heap.size + 1 < D
theorem Fh.grown {w : World} {c : Kl} {r : Rn} {D : Nat} {v : Value} {u u' : World} {q : Option Nat} (h : Fh w c r D v u) (hg : u.grownBy u' q) (hr : ∀ k, q = some k → D < k) : Fh w c r D v u' :=
  ⟨⟨gb_bel h.fg.bl hg (fun k hk => by have := hr k hk; have := h.ge; omega), gb_blk14 h.fg.bC hg (fun e => by have := hr _ e.symm; have := h.ge; omega), gb_blk14 h.fg.bR hg (fun e => by have := hr _ e.symm; have := h.ge; omega)⟩, gb_blk14 h.bD hg (fun e => by have := hr _ e.symm; omega), h.ge⟩
theorem Fh.set {w : World} {c : Kl} {r : Rn} {D : Nat} {v : Value} {u : World} (h : Fh w c r D v u) (v' : Value) : Fh w c r D v' (u.setCell ⟨D, 2, none⟩ v') ∧ ∀ b, b ≠ D → (u.setCell ⟨D, 2, none⟩ v').heap[b]? = u.heap[b]? := by
  have W := wrote_cell (i := 2) h.bD v'
  have hge := h.ge
  exact ⟨⟨⟨W.below (by omega) h.fg.bl, W.keep h.fg.bC (by omega), W.keep h.fg.bR (by omega)⟩, W.blk, h.ge⟩, W.other⟩
theorem Fg.new (w : World) (c : Kl) (r : Rn) : Fg w c r ((w.alloc (.cells #[.slice c.n.ao c.n.len c.n.cap, .slice c.g.ao c.g.len c.g.cap, .slice c.fs.ao c.fs.len c.fs.cap] 28)).alloc (.cells #[.int .i64 r.at_, .int .i64 r.join, .slice r.ps.ao r.ps.len r.ps.cap] 58)) := by
  have B0 := below_alloc w (.cells #[.slice c.n.ao c.n.len c.n.cap, .slice c.g.ao c.g.len c.g.cap, .slice c.fs.ao c.fs.len c.fs.cap] 28)
  have b0 := Blk.new w c.cs 28
  have B1 := below_alloc (w.alloc (.cells #[.slice c.n.ao c.n.len c.n.cap, .slice c.g.ao c.g.len c.g.cap, .slice c.fs.ao c.fs.len c.fs.cap] 28)) (.cells #[.int .i64 r.at_, .int .i64 r.join, .slice r.ps.ao r.ps.len r.ps.cap] 58)
  have b1 := Blk.new (w.alloc (.cells #[.slice c.n.ao c.n.len c.n.cap, .slice c.g.ao c.g.len c.g.cap, .slice c.fs.ao c.fs.len c.fs.cap] 28)) r.vs 58
  rw [alloc_size] at b1
  exact ⟨Below.next B0 B1, b0.kept B1, b1⟩

set_option maxRecDepth 100000 in
set_option maxHeartbeats 32000000 in
theorem formRegions_any (c : Kl) (r : Rn) (w : World) (hc : c.At w) (hr : r.At w) (hnc : c.fs.ao = none → c.fs.len = 0 ∧ c.fs.cap = 0) (hO : Og w) : Calls Tryd.prog 8 #[.agg #[.slice c.n.ao c.n.len c.n.cap, .slice c.g.ao c.g.len c.g.cap, .slice c.fs.ao c.fs.len c.fs.cap], .agg #[.int .i64 r.at_, .int .i64 r.join, .slice r.ps.ao r.ps.len r.ps.cap]] w fun e w' => e = .returned (.bool true) ∧ Below w.heap.size w w' := by
  have H0 := hyd (Fg.new w c r)
  have HD := hyd (show c.At w ∧ Og w ∧ r.At w from ⟨hc, hO, hr⟩)
  have HNN := hyd hnc
  have hbd := hr.ps.bound
  have HNP := hyd hr.ps.nil
  have hbf := hc.fs.bound
  have h0 := awake14_any _ (hO.kept H0.out.bl)
  have hs := alloc_size w (.cells #[.slice c.n.ao c.n.len c.n.cap, .slice c.g.ao c.g.len c.g.cap, .slice c.fs.ao c.fs.len c.fs.cap] 28)
  clear hc hO hr hnc
  generalize hw0 : w.alloc (.cells #[.slice c.n.ao c.n.len c.n.cap, .slice c.g.ao c.g.len c.g.cap, .slice c.fs.ao c.fs.len c.fs.cap] 28) = u00 at *
  generalize hw1 : u00.alloc (.cells #[.int .i64 r.at_, .int .i64 r.join, .slice r.ps.ao r.ps.len r.ps.cap] 58) = u01 at *
  go_enter Tryd.func8, Tryd.ntmps8
  go_wp2_with fail
  refine h0.mono ?_
  rintro _ u1 ⟨rfl, hb⟩
  have H1 := hyd (H0.out.kept hb)
  clear h0 hb H0 hw0 hw1 hs
  have c0 := H1.out.bC.cell 0 rfl
  have c1 := H1.out.bC.cell 1 rfl
  have c2 := H1.out.bC.cell 2 rfl
  have h0 := rFew_any c 1500 u1 (Kl.At.kept H1.out.bl HD.out.1)
  go_wp2_with fail
  refine h0.mono ?_
  rintro e u2 ⟨⟨bb, rfl, hl1⟩, hb⟩
  have H2 := hyd (H1.out.kept hb)
  have HL1 := hyd hl1
  clear h0 hb H1 c0 c1 c2 hl1
  cases bb
  · have h0 := awake14_any u2 (HD.out.2.1.kept H2.out.bl)
    go_wp2_with fail
    refine h0.mono ?_
    rintro _ u3 ⟨rfl, hb⟩
    have H3 := hyd (Below.next H2.out.bl hb)
    clear h0 hb
    go_wp2
    go_ret
    exact ⟨rfl, H3.out⟩
  have r2 := H2.out.bR.cell 2 rfl
  by_cases l1 : (500 : Int) < r.ps.len
  · have h0 := awake14_any u2 (HD.out.2.1.kept H2.out.bl)
    go_wp2_with fail
    refine h0.mono ?_
    rintro _ u3 ⟨rfl, hb⟩
    have H3 := hyd (Below.next H2.out.bl hb)
    clear h0 hb
    go_wp2
    go_ret
    exact ⟨rfl, H3.out⟩
  have c2 := H2.out.bC.cell 2 rfl
  by_cases l2 : c.fs.len = 0
  · have e2 : ((c.fs.len : Int) == 0) = true := by simpa using l2
    clear l2
    have h0 := awake14_any u2 (HD.out.2.1.kept H2.out.bl)
    go_wp2_with fail
    refine h0.mono ?_
    rintro _ u3 ⟨rfl, hb⟩
    have H3 := hyd (Below.next H2.out.bl hb)
    clear h0 hb
    go_wp2
    go_ret
    exact ⟨rfl, H3.out⟩
  have e2 : ((c.fs.len : Int) == 0) = false := by simpa using l2
  have HLN := hyd (show (c.fs.len ≤ 70 ∧ 0 < c.fs.len) ∧ r.ps.len ≤ 500 from ⟨⟨HL1.out (by simp), by omega⟩, by omega⟩)
  clear HL1 l2
  have c0 := H2.out.bC.cell 0 rfl
  have c1 := H2.out.bC.cell 1 rfl
  have h0 := check14_any c u2 (Kl.At.kept H2.out.bl HD.out.1) (HD.out.2.1.kept H2.out.bl)
  go_wp2_with fail
  refine h0.mono ?_
  rintro e u4 ⟨⟨k, q, er, rfl, hR⟩, hb⟩
  have H4 := hyd (H2.out.kept hb)
  have HR := hyd hR
  clear h0 hb hR H2 c0 c1 c2 r2 l1 e2
  by_cases he : er = 0
  case neg =>
    have e1 : (er != 0) = true := by simpa using he
    clear he
    go_wp2
    go_ret
    exact ⟨rfl, H4.out.bl⟩
  subst he
  have c0 := H4.out.bC.cell 0 rfl
  have c1 := H4.out.bC.cell 1 rfl
  have c2 := H4.out.bC.cell 2 rfl
  have HF4 := hyd (show Fh w c r u4.heap.size (.slice c.fs.ao c.fs.len c.fs.cap) (u4.alloc (.cells #[.slice c.n.ao c.n.len c.n.cap, .slice c.g.ao c.g.len c.g.cap, .slice c.fs.ao c.fs.len c.fs.cap] 28)) from ⟨H4.out.kept (below_alloc _ _), Blk.new u4 [.slice c.n.ao c.n.len c.n.cap, .slice c.g.ao c.g.len c.g.cap, .slice c.fs.ao c.fs.len c.fs.cap] 28, H4.out.bR.lt⟩)
  go_upto_region 7 with fail
  clear c0 c1 c2
  have c2 := HF4.out.bD.cell 2 rfl
  have g2 := HF4.out.bD.frozen 2
  have HF5 := hyd (HF4.out.set (.slice none 0 0)).1
  generalize u4.alloc (.cells #[.slice c.n.ao c.n.len c.n.cap, .slice c.g.ao c.g.len c.g.cap, .slice c.fs.ao c.fs.len c.fs.cap] 28) = u5 at *
  generalize u4.heap.size = D at *
  go_upto_region 8 with fail
  clear c2 g2 HF4 H4
  generalize u5.setCell ⟨D, 2, none⟩ (.slice none 0 0) = u6 at *
  have c2 := HF5.out.fg.bC.cell 2 rfl
  have d2 := HF5.out.bD.cell 2 rfl
  have hE := World.ownsRow_nil u6 u6.heap.size 43 18
  go_upto_region 9 with ((at_builtin; refine wpList_append_any Tryd.underlying26 Tryd.infoFn14 rfl (by decide) rfl _ _ rfl u6.heap.size (.slice none 0 0) 0 [] rfl hE c.fs.ao c.fs.len c.fs.cap (rowR Cf.vs c.fs) rfl HNN.out (rowR_len Cf.vs_len c.fs) (rowR_cell Cf.vs_len (by decide) (HD.out.1.fs.kept HF5.out.fg.bl)) (rowR_one Cf.vs_one c.fs) (by have := HLN.out.1.1; unfold maxLen; omega) (by have := HLN.out.1.1; omega) (Nat.le_refl _) ?_; intro v7 w5 h5 g5; have HO5 : Hid (w5.ownsRow u6.heap.size 43 18 v7 c.fs.len (rowR Cf.vs c.fs) ∧ Fh w c r D (.slice none 0 0) w5) := ⟨by rw [Nat.zero_add] at h5; exact h5, HF5.out.grown g5 (fun k hk => by cases hk)⟩; obtain ⟨a7, c7, hv7⟩ := owform HO5.out.1; subst hv7; clear h5 g5 d2; have d2 := HO5.out.2.bD.cell 2 rfl; have g2 := HO5.out.2.bD.frozen 2))
  have HLT := hyd HF5.out.bD.lt
  have HF6 := hyd (show Fh w c r D (.slice a7 c.fs.len c7) _ ∧ (w5.setCell ⟨D, 2, none⟩ (.slice a7 c.fs.len c7)).ownsRow u6.heap.size 43 18 (.slice a7 c.fs.len c7) c.fs.len (rowR Cf.vs c.fs) from ⟨(HO5.out.2.set _).1, own_same HO5.out.1 (fun b hb => (HO5.out.2.set _).2 b (fun e => by have := (owb HO5.out.1 hb).1; have := HLT.out; omega))⟩)
  clear d2 g2 c2 hE HO5
  generalize w5.setCell ⟨D, 2, none⟩ (.slice a7 c.fs.len c7) = u7 at *
  have HA7 : Hid (∃ gg, a7 = some ⟨gg, 0, none⟩) := by
    obtain ⟨_, ⟨h1, h2⟩ | ⟨gg, cap, cur, h1, _⟩⟩ := HF6.out.2
    · have := HLN.out.1.2; omega
    · injection h1 with h1
      exact ⟨gg, h1⟩
  obtain ⟨gg, rfl⟩ := HA7.out
  clear HA7
  have HMK := hyd (Fq.make HF6.out.1.fg HF6.out.1.ge HLT.out HF6.out.1.bD HF6.out.2 HLN.out.1.2)
  obtain ⟨vx, hvx⟩ := HMK.out.1
  have gvx := HMK.out.2.1
  have d2 := HF6.out.1.bD.cell 2 rfl
  have r0 := HF6.out.1.fg.bR.cell 0 rfl
  have r1 := HF6.out.1.fg.bR.cell 1 rfl
  have r2 := HF6.out.1.fg.bR.cell 2 rfl
  have i0 : (0 : Int) < c.fs.len := by have := HLN.out.1.2; omega
  have HQ : Hid (Fq w c r D gg c7 u7.heap.size ((u7.alloc (.cells #[.int .i64 r.at_, .int .i64 r.join, .slice r.ps.ao r.ps.len r.ps.cap] 58)).setCell ⟨gg, 17, none⟩ (.slice (some ⟨u7.heap.size, 0, none⟩) 1 1))) := HMK.out.2.2
  have hvx2 : (u7.alloc (.cells #[.int .i64 r.at_, .int .i64 r.join, .slice r.ps.ao r.ps.len r.ps.cap] 58)).cell? ⟨gg, 17, none⟩ = some vx := hvx
  have gvx2 : (u7.alloc (.cells #[.int .i64 r.at_, .int .i64 r.join, .slice r.ps.ao r.ps.len r.ps.cap] 58)).frozen? ⟨gg, 17, none⟩ = false := gvx
  clear hvx gvx HMK
  go_upto_region 10 with fail
  clear hvx2 gvx2 d2 r0 r1 r2 HF6
  generalize (u7.alloc (.cells #[.int .i64 r.at_, .int .i64 r.join, .slice r.ps.ao r.ps.len r.ps.cap] 58)).setCell ⟨gg, 17, none⟩ (.slice (some ⟨u7.heap.size, 0, none⟩) 1 1) = u9 at *
  generalize u7.heap.size = RB at *
  have c2 := HQ.out.fg.bC.cell 2 rfl
  rw [HD.out.1.fs.nil HLN.out.1.2] at c2
  have q14 : u9.cell? ⟨c.fs.b, c.fs.o + 14, none⟩ = some (.slice (c.fs.x 0).cd.ao (c.fs.x 0).cd.len (c.fs.x 0).cd.cap) := by
    have := (HD.out.1.fs.kept HQ.out.fg.bl).row 0 HLN.out.1.2 14 _ rfl
    simpa using this
  have HN := hyd (show ∀ k' q' e', ChR (Fq.d c r gg c7 RB) k' q' e' → (r.right (c.fs.x 0).cd.len r.ps.len = true ∧ e' = 0) ∨ (r.right (c.fs.x 0).cd.len r.ps.len = false ∧ (e' = 9 ∨ (e' = 11 ∧ q' = 4))) from fun k' q' e' h' => regions_math (c := c) (d := Fq.d c r gg c7 RB) (R := RB) (r := r) rfl rfl rfl rfl HLN.out.1.2 HLN.out.2 HR.out rfl h')
  generalize (c.fs.x 0).cd.len = n at *
  go_upto_region 11 with fail
  clear c2 q14 HR
  go_cut [10] (fun x wx => ∃ b : Bool, x = .bool b ∧ Hid (b = r.head n) ∧ Hid (Fq w c r D gg c7 RB wx))
  case first =>
    have r0 := HQ.out.fg.bR.cell 0 rfl
    have r1 := HQ.out.fg.bR.cell 1 rfl
    have HH : Hid (r.head n = ((decide (0 ≤ r.at_) && decide (r.at_ < n)) && (decide (r.join = -1) || (decide (r.at_ < r.join) && decide (r.join < n))))) := rfl
    generalize r.head n = hd at *
    by_cases k1 : 0 ≤ r.at_
    · by_cases k2 : r.at_ < (n : Int)
      · by_cases k3 : r.join = -1
        · have e3 : (r.join == -1) = true := by simpa using k3
          have HE : Hid (true = hd) := by show _ = _; rw [HH.out, decide_eq_true k1, decide_eq_true k2, decide_eq_true k3]; rfl
          clear k3
          go_wp2
          go_meet
          case rel => exact ⟨_, rfl, HE, HQ⟩
        have e3 : (r.join == -1) = false := by simpa using k3
        by_cases k4 : r.at_ < r.join
        · by_cases k5 : r.join < (n : Int)
          · have HE : Hid (true = hd) := by show _ = _; rw [HH.out, decide_eq_true k1, decide_eq_true k2, decide_eq_true k4, decide_eq_true k5]; simp
            clear k3
            go_wp2
            go_meet
            case rel => exact ⟨_, rfl, HE, HQ⟩
          · have HE : Hid (false = hd) := by show _ = _; rw [HH.out, decide_eq_false k3, decide_eq_false k5]; simp
            clear k3
            go_wp2
            go_meet
            case rel => exact ⟨_, rfl, HE, HQ⟩
        · have HE : Hid (false = hd) := by show _ = _; rw [HH.out, decide_eq_false k3, decide_eq_false k4]; simp
          clear k3
          go_wp2
          go_meet
          case rel => exact ⟨_, rfl, HE, HQ⟩
      · have HE : Hid (false = hd) := by show _ = _; rw [HH.out, decide_eq_false k2]; simp
        go_wp2
        go_meet
        case rel => exact ⟨_, rfl, HE, HQ⟩
    · have HE : Hid (false = hd) := by show _ = _; rw [HH.out, decide_eq_false k1]; simp
      go_wp2
      go_meet
      case rel => exact ⟨_, rfl, HE, HQ⟩
  case rest =>
    obtain ⟨b0, rfl, hb0, hQ0⟩ := hcut
    clear HQ
    have HB0 : Hid (b0 = r.right n 0) := by show _ = _; rw [hb0.out]; unfold Rn.right; rw [decide_eq_true (fun i hi => absurd hi (Nat.not_lt_zero _)), Bool.and_true]
    have HQ := hyd hQ0.out
    clear hb0 hQ0
    go_wp2
    go_loopw [10, 11] (fun x i wr => ∃ (b : Bool) (j : Nat), x = .bool b ∧ j ≤ r.ps.len ∧ i = .int .i64 j ∧ Fq w c r D gg c7 RB wr ∧ b = r.right n j) (fun _ i _ => r.ps.len - (intOf i).toNat)
    case atStart => exact ⟨_, 0, rfl, Nat.zero_le _, rfl, HQ.out, HB0.out⟩
    case round =>
      clear HQ HB0
      obtain ⟨b, j, rfl, hj, rfl, hS, hbe⟩ := hrel
      have HQ := hyd hS
      have HBE := hyd hbe
      clear hS hbe
      have r2 := HQ.out.fg.bR.cell 2 rfl
      by_cases hlt : j < r.ps.len
      · have ij : (j : Int) < r.ps.len := by omega
        rw [HNP.out (by omega)] at r2
        have r0 := HQ.out.fg.bR.cell 0 rfl
        have r1 := HQ.out.fg.bR.cell 1 rfl
        have p0 : wr.cell? ⟨r.ps.b, r.ps.o + j, none⟩ = some (.int .i64 (r.ps.x j)) := by have := (HD.out.2.2.ps.kept HQ.out.fg.bl).row j hlt 0 _ rfl; simpa using this
        cases b
        · have HE : Hid (false = r.right n (j + 1)) := (Rn.right_false HBE.out.symm).symm
          go_upto_region 15 with fail
          go_quiet (fail)
          have HQ2 := hyd (HQ.out.kept (below_drewN (Below.refl _ _) nq))
          go_wp2
          go_roundw
          case rel => exact ⟨_, j + 1, rfl, by omega, by go_num, HQ2.out, HE.out⟩
          case measure => simp [intOf]; omega
        · have HE : Hid (r.right n (j + 1) = decide (r.pOk n j)) := Rn.right_next HBE.out.symm
          have HP : Hid (r.pOk n j ↔ ((r.at_ < r.ps.x j ∧ r.ps.x j < n) ∧ r.ps.x j ≠ r.join) ∧ (j = 0 ∨ r.ps.x (j - 1) < r.ps.x j)) := Iff.rfl
          have HPV : Hid (0 < j → wr.cell? ⟨r.ps.b, r.ps.o + (j - 1), none⟩ = some (.int .i64 (r.ps.x (j - 1)))) := fun h => by have := (HD.out.2.2.ps.kept HQ.out.fg.bl).row (j - 1) (by omega) 0 _ rfl; simpa using this
          generalize r.ps.x (j - 1) = y at *
          generalize r.ps.x j = z at *
          by_cases k1 : r.at_ < z
          case neg =>
            have HE2 : Hid (false = r.right n (j + 1)) := by show _ = _; rw [HE.out, decide_eq_false (fun h => k1 (HP.out.1 h).1.1.1)]
            go_upto_region 15 with fail
            go_quiet (fail)
            have HQ2 := hyd (HQ.out.kept (below_drewN (Below.refl _ _) nq))
            go_wp2
            go_roundw
            case rel => exact ⟨_, j + 1, rfl, by omega, by go_num, HQ2.out, HE2.out⟩
            case measure => simp [intOf]; omega
          by_cases k2 : z < (n : Int)
          case neg =>
            have HE2 : Hid (false = r.right n (j + 1)) := by show _ = _; rw [HE.out, decide_eq_false (fun h => k2 (HP.out.1 h).1.1.2)]
            go_upto_region 15 with fail
            go_quiet (fail)
            have HQ2 := hyd (HQ.out.kept (below_drewN (Below.refl _ _) nq))
            go_wp2
            go_roundw
            case rel => exact ⟨_, j + 1, rfl, by omega, by go_num, HQ2.out, HE2.out⟩
            case measure => simp [intOf]; omega
          by_cases k3 : z = r.join
          · have e3 : (z != r.join) = false := by simp [k3]
            have HE2 : Hid (false = r.right n (j + 1)) := by show _ = _; rw [HE.out, decide_eq_false (fun h => (HP.out.1 h).1.2 k3)]
            clear k3
            go_upto_region 15 with fail
            go_quiet (fail)
            have HQ2 := hyd (HQ.out.kept (below_drewN (Below.refl _ _) nq))
            go_wp2
            go_roundw
            case rel => exact ⟨_, j + 1, rfl, by omega, by go_num, HQ2.out, HE2.out⟩
            case measure => simp [intOf]; omega
          have e3 : (z != r.join) = true := by simpa using k3
          have HK3 := hyd k3
          clear k3
          by_cases k4 : j = 0
          · have e4 : ((j : Int) == 0) = true := by simpa using k4
            have HE2 : Hid (true = r.right n (j + 1)) := by show _ = _; rw [HE.out, decide_eq_true (HP.out.2 ⟨⟨⟨k1, k2⟩, HK3.out⟩, Or.inl k4⟩)]
            clear k4
            go_upto_region 15 with fail
            go_quiet (fail)
            have HQ2 := hyd (HQ.out.kept (below_drewN (Below.refl _ _) nq))
            go_wp2
            go_roundw
            case rel => exact ⟨_, j + 1, rfl, by omega, by go_num, HQ2.out, HE2.out⟩
            case measure => simp [intOf]; omega
          have e4 : ((j : Int) == 0) = false := by simpa using k4
          have jp : 0 < j := by omega
          have p1 := HPV.out jp
          by_cases k5 : y < z
          · have HE2 : Hid (true = r.right n (j + 1)) := by show _ = _; rw [HE.out, decide_eq_true (HP.out.2 ⟨⟨⟨k1, k2⟩, HK3.out⟩, Or.inr k5⟩)]
            clear k4
            go_upto_region 15 with fail
            go_quiet (fail)
            have HQ2 := hyd (HQ.out.kept (below_drewN (Below.refl _ _) nq))
            go_wp2
            go_roundw
            case rel => exact ⟨_, j + 1, rfl, by omega, by go_num, HQ2.out, HE2.out⟩
            case measure => simp [intOf]; omega
          · have HE2 : Hid (false = r.right n (j + 1)) := by
              show _ = _
              rw [HE.out, decide_eq_false (fun h => by
                rcases (HP.out.1 h).2 with h5 | h5
                · omega
                · exact k5 h5)]
            clear k4
            go_upto_region 15 with fail
            go_quiet (fail)
            have HQ2 := hyd (HQ.out.kept (below_drewN (Below.refl _ _) nq))
            go_wp2
            go_roundw
            case rel => exact ⟨_, j + 1, rfl, by omega, by go_num, HQ2.out, HE2.out⟩
            case measure => simp [intOf]; omega
      · have ej : j = r.ps.len := by omega
        subst ej
        have dj : ¬ (r.ps.len : Int) < r.ps.len := by omega
        have h0 := check14_any (Fq.d c r gg c7 RB) wr (HQ.out.at_ HD.out.1 HD.out.2.2) (HD.out.2.1.kept HQ.out.fg.bl)
        have d0 := HQ.out.bD.cell 0 rfl
        have d1 := HQ.out.bD.cell 1 rfl
        have d2 := HQ.out.bD.cell 2 rfl
        go_wp2_with fail
        refine Calls.mono h0 ?_
        rintro e u10 ⟨⟨k', q', e', rfl, hR'⟩, hb⟩
        have HM := hyd (HN.out k' q' e' hR')
        have H9 := hyd (HQ.out.fg.kept hb)
        clear h0 hb hR' d0 d1 d2 HQ dj r2
        rw [← HBE.out] at HM
        rcases HM.out with ⟨h1, h2⟩ | ⟨h1, h2 | ⟨h2, h3⟩⟩
        · subst h1 h2
          clear HM
          go_wp2
          go_ret
          exact ⟨rfl, H9.out.bl⟩
        · subst h1 h2
          clear HM
          go_wp2
          go_ret
          exact ⟨rfl, H9.out.bl⟩
        · subst h1 h2 h3
          clear HM
          go_wp2
          go_ret
          exact ⟨rfl, H9.out.bl⟩
end Go.Proofs.YtdplabhgdonbiaaDoor
