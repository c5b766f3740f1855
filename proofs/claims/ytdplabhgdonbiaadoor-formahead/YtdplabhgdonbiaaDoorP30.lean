/- Layer 14: the statement FormAhead, walked. -/
import Derived.Test.YtdplabhgdonbiaaDoorP27
import Derived.Test.YtdplabhgdonbiaaDoorP28
import Derived.BigQuiet
namespace Go.Proofs.YtdplabhgdonbiaaDoor
open Go Go.RowKit

/-- What a function that breaks no rule has. -/
structure Wf (f : Cf) : Prop where
  pos : 0 < f.cd.len
  pts : f.pt.len = f.cd.len
  jmp : ∀ i, i < f.cd.len → (f.cd.x i).op = 24 ∨ (f.cd.x i).op = 25 → (i : Int) < (f.cd.x i).a ∧ (f.cd.x i).a < f.cd.len
  han : ∀ i, i < f.hd.len → (f.hd.x i).to ≤ (f.hd.x i).at_ ∧ (f.hd.x i).at_ < f.cd.len
  last : (f.cd.x (f.cd.len - 1)).op = 27 ∨ (f.cd.x (f.cd.len - 1)).op = 26
theorem Cf.wf {nf nl : Nat} {f : Cf} (h : f.brk nf nl = 0) : Wf f := by
  obtain ⟨⟨⟨h1, h2⟩, h3⟩, _⟩ := Cf.brk_zero h
  unfold Cf.cntB at h1
  unfold Cf.codB Cf.codA lastB at h2
  unfold Cf.hanB at h3
  simp only [Bool.and_eq_true, Bool.or_eq_true, decide_eq_true_eq] at h1 h2 h3
  refine ⟨h1.1.1, h1.1.2, fun i hi ho => ?_, fun i hi => ?_, h2.2⟩
  · have := h2.1 i hi
    unfold In.nhB at this
    rw [if_neg (by omega), if_neg (by omega), if_neg (by omega), if_pos ho] at this
    unfold btw at this
    simp only [Bool.and_eq_true, decide_eq_true_eq] at this
    omega
  · have := h3 i hi
    unfold Hn.hold at this
    simp only [Bool.and_eq_true, decide_eq_true_eq] at this
    exact ⟨this.1.2, this.2⟩

set_option maxRecDepth 100000 in
set_option maxHeartbeats 16000000 in
theorem formAhead_any (c : Kl) (w : World) (hc : c.At w) (hO : Og w) : Calls Tryd.prog 5 #[.agg #[.slice c.n.ao c.n.len c.n.cap, .slice c.g.ao c.g.len c.g.cap, .slice c.fs.ao c.fs.len c.fs.cap]] w fun e w' => e = .returned (.bool true) ∧ Below w.heap.size w w' := by
  have B0 := below_alloc w (.cells #[.slice c.n.ao c.n.len c.n.cap, .slice c.g.ao c.g.len c.g.cap, .slice c.fs.ao c.fs.len c.fs.cap] 28)
  have b := Blk.new w c.cs 28
  have H0 := hyd (show Below w.heap.size w _ ∧ Blk _ w.heap.size c.cs 28 from ⟨B0, b⟩)
  have HD := hyd (show c.At w ∧ Og w from ⟨hc, hO⟩)
  have hbd := hc.fs.bound
  have HNIL := hyd hc.fs.nil
  have h0 := awake14_any _ (hO.kept B0)
  clear B0 b hc hO
  go_enter Tryd.func5, Tryd.ntmps5
  go_wp2_with fail
  refine h0.mono ?_
  rintro _ u1 ⟨rfl, hb⟩
  have H1 := hyd (show Below w.heap.size w u1 ∧ Blk u1 w.heap.size c.cs 28 from ⟨Below.next H0.out.1 hb, H0.out.2.kept hb⟩)
  clear h0 hb H0
  have c0 := H1.out.2.cell 0 rfl
  have c1 := H1.out.2.cell 1 rfl
  have c2 := H1.out.2.cell 2 rfl
  have h0 := rFew_any c 1500 u1 (Kl.At.kept H1.out.1 HD.out.1)
  go_wp2_with fail
  refine h0.mono ?_
  rintro e u2 ⟨⟨bb, rfl, _⟩, hb⟩
  have H2 := hyd (show Below w.heap.size w u2 ∧ Blk u2 w.heap.size c.cs 28 from ⟨Below.next H1.out.1 hb, H1.out.2.kept hb⟩)
  clear h0 hb H1 c0 c1 c2
  cases bb
  · have h0 := awake14_any u2 (HD.out.2.kept H2.out.1)
    go_wp2_with fail
    refine h0.mono ?_
    rintro _ u3 ⟨rfl, hb⟩
    have H3 := hyd (Below.next H2.out.1 hb)
    clear h0 hb
    go_wp2
    go_ret
    exact ⟨rfl, H3.out⟩
  have c0 := H2.out.2.cell 0 rfl
  have c1 := H2.out.2.cell 1 rfl
  have c2 := H2.out.2.cell 2 rfl
  have h0 := check14_any c u2 (Kl.At.kept H2.out.1 HD.out.1) (HD.out.2.kept H2.out.1)
  go_wp2_with fail
  refine h0.mono ?_
  rintro e u3 ⟨⟨k, r, er, rfl, hR⟩, hb⟩
  have H3 := hyd (show Below w.heap.size w u3 ∧ Blk u3 w.heap.size c.cs 28 from ⟨Below.next H2.out.1 hb, H2.out.2.kept hb⟩)
  have HR := hyd hR
  clear h0 hb hR H2 c0 c1 c2
  by_cases he : er = 0
  · have HOK := hyd (HR.out.yes he)
    subst he
    clear HR
    go_wp2
    go_loopw [6] (fun i wr => ∃ (j : Nat), j ≤ c.fs.len ∧ i = .int .i64 j ∧ (Below w.heap.size w wr ∧ Blk wr w.heap.size c.cs 28)) (fun i _ => c.fs.len - (intOf i).toNat)
    case atStart => exact ⟨0, Nat.zero_le _, rfl, H3.out⟩
    case round =>
      clear H3
      obtain ⟨j, hj, rfl, hBl⟩ := hrel
      have HB := hyd hBl
      clear hBl
      have c2 := HB.out.2.cell 2 rfl
      by_cases hlt : j < c.fs.len
      · as_aux_lemma =>
        have ij : (j : Int) < c.fs.len := by omega
        rw [HNIL.out (by omega)] at c2
        have r0 := range_kept (HD.out.1.fs.row j hlt) HB.out.1
        have HF := hyd (Cf.At.kept HB.out.1 (HD.out.1.fs.each j hlt))
        have HW : Hid (Wf (c.fs.x j)) := Cf.wf (HOK.out.2 j hlt)
        generalize c.fs.x j = f at *
        go_upto_region 10 with (first | (refine wpList_load_mid rfl 43 (.tmp 39) rfl c.fs.b (c.fs.o + j * 18) (by kernel_rfl) f.vs _ r0 Tryd.underlying43 rfl (by kernel_rfl) ?_) | (refine wpList_new_mid rfl rfl 43 rfl (.tmp 7) (.tmp 40) rfl z_fn (alloc_fn _) rfl f.vs.toArray (by kernel_rfl) (by kernel_rfl) rfl (by kernel_rfl) (by simpa using f.vs_one) ?_))
        have B1 := below_alloc wr (.cells f.vs.toArray 43)
        have HU := hyd (show Sb w c f w.heap.size wr.heap.size (wr.alloc (.cells f.vs.toArray 43)) from ⟨Below.next HB.out.1 B1, HB.out.2.kept B1, Blk.new wr _ _, Cf.At.kept B1 HF.out⟩)
        clear r0 HF HB B1 c2
        generalize wr.alloc (.cells f.vs.toArray 43) = U at *
        generalize wr.heap.size = BF at *
        have hbc := HU.out.f.cd.bound
        have hbh := HU.out.f.hd.bound
        have f14 := HU.out.bF.cell 14 rfl
        have f16 := HU.out.bF.cell 16 rfl
        have HN14 := hyd (HU.out.f.cd.nil HW.out.pos)
        have HN15 := hyd HU.out.f.hd.nil
        rw [HN14.out] at f14
        rw [HW.out.pts] at f16
        have e0 : ((f.cd.len : Int) == 0) = false := by have := HW.out.pos; simp; omega
        have e1 : ((f.cd.len : Int) != f.cd.len) = false := by simp
        go_wp2
        clear f14 f16 e0 e1
        go_loopw [9] (fun i wr => ∃ (m : Nat), m ≤ f.cd.len ∧ i = .int .i64 m ∧ Sb w c f w.heap.size BF wr) (fun i _ => f.cd.len - (intOf i).toNat)
        case atStart => exact ⟨0, Nat.zero_le _, rfl, HU.out⟩
        case round =>
          clear HU
          obtain ⟨m, hm, rfl, hS⟩ := hrel
          have HS := hyd hS
          clear hS
          by_cases mlt : m < f.cd.len
          · have im : (m : Int) < f.cd.len := by omega
            have f14 := HS.out.bF.cell 14 rfl
            rw [HN14.out] at f14
            have r0 := HS.out.f.cd.row m mlt 0 _ rfl
            have r1 := HS.out.f.cd.row m mlt 1 _ rfl
            simp only [Nat.add_zero] at r0
            have HJ := hyd (HW.out.jmp m mlt)
            generalize (f.cd.x m).op = op at *
            generalize (f.cd.x m).a = a at *
            by_cases o1 : op = 24
            · subst o1
              have ha := HJ.out (Or.inl rfl)
              have l1 : ¬ a ≤ (m : Int) := by omega
              have l2 : ¬ (f.cd.len : Int) ≤ a := by omega
              clear ha HJ
              go_wp2
              go_roundw
              case rel => exact ⟨m + 1, by omega, by go_num, HS.out⟩
              case measure => simp [intOf]; omega
            have n1 : (op == 24) = false := by simpa using o1
            by_cases o2 : op = 25
            · subst o2
              have ha := HJ.out (Or.inr rfl)
              have l1 : ¬ a ≤ (m : Int) := by omega
              have l2 : ¬ (f.cd.len : Int) ≤ a := by omega
              clear ha HJ n1
              go_wp2
              go_roundw
              case rel => exact ⟨m + 1, by omega, by go_num, HS.out⟩
              case measure => simp [intOf]; omega
            have n2 : (op == 25) = false := by simpa using o2
            clear o1 o2 HJ
            go_wp2
            go_roundw
            case rel => exact ⟨m + 1, by omega, by go_num, HS.out⟩
            case measure => simp [intOf]; omega
          · have e2 : ¬ (m : Int) < f.cd.len := by omega
            go_wp2
            clear e2
            go_loopw [11] (fun i wr => ∃ (m : Nat), m ≤ f.hd.len ∧ i = .int .i64 m ∧ Sb w c f w.heap.size BF wr) (fun i _ => f.hd.len - (intOf i).toNat)
            case atStart => exact ⟨0, Nat.zero_le _, rfl, HS.out⟩
            case round =>
              clear HS
              obtain ⟨m, hm, rfl, hS⟩ := hrel
              have HS := hyd hS
              clear hS
              have f15 := HS.out.bF.cell 15 rfl
              by_cases mlt : m < f.hd.len
              · have im : (m : Int) < f.hd.len := by omega
                rw [HN15.out (by omega)] at f15
                have r1 := HS.out.f.hd.row m mlt 1 _ rfl
                have r2 := HS.out.f.hd.row m mlt 2 _ rfl
                have HH := HW.out.han m mlt
                generalize (f.hd.x m).to = tt at *
                generalize (f.hd.x m).at_ = a at *
                have l1 : ¬ a < tt := by omega
                have l2 : ¬ (f.cd.len : Int) ≤ a := by omega
                clear HH
                go_upto_region 22 with fail
                go_quiet (fail)
                have HS2 := hyd (HS.out.kept (below_drewN (Below.refl _ _) nq))
                clear HS f15 r1 r2
                generalize wr.drewN nq = u9 at *
                go_wp2
                go_roundw
                case rel => exact ⟨m + 1, by omega, by go_num, HS2.out⟩
                case measure => simp [intOf]; omega
              · have e2 : ¬ (m : Int) < f.hd.len := by omega
                have f14 := HS.out.bF.cell 14 rfl
                rw [HN14.out] at f14
                have hp0 : (0 : Int) < f.cd.len := by have := HW.out.pos; omega
                have r0 := HS.out.f.cd.row (f.cd.len - 1) (by omega) 0 _ rfl
                simp only [Nat.add_zero] at r0
                have HLa := hyd HW.out.last
                generalize (f.cd.x (f.cd.len - 1)).op = op at *
                by_cases o1 : op = 27
                · subst o1
                  go_wp2
                  go_roundw
                  case rel => exact ⟨j + 1, by omega, by go_num, ⟨HS.out.bl, HS.out.bC⟩⟩
                  case measure => simp [intOf]; omega
                · have o2 : op = 26 := by rcases HLa.out with h | h; exact absurd h o1; exact h
                  subst o2
                  clear o1
                  go_wp2
                  go_roundw
                  case rel => exact ⟨j + 1, by omega, by go_num, ⟨HS.out.bl, HS.out.bC⟩⟩
                  case measure => simp [intOf]; omega
      · have e2 : ¬ (j : Int) < c.fs.len := by omega
        go_wp2
        go_ret
        exact ⟨rfl, HB.out.1⟩
  · have e1 : (er != 0) = true := by simpa using he
    clear he
    go_wp2
    go_ret
    exact ⟨rfl, H3.out.1⟩
end Go.Proofs.YtdplabhgdonbiaaDoor
