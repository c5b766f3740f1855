/- Layer 13: the reference's Formed: a short, an operand, types. -/
import Derived.Test.YtdplabhgdonbiaaDoorP10
import Derived.Test.YtdplabhgdonbiaaDoorP23
import Derived.Test.YtdplabhgdonbiaaDoorP8
import Derived.Test.YtdplabhgdonbiaaDoorP12
import Derived.Test.YtdplabhgdonbiaaDoorP13
namespace Go.Proofs.YtdplabhgdonbiaaDoor
open Go Go.RowKit

/-- The reference's operands. -/
def op2 (op : Int) : Nat := if op = 1 then 1 else if op = 2 ∨ op = 3 ∨ op = 4 ∨ op = 17 ∨ op = 23 ∨ op = 24 ∨ op = 25 then 2 else if op = 20 then 3 else 0
set_option maxRecDepth 100000 in
set_option maxHeartbeats 2000000 in
theorem rshort13_any (a : Int) (w : World) : Calls Tryd.prog 49 #[.int .i64 a] w fun e w' => e = .returned (.bool (shB a)) ∧ Below w.heap.size w w' := by
  have HS : Hid (shB a = (decide (0 ≤ a) && decide (a ≤ 65535))) := rfl
  generalize shB a = F at *
  by_cases h0 : 0 ≤ a
  · have HE : Hid (F = decide (a ≤ 65535)) := by show _ = _; rw [HS.out, decide_eq_true h0]; rfl
    have d0 : decide (0 ≤ a) = true := decide_eq_true h0
    go_enter Tryd.func49, Tryd.ntmps49
    go_wp2
    go_ret
    exact ⟨ret_bool HE.out.symm, Below.refl _ _⟩
  · have HE : Hid (F = false) := by show _ = _; rw [HS.out, decide_eq_false h0]; rfl
    have d0 : decide (0 ≤ a) = false := decide_eq_false h0
    go_enter Tryd.func49, Tryd.ntmps49
    go_wp2
    go_ret
    exact ⟨ret_bool HE.out.symm, Below.refl _ _⟩
set_option maxRecDepth 100000 in
set_option maxHeartbeats 2000000 in
theorem rOperand_any (op : Int) (w : World) : Calls Tryd.prog 74 #[.int .i64 op] w fun e w' => e = .returned (.int .i64 (op2 op)) ∧ Below w.heap.size w w' := by
  generalize hF : op2 op = F
  have HF := hyd hF
  clear hF
  go_enter Tryd.func74, Tryd.ntmps74
  go_wp2
  all_goals
    go_ret
    refine ⟨?_, Below.refl _ _⟩
    rw [← HF.out]
    clear HF
    simp_all [op2]
set_option maxRecDepth 100000 in
set_option maxHeartbeats 4000000 in
theorem rtyps_any (n : Strs) (g : Grid) (T : Ty) (z : Bool) (w : World) (hn : n.At w) (hg : g.At w) (hT : T.At w) : Calls Tryd.prog 46 #[.agg #[.slice n.ao n.len n.cap, .slice g.ao g.len g.cap], .slice T.ao T.len T.cap, .bool z] w fun e w' => e = .returned (.bool (decide (∀ i, i < T.len → (okB n g (T.ps i) || (z && (T.ps i).same (leafT 0 0))) = true))) ∧ Below w.heap.size w w' := by
  have B0 := below_alloc w (.cells #[.slice n.ao n.len n.cap, .slice g.ao g.len g.cap] 25)
  have b := Blk.new w [.slice n.ao n.len n.cap, .slice g.ao g.len g.cap] 25
  have hnil := hT.nil
  have hbd := hT.bound
  have HT := hyd (show n.At w ∧ g.At w ∧ T.At w from ⟨hn, hg, hT⟩)
  have HB := hyd (show Below w.heap.size w (w.alloc (.cells #[.slice n.ao n.len n.cap, .slice g.ao g.len g.cap] 25)) ∧ Blk (w.alloc (.cells #[.slice n.ao n.len n.cap, .slice g.ao g.len g.cap] 25)) w.heap.size [.slice n.ao n.len n.cap, .slice g.ao g.len g.cap] 25 from ⟨B0, b⟩)
  generalize hANS : decide (∀ i, i < T.len → (okB n g (T.ps i) || (z && (T.ps i).same (leafT 0 0))) = true) = ANS at *
  have HANS := hyd hANS
  clear hn hg hT hANS b B0
  generalize hlen : T.len = len at *
  have HL := hyd hlen
  clear hlen
  generalize T.ao = ao at *
  go_enter Tryd.func46, Tryd.ntmps46
  go_wp2
  go_loopw [7] (fun i wr => ∃ (j : Nat), j ≤ len ∧ i = .int .i64 j ∧ (Below w.heap.size w wr ∧ Blk wr w.heap.size [.slice n.ao n.len n.cap, .slice g.ao g.len g.cap] 25) ∧ (∀ i, i < j → (okB n g (T.ps i) || (z && (T.ps i).same (leafT 0 0))) = true)) (fun i _ => len - (intOf i).toNat)
  case atStart => exact ⟨0, Nat.zero_le _, rfl, HB.out, fun i hi => absurd hi (Nat.not_lt_zero _)⟩
  case round =>
    clear HB
    obtain ⟨j, hj, rfl, hBl, hall⟩ := hrel
    have HB := hyd hBl
    have HA := hyd hall
    clear hBl hall
    by_cases hlt : j < len
    · have ij : (j : Int) < len := by omega
      have a0 := hnil (by omega)
      subst a0
      have hjT : j < T.len := by rw [HL.out]; exact hlt
      have C := (HT.out.2.2.kept HB.out.1).cells hjT
      have c0 := C.c0
      have c1 := C.c1
      have c2 := C.c2
      have c3 := C.c3
      have c4 := C.c4
      have l0 := HB.out.2.cell 0 rfl
      have l1 := HB.out.2.cell 1 rfl
      have hNE : Nonempty (Gr wr) := ⟨⟨_, Below.refl _ _⟩⟩
      have gc0 := fun x => Gr.cell x c0
      have gc1 := fun x => Gr.cell x c1
      have gc2 := fun x => Gr.cell x c2
      have gc3 := fun x => Gr.cell x c3
      have gc4 := fun x => Gr.cell x c4
      have gl0 := fun x => Gr.cell x l0
      have gl1 := fun x => Gr.cell x l1
      have H1 := hyd (show ∀ x : Gr wr, Calls Tryd.prog 45 #[.agg #[.slice n.ao n.len n.cap, .slice g.ao g.len g.cap], .agg #[.int .i64 (T.ps j).k, .int .i64 (T.ps j).l, .slice (T.ps j).ao (T.ps j).len (T.ps j).cap, .int .i64 (T.ps j).h, .int .i64 (T.ps j).e]] x.w fun e w' => e = .returned (.bool (okB n g (T.ps j))) ∧ Below x.w.heap.size x.w w' from fun x => rFormed2_any n g (T.ps j) x.w (HT.out.1.kept (Below.next HB.out.1 x.bl)) (HT.out.2.1.kept (Below.next HB.out.1 x.bl)) ((HT.out.2.2.kept (Below.next HB.out.1 x.bl)).part hjT))
      have H2 := hyd (show ∀ x : Gr wr, Calls Tryd.prog 73 #[.agg #[.int .i64 (T.ps j).k, .int .i64 (T.ps j).l, .slice (T.ps j).ao (T.ps j).len (T.ps j).cap, .int .i64 (T.ps j).h, .int .i64 (T.ps j).e], .agg #[.int .i64 0, .int .i64 0, .slice none 0 0, .int .i64 0, .int .i64 0]] x.w fun e w' => e = .returned (.bool ((T.ps j).same (leafT 0 0))) ∧ Below x.w.heap.size x.w w' from fun x => rSame_any2 (T.ps j) (leafT 0 0) x.w ((HT.out.2.2.kept (Below.next HB.out.1 x.bl)).part hjT) (leaf_at _ _ _))
      have HAS : Hid (∀ b, b = (okB n g (T.ps j) || (z && (T.ps j).same (leafT 0 0))) → (b = true → ∀ i, i < j + 1 → (okB n g (T.ps i) || (z && (T.ps i).same (leafT 0 0))) = true) ∧ (b = false → ANS = false)) := by
        intro b hb
        refine ⟨fun h1 i hi => ?_, fun h1 => ?_⟩
        · rcases Nat.lt_or_ge i j with h2 | h2
          · exact HA.out i h2
          · have : i = j := by omega
            subst this
            exact hb.symm.trans h1
        · rw [← HANS.out, decide_eq_false_iff_not]
          intro hh
          have h2 := hh j hlt
          rw [← hb, h1] at h2
          cases h2
      have H5 := hyd (HAS.out _ rfl)
      clear C HAS hjT
      generalize okB n g (T.ps j) = bb at *
      generalize (T.ps j).same (leafT 0 0) = ss at *
      cases bb
      · cases z
        · go_upto_region 4 with fail
          refine wp_region_gr (by kernel_rfl) (by kernel_rfl) ?_
          repeat (first | go_big_quiet_step ((first | (go_at_call 45; exact Calls.gr _ (H1.out _)) | (go_at_call 73; exact Calls.gr _ (H2.out _)))))
          refine wpQuiet_nil ?_
          rintro _ ⟨x4, rfl⟩
          have HB1 := hyd (show Below w.heap.size w x4.w ∧ Blk x4.w w.heap.size [.slice n.ao n.len n.cap, .slice g.ao g.len g.cap] 25 from ⟨Below.next HB.out.1 x4.bl, HB.out.2.kept x4.bl⟩)
          generalize x4.w = w4 at HB1 ⊢
          clear x4 hNE gc0 gc1 gc2 gc3 gc4 gl0 gl1 c0 c1 c2 c3 c4 l0 l1 H1 H2 HB
          go_wp2
          go_ret
          exact ⟨ret_bool (H5.out.2 (by simp)).symm, HB1.out.1⟩
        · cases ss
          · go_upto_region 4 with fail
            refine wp_region_gr (by kernel_rfl) (by kernel_rfl) ?_
            repeat (first | go_big_quiet_step ((first | (go_at_call 45; exact Calls.gr _ (H1.out _)) | (go_at_call 73; exact Calls.gr _ (H2.out _)))))
            refine wpQuiet_nil ?_
            rintro _ ⟨x4, rfl⟩
            have HB1 := hyd (show Below w.heap.size w x4.w ∧ Blk x4.w w.heap.size [.slice n.ao n.len n.cap, .slice g.ao g.len g.cap] 25 from ⟨Below.next HB.out.1 x4.bl, HB.out.2.kept x4.bl⟩)
            generalize x4.w = w4 at HB1 ⊢
            clear x4 hNE gc0 gc1 gc2 gc3 gc4 gl0 gl1 c0 c1 c2 c3 c4 l0 l1 H1 H2 HB
            go_wp2
            go_ret
            exact ⟨ret_bool (H5.out.2 (by simp)).symm, HB1.out.1⟩
          · go_upto_region 4 with fail
            refine wp_region_gr (by kernel_rfl) (by kernel_rfl) ?_
            repeat (first | go_big_quiet_step ((first | (go_at_call 45; exact Calls.gr _ (H1.out _)) | (go_at_call 73; exact Calls.gr _ (H2.out _)))))
            refine wpQuiet_nil ?_
            rintro _ ⟨x4, rfl⟩
            have HB1 := hyd (show Below w.heap.size w x4.w ∧ Blk x4.w w.heap.size [.slice n.ao n.len n.cap, .slice g.ao g.len g.cap] 25 from ⟨Below.next HB.out.1 x4.bl, HB.out.2.kept x4.bl⟩)
            generalize x4.w = w4 at HB1 ⊢
            clear x4 hNE gc0 gc1 gc2 gc3 gc4 gl0 gl1 c0 c1 c2 c3 c4 l0 l1 H1 H2 HB
            go_wp2
            go_roundw
            case rel => exact ⟨j + 1, by omega, by go_num, HB1.out, H5.out.1 (by simp)⟩
            case measure => simp [intOf]; omega
      · go_upto_region 4 with fail
        refine wp_region_gr (by kernel_rfl) (by kernel_rfl) ?_
        repeat (first | go_big_quiet_step ((first | (go_at_call 45; exact Calls.gr _ (H1.out _)) | (go_at_call 73; exact Calls.gr _ (H2.out _)))))
        refine wpQuiet_nil ?_
        rintro _ ⟨x4, rfl⟩
        have HB1 := hyd (show Below w.heap.size w x4.w ∧ Blk x4.w w.heap.size [.slice n.ao n.len n.cap, .slice g.ao g.len g.cap] 25 from ⟨Below.next HB.out.1 x4.bl, HB.out.2.kept x4.bl⟩)
        generalize x4.w = w4 at HB1 ⊢
        clear x4 hNE gc0 gc1 gc2 gc3 gc4 gl0 gl1 c0 c1 c2 c3 c4 l0 l1 H1 H2 HB
        go_wp2
        go_roundw
        case rel => exact ⟨j + 1, by omega, by go_num, HB1.out, H5.out.1 (by simp)⟩
        case measure => simp [intOf]; omega
    · have e2 : j = len := by omega
      subst e2
      have dj : ¬ (j : Int) < j := by omega
      go_wp2
      go_ret
      exact ⟨ret_bool (by rw [← HANS.out]; symm; rw [decide_eq_true_eq]; exact HA.out), HB.out.1⟩
end Go.Proofs.YtdplabhgdonbiaaDoor

/- Layer 13: the reference's instruction. -/
namespace Go.Proofs.YtdplabhgdonbiaaDoor
open Go Go.RowKit

theorem same_zero (t : Ty) : t.same (leafT 0 0) = t.zr := by
  rw [Bool.eq_iff_iff, same_iff]
  unfold Ty.zr
  simp only [Bool.and_eq_true, decide_eq_true_eq]
  constructor
  · rintro ⟨⟨h1, h2, h3, h4, h5⟩, _⟩
    exact ⟨⟨⟨⟨h1, h2⟩, h5⟩, h3⟩, h4⟩
  · rintro ⟨⟨⟨⟨h1, h2⟩, h5⟩, h3⟩, h4⟩
    exact ⟨⟨h1, h2, h3, h4, h5⟩, fun i hi => absurd hi (by rw [h5]; omega)⟩
theorem in_fm20 (N : Nat) (a : Int) (t : Ty) : In.fm N ⟨20, a, t⟩ = (decide (a = 0) && t.ok N) := rfl
theorem in_lo {N : Nat} {op a : Int} {t : Ty} (h : op < 1 ∨ 27 < op) : In.fm N ⟨op, a, t⟩ = false := by
  unfold In.fm
  rcases h with h | h
  · rw [decide_eq_false (show ¬ 1 ≤ op by omega)]; rfl
  · rw [decide_eq_false (show ¬ op ≤ 27 by omega), Bool.and_false]; rfl
theorem in_no {N : Nat} {op a : Int} {t : Ty} (h1 : 1 ≤ op) (h2 : op ≤ 27) (h3 : op ≠ 20) : In.fm N ⟨op, a, t⟩ = (t.zr && nmB (opr op) a) := by
  unfold In.fm
  rw [decide_eq_true h1, decide_eq_true h2]
  show (true && if op = 20 then _ else _) = _
  rw [if_neg h3]; rfl
theorem opr_op2 {op : Int} (h1 : op ≠ 1) (h2 : op ≠ 2) (h3 : op ≠ 20) : (op2 op = 2 ∧ opr op = 3) ∨ (op2 op ≠ 2 ∧ opr op = 0) := by
  unfold op2 opr
  rw [if_neg h1, if_neg h1, if_neg h2]
  by_cases h4 : op = 3 ∨ op = 4 ∨ op = 17 ∨ op = 23 ∨ op = 24 ∨ op = 25
  · left; rw [if_pos (by omega), if_pos h4]; exact ⟨rfl, rfl⟩
  · right; rw [if_neg (by omega), if_neg h4, if_neg h3, if_neg h3]; exact ⟨by omega, rfl⟩
theorem rsz_any (t : Ty) (w : World) (ht : t.At w) : Calls Tryd.prog 73 #[.agg #[.int .i64 t.k, .int .i64 t.l, .slice t.ao t.len t.cap, .int .i64 t.h, .int .i64 t.e], .agg #[.int .i64 0, .int .i64 0, .slice none 0 0, .int .i64 0, .int .i64 0]] w fun e w' => e = .returned (.bool t.zr) ∧ Below w.heap.size w w' := by
  rw [← same_zero t]
  exact rSame_any2 t (leafT 0 0) w ht (leaf_at _ _ _)
set_option maxRecDepth 100000 in
set_option maxHeartbeats 8000000 in
theorem rins_any (n : Strs) (g : Grid) (i : In) (w : World) (hF : formedB n g = true) (hn : n.At w) (hg : g.At w) (hi : i.At w) : Calls Tryd.prog 48 #[.agg #[.slice n.ao n.len n.cap, .slice g.ao g.len g.cap], .agg i.vs.toArray] w fun e w' => e = .returned (.bool (i.fm n.len)) ∧ Below w.heap.size w w' := by
  obtain ⟨op, a, t⟩ := i
  show Calls Tryd.prog 48 #[.agg #[.slice n.ao n.len n.cap, .slice g.ao g.len g.cap], .agg #[.int .i64 op, .int .i64 a, .int .i64 t.k, .int .i64 t.l, .slice t.ao t.len t.cap, .int .i64 t.h, .int .i64 t.e]] w fun e w' => e = .returned (.bool (In.fm n.len ⟨op, a, t⟩)) ∧ Below w.heap.size w w'
  have B1 := below_alloc w (.cells #[.slice n.ao n.len n.cap, .slice g.ao g.len g.cap] 25)
  have B2 := below_alloc (w.alloc (.cells #[.slice n.ao n.len n.cap, .slice g.ao g.len g.cap] 25)) (.cells #[.int .i64 op, .int .i64 a, .int .i64 t.k, .int .i64 t.l, .slice t.ao t.len t.cap, .int .i64 t.h, .int .i64 t.e] 48)
  have bL := (Blk.new w [.slice n.ao n.len n.cap, .slice g.ao g.len g.cap] 25).kept B2
  have bI := Blk.new (w.alloc (.cells #[.slice n.ao n.len n.cap, .slice g.ao g.len g.cap] 25)) [.int .i64 op, .int .i64 a, .int .i64 t.k, .int .i64 t.l, .slice t.ao t.len t.cap, .int .i64 t.h, .int .i64 t.e] 48
  rw [alloc_size] at bI
  have B := Below.next B1 B2
  have hok := rFormed2_any n g t _ (hn.kept B) (hg.kept B) (hi.t.kept B)
  have hsm := rsz_any t _ (hi.t.kept B)
  unfold okB at hok
  rw [hF, Bool.true_and] at hok
  have HB := hyd B
  have HI := hyd bI
  have i0 := bI.cell 0 rfl
  have l0 := bL.cell 0 rfl
  have l1 := bL.cell 1 rfl
  have i1 := bI.cell 1 rfl
  have i2 := bI.cell 2 rfl
  have i3 := bI.cell 3 rfl
  have i4 := bI.cell 4 rfl
  have i5 := bI.cell 5 rfl
  have i6 := bI.cell 6 rfl
  clear B B1 B2 bL bI hn hg hi
  generalize hFF : In.fm n.len ⟨op, a, t⟩ = F
  have HIN := hyd hFF
  clear hFF
  go_enter Tryd.func48, Tryd.ntmps48
  go_upto_region 1 with fail
  generalize ((w.alloc (.cells #[.slice n.ao n.len n.cap, .slice g.ao g.len g.cap] 25)).alloc (.cells #[.int .i64 op, .int .i64 a, .int .i64 t.k, .int .i64 t.l, .slice t.ao t.len t.cap, .int .i64 t.h, .int .i64 t.e] 48)) = u0 at *
  by_cases h1 : op < 1
  · have HE : Hid (F = false) := HIN.out.symm.trans (in_lo (Or.inl h1))
    go_wp2
    go_ret
    exact ⟨ret_bool HE.out.symm, HB.out⟩
  by_cases h2 : 27 < op
  · have HE : Hid (F = false) := HIN.out.symm.trans (in_lo (Or.inr h2))
    go_wp2
    go_ret
    exact ⟨ret_bool HE.out.symm, HB.out⟩
  by_cases h3 : op = 20
  · subst h3
    have HE : Hid (F = (decide (a = 0) && t.ok n.len)) := HIN.out.symm.trans (in_fm20 _ _ _)
    clear h1 h2 hsm
    by_cases ha : a = 0
    · have da : (a == 0) = true := by simpa using ha
      have HE2 : Hid (F = t.ok n.len) := by show _ = _; rw [HE.out, decide_eq_true ha]; rfl
      clear ha
      go_wp2_with fail
      refine hok.mono ?_
      rintro _ u1 ⟨rfl, hb1⟩
      have HB1 := hyd (Below.next HB.out hb1)
      clear hok hb1
      go_wp2
      go_ret
      exact ⟨ret_bool HE2.out.symm, HB1.out⟩
    · have da : (a == 0) = false := by simpa using ha
      have HE2 : Hid (F = false) := by show _ = _; rw [HE.out, decide_eq_false ha]; rfl
      clear ha hok
      go_wp2
      go_ret
      exact ⟨ret_bool HE2.out.symm, HB.out⟩
  have d3 : (op == 20) = false := by simpa using h3
  have HE : Hid (F = (t.zr && nmB (opr op) a)) := HIN.out.symm.trans (in_no (by omega) (by omega) h3)
  clear HIN
  have H3 := hyd h3
  generalize t.zr = z at *
  clear h3 hok
  go_wp2_with fail
  refine hsm.mono ?_
  rintro _ u1 ⟨rfl, hb1⟩
  have HB1 := hyd (Below.next HB.out hb1)
  have bI := HI.out.kept hb1
  clear hsm hb1 i0 i1 i2 i3 i4 i5 i6 l0 l1 HI HB
  have i0 := bI.cell 0 rfl
  have i1 := bI.cell 1 rfl
  cases z
  · go_wp2
    go_ret
    exact ⟨ret_bool (show F = false from HE.out).symm, HB1.out⟩
  have HE2 : Hid (F = nmB (opr op) a) := HE.out
  clear HE
  have HI := hyd bI
  clear bI
  by_cases k1 : op = 1
  · subst k1
    have HE3 : Hid (F = true) := HE2.out
    go_wp2
    go_ret
    exact ⟨ret_bool HE3.out.symm, HB1.out⟩
  have e1 : (op == 1) = false := by simpa using k1
  by_cases k2 : op = 2
  · subst k2
    have HE3 : Hid (F = (decide (a = 0) || decide (a = 1))) := HE2.out
    clear k1
    by_cases ha : a = 0
    · have da : (a == 0) = true := by simpa using ha
      have HE4 : Hid (F = true) := by show _ = _; rw [HE3.out, decide_eq_true ha]; rfl
      clear ha
      go_wp2
      go_ret
      exact ⟨ret_bool HE4.out.symm, HB1.out⟩
    · have da : (a == 0) = false := by simpa using ha
      have HE4 : Hid (F = (a == 1)) := by show _ = _; rw [HE3.out, decide_eq_false ha, Bool.false_or]; rfl
      clear ha
      go_wp2
      go_ret
      exact ⟨ret_bool HE4.out.symm, HB1.out⟩
  have e2 : (op == 2) = false := by simpa using k2
  have hop := rOperand_any op u1
  have HO := hyd (opr_op2 k1 k2 H3.out)
  generalize hq : op2 op = q at *
  generalize hr : opr op = r at *
  clear k1 k2 hq hr
  go_wp2_with fail
  refine hop.mono ?_
  rintro _ u2 ⟨rfl, hb2⟩
  have HB2 := hyd (Below.next HB1.out hb2)
  have j1 := up hb2 i1
  clear hop hb2 i0 i1 HB1 HI
  rcases HO.out with ⟨rfl, rfl⟩ | ⟨hq, rfl⟩
  · have HE3 : Hid (F = (decide (0 ≤ a) && decide (a ≤ 65535))) := HE2.out
    by_cases ha : 0 ≤ a
    · have HE4 : Hid (F = decide (a ≤ 65535)) := by show _ = _; rw [HE3.out, decide_eq_true ha]; rfl
      have da : decide (0 ≤ a) = true := decide_eq_true ha
      go_wp2
      go_ret
      exact ⟨ret_bool HE4.out.symm, HB2.out⟩
    · have HE4 : Hid (F = false) := by show _ = _; rw [HE3.out, decide_eq_false ha]; rfl
      have da : decide (0 ≤ a) = false := decide_eq_false ha
      go_wp2
      go_ret
      exact ⟨ret_bool HE4.out.symm, HB2.out⟩
  · have HE3 : Hid (F = (a == 0)) := HE2.out
    have dq : ((q : Int) == 2) = false := by simp; omega
    go_wp2
    go_ret
    exact ⟨ret_bool HE3.out.symm, HB2.out⟩
end Go.Proofs.YtdplabhgdonbiaaDoor

/- Layer 13: the reference's point, region. -/
namespace Go.Proofs.YtdplabhgdonbiaaDoor
open Go Go.RowKit

theorem rtyN_any (n : Strs) (g : Grid) (T : Ty) (w : World) (hF : formedB n g = true) (hn : n.At w) (hg : g.At w) (hT : T.At w) : Calls Tryd.prog 46 #[.agg #[.slice n.ao n.len n.cap, .slice g.ao g.len g.cap], .slice T.ao T.len T.cap, .bool false] w fun e w' => e = .returned (.bool (decide (∀ i, i < T.len → (T.ps i).ok n.len = true))) ∧ Below w.heap.size w w' := by
  have h := rtyps_any n g T false w hn hg hT
  simp only [okB, hF, Bool.true_and, Bool.false_and, Bool.or_false] at h
  exact h
theorem rtyZ_any (n : Strs) (g : Grid) (T : Ty) (w : World) (hF : formedB n g = true) (hn : n.At w) (hg : g.At w) (hT : T.At w) : Calls Tryd.prog 46 #[.agg #[.slice n.ao n.len n.cap, .slice g.ao g.len g.cap], .slice T.ao T.len T.cap, .bool true] w fun e w' => e = .returned (.bool (decide (∀ i, i < T.len → ((T.ps i).zr || (T.ps i).ok n.len) = true))) ∧ Below w.heap.size w w' := by
  have h := rtyps_any n g T true w hn hg hT
  simp only [okB, hF, Bool.true_and, same_zero, Bool.or_comm (Ty.ok n.len _)] at h
  exact h
set_option maxRecDepth 100000 in
set_option maxHeartbeats 8000000 in
theorem rpoint_any (n : Strs) (g : Grid) (f : Cf) (x : Pt) (w : World) (hF : formedB n g = true) (hn : n.At w) (hg : g.At w) (hx : x.At w) : Calls Tryd.prog 50 #[.agg #[.slice n.ao n.len n.cap, .slice g.ao g.len g.cap], .agg f.vs.toArray, .agg #[.slice x.st.ao x.st.len x.st.cap, .slice x.sl.ao x.sl.len x.sl.cap, .int .i64 x.env]] w fun e w' => e = .returned (.bool (x.fm n.len f.sl)) ∧ Below w.heap.size w w' := by
  have B1 := below_alloc w (.cells #[.slice n.ao n.len n.cap, .slice g.ao g.len g.cap] 25)
  have B2 := below_alloc (w.alloc (.cells #[.slice n.ao n.len n.cap, .slice g.ao g.len g.cap] 25)) (.cells f.vs.toArray 43)
  have B3 := below_alloc ((w.alloc (.cells #[.slice n.ao n.len n.cap, .slice g.ao g.len g.cap] 25)).alloc (.cells f.vs.toArray 43)) (.cells #[.slice x.st.ao x.st.len x.st.cap, .slice x.sl.ao x.sl.len x.sl.cap, .int .i64 x.env] 64)
  have bL := ((Blk.new w [.slice n.ao n.len n.cap, .slice g.ao g.len g.cap] 25).kept B2).kept B3
  have bF := (Blk.new (w.alloc (.cells #[.slice n.ao n.len n.cap, .slice g.ao g.len g.cap] 25)) f.vs 43).kept B3
  have bP := Blk.new ((w.alloc (.cells #[.slice n.ao n.len n.cap, .slice g.ao g.len g.cap] 25)).alloc (.cells f.vs.toArray 43)) [.slice x.st.ao x.st.len x.st.cap, .slice x.sl.ao x.sl.len x.sl.cap, .int .i64 x.env] 64
  rw [alloc_size] at bF
  rw [alloc_size, alloc_size] at bP
  have H0 := hyd (show Below w.heap.size w _ ∧ _ ∧ _ ∧ _ from ⟨Below.next (Below.next B1 B2) B3, bL, bF, bP⟩)
  have HD := hyd (show formedB n g = true ∧ n.At w ∧ g.At w ∧ x.At w from ⟨hF, hn, hg, hx⟩)
  have HX : Hid (x.fm n.len f.sl = ((((decide (x.st.len ≤ 8) && decide ((x.sl.len : Int) = f.sl)) && inR n.len x.env) && decide (∀ i, i < x.st.len → (x.st.ps i).ok n.len = true)) && decide (∀ i, i < x.sl.len → ((x.sl.ps i).zr || (x.sl.ps i).ok n.len) = true))) := rfl
  have hb1 := hx.st.bound
  have hb2 := hx.sl.bound
  generalize x.fm n.len f.sl = F at *
  clear B1 B2 B3 bL bF bP hF hn hg hx
  have p0 := H0.out.2.2.2.cell 0 rfl
  have l0 := H0.out.2.1.cell 0 rfl
  have l1 := H0.out.2.1.cell 1 rfl
  go_enter Tryd.func50, Tryd.ntmps50
  go_upto_region 1 with fail
  generalize (((w.alloc (.cells #[.slice n.ao n.len n.cap, .slice g.ao g.len g.cap] 25)).alloc (.cells f.vs.toArray 43)).alloc (.cells #[.slice x.st.ao x.st.len x.st.cap, .slice x.sl.ao x.sl.len x.sl.cap, .int .i64 x.env] 64)) = u0 at *
  by_cases h8 : x.st.len ≤ 8
  · have d8 : decide ((x.st.len : Int) ≤ 8) = true := by simp; omega
    have hc := rtyN_any n g x.st u0 HD.out.1 (HD.out.2.1.kept H0.out.1) (HD.out.2.2.1.kept H0.out.1) (HD.out.2.2.2.st.kept H0.out.1)
    have HY : Hid (F = ((decide ((x.sl.len : Int) = f.sl) && inR n.len x.env) && decide (∀ i, i < x.st.len → (x.st.ps i).ok n.len = true) && decide (∀ i, i < x.sl.len → ((x.sl.ps i).zr || (x.sl.ps i).ok n.len) = true))) := by show _ = _; rw [HX.out, decide_eq_true h8, Bool.true_and]
    clear HX h8
    generalize decide (∀ i, i < x.st.len → (x.st.ps i).ok n.len = true) = b1 at *
    go_wp2_with fail
    refine hc.mono ?_
    rintro _ u1 ⟨rfl, hb⟩
    have H1 := hyd (show Below w.heap.size w u1 ∧ Blk u1 w.heap.size _ _ ∧ Blk u1 (w.heap.size + 1) _ _ ∧ Blk u1 (w.heap.size + 1 + 1) _ _ from ⟨Below.next H0.out.1 hb, H0.out.2.1.kept hb, H0.out.2.2.1.kept hb, H0.out.2.2.2.kept hb⟩)
    clear hc hb p0 l0 l1 H0 d8
    cases b1
    · have HE : Hid (F = false) := by show _ = _; rw [HY.out]; simp
      go_wp2
      go_ret
      exact ⟨ret_bool HE.out.symm, H1.out.1⟩
    have p1 := H1.out.2.2.2.cell 1 rfl
    have f13 := H1.out.2.2.1.cell 13 rfl
    have l0 := H1.out.2.1.cell 0 rfl
    have l1 := H1.out.2.1.cell 1 rfl
    by_cases hs : (x.sl.len : Int) = f.sl
    · have ds : ((x.sl.len : Int) == f.sl) = true := by simpa using hs
      have hc := rtyZ_any n g x.sl u1 HD.out.1 (HD.out.2.1.kept H1.out.1) (HD.out.2.2.1.kept H1.out.1) (HD.out.2.2.2.sl.kept H1.out.1)
      have HZ : Hid (F = (inR n.len x.env && decide (∀ i, i < x.sl.len → ((x.sl.ps i).zr || (x.sl.ps i).ok n.len) = true))) := by show _ = _; rw [HY.out, decide_eq_true hs, Bool.true_and, Bool.and_true]
      clear HY hs
      generalize decide (∀ i, i < x.sl.len → ((x.sl.ps i).zr || (x.sl.ps i).ok n.len) = true) = b2 at *
      go_wp2_with fail
      refine hc.mono ?_
      rintro _ u2 ⟨rfl, hb⟩
      have H2 := hyd (show Below w.heap.size w u2 ∧ Blk u2 w.heap.size _ _ ∧ Blk u2 (w.heap.size + 1) _ _ ∧ Blk u2 (w.heap.size + 1 + 1) _ _ from ⟨Below.next H1.out.1 hb, H1.out.2.1.kept hb, H1.out.2.2.1.kept hb, H1.out.2.2.2.kept hb⟩)
      clear hc hb p1 f13 l0 l1 H1 ds
      cases b2
      · have HE : Hid (F = false) := by show _ = _; rw [HZ.out]; simp
        go_wp2
        go_ret
        exact ⟨ret_bool HE.out.symm, H2.out.1⟩
      have p2 := H2.out.2.2.2.cell 2 rfl
      have l0 := H2.out.2.1.cell 0 rfl
      have l1 := H2.out.2.1.cell 1 rfl
      have hc := lab_any n g x.env u2
      have HE : Hid (F = inR n.len x.env) := by show _ = _; rw [HZ.out, Bool.and_true]
      go_wp2_with fail
      refine hc.mono ?_
      rintro _ u3 ⟨rfl, hb⟩
      have H3 := hyd (Below.next H2.out.1 hb)
      clear hc hb p2 l0 l1 H2
      go_wp2
      go_ret
      exact ⟨ret_bool HE.out.symm, H3.out⟩
    · have ds : ((x.sl.len : Int) == f.sl) = false := by simpa using hs
      have HE : Hid (F = false) := by show _ = _; rw [HY.out, decide_eq_false hs]; simp
      clear hs
      go_wp2
      go_ret
      exact ⟨ret_bool HE.out.symm, H1.out.1⟩
  · have d8 : decide ((x.st.len : Int) ≤ 8) = false := by simp; omega
    have HE : Hid (F = false) := by show _ = _; rw [HX.out, decide_eq_false h8]; simp
    clear h8
    go_wp2
    go_ret
    exact ⟨ret_bool HE.out.symm, H0.out.1⟩
end Go.Proofs.YtdplabhgdonbiaaDoor

/- Layer 13: the reference's region. -/
namespace Go.Proofs.YtdplabhgdonbiaaDoor
open Go Go.RowKit

set_option maxRecDepth 100000 in
set_option maxHeartbeats 8000000 in
theorem rregion_any (x : Rn) (w : World) (hx : x.At w) : Calls Tryd.prog 51 #[.agg #[.int .i64 x.at_, .int .i64 x.join, .slice x.ps.ao x.ps.len x.ps.cap]] w fun e w' => e = .returned (.bool x.fm) ∧ Below w.heap.size w w' := by
  have B1 := below_alloc w (.cells #[.int .i64 x.at_, .int .i64 x.join, .slice x.ps.ao x.ps.len x.ps.cap] 58)
  have b := Blk.new w [.int .i64 x.at_, .int .i64 x.join, .slice x.ps.ao x.ps.len x.ps.cap] 58
  have H0 := hyd (show Below w.heap.size w _ ∧ _ from ⟨B1, b⟩)
  have HD := hyd hx
  have HX : Hid (x.fm = (((shB x.at_ && (decide (-1 ≤ x.join) && decide (x.join ≤ 65534))) && decide (x.ps.len ≤ 2000)) && decide (∀ i, i < x.ps.len → shB (x.ps.x i) = true))) := rfl
  have hbd := hx.ps.bound
  have hnil := hx.ps.nil
  generalize x.fm = F at *
  clear B1 b hx
  have c0 := H0.out.2.cell 0 rfl
  have hc := rshort13_any x.at_ (w.alloc (.cells #[.int .i64 x.at_, .int .i64 x.join, .slice x.ps.ao x.ps.len x.ps.cap] 58))
  generalize shB x.at_ = b1 at *
  go_enter Tryd.func51, Tryd.ntmps51
  go_wp2_with fail
  refine hc.mono ?_
  rintro _ u1 ⟨rfl, hb⟩
  have H1 := hyd (show Below w.heap.size w u1 ∧ Blk u1 w.heap.size _ _ from ⟨Below.next H0.out.1 hb, H0.out.2.kept hb⟩)
  clear hc hb c0 H0
  cases b1
  · have HE : Hid (F = false) := by show _ = _; rw [HX.out]; simp
    go_wp2
    go_ret
    exact ⟨ret_bool HE.out.symm, H1.out.1⟩
  have c1 := H1.out.2.cell 1 rfl
  have c2 := H1.out.2.cell 2 rfl
  by_cases h1 : x.join < -1
  · have d1 : decide (x.join < -1) = true := decide_eq_true h1
    have HE : Hid (F = false) := by show _ = _; rw [HX.out, decide_eq_false (show ¬ -1 ≤ x.join by omega)]; simp
    go_wp2
    go_ret
    exact ⟨ret_bool HE.out.symm, H1.out.1⟩
  have d1 : decide (x.join < -1) = false := decide_eq_false h1
  by_cases h2 : 65534 < x.join
  · have d2 : decide (65534 < x.join) = true := decide_eq_true h2
    have HE : Hid (F = false) := by show _ = _; rw [HX.out, decide_eq_false (show ¬ x.join ≤ 65534 by omega)]; simp
    go_wp2
    go_ret
    exact ⟨ret_bool HE.out.symm, H1.out.1⟩
  have d2 : decide (65534 < x.join) = false := decide_eq_false h2
  by_cases h3 : 2000 < x.ps.len
  · have d3 : decide ((2000 : Int) < x.ps.len) = true := by simp; omega
    have HE : Hid (F = false) := by show _ = _; rw [HX.out, decide_eq_false (show ¬ x.ps.len ≤ 2000 by omega)]; simp
    go_wp2
    go_ret
    exact ⟨ret_bool HE.out.symm, H1.out.1⟩
  have d3 : decide ((2000 : Int) < x.ps.len) = false := by simp; omega
  have HA : Hid (F = decide (∀ i, i < x.ps.len → shB (x.ps.x i) = true)) := by show _ = _; rw [HX.out, decide_eq_true (show -1 ≤ x.join by omega), decide_eq_true (show x.join ≤ 65534 by omega), decide_eq_true (show x.ps.len ≤ 2000 by omega)]; simp
  clear HX h1 h2 h3
  go_wp2
  go_loopw [3] (fun i wr => ∃ (j : Nat), j ≤ x.ps.len ∧ i = .int .i64 j ∧ (Below w.heap.size w wr ∧ Blk wr w.heap.size [.int .i64 x.at_, .int .i64 x.join, .slice x.ps.ao x.ps.len x.ps.cap] 58) ∧ (∀ i, i < j → shB (x.ps.x i) = true)) (fun i _ => x.ps.len - (intOf i).toNat)
  case atStart => exact ⟨0, Nat.zero_le _, rfl, H1.out, fun i hi => absurd hi (Nat.not_lt_zero _)⟩
  case round =>
    clear H1 c1 c2 d1 d2 d3
    obtain ⟨j, hj, rfl, hBl, hall⟩ := hrel
    have HB := hyd hBl
    have HL := hyd hall
    clear hBl hall
    have c2 := HB.out.2.cell 2 rfl
    by_cases hlt : j < x.ps.len
    · have ij : (j : Int) < x.ps.len := by omega
      rw [hnil (by omega)] at c2
      have r0 : wr.cell? ⟨x.ps.b, x.ps.o + j, none⟩ = some (.int .i64 (x.ps.x j)) := by have := (HD.out.ps.kept HB.out.1).row j hlt 0 _ rfl; simpa using this
      have hc := rshort13_any (x.ps.x j) wr
      have H5 : Hid (∀ b, b = shB (x.ps.x j) → (b = true → ∀ i, i < j + 1 → shB (x.ps.x i) = true) ∧ (b = false → F = false)) := by
        intro b hb
        refine ⟨fun h1 i hi => ?_, fun h1 => ?_⟩
        · rcases Nat.lt_or_ge i j with h2 | h2
          · exact HL.out i h2
          · have : i = j := by omega
            subst this
            exact hb.symm.trans h1
        · rw [HA.out, decide_eq_false_iff_not]
          intro hh
          have h2 := hh j hlt
          rw [← hb, h1] at h2
          cases h2
      have H6 := hyd (H5.out _ rfl)
      clear H5
      generalize shB (x.ps.x j) = bb at *
      go_wp2_with fail
      refine hc.mono ?_
      rintro _ u2 ⟨rfl, hb⟩
      have HB2 := hyd (show Below w.heap.size w u2 ∧ Blk u2 w.heap.size _ _ from ⟨Below.next HB.out.1 hb, HB.out.2.kept hb⟩)
      clear hc hb c2 r0 HB
      cases bb
      · go_wp2
        go_ret
        exact ⟨ret_bool (H6.out.2 (by simp)).symm, HB2.out.1⟩
      · go_wp2
        go_roundw
        case rel => exact ⟨j + 1, by omega, by go_num, HB2.out, H6.out.1 (by simp)⟩
        case measure => simp [intOf]; omega
    · have e2 : ¬ (j : Int) < x.ps.len := by omega
      have HE : Hid (F = true) := by show _ = _; rw [HA.out, decide_eq_true_eq]; intro i hi; exact HL.out i (by omega)
      go_wp2
      go_ret
      exact ⟨ret_bool HE.out.symm, HB.out.1⟩
end Go.Proofs.YtdplabhgdonbiaaDoor
