/- Layer 14: what rule 4 asks of regions, rule 2 of an instruction. -/
import Derived.Test.YtdplabhgdonbiaaDoorP15
import Derived.Test.YtdplabhgdonbiaaDoorP13
import Derived.Test.YtdplabhgdonbiaaDoorP11
namespace Go.Proofs.YtdplabhgdonbiaaDoor
open Go Go.RowKit

set_option maxRecDepth 100000 in
set_option maxHeartbeats 8000000 in
theorem regions_any14 (f : Cf) (w : World) (hf : f.At w) : Calls Tryd.prog 33 #[.agg f.vs.toArray] w fun e w' => e = .returned (.bool f.regB) ∧ Below w.heap.size w w' := by
  have B1 := below_alloc w (.cells f.vs.toArray 43)
  have b := Blk.new w f.vs 43
  have H1 := hyd (show Below w.heap.size w _ ∧ _ from ⟨B1, b⟩)
  have HD := hyd hf
  have HA : Hid (f.regB = decide (∀ i, i < f.rg.len → ((f.ah i < (f.rg.x i).at_ ∧ (f.rg.x i).at_ < f.cd.len) ∧ (f.rg.x i).joinB f.cd.len = true) ∧ (f.rg.x i).plcB f.cd.len = true)) := rfl
  have hbd := hf.rg.bound
  have hnil := hf.rg.nil
  generalize f.regB = F at *
  have c17 := b.cell 17 rfl
  clear B1 b hf
  generalize hw0 : w.alloc (.cells f.vs.toArray 43) = u0 at *
  have HN : Hid (∀ (j : Nat) (wr : World), j < f.rg.len → Below w.heap.size w wr → wr.rangeAt f.rg.b (f.rg.o + j * 3) (f.rg.x j).vs) := fun j wr hj hb => (HD.out.rg.kept hb).row j hj
  have HNo : Hid (∀ j, j < f.rg.len → ¬ (((f.ah j < (f.rg.x j).at_ ∧ (f.rg.x j).at_ < f.cd.len) ∧ (f.rg.x j).joinB f.cd.len = true) ∧ (f.rg.x j).plcB f.cd.len = true) → F = false) := fun j hj h => by
    rw [HA.out, decide_eq_false_iff_not]
    exact fun hh => h (hh j hj)
  by_cases h0 : f.rg.len = 0
  · have HE : Hid (F = true) := by show _ = _; rw [HA.out, decide_eq_true_eq]; intro i hi; omega
    have i0 : ¬ (0 : Int) < f.rg.len := by omega
    clear h0
    go_enter Tryd.func33, Tryd.ntmps33
    go_wp2
    go_loopw [9] (fun i wr => i = .int .i64 0 ∧ Below w.heap.size w wr) (fun _ _ => 0)
    case atStart => exact ⟨rfl, H1.out.1⟩
    case round =>
      obtain ⟨rfl, hb⟩ := hrel
      have HB := hyd hb
      clear hb
      go_wp2
      go_ret
      exact ⟨ret_bool HE.out.symm, HB.out⟩
  · have a0 := hnil (by omega)
    rw [a0] at c17
    have HA0 := hyd a0
    clear a0 hnil
    go_enter Tryd.func33, Tryd.ntmps33
    go_wp2
    clear hw0
    go_loopw [3, 9] (fun a i wr => ∃ (j : Nat), j ≤ f.rg.len ∧ a = .int .i64 (f.ah j) ∧ i = .int .i64 j ∧ (Below w.heap.size w wr ∧ Blk wr w.heap.size f.vs 43) ∧ (∀ i, i < j → ((f.ah i < (f.rg.x i).at_ ∧ (f.rg.x i).at_ < f.cd.len) ∧ (f.rg.x i).joinB f.cd.len = true) ∧ (f.rg.x i).plcB f.cd.len = true)) (fun _ i _ => f.rg.len - (intOf i).toNat)
    case atStart => exact ⟨0, Nat.zero_le _, rfl, rfl, H1.out, fun i hi => absurd hi (Nat.not_lt_zero _)⟩
    case round =>
      clear H1 c17
      obtain ⟨j, hj, rfl, rfl, hBl, hall⟩ := hrel
      have HB := hyd hBl
      have HL := hyd hall
      clear hBl hall
      by_cases hlt : j < f.rg.len
      · have ij : (j : Int) < f.rg.len := by omega
        have r0 := HN.out j wr hlt HB.out.1
        have HNo2 := hyd (HNo.out j hlt)
        have HY := hyd (all_step14 (P := fun i => ((f.ah i < (f.rg.x i).at_ ∧ (f.rg.x i).at_ < f.cd.len) ∧ (f.rg.x i).joinB f.cd.len = true) ∧ (f.rg.x i).plcB f.cd.len = true) HL.out)
        have HJ : Hid (f.ah (j + 1) = (f.rg.x j).at_) := rfl
        have B2 := below_alloc wr (.cells (f.rg.x j).vs.toArray 58)
        have bH := Blk.new wr (f.rg.x j).vs 58
        have HX := hyd (Rn.At.kept (Below.next HB.out.1 B2) (HD.out.rg.each j hlt))
        have HB2 := hyd (show Below w.heap.size w _ ∧ Blk _ w.heap.size f.vs 43 ∧ Blk _ wr.heap.size (f.rg.x j).vs 58 from ⟨Below.next HB.out.1 B2, HB.out.2.kept B2, bH⟩)
        clear B2 bH HB
        generalize f.ah j = q at *
        generalize hh : f.rg.x j = x at *
        go_upto_region 5 with (first | (refine wpList_load_mid rfl 58 (.tmp 11) rfl f.rg.b (f.rg.o + j * 3) (by kernel_rfl) x.vs _ r0 Tryd.underlying58 rfl (by kernel_rfl) ?_) | (refine wpList_new_mid rfl rfl 58 rfl (.tmp 5) (.tmp 12) rfl z_rn (alloc_rn _) rfl x.vs.toArray (by kernel_rfl) (by kernel_rfl) rfl (by kernel_rfl) (by simpa using x.vs_one) ?_))
        clear hh r0
        generalize wr.alloc (.cells x.vs.toArray 58) = u2 at *
        generalize wr.heap.size = BH at *
        have c14 := HB2.out.2.1.cell 14 rfl
        have d0 := HB2.out.2.2.cell 0 rfl
        have d1 := HB2.out.2.2.cell 1 rfl
        have d2 := HB2.out.2.2.cell 2 rfl
        by_cases k1 : q < x.at_
        · have l1 : ¬ x.at_ ≤ q := by omega
          by_cases k2 : x.at_ < (f.cd.len : Int)
          · have l2 : ¬ (f.cd.len : Int) ≤ x.at_ := by omega
            have HK := hyd (show q < x.at_ ∧ x.at_ < (f.cd.len : Int) from ⟨k1, k2⟩)
            have hc := join_any14 x f.cd.len u2
            generalize x.joinB f.cd.len = jb at *
            clear k1 k2
            go_wp2_with fail
            refine hc.mono ?_
            rintro _ u3 ⟨rfl, hb3⟩
            have HB3 := hyd (show Below w.heap.size w _ ∧ Blk _ w.heap.size f.vs 43 ∧ Blk _ BH x.vs 58 from ⟨Below.next HB2.out.1 hb3, HB2.out.2.1.kept hb3, HB2.out.2.2.kept hb3⟩)
            have HX3 := hyd (Rn.At.kept hb3 HX.out)
            clear hc hb3 c14 d0 d1 d2 HX HB2
            cases jb
            · have HE := hyd (HNo2.out (fun h => by have := h.1.2; cases this))
              go_wp2
              go_ret
              exact ⟨ret_bool HE.out.symm, HB3.out.1⟩
            · have c14 := HB3.out.2.1.cell 14 rfl
              have d0 := HB3.out.2.2.cell 0 rfl
              have d1 := HB3.out.2.2.cell 1 rfl
              have d2 := HB3.out.2.2.cell 2 rfl
              have hc := places_any14 x f.cd.len u3 HX3.out
              generalize x.plcB f.cd.len = pb at *
              go_wp2_with fail
              refine hc.mono ?_
              rintro _ u4 ⟨rfl, hb4⟩
              have HB4 := hyd (show Below w.heap.size w _ ∧ Blk _ w.heap.size f.vs 43 ∧ Blk _ BH x.vs 58 from ⟨Below.next HB3.out.1 hb4, HB3.out.2.1.kept hb4, HB3.out.2.2.kept hb4⟩)
              clear hc hb4 c14 d0 d1 d2 HX3 HB3
              have d0 := HB4.out.2.2.cell 0 rfl
              cases pb
              · have HE := hyd (HNo2.out (fun h => by have := h.2; cases this))
                go_wp2
                go_ret
                exact ⟨ret_bool HE.out.symm, HB4.out.1⟩
              · have HE := hyd (HY.out (by have h := HK.out; simpa using h))
                go_wp2
                go_roundw
                case rel => exact ⟨j + 1, by omega, by rw [HJ.out], by go_num, ⟨HB4.out.1, HB4.out.2.1⟩, HE.out⟩
                case measure => simp [intOf]; omega
          · have l2 : (f.cd.len : Int) ≤ x.at_ := by omega
            have HE := hyd (HNo2.out (fun h => k2 h.1.1.2))
            clear k1 k2
            go_wp2
            go_ret
            exact ⟨ret_bool HE.out.symm, HB2.out.1⟩
        · have l1 : x.at_ ≤ q := by omega
          have HE := hyd (HNo2.out (fun h => k1 h.1.1.1))
          clear k1
          go_wp2
          go_ret
          exact ⟨ret_bool HE.out.symm, HB2.out.1⟩
      · have e2 : ¬ (j : Int) < f.rg.len := by omega
        have HE : Hid (F = true) := by show _ = _; rw [HA.out, decide_eq_true_eq]; intro i hi; exact HL.out i (by omega)
        go_wp2
        go_ret
        exact ⟨ret_bool HE.out.symm, HB.out.1⟩

set_option maxRecDepth 100000 in
set_option maxHeartbeats 8000000 in
theorem number_any14 (c : Kl) (f : Cf) (i : Nat) (w : World) (hf : f.At w) (hi : i < f.cd.len) : Calls Tryd.prog 39 #[.agg #[.slice c.n.ao c.n.len c.n.cap, .slice c.g.ao c.g.len c.g.cap, .slice c.fs.ao c.fs.len c.fs.cap], .agg f.vs.toArray, .int .i64 i] w fun e w' => e = .returned (.bool ((f.cd.x i).nhB c.fs.len c.n.len f.sl f.cd.len i)) ∧ Below w.heap.size w w' := by
  have B0 := below_alloc w (.cells #[.slice c.n.ao c.n.len c.n.cap, .slice c.g.ao c.g.len c.g.cap, .slice c.fs.ao c.fs.len c.fs.cap] 28)
  have b0 := Blk.new w [.slice c.n.ao c.n.len c.n.cap, .slice c.g.ao c.g.len c.g.cap, .slice c.fs.ao c.fs.len c.fs.cap] 28
  have hs : (w.alloc (.cells #[.slice c.n.ao c.n.len c.n.cap, .slice c.g.ao c.g.len c.g.cap, .slice c.fs.ao c.fs.len c.fs.cap] 28)).heap.size = w.heap.size + 1 := alloc_size _ _
  have B1 := below_alloc (w.alloc (.cells #[.slice c.n.ao c.n.len c.n.cap, .slice c.g.ao c.g.len c.g.cap, .slice c.fs.ao c.fs.len c.fs.cap] 28)) (.cells f.vs.toArray 43)
  have b1 := Blk.new (w.alloc (.cells #[.slice c.n.ao c.n.len c.n.cap, .slice c.g.ao c.g.len c.g.cap, .slice c.fs.ao c.fs.len c.fs.cap] 28)) f.vs 43
  have HB := hyd (Below.next B0 B1)
  have e0 := (b0.kept B1).cell 0 rfl
  have e2 := (b0.kept B1).cell 2 rfl
  rw [hs] at b1
  have f13 := b1.cell 13 rfl
  have f14 := b1.cell 14 rfl
  have r0 := range_kept (hf.cd.row i hi) (Below.next B0 B1) 0 _ rfl
  have r1 := range_kept (hf.cd.row i hi) (Below.next B0 B1) 1 _ rfl
  simp only [Nat.add_zero] at r0
  rw [hf.cd.nil (by omega)] at f14
  have hbd := hf.cd.bound
  have hia := (hf.cd.each i hi).a
  have ij : (i : Int) < f.cd.len := by omega
  have HX : Hid ((f.cd.x i).nhB c.fs.len c.n.len f.sl f.cd.len i = (if (f.cd.x i).op = 3 ∨ (f.cd.x i).op = 4 then btw (f.cd.x i).a 0 f.sl else if (f.cd.x i).op = 17 then btw (f.cd.x i).a 0 c.fs.len else if (f.cd.x i).op = 23 then btw (f.cd.x i).a 0 c.n.len else if (f.cd.x i).op = 24 ∨ (f.cd.x i).op = 25 then btw (f.cd.x i).a ((i : Int) + 1) f.cd.len else true)) := rfl
  have hw : wrap64 ((i : Int) + 1) = (i : Int) + 1 := by unfold wrap64; omega
  generalize (f.cd.x i).nhB c.fs.len c.n.len f.sl f.cd.len i = F at *
  generalize (f.cd.x i).op = op at *
  generalize (f.cd.x i).a = a at *
  clear B0 b0 B1 b1 hf hia
  generalize hw0 : w.alloc (.cells #[.slice c.n.ao c.n.len c.n.cap, .slice c.g.ao c.g.len c.g.cap, .slice c.fs.ao c.fs.len c.fs.cap] 28) = u0 at *
  generalize hw1 : u0.alloc (.cells f.vs.toArray 43) = u1 at *
  have HW := hyd hw
  by_cases o3 : op = 3
  · subst o3
    have HE : Hid (F = btw a 0 f.sl) := by show _ = _; rw [HX.out]; rfl
    have hc := between_any a 0 f.sl u1
    generalize btw a 0 f.sl = bb at *
    go_enter Tryd.func39, Tryd.ntmps39
    go_wp2_with fail
    refine hc.mono ?_
    rintro _ u2 ⟨rfl, hb⟩
    have HB2 := hyd (Below.next HB.out hb)
    clear hc hb e0 e2 f13 f14 r0 r1 hw0 hw1
    go_wp2
    go_ret
    exact ⟨ret_bool HE.out.symm, HB2.out⟩
  have n3 : (op == 3) = false := by simpa using o3
  by_cases o4 : op = 4
  · subst o4
    have HE : Hid (F = btw a 0 f.sl) := by show _ = _; rw [HX.out]; rfl
    have hc := between_any a 0 f.sl u1
    generalize btw a 0 f.sl = bb at *
    clear n3
    go_enter Tryd.func39, Tryd.ntmps39
    go_wp2_with fail
    refine hc.mono ?_
    rintro _ u2 ⟨rfl, hb⟩
    have HB2 := hyd (Below.next HB.out hb)
    clear hc hb e0 e2 f13 f14 r0 r1 hw0 hw1
    go_wp2
    go_ret
    exact ⟨ret_bool HE.out.symm, HB2.out⟩
  have n4 : (op == 4) = false := by simpa using o4
  by_cases o17 : op = 17
  · subst o17
    have HE : Hid (F = btw a 0 c.fs.len) := by show _ = _; rw [HX.out]; rfl
    have hc := between_any a 0 c.fs.len u1
    generalize btw a 0 c.fs.len = bb at *
    clear n3 n4
    go_enter Tryd.func39, Tryd.ntmps39
    go_wp2_with fail
    refine hc.mono ?_
    rintro _ u2 ⟨rfl, hb⟩
    have HB2 := hyd (Below.next HB.out hb)
    clear hc hb e0 e2 f13 f14 r0 r1 hw0 hw1
    go_wp2
    go_ret
    exact ⟨ret_bool HE.out.symm, HB2.out⟩
  have n17 : (op == 17) = false := by simpa using o17
  by_cases o23 : op = 23
  · subst o23
    have HE : Hid (F = btw a 0 c.n.len) := by show _ = _; rw [HX.out]; rfl
    have hc := between_any a 0 c.n.len u1
    generalize btw a 0 c.n.len = bb at *
    clear n3 n4 n17
    go_enter Tryd.func39, Tryd.ntmps39
    go_wp2_with fail
    refine hc.mono ?_
    rintro _ u2 ⟨rfl, hb⟩
    have HB2 := hyd (Below.next HB.out hb)
    clear hc hb e0 e2 f13 f14 r0 r1 hw0 hw1
    go_wp2
    go_ret
    exact ⟨ret_bool HE.out.symm, HB2.out⟩
  have n23 : (op == 23) = false := by simpa using o23
  by_cases o24 : op = 24
  · subst o24
    have HE : Hid (F = btw a ((i : Int) + 1) f.cd.len) := by show _ = _; rw [HX.out]; rfl
    have hc := between_any a ((i : Int) + 1) f.cd.len u1
    generalize btw a ((i : Int) + 1) f.cd.len = bb at *
    clear n3 n4 n17 n23
    go_enter Tryd.func39, Tryd.ntmps39
    go_wp2_with fail
    refine hc.mono ?_
    rintro _ u2 ⟨rfl, hb⟩
    have HB2 := hyd (Below.next HB.out hb)
    clear hc hb e0 e2 f13 f14 r0 r1 hw0 hw1
    go_wp2
    go_ret
    exact ⟨ret_bool HE.out.symm, HB2.out⟩
  have n24 : (op == 24) = false := by simpa using o24
  by_cases o25 : op = 25
  · subst o25
    have HE : Hid (F = btw a ((i : Int) + 1) f.cd.len) := by show _ = _; rw [HX.out]; rfl
    have hc := between_any a ((i : Int) + 1) f.cd.len u1
    generalize btw a ((i : Int) + 1) f.cd.len = bb at *
    clear n3 n4 n17 n23 n24
    go_enter Tryd.func39, Tryd.ntmps39
    go_wp2_with fail
    refine hc.mono ?_
    rintro _ u2 ⟨rfl, hb⟩
    have HB2 := hyd (Below.next HB.out hb)
    clear hc hb e0 e2 f13 f14 r0 r1 hw0 hw1
    go_wp2
    go_ret
    exact ⟨ret_bool HE.out.symm, HB2.out⟩
  have n25 : (op == 25) = false := by simpa using o25
  have HE : Hid (F = true) := by show _ = _; rw [HX.out, if_neg (by omega), if_neg (by omega), if_neg (by omega), if_neg (by omega)]
  clear o3 o4 o17 o23 o24 o25
  go_enter Tryd.func39, Tryd.ntmps39
  go_wp2
  go_ret
  exact ⟨ret_bool HE.out.symm, HB.out⟩
end Go.Proofs.YtdplabhgdonbiaaDoor

/- Layer 13: what is put into a pool: what was there stays, and it grows by no more than there are nodes. -/
namespace Go.Proofs.YtdplabhgdonbiaaDoor
open Go.RowKit

theorem itr_pre {f : Nat → List Ty → List Ty} (hf : ∀ i R (a : Nat) (s : Ty), R[a]? = some s → (f i R)[a]? = some s) : ∀ (j : Nat) (R : List Ty) (a : Nat) (s : Ty), R[a]? = some s → (itr f j R)[a]? = some s
  | 0, _, _, _, h => h
  | j + 1, R, a, s, h => hf j _ a s (itr_pre hf j R a s h)
theorem putT_pre : ∀ (t : Ty) (R : List Ty) (a : Nat) (s : Ty), R[a]? = some s → (putT t R)[a]? = some s
  | .dm, _, _, _, h => h
  | .mk k l hh e ao b o len cap ps, R, a, s, h => by
    have h1 := itr_pre (f := fun i => putT (ps i)) (fun i R a s => putT_pre (ps i) R a s) len R a s h
    rw [putT]
    split
    · exact h1
    · exact pre_get h1
theorem itr_len {f : Nat → List Ty → List Ty} {c : Nat → Nat} (hf : ∀ i R, (f i R).length ≤ R.length + c i) : ∀ (j : Nat) (R : List Ty), (itr f j R).length ≤ R.length + sumTo c j
  | 0, R => by simp [itr, sumTo]
  | j + 1, R => by
    have h1 := hf j (itr f j R)
    have h2 := itr_len hf j R
    show (f j (itr f j R)).length ≤ R.length + (sumTo c j + c j)
    omega
theorem putT_len : ∀ (t : Ty) (R : List Ty), (putT t R).length ≤ R.length + t.nodes
  | .dm, R => by simp [putT]
  | .mk k l hh e ao b o len cap ps, R => by
    have h1 := itr_len (f := fun i => putT (ps i)) (c := fun i => (ps i).nodes) (fun i R => putT_len (ps i) R) len R
    have h2 : (Ty.mk k l hh e ao b o len cap ps).nodes = 1 + sumTo (fun i => (ps i).nodes) len := rfl
    rw [putT]
    split
    · omega
    · rw [List.length_append]
      have : [Ty.mk k l hh e ao b o len cap ps].length = 1 := rfl
      omega
/-- A Part's place, wherever. -/
def PrtAt (R : List Ty) (t : Ty) (x : Int) : Prop := ∃ (a : Nat) (s : Ty), x = a ∧ R[a]? = some s ∧ s.same t = true
theorem PrtAt.pre {R R' : List Ty} {t : Ty} {x : Int} (h : PrtAt R t x) (hR : ∀ (a : Nat) (s : Ty), R[a]? = some s → R'[a]? = some s) : PrtAt R' t x := by
  obtain ⟨a, s, h1, h2, h3⟩ := h
  exact ⟨a, s, h1, hR a s h2, h3⟩
theorem PrtAt.prt {R : List Ty} {t : Ty} {j : Nat} {x : Int} (h1 : j < t.len → PrtAt R (t.ps j) x) (h2 : ¬ j < t.len → x = -1) : Prt R R.length t j x :=
  ⟨fun hj => by obtain ⟨a, s, e, hs, hss⟩ := h1 hj; exact ⟨a, s, e, (List.getElem?_eq_some_iff.1 hs).1, hs, hss⟩, h2⟩
theorem takeT_len (R : List Ty) (t : Ty) : (takeT R t).length ≤ R.length + t.nodes := by
  unfold takeT
  split
  · omega
  · exact putT_len t R
end Go.Proofs.YtdplabhgdonbiaaDoor

/- A region that draws its order: all that only reads or moves comes first, wherever it stands; what is left is one behind the other. -/
namespace Go.Proofs.YtdplabhgdonbiaaDoor
open Go Go.RowKit

section
variable {P : Program} {ops : Array Oper} {Q : Exit → Act → World → Prop}
def isReadM (o : Oper) : Bool := match o.op with
  | .load .. | .fieldAddr .. | .indexAddr .. | .extract .. | .move .. => true
  | _ => false
theorem readM_value {o : Oper} (h : isReadM o = true) (ρ : Operand → Value) (w w' : World) (n : Next) (hr : (execOp ρ o).run P w = .ok n w') : ∃ u, n = .value u := by
  cases ho : o.op
  case load => unfold execOp at hr; rw [ho] at hr; exact run_val hr
  case fieldAddr => unfold execOp at hr; rw [ho] at hr; exact run_val hr
  case indexAddr => unfold execOp at hr; rw [ho] at hr; exact run_val hr
  case extract => unfold execOp at hr; rw [ho] at hr; exact run_val hr
  case move => unfold execOp at hr; rw [ho] at hr; exact ⟨_, (Result.ok.inj hr).1.symm⟩
  all_goals (unfold isReadM at h; rw [ho] at h; cases h)
theorem yieldsIf_of_quietM {S : World → Prop} {o : Oper} {a : Act} {K : Act → Prop} (hr : isReadM o = true) (h : if Region.wanted o (yielded ops a.tmps) then o.quiet P a S K else K (a.put o.dst undef)) : ∃ v, YieldsIf P ops S o v a ∧ K (a.put o.dst v) := by
  by_cases hw : Region.wanted o (yielded ops a.tmps) = true
  · rw [if_pos hw] at h
    obtain ⟨v, h1, h2⟩ := h
    refine ⟨v, Or.inl ⟨hw, fun w hS => ?_⟩, h2⟩
    have h3 := h1 w hS
    unfold Oper.quietAt at h3
    cases hq : (execOp a.eval o).run P w with
    | ok n w' =>
      obtain ⟨u, rfl⟩ := readM_value hr _ _ _ _ hq
      rw [hq] at h3
      simp only [Oper.quietUpon] at h3
      rw [h3.1, h3.2]
    | halt x w' => rw [hq] at h3; simp only [Oper.quietUpon] at h3
  · rw [if_neg hw] at h
    exact ⟨undef, Or.inr ⟨by simpa using hw, rfl⟩, h⟩
def lexM (ops : Array Oper) : List Nat → List Oper → Array Bool → Bool
  | [], [], _ => true
  | i :: js, o :: l, listed => isReadM o && (Region.ready .any ops listed).contains i && Region.free .any ops listed i && lexM ops js l (listed.setIfInBounds i true)
  | _, _, _ => false
theorem wpAnyH_readsM {S : World → Prop} {K : Act → Prop} {rest : Nat} {w : World} (hs : Region.noSelect ops = true) (hQ : ∀ c a d v w, Q (.panic c) (Act.put a d v) w → Q (.panic c) a w) (hS : S w) : ∀ (js : List Nat) (l : List Oper) (listed : Array Bool) (a : Act), (∀ j, j < l.length → ∃ i, js[j]? = some i ∧ ops[i]? = l[j]?) →
    lexM ops js l listed = true → wpQuiet P ops S K l a → (∀ a', K a' → wpAnyH P .any ops Q S rest (listedI js listed) a' w) → wpAnyH P .any ops Q S (js.length + rest) listed a w
  | [], [], _, _, _, _, h, hK => by simpa [listedI] using hK _ h
  | [], _ :: _, _, _, _, hB, _, _ => by simp [lexM] at hB
  | _ :: _, [], _, _, _, hB, _, _ => by simp [lexM] at hB
  | i :: js, o :: l, listed, a, hl, hB, h, hK => by
    have h0 : ops[i]? = some o := by
      obtain ⟨i', h1, h2⟩ := hl 0 (by simp)
      have : i = i' := by simpa using h1
      subst this
      simpa using h2
    simp only [lexM, Bool.and_eq_true] at hB
    obtain ⟨⟨⟨hr, hc⟩, hf⟩, hB'⟩ := hB
    have h' : if Region.wanted o (yielded ops a.tmps) then o.quiet P a S (wpQuiet P ops S K l) else wpQuiet P ops S K l (a.put o.dst undef) := h
    obtain ⟨v, hy, hk⟩ := yieldsIf_of_quietM (ops := ops) hr h'
    rw [show (i :: js).length + rest = (js.length + rest) + 1 by simp; omega]
    exact wpAnyH_take h0 hs hf hc (fun c a w => hQ c a _ _ w) hy hS (wpAnyH_readsM hs hQ hS js l _ _ (fun j hj => by
      obtain ⟨i', h1, h2⟩ := hl (j + 1) (by simp; omega)
      exact ⟨i', by simpa using h1, by simpa using h2⟩) hB' hk hK)
/-- A region that draws: first all that only reads. -/
theorem wp_region_readsM {id : Nat} {a : Act} {w : World} {l : List Oper} (S : World → Prop) (js : List Nat) (rest : Nat) (hm : P.follows .mixedOrders = true) (hlen : l.length = js.length + rest) (hB : (Region.noSelect l.toArray && lexM l.toArray js (js.filterMap (l[·]?)) (Array.replicate l.length false)) = true) (hj : ∀ j, j < (js.filterMap (l[·]?)).length → ∃ i, js[j]? = some i ∧ l.toArray[i]? = (js.filterMap (l[·]?))[j]?)
    (hQ : ∀ c a d v w, Q (.panic c) (Act.put a d v) w → Q (.panic c) a w) (hS : S w.drew)
    (h : wpQuiet P l.toArray (fun u => ∃ x : Wd S, u = x.w) (fun a' => wpAnyH P .any l.toArray Q S rest (listedI js (Array.replicate l.length false)) a' w.drew) (js.filterMap (l[·]?)) a) : (Code.region id l.toArray true).wp P Q a w := by
  simp only [Bool.and_eq_true] at hB
  refine wp_region_held_drew (S := S) hm hS fun hS => ?_
  have e3 : Array.replicate l.toArray.size false = Array.replicate l.length false := by simp
  have e2 : l.toArray.size = js.length + rest := by simpa using hlen
  have eS : (fun u : World => ∃ x : Wd S, u = x.w) = S := by
    funext u; apply propext
    exact ⟨fun ⟨x, hx⟩ => hx ▸ x.2, fun h => ⟨⟨u, h⟩, rfl⟩⟩
  rw [eS] at h
  rw [e3, e2]
  exact wpAnyH_readsM hB.1 hQ hS js _ _ a hj hB.2 h (fun a' h => h)
end
/-- The same where nothing panics. -/
def NoPanM (Q : Exit → Act → World → Prop) (e : Exit) (a : Act) (w : World) : Prop := (∀ c, e ≠ .panic c) ∧ Q e a w
theorem wp_region_readsMN {P : Program} {Q : Exit → Act → World → Prop} {id : Nat} {a : Act} {w : World} {l : List Oper} (S : World → Prop) (js : List Nat) (rest : Nat) (hm : P.follows .mixedOrders = true) (hlen : l.length = js.length + rest) (hB : (Region.noSelect l.toArray && lexM l.toArray js (js.filterMap (l[·]?)) (Array.replicate l.length false)) = true) (hj : ∀ j, j < (js.filterMap (l[·]?)).length → ∃ i, js[j]? = some i ∧ l.toArray[i]? = (js.filterMap (l[·]?))[j]?)
    (hS : S w.drew)
    (h : wpQuiet P l.toArray (fun u => ∃ x : Wd S, u = x.w) (fun a' => wpAnyH P .any l.toArray (NoPanM Q) S rest (listedI js (Array.replicate l.length false)) a' w.drew) (js.filterMap (l[·]?)) a) : (Code.region id l.toArray true).wp P Q a w :=
  Code.wp_mono (fun _ _ _ h => h.2) (wp_region_readsM S js rest hm hlen hB hj (fun c _ _ _ _ h => absurd rfl (h.1 c)) hS h)
end Go.Proofs.YtdplabhgdonbiaaDoor

/- A region that draws its order: all that reads, moves, reckons or asks for nil comes first, wherever it stands; what is left is one behind the other. -/
namespace Go.Proofs.YtdplabhgdonbiaaDoor
open Go Go.RowKit

section
variable {P : Program} {ops : Array Oper} {Q : Exit → Act → World → Prop}
theorem bind_val {A : Type} {s : Sem A} {k : A → Sem Next} {w w' : World} {n : Next} (hk : ∀ a u u', (k a).run P u = .ok n u' → ∃ v, n = .value v) (hr : (do k (← s) : Sem Next).run P w = .ok n w') : ∃ u, n = .value u := by
  simp only [Sem.run_bind] at hr
  cases hq : s.run P w with
  | ok a w2 => rw [hq] at hr; simp only [Result.andThen_ok] at hr; exact hk _ _ _ hr
  | halt x w2 => rw [hq] at hr; simp [Result.andThen] at hr
def isReadQ (o : Oper) : Bool := match o.op with
  | .load .. | .fieldAddr .. | .indexAddr .. | .extract .. | .move .. | .binOp .. | .convert .. | .build .. | .slice .. | .nilCheck .. | .unOp .. | .pick .. | .field .. => true
  | _ => false
theorem readQ_value {o : Oper} (h : isReadQ o = true) (ρ : Operand → Value) (w w' : World) (n : Next) (hr : (execOp ρ o).run P w = .ok n w') : ∃ u, n = .value u := by
  cases ho : o.op
  case load => unfold execOp at hr; rw [ho] at hr; exact run_val hr
  case fieldAddr => unfold execOp at hr; rw [ho] at hr; exact run_val hr
  case indexAddr => unfold execOp at hr; rw [ho] at hr; exact run_val hr
  case extract => unfold execOp at hr; rw [ho] at hr; exact run_val hr
  case move => unfold execOp at hr; rw [ho] at hr; exact ⟨_, (Result.ok.inj hr).1.symm⟩
  case binOp => unfold execOp at hr; rw [ho] at hr; exact run_val hr
  case convert => unfold execOp at hr; rw [ho] at hr; exact run_val hr
  case build => unfold execOp at hr; rw [ho] at hr; exact run_val hr
  case slice => unfold execOp at hr; rw [ho] at hr; exact run_val hr
  case unOp => unfold execOp at hr; rw [ho] at hr; exact run_val hr
  case field => unfold execOp at hr; rw [ho] at hr; exact run_val hr
  case pick c x y =>
    unfold execOp at hr; rw [ho] at hr
    simp only [Sem.run_bind] at hr
    cases hq : (asBool (ρ c)).run P w with
    | ok v w2 => rw [hq] at hr; simp only [Result.andThen_ok, Sem.run_pure] at hr; exact ⟨_, (Result.ok.inj hr).1.symm⟩
    | halt x w2 => rw [hq] at hr; simp [Result.andThen] at hr
  case nilCheck x =>
    unfold execOp at hr; rw [ho] at hr
    simp only at hr
    split at hr
    · cases hr
    · cases hr
    · cases hr
    · split at hr
      · cases hr
      · refine bind_val (fun a u u' h1 => ?_) hr
        refine bind_val (fun b v v' h2 => ?_) h1
        split at h2
        · refine bind_val (fun c x x' h3 => ?_) h2
          exact ⟨_, (Result.ok.inj h3).1.symm⟩
        · exact ⟨_, (Result.ok.inj h2).1.symm⟩
      · exact ⟨_, (Result.ok.inj hr).1.symm⟩
    · exact ⟨_, (Result.ok.inj hr).1.symm⟩
  all_goals (unfold isReadQ at h; rw [ho] at h; cases h)
theorem yieldsIf_of_quietQ {S : World → Prop} {o : Oper} {a : Act} {K : Act → Prop} (hr : isReadQ o = true) (h : if Region.wanted o (yielded ops a.tmps) then o.quiet P a S K else K (a.put o.dst undef)) : ∃ v, YieldsIf P ops S o v a ∧ K (a.put o.dst v) := by
  by_cases hw : Region.wanted o (yielded ops a.tmps) = true
  · rw [if_pos hw] at h
    obtain ⟨v, h1, h2⟩ := h
    refine ⟨v, Or.inl ⟨hw, fun w hS => ?_⟩, h2⟩
    have h3 := h1 w hS
    unfold Oper.quietAt at h3
    cases hq : (execOp a.eval o).run P w with
    | ok n w' =>
      obtain ⟨u, rfl⟩ := readQ_value hr _ _ _ _ hq
      rw [hq] at h3
      simp only [Oper.quietUpon] at h3
      rw [h3.1, h3.2]
    | halt x w' => rw [hq] at h3; simp only [Oper.quietUpon] at h3
  · rw [if_neg hw] at h
    exact ⟨undef, Or.inr ⟨by simpa using hw, rfl⟩, h⟩
def lexQ (ops : Array Oper) : List Nat → List Oper → Array Bool → Bool
  | [], [], _ => true
  | i :: js, o :: l, listed => isReadQ o && (Region.ready .any ops listed).contains i && Region.free .any ops listed i && lexQ ops js l (listed.setIfInBounds i true)
  | _, _, _ => false
theorem wpAnyH_readsQ {S : World → Prop} {K : Act → Prop} {rest : Nat} {w : World} (hs : Region.noSelect ops = true) (hQ : ∀ c a d v w, Q (.panic c) (Act.put a d v) w → Q (.panic c) a w) (hS : S w) : ∀ (js : List Nat) (l : List Oper) (listed : Array Bool) (a : Act), (∀ j, j < l.length → ∃ i, js[j]? = some i ∧ ops[i]? = l[j]?) →
    lexQ ops js l listed = true → wpQuiet P ops S K l a → (∀ a', K a' → wpAnyH P .any ops Q S rest (listedI js listed) a' w) → wpAnyH P .any ops Q S (js.length + rest) listed a w
  | [], [], _, _, _, _, h, hK => by simpa [listedI] using hK _ h
  | [], _ :: _, _, _, _, hB, _, _ => by simp [lexQ] at hB
  | _ :: _, [], _, _, _, hB, _, _ => by simp [lexQ] at hB
  | i :: js, o :: l, listed, a, hl, hB, h, hK => by
    have h0 : ops[i]? = some o := by
      obtain ⟨i', h1, h2⟩ := hl 0 (by simp)
      have : i = i' := by simpa using h1
      subst this
      simpa using h2
    simp only [lexQ, Bool.and_eq_true] at hB
    obtain ⟨⟨⟨hr, hc⟩, hf⟩, hB'⟩ := hB
    have h' : if Region.wanted o (yielded ops a.tmps) then o.quiet P a S (wpQuiet P ops S K l) else wpQuiet P ops S K l (a.put o.dst undef) := h
    obtain ⟨v, hy, hk⟩ := yieldsIf_of_quietQ (ops := ops) hr h'
    rw [show (i :: js).length + rest = (js.length + rest) + 1 by simp; omega]
    exact wpAnyH_take h0 hs hf hc (fun c a w => hQ c a _ _ w) hy hS (wpAnyH_readsQ hs hQ hS js l _ _ (fun j hj => by
      obtain ⟨i', h1, h2⟩ := hl (j + 1) (by simp; omega)
      exact ⟨i', by simpa using h1, by simpa using h2⟩) hB' hk hK)
/-- A region that draws: first all that only reads. -/
theorem wp_region_readsQ {id : Nat} {a : Act} {w : World} {l : List Oper} (S : World → Prop) (js : List Nat) (rest : Nat) (hm : P.follows .mixedOrders = true) (hlen : l.length = js.length + rest) (hB : (Region.noSelect l.toArray && lexQ l.toArray js (js.filterMap (l[·]?)) (Array.replicate l.length false)) = true) (hj : ∀ j, j < (js.filterMap (l[·]?)).length → ∃ i, js[j]? = some i ∧ l.toArray[i]? = (js.filterMap (l[·]?))[j]?)
    (hQ : ∀ c a d v w, Q (.panic c) (Act.put a d v) w → Q (.panic c) a w) (hS : S w.drew)
    (h : wpQuiet P l.toArray (fun u => ∃ x : Wd S, u = x.w) (fun a' => wpAnyH P .any l.toArray Q S rest (listedI js (Array.replicate l.length false)) a' w.drew) (js.filterMap (l[·]?)) a) : (Code.region id l.toArray true).wp P Q a w := by
  simp only [Bool.and_eq_true] at hB
  refine wp_region_held_drew (S := S) hm hS fun hS => ?_
  have e3 : Array.replicate l.toArray.size false = Array.replicate l.length false := by simp
  have e2 : l.toArray.size = js.length + rest := by simpa using hlen
  have eS : (fun u : World => ∃ x : Wd S, u = x.w) = S := by
    funext u; apply propext
    exact ⟨fun ⟨x, hx⟩ => hx ▸ x.2, fun h => ⟨⟨u, h⟩, rfl⟩⟩
  rw [eS] at h
  rw [e3, e2]
  exact wpAnyH_readsQ hB.1 hQ hS js _ _ a hj hB.2 h (fun a' h => h)
end
theorem wp_region_readsQN {P : Program} {Q : Exit → Act → World → Prop} {id : Nat} {a : Act} {w : World} {l : List Oper} (S : World → Prop) (js : List Nat) (rest : Nat) (hm : P.follows .mixedOrders = true) (hlen : l.length = js.length + rest) (hB : (Region.noSelect l.toArray && lexQ l.toArray js (js.filterMap (l[·]?)) (Array.replicate l.length false)) = true) (hj : ∀ j, j < (js.filterMap (l[·]?)).length → ∃ i, js[j]? = some i ∧ l.toArray[i]? = (js.filterMap (l[·]?))[j]?)
    (hS : S w.drew)
    (h : wpQuiet P l.toArray (fun u => ∃ x : Wd S, u = x.w) (fun a' => wpAnyH P .any l.toArray (NoPanM Q) S rest (listedI js (Array.replicate l.length false)) a' w.drew) (js.filterMap (l[·]?)) a) : (Code.region id l.toArray true).wp P Q a w :=
  Code.wp_mono (fun _ _ _ h => h.2) (wp_region_readsQ S js rest hm hlen hB hj (fun c _ _ _ _ h => absurd rfl (h.1 c)) hS h)
theorem hj_ofQ {l : List Oper} {js : List Nat} (h : (js.all fun i => decide (i < l.length)) = true) : ∀ j, j < (js.filterMap (l[·]?)).length → ∃ i, js[j]? = some i ∧ l.toArray[i]? = (js.filterMap (l[·]?))[j]? := by
  induction js with
  | nil => intro j hj; simp at hj
  | cons i js ih =>
    simp only [List.all_cons, Bool.and_eq_true, decide_eq_true_eq] at h
    have e : l[i]? = some l[i] := List.getElem?_eq_getElem h.1
    intro j hj
    cases j with
    | zero => exact ⟨i, rfl, by simp [e]⟩
    | succ j =>
      rw [List.filterMap_cons, e] at hj
      obtain ⟨i', h1, h2⟩ := ih h.2 j (by simpa using hj)
      refine ⟨i', by simpa using h1, ?_⟩
      rw [h2, List.filterMap_cons, e]
      simp
/-- In the middle of a region: all that only reads, first. -/
theorem wpAnyH_readsQm {P : Program} {l : List Oper} {Q : Exit → Act → World → Prop} {S : World → Prop} (js : List Nat) {rest fuel : Nat} {listed : Array Bool} {a : Act} {w : World} (hf : fuel = js.length + rest) (hj : (js.all fun i => decide (i < l.length)) = true) (hB : (Region.noSelect l.toArray && lexQ l.toArray js (js.filterMap (l[·]?)) listed) = true) (hS : S w)
    (h : wpQuiet P l.toArray (fun u => ∃ x : Wd S, u = x.w) (fun a' => wpAnyH P .any l.toArray (NoPanM Q) S rest (listedI js listed) a' w) (js.filterMap (l[·]?)) a) : wpAnyH P .any l.toArray (NoPanM Q) S fuel listed a w := by
  simp only [Bool.and_eq_true] at hB
  have eS : (fun u : World => ∃ x : Wd S, u = x.w) = S := by
    funext u; apply propext
    exact ⟨fun ⟨x, hx⟩ => hx ▸ x.2, fun h => ⟨⟨u, h⟩, rfl⟩⟩
  rw [eS] at h
  rw [hf]
  exact wpAnyH_readsQ hB.1 (fun c _ _ _ _ h => absurd rfl (h.1 c)) hS js _ _ a (hj_ofQ hj) hB.2 h (fun a' h => h)
end Go.Proofs.YtdplabhgdonbiaaDoor
