/- Layer 14: what rule 4 asks of regions, rule 2 of an instruction. -/
import Derived.Test.YtmajlfocfjcgmaaGreatDoorP19
import Derived.Test.YtmajlfocfjcgmaaGreatDoorP12
import Derived.Test.YtmajlfocfjcgmaaGreatDoorP13
import Derived.Test.YtmajlfocfjcgmaaGreatDoorP15
import Derived.Deep.AppendLies
namespace Go.Proofs.YtmajlfocfjcgmaaGreatDoor
open Go Go.RowKit

set_option maxRecDepth 100000 in
set_option maxHeartbeats 8000000 in
theorem regions_any14 (f : Cf) (w : World) (hf : f.At w) : Calls Tryz.prog 28 #[.agg f.vs.toArray] w fun e w' => e = .returned (.bool f.regB) ∧ Below w.heap.size w w' := by
  have B1 := below_alloc w (.cells f.vs.toArray 43)
  have b := Blk.new w f.vs 43
  have H1 := hyd (show Below w.heap.size w _ ∧ _ from ⟨B1, b⟩)
  have HD := hyd hf
  have HA : Hid (f.regB = decide (∀ i, i < f.rg.len → ((f.ah i < (f.rg.x i).at_ ∧ (f.rg.x i).at_ < f.cd.len) ∧ (f.rg.x i).joinB f.cd.len = true) ∧ (f.rg.x i).plcB f.cd.len = true)) := rfl
  have hbd := hf.rg.bound
  have hnil := hf.rg.nil
  generalize f.regB = F at *
  have c17 := b.cell 17 rfl
  clear B1 b hf
  generalize hw0 : w.alloc (.cells f.vs.toArray 43) = u0 at *
  have HN : Hid (∀ (j : Nat) (wr : World), j < f.rg.len → Below w.heap.size w wr → wr.rangeAt f.rg.b (f.rg.o + j * 3) (f.rg.x j).vs) := fun j wr hj hb => (HD.out.rg.kept hb).row j hj
  have HNo : Hid (∀ j, j < f.rg.len → ¬ (((f.ah j < (f.rg.x j).at_ ∧ (f.rg.x j).at_ < f.cd.len) ∧ (f.rg.x j).joinB f.cd.len = true) ∧ (f.rg.x j).plcB f.cd.len = true) → F = false) := fun j hj h => by
    rw [HA.out, decide_eq_false_iff_not]
    exact fun hh => h (hh j hj)
  by_cases h0 : f.rg.len = 0
  · have HE : Hid (F = true) := by show _ = _; rw [HA.out, decide_eq_true_eq]; intro i hi; omega
    have i0 : ¬ (0 : Int) < f.rg.len := by omega
    clear h0
    go_enter Tryz.func28, Tryz.ntmps28
    go_wp2
    go_loopw [9] (fun i wr => i = .int .i64 0 ∧ Below w.heap.size w wr) (fun _ _ => 0)
    case atStart => exact ⟨rfl, H1.out.1⟩
    case round =>
      obtain ⟨rfl, hb⟩ := hrel
      have HB := hyd hb
      clear hb
      go_wp2
      go_ret
      exact ⟨ret_bool HE.out.symm, HB.out⟩
  · have a0 := hnil (by omega)
    rw [a0] at c17
    have HA0 := hyd a0
    clear a0 hnil
    go_enter Tryz.func28, Tryz.ntmps28
    go_wp2
    clear hw0
    go_loopw [3, 9] (fun a i wr => ∃ (j : Nat), j ≤ f.rg.len ∧ a = .int .i64 (f.ah j) ∧ i = .int .i64 j ∧ (Below w.heap.size w wr ∧ Blk wr w.heap.size f.vs 43) ∧ (∀ i, i < j → ((f.ah i < (f.rg.x i).at_ ∧ (f.rg.x i).at_ < f.cd.len) ∧ (f.rg.x i).joinB f.cd.len = true) ∧ (f.rg.x i).plcB f.cd.len = true)) (fun _ i _ => f.rg.len - (intOf i).toNat)
    case atStart => exact ⟨0, Nat.zero_le _, rfl, rfl, H1.out, fun i hi => absurd hi (Nat.not_lt_zero _)⟩
    case round =>
      clear H1 c17
      obtain ⟨j, hj, rfl, rfl, hBl, hall⟩ := hrel
      have HB := hyd hBl
      have HL := hyd hall
      clear hBl hall
      by_cases hlt : j < f.rg.len
      · have ij : (j : Int) < f.rg.len := by omega
        have r0 := HN.out j wr hlt HB.out.1
        have HNo2 := hyd (HNo.out j hlt)
        have HY := hyd (all_step14 (P := fun i => ((f.ah i < (f.rg.x i).at_ ∧ (f.rg.x i).at_ < f.cd.len) ∧ (f.rg.x i).joinB f.cd.len = true) ∧ (f.rg.x i).plcB f.cd.len = true) HL.out)
        have HJ : Hid (f.ah (j + 1) = (f.rg.x j).at_) := rfl
        have B2 := below_alloc wr (.cells (f.rg.x j).vs.toArray 57)
        have bH := Blk.new wr (f.rg.x j).vs 57
        have HX := hyd (Rn.At.kept (Below.next HB.out.1 B2) (HD.out.rg.each j hlt))
        have HB2 := hyd (show Below w.heap.size w _ ∧ Blk _ w.heap.size f.vs 43 ∧ Blk _ wr.heap.size (f.rg.x j).vs 57 from ⟨Below.next HB.out.1 B2, HB.out.2.kept B2, bH⟩)
        clear B2 bH HB
        generalize f.ah j = q at *
        generalize hh : f.rg.x j = x at *
        go_upto_region 5 with (first | (refine wpList_load_mid rfl 57 (.tmp 11) rfl f.rg.b (f.rg.o + j * 3) (by kernel_rfl) x.vs _ r0 Tryz.underlying57 rfl (by kernel_rfl) ?_) | (refine wpList_new_mid rfl rfl 57 rfl (.tmp 5) (.tmp 12) rfl z_rn (alloc_rn _) rfl x.vs.toArray (by kernel_rfl) (by kernel_rfl) rfl (by kernel_rfl) (by simpa using x.vs_one) ?_))
        clear hh r0
        generalize wr.alloc (.cells x.vs.toArray 57) = u2 at *
        generalize wr.heap.size = BH at *
        have c14 := HB2.out.2.1.cell 14 rfl
        have d0 := HB2.out.2.2.cell 0 rfl
        have d1 := HB2.out.2.2.cell 1 rfl
        have d2 := HB2.out.2.2.cell 2 rfl
        by_cases k1 : q < x.at_
        · have l1 : ¬ x.at_ ≤ q := by omega
          by_cases k2 : x.at_ < (f.cd.len : Int)
          · have l2 : ¬ (f.cd.len : Int) ≤ x.at_ := by omega
            have HK := hyd (show q < x.at_ ∧ x.at_ < (f.cd.len : Int) from ⟨k1, k2⟩)
            have hc := join_any14 x f.cd.len u2
            generalize x.joinB f.cd.len = jb at *
            clear k1 k2
            go_wp2_with fail
            refine hc.mono ?_
            rintro _ u3 ⟨rfl, hb3⟩
            have HB3 := hyd (show Below w.heap.size w _ ∧ Blk _ w.heap.size f.vs 43 ∧ Blk _ BH x.vs 57 from ⟨Below.next HB2.out.1 hb3, HB2.out.2.1.kept hb3, HB2.out.2.2.kept hb3⟩)
            have HX3 := hyd (Rn.At.kept hb3 HX.out)
            clear hc hb3 c14 d0 d1 d2 HX HB2
            cases jb
            · have HE := hyd (HNo2.out (fun h => by have := h.1.2; cases this))
              go_wp2
              go_ret
              exact ⟨ret_bool HE.out.symm, HB3.out.1⟩
            · have c14 := HB3.out.2.1.cell 14 rfl
              have d0 := HB3.out.2.2.cell 0 rfl
              have d1 := HB3.out.2.2.cell 1 rfl
              have d2 := HB3.out.2.2.cell 2 rfl
              have hc := places_any14 x f.cd.len u3 HX3.out
              generalize x.plcB f.cd.len = pb at *
              go_wp2_with fail
              refine hc.mono ?_
              rintro _ u4 ⟨rfl, hb4⟩
              have HB4 := hyd (show Below w.heap.size w _ ∧ Blk _ w.heap.size f.vs 43 ∧ Blk _ BH x.vs 57 from ⟨Below.next HB3.out.1 hb4, HB3.out.2.1.kept hb4, HB3.out.2.2.kept hb4⟩)
              clear hc hb4 c14 d0 d1 d2 HX3 HB3
              have d0 := HB4.out.2.2.cell 0 rfl
              cases pb
              · have HE := hyd (HNo2.out (fun h => by have := h.2; cases this))
                go_wp2
                go_ret
                exact ⟨ret_bool HE.out.symm, HB4.out.1⟩
              · have HE := hyd (HY.out (by have h := HK.out; simpa using h))
                go_wp2
                go_roundw
                case rel => exact ⟨j + 1, by omega, by rw [HJ.out], by go_num, ⟨HB4.out.1, HB4.out.2.1⟩, HE.out⟩
                case measure => simp [intOf]; omega
          · have l2 : (f.cd.len : Int) ≤ x.at_ := by omega
            have HE := hyd (HNo2.out (fun h => k2 h.1.1.2))
            clear k1 k2
            go_wp2
            go_ret
            exact ⟨ret_bool HE.out.symm, HB2.out.1⟩
        · have l1 : x.at_ ≤ q := by omega
          have HE := hyd (HNo2.out (fun h => k1 h.1.1.1))
          clear k1
          go_wp2
          go_ret
          exact ⟨ret_bool HE.out.symm, HB2.out.1⟩
      · have e2 : ¬ (j : Int) < f.rg.len := by omega
        have HE : Hid (F = true) := by show _ = _; rw [HA.out, decide_eq_true_eq]; intro i hi; exact HL.out i (by omega)
        go_wp2
        go_ret
        exact ⟨ret_bool HE.out.symm, HB.out.1⟩

set_option maxRecDepth 100000 in
set_option maxHeartbeats 8000000 in
theorem number_any14 (c : Kl) (f : Cf) (i : Nat) (w : World) (hf : f.At w) (hi : i < f.cd.len) : Calls Tryz.prog 38 #[.agg #[.slice c.n.ao c.n.len c.n.cap, .slice c.g.ao c.g.len c.g.cap, .slice c.fs.ao c.fs.len c.fs.cap], .agg f.vs.toArray, .int .i64 i] w fun e w' => e = .returned (.bool ((f.cd.x i).nhB c.fs.len c.n.len f.sl f.cd.len i)) ∧ Below w.heap.size w w' := by
  have B0 := below_alloc w (.cells #[.slice c.n.ao c.n.len c.n.cap, .slice c.g.ao c.g.len c.g.cap, .slice c.fs.ao c.fs.len c.fs.cap] 28)
  have b0 := Blk.new w [.slice c.n.ao c.n.len c.n.cap, .slice c.g.ao c.g.len c.g.cap, .slice c.fs.ao c.fs.len c.fs.cap] 28
  have hs : (w.alloc (.cells #[.slice c.n.ao c.n.len c.n.cap, .slice c.g.ao c.g.len c.g.cap, .slice c.fs.ao c.fs.len c.fs.cap] 28)).heap.size = w.heap.size + 1 := alloc_size _ _
  have B1 := below_alloc (w.alloc (.cells #[.slice c.n.ao c.n.len c.n.cap, .slice c.g.ao c.g.len c.g.cap, .slice c.fs.ao c.fs.len c.fs.cap] 28)) (.cells f.vs.toArray 43)
  have b1 := Blk.new (w.alloc (.cells #[.slice c.n.ao c.n.len c.n.cap, .slice c.g.ao c.g.len c.g.cap, .slice c.fs.ao c.fs.len c.fs.cap] 28)) f.vs 43
  have HB := hyd (Below.next B0 B1)
  have e0 := (b0.kept B1).cell 0 rfl
  have e2 := (b0.kept B1).cell 2 rfl
  rw [hs] at b1
  have f13 := b1.cell 13 rfl
  have f14 := b1.cell 14 rfl
  have r0 := range_kept (hf.cd.row i hi) (Below.next B0 B1) 0 _ rfl
  have r1 := range_kept (hf.cd.row i hi) (Below.next B0 B1) 1 _ rfl
  simp only [Nat.add_zero] at r0
  rw [hf.cd.nil (by omega)] at f14
  have hbd := hf.cd.bound
  have hia := (hf.cd.each i hi).a
  have ij : (i : Int) < f.cd.len := by omega
  have HX : Hid ((f.cd.x i).nhB c.fs.len c.n.len f.sl f.cd.len i = (if (f.cd.x i).op = 3 ∨ (f.cd.x i).op = 4 then btw (f.cd.x i).a 0 f.sl else if (f.cd.x i).op = 17 then btw (f.cd.x i).a 0 c.fs.len else if (f.cd.x i).op = 23 then btw (f.cd.x i).a 0 c.n.len else if (f.cd.x i).op = 24 ∨ (f.cd.x i).op = 25 then btw (f.cd.x i).a ((i : Int) + 1) f.cd.len else true)) := rfl
  have hw : wrap64 ((i : Int) + 1) = (i : Int) + 1 := by unfold wrap64; omega
  generalize (f.cd.x i).nhB c.fs.len c.n.len f.sl f.cd.len i = F at *
  generalize (f.cd.x i).op = op at *
  generalize (f.cd.x i).a = a at *
  clear B0 b0 B1 b1 hf hia
  generalize hw0 : w.alloc (.cells #[.slice c.n.ao c.n.len c.n.cap, .slice c.g.ao c.g.len c.g.cap, .slice c.fs.ao c.fs.len c.fs.cap] 28) = u0 at *
  generalize hw1 : u0.alloc (.cells f.vs.toArray 43) = u1 at *
  have HW := hyd hw
  by_cases o3 : op = 3
  · subst o3
    have HE : Hid (F = btw a 0 f.sl) := by show _ = _; rw [HX.out]; rfl
    have hc := between_any a 0 f.sl u1
    generalize btw a 0 f.sl = bb at *
    go_enter Tryz.func38, Tryz.ntmps38
    go_wp2_with fail
    refine hc.mono ?_
    rintro _ u2 ⟨rfl, hb⟩
    have HB2 := hyd (Below.next HB.out hb)
    clear hc hb e0 e2 f13 f14 r0 r1 hw0 hw1
    go_wp2
    go_ret
    exact ⟨ret_bool HE.out.symm, HB2.out⟩
  have n3 : (op == 3) = false := by simpa using o3
  by_cases o4 : op = 4
  · subst o4
    have HE : Hid (F = btw a 0 f.sl) := by show _ = _; rw [HX.out]; rfl
    have hc := between_any a 0 f.sl u1
    generalize btw a 0 f.sl = bb at *
    clear n3
    go_enter Tryz.func38, Tryz.ntmps38
    go_wp2_with fail
    refine hc.mono ?_
    rintro _ u2 ⟨rfl, hb⟩
    have HB2 := hyd (Below.next HB.out hb)
    clear hc hb e0 e2 f13 f14 r0 r1 hw0 hw1
    go_wp2
    go_ret
    exact ⟨ret_bool HE.out.symm, HB2.out⟩
  have n4 : (op == 4) = false := by simpa using o4
  by_cases o17 : op = 17
  · subst o17
    have HE : Hid (F = btw a 0 c.fs.len) := by show _ = _; rw [HX.out]; rfl
    have hc := between_any a 0 c.fs.len u1
    generalize btw a 0 c.fs.len = bb at *
    clear n3 n4
    go_enter Tryz.func38, Tryz.ntmps38
    go_wp2_with fail
    refine hc.mono ?_
    rintro _ u2 ⟨rfl, hb⟩
    have HB2 := hyd (Below.next HB.out hb)
    clear hc hb e0 e2 f13 f14 r0 r1 hw0 hw1
    go_wp2
    go_ret
    exact ⟨ret_bool HE.out.symm, HB2.out⟩
  have n17 : (op == 17) = false := by simpa using o17
  by_cases o23 : op = 23
  · subst o23
    have HE : Hid (F = btw a 0 c.n.len) := by show _ = _; rw [HX.out]; rfl
    have hc := between_any a 0 c.n.len u1
    generalize btw a 0 c.n.len = bb at *
    clear n3 n4 n17
    go_enter Tryz.func38, Tryz.ntmps38
    go_wp2_with fail
    refine hc.mono ?_
    rintro _ u2 ⟨rfl, hb⟩
    have HB2 := hyd (Below.next HB.out hb)
    clear hc hb e0 e2 f13 f14 r0 r1 hw0 hw1
    go_wp2
    go_ret
    exact ⟨ret_bool HE.out.symm, HB2.out⟩
  have n23 : (op == 23) = false := by simpa using o23
  by_cases o24 : op = 24
  · subst o24
    have HE : Hid (F = btw a ((i : Int) + 1) f.cd.len) := by show _ = _; rw [HX.out]; rfl
    have hc := between_any a ((i : Int) + 1) f.cd.len u1
    generalize btw a ((i : Int) + 1) f.cd.len = bb at *
    clear n3 n4 n17 n23
    go_enter Tryz.func38, Tryz.ntmps38
    go_wp2_with fail
    refine hc.mono ?_
    rintro _ u2 ⟨rfl, hb⟩
    have HB2 := hyd (Below.next HB.out hb)
    clear hc hb e0 e2 f13 f14 r0 r1 hw0 hw1
    go_wp2
    go_ret
    exact ⟨ret_bool HE.out.symm, HB2.out⟩
  have n24 : (op == 24) = false := by simpa using o24
  by_cases o25 : op = 25
  · subst o25
    have HE : Hid (F = btw a ((i : Int) + 1) f.cd.len) := by show _ = _; rw [HX.out]; rfl
    have hc := between_any a ((i : Int) + 1) f.cd.len u1
    generalize btw a ((i : Int) + 1) f.cd.len = bb at *
    clear n3 n4 n17 n23 n24
    go_enter Tryz.func38, Tryz.ntmps38
    go_wp2_with fail
    refine hc.mono ?_
    rintro _ u2 ⟨rfl, hb⟩
    have HB2 := hyd (Below.next HB.out hb)
    clear hc hb e0 e2 f13 f14 r0 r1 hw0 hw1
    go_wp2
    go_ret
    exact ⟨ret_bool HE.out.symm, HB2.out⟩
  have n25 : (op == 25) = false := by simpa using o25
  have HE : Hid (F = true) := by show _ = _; rw [HX.out, if_neg (by omega), if_neg (by omega), if_neg (by omega), if_neg (by omega)]
  clear o3 o4 o17 o23 o24 o25
  go_enter Tryz.func38, Tryz.ntmps38
  go_wp2
  go_ret
  exact ⟨ret_bool HE.out.symm, HB.out⟩
end Go.Proofs.YtmajlfocfjcgmaaGreatDoor

/- Layer 13: what is put into a pool: what was there stays, and it grows by no more than there are nodes. -/
namespace Go.Proofs.YtmajlfocfjcgmaaGreatDoor
open Go.RowKit

theorem itr_pre {f : Nat → List Ty → List Ty} (hf : ∀ i R (a : Nat) (s : Ty), R[a]? = some s → (f i R)[a]? = some s) : ∀ (j : Nat) (R : List Ty) (a : Nat) (s : Ty), R[a]? = some s → (itr f j R)[a]? = some s
  | 0, _, _, _, h => h
  | j + 1, R, a, s, h => hf j _ a s (itr_pre hf j R a s h)
theorem putT_pre : ∀ (t : Ty) (R : List Ty) (a : Nat) (s : Ty), R[a]? = some s → (putT t R)[a]? = some s
  | .dm, _, _, _, h => h
  | .mk k l hh e ao b o len cap ps, R, a, s, h => by
    have h1 := itr_pre (f := fun i => putT (ps i)) (fun i R a s => putT_pre (ps i) R a s) len R a s h
    rw [putT]
    split
    · exact h1
    · exact pre_get h1
theorem itr_len {f : Nat → List Ty → List Ty} {c : Nat → Nat} (hf : ∀ i R, (f i R).length ≤ R.length + c i) : ∀ (j : Nat) (R : List Ty), (itr f j R).length ≤ R.length + sumTo c j
  | 0, R => by simp [itr, sumTo]
  | j + 1, R => by
    have h1 := hf j (itr f j R)
    have h2 := itr_len hf j R
    show (f j (itr f j R)).length ≤ R.length + (sumTo c j + c j)
    omega
theorem putT_len : ∀ (t : Ty) (R : List Ty), (putT t R).length ≤ R.length + t.nodes
  | .dm, R => by simp [putT]
  | .mk k l hh e ao b o len cap ps, R => by
    have h1 := itr_len (f := fun i => putT (ps i)) (c := fun i => (ps i).nodes) (fun i R => putT_len (ps i) R) len R
    have h2 : (Ty.mk k l hh e ao b o len cap ps).nodes = 1 + sumTo (fun i => (ps i).nodes) len := rfl
    rw [putT]
    split
    · omega
    · rw [List.length_append]
      have : [Ty.mk k l hh e ao b o len cap ps].length = 1 := rfl
      omega
/-- A Part's place, wherever. -/
def PrtAt (R : List Ty) (t : Ty) (x : Int) : Prop := ∃ (a : Nat) (s : Ty), x = a ∧ R[a]? = some s ∧ s.same t = true
theorem PrtAt.pre {R R' : List Ty} {t : Ty} {x : Int} (h : PrtAt R t x) (hR : ∀ (a : Nat) (s : Ty), R[a]? = some s → R'[a]? = some s) : PrtAt R' t x := by
  obtain ⟨a, s, h1, h2, h3⟩ := h
  exact ⟨a, s, h1, hR a s h2, h3⟩
theorem PrtAt.prt {R : List Ty} {t : Ty} {j : Nat} {x : Int} (h1 : j < t.len → PrtAt R (t.ps j) x) (h2 : ¬ j < t.len → x = -1) : Prt R R.length t j x :=
  ⟨fun hj => by obtain ⟨a, s, e, hs, hss⟩ := h1 hj; exact ⟨a, s, e, (List.getElem?_eq_some_iff.1 hs).1, hs, hss⟩, h2⟩
theorem takeT_len (R : List Ty) (t : Ty) : (takeT R t).length ≤ R.length + t.nodes := by
  unfold takeT
  split
  · omega
  · exact putT_len t R
end Go.Proofs.YtmajlfocfjcgmaaGreatDoor

/- Layer 13: a type put into a pool: put. -/
namespace Go.Proofs.YtmajlfocfjcgmaaGreatDoor
open Go Go.RowKit

theorem setCells_mid (t : TypeId) : ∀ (vs pre mid rest : List Value) (w : World) (B : Nat), mid.length = vs.length → Blk w B (pre ++ (mid ++ rest)) t → Blk (w.setCells B pre.length vs) B (pre ++ (vs ++ rest)) t
  | [], pre, mid, rest, w, B, h, hb => by
    have e : mid = [] := List.eq_nil_of_length_eq_zero h
    subst e; exact hb
  | v :: vs, pre, [], rest, w, B, h, hb => by simp at h
  | v :: vs, pre, p :: mid, rest, w, B, h, hb => by
    rw [World.setCells]
    have h1 : Blk (w.setCell ⟨B, pre.length, none⟩ v) B ((pre ++ [v]) ++ (mid ++ rest)) t := by
      have hl := hb.lt
      unfold Blk at hb ⊢
      have e : ((pre ++ ((p :: mid) ++ rest)).toArray.setIfInBounds pre.length v) = ((pre ++ [v]) ++ (mid ++ rest)).toArray := by
        apply Array.toList_inj.1
        simp
      rw [← e]
      simp [World.setCell, Array.getElem?_modify, hb]
    have k := setCells_mid t vs (pre ++ [v]) mid rest _ B (by simpa using h) h1
    rw [show (pre ++ [v]).length = pre.length + 1 by simp] at k
    simpa using k
/-- The last of an own row written. -/
theorem own_fill {w : World} {base : Nat} {e : TypeId} {size : Nat} {v : Value} {n : Nat} {xs zs vs : List Value} (h : w.ownsRow base e size v (n + 1) (xs ++ zs)) (hx : xs.length = n * size) (hz : zs.length = size) (hv : vs.length = size) :
    ∃ g cap, v = .slice (some ⟨g, 0, none⟩) (n + 1) cap ∧ base ≤ g ∧ (w.setCells g (n * size) vs).ownsRow base e size v (n + 1) (xs ++ vs) ∧ w.there g (n * size) size := by
  obtain ⟨h0, ⟨_, h1⟩ | ⟨g, cap, cur, hv1, hg, hh, hc, hm, hs, ht⟩⟩ := h
  · omega
  have hd : cur.toList = xs ++ (zs ++ cur.toList.drop ((n + 1) * size)) := by
    have := List.take_append_drop ((n + 1) * size) cur.toList
    rw [ht, List.append_assoc] at this
    exact this.symm
  have hb : Blk w g (xs ++ (zs ++ cur.toList.drop ((n + 1) * size))) e := by
    unfold Blk
    rw [hh, ← hd]
  have hk := setCells_mid e vs xs zs (cur.toList.drop ((n + 1) * size)) w g (by omega) hb
  rw [hx] at hk
  have hcs : (n + 1) * size ≤ cur.size := by rw [hs]; exact Nat.mul_le_mul_right _ hc
  refine ⟨g, cap, hv1, hg, ⟨by rw [List.length_append, hx, hv, Nat.add_mul, Nat.one_mul], Or.inr ⟨g, cap, _, hv1, hg, hk, hc, hm, ?_, ?_⟩⟩, fun j hj => ⟨?_, hb.frozen _⟩⟩
  · simp only [List.size_toArray, List.length_append, List.length_drop, Array.length_toList, hx, hv]
    have : (n + 1) * size = n * size + size := by rw [Nat.add_mul, Nat.one_mul]
    omega
  · have e1 : (n + 1) * size = (xs ++ vs).length := by rw [List.length_append, hx, hv, Nat.add_mul, Nat.one_mul]
    show List.take ((n + 1) * size) (xs ++ (vs ++ _)) = xs ++ vs
    rw [← List.append_assoc, e1, List.take_left]
  · have : (xs ++ (zs ++ cur.toList.drop ((n + 1) * size)))[n * size + j]? = some zs[j] := by
      rw [List.getElem?_append_right (by omega), hx, show n * size + j - n * size = j by omega, List.getElem?_append_left (by omega)]
      exact List.getElem?_eq_getElem (by omega)
    rw [hb.cell _ this]
    rfl
/-- Where put stands behind a type's Parts: the pool, the type's and the node's variables. -/
structure Pu (w0 : World) (n : Strs) (g : Grid) (p : Nat) (S : Nat → Prop) (w : World) (m : Nat) (v : Value) (es : Array MapEntry) (c : Nat) (Q : List (List Int)) (R : List Ty) (A : Nat) (tv : List Value) (B : Nat) (nd : List Value) (q : World) : Prop where
  pw : Pw w0 n g p m v es c Q R q
  ft : Ftp S w q
  ss : ∀ x, x < w.heap.size → PS p m v x → S x
  bA : Blk q A tv 37
  bB : Blk q B nd 145
  nA : ¬ PS p m v A
  nB : ¬ PS p m v B
  gA : w.heap.size ≤ A
  gB : w.heap.size ≤ B
  g0 : w0.heap.size ≤ w.heap.size
theorem Pu.kept {w0 : World} {n : Strs} {g : Grid} {p : Nat} {S : Nat → Prop} {w : World} {m : Nat} {v : Value} {es : Array MapEntry} {c : Nat} {Q : List (List Int)} {R : List Ty} {A : Nat} {tv : List Value} {B : Nat} {nd : List Value} {q q' : World} (h : Pu w0 n g p S w m v es c Q R A tv B nd q) (hb : Below q.heap.size q q') : Pu w0 n g p S w m v es c Q R A tv B nd q' :=
  ⟨h.pw.kept hb, h.ft.next (Ftp.of_below (S := fun _ => False) hb) (fun _ _ x => x.elim), h.ss, h.bA.kept hb, h.bB.kept hb, h.nA, h.nB, h.gA, h.gB, h.g0⟩
/-- Behind the map's update, ahead of the row's. -/
structure Pv (w0 : World) (n : Strs) (g : Grid) (p : Nat) (S : Nat → Prop) (w : World) (m : Nat) (v : Value) (es : Array MapEntry) (c : Nat) (R : List Ty) (A : Nat) (tv : List Value) (q : World) : Prop where
  bl : Below w0.heap.size w0 q
  blk : Blk q p [.slice n.ao n.len n.cap, .slice g.ao g.len g.cap, v, .map (some m)] 80
  mp : q.heap[m]? = some (.map es c)
  own : q.ownsRow w0.heap.size 37 5 v R.length (flatL R)
  ft : Ftp S w q
  ss : ∀ x, x < w.heap.size → PS p m v x → S x
  bA : Blk q A tv 37
  nA : ¬ PS p m v A
  gA : w.heap.size ≤ A
  lp : w0.heap.size ≤ p
  lm : w0.heap.size ≤ m
  npm : p ≠ m
theorem Pv.kept {w0 : World} {n : Strs} {g : Grid} {p : Nat} {S : Nat → Prop} {w : World} {m : Nat} {v : Value} {es : Array MapEntry} {c : Nat} {R : List Ty} {A : Nat} {tv : List Value} {q q' : World} (h : Pv w0 n g p S w m v es c R A tv q) (hb : Below q.heap.size q q') : Pv w0 n g p S w m v es c R A tv q' :=
  ⟨Below.next h.bl hb, h.blk.kept hb, by rw [hb.block m (Array.getElem?_eq_some_iff.1 h.mp).1]; exact h.mp, owk h.own hb, h.ft.next (Ftp.of_below (S := fun _ => False) hb) (fun _ _ x => x.elim), h.ss, h.bA.kept hb, h.nA, h.gA, h.lp, h.lm, h.npm⟩
theorem Pu.upd {w0 : World} {n : Strs} {g : Grid} {p : Nat} {S : Nat → Prop} {w : World} {m : Nat} {v : Value} {es : Array MapEntry} {c : Nat} {Q : List (List Int)} {R : List Ty} {A : Nat} {tv : List Value} {B : Nat} {nd : List Value} {q : World} (h : Pu w0 n g p S w m v es c Q R A tv B nd q) (es' : Array MapEntry) (c' : Nat) :
    Pv w0 n g p S w m v es' c' R A tv { q with heap := q.heap.setIfInBounds m (.map es' c') } := by
  have hm := (Array.getElem?_eq_some_iff.1 h.pw.mp).1
  have oth : ∀ b, b ≠ m → ({ q with heap := q.heap.setIfInBounds m (.map es' c') } : World).heap[b]? = q.heap[b]? := fun b hb => by
    show (q.heap.setIfInBounds m (.map es' c'))[b]? = q.heap[b]?
    rw [Array.getElem?_setIfInBounds, if_neg (fun e => hb e.symm)]
  refine ⟨⟨h.pw.bl.os, h.pw.bl.tape, h.pw.bl.output, by simpa using h.pw.bl.size, fun k hk => ?_⟩, ?_, ?_, own_same h.pw.own (fun b hb => oth b (fun e => h.pw.nvm (e ▸ hb))), ⟨h.ft.os, h.ft.tape, h.ft.output, by simpa using h.ft.size, fun k hk hn => ?_⟩, h.ss, ?_, h.nA, h.gA, h.pw.lp, h.pw.lm, h.pw.npm⟩
  · rw [oth k (by have := h.pw.lm; omega)]; exact h.pw.bl.block k hk
  · unfold Blk; rw [oth p h.pw.npm]; exact h.pw.blk
  · show (q.heap.setIfInBounds m (.map es' c'))[m]? = _
    simp [hm]
  · rw [oth k (fun e => hn (h.ss k hk (e ▸ Or.inr (Or.inl rfl))))]; exact h.ft.block k hk hn
  · unfold Blk; rw [oth A (fun e => h.nA (Or.inr (Or.inl e)))]; exact h.bA
/-- What put answers. -/
def PutR (w0 : World) (n : Strs) (g : Grid) (p : Nat) (S : Nat → Prop) (w : World) (t : Ty) (R : List Ty) (e : Ending) (w' : World) : Prop :=
  ∃ (i : Nat) (S' : Nat → Prop), e = .returned (.int .i64 i) ∧ (∃ s, (putT t R)[i]? = some s ∧ s.same t = true) ∧ Pg w0 n g p S w S' (putT t R) w'
/-- The pool with one more. -/
theorem Pv.done {w0 : World} {n : Strs} {g : Grid} {p : Nat} {S : Nat → Prop} {w : World} {m : Nat} {v v' : Value} {es : Array MapEntry} {c : Nat} {Q : List (List Int)} {R : List Ty} {t : Ty} {A : Nat} {tv : List Value} {q q' : World} (h : Pv w0 n g p S w m v es c R A tv q) (hk : NKeys es Q) (hg : Good n.len (R ++ [t]) Q) (hat : ∀ s ∈ R ++ [t], s.At w0)
    (hbl : Below w0.heap.size w0 q') (hp : Blk q' p [.slice n.ao n.len n.cap, .slice g.ao g.len g.cap, v', .map (some m)] 80) (hm : q'.heap[m]? = q.heap[m]?) (ho : q'.ownsRow w0.heap.size 37 5 v' (R ++ [t]).length (flatL (R ++ [t])))
    (hf : Ftp (PS p m v) q q') (hv : ∀ b, v'.ownBlock = some b → v.ownBlock = some b ∨ q.heap.size ≤ b) : ∃ S', Pg w0 n g p S w S' (R ++ [t]) q' := by
  refine ⟨PS p m v', ⟨m, v', es, c, Q, ⟨hbl, hp, hm.trans h.mp, hk, hg, ho, hat, h.lp, h.lm⟩, rfl⟩, h.ft.next hf h.ss, fun x hx hs => h.ss x hx ?_⟩
  rcases hs with e | e | e
  · exact Or.inl e
  · exact Or.inr (Or.inl e)
  · rcases hv x e with e | e
    · exact Or.inr (Or.inr e)
    · have := h.ft.size; omega
end Go.Proofs.YtmajlfocfjcgmaaGreatDoor

/- Layer 13: the pool's row with one more type: append in place. -/
namespace Go.Proofs.YtmajlfocfjcgmaaGreatDoor
open Go Go.RowKit

theorem quiet_row {C : World → Prop} {K : Act → Prop} {a : Act} {o : Oper} (ty : TypeId) (x : Operand) (ho : o.op = .load ty x) (b oo : Nat) (hx : a.eval x = .pointer (some ⟨b, oo, none⟩)) (cs : List Value) (d : TypeDesc) (hc : ∀ w, C w → w.rangeAt b oo cs)
    (hu : Tryz.prog.underlying ty = some d) (hd : d.isRow = true) (hi : (Tryz.prog.info? ty).map (·.size) = some cs.length) (h : K (a.put o.dst (.agg cs.toArray))) : o.quiet Tryz.prog a C K := by
  refine ⟨.agg cs.toArray, fun w hC => ?_, h⟩
  unfold Oper.quietAt execOp
  simp only [ho, hx, Sem.run_bind, run_loadAt_mid w b oo ty cs d (hc w hC) hu hd hi, Result.andThen_ok, Sem.run_pure]
  exact ⟨rfl, rfl⟩
/-- The pool behind the append, whichever of the two stores came first. -/
theorem Pv.core {w0 : World} {n : Strs} {g : Grid} {p : Nat} {S : Nat → Prop} {w : World} {m : Nat} {v : Value} {es : Array MapEntry} {c : Nat} {Q : List (List Int)} {R : List Ty} {t : Ty} {A : Nat} {tv : List Value} {q q1 q3 : World} {gg cap : Nat} (h : Pv w0 n g p S w m v es c R A tv q) (hk : NKeys es Q) (hg : Good n.len (R ++ [t]) Q) (hat : ∀ s ∈ R ++ [t], s.At w0)
    (hgrow : q.grownBy q1 v.ownBlock) (hgg : v.ownBlock = some gg ∨ gg = q.heap.size) (hb : Below 0 q1 q3) (hoth : ∀ k, k ≠ p → k ≠ gg → q3.heap[k]? = q1.heap[k]?) (hp : Blk q3 p [.slice n.ao n.len n.cap, .slice g.ao g.len g.cap, .slice (some ⟨gg, 0, none⟩) (R.length + 1) cap, .map (some m)] 80)
    (ho : q3.ownsRow w0.heap.size 37 5 (.slice (some ⟨gg, 0, none⟩) (R.length + 1) cap) (R.length + 1) (flatL R ++ t.vs)) : ∃ S', Pg w0 n g p S w S' (R ++ [t]) q3 := by
  have hlt := (Array.getElem?_eq_some_iff.1 h.mp).1
  have hnm : some m ≠ v.ownBlock := fun e => by
    obtain ⟨cur, h1⟩ := own_blk h.own e.symm
    rw [h.mp] at h1
    cases h1
  have hge : w0.heap.size ≤ gg := by
    rcases hgg with e | e
    · exact (owb h.own e).1
    · rw [e]; exact h.bl.size
  have hmg : m ≠ gg := by
    rcases hgg with e | e
    · exact fun z => hnm (by rw [e, z])
    · omega
  refine Pv.done (v' := .slice (some ⟨gg, 0, none⟩) (R.length + 1) cap) h hk hg hat ?_ hp ?_ ?_ ?_ ?_
  · have h1 := gb_bel h.bl hgrow (fun k hk => (owb h.own hk).1)
    refine ⟨hb.os.trans h1.os, hb.tape.trans h1.tape, hb.output.trans h1.output, Nat.le_trans h1.size hb.size, fun k hk => ?_⟩
    rw [hoth k (by have := h.lp; omega) (by omega)]
    exact h1.block k hk
  · rw [hoth m (fun e => h.npm e.symm) hmg]
    exact hgrow.block m hlt hnm
  · rw [flatL_snoc, List.length_append]
    exact ho
  · refine ⟨hb.os.trans hgrow.os, hb.tape.trans hgrow.tape, hb.output.trans hgrow.output, Nat.le_trans hgrow.size hb.size, fun k hk hn => ?_⟩
    have h1 : some k ≠ v.ownBlock := fun e => hn (Or.inr (Or.inr e.symm))
    rw [hoth k (fun e => hn (Or.inl e)) (fun e => by
      rcases hgg with z | z
      · exact h1 (by rw [e, z])
      · omega)]
    exact hgrow.block k hk h1
  · intro b hb2
    have : gg = b := by simpa [Value.ownBlock] using hb2
    subst this
    rcases hgg with z | z
    · exact Or.inl z
    · exact Or.inr (by omega)
/-- What the walk asks of the world behind the append. -/
structure Pz (w0 : World) (n : Strs) (g : Grid) (p : Nat) (m : Nat) (v : Value) (R : List Ty) (gg cap : Nat) (t : Ty) (q1 : World) : Prop where
  blk : Blk q1 p [.slice n.ao n.len n.cap, .slice g.ao g.len g.cap, v, .map (some m)] 80
  there : q1.there gg (R.length * 5) 5
  ne : p ≠ gg
  own : (q1.setCells gg (R.length * 5) t.vs).ownsRow w0.heap.size 37 5 (.slice (some ⟨gg, 0, none⟩) (R.length + 1) cap) (R.length + 1) (flatL R ++ t.vs)
theorem Pv.next {w0 : World} {n : Strs} {g : Grid} {p : Nat} {S : Nat → Prop} {w : World} {m : Nat} {v : Value} {es : Array MapEntry} {c : Nat} {R : List Ty} {A : Nat} {tv : List Value} {q q1 : World} {gg cap : Nat} (h : Pv w0 n g p S w m v es c R A tv q) (hgrow : q.grownBy q1 v.ownBlock) (hgg : v.ownBlock = some gg ∨ gg = q.heap.size) (t : Ty) {zs : List Value} (hz : zs.length = 5)
    (ho : q1.ownsRow w0.heap.size 37 5 (.slice (some ⟨gg, 0, none⟩) (R.length + 1) cap) (R.length + 1) (flatL R ++ zs)) : Pz w0 n g p m v R gg cap t q1 := by
  have hnp : some p ≠ v.ownBlock := fun e => by
    obtain ⟨cur, h1⟩ := own_blk h.own e.symm
    have h2 := h.blk
    unfold Blk at h2
    rw [h1] at h2
    injection h2 with h2
    injection h2 with _ h2
    exact absurd h2 (by decide)
  have hpg : p ≠ gg := by
    rcases hgg with e | e
    · exact fun z => hnp (by rw [e, z])
    · have := h.blk.lt; omega
  obtain ⟨g', cap', e, _, h3, h4⟩ := own_fill (vs := t.vs) ho (flatL_len R) hz rfl
  injection e with e1 _ e3
  injection e1 with e1
  injection e1 with e1
  subst e1 e3
  exact ⟨by unfold Blk; rw [hgrow.block p h.blk.lt hnp]; exact h.blk, h4, hpg, h3⟩
/-- First the type, then the row's value. -/
theorem Pz.endA {w0 : World} {n : Strs} {g : Grid} {p : Nat} {S : Nat → Prop} {w : World} {m : Nat} {v : Value} {es : Array MapEntry} {c : Nat} {Q : List (List Int)} {R : List Ty} {t : Ty} {A : Nat} {tv : List Value} {q q1 : World} {gg cap : Nat} (z : Pz w0 n g p m v R gg cap t q1) (h : Pv w0 n g p S w m v es c R A tv q) (hk : NKeys es Q) (hg : Good n.len (R ++ [t]) Q) (hat : ∀ s ∈ R ++ [t], s.At w0)
    (hgrow : q.grownBy q1 v.ownBlock) (hgg : v.ownBlock = some gg ∨ gg = q.heap.size) : Blk (q1.setCells gg (R.length * 5) t.vs) p [.slice n.ao n.len n.cap, .slice g.ao g.len g.cap, v, .map (some m)] 80 ∧ ∃ S', Pg w0 n g p S w S' (R ++ [t]) ((q1.setCells gg (R.length * 5) t.vs).setCell ⟨p, 2, none⟩ (.slice (some ⟨gg, 0, none⟩) (R.length + 1) cap)) := by
  have hb2 : Blk (q1.setCells gg (R.length * 5) t.vs) p [.slice n.ao n.len n.cap, .slice g.ao g.len g.cap, v, .map (some m)] 80 := by unfold Blk; rw [setCells_heap _ _ _ _ _ z.ne]; exact z.blk
  have W := wrote_cell (i := 2) hb2 (.slice (some ⟨gg, 0, none⟩) (R.length + 1) cap)
  refine ⟨hb2, Pv.core h hk hg hat hgrow hgg (W.below (Nat.zero_le _) (below_setCells (Nat.zero_le _) _ _ _ (Below.refl _ _))) (fun k h1 h2 => ?_) W.blk (own_same z.own (fun b hb => W.other b (fun e => ?_)))⟩
  · rw [W.other k h1, setCells_heap _ _ _ _ _ h2]
  · have : gg = b := by simpa [Value.ownBlock] using hb
    exact z.ne (by rw [this, e])
theorem there_other {w w' : World} {b o k : Nat} (h : w.there b o k) (e : w'.heap[b]? = w.heap[b]?) : w'.there b o k := fun j hj => by
  have h1 : w'.cell? ⟨b, o + j, none⟩ = w.cell? ⟨b, o + j, none⟩ := World.cell?_of_block (w := w) e
  have h2 : w'.frozen? ⟨b, o + j, none⟩ = w.frozen? ⟨b, o + j, none⟩ := World.frozen?_of_block (w := w) e
  rw [h1, h2]; exact h j hj
/-- First the row's value, then the type. -/
theorem Pz.endB {w0 : World} {n : Strs} {g : Grid} {p : Nat} {S : Nat → Prop} {w : World} {m : Nat} {v : Value} {es : Array MapEntry} {c : Nat} {Q : List (List Int)} {R : List Ty} {t : Ty} {A : Nat} {tv : List Value} {q q1 : World} {gg cap : Nat} {zs : List Value} (hz : zs.length = 5) (z : Pz w0 n g p m v R gg cap t q1) (ho : q1.ownsRow w0.heap.size 37 5 (.slice (some ⟨gg, 0, none⟩) (R.length + 1) cap) (R.length + 1) (flatL R ++ zs)) (h : Pv w0 n g p S w m v es c R A tv q) (hk : NKeys es Q) (hg : Good n.len (R ++ [t]) Q) (hat : ∀ s ∈ R ++ [t], s.At w0)
    (hgrow : q.grownBy q1 v.ownBlock) (hgg : v.ownBlock = some gg ∨ gg = q.heap.size) : (q1.setCell ⟨p, 2, none⟩ (.slice (some ⟨gg, 0, none⟩) (R.length + 1) cap)).there gg (R.length * 5) 5 ∧ ∃ S', Pg w0 n g p S w S' (R ++ [t]) ((q1.setCell ⟨p, 2, none⟩ (.slice (some ⟨gg, 0, none⟩) (R.length + 1) cap)).setCells gg (R.length * 5) t.vs) := by
  have W := wrote_cell (i := 2) z.blk (.slice (some ⟨gg, 0, none⟩) (R.length + 1) cap)
  have ho2 := own_same ho (fun b hb => W.other b (fun e => by
    have : gg = b := by simpa [Value.ownBlock] using hb
    exact z.ne (by rw [this, e])))
  obtain ⟨g', cap', e, _, h3, h4⟩ := own_fill (vs := t.vs) ho2 (flatL_len R) hz rfl
  injection e with e1 _ e3
  injection e1 with e1
  injection e1 with e1
  subst e1 e3
  refine ⟨h4, Pv.core h hk hg hat hgrow hgg (below_setCells (Nat.zero_le _) _ _ _ (W.below (Nat.zero_le _) (Below.refl _ _))) (fun k h1 h2 => ?_) ?_ h3⟩
  · rw [setCells_heap _ _ _ _ _ h2, W.other k h1]
  · unfold Blk; rw [setCells_heap _ _ _ _ _ z.ne]; exact W.blk
end Go.Proofs.YtmajlfocfjcgmaaGreatDoor
