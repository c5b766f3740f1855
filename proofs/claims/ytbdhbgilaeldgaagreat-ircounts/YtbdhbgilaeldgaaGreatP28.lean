/- Layer 10: the reference's Sig. -/
import Derived.Test.YtbdhbgilaeldgaaGreatP21
import Derived.Test.YtbdhbgilaeldgaaGreatP24
import Derived.Test.YtbdhbgilaeldgaaGreatP25
import Derived.Test.YtbdhbgilaeldgaaGreatP27
namespace Go.Proofs.YtbdhbgilaeldgaaGreat
open Go Go.RowKit

/-- What the reference's Sig answers. -/
def rsT (n : Strs) (g : Grid) (f : Fc) : Ty := if okB n g (mk2 4 (botI n g) f.heap f.exc f.param f.result) = true then mk2 4 (botI n g) f.heap f.exc f.param f.result else leafT 0 0
theorem rsT_sig (n : Strs) (g : Grid) (f : Fc) : sigT n g f = rsT n g f := by
  unfold sigT rsT
  by_cases h : okB n g (mk2 4 (botI n g) f.heap f.exc f.param f.result) = true
  · rw [if_pos h]
    have h' := h
    unfold okB at h'
    rw [Bool.and_eq_true] at h'
    obtain ⟨p, hp, hp1⟩ := (fd_ok h'.2).lab
    have hp' : botI n g = (p : Nat) := hp
    have rl : inR n.len (botI n g) = true := by rw [hp']; exact inR_nat' hp1
    unfold raiseT
    rw [h, rl]
    show (mk2 4 (botI n g) f.heap f.exc f.param f.result).setL (joinI n g (botI n g) (botI n g)) = _
    have e3 : joinI n g (botI n g) (botI n g) = botI n g := by rw [hp', joinI_nat h'.1 hp1 hp1, jn_self h'.1 hp1]
    rw [e3]
    rfl
  · rw [if_neg h]
    unfold raiseT
    rw [if_neg]
    intro hh
    rw [Bool.and_eq_true] at hh
    exact h hh.1
theorem wp_alloc_tyI {o : Oper} {a : Act} {w : World} {K : Act → World → Prop} {Q : Exit → Act → World → Prop} (ho : o.op = .alloc 38)
    (h : K (a.put o.dst (.pointer (some ⟨w.heap.size, 0, none⟩))) (w.alloc (.cells zTv.toArray 38))) : o.wp Tryz.prog a w K Q := by
  unfold Oper.wp execOp
  simp only [ho, Sem.run_bind, alloc_ty, Result.andThen_ok, Sem.run_pure]
  exact h
theorem run_build_T (bt h e : Int) (B : Nat) (p q : Ty) (w : World) : (Instr.build 38 #[(0, .int .i64 4), (1, .int .i64 bt), (2, .slice (some ⟨B, 0, none⟩) 2 2), (3, .int .i64 h), (4, .int .i64 e)]).run Tryz.prog w = .ok (.agg (mkB 4 bt h e B p q).vs.toArray) w := by kernel_rfl
theorem wp_buildT {o : Oper} {a : Act} {w w' : World} {v : Value} {K : Act → World → Prop} {Q : Exit → Act → World → Prop} (t : TypeId) (parts : Array (Nat × Operand)) (ho : o.op = .build t parts) (vals : Array (Nat × Value)) (hv : (parts.map fun (i, x) => (i, a.eval x)) = vals)
    (hs : (Instr.build t vals).run Tryz.prog w = .ok v w') (h : K (a.put o.dst v) w') : o.wp Tryz.prog a w K Q := by
  subst hv
  unfold Oper.wp execOp
  simp only [ho, Sem.run_bind, hs, Result.andThen_ok, Sem.run_pure]
  exact h
theorem ok_same {n : Strs} {g : Grid} {u r : Ty} (hu : u.Nd) (hr : r.Nd) (h : u.same r = true) : okB n g u = okB n g r := by
  have e := same_fm_nd (N := n.len) u r hu hr h
  unfold okB Ty.ok
  rw [e.1, e.2]
theorem mkB_blk' {k l h e : Int} {B : Nat} {p q : Ty} {Q : Nat → Prop} (hB : Q B) (hp : p.Blk Q) (hq : q.Blk Q) : (mkB k l h e B p q).Blk Q := ⟨fun _ => hB, fun i _ => by
  show (if i = 0 then p else q).Blk Q
  split
  · exact hp
  · exact hq⟩
structure Rs (w : World) (n : Strs) (g : Grid) (f : Fc) (u : World) : Prop where
  bl : Below w.heap.size w u
  L : Blk u w.heap.size [.slice n.ao n.len n.cap, .slice g.ao g.len g.cap] 25
  F : Blk u (w.heap.size + 1) f.vs 50
  Z : Blk u (w.heap.size + 2) zTv 38
  sz : w.heap.size + 3 ≤ u.heap.size
theorem Rs.kept {w : World} {n : Strs} {g : Grid} {f : Fc} {u u' : World} (h : Rs w n g f u) (hb : Below u.heap.size u u') : Rs w n g f u' := ⟨Below.next h.bl hb, h.L.kept hb, h.F.kept hb, h.Z.kept hb, Nat.le_trans h.sz hb.size⟩
set_option maxRecDepth 100000 in
set_option maxHeartbeats 16000000 in
theorem rSig_any (n : Strs) (g : Grid) (f : Fc) (w : World) (hn : n.At w) (hg : g.At w) (hp : f.param.At w) (hr : f.result.At w) : Calls Tryz.prog 14 #[.agg #[.slice n.ao n.len n.cap, .slice g.ao g.len g.cap], .agg f.vs.toArray] w fun e w' => ∃ u : Ty, e = .returned (.agg u.vs.toArray) ∧ u.At w' ∧ u.same (sigT n g f) = true ∧ Below w.heap.size w w' := by
  have H := allocs_heap [.cells #[.slice n.ao n.len n.cap, .slice g.ao g.len g.cap] 25, .cells f.vs.toArray 50, .cells #[.int .i64 0, .int .i64 0, .slice none 0 0, .int .i64 0, .int .i64 0] 38] w
  have B0 := allocs_below [.cells #[.slice n.ao n.len n.cap, .slice g.ao g.len g.cap] 25, .cells f.vs.toArray 50, .cells #[.int .i64 0, .int .i64 0, .slice none 0 0, .int .i64 0, .int .i64 0] 38] w
  have SZ := allocs_size [.cells #[.slice n.ao n.len n.cap, .slice g.ao g.len g.cap] 25, .cells f.vs.toArray 50, .cells #[.int .i64 0, .int .i64 0, .slice none 0 0, .int .i64 0, .int .i64 0] 38] w
  simp only [List.foldl, List.length] at H B0 SZ
  have HI := hid (show Rs w n g f _ from ⟨B0, H 0 (by simp), H 1 (by simp), H 2 (by simp), Nat.le_of_eq SZ.symm⟩)
  have HH := hid (show n.At w ∧ g.At w ∧ f.param.At w ∧ f.result.At w from ⟨hn, hg, hp, hr⟩)
  clear H B0 SZ hn hg hp hr
  go_enter Tryz.func14, Tryz.ntmps14
  go_upto_region 1 with fail
  generalize (((w.alloc (.cells #[.slice n.ao n.len n.cap, .slice g.ao g.len g.cap] 25)).alloc (.cells f.vs.toArray 50)).alloc (.cells #[.int .i64 0, .int .i64 0, .slice none 0 0, .int .i64 0, .int .i64 0] 38)) = w1 at *
  go_cut [5] (fun c wx => ∃ (B : Nat) (T : Ty), c = .pointer (some ⟨B, 0, none⟩) ∧ Hid (Rs w n g f wx ∧ Blk wx B T.vs 38 ∧ T.At wx ∧ T.Blk (fun b => b < w.heap.size ∨ w.heap.size + 3 ≤ b) ∧ T.same (mk2 4 (botI n g) f.heap f.exc f.param f.result) = true))
  case first =>
    have p0 : ∀ x : Wd (fun q => Below w1.heap.size w1 q), x.w.cell? ⟨w.heap.size, 0, none⟩ = some (.slice n.ao n.len n.cap) := fun x => (HI.out.L.kept x.2).cell 0 rfl
    have p1 : ∀ x : Wd (fun q => Below w1.heap.size w1 q), x.w.cell? ⟨w.heap.size, 1, none⟩ = some (.slice g.ao g.len g.cap) := fun x => (HI.out.L.kept x.2).cell 1 rfl
    have p11 : ∀ x : Wd (fun q => Below w1.heap.size w1 q), x.w.cell? ⟨w.heap.size + 1, 11, none⟩ = some (.int .i64 f.heap) := fun x => (HI.out.F.kept x.2).cell 11 rfl
    have p12 : ∀ x : Wd (fun q => Below w1.heap.size w1 q), x.w.cell? ⟨w.heap.size + 1, 12, none⟩ = some (.int .i64 f.exc) := fun x => (HI.out.F.kept x.2).cell 12 rfl
    have r0 : ∀ q, (∃ x : Wd (fun q => Below w1.heap.size w1 q), q = x.w) → q.rangeAt (w.heap.size + 1) 0 f.param.vs := by rintro _ ⟨x, rfl⟩; exact range_of5 (HI.out.F.kept x.2) 0 rfl rfl rfl rfl rfl
    have r5 : ∀ q, (∃ x : Wd (fun q => Below w1.heap.size w1 q), q = x.w) → q.rangeAt (w.heap.size + 1) 5 f.result.vs := by rintro _ ⟨x, rfl⟩; exact range_of5 (HI.out.F.kept x.2) 5 rfl rfl rfl rfl rfl
    have hNE : Nonempty (Wd (fun q => Below w1.heap.size w1 q)) := ⟨⟨_, Below.refl _ _⟩⟩
    refine wp_region_readsMN (fun q => Below w1.heap.size w1 q) [0, 2, 3, 4, 5, 7, 8, 9, 10] 5 (by kernel_rfl) rfl (by kernel_rfl) (hj_of (by kernel_rfl)) ((Below.refl _ _).drew) ?_
    simp only [List.filterMap, List.getElem?_cons_zero, List.getElem?_cons_succ]
    iterate 2 go_big_quiet_step (fail)
    go_big_quiet_want
    refine quiet_load_row 38 (.tmp 8) rfl _ 0 (by kernel_rfl) f.param.vs _ r0 Tryz.underlying38 rfl (by kernel_rfl) ?_
    simp only [Act.put, List.setIfInBounds_toArray, List.set_cons_succ, List.set_cons_zero]
    go_big_quiet_on
    go_big_quiet_step (fail)
    go_big_quiet_want
    refine quiet_load_row 38 (.tmp 10) rfl _ 5 (by kernel_rfl) f.result.vs _ r5 Tryz.underlying38 rfl (by kernel_rfl) ?_
    simp only [Act.put, List.setIfInBounds_toArray, List.set_cons_succ, List.set_cons_zero]
    go_big_quiet_on
    iterate 4 go_big_quiet_step (fail)
    refine wpQuiet_nil ?_
    clear p0 p1 p11 p12 r0 r5 hNE
    have HV0 := hid (show Below w1.heap.size w1 w1.drew from (Below.refl _ _).drew)
    generalize w1.drew = v0 at *
    refine wpAnyH_ready (rs := [1, 6, 12]) (by kernel_rfl) (by simp) ?_
    refine AllReadyH.cons rfl (fun K hK => ?_) (AllReadyH.cons rfl (fun K hK => ?_) (AllReadyH.cons rfl (fun K hK => ?_) (AllReadyH.nil)))
    · rw [if_pos (by rfl)]
      go_simp
      refine (rBottom_any n g v0 ((HH.out.1.kept HI.out.bl).kept HV0.out) ((HH.out.2.1.kept HI.out.bl).kept HV0.out)).mono ?_
      rintro _ v1 ⟨rfl, hb9⟩
      have HV1 := hid (Below.next HV0.out hb9)
      refine hK.out _ _ HV1.out (fun _ => ?_)
      clear hK K hb9
      refine wpAnyH_ready (rs := [6, 12]) (by kernel_rfl) (by simp) ?_
      refine AllReadyH.cons rfl (fun K hK => ?_) (AllReadyH.cons rfl (fun K hK => ?_) (AllReadyH.nil))
      · rw [if_pos (by rfl)]
        have hb9 := below_alloc v1 (.cells (f.param.vs ++ f.result.vs).toArray 38)
        have HV2 := hid (Below.next HV1.out hb9)
        have Hs2 := hid (show Blk (v1.alloc (.cells (f.param.vs ++ f.result.vs).toArray 38)) v1.heap.size (f.param.vs ++ f.result.vs) 38 ∧ w1.heap.size ≤ v1.heap.size from ⟨Blk.new v1 _ _, HV1.out.size⟩)
        refine wp_sliceI 36 2 #[(0, .tmp 9), (1, .tmp 11)] rfl #[(0, .agg f.param.vs.toArray), (1, .agg f.result.vs.toArray)] (by kernel_rfl) (run_slice2_ty f.param f.result v1) ?_
        refine hK.out _ _ HV2.out (fun _ => ?_)
        clear hK K hb9
        generalize (v1.alloc (.cells (f.param.vs ++ f.result.vs).toArray 38)) = v2 at *
        generalize v1.heap.size = BS at *
        simp only [Act.put, List.getElem_toArray, List.getElem_cons_zero, List.getElem_cons_succ, List.setIfInBounds_toArray, List.set_cons_succ, List.set_cons_zero]
        refine wpAnyH_ready (rs := [11, 12]) (by kernel_rfl) (by simp) ?_
        refine AllReadyH.cons rfl (fun K hK => ?_) (AllReadyH.cons rfl (fun K hK => ?_) (AllReadyH.nil))
        · rw [if_pos (by rfl)]
          refine wp_buildT 38 #[(0, .const (.int .i64 4)), (1, .tmp 7), (2, .tmp 12), (3, .tmp 14), (4, .tmp 16)] rfl _ (by kernel_rfl) (run_build_T (botI n g) f.heap f.exc BS f.param f.result v2) ?_
          refine hK.out _ _ HV2.out (fun _ => ?_)
          clear hK K
          simp only [Act.put, List.getElem_toArray, List.getElem_cons_zero, List.getElem_cons_succ, List.setIfInBounds_toArray, List.set_cons_succ, List.set_cons_zero]
          refine wpAnyH_ready (rs := [12]) (by kernel_rfl) (by simp) ?_
          refine AllReadyH.cons rfl (fun K hK => ?_) (AllReadyH.nil)
          rw [if_pos (by rfl)]
          have hb9 := below_alloc v2 (.cells zTv.toArray 38)
          have HV4 := hid (Below.next HV2.out hb9)
          have Hv4 := hid (show Blk (v2.alloc (.cells zTv.toArray 38)) v2.heap.size zTv 38 ∧ w1.heap.size ≤ v2.heap.size from ⟨Blk.new v2 _ _, HV2.out.size⟩)
          have Hs4 := hid (show _ ∧ _ from ⟨Hs2.out.1.kept hb9, Hs2.out.2⟩)
          have HNE := hid (show BS ≠ v2.heap.size from fun e => by have := Hs2.out.1.lt; omega)
          refine wp_alloc_tyI rfl ?_
          refine hK.out _ _ HV4.out (fun _ => ?_)
          clear hK K hb9
          generalize (v2.alloc (.cells zTv.toArray 38)) = v4 at *
          generalize v2.heap.size = BV at *
          simp only [Act.put, List.getElem_toArray, List.getElem_cons_zero, List.getElem_cons_succ, List.setIfInBounds_toArray, List.set_cons_succ, List.set_cons_zero]
          refine wpAnyH_ready (rs := [13]) (by kernel_rfl) (by simp) ?_
          refine AllReadyH.cons rfl (fun K hK => ?_) AllReadyH.nil
          rw [if_pos (by rfl)]
          refine wp_store_wrote' 38 (.tmp 5) (.tmp 17) rfl rfl BV (mkB 4 (botI n g) f.heap f.exc BS f.param f.result).vs zTv (by kernel_rfl) (by kernel_rfl) rfl Hv4.out.1 rfl (by kernel_rfl) ?_
          intro w8 W8
          have HW := hid (show Below w1.heap.size w1 w8 from W8.below Hv4.out.2 HV4.out)
          have HR8 := hid (HI.out.kept HW.out)
          have HT8 := hid (show (mkB 4 (botI n g) f.heap f.exc BS f.param f.result).At w8 from mkB_at (HH.out.2.2.1.kept HR8.out.bl) (HH.out.2.2.2.kept HR8.out.bl) (W8.keep Hs4.out.1 HNE.out))
          refine hK.out _ _ HW.out (fun _ => ?_)
          clear hK K
          refine wpAnyH_done (by kernel_rfl) ?_ _
          refine ⟨(fun c hc => by cases hc), ?_⟩
          go_wp2
          go_meet
          case rel => exact ⟨_, _, rfl, ⟨HR8.out, W8.blk, HT8.out, mkB_blk' (Or.inr (Nat.le_trans HI.out.sz Hs4.out.2)) (HH.out.2.2.1.lt.mono (fun b hb => Or.inl hb)) (HH.out.2.2.2.lt.mono (fun b hb => Or.inl hb)), mkB_same⟩⟩
        · rw [if_pos (by rfl)]
          have hb9 := below_alloc v2 (.cells zTv.toArray 38)
          have HV5 := hid (Below.next HV2.out hb9)
          have Hv5 := hid (show Blk (v2.alloc (.cells zTv.toArray 38)) v2.heap.size zTv 38 ∧ w1.heap.size ≤ v2.heap.size from ⟨Blk.new v2 _ _, HV2.out.size⟩)
          have Hs5 := hid (show _ ∧ _ from ⟨Hs2.out.1.kept hb9, Hs2.out.2⟩)
          have HNE := hid (show BS ≠ v2.heap.size from fun e => by have := Hs2.out.1.lt; omega)
          refine wp_alloc_tyI rfl ?_
          refine hK.out _ _ HV5.out (fun _ => ?_)
          clear hK K hb9
          generalize (v2.alloc (.cells zTv.toArray 38)) = v5 at *
          generalize v2.heap.size = BV at *
          simp only [Act.put, List.getElem_toArray, List.getElem_cons_zero, List.getElem_cons_succ, List.setIfInBounds_toArray, List.set_cons_succ, List.set_cons_zero]
          refine wpAnyH_ready (rs := [11]) (by kernel_rfl) (by simp) ?_
          refine AllReadyH.cons rfl (fun K hK => ?_) (AllReadyH.nil)
          rw [if_pos (by rfl)]
          refine wp_buildT 38 #[(0, .const (.int .i64 4)), (1, .tmp 7), (2, .tmp 12), (3, .tmp 14), (4, .tmp 16)] rfl _ (by kernel_rfl) (run_build_T (botI n g) f.heap f.exc BS f.param f.result v5) ?_
          refine hK.out _ _ HV5.out (fun _ => ?_)
          clear hK K
          simp only [Act.put, List.getElem_toArray, List.getElem_cons_zero, List.getElem_cons_succ, List.setIfInBounds_toArray, List.set_cons_succ, List.set_cons_zero]
          refine wpAnyH_ready (rs := [13]) (by kernel_rfl) (by simp) ?_
          refine AllReadyH.cons rfl (fun K hK => ?_) AllReadyH.nil
          rw [if_pos (by rfl)]
          refine wp_store_wrote' 38 (.tmp 5) (.tmp 17) rfl rfl BV (mkB 4 (botI n g) f.heap f.exc BS f.param f.result).vs zTv (by kernel_rfl) (by kernel_rfl) rfl Hv5.out.1 rfl (by kernel_rfl) ?_
          intro w8 W8
          have HW := hid (show Below w1.heap.size w1 w8 from W8.below Hv5.out.2 HV5.out)
          have HR8 := hid (HI.out.kept HW.out)
          have HT8 := hid (show (mkB 4 (botI n g) f.heap f.exc BS f.param f.result).At w8 from mkB_at (HH.out.2.2.1.kept HR8.out.bl) (HH.out.2.2.2.kept HR8.out.bl) (W8.keep Hs5.out.1 HNE.out))
          refine hK.out _ _ HW.out (fun _ => ?_)
          clear hK K
          refine wpAnyH_done (by kernel_rfl) ?_ _
          refine ⟨(fun c hc => by cases hc), ?_⟩
          go_wp2
          go_meet
          case rel => exact ⟨_, _, rfl, ⟨HR8.out, W8.blk, HT8.out, mkB_blk' (Or.inr (Nat.le_trans HI.out.sz Hs5.out.2)) (HH.out.2.2.1.lt.mono (fun b hb => Or.inl hb)) (HH.out.2.2.2.lt.mono (fun b hb => Or.inl hb)), mkB_same⟩⟩
      · rw [if_pos (by rfl)]
        have hb9 := below_alloc v1 (.cells zTv.toArray 38)
        have HV7 := hid (Below.next HV1.out hb9)
        have Hv7 := hid (show Blk (v1.alloc (.cells zTv.toArray 38)) v1.heap.size zTv 38 ∧ w1.heap.size ≤ v1.heap.size from ⟨Blk.new v1 _ _, HV1.out.size⟩)
        refine wp_alloc_tyI rfl ?_
        refine hK.out _ _ HV7.out (fun _ => ?_)
        clear hK K hb9
        generalize (v1.alloc (.cells zTv.toArray 38)) = v7 at *
        generalize v1.heap.size = BV at *
        simp only [Act.put, List.getElem_toArray, List.getElem_cons_zero, List.getElem_cons_succ, List.setIfInBounds_toArray, List.set_cons_succ, List.set_cons_zero]
        refine wpAnyH_ready (rs := [6]) (by kernel_rfl) (by simp) ?_
        refine AllReadyH.cons rfl (fun K hK => ?_) (AllReadyH.nil)
        rw [if_pos (by rfl)]
        have hb9 := below_alloc v7 (.cells (f.param.vs ++ f.result.vs).toArray 38)
        have HV8 := hid (Below.next HV7.out hb9)
        have Hs8 := hid (show Blk (v7.alloc (.cells (f.param.vs ++ f.result.vs).toArray 38)) v7.heap.size (f.param.vs ++ f.result.vs) 38 ∧ w1.heap.size ≤ v7.heap.size from ⟨Blk.new v7 _ _, HV7.out.size⟩)
        have Hv8 := hid (show _ ∧ _ from ⟨Hv7.out.1.kept hb9, Hv7.out.2⟩)
        refine wp_sliceI 36 2 #[(0, .tmp 9), (1, .tmp 11)] rfl #[(0, .agg f.param.vs.toArray), (1, .agg f.result.vs.toArray)] (by kernel_rfl) (run_slice2_ty f.param f.result v7) ?_
        refine hK.out _ _ HV8.out (fun _ => ?_)
        have HNE := hid (show v7.heap.size ≠ BV from fun e => by have := Hv7.out.1.lt; omega)
        clear hK K hb9
        generalize (v7.alloc (.cells (f.param.vs ++ f.result.vs).toArray 38)) = v8 at *
        generalize v7.heap.size = BS at *
        simp only [Act.put, List.getElem_toArray, List.getElem_cons_zero, List.getElem_cons_succ, List.setIfInBounds_toArray, List.set_cons_succ, List.set_cons_zero]
        refine wpAnyH_ready (rs := [11]) (by kernel_rfl) (by simp) ?_
        refine AllReadyH.cons rfl (fun K hK => ?_) (AllReadyH.nil)
        rw [if_pos (by rfl)]
        refine wp_buildT 38 #[(0, .const (.int .i64 4)), (1, .tmp 7), (2, .tmp 12), (3, .tmp 14), (4, .tmp 16)] rfl _ (by kernel_rfl) (run_build_T (botI n g) f.heap f.exc BS f.param f.result v8) ?_
        refine hK.out _ _ HV8.out (fun _ => ?_)
        clear hK K
        simp only [Act.put, List.getElem_toArray, List.getElem_cons_zero, List.getElem_cons_succ, List.setIfInBounds_toArray, List.set_cons_succ, List.set_cons_zero]
        refine wpAnyH_ready (rs := [13]) (by kernel_rfl) (by simp) ?_
        refine AllReadyH.cons rfl (fun K hK => ?_) AllReadyH.nil
        rw [if_pos (by rfl)]
        refine wp_store_wrote' 38 (.tmp 5) (.tmp 17) rfl rfl BV (mkB 4 (botI n g) f.heap f.exc BS f.param f.result).vs zTv (by kernel_rfl) (by kernel_rfl) rfl Hv8.out.1 rfl (by kernel_rfl) ?_
        intro w8 W8
        have HW := hid (show Below w1.heap.size w1 w8 from W8.below Hv8.out.2 HV8.out)
        have HR8 := hid (HI.out.kept HW.out)
        have HT8 := hid (show (mkB 4 (botI n g) f.heap f.exc BS f.param f.result).At w8 from mkB_at (HH.out.2.2.1.kept HR8.out.bl) (HH.out.2.2.2.kept HR8.out.bl) (W8.keep Hs8.out.1 HNE.out))
        refine hK.out _ _ HW.out (fun _ => ?_)
        clear hK K
        refine wpAnyH_done (by kernel_rfl) ?_ _
        refine ⟨(fun c hc => by cases hc), ?_⟩
        go_wp2
        go_meet
        case rel => exact ⟨_, _, rfl, ⟨HR8.out, W8.blk, HT8.out, mkB_blk' (Or.inr (Nat.le_trans HI.out.sz Hs8.out.2)) (HH.out.2.2.1.lt.mono (fun b hb => Or.inl hb)) (HH.out.2.2.2.lt.mono (fun b hb => Or.inl hb)), mkB_same⟩⟩
    · rw [if_pos (by rfl)]
      have hb9 := below_alloc v0 (.cells (f.param.vs ++ f.result.vs).toArray 38)
      have HV10 := hid (Below.next HV0.out hb9)
      have Hs10 := hid (show Blk (v0.alloc (.cells (f.param.vs ++ f.result.vs).toArray 38)) v0.heap.size (f.param.vs ++ f.result.vs) 38 ∧ w1.heap.size ≤ v0.heap.size from ⟨Blk.new v0 _ _, HV0.out.size⟩)
      refine wp_sliceI 36 2 #[(0, .tmp 9), (1, .tmp 11)] rfl #[(0, .agg f.param.vs.toArray), (1, .agg f.result.vs.toArray)] (by kernel_rfl) (run_slice2_ty f.param f.result v0) ?_
      refine hK.out _ _ HV10.out (fun _ => ?_)
      clear hK K hb9
      generalize (v0.alloc (.cells (f.param.vs ++ f.result.vs).toArray 38)) = v10 at *
      generalize v0.heap.size = BS at *
      simp only [Act.put, List.getElem_toArray, List.getElem_cons_zero, List.getElem_cons_succ, List.setIfInBounds_toArray, List.set_cons_succ, List.set_cons_zero]
      refine wpAnyH_ready (rs := [1, 12]) (by kernel_rfl) (by simp) ?_
      refine AllReadyH.cons rfl (fun K hK => ?_) (AllReadyH.cons rfl (fun K hK => ?_) (AllReadyH.nil))
      · rw [if_pos (by rfl)]
        go_simp
        refine (rBottom_any n g v10 ((HH.out.1.kept HI.out.bl).kept HV10.out) ((HH.out.2.1.kept HI.out.bl).kept HV10.out)).mono ?_
        rintro _ v11 ⟨rfl, hb9⟩
        have HV11 := hid (Below.next HV10.out hb9)
        have Hs11 := hid (show _ ∧ _ from ⟨Hs10.out.1.kept hb9, Hs10.out.2⟩)
        refine hK.out _ _ HV11.out (fun _ => ?_)
        clear hK K hb9
        refine wpAnyH_ready (rs := [11, 12]) (by kernel_rfl) (by simp) ?_
        refine AllReadyH.cons rfl (fun K hK => ?_) (AllReadyH.cons rfl (fun K hK => ?_) (AllReadyH.nil))
        · rw [if_pos (by rfl)]
          refine wp_buildT 38 #[(0, .const (.int .i64 4)), (1, .tmp 7), (2, .tmp 12), (3, .tmp 14), (4, .tmp 16)] rfl _ (by kernel_rfl) (run_build_T (botI n g) f.heap f.exc BS f.param f.result v11) ?_
          refine hK.out _ _ HV11.out (fun _ => ?_)
          clear hK K
          simp only [Act.put, List.getElem_toArray, List.getElem_cons_zero, List.getElem_cons_succ, List.setIfInBounds_toArray, List.set_cons_succ, List.set_cons_zero]
          refine wpAnyH_ready (rs := [12]) (by kernel_rfl) (by simp) ?_
          refine AllReadyH.cons rfl (fun K hK => ?_) (AllReadyH.nil)
          rw [if_pos (by rfl)]
          have hb9 := below_alloc v11 (.cells zTv.toArray 38)
          have HV13 := hid (Below.next HV11.out hb9)
          have Hv13 := hid (show Blk (v11.alloc (.cells zTv.toArray 38)) v11.heap.size zTv 38 ∧ w1.heap.size ≤ v11.heap.size from ⟨Blk.new v11 _ _, HV11.out.size⟩)
          have Hs13 := hid (show _ ∧ _ from ⟨Hs11.out.1.kept hb9, Hs11.out.2⟩)
          have HNE := hid (show BS ≠ v11.heap.size from fun e => by have := Hs11.out.1.lt; omega)
          refine wp_alloc_tyI rfl ?_
          refine hK.out _ _ HV13.out (fun _ => ?_)
          clear hK K hb9
          generalize (v11.alloc (.cells zTv.toArray 38)) = v13 at *
          generalize v11.heap.size = BV at *
          simp only [Act.put, List.getElem_toArray, List.getElem_cons_zero, List.getElem_cons_succ, List.setIfInBounds_toArray, List.set_cons_succ, List.set_cons_zero]
          refine wpAnyH_ready (rs := [13]) (by kernel_rfl) (by simp) ?_
          refine AllReadyH.cons rfl (fun K hK => ?_) AllReadyH.nil
          rw [if_pos (by rfl)]
          refine wp_store_wrote' 38 (.tmp 5) (.tmp 17) rfl rfl BV (mkB 4 (botI n g) f.heap f.exc BS f.param f.result).vs zTv (by kernel_rfl) (by kernel_rfl) rfl Hv13.out.1 rfl (by kernel_rfl) ?_
          intro w8 W8
          have HW := hid (show Below w1.heap.size w1 w8 from W8.below Hv13.out.2 HV13.out)
          have HR8 := hid (HI.out.kept HW.out)
          have HT8 := hid (show (mkB 4 (botI n g) f.heap f.exc BS f.param f.result).At w8 from mkB_at (HH.out.2.2.1.kept HR8.out.bl) (HH.out.2.2.2.kept HR8.out.bl) (W8.keep Hs13.out.1 HNE.out))
          refine hK.out _ _ HW.out (fun _ => ?_)
          clear hK K
          refine wpAnyH_done (by kernel_rfl) ?_ _
          refine ⟨(fun c hc => by cases hc), ?_⟩
          go_wp2
          go_meet
          case rel => exact ⟨_, _, rfl, ⟨HR8.out, W8.blk, HT8.out, mkB_blk' (Or.inr (Nat.le_trans HI.out.sz Hs13.out.2)) (HH.out.2.2.1.lt.mono (fun b hb => Or.inl hb)) (HH.out.2.2.2.lt.mono (fun b hb => Or.inl hb)), mkB_same⟩⟩
        · rw [if_pos (by rfl)]
          have hb9 := below_alloc v11 (.cells zTv.toArray 38)
          have HV14 := hid (Below.next HV11.out hb9)
          have Hv14 := hid (show Blk (v11.alloc (.cells zTv.toArray 38)) v11.heap.size zTv 38 ∧ w1.heap.size ≤ v11.heap.size from ⟨Blk.new v11 _ _, HV11.out.size⟩)
          have Hs14 := hid (show _ ∧ _ from ⟨Hs11.out.1.kept hb9, Hs11.out.2⟩)
          have HNE := hid (show BS ≠ v11.heap.size from fun e => by have := Hs11.out.1.lt; omega)
          refine wp_alloc_tyI rfl ?_
          refine hK.out _ _ HV14.out (fun _ => ?_)
          clear hK K hb9
          generalize (v11.alloc (.cells zTv.toArray 38)) = v14 at *
          generalize v11.heap.size = BV at *
          simp only [Act.put, List.getElem_toArray, List.getElem_cons_zero, List.getElem_cons_succ, List.setIfInBounds_toArray, List.set_cons_succ, List.set_cons_zero]
          refine wpAnyH_ready (rs := [11]) (by kernel_rfl) (by simp) ?_
          refine AllReadyH.cons rfl (fun K hK => ?_) (AllReadyH.nil)
          rw [if_pos (by rfl)]
          refine wp_buildT 38 #[(0, .const (.int .i64 4)), (1, .tmp 7), (2, .tmp 12), (3, .tmp 14), (4, .tmp 16)] rfl _ (by kernel_rfl) (run_build_T (botI n g) f.heap f.exc BS f.param f.result v14) ?_
          refine hK.out _ _ HV14.out (fun _ => ?_)
          clear hK K
          simp only [Act.put, List.getElem_toArray, List.getElem_cons_zero, List.getElem_cons_succ, List.setIfInBounds_toArray, List.set_cons_succ, List.set_cons_zero]
          refine wpAnyH_ready (rs := [13]) (by kernel_rfl) (by simp) ?_
          refine AllReadyH.cons rfl (fun K hK => ?_) AllReadyH.nil
          rw [if_pos (by rfl)]
          refine wp_store_wrote' 38 (.tmp 5) (.tmp 17) rfl rfl BV (mkB 4 (botI n g) f.heap f.exc BS f.param f.result).vs zTv (by kernel_rfl) (by kernel_rfl) rfl Hv14.out.1 rfl (by kernel_rfl) ?_
          intro w8 W8
          have HW := hid (show Below w1.heap.size w1 w8 from W8.below Hv14.out.2 HV14.out)
          have HR8 := hid (HI.out.kept HW.out)
          have HT8 := hid (show (mkB 4 (botI n g) f.heap f.exc BS f.param f.result).At w8 from mkB_at (HH.out.2.2.1.kept HR8.out.bl) (HH.out.2.2.2.kept HR8.out.bl) (W8.keep Hs14.out.1 HNE.out))
          refine hK.out _ _ HW.out (fun _ => ?_)
          clear hK K
          refine wpAnyH_done (by kernel_rfl) ?_ _
          refine ⟨(fun c hc => by cases hc), ?_⟩
          go_wp2
          go_meet
          case rel => exact ⟨_, _, rfl, ⟨HR8.out, W8.blk, HT8.out, mkB_blk' (Or.inr (Nat.le_trans HI.out.sz Hs14.out.2)) (HH.out.2.2.1.lt.mono (fun b hb => Or.inl hb)) (HH.out.2.2.2.lt.mono (fun b hb => Or.inl hb)), mkB_same⟩⟩
      · rw [if_pos (by rfl)]
        have hb9 := below_alloc v10 (.cells zTv.toArray 38)
        have HV16 := hid (Below.next HV10.out hb9)
        have Hv16 := hid (show Blk (v10.alloc (.cells zTv.toArray 38)) v10.heap.size zTv 38 ∧ w1.heap.size ≤ v10.heap.size from ⟨Blk.new v10 _ _, HV10.out.size⟩)
        have Hs16 := hid (show _ ∧ _ from ⟨Hs10.out.1.kept hb9, Hs10.out.2⟩)
        have HNE := hid (show BS ≠ v10.heap.size from fun e => by have := Hs10.out.1.lt; omega)
        refine wp_alloc_tyI rfl ?_
        refine hK.out _ _ HV16.out (fun _ => ?_)
        clear hK K hb9
        generalize (v10.alloc (.cells zTv.toArray 38)) = v16 at *
        generalize v10.heap.size = BV at *
        simp only [Act.put, List.getElem_toArray, List.getElem_cons_zero, List.getElem_cons_succ, List.setIfInBounds_toArray, List.set_cons_succ, List.set_cons_zero]
        refine wpAnyH_ready (rs := [1]) (by kernel_rfl) (by simp) ?_
        refine AllReadyH.cons rfl (fun K hK => ?_) (AllReadyH.nil)
        rw [if_pos (by rfl)]
        go_simp
        refine (rBottom_any n g v16 ((HH.out.1.kept HI.out.bl).kept HV16.out) ((HH.out.2.1.kept HI.out.bl).kept HV16.out)).mono ?_
        rintro _ v17 ⟨rfl, hb9⟩
        have HV17 := hid (Below.next HV16.out hb9)
        have Hs17 := hid (show _ ∧ _ from ⟨Hs16.out.1.kept hb9, Hs16.out.2⟩)
        have Hv17 := hid (show _ ∧ _ from ⟨Hv16.out.1.kept hb9, Hv16.out.2⟩)
        refine hK.out _ _ HV17.out (fun _ => ?_)
        clear hK K hb9
        refine wpAnyH_ready (rs := [11]) (by kernel_rfl) (by simp) ?_
        refine AllReadyH.cons rfl (fun K hK => ?_) (AllReadyH.nil)
        rw [if_pos (by rfl)]
        refine wp_buildT 38 #[(0, .const (.int .i64 4)), (1, .tmp 7), (2, .tmp 12), (3, .tmp 14), (4, .tmp 16)] rfl _ (by kernel_rfl) (run_build_T (botI n g) f.heap f.exc BS f.param f.result v17) ?_
        refine hK.out _ _ HV17.out (fun _ => ?_)
        clear hK K
        simp only [Act.put, List.getElem_toArray, List.getElem_cons_zero, List.getElem_cons_succ, List.setIfInBounds_toArray, List.set_cons_succ, List.set_cons_zero]
        refine wpAnyH_ready (rs := [13]) (by kernel_rfl) (by simp) ?_
        refine AllReadyH.cons rfl (fun K hK => ?_) AllReadyH.nil
        rw [if_pos (by rfl)]
        refine wp_store_wrote' 38 (.tmp 5) (.tmp 17) rfl rfl BV (mkB 4 (botI n g) f.heap f.exc BS f.param f.result).vs zTv (by kernel_rfl) (by kernel_rfl) rfl Hv17.out.1 rfl (by kernel_rfl) ?_
        intro w8 W8
        have HW := hid (show Below w1.heap.size w1 w8 from W8.below Hv17.out.2 HV17.out)
        have HR8 := hid (HI.out.kept HW.out)
        have HT8 := hid (show (mkB 4 (botI n g) f.heap f.exc BS f.param f.result).At w8 from mkB_at (HH.out.2.2.1.kept HR8.out.bl) (HH.out.2.2.2.kept HR8.out.bl) (W8.keep Hs17.out.1 HNE.out))
        refine hK.out _ _ HW.out (fun _ => ?_)
        clear hK K
        refine wpAnyH_done (by kernel_rfl) ?_ _
        refine ⟨(fun c hc => by cases hc), ?_⟩
        go_wp2
        go_meet
        case rel => exact ⟨_, _, rfl, ⟨HR8.out, W8.blk, HT8.out, mkB_blk' (Or.inr (Nat.le_trans HI.out.sz Hs17.out.2)) (HH.out.2.2.1.lt.mono (fun b hb => Or.inl hb)) (HH.out.2.2.2.lt.mono (fun b hb => Or.inl hb)), mkB_same⟩⟩
    · rw [if_pos (by rfl)]
      have hb9 := below_alloc v0 (.cells zTv.toArray 38)
      have HV19 := hid (Below.next HV0.out hb9)
      have Hv19 := hid (show Blk (v0.alloc (.cells zTv.toArray 38)) v0.heap.size zTv 38 ∧ w1.heap.size ≤ v0.heap.size from ⟨Blk.new v0 _ _, HV0.out.size⟩)
      refine wp_alloc_tyI rfl ?_
      refine hK.out _ _ HV19.out (fun _ => ?_)
      clear hK K hb9
      generalize (v0.alloc (.cells zTv.toArray 38)) = v19 at *
      generalize v0.heap.size = BV at *
      simp only [Act.put, List.getElem_toArray, List.getElem_cons_zero, List.getElem_cons_succ, List.setIfInBounds_toArray, List.set_cons_succ, List.set_cons_zero]
      refine wpAnyH_ready (rs := [1, 6]) (by kernel_rfl) (by simp) ?_
      refine AllReadyH.cons rfl (fun K hK => ?_) (AllReadyH.cons rfl (fun K hK => ?_) (AllReadyH.nil))
      · rw [if_pos (by rfl)]
        go_simp
        refine (rBottom_any n g v19 ((HH.out.1.kept HI.out.bl).kept HV19.out) ((HH.out.2.1.kept HI.out.bl).kept HV19.out)).mono ?_
        rintro _ v20 ⟨rfl, hb9⟩
        have HV20 := hid (Below.next HV19.out hb9)
        have Hv20 := hid (show _ ∧ _ from ⟨Hv19.out.1.kept hb9, Hv19.out.2⟩)
        refine hK.out _ _ HV20.out (fun _ => ?_)
        clear hK K hb9
        refine wpAnyH_ready (rs := [6]) (by kernel_rfl) (by simp) ?_
        refine AllReadyH.cons rfl (fun K hK => ?_) (AllReadyH.nil)
        rw [if_pos (by rfl)]
        have hb9 := below_alloc v20 (.cells (f.param.vs ++ f.result.vs).toArray 38)
        have HV21 := hid (Below.next HV20.out hb9)
        have Hs21 := hid (show Blk (v20.alloc (.cells (f.param.vs ++ f.result.vs).toArray 38)) v20.heap.size (f.param.vs ++ f.result.vs) 38 ∧ w1.heap.size ≤ v20.heap.size from ⟨Blk.new v20 _ _, HV20.out.size⟩)
        have Hv21 := hid (show _ ∧ _ from ⟨Hv20.out.1.kept hb9, Hv20.out.2⟩)
        refine wp_sliceI 36 2 #[(0, .tmp 9), (1, .tmp 11)] rfl #[(0, .agg f.param.vs.toArray), (1, .agg f.result.vs.toArray)] (by kernel_rfl) (run_slice2_ty f.param f.result v20) ?_
        refine hK.out _ _ HV21.out (fun _ => ?_)
        have HNE := hid (show v20.heap.size ≠ BV from fun e => by have := Hv20.out.1.lt; omega)
        clear hK K hb9
        generalize (v20.alloc (.cells (f.param.vs ++ f.result.vs).toArray 38)) = v21 at *
        generalize v20.heap.size = BS at *
        simp only [Act.put, List.getElem_toArray, List.getElem_cons_zero, List.getElem_cons_succ, List.setIfInBounds_toArray, List.set_cons_succ, List.set_cons_zero]
        refine wpAnyH_ready (rs := [11]) (by kernel_rfl) (by simp) ?_
        refine AllReadyH.cons rfl (fun K hK => ?_) (AllReadyH.nil)
        rw [if_pos (by rfl)]
        refine wp_buildT 38 #[(0, .const (.int .i64 4)), (1, .tmp 7), (2, .tmp 12), (3, .tmp 14), (4, .tmp 16)] rfl _ (by kernel_rfl) (run_build_T (botI n g) f.heap f.exc BS f.param f.result v21) ?_
        refine hK.out _ _ HV21.out (fun _ => ?_)
        clear hK K
        simp only [Act.put, List.getElem_toArray, List.getElem_cons_zero, List.getElem_cons_succ, List.setIfInBounds_toArray, List.set_cons_succ, List.set_cons_zero]
        refine wpAnyH_ready (rs := [13]) (by kernel_rfl) (by simp) ?_
        refine AllReadyH.cons rfl (fun K hK => ?_) AllReadyH.nil
        rw [if_pos (by rfl)]
        refine wp_store_wrote' 38 (.tmp 5) (.tmp 17) rfl rfl BV (mkB 4 (botI n g) f.heap f.exc BS f.param f.result).vs zTv (by kernel_rfl) (by kernel_rfl) rfl Hv21.out.1 rfl (by kernel_rfl) ?_
        intro w8 W8
        have HW := hid (show Below w1.heap.size w1 w8 from W8.below Hv21.out.2 HV21.out)
        have HR8 := hid (HI.out.kept HW.out)
        have HT8 := hid (show (mkB 4 (botI n g) f.heap f.exc BS f.param f.result).At w8 from mkB_at (HH.out.2.2.1.kept HR8.out.bl) (HH.out.2.2.2.kept HR8.out.bl) (W8.keep Hs21.out.1 HNE.out))
        refine hK.out _ _ HW.out (fun _ => ?_)
        clear hK K
        refine wpAnyH_done (by kernel_rfl) ?_ _
        refine ⟨(fun c hc => by cases hc), ?_⟩
        go_wp2
        go_meet
        case rel => exact ⟨_, _, rfl, ⟨HR8.out, W8.blk, HT8.out, mkB_blk' (Or.inr (Nat.le_trans HI.out.sz Hs21.out.2)) (HH.out.2.2.1.lt.mono (fun b hb => Or.inl hb)) (HH.out.2.2.2.lt.mono (fun b hb => Or.inl hb)), mkB_same⟩⟩
      · rw [if_pos (by rfl)]
        have hb9 := below_alloc v19 (.cells (f.param.vs ++ f.result.vs).toArray 38)
        have HV23 := hid (Below.next HV19.out hb9)
        have Hs23 := hid (show Blk (v19.alloc (.cells (f.param.vs ++ f.result.vs).toArray 38)) v19.heap.size (f.param.vs ++ f.result.vs) 38 ∧ w1.heap.size ≤ v19.heap.size from ⟨Blk.new v19 _ _, HV19.out.size⟩)
        have Hv23 := hid (show _ ∧ _ from ⟨Hv19.out.1.kept hb9, Hv19.out.2⟩)
        refine wp_sliceI 36 2 #[(0, .tmp 9), (1, .tmp 11)] rfl #[(0, .agg f.param.vs.toArray), (1, .agg f.result.vs.toArray)] (by kernel_rfl) (run_slice2_ty f.param f.result v19) ?_
        refine hK.out _ _ HV23.out (fun _ => ?_)
        have HNE := hid (show v19.heap.size ≠ BV from fun e => by have := Hv19.out.1.lt; omega)
        clear hK K hb9
        generalize (v19.alloc (.cells (f.param.vs ++ f.result.vs).toArray 38)) = v23 at *
        generalize v19.heap.size = BS at *
        simp only [Act.put, List.getElem_toArray, List.getElem_cons_zero, List.getElem_cons_succ, List.setIfInBounds_toArray, List.set_cons_succ, List.set_cons_zero]
        refine wpAnyH_ready (rs := [1]) (by kernel_rfl) (by simp) ?_
        refine AllReadyH.cons rfl (fun K hK => ?_) (AllReadyH.nil)
        rw [if_pos (by rfl)]
        go_simp
        refine (rBottom_any n g v23 ((HH.out.1.kept HI.out.bl).kept HV23.out) ((HH.out.2.1.kept HI.out.bl).kept HV23.out)).mono ?_
        rintro _ v24 ⟨rfl, hb9⟩
        have HV24 := hid (Below.next HV23.out hb9)
        have Hv24 := hid (show _ ∧ _ from ⟨Hv23.out.1.kept hb9, Hv23.out.2⟩)
        have Hs24 := hid (show _ ∧ _ from ⟨Hs23.out.1.kept hb9, Hs23.out.2⟩)
        refine hK.out _ _ HV24.out (fun _ => ?_)
        clear hK K hb9
        refine wpAnyH_ready (rs := [11]) (by kernel_rfl) (by simp) ?_
        refine AllReadyH.cons rfl (fun K hK => ?_) (AllReadyH.nil)
        rw [if_pos (by rfl)]
        refine wp_buildT 38 #[(0, .const (.int .i64 4)), (1, .tmp 7), (2, .tmp 12), (3, .tmp 14), (4, .tmp 16)] rfl _ (by kernel_rfl) (run_build_T (botI n g) f.heap f.exc BS f.param f.result v24) ?_
        refine hK.out _ _ HV24.out (fun _ => ?_)
        clear hK K
        simp only [Act.put, List.getElem_toArray, List.getElem_cons_zero, List.getElem_cons_succ, List.setIfInBounds_toArray, List.set_cons_succ, List.set_cons_zero]
        refine wpAnyH_ready (rs := [13]) (by kernel_rfl) (by simp) ?_
        refine AllReadyH.cons rfl (fun K hK => ?_) AllReadyH.nil
        rw [if_pos (by rfl)]
        refine wp_store_wrote' 38 (.tmp 5) (.tmp 17) rfl rfl BV (mkB 4 (botI n g) f.heap f.exc BS f.param f.result).vs zTv (by kernel_rfl) (by kernel_rfl) rfl Hv24.out.1 rfl (by kernel_rfl) ?_
        intro w8 W8
        have HW := hid (show Below w1.heap.size w1 w8 from W8.below Hv24.out.2 HV24.out)
        have HR8 := hid (HI.out.kept HW.out)
        have HT8 := hid (show (mkB 4 (botI n g) f.heap f.exc BS f.param f.result).At w8 from mkB_at (HH.out.2.2.1.kept HR8.out.bl) (HH.out.2.2.2.kept HR8.out.bl) (W8.keep Hs24.out.1 HNE.out))
        refine hK.out _ _ HW.out (fun _ => ?_)
        clear hK K
        refine wpAnyH_done (by kernel_rfl) ?_ _
        refine ⟨(fun c hc => by cases hc), ?_⟩
        go_wp2
        go_meet
        case rel => exact ⟨_, _, rfl, ⟨HR8.out, W8.blk, HT8.out, mkB_blk' (Or.inr (Nat.le_trans HI.out.sz Hs24.out.2)) (HH.out.2.2.1.lt.mono (fun b hb => Or.inl hb)) (HH.out.2.2.2.lt.mono (fun b hb => Or.inl hb)), mkB_same⟩⟩
  case rest =>
    obtain ⟨B5, T, rfl, hI⟩ := hcut
    clear HI
    have HI := hid hI.out
    clear hI
    have e0 := HI.out.1.L.cell 0 rfl
    have e1 := HI.out.1.L.cell 1 rfl
    have b5 := HI.out.2.1
    have HOK := hid (show okB n g T = okB n g (mk2 4 (botI n g) f.heap f.exc f.param f.result) from ok_same HI.out.2.2.1.nd (mk2_nd HH.out.2.2.1.nd HH.out.2.2.2.nd) HI.out.2.2.2.2)
    have hO : Calls Tryz.prog 30 #[.agg #[.slice n.ao n.len n.cap, .slice g.ao g.len g.cap], .agg T.vs.toArray] wc (fun e w' => e = .returned (.bool (okB n g T)) ∧ Below wc.heap.size wc w') := rFormed2_any n g T wc (HH.out.1.kept HI.out.1.bl) (HH.out.2.1.kept HI.out.1.bl) HI.out.2.2.1
    go_wp2_with (refine wpList_load_mid rfl 38 (.tmp 5) rfl B5 0 (by kernel_rfl) T.vs _ b5.range Tryz.underlying38 rfl (by kernel_rfl) ?_)
    refine Calls.mono hO ?_
    rintro _ w2 ⟨rfl, hb2⟩
    have HI2 := hid (show Rs w n g f w2 ∧ Blk w2 B5 T.vs 38 ∧ T.At w2 from ⟨HI.out.1.kept hb2, HI.out.2.1.kept hb2, HI.out.2.2.1.kept hb2⟩)
    have HT := hid HI.out.2.2.2
    clear hO e0 e1 b5 hb2 HI
    generalize okB n g T = r at *
    have bZ := HI2.out.1.Z
    cases r
    · have HG : Hid (sigT n g f = leafT 0 0) := by show _ = _; rw [rsT_sig]; unfold rsT; rw [← HOK.out]; rfl
      go_wp2_with (refine wpList_store_blk rfl rfl 38 (.tmp 4) (.tmp 22) rfl (w.heap.size + 2) (leafT 0 0).vs (by kernel_rfl) (by kernel_rfl) rfl bZ rfl (by kernel_rfl) ?_; intro w6 W2)
      have z0 := W2.blk.cell 0 (v := .int .i64 0) rfl
      have z1 := W2.blk.cell 1 (v := .int .i64 0) rfl
      have z2 := W2.blk.cell 2 (v := .slice none 0 0) rfl
      have z3 := W2.blk.cell 3 (v := .int .i64 0) rfl
      have z4 := W2.blk.cell 4 (v := .int .i64 0) rfl
      exact bodyPost_ret (v := .agg (leafT 0 0).vs.toArray) (by simp [results, Tryz.results14, go_sem, z0, z1, z2, z3, z4, Ty.vs, leafT, Ty.k, Ty.l, Ty.ao, Ty.len, Ty.cap, Ty.h, Ty.e]) rfl ⟨leafT 0 0, rfl, leaf_at _ _ _, by rw [HG.out]; exact same_refl _, W2.below (by omega) HI2.out.1.bl⟩
    · have HG : Hid (sigT n g f = mk2 4 (botI n g) f.heap f.exc f.param f.result) := by show _ = _; rw [rsT_sig]; unfold rsT; rw [← HOK.out]; rfl
      have b5 := HI2.out.2.1
      go_wp2_with (first | (refine wpList_load_mid rfl 38 (.tmp 5) rfl B5 0 (by kernel_rfl) T.vs _ b5.range Tryz.underlying38 rfl (by kernel_rfl) ?_) | (refine wpList_store_blk rfl rfl 38 (.tmp 4) (.tmp 23) rfl (w.heap.size + 2) T.vs (by kernel_rfl) (by kernel_rfl) T.vs_one bZ rfl (by kernel_rfl) ?_; intro w6 W2))
      have z0 := W2.blk.cell 0 (v := .int .i64 T.k) rfl
      have z1 := W2.blk.cell 1 (v := .int .i64 T.l) rfl
      have z2 := W2.blk.cell 2 (v := .slice T.ao T.len T.cap) rfl
      have z3 := W2.blk.cell 3 (v := .int .i64 T.h) rfl
      have z4 := W2.blk.cell 4 (v := .int .i64 T.e) rfl
      exact bodyPost_ret (v := .agg T.vs.toArray) (by simp [results, Tryz.results14, go_sem, z0, z1, z2, z3, z4, Ty.vs]) rfl ⟨T, rfl, HI2.out.2.2.wrote HT.out.1 W2 (by omega) (by omega), by rw [HG.out]; exact HT.out.2, W2.below (by omega) HI2.out.1.bl⟩
end Go.Proofs.YtbdhbgilaeldgaaGreat
