/- Layer 9: walk.Total at a function without Parts: gather, Total, Numbers. -/
import Derived.Test.YtefaodpbfckmdaaP6
namespace Go.Proofs.Ytefaodpbfckmdaa
open Go Go.RowKit

theorem Try.infoExT : (Try.prog.info? 36).map (fun i => (i.zero, i.size, i.bytes)) = some (some (.agg zEx.toArray), 17, 200) := by kernel_rfl
theorem run_slice_exT (w : World) : (Instr.buildSlice 34 1 #[(0, .agg fnE.va)]).run Try.prog w = .ok (.slice (some ⟨w.heap.size, 0, none⟩) 1 1) (w.alloc (.cells fnE.va 36)) := by kernel_rfl
def lsZ (n : Nat) : List Value := [.slice (some ⟨n, 0, none⟩) 1 1, .int .i64 0, .slice none 0 0, .bool false]
theorem run_build_ls (n : Nat) (w : World) : (Instr.build 51 #[(0, .slice (some ⟨n, 0, none⟩) 1 1)]).run Try.prog w = .ok (.agg (lsZ n).toArray) w := by kernel_rfl
theorem Try.infoLs : (Try.prog.info? 51).map (fun i => (i.zero, i.size, i.bytes)) = some (some (.agg zLs.toArray), 4, 64) := by kernel_rfl
theorem run_slice_ls (n : Nat) (w : World) : (Instr.buildSlice 43 1 #[(0, .agg (lsZ n).toArray)]).run Try.prog w = .ok (.slice (some ⟨w.heap.size, 0, none⟩) 1 1) (w.alloc (.cells (lsZ n).toArray 51)) := by kernel_rfl
theorem lsZ_one (n : Nat) : ∀ u ∈ lsZ n, u.oneCell' = true := by simp [lsZ, Value.oneCell']
def GtP (u v : World) (B p m b : Nat) : Prop := Blk v p (hdV m (.slice none 0 0)) 45 ∧ Below B u v ∧ B ≤ p ∧ Blk v b fnE.vs 36
theorem GtP.kept {u v v' : World} {B p m b : Nat} (h : GtP u v B p m b) (k : Below v.heap.size v v') : GtP u v' B p m b := ⟨h.1.kept k, h.2.1.trans (k.mono (by have := h.2.2.1; have := h.1.lt; omega)), h.2.2.1, h.2.2.2.kept k⟩
theorem wp_newE {o : Oper} {a : Act} {w : World} {K : Act → World → Prop} {Q : Exit → Act → World → Prop} (x : Operand) (ho : o.op = .buildSlice 34 1 #[(0, x)]) (hx : a.eval x = .agg fnE.va) (h : ∀ w', Blk w' w.heap.size fnE.vs 36 → Below w.heap.size w w' → K (a.put o.dst (.slice (some ⟨w.heap.size, 0, none⟩) 1 1)) w') : o.wp Try.prog a w K Q := by
  unfold Oper.wp execOp
  simp only [ho, List.map_toArray, List.map_cons, List.map_nil, hx, Sem.run_bind, run_slice_exT, Result.andThen_ok, Sem.run_pure]
  exact h _ (Blk.new w fnE.vs _) (below_alloc w _)
theorem wp_buildL {o : Oper} {a : Act} {w : World} {K : Act → World → Prop} {Q : Exit → Act → World → Prop} (x : Operand) (ho : o.op = .build 51 #[(0, x)]) (n : Nat) (hx : a.eval x = .slice (some ⟨n, 0, none⟩) 1 1) (h : K (a.put o.dst (.agg (lsZ n).toArray)) w) : o.wp Try.prog a w K Q := by
  unfold Oper.wp execOp
  simp only [ho, List.map_toArray, List.map_cons, List.map_nil, hx, Sem.run_bind, run_build_ls, Result.andThen_ok, Sem.run_pure]
  exact h
theorem wp_newL {o : Oper} {a : Act} {w : World} {K : Act → World → Prop} {Q : Exit → Act → World → Prop} (x : Operand) (ho : o.op = .buildSlice 43 1 #[(0, x)]) (n : Nat) (hx : a.eval x = .agg (lsZ n).toArray) (h : ∀ w', Blk w' w.heap.size (lsZ n) 51 → Below w.heap.size w w' → K (a.put o.dst (.slice (some ⟨w.heap.size, 0, none⟩) 1 1)) w') : o.wp Try.prog a w K Q := by
  unfold Oper.wp execOp
  simp only [ho, List.map_toArray, List.map_cons, List.map_nil, hx, Sem.run_bind, run_slice_ls, Result.andThen_ok, Sem.run_pure]
  exact h _ (Blk.new w (lsZ n) _) (below_alloc w _)
theorem quiet_load_exT {C : World → Prop} {K : Act → Prop} {a : Act} {o : Oper} (x : Operand) (ho : o.op = .load 36 x) (b oo : Nat) (hx : a.eval x = .pointer (some ⟨b, oo, none⟩)) (e : Ex) (hc : ∀ w, C w → C17 w b oo e)
    (h : K (a.put o.dst (.agg e.va))) : o.quiet Try.prog a C K := by
  refine ⟨.agg e.va, fun w hC => ?_, h⟩
  unfold Oper.quietAt execOp
  simp only [ho, hx, Sem.run_bind, load_exV (hc w hC), Result.andThen_ok, Sem.run_pure]
  exact ⟨rfl, rfl⟩
/-- The round at the first node, with its variable. -/
def GrP (u v : World) (B p m q cap n : Nat) (own : Int) (ys : List Value) (X : Nat) : Prop := LS v p m q cap n own false ys ∧ Below B u v ∧ B ≤ p ∧ Blk v X fnE.vs 36 ∧ q < X
theorem GrP.kept {u v v' : World} {B p m q cap n : Nat} {own : Int} {ys : List Value} {X : Nat} (h : GrP u v B p m q cap n own ys X) (k : Below v.heap.size v v') : GrP u v' B p m q cap n own ys X := ⟨h.1.kept k, h.2.1.trans (k.mono (by have := h.2.2.1; have := h.1.h.lt; omega)), h.2.2.1, h.2.2.2.1.kept k, h.2.2.2.2⟩
def GatP (u w' : World) (B p m : Nat) : Prop := ∃ q cap n ys, LS w' p m q cap n 1 false ys ∧ Below B u w'
set_option maxRecDepth 100000 in
set_option maxHeartbeats 4000000 in
theorem ev_gather (u w : World) (B p m : Nat) (h : Blk w p (hdV m (.slice none 0 0)) 45) (hb : Below B u w) (hB : B ≤ p) :
    Calls Try.prog 16 #[.pointer (some ⟨p, 0, none⟩), .agg fnE.va] w fun e w' => e = .returned (.tuple #[]) ∧ GatP u w' B p m := by
  have A0 := below_alloc w (.cells fnE.va 36)
  have N0 : Blk (w.alloc (.cells fnE.va 36)) w.heap.size fnE.vs 36 := Blk.new _ _ _
  have HI : Hid (Blk (w.alloc (.cells fnE.va 36)) p (hdV m (.slice none 0 0)) 45 ∧ Below B u (w.alloc (.cells fnE.va 36)) ∧ B ≤ p ∧ Blk (w.alloc (.cells fnE.va 36)) w.heap.size fnE.vs 36) := ⟨h.kept A0, hb.trans (A0.mono (by have := h.lt; omega)), hB, N0⟩
  clear h hb hB A0 N0
  go_enter Try.func16, Try.ntmps16
  go_upto_region 1 with fail
  generalize w.alloc (.cells fnE.va 36) = w1 at *
  generalize w.heap.size = b at *
  clear w
  go_cut [4] from 9 to 20 (fun v wx => v = undef ∧ ∃ q cap n ys, Hid (LS wx p m q cap n 0 false ys ∧ Blk wx n fnE.vs 36 ∧ Below B u wx ∧ B ≤ p ∧ p < n))
  case first =>
    have D1 : Below w1.heap.size w1 w1.drew := (Below.refl _ _).drew
    have HJ : Hid (GtP u w1.drew B p m b) := ⟨HI.out.1.kept D1, HI.out.2.1.drew, HI.out.2.2.1, HI.out.2.2.2.kept D1⟩
    clear HI D1
    refine wp_region_any (by kernel_rfl) ?_
    change wpAny _ _ _ _ _ _ _ (World.drew _)
    generalize w1.drew = v0 at *
    refine wpAny_take (i := 0) (v := .pointer (some ⟨p, 0, none⟩)) rfl (by kernel_rfl) (by kernel_rfl) (by kernel_rfl) (fun _ _ _ h => h) (Or.inl ⟨by rfl, fun w => by go_simp⟩) ?_
    simp only [Act.put, List.setIfInBounds_toArray, List.getElem_toArray, List.getElem_cons_zero, List.set_cons_succ, List.set_cons_zero]
    refine wpAny_take (i := 1) (v := .pointer (some ⟨p, 0, none⟩)) rfl (by kernel_rfl) (by kernel_rfl) (by kernel_rfl) (fun _ _ _ h => h) (Or.inl ⟨by rfl, fun w => by go_simp⟩) ?_
    simp only [Act.put, List.setIfInBounds_toArray, List.getElem_toArray, List.getElem_cons_zero, List.getElem_cons_succ, List.set_cons_succ, List.set_cons_zero]
    refine wpAny_take (i := 2) (v := .pointer (some ⟨p, 0, none⟩)) rfl (by kernel_rfl) (by kernel_rfl) (by kernel_rfl) (fun _ _ _ h => h) (Or.inl ⟨by rfl, fun w => by go_simp⟩) ?_
    simp only [Act.put, List.setIfInBounds_toArray, List.getElem_toArray, List.getElem_cons_zero, List.getElem_cons_succ, List.set_cons_succ, List.set_cons_zero]
    refine wpAny_take (i := 3) (v := .pointer (some ⟨p, 3, none⟩)) rfl (by kernel_rfl) (by kernel_rfl) (by kernel_rfl) (fun _ _ _ h => h) (Or.inl ⟨by rfl, fun w => by go_simp⟩) ?_
    simp only [Act.put, List.setIfInBounds_toArray, List.getElem_toArray, List.getElem_cons_zero, List.getElem_cons_succ, List.set_cons_succ, List.set_cons_zero]
    refine wpAny_ready (rs := [4, 5]) (by kernel_rfl) (by simp) ?_
    refine AllReady.cons rfl (fun K hK => ?_) (AllReady.cons rfl (fun K hK => ?_) AllReady.nil)
    · rw [if_pos (by rfl)]
      have c3 := HJ.out.1.cell 3 (v := .slice none 0 0) rfl
      go_simp
      refine hK _ _ ?_
      clear hK K c3
      refine wpAny_ready (rs := [5]) (by kernel_rfl) (by simp) ?_
      refine AllReady.cons rfl (fun K hK => ?_) AllReady.nil
      rw [if_pos (by rfl)]
      refine wp_load_mid 36 (.tmp 3) rfl b 0 (by kernel_rfl) fnE.vs _ HJ.out.2.2.2.range Try.underlying36 rfl (by kernel_rfl) ?_
      refine hK _ _ ?_
      clear hK K
      simp only [Act.put, List.setIfInBounds_toArray, List.getElem_toArray, List.getElem_cons_zero, List.getElem_cons_succ, List.set_cons_succ, List.set_cons_zero]
      refine wpAny_ready (rs := [6]) (by kernel_rfl) (by simp) ?_
      refine AllReady.cons rfl (fun K hK => ?_) AllReady.nil
      rw [if_pos (by rfl)]
      refine wp_newE (.tmp 14) rfl (by kernel_rfl) (fun v1 N1 B1 => ?_)
      have HK : Hid (GtP u v1 B p m b ∧ Blk v1 v0.heap.size fnE.vs 36 ∧ p < v0.heap.size) := ⟨HJ.out.kept B1, N1, HJ.out.1.lt⟩
      refine hK _ _ ?_
      clear hK K N1 B1 HJ
      generalize v0.heap.size = n at *
      simp only [Act.put, List.setIfInBounds_toArray, List.getElem_toArray, List.getElem_cons_zero, List.getElem_cons_succ, List.set_cons_succ, List.set_cons_zero]
      refine wpAny_ready (rs := [7]) (by kernel_rfl) (by simp) ?_
      refine AllReady.cons rfl (fun K hK => ?_) AllReady.nil
      rw [if_pos (by rfl)]
      refine wp_buildL (.tmp 15) rfl n (by kernel_rfl) ?_
      refine hK _ _ ?_
      clear hK K
      simp only [Act.put, List.setIfInBounds_toArray, List.getElem_toArray, List.getElem_cons_zero, List.getElem_cons_succ, List.set_cons_succ, List.set_cons_zero]
      refine wpAny_ready (rs := [8]) (by kernel_rfl) (by simp) ?_
      refine AllReady.cons rfl (fun K hK => ?_) AllReady.nil
      rw [if_pos (by rfl)]
      refine wp_newL (.tmp 16) rfl n (by kernel_rfl) (fun v2 N2 B2 => ?_)
      have HL : Hid (GtP u v2 B p m b ∧ Blk v2 n fnE.vs 36 ∧ p < n) := ⟨HK.out.1.kept B2, HK.out.2.1.kept B2, HK.out.2.2⟩
      refine hK _ _ ?_
      clear hK K B2 HK
      generalize v1.heap.size = r at *
      simp only [Act.put, List.setIfInBounds_toArray, List.getElem_toArray, List.getElem_cons_zero, List.getElem_cons_succ, List.set_cons_succ, List.set_cons_zero]
      refine wpAny_ready (rs := [9]) (by kernel_rfl) (by simp) ?_
      refine AllReady.cons rfl (fun K hK => ?_) AllReady.nil
      rw [if_pos (by rfl)]
      refine wp_append_new (.tmp 13) (.tmp 17) 43 51 (.agg zLs.toArray) 4 64 rfl Try.underlying43 Try.infoLs rfl (by decide) (by decide) (by kernel_rfl) r 1 (lsZ n) _ (by kernel_rfl) N2 rfl (lsZ_one n) ?_
      intro q cap ys v3 hq N3 B3
      have HM : Hid (GtP u v3 B p m b ∧ Blk v3 n fnE.vs 36 ∧ p < n ∧ Blk v3 q (lsZ n ++ ys) 51 ∧ p < q) := ⟨HL.out.1.kept B3, HL.out.2.1.kept B3, HL.out.2.2, N3, by have := HL.out.1.1.lt; omega⟩
      refine hK _ _ ?_
      clear hK K B3 HL N3 N2 hq
      simp only [Act.put, List.setIfInBounds_toArray, List.getElem_toArray, List.getElem_cons_zero, List.getElem_cons_succ, List.set_cons_succ, List.set_cons_zero]
      refine wpAny_take (i := 10) (v := .pointer (some ⟨p, 0, none⟩)) rfl (by kernel_rfl) (by kernel_rfl) (by kernel_rfl) (fun _ _ _ h => h) (Or.inl ⟨by rfl, fun w => by go_simp⟩) ?_
      simp only [Act.put, List.setIfInBounds_toArray, List.getElem_toArray, List.getElem_cons_zero, List.getElem_cons_succ, List.set_cons_succ, List.set_cons_zero]
      refine wpAny_take (i := 11) (v := .pointer (some ⟨p, 3, none⟩)) rfl (by kernel_rfl) (by kernel_rfl) (by kernel_rfl) (fun _ _ _ h => h) (Or.inl ⟨by rfl, fun w => by go_simp⟩) ?_
      simp only [Act.put, List.setIfInBounds_toArray, List.getElem_toArray, List.getElem_cons_zero, List.getElem_cons_succ, List.set_cons_succ, List.set_cons_zero]
      refine wpAny_ready (rs := [12]) (by kernel_rfl) (by simp) ?_
      refine AllReady.cons rfl (fun K hK => ?_) AllReady.nil
      rw [if_pos (by rfl)]
      refine wp_store1 43 (.tmp 20) (.tmp 18) rfl rfl p 3 (.slice (some ⟨q, 0, none⟩) 1 cap) _ _ (by kernel_rfl) (by kernel_rfl) (store_one _ _ (by kernel_rfl) rfl rfl _ _) HM.out.1.1 (by simp [hdV]) (fun v4 W4 => ?_)
      have HN : Hid (LS v4 p m q cap n 0 false ys ∧ Blk v4 n fnE.vs 36 ∧ Below B u v4 ∧ B ≤ p ∧ p < n) := ⟨⟨W4.blk, W4.keep HM.out.2.2.2.1 (by have := HM.out.2.2.2.2; omega), HM.out.2.2.2.2⟩, W4.keep HM.out.2.1 (by have := HM.out.2.2.1; omega), W4.below HM.out.1.2.2.1 HM.out.1.2.1, HM.out.1.2.2.1, HM.out.2.2.1⟩
      refine hK _ _ ?_
      clear hK K W4 HM
      refine wpAny_done (by kernel_rfl) ?_ _
      go_wp2
      go_meet
      case rel => exact ⟨rfl, q, cap, n, ys, HN.out⟩
    · rw [if_pos (by rfl)]
      refine wp_load_mid 36 (.tmp 3) rfl b 0 (by kernel_rfl) fnE.vs _ HJ.out.2.2.2.range Try.underlying36 rfl (by kernel_rfl) ?_
      refine hK _ _ ?_
      clear hK K
      simp only [Act.put, List.setIfInBounds_toArray, List.getElem_toArray, List.getElem_cons_zero, List.getElem_cons_succ, List.set_cons_succ, List.set_cons_zero]
      refine wpAny_ready (rs := [4, 6]) (by kernel_rfl) (by simp) ?_
      refine AllReady.cons rfl (fun K hK => ?_) (AllReady.cons rfl (fun K hK => ?_) AllReady.nil)
      · rw [if_pos (by rfl)]
        have c3 := HJ.out.1.cell 3 (v := .slice none 0 0) rfl
        go_simp
        refine hK _ _ ?_
        clear hK K c3
        refine wpAny_ready (rs := [6]) (by kernel_rfl) (by simp) ?_
        refine AllReady.cons rfl (fun K hK => ?_) AllReady.nil
        rw [if_pos (by rfl)]
        refine wp_newE (.tmp 14) rfl (by kernel_rfl) (fun v1 N1 B1 => ?_)
        have HK : Hid (GtP u v1 B p m b ∧ Blk v1 v0.heap.size fnE.vs 36 ∧ p < v0.heap.size) := ⟨HJ.out.kept B1, N1, HJ.out.1.lt⟩
        refine hK _ _ ?_
        clear hK K N1 B1 HJ
        generalize v0.heap.size = n at *
        simp only [Act.put, List.setIfInBounds_toArray, List.getElem_toArray, List.getElem_cons_zero, List.getElem_cons_succ, List.set_cons_succ, List.set_cons_zero]
        refine wpAny_ready (rs := [7]) (by kernel_rfl) (by simp) ?_
        refine AllReady.cons rfl (fun K hK => ?_) AllReady.nil
        rw [if_pos (by rfl)]
        refine wp_buildL (.tmp 15) rfl n (by kernel_rfl) ?_
        refine hK _ _ ?_
        clear hK K
        simp only [Act.put, List.setIfInBounds_toArray, List.getElem_toArray, List.getElem_cons_zero, List.getElem_cons_succ, List.set_cons_succ, List.set_cons_zero]
        refine wpAny_ready (rs := [8]) (by kernel_rfl) (by simp) ?_
        refine AllReady.cons rfl (fun K hK => ?_) AllReady.nil
        rw [if_pos (by rfl)]
        refine wp_newL (.tmp 16) rfl n (by kernel_rfl) (fun v2 N2 B2 => ?_)
        have HL : Hid (GtP u v2 B p m b ∧ Blk v2 n fnE.vs 36 ∧ p < n) := ⟨HK.out.1.kept B2, HK.out.2.1.kept B2, HK.out.2.2⟩
        refine hK _ _ ?_
        clear hK K B2 HK
        generalize v1.heap.size = r at *
        simp only [Act.put, List.setIfInBounds_toArray, List.getElem_toArray, List.getElem_cons_zero, List.getElem_cons_succ, List.set_cons_succ, List.set_cons_zero]
        refine wpAny_ready (rs := [9]) (by kernel_rfl) (by simp) ?_
        refine AllReady.cons rfl (fun K hK => ?_) AllReady.nil
        rw [if_pos (by rfl)]
        refine wp_append_new (.tmp 13) (.tmp 17) 43 51 (.agg zLs.toArray) 4 64 rfl Try.underlying43 Try.infoLs rfl (by decide) (by decide) (by kernel_rfl) r 1 (lsZ n) _ (by kernel_rfl) N2 rfl (lsZ_one n) ?_
        intro q cap ys v3 hq N3 B3
        have HM : Hid (GtP u v3 B p m b ∧ Blk v3 n fnE.vs 36 ∧ p < n ∧ Blk v3 q (lsZ n ++ ys) 51 ∧ p < q) := ⟨HL.out.1.kept B3, HL.out.2.1.kept B3, HL.out.2.2, N3, by have := HL.out.1.1.lt; omega⟩
        refine hK _ _ ?_
        clear hK K B3 HL N3 N2 hq
        simp only [Act.put, List.setIfInBounds_toArray, List.getElem_toArray, List.getElem_cons_zero, List.getElem_cons_succ, List.set_cons_succ, List.set_cons_zero]
        refine wpAny_take (i := 10) (v := .pointer (some ⟨p, 0, none⟩)) rfl (by kernel_rfl) (by kernel_rfl) (by kernel_rfl) (fun _ _ _ h => h) (Or.inl ⟨by rfl, fun w => by go_simp⟩) ?_
        simp only [Act.put, List.setIfInBounds_toArray, List.getElem_toArray, List.getElem_cons_zero, List.getElem_cons_succ, List.set_cons_succ, List.set_cons_zero]
        refine wpAny_take (i := 11) (v := .pointer (some ⟨p, 3, none⟩)) rfl (by kernel_rfl) (by kernel_rfl) (by kernel_rfl) (fun _ _ _ h => h) (Or.inl ⟨by rfl, fun w => by go_simp⟩) ?_
        simp only [Act.put, List.setIfInBounds_toArray, List.getElem_toArray, List.getElem_cons_zero, List.getElem_cons_succ, List.set_cons_succ, List.set_cons_zero]
        refine wpAny_ready (rs := [12]) (by kernel_rfl) (by simp) ?_
        refine AllReady.cons rfl (fun K hK => ?_) AllReady.nil
        rw [if_pos (by rfl)]
        refine wp_store1 43 (.tmp 20) (.tmp 18) rfl rfl p 3 (.slice (some ⟨q, 0, none⟩) 1 cap) _ _ (by kernel_rfl) (by kernel_rfl) (store_one _ _ (by kernel_rfl) rfl rfl _ _) HM.out.1.1 (by simp [hdV]) (fun v4 W4 => ?_)
        have HN : Hid (LS v4 p m q cap n 0 false ys ∧ Blk v4 n fnE.vs 36 ∧ Below B u v4 ∧ B ≤ p ∧ p < n) := ⟨⟨W4.blk, W4.keep HM.out.2.2.2.1 (by have := HM.out.2.2.2.2; omega), HM.out.2.2.2.2⟩, W4.keep HM.out.2.1 (by have := HM.out.2.2.1; omega), W4.below HM.out.1.2.2.1 HM.out.1.2.1, HM.out.1.2.2.1, HM.out.2.2.1⟩
        refine hK _ _ ?_
        clear hK K W4 HM
        refine wpAny_done (by kernel_rfl) ?_ _
        go_wp2
        go_meet
        case rel => exact ⟨rfl, q, cap, n, ys, HN.out⟩
      · rw [if_pos (by rfl)]
        refine wp_newE (.tmp 14) rfl (by kernel_rfl) (fun v1 N1 B1 => ?_)
        have HK : Hid (GtP u v1 B p m b ∧ Blk v1 v0.heap.size fnE.vs 36 ∧ p < v0.heap.size) := ⟨HJ.out.kept B1, N1, HJ.out.1.lt⟩
        refine hK _ _ ?_
        clear hK K N1 B1 HJ
        generalize v0.heap.size = n at *
        simp only [Act.put, List.setIfInBounds_toArray, List.getElem_toArray, List.getElem_cons_zero, List.getElem_cons_succ, List.set_cons_succ, List.set_cons_zero]
        refine wpAny_ready (rs := [4, 7]) (by kernel_rfl) (by simp) ?_
        refine AllReady.cons rfl (fun K hK => ?_) (AllReady.cons rfl (fun K hK => ?_) AllReady.nil)
        · rw [if_pos (by rfl)]
          have c3 := HK.out.1.1.cell 3 (v := .slice none 0 0) rfl
          go_simp
          refine hK _ _ ?_
          clear hK K c3
          refine wpAny_ready (rs := [7]) (by kernel_rfl) (by simp) ?_
          refine AllReady.cons rfl (fun K hK => ?_) AllReady.nil
          rw [if_pos (by rfl)]
          refine wp_buildL (.tmp 15) rfl n (by kernel_rfl) ?_
          refine hK _ _ ?_
          clear hK K
          simp only [Act.put, List.setIfInBounds_toArray, List.getElem_toArray, List.getElem_cons_zero, List.getElem_cons_succ, List.set_cons_succ, List.set_cons_zero]
          refine wpAny_ready (rs := [8]) (by kernel_rfl) (by simp) ?_
          refine AllReady.cons rfl (fun K hK => ?_) AllReady.nil
          rw [if_pos (by rfl)]
          refine wp_newL (.tmp 16) rfl n (by kernel_rfl) (fun v2 N2 B2 => ?_)
          have HL : Hid (GtP u v2 B p m b ∧ Blk v2 n fnE.vs 36 ∧ p < n) := ⟨HK.out.1.kept B2, HK.out.2.1.kept B2, HK.out.2.2⟩
          refine hK _ _ ?_
          clear hK K B2 HK
          generalize v1.heap.size = r at *
          simp only [Act.put, List.setIfInBounds_toArray, List.getElem_toArray, List.getElem_cons_zero, List.getElem_cons_succ, List.set_cons_succ, List.set_cons_zero]
          refine wpAny_ready (rs := [9]) (by kernel_rfl) (by simp) ?_
          refine AllReady.cons rfl (fun K hK => ?_) AllReady.nil
          rw [if_pos (by rfl)]
          refine wp_append_new (.tmp 13) (.tmp 17) 43 51 (.agg zLs.toArray) 4 64 rfl Try.underlying43 Try.infoLs rfl (by decide) (by decide) (by kernel_rfl) r 1 (lsZ n) _ (by kernel_rfl) N2 rfl (lsZ_one n) ?_
          intro q cap ys v3 hq N3 B3
          have HM : Hid (GtP u v3 B p m b ∧ Blk v3 n fnE.vs 36 ∧ p < n ∧ Blk v3 q (lsZ n ++ ys) 51 ∧ p < q) := ⟨HL.out.1.kept B3, HL.out.2.1.kept B3, HL.out.2.2, N3, by have := HL.out.1.1.lt; omega⟩
          refine hK _ _ ?_
          clear hK K B3 HL N3 N2 hq
          simp only [Act.put, List.setIfInBounds_toArray, List.getElem_toArray, List.getElem_cons_zero, List.getElem_cons_succ, List.set_cons_succ, List.set_cons_zero]
          refine wpAny_take (i := 10) (v := .pointer (some ⟨p, 0, none⟩)) rfl (by kernel_rfl) (by kernel_rfl) (by kernel_rfl) (fun _ _ _ h => h) (Or.inl ⟨by rfl, fun w => by go_simp⟩) ?_
          simp only [Act.put, List.setIfInBounds_toArray, List.getElem_toArray, List.getElem_cons_zero, List.getElem_cons_succ, List.set_cons_succ, List.set_cons_zero]
          refine wpAny_take (i := 11) (v := .pointer (some ⟨p, 3, none⟩)) rfl (by kernel_rfl) (by kernel_rfl) (by kernel_rfl) (fun _ _ _ h => h) (Or.inl ⟨by rfl, fun w => by go_simp⟩) ?_
          simp only [Act.put, List.setIfInBounds_toArray, List.getElem_toArray, List.getElem_cons_zero, List.getElem_cons_succ, List.set_cons_succ, List.set_cons_zero]
          refine wpAny_ready (rs := [12]) (by kernel_rfl) (by simp) ?_
          refine AllReady.cons rfl (fun K hK => ?_) AllReady.nil
          rw [if_pos (by rfl)]
          refine wp_store1 43 (.tmp 20) (.tmp 18) rfl rfl p 3 (.slice (some ⟨q, 0, none⟩) 1 cap) _ _ (by kernel_rfl) (by kernel_rfl) (store_one _ _ (by kernel_rfl) rfl rfl _ _) HM.out.1.1 (by simp [hdV]) (fun v4 W4 => ?_)
          have HN : Hid (LS v4 p m q cap n 0 false ys ∧ Blk v4 n fnE.vs 36 ∧ Below B u v4 ∧ B ≤ p ∧ p < n) := ⟨⟨W4.blk, W4.keep HM.out.2.2.2.1 (by have := HM.out.2.2.2.2; omega), HM.out.2.2.2.2⟩, W4.keep HM.out.2.1 (by have := HM.out.2.2.1; omega), W4.below HM.out.1.2.2.1 HM.out.1.2.1, HM.out.1.2.2.1, HM.out.2.2.1⟩
          refine hK _ _ ?_
          clear hK K W4 HM
          refine wpAny_done (by kernel_rfl) ?_ _
          go_wp2
          go_meet
          case rel => exact ⟨rfl, q, cap, n, ys, HN.out⟩
        · rw [if_pos (by rfl)]
          refine wp_buildL (.tmp 15) rfl n (by kernel_rfl) ?_
          refine hK _ _ ?_
          clear hK K
          simp only [Act.put, List.setIfInBounds_toArray, List.getElem_toArray, List.getElem_cons_zero, List.getElem_cons_succ, List.set_cons_succ, List.set_cons_zero]
          refine wpAny_ready (rs := [4, 8]) (by kernel_rfl) (by simp) ?_
          refine AllReady.cons rfl (fun K hK => ?_) (AllReady.cons rfl (fun K hK => ?_) AllReady.nil)
          · rw [if_pos (by rfl)]
            have c3 := HK.out.1.1.cell 3 (v := .slice none 0 0) rfl
            go_simp
            refine hK _ _ ?_
            clear hK K c3
            refine wpAny_ready (rs := [8]) (by kernel_rfl) (by simp) ?_
            refine AllReady.cons rfl (fun K hK => ?_) AllReady.nil
            rw [if_pos (by rfl)]
            refine wp_newL (.tmp 16) rfl n (by kernel_rfl) (fun v2 N2 B2 => ?_)
            have HL : Hid (GtP u v2 B p m b ∧ Blk v2 n fnE.vs 36 ∧ p < n) := ⟨HK.out.1.kept B2, HK.out.2.1.kept B2, HK.out.2.2⟩
            refine hK _ _ ?_
            clear hK K B2 HK
            generalize v1.heap.size = r at *
            simp only [Act.put, List.setIfInBounds_toArray, List.getElem_toArray, List.getElem_cons_zero, List.getElem_cons_succ, List.set_cons_succ, List.set_cons_zero]
            refine wpAny_ready (rs := [9]) (by kernel_rfl) (by simp) ?_
            refine AllReady.cons rfl (fun K hK => ?_) AllReady.nil
            rw [if_pos (by rfl)]
            refine wp_append_new (.tmp 13) (.tmp 17) 43 51 (.agg zLs.toArray) 4 64 rfl Try.underlying43 Try.infoLs rfl (by decide) (by decide) (by kernel_rfl) r 1 (lsZ n) _ (by kernel_rfl) N2 rfl (lsZ_one n) ?_
            intro q cap ys v3 hq N3 B3
            have HM : Hid (GtP u v3 B p m b ∧ Blk v3 n fnE.vs 36 ∧ p < n ∧ Blk v3 q (lsZ n ++ ys) 51 ∧ p < q) := ⟨HL.out.1.kept B3, HL.out.2.1.kept B3, HL.out.2.2, N3, by have := HL.out.1.1.lt; omega⟩
            refine hK _ _ ?_
            clear hK K B3 HL N3 N2 hq
            simp only [Act.put, List.setIfInBounds_toArray, List.getElem_toArray, List.getElem_cons_zero, List.getElem_cons_succ, List.set_cons_succ, List.set_cons_zero]
            refine wpAny_take (i := 10) (v := .pointer (some ⟨p, 0, none⟩)) rfl (by kernel_rfl) (by kernel_rfl) (by kernel_rfl) (fun _ _ _ h => h) (Or.inl ⟨by rfl, fun w => by go_simp⟩) ?_
            simp only [Act.put, List.setIfInBounds_toArray, List.getElem_toArray, List.getElem_cons_zero, List.getElem_cons_succ, List.set_cons_succ, List.set_cons_zero]
            refine wpAny_take (i := 11) (v := .pointer (some ⟨p, 3, none⟩)) rfl (by kernel_rfl) (by kernel_rfl) (by kernel_rfl) (fun _ _ _ h => h) (Or.inl ⟨by rfl, fun w => by go_simp⟩) ?_
            simp only [Act.put, List.setIfInBounds_toArray, List.getElem_toArray, List.getElem_cons_zero, List.getElem_cons_succ, List.set_cons_succ, List.set_cons_zero]
            refine wpAny_ready (rs := [12]) (by kernel_rfl) (by simp) ?_
            refine AllReady.cons rfl (fun K hK => ?_) AllReady.nil
            rw [if_pos (by rfl)]
            refine wp_store1 43 (.tmp 20) (.tmp 18) rfl rfl p 3 (.slice (some ⟨q, 0, none⟩) 1 cap) _ _ (by kernel_rfl) (by kernel_rfl) (store_one _ _ (by kernel_rfl) rfl rfl _ _) HM.out.1.1 (by simp [hdV]) (fun v4 W4 => ?_)
            have HN : Hid (LS v4 p m q cap n 0 false ys ∧ Blk v4 n fnE.vs 36 ∧ Below B u v4 ∧ B ≤ p ∧ p < n) := ⟨⟨W4.blk, W4.keep HM.out.2.2.2.1 (by have := HM.out.2.2.2.2; omega), HM.out.2.2.2.2⟩, W4.keep HM.out.2.1 (by have := HM.out.2.2.1; omega), W4.below HM.out.1.2.2.1 HM.out.1.2.1, HM.out.1.2.2.1, HM.out.2.2.1⟩
            refine hK _ _ ?_
            clear hK K W4 HM
            refine wpAny_done (by kernel_rfl) ?_ _
            go_wp2
            go_meet
            case rel => exact ⟨rfl, q, cap, n, ys, HN.out⟩
          · rw [if_pos (by rfl)]
            refine wp_newL (.tmp 16) rfl n (by kernel_rfl) (fun v2 N2 B2 => ?_)
            have HL : Hid (GtP u v2 B p m b ∧ Blk v2 n fnE.vs 36 ∧ p < n) := ⟨HK.out.1.kept B2, HK.out.2.1.kept B2, HK.out.2.2⟩
            refine hK _ _ ?_
            clear hK K B2 HK
            generalize v1.heap.size = r at *
            simp only [Act.put, List.setIfInBounds_toArray, List.getElem_toArray, List.getElem_cons_zero, List.getElem_cons_succ, List.set_cons_succ, List.set_cons_zero]
            refine wpAny_ready (rs := [4]) (by kernel_rfl) (by simp) ?_
            refine AllReady.cons rfl (fun K hK => ?_) AllReady.nil
            rw [if_pos (by rfl)]
            have c3 := HL.out.1.1.cell 3 (v := .slice none 0 0) rfl
            go_simp
            refine hK _ _ ?_
            clear hK K c3
            refine wpAny_ready (rs := [9]) (by kernel_rfl) (by simp) ?_
            refine AllReady.cons rfl (fun K hK => ?_) AllReady.nil
            rw [if_pos (by rfl)]
            refine wp_append_new (.tmp 13) (.tmp 17) 43 51 (.agg zLs.toArray) 4 64 rfl Try.underlying43 Try.infoLs rfl (by decide) (by decide) (by kernel_rfl) r 1 (lsZ n) _ (by kernel_rfl) N2 rfl (lsZ_one n) ?_
            intro q cap ys v3 hq N3 B3
            have HM : Hid (GtP u v3 B p m b ∧ Blk v3 n fnE.vs 36 ∧ p < n ∧ Blk v3 q (lsZ n ++ ys) 51 ∧ p < q) := ⟨HL.out.1.kept B3, HL.out.2.1.kept B3, HL.out.2.2, N3, by have := HL.out.1.1.lt; omega⟩
            refine hK _ _ ?_
            clear hK K B3 HL N3 N2 hq
            simp only [Act.put, List.setIfInBounds_toArray, List.getElem_toArray, List.getElem_cons_zero, List.getElem_cons_succ, List.set_cons_succ, List.set_cons_zero]
            refine wpAny_take (i := 10) (v := .pointer (some ⟨p, 0, none⟩)) rfl (by kernel_rfl) (by kernel_rfl) (by kernel_rfl) (fun _ _ _ h => h) (Or.inl ⟨by rfl, fun w => by go_simp⟩) ?_
            simp only [Act.put, List.setIfInBounds_toArray, List.getElem_toArray, List.getElem_cons_zero, List.getElem_cons_succ, List.set_cons_succ, List.set_cons_zero]
            refine wpAny_take (i := 11) (v := .pointer (some ⟨p, 3, none⟩)) rfl (by kernel_rfl) (by kernel_rfl) (by kernel_rfl) (fun _ _ _ h => h) (Or.inl ⟨by rfl, fun w => by go_simp⟩) ?_
            simp only [Act.put, List.setIfInBounds_toArray, List.getElem_toArray, List.getElem_cons_zero, List.getElem_cons_succ, List.set_cons_succ, List.set_cons_zero]
            refine wpAny_ready (rs := [12]) (by kernel_rfl) (by simp) ?_
            refine AllReady.cons rfl (fun K hK => ?_) AllReady.nil
            rw [if_pos (by rfl)]
            refine wp_store1 43 (.tmp 20) (.tmp 18) rfl rfl p 3 (.slice (some ⟨q, 0, none⟩) 1 cap) _ _ (by kernel_rfl) (by kernel_rfl) (store_one _ _ (by kernel_rfl) rfl rfl _ _) HM.out.1.1 (by simp [hdV]) (fun v4 W4 => ?_)
            have HN : Hid (LS v4 p m q cap n 0 false ys ∧ Blk v4 n fnE.vs 36 ∧ Below B u v4 ∧ B ≤ p ∧ p < n) := ⟨⟨W4.blk, W4.keep HM.out.2.2.2.1 (by have := HM.out.2.2.2.2; omega), HM.out.2.2.2.2⟩, W4.keep HM.out.2.1 (by have := HM.out.2.2.1; omega), W4.below HM.out.1.2.2.1 HM.out.1.2.1, HM.out.1.2.2.1, HM.out.2.2.1⟩
            refine hK _ _ ?_
            clear hK K W4 HM
            refine wpAny_done (by kernel_rfl) ?_ _
            go_wp2
            go_meet
            case rel => exact ⟨rfl, q, cap, n, ys, HN.out⟩
  case rest =>
    obtain ⟨rfl, q, cap, n, ys, HN⟩ := hcut
    have HO : Hid (LS wc p m q cap n 0 false ys ∧ Blk wc n fnE.vs 36 ∧ Below B u wc ∧ B ≤ p ∧ p < n) := HN
    clear HN HI
    have c3 := HO.out.1.c3
    have q0 := HO.out.1.q0
    have X0 := C17.of_range HO.out.2.1.range
    go_wp2_with fail
    refine wp_loop_rounds 2 ?_
    rw [rounds_succ]
    go_wp2_with fail
    refine wp_loop_rounds 2 ?_
    rw [rounds_succ]
    go_upto_region 8 with (first
      | (refine wpList_load_ex rfl (.tmp 41) rfl n 0 (by kernel_rfl) fnE X0 ?_)
      | (refine wpList_new_ex rfl rfl rfl (.tmp 6) (.tmp 42) rfl rfl (by kernel_rfl) fnE (by kernel_rfl) ?_))
    have A1 := below_alloc wc (.cells fnE.va 36)
    have N1 : Blk (wc.alloc (.cells fnE.va 36)) wc.heap.size fnE.vs 36 := Blk.new wc fnE.vs _
    have HP : Hid (GrP u (wc.alloc (.cells fnE.va 36)) B p m q cap n 0 ys wc.heap.size) := ⟨HO.out.1.kept A1, HO.out.2.2.1.trans (A1.mono (by have := HO.out.2.2.2.1; have := HO.out.1.h.lt; omega)), HO.out.2.2.2.1, N1, HO.out.1.l.lt⟩
    clear A1 N1 HO c3 q0 X0
    generalize wc.alloc (.cells fnE.va 36) = v1 at *
    generalize wc.heap.size = X at *
    have c1 := fun x : Gr v1 => Gr.cell x (HP.out.1.h.cell 1 (v := .func (.func 14) #[] #[]) rfl)
    have hNE : Nonempty (Gr v1) := ⟨⟨_, Below.refl _ _⟩⟩
    have hC : ∀ z, (∃ x : Gr v1, z = x.w) → C17 z X 0 fnE := fun z ⟨x, hx⟩ => by rw [hx]; exact C17.of_range (HP.out.2.2.2.1.kept x.bl).range
    simp only [Act.put, List.setIfInBounds_toArray, List.set_cons_succ, List.set_cons_zero]
    refine wp_region_gr_tail 5 (by kernel_rfl) (by kernel_rfl) ?_
    simp only [List.take, List.drop]
    iterate 4 go_big_quiet_step (fail)
    go_big_quiet_want
    refine quiet_load_exT (.tmp 6) rfl _ _ (by kernel_rfl) fnE hC ?_
    simp only [Act.put, List.setIfInBounds_toArray, List.set_cons_succ, List.set_cons_zero]
    go_big_quiet_on
    refine wpQuiet_nil ?_
    rintro v2 ⟨x2, rfl⟩
    have HQ : Hid (GrP u x2.w B p m q cap n 0 ys X) := HP.out.kept x2.bl
    generalize x2.w = v2 at HQ ⊢
    clear x2 c1 hNE hC HP
    have h1 := ev_such v2
    go_wp2_with fail
    refine h1.mono ?_
    rintro _ v3 ⟨rfl, B3⟩
    have HR : Hid (GrP u v3 B p m q cap n 0 ys X) := HQ.out.kept B3
    clear h1 B3 HQ
    have c3 := HR.out.1.c3
    have q1 := HR.out.1.q1
    go_upto_region 10 with (first
      | (refine wpList_store1 rfl 3 (.tmp 59) (.tmp 57) rfl rfl q 1 (.int .i64 1) _ _ (by kernel_rfl) (by kernel_rfl) (store_one _ _ (by kernel_rfl) rfl rfl _ _) HR.out.1.l (by simp [lsV]) ?_
         intro v4 W4
         have HS : Hid (GrP u v4 B p m q cap n 1 ys X) := ⟨⟨W4.keep HR.out.1.h (by have := HR.out.1.ne; omega), W4.blk, HR.out.1.ne⟩, W4.below (by have := HR.out.1.ne; have := HR.out.2.2.1; omega) HR.out.2.1, HR.out.2.2.1, W4.keep HR.out.2.2.2.1 (by have := HR.out.2.2.2.2; omega), HR.out.2.2.2.2⟩
         clear W4 HR c3 q1))
    have c0 := fun x : Gr v4 => Gr.cell x (HS.out.1.h.cell 0 (v := .func (.func 13) #[] #[]) rfl)
    have hNE : Nonempty (Gr v4) := ⟨⟨_, Below.refl _ _⟩⟩
    have hC : ∀ z, (∃ x : Gr v4, z = x.w) → C17 z X 0 fnE := fun z ⟨x, hx⟩ => by rw [hx]; exact C17.of_range (HS.out.2.2.2.1.kept x.bl).range
    refine wp_region_gr_tail 5 (by kernel_rfl) (by kernel_rfl) ?_
    simp only [List.take, List.drop]
    iterate 4 go_big_quiet_step (fail)
    go_big_quiet_want
    refine quiet_load_exT (.tmp 6) rfl _ _ (by kernel_rfl) fnE hC ?_
    simp only [Act.put, List.setIfInBounds_toArray, List.set_cons_succ, List.set_cons_zero]
    go_big_quiet_on
    refine wpQuiet_nil ?_
    rintro v5 ⟨x5, rfl⟩
    have HT : Hid (GrP u x5.w B p m q cap n 1 ys X) := HS.out.kept x5.bl
    generalize x5.w = v5 at HT ⊢
    clear x5 c0 hNE hC HS
    have h1 := ev_parts v5
    go_wp2_with fail
    refine h1.mono ?_
    rintro _ v6 ⟨rfl, B6⟩
    have HU : Hid (GrP u v6 B p m q cap n 1 ys X) := HT.out.kept B6
    clear h1 B6 HT
    have c3 := HU.out.1.c3
    go_wp2_with fail
    rw [rounds_succ]
    go_wp2_with fail
    rw [rounds_succ]
    go_wp2_with fail
    go_end0
    exact ⟨rfl, q, cap, n, ys, HU.out.1, HU.out.2.1⟩
end Go.Proofs.Ytefaodpbfckmdaa

/- Layer 9: walk.Total and eval.Numbers at a function without Parts. -/
namespace Go.Proofs.Ytefaodpbfckmdaa
open Go Go.RowKit

theorem run_build_hd (m : Nat) (w : World) : (Instr.build 45 #[(0, .func (.func 13) #[] #[]), (1, .func (.func 14) #[] #[]), (2, .map (some m))]).run Try.prog w = .ok (.agg (hdV m (.slice none 0 0)).toArray) w := by kernel_rfl
def zHd : List Value := [.nilFunc, .nilFunc, .map none, .slice none 0 0]
theorem alloc_hd (w : World) : (Instr.alloc 45 true (.tuple #[])).run Try.prog w = .ok (.pointer (some ⟨w.heap.size, 0, none⟩)) (w.alloc (.cells zHd.toArray 45)) := by kernel_rfl
theorem wpList_buildT {ops : Array Oper} {rest : List Oper} {o : Oper} {a : Act} {w w' : World} {v : Value} {Q : Exit → Act → World → Prop} (hgd : o.guard = none) (t : TypeId) (parts : Array (Nat × Operand)) (ho : o.op = .build t parts) (vals : Array (Nat × Value)) (hv : (parts.map fun (i, x) => (i, a.eval x)) = vals)
    (hs : (Instr.build t vals).run Try.prog w = .ok v w') (h : wpList Try.prog ops Q rest (a.put o.dst v) w') : wpList Try.prog ops Q (o :: rest) a w := by
  subst hv
  refine wpList_plain hgd fun _ hK => ?_
  unfold Oper.wp execOp
  simp only [ho, Sem.run_bind, hs, Result.andThen_ok, Sem.run_pure]
  exact hK _ _ h
set_option maxRecDepth 100000 in
set_option maxHeartbeats 2000000 in
theorem ev_wtotal (w : World) : Calls Try.prog 15 #[.agg fnE.va, .func (.func 13) #[] #[], .func (.func 14) #[] #[], .int .i64 9223372036854775807] w fun e w' => e = .returned (.int .i64 1) ∧ Below w.heap.size w w' := by
  have A0 := allocs_below [.cells fnE.va 36, .map #[] 0, .cells zHd.toArray 45] w
  have A1 := allocs_heap [.cells fnE.va 36, .map #[] 0, .cells zHd.toArray 45] w
  simp only [List.foldl] at A0 A1
  have n0 : Blk _ (w.heap.size + 2) zHd 45 := A1 2 (by simp)
  have x0 : Blk _ (w.heap.size + 0) fnE.vs 36 := A1 0 (by simp)
  rw [Nat.add_zero] at x0
  have HA : Hid (Below w.heap.size w _ ∧ Blk _ (w.heap.size + 2) zHd 45 ∧ Blk _ w.heap.size fnE.vs 36) := ⟨A0, n0, x0⟩
  have hmm := @run_makeMap Try.prog
  have hal := alloc_hd
  clear A0 A1 n0 x0
  go_enter Try.func15, Try.ntmps15
  go_wp2_with (first
    | (refine wpList_buildT rfl 45 _ rfl _ (by kernel_rfl) (run_build_hd _ _) ?_)
    | (refine wpList_store_blk rfl rfl 45 (.tmp 9) (.tmp 13) rfl (w.heap.size + 2) (hdV (w.heap.size + 1) (.slice none 0 0)) (by kernel_rfl) (by kernel_rfl) (by kernel_rfl) HA.out.2.1 rfl (by kernel_rfl) ?_
       intro w1 W1
       have HB : Hid (Below w.heap.size w w1 ∧ Blk w1 (w.heap.size + 2) (hdV (w.heap.size + 1) (.slice none 0 0)) 45 ∧ Blk w1 w.heap.size fnE.vs 36) := ⟨W1.below (by omega) HA.out.1, W1.blk, W1.keep HA.out.2.2 (by omega)⟩
       clear HA W1 hmm hal
       have X1 := C17.of_range HB.out.2.2.range)
    | (refine wpList_load_ex rfl (.tmp 4) rfl w.heap.size 0 (by kernel_rfl) fnE X1 ?_))
  have h1 := ev_gather w w1 w.heap.size (w.heap.size + 2) (w.heap.size + 1) HB.out.2.1 HB.out.1 (by omega)
  refine h1.mono ?_
  rintro _ w2 ⟨rfl, q, cap, n, ys, hL, hb⟩
  have h2 := ev_hold w w2 w.heap.size (w.heap.size + 2) (w.heap.size + 1) q cap n ys hL hb (by omega)
  clear h1 hL hb HB X1
  go_wp2_with fail
  refine h2.mono ?_
  rintro _ w3 ⟨rfl, hL, hb⟩
  have h3 := ev_total w w3 w.heap.size (w.heap.size + 2) (w.heap.size + 1) q cap n ys hL hb (by omega)
  clear h2 hL hb
  go_wp2_with fail
  refine h3.mono ?_
  rintro _ w4 ⟨rfl, hb⟩
  clear h3
  go_wp2
  go_ret
  exact ⟨rfl, hb⟩
set_option maxRecDepth 100000 in
set_option maxHeartbeats 2000000 in
theorem ev_numbers (w : World) : Calls Try.prog 8 #[.agg fnE.va] w fun e w' => e = .returned (.int .i64 1) ∧ Below w.heap.size w w' := by
  have B0 := below_alloc w (.cells fnE.va 36)
  have X0 := C17.ofB (Bex.newV w fnE)
  have h1 := ev_wtotal (w.alloc (.cells fnE.va 36))
  go_enter Try.func8, Try.ntmps8
  go_wp2_with (refine wpList_load_ex rfl (.tmp 1) rfl w.heap.size 0 (by kernel_rfl) fnE X0 ?_)
  refine h1.mono ?_
  rintro _ w1 ⟨rfl, hb1⟩
  have B1 := Below.next B0 hb1
  clear h1 X0 B0 hb1
  go_wp2
  go_ret
  exact ⟨rfl, B1⟩
end Go.Proofs.Ytefaodpbfckmdaa
