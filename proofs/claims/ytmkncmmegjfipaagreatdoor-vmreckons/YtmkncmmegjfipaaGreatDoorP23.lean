/- Layer 18: a function begins. -/
import Derived.Test.YtmkncmmegjfipaaGreatDoorP22
import Derived.OwnWalk
import Derived.Lib.OwnKind
import Derived.Laws.OwnMore
import Derived.Test.YtmkncmmegjfipaaGreatDoorP2
namespace Go.Proofs.YtmkncmmegjfipaaGreatDoor
open Go Go.RowKit

theorem run_copy_noneV {P : Program} (w : World) (dT sT ty elem : TypeId) (k : Nat) (d a : Option Addr) (dLen dCap sLen sCap : Nat) (hu : P.underlying dT = some (.slice elem)) (hs : (P.info? elem).map (·.size) = some k) (hn : Nat.min sLen dLen = 0) :
    (Builtin.copy_ #[dT, sT] ty #[.slice d dLen dCap, .slice a sLen sCap]).run P w = .ok (goInt 0) w := by
  cases hq : P.info? elem with
  | none => simp [hq] at hs
  | some i =>
    have hl : ∀ (x : Addr), (loadCells x 0).run P w = .ok #[] w := fun x => by simpa using run_loadCells_list (P := P) w x [] (by simp)
    cases d <;> cases a <;> simp [Builtin.copy_, run_underlying hu, Builtin.lenOf, Builtin.firstCells, sizeOf, typeInfo, hq, hn, storeCells, hl]
theorem wpList_copy_none {w : World} {ops : Array Oper} {rest : List Oper} {o : Oper} {a : Act} {Q : Exit → Act → World → Prop} (hgd : o.guard = none) (d s : Operand) (t : TypeId) (elem : TypeId) (k : Nat)
    (ho : o.op = .call { callee := .builtin .copy, args := #[d, s], argTypes := #[t, t] }) (hu : Tryz.prog.underlying t = some (.slice elem)) (hi : (Tryz.prog.info? elem).map (·.size) = some k)
    (dp sp : Option Addr) (dLen dCap sLen sCap : Nat) (hd : a.eval d = .slice dp dLen dCap) (hs : a.eval s = .slice sp sLen sCap) (hn : Nat.min sLen dLen = 0) (h : wpList Tryz.prog ops Q rest (a.put o.dst (goInt 0)) w) : wpList Tryz.prog ops Q (o :: rest) a w := by
  refine wpList_plain hgd fun K hK => ?_
  have hr := run_copy_noneV (P := Tryz.prog) w t t o.type elem k dp sp dLen dCap sLen sCap hu hi hn
  unfold Oper.wp execOp
  simp only [ho, resolve, invoke, builtin, Sem.run_bind, Sem.run_pure, Result.andThen_ok, List.map_toArray, List.map_cons, List.map_nil, hd, hs, hr]
  exact hK _ _ h
set_option maxRecDepth 100000 in
set_option maxHeartbeats 4000000 in
theorem filled_none (v : Vl) (w : World) : Calls Tryz.prog 46 #[.agg v.vs.toArray, .slice none 0 0] w fun e w' => ∃ q, e = .returned (.slice (some ⟨q, 0, none⟩) 1 1) ∧ Blk w' q v.vs 31 ∧ w.heap.size ≤ q ∧ Below w.heap.size w w' := by
  have B0 := below_alloc w (.cells v.vs.toArray 31)
  have r0 := (Blk.new w v.vs 31).range
  have HB := hyd B0
  have H1 := hyd v.vs_one
  have HL := hyd (show v.vs.length = 3 from rfl)
  clear B0
  generalize v.vs = V at *
  go_enter Tryz.func46, Tryz.ntmps46
  go_upto_region 1 with fail
  generalize w.alloc (.cells V.toArray 31) = u1 at *
  generalize hBX : w.heap.size = BX at *
  have HBX := hyd hBX
  clear hBX
  obtain ⟨i0, hi, hz0, hz1, hz2⟩ := info_parts Tryz.infoVl
  go_upto_region 2 with (refine wpList_make_full u1 rfl (.tmp 8) (.tmp 8) 29 rfl u1.heap.size 31 i0 _ 3 Tryz.underlying29 hi hz0 hz1 .i64 .i64 1 1 1 (by kernel_rfl) (by kernel_rfl) rfl rfl (by rw [hz2]; decide) (by decide) (Nat.le_refl _) ?_; intro u2 ho hgr; have HO := hyd ho; have HG := hyd (gb_bel (Below.refl _ _) hgr (fun k hk => by cases hk)); clear ho hgr)
  obtain ⟨g2, cap2, ys, e2, hb2, hB2, _, _, hlen2, _⟩ := Rr.blk (w0 := u1) (ρ := fun _ => 0) (r := 0) ⟨HO.out, fun _ _ => rfl⟩ (by omega)
  simp only [Value.slice.injEq, Option.some.injEq, Addr.mk.injEq, and_true, true_and] at e2
  obtain ⟨rfl, rfl⟩ := e2
  have HB2 := hyd hB2
  have hl2 : ((madeCells (Value.agg #[.int .i64 0, .int .i64 0, .slice none 0 0]).cells (1 * 3)).toList ++ ys).length = 3 := by rw [hlen2]
  have HL2 := hyd hl2
  have r2 := range_kept r0 HG.out
  have HBB := hyd (Below.next (show Below w.heap.size w u1 by rw [HBX.out]; exact HB.out) HG.out)
  have HSZ := hyd HB.out.size
  clear HO HG HB hB2 hl2 hlen2 r0
  generalize (madeCells (Value.agg #[.int .i64 0, .int .i64 0, .slice none 0 0]).cells (1 * 3)).toList ++ ys = C at *
  generalize u1.heap.size = GQ at *
  go_upto_region 3 with (first | (refine wpList_load_mid rfl 31 (.tmp 2) rfl BX 0 (by kernel_rfl) V _ r2 Tryz.underlying31 rfl (by rw [HL.out]; kernel_rfl) ?_) | (refine wpList_store_seg rfl rfl 31 (.tmp 12) (.tmp 11) rfl GQ 0 V (by kernel_rfl) rfl H1.out HB2.out (by rw [HL.out, HL2.out]; omega) (by show _ = some V.length; rw [HL.out]; kernel_rfl) ?_; intro u3 W3; rw [seg_all _ _ (by rw [HL.out, HL2.out])] at W3; have HW3 := hyd W3; clear W3))
  have HB3 := hyd (HW3.out.below HSZ.out HBB.out)
  clear r2
  go_wp2_with (refine wpList_copy_none rfl (.tmp 14) (.tmp 15) 29 31 3 rfl Tryz.underlying29 (by kernel_rfl) (some ⟨GQ, 0, none⟩) none 0 0 0 0 (by kernel_rfl) (by kernel_rfl) (by decide) ?_)
  go_ret
  exact ⟨GQ, rfl, HW3.out.blk, HSZ.out, HB3.out⟩
theorem Tryz.infoFr : (Tryz.prog.info? 120).map (fun i => (i.zero, i.size, i.bytes)) = some (some (.agg #[.pointer none, .int .i64 0, .int .i64 0, .slice none 0 0, .int .i64 0, .slice none 0 0, .slice none 0 0]), 7, 104) := by kernel_rfl
/-- What is read of a function that begins. -/
def EnS (cl : Kl) (B BF BA : Nat) (ao : Option Addr) (n cap fn : Nat) (V : List Value) (q : World) : Prop := q.cell? ⟨B, 14, none⟩ = some (.slice ao n cap) ∧ q.cell? ⟨B, 10, none⟩ = some (.slice (some ⟨cl.fs.b, cl.fs.o, none⟩) cl.fs.len cl.fs.cap) ∧ Blk q BF [.int .i64 4, .int .i64 fn, .slice none 0 0] 31 ∧ Blk q BA V 31
theorem EnS.kept {cl : Kl} {B BF BA : Nat} {ao : Option Addr} {n cap fn : Nat} {V : List Value} {q q' : World} (h : EnS cl B BF BA ao n cap fn V q) (hb : Below q.heap.size q q') : EnS cl B BF BA ao n cap fn V q' := ⟨up hb h.1, up hb h.2.1, h.2.2.1.kept hb, h.2.2.2.kept hb⟩
theorem Ch.freshQ {w w' : World} {R : Nat → Prop} {ρ : Nat → Nat} {q : Nat} (r : Nat) (hb : Below w.heap.size w w') (hq : w.heap.size ≤ q) : Ch R ρ (upd ρ q r) w w' :=
  ⟨hb.os, hb.tape, hb.output, hb.size, fun k hk _ => hb.block k hk, fun k hk => upd_ne (by omega)⟩
def Mc.ent (m : Mc) (f : Fr) (fv : Value) : Mc := { m with fs := m.fs ++ [f], fv := fv }
def bareF (fn : Nat) (arg : Vl) (lv : Value) : Fr := ⟨fn, .lf 4 fn, 0, [], .slice none 0 0, [arg], lv⟩
set_option maxRecDepth 100000 in
set_option maxHeartbeats 8000000 in
/-- A function without Caps begins. -/
theorem enter_bare {cl : Kl} {w0 : World} {B : Nat} {ρ : Nat → Nat} {m : Mc} {w : World} (fn : Nat) (arg : Vl) (h : MAt cl w0 B ρ m w) (hc : cl.At w0) (hd : m.dd = []) (ha : VOk ρ w arg) (hfn : fn < cl.fs.len ∧ fn ≤ 100000) (hn : m.fs.length ≤ 100000) (hlm : (m.fs.length : Int) ≠ m.lm) : Calls Tryz.prog 25 #[.pointer (some ⟨B, 0, none⟩), .agg #[.int .i64 4, .int .i64 fn, .slice none 0 0], .agg arg.vs.toArray] w fun e w' => e = .returned (.tuple #[]) ∧ ∃ lv fv ρ', MAt cl w0 B ρ' (m.ent (bareF fn arg lv) fv) w' ∧ Ch (fun x => x = 1 ∨ x = 2) ρ ρ' w w' := by
  have BB := allocs_below [.cells #[.int .i64 4, .int .i64 fn, .slice none 0 0] 31, .cells arg.vs.toArray 31] w
  have SS := allocs_heap [.cells #[.int .i64 4, .int .i64 fn, .slice none 0 0] 31, .cells arg.vs.toArray 31] w
  simp only [List.foldl, List.length] at BB SS
  have HF := hyd (show Blk _ w.heap.size [.int .i64 4, .int .i64 fn, .slice none 0 0] 31 ∧ Blk _ (w.heap.size + 1) arg.vs 31 from ⟨SS 0 (by simp), SS 1 (by simp)⟩)
  have HM := hyd (h.kept BB)
  have HA := hyd (ha.kept (Ch.of_below (R := fun _ => False) BB) (fun x => x))
  have HC := hyd (Ch.of_below (R := fun x => x = 1 ∨ x = 2) (ρ := ρ) BB)
  obtain ⟨ao, cap, ev⟩ := owform h.f.own
  rw [hd, List.append_nil] at ev
  have c14 := (h.kept BB).blk.cell 14 (v := .slice ao m.fs.length cap) (by rw [← ev]; rfl)
  have c12 := (h.kept BB).blk.cell 12 rfl
  have HC10 := hyd (fun u (hu : MAt cl w0 B ρ m u) => hu.blk.cell 10 (v := .slice cl.fs.ao cl.fs.len cl.fs.cap) rfl)
  have HC14 := hyd (fun u (hu : MAt cl w0 B ρ m u) => (show u.cell? ⟨B, 14, none⟩ = some (.slice ao m.fs.length cap) by rw [← ev]; exact hu.blk.cell 14 rfl))
  have hnil := hc.fs.nil (by omega)
  rw [hnil] at HC10
  have hbd := hc.fs.bound
  have HEV := hyd ev
  have HDD : Hid (m.dd = []) := hd
  have hne : ((m.fs.length : Int) == m.lm) = false := by simpa using hlm
  have H1 := hyd arg.vs_one
  have HL := hyd (show arg.vs.length = 3 from rfl)
  have HZ := hyd (show w.heap.size ≠ B ∧ w.heap.size + 1 ≠ B from ⟨by have := h.blk.lt; omega, by have := h.blk.lt; omega⟩)
  have HFILL := hyd (fun u => filled_none arg u)
  clear h hc hd ha ev BB SS hlm
  generalize hV : arg.vs = V at *
  have HVE := hyd hV
  clear hV
  generalize hnn : m.fs.length = n at *
  have HN := hyd hnn
  clear hnn
  go_enter Tryz.func25, Tryz.ntmps25
  go_upto_region 1 with fail
  generalize (w.alloc (.cells #[.int .i64 4, .int .i64 fn, .slice none 0 0] 31)).alloc (.cells V.toArray 31) = u1 at *
  generalize w.heap.size + 1 = BA at *
  generalize w.heap.size = BF at *
  go_quiet (fail)
  have D1 := below_drewN (Below.refl u1.heap.size u1) nq
  have HF2 := hyd (show Blk (u1.drewN nq) BF [.int .i64 4, .int .i64 fn, .slice none 0 0] 31 ∧ Blk (u1.drewN nq) BA V 31 from ⟨HF.out.1.kept D1, HF.out.2.kept D1⟩)
  have HM2 := hyd (HM.out.kept D1)
  have HA2 := hyd (HA.out.kept (Ch.of_below (R := fun _ => False) D1) (fun x => x))
  have HC2 := hyd (HC.out.trans (Ch.of_below D1))
  clear HF HM HA HC D1 c14 c12
  generalize u1.drewN nq = u2 at *
  go_upto_region 3 with fail
  have D1 := (Below.refl u2.heap.size u2).drew
  have HF3 := hyd (show Blk u2.drew BF [.int .i64 4, .int .i64 fn, .slice none 0 0] 31 ∧ Blk u2.drew BA V 31 from ⟨HF2.out.1.kept D1, HF2.out.2.kept D1⟩)
  have HM3 := hyd (HM2.out.kept D1)
  have HA3 := hyd (HA2.out.kept (Ch.of_below (R := fun _ => False) D1) (fun x => x))
  have HC3 := hyd (HC2.out.trans (Ch.of_below D1))
  clear HF2 HM2 HA2 HC2 D1
  have c14 := HC14.out _ HM3.out
  have c10 := HC10.out _ HM3.out
  have HS := hyd (show EnS cl B BF BA ao n cap fn V u2.drew from ⟨c14, c10, HF3.out⟩)
  clear c14 c10 HF3
  have hNE : Nonempty (Wd (EnS cl B BF BA ao n cap fn V)) := ⟨⟨_, HS.out⟩⟩
  have p14 : ∀ x : Wd (EnS cl B BF BA ao n cap fn V), x.w.cell? ⟨B, 14, none⟩ = some (.slice ao n cap) := fun x => x.2.1
  have p10 : ∀ x : Wd (EnS cl B BF BA ao n cap fn V), x.w.cell? ⟨B, 10, none⟩ = some (.slice (some ⟨cl.fs.b, cl.fs.o, none⟩) cl.fs.len cl.fs.cap) := fun x => x.2.2.1
  have pf1 : ∀ x : Wd (EnS cl B BF BA ao n cap fn V), x.w.cell? ⟨BF, 1, none⟩ = some (.int .i64 fn) := fun x => Blk.cell x.2.2.2.1 1 rfl
  have pf2 : ∀ x : Wd (EnS cl B BF BA ao n cap fn V), x.w.cell? ⟨BF, 2, none⟩ = some (.slice none 0 0) := fun x => Blk.cell x.2.2.2.1 2 rfl
  have rF : ∀ u, (∃ x : Wd (EnS cl B BF BA ao n cap fn V), u = x.w) → u.rangeAt BF 0 [.int .i64 4, .int .i64 fn, .slice none 0 0] := fun _ hC => by obtain ⟨x, rfl⟩ := hC; exact Blk.range x.2.2.2.1
  have rA : ∀ u, (∃ x : Wd (EnS cl B BF BA ao n cap fn V), u = x.w) → u.rangeAt BA 0 V := fun _ hC => by obtain ⟨x, rfl⟩ := hC; exact Blk.range x.2.2.2.2
  have hf1 := hfn.1
  refine wp_region_readsV (EnS cl B BF BA ao n cap fn V) (fun i => i != 23) [0, 1, 2, 3, 4, 5, 6, 7, 8, 9, 10, 11, 12, 13, 14, 15, 16] 7 (by kernel_rfl) rfl (by kernel_rfl) HS.out ?_
  simp only [List.filterMap, List.getElem?_cons_zero, List.getElem?_cons_succ]
  iterate 13 go_big_quiet_step (fail)
  go_big_quiet_want
  refine quiet_load_rowV 31 (.tmp 4) rfl BF 0 (by kernel_rfl) [.int .i64 4, .int .i64 fn, .slice none 0 0] _ rF Tryz.underlying31 rfl (by kernel_rfl) ?_
  simp only [Act.put, List.setIfInBounds_toArray, List.set_cons_succ, List.set_cons_zero]
  go_big_quiet_on
  go_big_quiet_want
  refine quiet_load_rowV 31 (.tmp 5) rfl BA 0 (by kernel_rfl) V _ rA Tryz.underlying31 rfl (by rw [HL.out]; kernel_rfl) ?_
  simp only [Act.put, List.setIfInBounds_toArray, List.set_cons_succ, List.set_cons_zero]
  go_big_quiet_on
  iterate 2 go_big_quiet_step (fail)
  refine wpQuiet_nil ?_
  clear rF rA pf1 pf2 p10 p14 hNE
  generalize u2.drew = u3 at *
  refine wpAnyX_ready (rs := [17]) (by kernel_rfl) (by simp) ?_
  refine AllReadyX.cons rfl (fun K hK => ?_) AllReadyX.nil
  rw [if_pos (by rfl)]
  go_simp
  refine (HFILL.out u3).mono ?_
  rintro _ u4 ⟨q, rfl, hq1, hq2, hq3⟩
  have HQ := hyd (show Blk u4 q V 31 ∧ u3.heap.size ≤ q from ⟨hq1, hq2⟩)
  have HM4 := hyd (HM3.out.kept hq3)
  have HM4f := hyd (HM3.out.keep (Ch.refl _ _ _))
  have HA4 := hyd (HA3.out.kept (Ch.of_below (R := fun _ => False) hq3) (fun x => x))
  have HC4 := hyd (HC3.out.trans (Ch.of_below hq3))
  have HQ3 := hyd hq3
  have HS4 := hyd (HS.out.kept hq3)
  refine hK.out _ _ (fun _ => HS4.out) ?_
  clear hK K hq1 hq2 hq3 HS HFILL
  refine wpAnyX_ready (rs := [18]) (by kernel_rfl) (by simp) ?_
  refine AllReadyX.cons rfl (fun K hK => ?_) AllReadyX.nil
  rw [if_pos (by rfl)]
  go_simp
  refine hK.out _ _ (fun _ => HS4.out) ?_
  clear hK K
  refine wpAnyX_ready (rs := [19]) (by kernel_rfl) (by simp) ?_
  refine AllReadyX.cons rfl (fun K hK => ?_) AllReadyX.nil
  rw [if_pos (by rfl)]
  go_simp
  have hBN : (u4.alloc (.cells #[.pointer (some ⟨cl.fs.b, cl.fs.o + fn * 18, none⟩), .int .i64 4, .int .i64 fn, .slice none 0 0, .int .i64 0, .slice none 0 0, .slice (some ⟨q, 0, none⟩) 1 1] 120)).heap[u4.heap.size]? = some (.cells ((bareF fn arg (.slice (some ⟨q, 0, none⟩) 1 1)).vs cl).toArray 120) := heap_alloc_new _ _
  have HBN : Hid (Blk (u4.alloc (.cells #[.pointer (some ⟨cl.fs.b, cl.fs.o + fn * 18, none⟩), .int .i64 4, .int .i64 fn, .slice none 0 0, .int .i64 0, .slice none 0 0, .slice (some ⟨q, 0, none⟩) 1 1] 120)) u4.heap.size ((bareF fn arg (.slice (some ⟨q, 0, none⟩) 1 1)).vs cl) 120) := hBN
  have ba := below_alloc u4 (.cells #[.pointer (some ⟨cl.fs.b, cl.fs.o + fn * 18, none⟩), .int .i64 4, .int .i64 fn, .slice none 0 0, .int .i64 0, .slice none 0 0, .slice (some ⟨q, 0, none⟩) 1 1] 120)
  have HQ5 := hyd (HQ.out.1.kept ba)
  have HS5 := hyd (HS4.out.kept ba)
  have HQ35 := hyd (Below.next HQ3.out ba)
  refine hK.out _ _ (fun _ => HS5.out) ?_
  clear hK K hBN ba HS4 HM4 HM4f HA4 HQ3
  generalize u4.alloc (.cells #[.pointer (some ⟨cl.fs.b, cl.fs.o + fn * 18, none⟩), .int .i64 4, .int .i64 fn, .slice none 0 0, .int .i64 0, .slice none 0 0, .slice (some ⟨q, 0, none⟩) 1 1] 120) = u5 at *
  generalize u4.heap.size = BN at *
  have hk5 : Ch (fun r => r = 5) ρ (upd ρ q (7 + 2 * n)) u3 u5 := Ch.freshQ _ HQ35.out HQ.out.2
  have hk5' : Ch (fun x => x = 1 ∨ x = 2) ρ (upd ρ q (7 + 2 * n)) u3 u5 := Ch.freshQ _ HQ35.out HQ.out.2
  have HK5 := hyd hk5
  have HC5 := hyd (HC3.out.trans hk5')
  have hM5 := HM3.out.keep hk5
  have HM5 := hyd hM5
  have hfr : FrAt cl w0 (upd ρ q (7 + 2 * n)) m.fs.length (bareF fn arg (.slice (some ⟨q, 0, none⟩) 1 1)) u5 := by
    rw [HN.out]
    refine ⟨hf1, VOk.lf _ _ ⟨by omega, by omega⟩ ⟨by omega, by omega⟩, Rr.nil _ _ _ _ _ _, ?_, fun x hx => absurd hx (by simp [bareF]), fun x hx => ?_⟩
    · show Rr w0 _ _ _ 3 (.slice (some ⟨q, 0, none⟩) 1 1) 1 (vls [arg]) u5
      rw [show vls [arg] = V by rw [← HVE.out]; simp [vls]]
      exact Rr.of_blk (ys := []) (by rw [HL.out]) (Nat.le_trans HM3.out.bl.size HQ.out.2) (by rw [List.append_nil]; exact HQ5.out) (Nat.le_refl _) (by unfold maxLen; omega) (by rw [List.append_nil, HL.out]) (upd_at _ _ _)
    · have hx2 : x ∈ [arg] := hx
      have : x = arg := by simpa using hx2
      subst this
      exact HA3.out.kept hk5 (by omega)
  have HFR := hyd hfr
  have hrow := hM5.f
  rw [HDD.out, List.append_nil, HN.out, HEV.out] at hrow
  have HROW := hyd hrow
  clear hk5 hk5' hM5 hfr hrow HQ HQ5 HQ35 HC3 HC4
  refine wpAnyX_ready (rs := [20]) (by kernel_rfl) (by simp) ?_
  refine AllReadyX.cons rfl (fun K hK => ?_) AllReadyX.nil
  rw [if_pos (by rfl)]
  refine wp_append_lie Tryz.underlying81 Tryz.infoFr rfl (by decide) (.tmp 25) (.tmp 40) rfl w0.heap.size (.slice ao n cap) n (frs cl m.fs) (by kernel_rfl) HROW.out.own BN 1 1 ((bareF fn arg (.slice (some ⟨q, 0, none⟩) 1 1)).vs cl) (by kernel_rfl) (by decide) HBN.out rfl (by simp [Fr.vs, Value.oneCell', bareF]) (by omega) (by decide) HM5.out.bl.size ?_
  intro g cap' u6 ho6 hg6 hat hlt
  have HO6 := hyd (show u6.ownsRow w0.heap.size 120 7 (.slice (some ⟨g, 0, none⟩) (m.fs.length + 1) cap') (m.fs.length + 1) (frs cl m.fs ++ (bareF fn arg (.slice (some ⟨q, 0, none⟩) 1 1)).vs cl) from by rw [HN.out]; exact ho6)
  have HG6 := hyd (show u5.grownBy u6 m.fv.ownBlock from by rw [HEV.out]; exact hg6)
  have HAT := hyd (show m.fv.ownBlock = some g ∨ g = u5.heap.size from by rw [HEV.out]; exact hat)
  have hkg := Ch.grow (R := fun x => x = 2) (ρ := upd ρ q (7 + 2 * n)) hg6 (fun k e => HROW.out.role k e) hat rfl
  have HKG := hyd hkg
  have hs6 : EnS cl B BF BA ao n cap fn V u6 := by
    have hr2 : ∀ k, (Value.slice ao n cap).ownBlock = some k → upd ρ q (7 + 2 * n) k = 2 := fun k e => HROW.out.role k e
    have hB : B ≠ 0 ∨ True := Or.inr trivial
    have hbl : ∀ {X : Nat} {c : List Value} {t : TypeId}, Blk u5 X c t → t ≠ 120 → Blk u6 X c t := fun {X c t} hX ht => by
      unfold Blk
      rw [hg6.block X hX.lt (fun e => by
        obtain ⟨cc, fz, hk⟩ := Lib.ownsRow_kind HROW.out.own X e.symm
        have h9 : u5.heap[X]? = some (.cells c.toArray t (0, 0)) := hX
        rw [hk] at h9
        injection h9 with h9
        injection h9 with _ h9
        exact ht h9.symm)]
      exact hX
    have h14 := HS5.out
    refine ⟨?_, ?_, hbl h14.2.2.1 (by decide), hbl h14.2.2.2 (by decide)⟩
    · have := (hbl HM5.out.blk (by decide)).cell 14 (v := .slice ao n cap) (by rw [← HEV.out]; rfl)
      exact this
    · have := (hbl HM5.out.blk (by decide)).cell 10 (v := .slice cl.fs.ao cl.fs.len cl.fs.cap) rfl
      rw [hnil] at this
      exact this
  refine hK.out _ _ (fun _ => hs6) ?_
  clear hK K ho6 hg6 hat hlt hkg
  have HS6 := hyd hs6
  clear hs6
  refine wpAnyX_ready (rs := [21]) (by kernel_rfl) (by simp) ?_
  refine AllReadyX.cons rfl (fun K hK => ?_) AllReadyX.nil
  rw [if_pos (by rfl)]
  go_simp
  refine hK.out _ _ (fun _ => HS6.out) ?_
  clear hK K
  refine wpAnyX_ready (rs := [22]) (by kernel_rfl) (by simp) ?_
  refine AllReadyX.cons rfl (fun K hK => ?_) AllReadyX.nil
  rw [if_pos (by rfl)]
  go_simp
  refine hK.out _ _ (fun _ => HS6.out) ?_
  clear hK K
  refine wpAnyX_ready (rs := [23]) (by kernel_rfl) (by simp) ?_
  refine AllReadyX.cons rfl (fun K hK => ?_) AllReadyX.nil
  rw [if_pos (by rfl)]
  have hbb : Blk u6 B (m.vs cl) 83 := HKG.out.blk HM5.out.blk (by rw [HM5.out.rB]; omega)
  refine wp_store1 81 (.tmp 43) (.tmp 41) rfl rfl B 14 (.slice (some ⟨g, 0, none⟩) (n + 1) cap') _ _ (by kernel_rfl) (by kernel_rfl) (store_one _ _ (by kernel_rfl) rfl rfl _ _) hbb (by show 14 < 15; omega) ?_
  intro u7 W7
  have hC7 := (HC5.out.trans (HKG.out.mono fun x e => Or.inr e)).trans (Ch.wrote W7 (R := fun x => x = 1 ∨ x = 2) (Or.inl ((HKG.out.role B HM5.out.blk.lt).trans HM5.out.rB)))
  have hfin := HM3.out.push HDD.out HK5.out HFR.out HO6.out HG6.out HAT.out (by rw [HN.out]; exact W7)
  have HFIN := hyd (show ∃ lv fv ρ', MAt cl w0 B ρ' (m.ent (bareF fn arg lv) fv) u7 ∧ Ch (fun x => x = 1 ∨ x = 2) ρ ρ' w u7 from ⟨_, _, _, hfin, hC7⟩)
  refine hK.out _ _ (fun h => by cases h) ?_
  clear hK K W7 hbb hC7 hfin
  refine wpAnyX_done (by kernel_rfl) ?_ _
  refine ⟨(fun c hc => by cases hc), ?_⟩
  go_wp2
  go_end0
  exact ⟨rfl, HFIN.out⟩
end Go.Proofs.YtmkncmmegjfipaaGreatDoor

/- Layer 18: a run begins, without cells; a leaf is told. -/
namespace Go.Proofs.YtmkncmmegjfipaaGreatDoor
open Go Go.RowKit

set_option maxRecDepth 100000 in
set_option maxHeartbeats 1000000 in
theorem cloneC_nil (w : World) : Calls Tryz.prog 44 #[.slice none 0 0] w fun e w' => e = .returned (.slice none 0 0) ∧ Below w.heap.size w w' := by
  have hnl := fun w => run_eql_slice_nil (P := Tryz.prog) w 32 55 none 0 0 Tryz.underlying32
  go_enter Tryz.func44, Tryz.ntmps44
  go_wp2
  go_ret
  exact ⟨rfl, Below.refl _ _⟩
set_option maxRecDepth 100000 in
set_option maxHeartbeats 1000000 in
theorem cloneV_nil (w : World) : Calls Tryz.prog 76 #[.slice none 0 0] w fun e w' => e = .returned (.slice none 0 0) ∧ Below w.heap.size w w' := by
  have hnl := fun w => run_eql_slice_nil (P := Tryz.prog) w 29 31 none 0 0 Tryz.underlying29
  go_enter Tryz.func76, Tryz.ntmps76
  go_wp2
  go_ret
  exact ⟨rfl, Below.refl _ _⟩
def beV (fuel : Int) : List Value := [.slice none 0 0, .slice none 0 0, .int .i64 fuel, .int .i64 0, .int .i64 0, .int .i64 0, .int .i64 0, .slice none 0 0]
def zR8 : List Value := [.slice none 0 0, .slice none 0 0, .int .i64 0, .int .i64 0, .int .i64 0, .int .i64 0, .int .i64 0, .slice none 0 0]
set_option maxRecDepth 100000 in
set_option maxHeartbeats 2000000 in
theorem begin_nil (fuel : Int) (w : World) : Calls Tryz.prog 24 #[.slice none 0 0, .int .i64 fuel] w fun e w' => e = .returned (.agg (beV fuel).toArray) ∧ Below w.heap.size w w' := by
  have HK := hyd (Blk.new w zR8 79)
  have HB := hyd (below_alloc w (.cells zR8.toArray 79))
  go_enter Tryz.func24, Tryz.ntmps24
  go_upto_region 1 with fail
  unfold zR8 at HK HB
  generalize w.alloc (.cells [.slice none 0 0, .slice none 0 0, .int .i64 0, .int .i64 0, .int .i64 0, .int .i64 0, .int .i64 0, .slice none 0 0].toArray 79) = u1 at *
  generalize hBZ : w.heap.size = BZ at *
  have HBZ := hyd hBZ
  clear hBZ
  go_wp2_with fail
  refine (cloneC_nil u1).mono ?_
  rintro _ u2 ⟨rfl, hb⟩
  have HK2 := hyd (HK.out.kept hb)
  have HB2 := hyd (show Below BZ w u2 from by have h1 : Below w.heap.size w u1 := by { rw [HBZ.out]; exact HB.out }; have h2 := Below.next h1 hb; rw [HBZ.out] at h2; exact h2)
  clear hb HK HB
  have hb1 : (beV fuel).all (·.oneCell') = true := by simp [beV, Value.oneCell']
  have hb2 : (Tryz.prog.info? 79).map (·.size) = some (beV fuel).toArray.size := by kernel_rfl
  have hb3 : 0 + (beV fuel).length ≤ ([.slice none 0 0, .slice none 0 0, .int .i64 0, .int .i64 0, .int .i64 0, .int .i64 0, .int .i64 0, .slice none 0 0] : List Value).length := by show 0 + 8 ≤ 8; omega
  go_wp2_with (refine wpList_store_seg rfl rfl 79 (.tmp 4) (.tmp 8) rfl BZ 0 (beV fuel) (by kernel_rfl) (by kernel_rfl) hb1 HK2.out hb3 hb2 ?_; intro u3 W3)
  have W3 : WroteB u2 u3 BZ (beV fuel) 79 := W3
  exact bodyPost_ret (v := .agg (beV fuel).toArray) (results_rowV (vs := beV fuel) Tryz.underlying79 rfl (by kernel_rfl) Tryz.results24 rfl W3.blk.range) rfl ⟨rfl, by rw [HBZ.out]; exact W3.below (Nat.le_refl _) HB2.out⟩
set_option maxRecDepth 100000 in
set_option maxHeartbeats 2000000 in
theorem may_nil (k n fuel : Int) (w : World) (hf : 0 ≤ fuel ∧ fuel ≤ 65536) (hv : (Vl.lf k n).ok = true) : Calls Tryz.prog 22 #[.agg #[.int .i64 k, .int .i64 n, .slice none 0 0], .slice none 0 0, .int .i64 fuel] w fun e w' => e = .returned (.bool true) ∧ Below w.heap.size w w' := by
  have h1 : decide (fuel < 0) = false := by simp; omega
  have h2 : decide ((65536 : Int) < fuel) = false := by simp; omega
  have HB := hyd (below_alloc w (.cells #[.int .i64 k, .int .i64 n, .slice none 0 0] 31))
  have y0 := (Blk.new w [.int .i64 k, .int .i64 n, .slice none 0 0] 31).cell 0 rfl
  have y1 := (Blk.new w [.int .i64 k, .int .i64 n, .slice none 0 0] 31).cell 1 rfl
  have y2 := (Blk.new w [.int .i64 k, .int .i64 n, .slice none 0 0] 31).cell 2 rfl
  have hF := vFormed_any (Vl.lf k n) (w.alloc (.cells #[.int .i64 k, .int .i64 n, .slice none 0 0] 31)) ⟨fun h => absurd h (Nat.lt_irrefl _), Nat.zero_le _, fun i h => absurd h (Nat.not_lt_zero _)⟩
  rw [hv] at hF
  clear hv
  go_enter Tryz.func22, Tryz.ntmps22
  go_wp2_with fail
  refine hF.mono ?_
  rintro _ u1 ⟨rfl, hb⟩
  have HB1 := hyd (Below.next HB.out hb)
  clear hb hF HB y0 y1 y2
  go_wp2
  go_loopw [27] (fun i wr => i = .int .i64 0 ∧ Below w.heap.size w wr) (fun _ _ => 0)
  case atStart => exact ⟨rfl, HB1.out⟩
  case round =>
    obtain ⟨rfl, hb⟩ := hrel
    have HB2 := hyd hb
    clear hb
    go_wp2
    go_ret
    exact ⟨rfl, HB2.out⟩
set_option maxRecDepth 100000 in
set_option maxHeartbeats 2000000 in
theorem ownV_leaf (k n : Int) (w : World) : Calls Tryz.prog 50 #[.agg #[.int .i64 k, .int .i64 n, .slice none 0 0]] w fun e w' => e = .returned (.agg #[.int .i64 k, .int .i64 n, .slice none 0 0]) ∧ Below w.heap.size w w' := by
  have BB := allocs_below [.cells #[.int .i64 k, .int .i64 n, .slice none 0 0] 31, .cells #[.int .i64 0, .int .i64 0, .slice none 0 0] 31] w
  have SS := allocs_heap [.cells #[.int .i64 k, .int .i64 n, .slice none 0 0] 31, .cells #[.int .i64 0, .int .i64 0, .slice none 0 0] 31] w
  simp only [List.foldl, List.length] at BB SS
  have HF := hyd (show Blk _ w.heap.size [.int .i64 k, .int .i64 n, .slice none 0 0] 31 ∧ Blk _ (w.heap.size + 1) [.int .i64 0, .int .i64 0, .slice none 0 0] 31 from ⟨SS 0 (by simp), SS 1 (by simp)⟩)
  have HB := hyd BB
  clear BB SS
  go_enter Tryz.func50, Tryz.ntmps50
  go_upto_region 1 with fail
  generalize (w.alloc (.cells #[.int .i64 k, .int .i64 n, .slice none 0 0] 31)).alloc (.cells #[.int .i64 0, .int .i64 0, .slice none 0 0] 31) = u1 at *
  have HNE := hyd (show w.heap.size ≠ w.heap.size + 1 by omega)
  generalize hBZ : w.heap.size + 1 = BZ at *
  generalize hBX : w.heap.size = BX at *
  have HBX := hyd (show w.heap.size = BX ∧ BX + 1 = BZ from ⟨hBX, by omega⟩)
  have y2 := HF.out.1.cell 2 rfl
  clear hBX hBZ
  go_wp2_with fail
  refine (cloneV_nil u1).mono ?_
  rintro _ u2 ⟨rfl, hb⟩
  have HF2 := hyd (show Blk u2 BX [.int .i64 k, .int .i64 n, .slice none 0 0] 31 ∧ Blk u2 BZ [.int .i64 0, .int .i64 0, .slice none 0 0] 31 from ⟨HF.out.1.kept hb, HF.out.2.kept hb⟩)
  have HB2 := hyd (show Below BX w u2 from by have h1 : Below w.heap.size w u1 := by { rw [HBX.out.1]; exact HB.out }; have h2 := Below.next h1 hb; rw [HBX.out.1] at h2; exact h2)
  clear hb HF HB y2
  go_upto_region 2 with (refine wpList_store1 rfl 29 (.tmp 8) (.tmp 7) rfl rfl BX 2 (.slice none 0 0) _ _ (by kernel_rfl) (by kernel_rfl) (store_one _ _ (by kernel_rfl) rfl rfl _ _) HF2.out.1 (by show 2 < 3; omega) ?_; intro u3 W3; have HF3 := hyd (show Blk u3 BX [.int .i64 k, .int .i64 n, .slice none 0 0] 31 ∧ Blk u3 BZ [.int .i64 0, .int .i64 0, .slice none 0 0] 31 from ⟨W3.blk, W3.keep HF2.out.2 (fun e => HNE.out e.symm)⟩); have HB3 := hyd (W3.below (Nat.le_refl _) HB2.out); clear W3)
  clear HF2 HB2
  have y2 := HF3.out.1.cell 2 rfl
  go_wp2
  go_loopw [12] (fun i wr => i = .int .i64 0 ∧ Blk wr BX [.int .i64 k, .int .i64 n, .slice none 0 0] 31 ∧ Blk wr BZ [.int .i64 0, .int .i64 0, .slice none 0 0] 31 ∧ Below BX w wr) (fun _ _ => 0)
  case atStart => exact ⟨rfl, HF3.out.1, HF3.out.2, HB3.out⟩
  case round =>
    clear HF3 HB3 y2
    obtain ⟨rfl, h1, h2, hb⟩ := hrel
    have HF4 := hyd (show Blk wr BX [.int .i64 k, .int .i64 n, .slice none 0 0] 31 ∧ Blk wr BZ [.int .i64 0, .int .i64 0, .slice none 0 0] 31 ∧ Below BX w wr from ⟨h1, h2, hb⟩)
    have y0 := h1.cell 0 rfl
    have y1 := h1.cell 1 rfl
    have y2 := h1.cell 2 rfl
    clear h1 h2 hb
    go_wp2_with (refine wpList_store_seg rfl rfl 31 (.tmp 2) (.tmp 24) rfl BZ 0 [.int .i64 k, .int .i64 n, .slice none 0 0] (by kernel_rfl) (by kernel_rfl) (by simp [Value.oneCell']) HF4.out.2.1 (by show 0 + 3 ≤ 3; omega) (by kernel_rfl) ?_; intro u5 W5)
    have W5 : WroteB wr u5 BZ [.int .i64 k, .int .i64 n, .slice none 0 0] 31 := W5
    exact bodyPost_ret (v := .agg #[.int .i64 k, .int .i64 n, .slice none 0 0]) (results_rowV (vs := [.int .i64 k, .int .i64 n, .slice none 0 0]) Tryz.underlying31 rfl (by kernel_rfl) Tryz.results50 rfl W5.blk.range) rfl ⟨rfl, by rw [HBX.out.1]; exact W5.below (by have := HBX.out.2; omega) HF4.out.2.2⟩
end Go.Proofs.YtmkncmmegjfipaaGreatDoor

/- Layer 18: the next instruction. -/
namespace Go.Proofs.YtmkncmmegjfipaaGreatDoor
open Go Go.RowKit

def Mc.st1 (m : Mc) : Mc := { m with steps := m.steps + 1 }
def Fr.nx (f : Fr) : Fr := { f with pl := f.pl + 1 }
set_option maxRecDepth 100000 in
set_option maxHeartbeats 8000000 in
theorem goOn_any {cl : Kl} {w0 : World} {B : Nat} {ρ : Nat → Nat} {m : Mc} {r : List Fr} {f : Fr} {g : Nat} {w : World} (P : World → Prop) (h : Tp cl w0 B ρ m r f g w) (hc : cl.At w0) (hd : m.dd = []) (hp : f.pl < (cl.fs.x f.fn).cd.len) (hp2 : f.pl ≤ 100000) (hr : r.length ≤ 100000) (hs : 0 ≤ m.steps ∧ m.steps ≤ m.fuel ∧ m.fuel ≤ 65536) (hne : ¬ m.steps = m.fuel)
    (hD : ∀ u, Tp cl w0 B ρ (m.st1.top r f.nx) r f.nx g u → Ch (fun x => x = 1 ∨ x = 2) ρ ρ w u → Calls Tryz.prog 72 #[.pointer (some ⟨B, 0, none⟩), .pointer (some ⟨g, r.length * 7, none⟩), .agg ((cl.fs.x f.fn).cd.x f.pl).vs.toArray] u fun e u' => e = .returned (.tuple #[]) ∧ P u') :
    Calls Tryz.prog 48 #[.pointer (some ⟨B, 0, none⟩)] w fun e w' => e = .returned (.tuple #[]) ∧ P w' := by
  obtain ⟨cap, ys, ev, _⟩ := h.blk
  have hlen : (m.fs ++ m.dd).length = r.length + 1 := by rw [h.e, hd]; simp
  rw [hlen] at ev
  have HC14 := hyd (fun u (hu : Tp cl w0 B ρ m r f g u) => (show u.cell? ⟨B, 14, none⟩ = some (.slice (some ⟨g, 0, none⟩) (r.length + 1) cap) by rw [← ev]; exact hu.M.blk.cell 14 rfl))
  have HC0 := hyd (fun u (hu : Tp cl w0 B ρ m r f g u) => (show u.cell? ⟨g, r.length * 7, none⟩ = some (.pointer (some ⟨cl.fs.b, cl.fs.o + f.fn * 18, none⟩)) from hu.cell 0 rfl))
  have HC4 := hyd (fun u (hu : Tp cl w0 B ρ m r f g u) => hu.cell 4 (v := .int .i64 f.pl) rfl)
  have HCC := hyd (fun u (hu : Tp cl w0 B ρ m r f g u) => (show u.cell? ⟨cl.fs.b, cl.fs.o + f.fn * 18 + 14, none⟩ = some (.slice (cl.fs.x f.fn).cd.ao (cl.fs.x f.fn).cd.len (cl.fs.x f.fn).cd.cap) from (hu.own hc).2.1 14 _ rfl))
  have HCD := hyd (fun u (hu : Below w0.heap.size w0 u) => (hc.kept hu).fs.row _ h.fr.fn)
  have hcd := (h.own hc).1.cd
  have hnil := hcd.nil (by omega)
  have hbd := hcd.bound
  have HROW := hyd (fun u (hu : Below w0.heap.size w0 u) => (hc.kept hu).fs.each _ h.fr.fn |>.cd.row f.pl hp)
  have HST := hyd (fun u (hu : MAt cl w0 B ρ m u) => step_any hu hs hne)
  have HMK := hyd (fun u u' (hu : Tp cl w0 B ρ m r f g u) (hm : MAt cl w0 B ρ m.st1 u') => (show Tp cl w0 B ρ m.st1 r f g u' from ⟨hm, hu.e, hu.v⟩))
  have HDO := hyd hD
  have HT := hyd h
  have hc2 : ((cl.fs.x f.fn).cd.len : Int) ≤ 9223372036854775807 := by omega
  have hc3 : (f.pl : Int) < (cl.fs.x f.fn).cd.len := by omega
  have HX1 := hyd ((cl.fs.x f.fn).cd.x f.pl).vs_one
  have HXL := hyd (show ((cl.fs.x f.fn).cd.x f.pl).vs.length = 7 from rfl)
  clear h hc hd hp hs hne hD ev hlen hcd
  generalize hF : cl.fs.x f.fn = F at *
  generalize hI : (F.cd.x f.pl).vs = I at *
  rw [hnil] at HCC
  go_enter Tryz.func48, Tryz.ntmps48
  have c14 := HC14.out _ HT.out
  go_wp2
  go_quiet (fail)
  have HT1 := hyd (HT.out.kept (below_drewN (Below.refl w.heap.size w) nq))
  have HB1 := hyd (Ch.of_below (R := fun x => x = 1 ∨ x = 2) (ρ := ρ) (below_drewN (Below.refl w.heap.size w) nq))
  clear HT c14
  generalize w.drewN nq = u1 at *
  have c0 := HC0.out _ HT1.out
  have c4 := HC4.out _ HT1.out
  have cc := HCC.out _ HT1.out
  generalize hoF : cl.fs.o + f.fn * 18 = oF at *
  generalize ho : r.length * 7 = o at *
  go_wp2
  go_quiet (fail)
  have HT2 := hyd (HT1.out.kept (below_drewN (Below.refl u1.heap.size u1) nq))
  have HB2 := hyd (HB1.out.trans (Ch.of_below (below_drewN (Below.refl u1.heap.size u1) nq)))
  clear HT1 HB1 c0 c4 cc
  generalize u1.drewN nq = u2 at *
  go_wp2_with fail
  refine (HST.out u2 HT2.out.M).mono ?_
  rintro _ u3 ⟨rfl, hm3, hc3b⟩
  have HT3 := hyd (HMK.out _ _ HT2.out hm3)
  have HB3 := hyd (HB2.out.trans (hc3b.mono fun x e => Or.inl e))
  clear hm3 hc3b HT2 HB2 HST HMK HC14
  obtain ⟨c, hc, hcl⟩ := HT3.out.there
  have HCB := hyd hc
  have HCL := hyd hcl
  clear hc hcl
  have c4 := HT3.out.cell 4 (v := .int .i64 f.pl) rfl
  have HW := hyd (fun u (W : WroteB u3 u g (c.set (r.length * 7 + 4) (.int .i64 (f.pl + 1 : Nat))) 120) => HT3.out.set (Ch.refl _ _ _) (f' := f.nx) (by have h9 := HT3.out.fr; exact ⟨h9.fn, h9.fu, h9.s, h9.l, h9.vs, h9.vl⟩) (j := 4) (by omega) rfl HCB.out W)
  have hi1 : ((f.pl + 1 : Nat) : Int) = (f.pl : Int) + 1 := by omega
  rw [hi1] at HW
  have HGN := hyd HT3.out.gne
  have HOO := hyd ho
  rw [ho] at c4 HW HCL
  go_upto_region 5 with (refine wpList_store1 rfl 3 (.tmp 41) (.tmp 39) rfl rfl g (o + 4) (.int .i64 ((f.pl : Int) + 1)) c _ (by kernel_rfl) (by kernel_rfl) (store_one _ _ (by kernel_rfl) rfl rfl _ _) HCB.out (by have := HCL.out; omega) ?_; intro u4 W4; have HT4 := hyd (HW.out u4 W4); have HB4 := hyd (HB3.out.trans (Ch.wrote W4 (R := fun x => x = 1 ∨ x = 2) (Or.inr HGN.out))); clear W4 c4)
  clear HW HT3 HB3 HCB
  have c0 : u4.cell? ⟨g, o, none⟩ = some (.pointer (some ⟨cl.fs.b, oF, none⟩)) := by have h9 := HT4.out.cell 0 (v := .pointer (some ⟨cl.fs.b, cl.fs.o + f.fn * 18, none⟩)) rfl; rw [HOO.out, hoF] at h9; exact h9
  have c4 : u4.cell? ⟨g, o + 4, none⟩ = some (.int .i64 ((f.pl : Int) + 1)) := by have h9 := HT4.out.cell 4 rfl; rw [HOO.out] at h9; rw [← hi1]; exact h9
  have cc : u4.cell? ⟨cl.fs.b, oF + 14, none⟩ = some (.slice (some ⟨F.cd.b, F.cd.o, none⟩) F.cd.len F.cd.cap) := by
    have h9 := HCD.out u4 HT4.out.M.bl
    have h10 := h9 14 _ rfl
    rw [hnil] at h10
    exact h10
  have rr := HROW.out u4 HT4.out.M.bl
  have q0 := fun x : Gr u4 => x.cell c0
  have q4 := fun x : Gr u4 => x.cell c4
  have qc := fun x : Gr u4 => x.cell cc
  have rI : ∀ u, (∃ x : Gr u4, u = x.w) → u.rangeAt F.cd.b (F.cd.o + f.pl * 7) I := fun _ hC => by obtain ⟨x, rfl⟩ := hC; exact range_kept rr (Gr.bl x)
  have hNE : Nonempty (Gr u4) := ⟨⟨_, Below.refl _ _⟩⟩
  clear c0 c4 cc rr HC0 HC4 HCC HCD HROW
  refine wp_region_gr_tail 16 (by kernel_rfl) (by kernel_rfl) ?_
  simp only [List.take, List.drop]
  iterate 15 go_big_quiet_step (fail)
  go_big_quiet_want
  refine quiet_load_rowV 60 (.tmp 56) rfl F.cd.b (F.cd.o + f.pl * 7) (by kernel_rfl) I _ rI Tryz.underlying60 rfl (by rw [HXL.out]; kernel_rfl) ?_
  simp only [Act.put, List.setIfInBounds_toArray, List.set_cons_succ, List.set_cons_zero]
  go_big_quiet_on
  refine wpQuiet_nil ?_
  rintro u5 ⟨xg, rfl⟩
  have Bg := xg.bl
  generalize xg.w = u5 at Bg ⊢
  have HD5 := hyd (HDO.out u5 (HT4.out.kept Bg) (HB4.out.trans (Ch.of_below Bg)))
  clear xg Bg q0 q4 qc rI hNE HT4 HB4 HDO
  go_wp2_with fail
  refine HD5.out.mono ?_
  rintro _ u6 ⟨rfl, h6⟩
  have H6 := hyd h6
  clear h6 HD5
  go_wp2
  go_end0
  exact ⟨rfl, H6.out⟩
end Go.Proofs.YtmkncmmegjfipaaGreatDoor
