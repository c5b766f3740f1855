/- Layer 10: the statement IrEnv, walked. -/
import Derived.Test.YtcnepnhbfleegaaP25
import Derived.Test.YtcnepnhbfleegaaP26
import Derived.Test.YtcnepnhbfleegaaP1
import Derived.ProofKit
import Derived.Deep.Grids
import Derived.Lib.SmallJoins
namespace Go.Proofs.Ytcnepnhbfleegaa
open Go Go.RowKit

/-- Bytes that are handed in. -/
structure By where
  ao : Option Addr
  b : Nat
  o : Nat
  len : Nat
  cap : Nat
  f : Nat → Nat
structure By.At (s : By) (w : World) : Prop where
  nil : 0 < s.len → s.ao = some ⟨s.b, s.o, none⟩
  bound : s.len ≤ 9223372036854775807
  cell : ∀ i, i < s.len → w.cell? ⟨s.b, s.o + i, none⟩ = some (.int .u8 (s.f i))
  lt : ∀ i, i < s.len → s.f i < 256
theorem By.At.kept {s : By} {w w' : World} (h : s.At w) (hb : Below w.heap.size w w') : s.At w' := ⟨h.nil, h.bound, fun i hi => up hb (h.cell i hi), h.lt⟩
theorem run_build_fnE (p r h : Nat) (e : Nat) (BS : Nat) (w : World) {ls : List Nat} : (Instr.build 43 #[(0, .agg (leafT 1 (p : Nat)).vs.toArray), (1, .agg (leafT 1 (r : Nat)).vs.toArray), (3, .int .i64 h), (4, .int .i64 e), (5, .slice (some ⟨BS, 0, none⟩) ls.length ls.length), (7, .int .i64 1)]).run Try.prog w = .ok (.agg (fnH p r h e BS ls Ns.nl 1).vs.toArray) w := by kernel_rfl
theorem apy {w u u' : World} {n : Strs} {g : Grid} {c sl : List Value} {BF BS gg H : Nat} {R : Option Nat} {v14 : Value} (hgrow : u.grownBy u' R) (h1 : Hw w n g u) (h2 : Blk u BS sl 39) (h3 : Blk u BF c 43) (hR : ∀ k, R = some k → BF < k) (hw : w.heap.size < BS ∧ BS < BF) (hat : (R = some gg ∨ gg = H)) (hH : u.heap.size = H) (h14 : c[14]? = some v14) :
    Hw w n g u' ∧ Blk u' BS sl 39 ∧ Blk u' BF c 43 ∧ (BF < gg) ∧ u'.cell? ⟨BF, 14, none⟩ = some v14 ∧ u'.frozen? ⟨BF, 14, none⟩ = false := by
  have bg : ∀ {B : Nat} {c : List Value} {t : TypeId}, Blk u B c t → B ≤ BF → Blk u' B c t := fun {B} {c} {t} h hB => by
    unfold Blk; rw [hgrow.block B h.lt (fun e => by have := hR B e.symm; omega)]; exact h
  have hF := bg h3 (Nat.le_refl _)
  refine ⟨⟨ap_belI h1.bl hgrow (fun k e => by have := hR k e; omega), bg h1.l (by omega)⟩, bg h2 (by omega), hF, ?_, hF.cell 14 h14, hF.frozen 14⟩
  rcases hat with e | e
  · exact hR gg e
  · have := h3.lt; omega
theorem wp_alloc_nd {o : Oper} {a : Act} {w : World} {K : Act → World → Prop} {Q : Exit → Act → World → Prop} (ho : o.op = .alloc 46) (h : K (a.put o.dst (.pointer (some ⟨w.heap.size, 0, none⟩))) (w.alloc (.cells zNv.toArray 46))) : o.wp Try.prog a w K Q := by
  unfold Oper.wp execOp
  simp only [ho, Sem.run_bind, alloc_nd, Result.andThen_ok, Sem.run_pure]
  exact h
theorem bd_ops {B c : Nat} {hs : List Nd} (h : ∀ nd ∈ hs, nd.h.op = 1 ∨ nd.h.op = 3 ∨ nd.h.op = 4 ∨ nd.h.op = 15) (i : Nat) (hi : i < (bdN B c hs).len) : ((bdN B c hs).ps i).h.op = 1 ∨ ((bdN B c hs).ps i).h.op = 3 ∨ ((bdN B c hs).ps i).h.op = 4 ∨ ((bdN B c hs).ps i).h.op = 15 := by
  have hi' : i < hs.length := hi
  have e : (bdN B c hs).ps i = hs[i] := by show hs[i]?.getD .dm = _; rw [List.getElem?_eq_getElem hi']; rfl
  rw [e]; exact h _ (List.getElem_mem hi')
theorem eb_ops {tp : Nat} {os : List Nat} : ∀ nd ∈ eb tp os, nd.h.op = 1 ∨ nd.h.op = 3 ∨ nd.h.op = 4 ∨ nd.h.op = 15 := by
  intro nd h
  unfold eb at h
  rw [List.mem_cons, List.mem_map] at h
  rcases h with rfl | ⟨o, _, rfl⟩
  · exact Or.inr (Or.inl rfl)
  · exact Or.inr (Or.inr (Or.inl rfl))
theorem ebs_ops {tp bt : Nat} {os : List Nat} : ∀ nd ∈ eb tp os ++ [sN 1 1 0 0 0 bt], nd.h.op = 1 ∨ nd.h.op = 3 ∨ nd.h.op = 4 ∨ nd.h.op = 15 := by
  intro nd h
  rw [List.mem_append, List.mem_singleton] at h
  rcases h with h | rfl
  · exact eb_ops nd h
  · exact Or.inl rfl
theorem ebs_mem {w : World} {tp bt : Nat} {os : List Nat} : ∀ nd ∈ eb tp os ++ [sN 1 1 0 0 0 bt], nd.At w := by
  intro nd h
  rw [List.mem_append, List.mem_singleton] at h
  rcases h with h | rfl
  · exact eb_mem nd h
  · exact sN_at _ _ _ _ _ _ _
theorem eb_len (tp : Nat) (os : List Nat) (o : Nat) : (eb tp (os ++ [o])).length = (eb tp os).length + 1 := by unfold eb; simp
theorem eb_app (tp : Nat) (os : List Nat) (o : Nat) : eb tp (os ++ [o]) = eb tp os ++ [eN tp o] := by unfold eb; simp
theorem bdV_app (a b : List Nd) : bdV (a ++ b) = bdV a ++ bdV b := by unfold bdV; simp
theorem eb_bd (tp : Nat) (os : List Nat) (o : Nat) : bdV (eb tp os) ++ bdV [eN tp o] = bdV (eb tp (os ++ [o])) := by rw [eb_app, bdV_app]
set_option maxRecDepth 100000 in
set_option maxHeartbeats 16000000 in
theorem irEnv_any (n : Strs) (g : Grid) (y : By) (w : World) (hn : n.At w) (hg : g.At w) (hy : y.At w) :
    Calls Try.prog 5 #[.agg #[.slice n.ao n.len n.cap, .slice g.ao g.len g.cap], .slice y.ao y.len y.cap] w fun e w' => e = .returned (.bool true) ∧ Below w.heap.size w w' := by
  have B0 := below_alloc w (.cells #[.slice n.ao n.len n.cap, .slice g.ao g.len g.cap] 25)
  have HI1 := hid (show Hw w n g (w.alloc (.cells #[.slice n.ao n.len n.cap, .slice g.ao g.len g.cap] 25)) from ⟨B0, Blk.new w _ _⟩)
  have HH := hid (show n.At w ∧ g.At w ∧ y.At w from ⟨hn, hg, hy⟩)
  have hyb : y.len ≤ 9223372036854775807 := hy.bound
  clear B0 hn hg hy
  go_enter Try.func5, Try.ntmps5
  go_upto_region 1 with fail
  generalize (w.alloc (.cells #[.slice n.ao n.len n.cap, .slice g.ao g.len g.cap] 25)) = w1 at *
  have e0 := HI1.out.l.cell 0 rfl
  have e1 := HI1.out.l.cell 1 rfl
  go_wp2_with fail
  refine Calls.mono (awake10_any w1) ?_
  rintro _ w2 ⟨rfl, hb⟩
  have HI2 := hid (HI1.out.kept hb)
  clear e0 e1 hb HI1
  have e0 := HI2.out.l.cell 0 rfl
  have e1 := HI2.out.l.cell 1 rfl
  go_wp2_with fail
  refine Calls.mono (small_any n g w2 (HH.out.1.kept HI2.out.bl) (HH.out.2.1.kept HI2.out.bl)) ?_
  rintro _ w3 ⟨rfl, hb⟩
  have HI3 := hid (HI2.out.kept hb)
  clear e0 e1 hb HI2
  cases q1 : smallB n g
  · go_wp2_with fail
    refine (awake10_any w3).mono ?_
    rintro _ wz ⟨rfl, hbz⟩
    go_wp2
    go_ret
    exact ⟨rfl, Below.next HI3.out.bl hbz⟩
  have e0 := HI3.out.l.cell 0 rfl
  have e1 := HI3.out.l.cell 1 rfl
  go_wp2_with fail
  refine Calls.mono (formed_any n g w3 (HH.out.1.kept HI3.out.bl) (HH.out.2.1.kept HI3.out.bl)) ?_
  rintro _ w4 ⟨rfl, hb⟩
  have HI4 := hid (HI3.out.kept hb)
  clear e0 e1 hb HI3
  cases q2 : formedB n g
  · go_wp2_with fail
    refine (awake10_any w4).mono ?_
    rintro _ wz ⟨rfl, hbz⟩
    go_wp2
    go_ret
    exact ⟨rfl, Below.next HI4.out.bl hbz⟩
  by_cases h60 : 60 < y.len
  · have d60 : decide ((60 : Int) < y.len) = true := by simp; omega
    go_wp2_with fail
    refine (awake10_any w4).mono ?_
    rintro _ wz ⟨rfl, hbz⟩
    go_wp2
    go_ret
    exact ⟨rfl, Below.next HI4.out.bl hbz⟩
  have d60 : decide ((60 : Int) < y.len) = false := by simp; omega
  obtain ⟨bt, hbt, hbtl, hlow⟩ := bot_is q2
  obtain ⟨tp, htp, htpl, hhigh⟩ := top_is q2
  have HX : Hid (En n g bt tp) := ⟨q2, hbt, hbtl, hlow, htpl, hhigh⟩
  have HBt := hid (show ∀ x : Gr w4, Calls Try.prog 13 #[.agg #[.slice n.ao n.len n.cap, .slice g.ao g.len g.cap]] x.w fun e w' => e = .returned (.int .i64 bt) ∧ Below x.w.heap.size x.w w' from fun x => by rw [← hbt]; exact Bottom_any n g x.w ((HH.out.1.kept HI4.out.bl).kept x.bl) ((HH.out.2.1.kept HI4.out.bl).kept x.bl))
  have HTp := hid (show ∀ x : Gr w4, Calls Try.prog 14 #[.agg #[.slice n.ao n.len n.cap, .slice g.ao g.len g.cap]] x.w fun e w' => e = .returned (.int .i64 tp) ∧ Below x.w.heap.size x.w w' from fun x => by rw [← htp]; exact Top_any n g x.w ((HH.out.1.kept HI4.out.bl).kept x.bl) ((HH.out.2.1.kept HI4.out.bl).kept x.bl))
  have HL := hid (show y.len ≤ 60 from by omega)
  clear q1 q2 hbt hbtl hlow htp htpl hhigh
  go_upto_region 3 with fail
  clear h60 d60
  have p0 : ∀ x : Gr w4, x.w.cell? ⟨w.heap.size, 0, none⟩ = some (.slice n.ao n.len n.cap) := fun x => (HI4.out.l.kept x.bl).cell 0 rfl
  have p1 : ∀ x : Gr w4, x.w.cell? ⟨w.heap.size, 1, none⟩ = some (.slice g.ao g.len g.cap) := fun x => (HI4.out.l.kept x.bl).cell 1 rfl
  have hNE : Nonempty (Gr w4) := ⟨⟨_, Below.refl _ _⟩⟩
  refine wp_region_gr (by kernel_rfl) (by kernel_rfl) ?_
  go_big_quiet_step (fail)
  go_big_quiet_step ((go_at_call 14; exact Calls.gr _ (HTp.out _)))
  go_big_quiet_step (fail)
  go_big_quiet_step ((go_at_call 13; exact Calls.gr _ (HBt.out _)))
  iterate 2 go_big_quiet_step (fail)
  refine wpQuiet_nil ?_
  rintro w5 ⟨x5, rfl⟩
  have B5 := x5.bl
  generalize x5.w = w5 at B5 ⊢
  have HI5 := hid (HI4.out.kept B5)
  clear x5 B5 p0 p1 hNE HI4 HBt HTp
  have bb1 := below_alloc w5 (.cells #[.int .i64 1, .int .i64 tp, .slice none 0 0, .int .i64 0, .int .i64 0] 39)
  have bb2 := below_alloc (w5.alloc (.cells #[.int .i64 1, .int .i64 tp, .slice none 0 0, .int .i64 0, .int .i64 0] 39)) (.cells (slV [tp, tp, tp]).toArray 39)
  have bb3 := below_alloc ((w5.alloc (.cells #[.int .i64 1, .int .i64 tp, .slice none 0 0, .int .i64 0, .int .i64 0] 39)).alloc (.cells (slV [tp, tp, tp]).toArray 39)) (.cells (fnH tp tp bt tp (w5.heap.size + 1) [tp, tp, tp] Ns.nl 1).vs.toArray 43)
  have S1 : (w5.alloc (.cells #[.int .i64 1, .int .i64 tp, .slice none 0 0, .int .i64 0, .int .i64 0] 39)).heap.size = w5.heap.size + 1 := alloc_size _ _
  have S2 : ((w5.alloc (.cells #[.int .i64 1, .int .i64 tp, .slice none 0 0, .int .i64 0, .int .i64 0] 39)).alloc (.cells (slV [tp, tp, tp]).toArray 39)).heap.size = w5.heap.size + 1 + 1 := by rw [alloc_size, S1]
  have HJ := hid (show Hw w n g (((w5.alloc (.cells #[.int .i64 1, .int .i64 tp, .slice none 0 0, .int .i64 0, .int .i64 0] 39)).alloc (.cells (slV [tp, tp, tp]).toArray 39)).alloc (.cells (fnH tp tp bt tp (w5.heap.size + 1) [tp, tp, tp] Ns.nl 1).vs.toArray 43)) ∧ Blk (((w5.alloc (.cells #[.int .i64 1, .int .i64 tp, .slice none 0 0, .int .i64 0, .int .i64 0] 39)).alloc (.cells (slV [tp, tp, tp]).toArray 39)).alloc (.cells (fnH tp tp bt tp (w5.heap.size + 1) [tp, tp, tp] Ns.nl 1).vs.toArray 43)) (w5.heap.size + 1) (slV [tp, tp, tp]) 39 ∧ Blk (((w5.alloc (.cells #[.int .i64 1, .int .i64 tp, .slice none 0 0, .int .i64 0, .int .i64 0] 39)).alloc (.cells (slV [tp, tp, tp]).toArray 39)).alloc (.cells (fnH tp tp bt tp (w5.heap.size + 1) [tp, tp, tp] Ns.nl 1).vs.toArray 43)) (w5.heap.size + 1 + 1) (fnH tp tp bt tp (w5.heap.size + 1) [tp, tp, tp] Ns.nl 1).vs 43 ∧ w.heap.size < w5.heap.size from ⟨((HI5.out.kept bb1).kept bb2).kept bb3, by have h9 := (Blk.new (w5.alloc (.cells #[.int .i64 1, .int .i64 tp, .slice none 0 0, .int .i64 0, .int .i64 0] 39)) (slV [tp, tp, tp]) 39).kept bb3; rw [S1] at h9; exact h9, by have h9 := Blk.new ((w5.alloc (.cells #[.int .i64 1, .int .i64 tp, .slice none 0 0, .int .i64 0, .int .i64 0] 39)).alloc (.cells (slV [tp, tp, tp]).toArray 39)) (fnH tp tp bt tp (w5.heap.size + 1) [tp, tp, tp] Ns.nl 1).vs 43; rw [S2] at h9; exact h9, HI5.out.l.lt⟩)
  have hrn : (Instr.buildSlice 37 3 #[(0, .agg (leafT 1 (tp : Nat)).vs.toArray), (1, .agg (leafT 1 (tp : Nat)).vs.toArray), (2, .agg (leafT 1 (tp : Nat)).vs.toArray)]).run Try.prog (w5.alloc (.cells #[.int .i64 1, .int .i64 tp, .slice none 0 0, .int .i64 0, .int .i64 0] 39)) = .ok (.slice (some ⟨w5.heap.size + 1, 0, none⟩) 3 3) ((w5.alloc (.cells #[.int .i64 1, .int .i64 tp, .slice none 0 0, .int .i64 0, .int .i64 0] 39)).alloc (.cells (slV [tp, tp, tp]).toArray 39)) := by have h9 := run_slice3_tl tp tp tp (w5.alloc (.cells #[.int .i64 1, .int .i64 tp, .slice none 0 0, .int .i64 0, .int .i64 0] 39)); rw [S1] at h9; exact h9
  clear bb1 bb2 bb3 HI5
  go_upto_region 6 with (first | (refine wpList_slice rfl 37 3 #[(0, .tmp 44), (1, .tmp 45), (2, .tmp 46)] rfl #[(0, .agg (leafT 1 (tp : Nat)).vs.toArray), (1, .agg (leafT 1 (tp : Nat)).vs.toArray), (2, .agg (leafT 1 (tp : Nat)).vs.toArray)] (by kernel_rfl) hrn ?_) | (refine wpList_buildI rfl 43 #[(0, .tmp 40), (1, .tmp 41), (3, .tmp 42), (4, .tmp 43), (5, .tmp 47), (7, .const (.int .i64 1))] rfl _ (by kernel_rfl) (run_build_fnE tp tp bt tp (w5.heap.size + 1) _ (ls := [tp, tp, tp])) ?_) | (refine wpList_new_mid rfl rfl 43 rfl (.tmp 8) (.tmp 48) rfl zFv (alloc_fn _) rfl (fnH tp tp bt tp (w5.heap.size + 1) [tp, tp, tp] Ns.nl 1).vs.toArray (by kernel_rfl) (by kernel_rfl) rfl (by kernel_rfl) (by simpa using Fc.va_one _) ?_))
  rw [S2]
  clear S1 S2 hrn
  generalize (((w5.alloc (.cells #[.int .i64 1, .int .i64 tp, .slice none 0 0, .int .i64 0, .int .i64 0] 39)).alloc (.cells (slV [tp, tp, tp]).toArray 39)).alloc (.cells (fnH tp tp bt tp (w5.heap.size + 1) [tp, tp, tp] Ns.nl 1).vs.toArray 43)) = w6 at *
  simp only [Act.put, List.setIfInBounds_toArray, List.set_cons_succ, List.set_cons_zero]
  generalize hBS : w5.heap.size + 1 = BS at *
  generalize hBF : BS + 1 = BF at *
  have HLT := hid (show w.heap.size < BS ∧ BS < BF from ⟨by have := HJ.out.2.2.2; omega, by omega⟩)
  clear hBS hBF
  have HLN := hid (show (0 : Nat) ≤ 60 from by decide)
  have HJ0 := hid (show Hw w n g w6 ∧ Blk w6 BS (slV [tp, tp, tp]) 39 ∧ Blk w6 BF (fnH tp tp bt tp BS [tp, tp, tp] Ns.nl 1).vs 43 ∧ w6.ownsRow w.heap.size 46 14 (.slice none 0 0) 0 (bdV []) from ⟨HJ.out.1, HJ.out.2.1, HJ.out.2.2.1, World.ownsRow_nil _ _ _ _⟩)
  clear HJ
  have bb1 := below_alloc w6 (.cells (bdV [sN 3 1 0 0 0 tp]).toArray 46)
  have c14 := HJ0.out.2.2.1.cell 14 (v := .slice none 0 0) rfl
  have HM3 := hid (show Hw w n g (w6.alloc (.cells (bdV [sN 3 1 0 0 0 tp]).toArray 46)) ∧ Blk (w6.alloc (.cells (bdV [sN 3 1 0 0 0 tp]).toArray 46)) BS (slV [tp, tp, tp]) 39 ∧ Blk (w6.alloc (.cells (bdV [sN 3 1 0 0 0 tp]).toArray 46)) BF (fnH tp tp bt tp BS [tp, tp, tp] Ns.nl 1).vs 43 from ⟨HJ0.out.1.kept bb1, HJ0.out.2.1.kept bb1, HJ0.out.2.2.1.kept bb1⟩)
  have hnew := heap_alloc_new w6 (.cells (bdV [sN 3 1 0 0 0 tp]).toArray 46)
  have SZ2 : (w6.alloc (.cells (bdV [sN 3 1 0 0 0 tp]).toArray 46)).heap.size = w6.heap.size + 1 := alloc_size _ _
  obtain ⟨i0, hi, hz0, hz1, hz2⟩ := info_parts Try.infoNd
  have hown : (w6.alloc (.cells (bdV [sN 3 1 0 0 0 tp]).toArray 46)).ownsRow w.heap.size 46 14 (.slice none 0 0) 0 (bdV []) := eown_up HJ0.out.2.2.2 bb1
  have hbb : w.heap.size ≤ (w6.alloc (.cells (bdV [sN 3 1 0 0 0 tp]).toArray 46)).heap.size := HM3.out.1.bl.size
  have hnews : ∀ j u, (bdV [sN 3 1 0 0 0 tp])[j]? = some u → (w6.alloc (.cells (bdV [sN 3 1 0 0 0 tp]).toArray 46)).cell? ((⟨w6.heap.size, 0, none⟩ : Addr).add j) = some u := World.news_of_block (cs := (bdV [sN 3 1 0 0 0 tp]).toArray) (t := 46) (fr := (0, 0)) hnew
  have hone := bdV_one [sN 3 1 0 0 0 tp]
  clear bb1 hnew
  have hrn := run_slice1_nd (sN 3 1 0 0 0 tp) w6
  go_upto_region 7 with (first | (refine wpList_slice rfl 41 1 #[(0, .tmp 52)] rfl #[(0, .agg (sN 3 1 0 0 0 tp).vs.toArray)] (by kernel_rfl) hrn ?_) | (at_builtin; refine Stp.go ?_))
  unfold Stp
  refine wpList_append_lies _ rfl (.tmp 50) (.tmp 53) 41 rfl w.heap.size 46 i0 _ 14 176 Try.underlying41 hi hz0 hz1 hz2 rfl (by decide) (.slice none 0 0) (0) (bdV []) (by kernel_rfl) hown ⟨w6.heap.size, 0, none⟩ 1 1 (bdV [sN 3 1 0 0 0 tp]) (by kernel_rfl) rfl hnews hone (by decide) (by unfold maxLen; have := HLN.out; omega) (by have := HLN.out; omega) hbb (w6.heap.size + 1) SZ2 ?_
  intro gg cap3 w7 hown6 hgrow hat hltg
  have HBX := hid (apy (v14 := .slice none 0 0) hgrow HM3.out.1 HM3.out.2.1 HM3.out.2.2 (fun k hk => by cases hk) (show w.heap.size < BS ∧ BS < BF from HLT.out) hat SZ2 rfl)
  have HO6 := hid hown6
  obtain ⟨c14x, g14x⟩ := HBX.out.2.2.2.2
  clear hown6 hgrow hat hltg hown hnews hone hrn SZ2 hbb HM3 c14 hi hz0 hz1 hz2 HJ0
  simp only [Act.put, List.setIfInBounds_toArray, List.set_cons_succ, List.set_cons_zero]
  go_upto_region 7 with fail
  have W1 := wrote_setCell (i := 14) HBX.out.2.2.1 (.slice (some ⟨gg, 0, none⟩) (1) cap3)
  have HJ1 := hid (show Hw w n g (w7.setCell ⟨BF, 14, none⟩ (.slice (some ⟨gg, 0, none⟩) (1) cap3)) ∧ Blk (w7.setCell ⟨BF, 14, none⟩ (.slice (some ⟨gg, 0, none⟩) (1) cap3)) BS (slV [tp, tp, tp]) 39 ∧ Blk (w7.setCell ⟨BF, 14, none⟩ (.slice (some ⟨gg, 0, none⟩) (1) cap3)) BF (fnH tp tp bt tp BS [tp, tp, tp] (bdN gg cap3 (eb tp [])) 1).vs 43 ∧ (w7.setCell ⟨BF, 14, none⟩ (.slice (some ⟨gg, 0, none⟩) (1) cap3)).ownsRow w.heap.size 46 14 (.slice (some ⟨gg, 0, none⟩) (eb tp []).length cap3) (eb tp []).length (bdV (eb tp [])) ∧ BF < gg from ⟨⟨W1.below (by have := HLT.out; omega) HBX.out.1.bl, W1.keep HBX.out.1.l (by have := HLT.out; omega)⟩, W1.keep HBX.out.2.1 (by have := HLT.out; omega), W1.blk, eown_blk (by have := HO6.out; exact this) (fun q hq => W1.other q (by have h1 : gg = q := Option.some.inj hq; have h2 := HBX.out.2.2.2.1; omega)), HBX.out.2.2.2.1⟩)
  clear W1 c14x g14x HBX HO6 HLN
  generalize (w7.setCell ⟨BF, 14, none⟩ (.slice (some ⟨gg, 0, none⟩) (1) cap3)) = w8 at *
  have hnil : 0 < y.len → y.ao = some ⟨y.b, y.o, none⟩ := HH.out.2.2.nil
  generalize y.ao = yao at *
  go_wp2
  go_loopw [9, 10] (fun dv i wr => ∃ (k gg cap3 : Nat), k ≤ y.len ∧ i = .int .i64 k ∧ dv = .bool (dvB ((List.range k).map y.f)) ∧ (Hw w n g wr ∧ Blk wr BS (slV [tp, tp, tp]) 39 ∧ Blk wr BF (fnH tp tp bt tp BS [tp, tp, tp] (bdN gg cap3 (eb tp ((List.range k).map y.f))) 1).vs 43 ∧ wr.ownsRow w.heap.size 46 14 (.slice (some ⟨gg, 0, none⟩) (eb tp ((List.range k).map y.f)).length cap3) (eb tp ((List.range k).map y.f)).length (bdV (eb tp ((List.range k).map y.f)))) ∧ BF < gg) (fun _ i _ => y.len - (intOf i).toNat)
  case atStart => exact ⟨0, gg, cap3, Nat.zero_le _, rfl, rfl, ⟨HJ1.out.1, HJ1.out.2.1, HJ1.out.2.2.1, HJ1.out.2.2.2.1⟩, HJ1.out.2.2.2.2⟩
  case round =>
    clear HJ1
    obtain ⟨k, g1, c1, hk, rfl, rfl, hI, hgg⟩ := hrel
    obtain ⟨os, hos⟩ : ∃ os, os = (List.range k).map y.f := ⟨_, rfl⟩
    rw [← hos] at hI ⊢
    have HOS := hid (show os = (List.range k).map y.f ∧ os.length = k from ⟨hos, by rw [hos]; simp⟩)
    clear hos
    have HI := hid (show (Hw w n g wr ∧ Blk wr BS (slV [tp, tp, tp]) 39 ∧ Blk wr BF (fnH tp tp bt tp BS [tp, tp, tp] (bdN g1 c1 (eb tp os)) 1).vs 43 ∧ wr.ownsRow w.heap.size 46 14 (.slice (some ⟨g1, 0, none⟩) (eb tp os).length c1) (eb tp os).length (bdV (eb tp os))) ∧ BF < g1 from ⟨hI, hgg⟩)
    clear hI hgg
    by_cases hlt : k < y.len
    · have ij : (k : Int) < y.len := by omega
      have a0 := hnil (by omega)
      subst a0
      have HC := hid (show wr.cell? ⟨y.b, y.o + k, none⟩ = some (.int .u8 (y.f k)) ∧ y.f k < 256 from ⟨(HH.out.2.2.kept HI.out.1.1.bl).cell k hlt, HH.out.2.2.lt k hlt⟩)
      have HOK : Hid ((List.range (k + 1)).map y.f = os ++ [y.f k]) := by show _ = _; rw [List.range_succ, List.map_append, ← HOS.out.1]; rfl
      generalize y.f k = o at *
      go_upto_region 11 with fail
      have pc : ∀ x : Wd (fun q => Below wr.heap.size wr q), x.w.cell? ⟨y.b, y.o + k, none⟩ = some (.int .u8 o) := fun x => up x.2 HC.out.1
      have hNE : Nonempty (Wd (fun q => Below wr.heap.size wr q)) := ⟨⟨_, Below.refl _ _⟩⟩
      refine wp_region_readsPN (fun q => Below wr.heap.size wr q) [0, 1, 2, 3, 4, 5, 6, 7, 8, 9, 10, 11, 12, 13, 14, 15, 16] 2 (by kernel_rfl) rfl (by kernel_rfl) (hj_of (by kernel_rfl)) ((Below.refl _ _).drew) ?_
      simp only [List.filterMap, List.getElem?_cons_zero, List.getElem?_cons_succ]
      iterate 17 go_big_quiet_step (fail)
      refine wpQuiet_nil ?_
      clear pc hNE
      have HD := hid (show Below wr.heap.size wr wr.drew from (Below.refl _ _).drew)
      generalize wr.drew = v0 at *
      refine wpAnyH_ready (rs := [17]) (by kernel_rfl) (by simp) ?_
      refine AllReadyH.cons rfl (fun K hK => ?_) AllReadyH.nil
      rw [if_pos (by rfl)]
      refine wp_alloc_nd rfl ?_
      have HV := hid (show Below wr.heap.size wr (v0.alloc (.cells zNv.toArray 46)) ∧ Blk (v0.alloc (.cells zNv.toArray 46)) v0.heap.size zNv 46 ∧ wr.heap.size ≤ v0.heap.size from ⟨Below.next HD.out (below_alloc _ _), Blk.new v0 _ _, HD.out.size⟩)
      refine hK.out _ _ HV.out.1 (fun _ => ?_)
      clear hK K HD
      generalize (v0.alloc (.cells zNv.toArray 46)) = v1 at *
      generalize v0.heap.size = BN at *
      refine wpAnyH_ready (rs := [18]) (by kernel_rfl) (by simp) ?_
      refine AllReadyH.cons rfl (fun K hK => ?_) AllReadyH.nil
      rw [if_pos (by rfl)]
      refine wp_store_wrote' 46 (.tmp 11) (.tmp 78) rfl rfl BN (eN tp o).vs zNv (by kernel_rfl) (by kernel_rfl) (Nd.va_one _) HV.out.2.1 rfl (by kernel_rfl) ?_
      intro v2 W2
      have HW := hid (show Below wr.heap.size wr v2 ∧ Blk v2 BN (eN tp o).vs 46 from ⟨W2.below HV.out.2.2 HV.out.1, W2.blk⟩)
      refine hK.out _ _ HW.out.1 (fun _ => ?_)
      clear hK K W2 HV
      refine wpAnyH_done (by kernel_rfl) ?_ _
      refine ⟨(fun c hc => by cases hc), ?_⟩
      have HJL := hid (show (Hw w n g v2 ∧ Blk v2 BS (slV [tp, tp, tp]) 39 ∧ Blk v2 BF (fnH tp tp bt tp BS [tp, tp, tp] (bdN g1 c1 (eb tp os)) 1).vs 43 ∧ v2.ownsRow w.heap.size 46 14 (.slice (some ⟨g1, 0, none⟩) (eb tp os).length c1) (eb tp os).length (bdV (eb tp os)) ∧ BF < g1) ∧ Blk v2 BN (eN tp o).vs 46 from ⟨⟨HI.out.1.1.kept HW.out.1, HI.out.1.2.1.kept HW.out.1, HI.out.1.2.2.1.kept HW.out.1, eown_up HI.out.1.2.2.2 HW.out.1, HI.out.2⟩, HW.out.2⟩)
      clear HW HI
      simp only [Act.put, List.getElem_toArray, List.getElem_cons_zero, List.getElem_cons_succ, List.setIfInBounds_toArray, List.set_cons_succ, List.set_cons_zero]
      go_upto_region 12 with fail
      go_cut [9] (fun d wx => d = .bool (dvB (os ++ [o])) ∧ wx = v2)
      case first =>
        have c4 := HJL.out.2.cell 4 (v := .int .i64 (6 + (o % 5 : Nat))) rfl
        generalize hnn : (6 + ((o % 5 : Nat) : Int)) = nn at c4
        have HN9 : Hid (dvB (os ++ [o]) = (dvB os || decide ((9 : Int) ≤ nn))) := by show _ = _; rw [← hnn]; unfold dvB; rw [List.any_append]; congr 1; simp only [List.any_cons, List.any_nil, Bool.or_false]; rw [decide_eq_decide]; omega
        clear hnn
        generalize dvB os = dd at *
        cases dd
        · go_wp2
          go_meet
          case rel => exact ⟨by rw [HN9.out]; rfl, rfl⟩
        · go_wp2
          go_meet
          case rel => exact ⟨by rw [HN9.out]; rfl, rfl⟩
      case rest =>
        obtain ⟨rfl, rfl⟩ := hcut
        have HLN := hid (show (eb tp os).length ≤ 61 from by have h1 := HOS.out.2; have h2 := HL.out; unfold eb; simp; omega)
        have HJA := hid HJL.out.1
        have bN := HJL.out.2
        clear HJL
        have bb1 := below_alloc wc (.cells (bdV [eN tp o]).toArray 46)
        have c14 := HJA.out.2.2.1.cell 14 (v := .slice (some ⟨g1, 0, none⟩) (eb tp os).length c1) rfl
        have HM3 := hid (show Hw w n g (wc.alloc (.cells (bdV [eN tp o]).toArray 46)) ∧ Blk (wc.alloc (.cells (bdV [eN tp o]).toArray 46)) BS (slV [tp, tp, tp]) 39 ∧ Blk (wc.alloc (.cells (bdV [eN tp o]).toArray 46)) BF (fnH tp tp bt tp BS [tp, tp, tp] (bdN g1 c1 (eb tp os)) 1).vs 43 from ⟨HJA.out.1.kept bb1, HJA.out.2.1.kept bb1, HJA.out.2.2.1.kept bb1⟩)
        have hnew := heap_alloc_new wc (.cells (bdV [eN tp o]).toArray 46)
        have SZ2 : (wc.alloc (.cells (bdV [eN tp o]).toArray 46)).heap.size = wc.heap.size + 1 := alloc_size _ _
        obtain ⟨i0, hi, hz0, hz1, hz2⟩ := info_parts Try.infoNd
        have hown : (wc.alloc (.cells (bdV [eN tp o]).toArray 46)).ownsRow w.heap.size 46 14 (.slice (some ⟨g1, 0, none⟩) (eb tp os).length c1) (eb tp os).length (bdV (eb tp os)) := eown_up HJA.out.2.2.2.1 bb1
        have hbb : w.heap.size ≤ (wc.alloc (.cells (bdV [eN tp o]).toArray 46)).heap.size := HM3.out.1.bl.size
        have hnews : ∀ j u, (bdV [eN tp o])[j]? = some u → (wc.alloc (.cells (bdV [eN tp o]).toArray 46)).cell? ((⟨wc.heap.size, 0, none⟩ : Addr).add j) = some u := World.news_of_block (cs := (bdV [eN tp o]).toArray) (t := 46) (fr := (0, 0)) hnew
        have hone := bdV_one [eN tp o]
        clear bb1 hnew
        have hrn := run_slice1_nd (eN tp o) wc
        go_upto_region 10 with (first | (refine wpList_slice rfl 41 1 #[(0, .tmp 87)] rfl #[(0, .agg (eN tp o).vs.toArray)] (by kernel_rfl) hrn ?_) | (refine wpList_load_mid rfl 46 (.tmp 11) rfl BN 0 (by kernel_rfl) (eN tp o).vs _ bN.range Try.underlying46 rfl (by kernel_rfl) ?_) | (at_builtin; refine Stp.go ?_))
        unfold Stp
        refine wpList_append_lies _ rfl (.tmp 86) (.tmp 88) 41 rfl w.heap.size 46 i0 _ 14 176 Try.underlying41 hi hz0 hz1 hz2 rfl (by decide) (.slice (some ⟨g1, 0, none⟩) (eb tp os).length c1) ((eb tp os).length) (bdV (eb tp os)) (by kernel_rfl) hown ⟨wc.heap.size, 0, none⟩ 1 1 (bdV [eN tp o]) (by kernel_rfl) rfl hnews hone (by decide) (by unfold maxLen; have := HLN.out; omega) (by have := HLN.out; omega) hbb (wc.heap.size + 1) SZ2 ?_
        intro g2 c2 v3 hown6 hgrow hat hltg
        have HBX := hid (apy (v14 := .slice (some ⟨g1, 0, none⟩) (eb tp os).length c1) hgrow HM3.out.1 HM3.out.2.1 HM3.out.2.2 (fun k hk => by have h1 : g1 = k := Option.some.inj hk; have h2 := HJA.out.2.2.2.2; omega) (show w.heap.size < BS ∧ BS < BF from HLT.out) hat SZ2 rfl)
        have HO6 := hid hown6
        obtain ⟨c14x, g14x⟩ := HBX.out.2.2.2.2
        clear hown6 hgrow hat hltg hown hnews hone hrn SZ2 hbb HM3 c14 hi hz0 hz1 hz2 HJA
        simp only [Act.put, List.setIfInBounds_toArray, List.set_cons_succ, List.set_cons_zero]
        clear bN
        go_upto_region 10 with fail
        have W1 := wrote_setCell (i := 14) HBX.out.2.2.1 (.slice (some ⟨g2, 0, none⟩) ((eb tp os).length + 1) c2)
        have HJ3 := hid (show Hw w n g (v3.setCell ⟨BF, 14, none⟩ (.slice (some ⟨g2, 0, none⟩) ((eb tp os).length + 1) c2)) ∧ Blk (v3.setCell ⟨BF, 14, none⟩ (.slice (some ⟨g2, 0, none⟩) ((eb tp os).length + 1) c2)) BS (slV [tp, tp, tp]) 39 ∧ Blk (v3.setCell ⟨BF, 14, none⟩ (.slice (some ⟨g2, 0, none⟩) ((eb tp os).length + 1) c2)) BF (fnH tp tp bt tp BS [tp, tp, tp] (bdN g2 c2 (eb tp (os ++ [o]))) 1).vs 43 ∧ (v3.setCell ⟨BF, 14, none⟩ (.slice (some ⟨g2, 0, none⟩) ((eb tp os).length + 1) c2)).ownsRow w.heap.size 46 14 (.slice (some ⟨g2, 0, none⟩) (eb tp (os ++ [o])).length c2) (eb tp (os ++ [o])).length (bdV (eb tp (os ++ [o]))) ∧ BF < g2 from ⟨⟨W1.below (by have := HLT.out; omega) HBX.out.1.bl, W1.keep HBX.out.1.l (by have := HLT.out; omega)⟩, W1.keep HBX.out.2.1 (by have := HLT.out; omega), by have h9 := W1.blk; rw [show (eb tp os).length + 1 = (eb tp (os ++ [o])).length from (eb_len tp os o).symm] at h9 ⊢; exact h9, eown_blk (by have h9 := HO6.out; rw [show (eb tp os).length + 1 = (eb tp (os ++ [o])).length from (eb_len tp os o).symm, eb_bd] at h9; exact h9) (fun q hq => W1.other q (by have h1 : g2 = q := Option.some.inj hq; have h2 := HBX.out.2.2.2.1; omega)), HBX.out.2.2.2.1⟩)
        clear W1 c14x g14x HBX HO6 HLN
        generalize (v3.setCell ⟨BF, 14, none⟩ (.slice (some ⟨g2, 0, none⟩) ((eb tp os).length + 1) c2)) = v4 at *
        go_wp2
        go_roundw
        case rel =>
          refine ⟨_, _, _, _, _, _, _, _, _, _, _, _, _, _, _, _, _, _, _, _, _, _, _, _, _, _, _, _, _, _, _, _, _, _, _, _, _, _, ?_, rfl⟩
          exact ⟨k + 1, g2, c2, by omega, by go_num, by rw [HOK.out], by rw [HOK.out]; exact ⟨HJ3.out.1, HJ3.out.2.1, HJ3.out.2.2.1, HJ3.out.2.2.2.1⟩, HJ3.out.2.2.2.2⟩
        case measure => simp [intOf]; omega
    · have e2 : k = y.len := by omega
      have d : ¬ (k : Int) < y.len := by omega
      have HJL := hid (show Hw w n g wr ∧ Blk wr BS (slV [tp, tp, tp]) 39 ∧ Blk wr BF (fnH tp tp bt tp BS [tp, tp, tp] (bdN g1 c1 (eb tp os)) 1).vs 43 ∧ wr.ownsRow w.heap.size 46 14 (.slice (some ⟨g1, 0, none⟩) (eb tp os).length c1) (eb tp os).length (bdV (eb tp os)) ∧ BF < g1 from ⟨HI.out.1.1, HI.out.1.2.1, HI.out.1.2.2.1, HI.out.1.2.2.2, HI.out.2⟩)
      have HOL := hid (show os.length ≤ 60 from by have h1 := HOS.out.2; have h2 := HL.out; omega)
      clear HI e2
      have bb1 := below_alloc wr (.cells (fnH tp tp bt tp BS [tp, tp, tp] (bdN g1 c1 (eb tp os)) 1).vs.toArray 43)
      have hC := Check_str n g (fl1 wr.heap.size (fnH tp tp bt tp BS [tp, tp, tp] (bdN g1 c1 (eb tp os)) 1)) (wr.alloc (.cells (fnH tp tp bt tp BS [tp, tp, tp] (bdN g1 c1 (eb tp os)) 1).vs.toArray 43)) ((HH.out.1.kept HJL.out.1.bl).kept bb1) ((HH.out.2.1.kept HJL.out.1.bl).kept bb1) (fl1_at (fnH_at (HJL.out.2.1.kept bb1) (by show 3 ≤ 1000; decide) (bdN_at (eown_up HJL.out.2.2.2.1 bb1) (by have := HOL.out; unfold eb; simp; omega) eb_mem)) (Blk.new wr _ _)) (fun i _ => Nat.zero_le _) (fun k _ i hi => bd_ops (eb_ops) i hi)
      have HJc := hid (show Hw w n g (wr.alloc (.cells (fnH tp tp bt tp BS [tp, tp, tp] (bdN g1 c1 (eb tp os)) 1).vs.toArray 43)) ∧ Blk (wr.alloc (.cells (fnH tp tp bt tp BS [tp, tp, tp] (bdN g1 c1 (eb tp os)) 1).vs.toArray 43)) BS (slV [tp, tp, tp]) 39 ∧ Blk (wr.alloc (.cells (fnH tp tp bt tp BS [tp, tp, tp] (bdN g1 c1 (eb tp os)) 1).vs.toArray 43)) BF (fnH tp tp bt tp BS [tp, tp, tp] (bdN g1 c1 (eb tp os)) 1).vs 43 ∧ (wr.alloc (.cells (fnH tp tp bt tp BS [tp, tp, tp] (bdN g1 c1 (eb tp os)) 1).vs.toArray 43)).ownsRow w.heap.size 46 14 (.slice (some ⟨g1, 0, none⟩) (eb tp os).length c1) (eb tp os).length (bdV (eb tp os)) ∧ BF < g1 from ⟨HJL.out.1.kept bb1, HJL.out.2.1.kept bb1, HJL.out.2.2.1.kept bb1, eown_up HJL.out.2.2.2.1 bb1, HJL.out.2.2.2.2⟩)
      have e0 := HJL.out.1.l.cell 0 rfl
      have e1 := HJL.out.1.l.cell 1 rfl
      have bF := HJL.out.2.2.1
      have hrn := run_slice1_fn (fnH tp tp bt tp BS [tp, tp, tp] (bdN g1 c1 (eb tp os)) 1) wr
      clear bb1
      go_wp2_with (first | (refine wpList_load_mid rfl 43 (.tmp 8) rfl BF 0 (by kernel_rfl) (fnH tp tp bt tp BS [tp, tp, tp] (bdN g1 c1 (eb tp os)) 1).vs _ bF.range Try.underlying43 rfl (by kernel_rfl) ?_) | (refine wpList_slice rfl 26 1 #[(0, .tmp 93)] rfl #[(0, .agg (fnH tp tp bt tp BS [tp, tp, tp] (bdN g1 c1 (eb tp os)) 1).vs.toArray)] (by kernel_rfl) hrn ?_))
      refine Calls.mono hC ?_
      rintro _ v1 ⟨ra, rb, rfl, hR, hb⟩
      have HJ5 := hid (show Hw w n g v1 ∧ Blk v1 BS (slV [tp, tp, tp]) 39 ∧ Blk v1 BF (fnH tp tp bt tp BS [tp, tp, tp] (bdN g1 c1 (eb tp os)) 1).vs 43 ∧ v1.ownsRow w.heap.size 46 14 (.slice (some ⟨g1, 0, none⟩) (eb tp os).length c1) (eb tp os).length (bdV (eb tp os)) ∧ BF < g1 from ⟨HJc.out.1.kept hb, HJc.out.2.1.kept hb, HJc.out.2.2.1.kept hb, eown_up HJc.out.2.2.2.1 hb, HJc.out.2.2.2.2⟩)
      have HY1 := hid (HX.out.yes HOL.out hR)
      clear hC HJc e0 e1 bF hrn hb hR HJL
      have HY1e := hid HY1.out
      clear HY1
      generalize rb = y1 at *
      obtain rfl := HY1e.out
      clear HY1e
      have HLN := hid (show (eb tp os).length ≤ 61 from by have := HOL.out; unfold eb; simp; omega)
      have bb1 := below_alloc v1 (.cells (bdV [sN 1 1 0 0 0 bt]).toArray 46)
      have c14 := HJ5.out.2.2.1.cell 14 (v := .slice (some ⟨g1, 0, none⟩) (eb tp os).length c1) rfl
      have HM3 := hid (show Hw w n g (v1.alloc (.cells (bdV [sN 1 1 0 0 0 bt]).toArray 46)) ∧ Blk (v1.alloc (.cells (bdV [sN 1 1 0 0 0 bt]).toArray 46)) BS (slV [tp, tp, tp]) 39 ∧ Blk (v1.alloc (.cells (bdV [sN 1 1 0 0 0 bt]).toArray 46)) BF (fnH tp tp bt tp BS [tp, tp, tp] (bdN g1 c1 (eb tp os)) 1).vs 43 from ⟨HJ5.out.1.kept bb1, HJ5.out.2.1.kept bb1, HJ5.out.2.2.1.kept bb1⟩)
      have hnew := heap_alloc_new v1 (.cells (bdV [sN 1 1 0 0 0 bt]).toArray 46)
      have SZ2 : (v1.alloc (.cells (bdV [sN 1 1 0 0 0 bt]).toArray 46)).heap.size = v1.heap.size + 1 := alloc_size _ _
      obtain ⟨i0, hi, hz0, hz1, hz2⟩ := info_parts Try.infoNd
      have hown : (v1.alloc (.cells (bdV [sN 1 1 0 0 0 bt]).toArray 46)).ownsRow w.heap.size 46 14 (.slice (some ⟨g1, 0, none⟩) (eb tp os).length c1) (eb tp os).length (bdV (eb tp os)) := eown_up HJ5.out.2.2.2.1 bb1
      have hbb : w.heap.size ≤ (v1.alloc (.cells (bdV [sN 1 1 0 0 0 bt]).toArray 46)).heap.size := HM3.out.1.bl.size
      have hnews : ∀ j u, (bdV [sN 1 1 0 0 0 bt])[j]? = some u → (v1.alloc (.cells (bdV [sN 1 1 0 0 0 bt]).toArray 46)).cell? ((⟨v1.heap.size, 0, none⟩ : Addr).add j) = some u := World.news_of_block (cs := (bdV [sN 1 1 0 0 0 bt]).toArray) (t := 46) (fr := (0, 0)) hnew
      have hone := bdV_one [sN 1 1 0 0 0 bt]
      clear bb1 hnew
      have hrn := run_slice1_nd (sN 1 1 0 0 0 bt) v1
      go_upto_region 16 with (first | (refine wpList_slice rfl 41 1 #[(0, .tmp 101)] rfl #[(0, .agg (sN 1 1 0 0 0 bt).vs.toArray)] (by kernel_rfl) hrn ?_) | (at_builtin; refine Stp.go ?_))
      unfold Stp
      refine wpList_append_lies _ rfl (.tmp 99) (.tmp 102) 41 rfl w.heap.size 46 i0 _ 14 176 Try.underlying41 hi hz0 hz1 hz2 rfl (by decide) (.slice (some ⟨g1, 0, none⟩) (eb tp os).length c1) ((eb tp os).length) (bdV (eb tp os)) (by kernel_rfl) hown ⟨v1.heap.size, 0, none⟩ 1 1 (bdV [sN 1 1 0 0 0 bt]) (by kernel_rfl) rfl hnews hone (by decide) (by unfold maxLen; have := HLN.out; omega) (by have := HLN.out; omega) hbb (v1.heap.size + 1) SZ2 ?_
      intro g2 c2 v3 hown6 hgrow hat hltg
      have HBX := hid (apy (v14 := .slice (some ⟨g1, 0, none⟩) (eb tp os).length c1) hgrow HM3.out.1 HM3.out.2.1 HM3.out.2.2 (fun k hk => by have h1 : g1 = k := Option.some.inj hk; have h2 := HJ5.out.2.2.2.2; omega) (show w.heap.size < BS ∧ BS < BF from HLT.out) hat SZ2 rfl)
      have HO6 := hid hown6
      obtain ⟨c14x, g14x⟩ := HBX.out.2.2.2.2
      clear hown6 hgrow hat hltg hown hnews hone hrn SZ2 hbb HM3 c14 hi hz0 hz1 hz2 HJ5
      simp only [Act.put, List.setIfInBounds_toArray, List.set_cons_succ, List.set_cons_zero]
      go_upto_region 16 with fail
      have W1 := wrote_setCell (i := 14) HBX.out.2.2.1 (.slice (some ⟨g2, 0, none⟩) ((eb tp os).length + 1) c2)
      have HJ6 := hid (show Hw w n g (v3.setCell ⟨BF, 14, none⟩ (.slice (some ⟨g2, 0, none⟩) ((eb tp os).length + 1) c2)) ∧ Blk (v3.setCell ⟨BF, 14, none⟩ (.slice (some ⟨g2, 0, none⟩) ((eb tp os).length + 1) c2)) BS (slV [tp, tp, tp]) 39 ∧ Blk (v3.setCell ⟨BF, 14, none⟩ (.slice (some ⟨g2, 0, none⟩) ((eb tp os).length + 1) c2)) BF (fnH tp tp bt tp BS [tp, tp, tp] (bdN g2 c2 (eb tp os ++ [sN 1 1 0 0 0 bt])) 1).vs 43 ∧ (v3.setCell ⟨BF, 14, none⟩ (.slice (some ⟨g2, 0, none⟩) ((eb tp os).length + 1) c2)).ownsRow w.heap.size 46 14 (.slice (some ⟨g2, 0, none⟩) (eb tp os ++ [sN 1 1 0 0 0 bt]).length c2) (eb tp os ++ [sN 1 1 0 0 0 bt]).length (bdV (eb tp os ++ [sN 1 1 0 0 0 bt])) ∧ BF < g2 from ⟨⟨W1.below (by have := HLT.out; omega) HBX.out.1.bl, W1.keep HBX.out.1.l (by have := HLT.out; omega)⟩, W1.keep HBX.out.2.1 (by have := HLT.out; omega), by have h9 := W1.blk; rw [show (eb tp os).length + 1 = (eb tp os ++ [sN 1 1 0 0 0 bt]).length from by simp] at h9 ⊢; exact h9, eown_blk (by have h9 := HO6.out; rw [show (eb tp os).length + 1 = (eb tp os ++ [sN 1 1 0 0 0 bt]).length from by simp, ← bdV_app] at h9; exact h9) (fun q hq => W1.other q (by have h1 : g2 = q := Option.some.inj hq; have h2 := HBX.out.2.2.2.1; omega)), HBX.out.2.2.2.1⟩)
      clear W1 c14x g14x HBX HO6 HLN
      generalize (v3.setCell ⟨BF, 14, none⟩ (.slice (some ⟨g2, 0, none⟩) ((eb tp os).length + 1) c2)) = v4 at *
      have bb1 := below_alloc v4 (.cells (fnH tp tp bt tp BS [tp, tp, tp] (bdN g2 c2 (eb tp os ++ [sN 1 1 0 0 0 bt])) 1).vs.toArray 43)
      have hC := Check_str n g (fl1 v4.heap.size (fnH tp tp bt tp BS [tp, tp, tp] (bdN g2 c2 (eb tp os ++ [sN 1 1 0 0 0 bt])) 1)) (v4.alloc (.cells (fnH tp tp bt tp BS [tp, tp, tp] (bdN g2 c2 (eb tp os ++ [sN 1 1 0 0 0 bt])) 1).vs.toArray 43)) ((HH.out.1.kept HJ6.out.1.bl).kept bb1) ((HH.out.2.1.kept HJ6.out.1.bl).kept bb1) (fl1_at (fnH_at (HJ6.out.2.1.kept bb1) (by show 3 ≤ 1000; decide) (bdN_at (eown_up HJ6.out.2.2.2.1 bb1) (by have := HOL.out; unfold eb; simp; omega) ebs_mem)) (Blk.new v4 _ _)) (fun i _ => Nat.zero_le _) (fun k _ i hi => bd_ops (ebs_ops) i hi)
      have HJc := hid (show Hw w n g (v4.alloc (.cells (fnH tp tp bt tp BS [tp, tp, tp] (bdN g2 c2 (eb tp os ++ [sN 1 1 0 0 0 bt])) 1).vs.toArray 43)) ∧ Blk (v4.alloc (.cells (fnH tp tp bt tp BS [tp, tp, tp] (bdN g2 c2 (eb tp os ++ [sN 1 1 0 0 0 bt])) 1).vs.toArray 43)) BS (slV [tp, tp, tp]) 39 ∧ Blk (v4.alloc (.cells (fnH tp tp bt tp BS [tp, tp, tp] (bdN g2 c2 (eb tp os ++ [sN 1 1 0 0 0 bt])) 1).vs.toArray 43)) BF (fnH tp tp bt tp BS [tp, tp, tp] (bdN g2 c2 (eb tp os ++ [sN 1 1 0 0 0 bt])) 1).vs 43 ∧ (v4.alloc (.cells (fnH tp tp bt tp BS [tp, tp, tp] (bdN g2 c2 (eb tp os ++ [sN 1 1 0 0 0 bt])) 1).vs.toArray 43)).ownsRow w.heap.size 46 14 (.slice (some ⟨g2, 0, none⟩) (eb tp os ++ [sN 1 1 0 0 0 bt]).length c2) (eb tp os ++ [sN 1 1 0 0 0 bt]).length (bdV (eb tp os ++ [sN 1 1 0 0 0 bt])) ∧ BF < g2 from ⟨HJ6.out.1.kept bb1, HJ6.out.2.1.kept bb1, HJ6.out.2.2.1.kept bb1, eown_up HJ6.out.2.2.2.1 bb1, HJ6.out.2.2.2.2⟩)
      have e0 := HJ6.out.1.l.cell 0 rfl
      have e1 := HJ6.out.1.l.cell 1 rfl
      have bF := HJ6.out.2.2.1
      have hrn := run_slice1_fn (fnH tp tp bt tp BS [tp, tp, tp] (bdN g2 c2 (eb tp os ++ [sN 1 1 0 0 0 bt])) 1) v4
      clear bb1
      go_wp2_with (first | (refine wpList_load_mid rfl 43 (.tmp 8) rfl BF 0 (by kernel_rfl) (fnH tp tp bt tp BS [tp, tp, tp] (bdN g2 c2 (eb tp os ++ [sN 1 1 0 0 0 bt])) 1).vs _ bF.range Try.underlying43 rfl (by kernel_rfl) ?_) | (refine wpList_slice rfl 26 1 #[(0, .tmp 107)] rfl #[(0, .agg (fnH tp tp bt tp BS [tp, tp, tp] (bdN g2 c2 (eb tp os ++ [sN 1 1 0 0 0 bt])) 1).vs.toArray)] (by kernel_rfl) hrn ?_))
      refine Calls.mono hC ?_
      rintro _ v5 ⟨ra, rb, rfl, hR, hb⟩
      have HJ7 := hid (show Hw w n g v5 ∧ Blk v5 BS (slV [tp, tp, tp]) 39 ∧ Blk v5 BF (fnH tp tp bt tp BS [tp, tp, tp] (bdN g2 c2 (eb tp os ++ [sN 1 1 0 0 0 bt])) 1).vs 43 ∧ v5.ownsRow w.heap.size 46 14 (.slice (some ⟨g2, 0, none⟩) (eb tp os ++ [sN 1 1 0 0 0 bt]).length c2) (eb tp os ++ [sN 1 1 0 0 0 bt]).length (bdV (eb tp os ++ [sN 1 1 0 0 0 bt])) ∧ BF < g2 from ⟨HJc.out.1.kept hb, HJc.out.2.1.kept hb, HJc.out.2.2.1.kept hb, eown_up HJc.out.2.2.2.1 hb, HJc.out.2.2.2.2⟩)
      have HY2 := hid (HX.out.two HOL.out hR)
      clear hC HJc e0 e1 bF hrn hb hR HJ6
      have HY2a := HY2.out.1
      have HY2b := HY2.out.2
      subst HY2a
      clear HY2
      generalize hqq : dvB os = dd at *
      generalize hbb : ((bt : Int) == tp) = ee at *
      clear hqq
      cases dd
      all_goals cases ee
      all_goals go_wp2
      all_goals go_ret
      all_goals exact ⟨rfl, HJ7.out.1.bl⟩
end Go.Proofs.Ytcnepnhbfleegaa

/- A lattice that comes in, opened into its names and its table. -/
namespace Go.Proofs.Ytcnepnhbfleegaa
open Go.ChangeShapes Go.WideShapes Go.ChangeAt Go.RowKit Go.Deep Go.Joins

theorem Try.own : ownKnob Try.prog.godebug = none := by kernel_rfl
theorem Try.laidOut : laidOutB Try.prog = true := by kernel_rfl
theorem Try.cellsString : Try.prog.cellsOf 9 = 1 := by kernel_rfl
theorem Try.cellsBool : Try.prog.cellsOf 4 = 1 := by kernel_rfl
theorem Try.cellsRow : Try.prog.cellsOf 58 = 1 := by kernel_rfl
theorem Try.cellsLat : Try.prog.cellsOf 25 = 2 := by kernel_rfl
theorem addr_plain (b off i : Nat) : (⟨b, off, none⟩ : Addr).add i = ⟨b, off + i, none⟩ := by unfold Addr.add; split <;> simp_all

section
variable {H : Type} {enc : TypeId × Value → H} {W : World} {base : Nat}

set_option maxRecDepth 100000 in
theorem open_strs {fuel : Nat} {v : Value} {x : DataW H × List MemPlace} (h : DataW.trod enc Try.prog W base (fun _ => true) true fuel 22 [v] = some x) :
    ∃ n : Strs, v = .slice n.ao n.len n.cap ∧ n.At W := by
  rcases open_strings Try.underlying22 Try.underlying9 Try.cellsString h with ⟨hcs, _⟩ | ⟨a, len, cap, ss, hcs, _, hl, hm, hz, _, hcell, hws⟩
  · exact ⟨⟨none, 0, 0, 0, 0, fun _ => ByteArray.empty⟩, by simpa using hcs, ⟨Nat.le_refl _, fun h => absurd h (Nat.lt_irrefl _), Nat.zero_le _, fun _ h => absurd h (Nat.not_lt_zero _), fun _ h => absurd h (Nat.not_lt_zero _)⟩⟩
  · have hv : v = .slice (some a) len cap := by simpa using hcs
    simp only [if_true] at hz
    unfold maxLen at hm hws
    refine ⟨⟨some a, a.block, a.off, len, cap, fun i => ss.getD i ByteArray.empty⟩, hv, ⟨hl, fun hp => ?_, Nat.le_trans hl hm, fun i hi => ?_, fun i hi => ?_⟩⟩
    · have hp' : 0 < len := hp
      have hs := World.cell?_spot (hcell 0 (by omega))
      obtain ⟨ab, ao, asp⟩ := a
      have : asp = none := by simpa [Addr.add] using hs
      subst this; rfl
    · have hi' : i < len := hi
      have hs := World.cell?_spot (hcell 0 (by omega))
      obtain ⟨ab, ao, asp⟩ := a
      have : asp = none := by simpa [Addr.add] using hs
      subst this
      have := hcell i (by omega)
      rw [addr_plain] at this
      exact this
    · have hi' : i < len := hi
      have hmem : ss.getD i ByteArray.empty ∈ ss := by
        rw [List.getD_eq_getElem?_getD, List.getElem?_eq_getElem (by omega)]
        exact List.getElem_mem _
      exact hws _ hmem

set_option maxRecDepth 100000 in
theorem open_grid {fuel : Nat} {v : Value} {x : DataW H × List MemPlace} (h : DataW.trod enc Try.prog W base (fun _ => true) true fuel 23 [v] = some x) :
    ∃ g : Grid, v = .slice g.ao g.len g.cap ∧ g.At W := by
  rcases open_bool_rows Try.underlying23 Try.underlying58 Try.underlying4 Try.cellsRow Try.cellsBool h with ⟨hcs, _⟩ | ⟨a, len, cap, A, L, C, B, hcs, _, hl, hm, _, hrows⟩
  · exact ⟨⟨none, 0, 0, 0, 0, fun _ => none, fun _ => 0, fun _ => 0, fun _ => 0, fun _ => 0, fun _ _ => false⟩, by simpa using hcs,
      ⟨Nat.le_refl _, fun h => absurd h (Nat.lt_irrefl _), Nat.zero_le _, fun _ h => absurd h (Nat.not_lt_zero _), fun _ h => absurd h (Nat.not_lt_zero _), fun _ h => absurd h (Nat.not_lt_zero _), fun _ h => absurd h (Nat.not_lt_zero _)⟩⟩
  · have hv : v = .slice (some a) len cap := by simpa using hcs
    unfold maxLen at hm
    have hadr : ∀ r, r < len → 0 < L r → A r = some ⟨((A r).getD default).block, ((A r).getD default).off, none⟩ ∧ ∀ c, c < L r → W.cell? ⟨((A r).getD default).block, ((A r).getD default).off + c, none⟩ = some (.bool (B r c)) := fun r hr hp => by
      obtain ⟨_, h1, _, h3, h4⟩ := hrows r (by omega)
      cases hA : A r with
      | none => have := h3 hA; omega
      | some a' =>
        obtain ⟨ab, ao, asp⟩ := a'
        obtain ⟨_, hcell⟩ := h4 _ hA
        have has : asp = none := by simpa [Addr.add] using World.cell?_spot (hcell 0 (by omega))
        subst has
        exact ⟨rfl, fun c hc => by have := hcell c (by omega); rwa [addr_plain] at this⟩
    have hspot : 0 < len → a = ⟨a.block, a.off, none⟩ := fun hp => by
      have hs := World.cell?_spot (hrows 0 (by omega)).1
      obtain ⟨ab, ao, asp⟩ := a
      have : asp = none := by simpa [Addr.add] using hs
      subst this; rfl
    refine ⟨⟨some a, a.block, a.off, len, cap, A, L, C, fun r => ((A r).getD default).block, fun r => ((A r).getD default).off, B⟩, hv, ⟨hl, fun hp => congrArg some (hspot hp), Nat.le_trans hl hm, fun r hr => ?_, fun r hr => ?_, fun r hr hp => (hadr r hr hp).1, fun r hr c hc => (hadr r hr (Nat.lt_of_le_of_lt (Nat.zero_le _) hc)).2 c hc⟩⟩
    · have hr' : r < len := hr
      obtain ⟨_, h1, h2, _⟩ := hrows r (by omega)
      unfold maxLen at h2
      exact Nat.le_trans h1 h2
    · have hr' : r < len := hr
      have := (hrows r (by omega)).1
      rw [hspot (by omega), addr_plain] at this
      exact this

set_option maxRecDepth 100000 in
theorem open_lat {v : Value} {d : DataW H} {p : List MemPlace} {b0 : Nat} (hv : Value.okWide Try.prog W .any b0 25 v) (h : DataW.Trod enc Try.prog W base (fun _ => true) true 25 v d p) :
    ∃ (n : Strs) (g : Grid), v = .agg #[.slice n.ao n.len n.cap, .slice g.ao g.len g.cap] ∧ n.At W ∧ g.At W := by
  obtain ⟨c0, c1, y0, y1, m, rfl, _, _, hy0, hy1⟩ := open_agg2 Try.underlying25 (by kernel_rfl) Try.cellsLat hv h
  obtain ⟨n, rfl, hn⟩ := open_strs hy0
  obtain ⟨g, rfl, hg⟩ := open_grid hy1
  exact ⟨n, g, rfl, hn, hg⟩
end
end Go.Proofs.Ytcnepnhbfleegaa
