/- Layer 10: the statement IrHigh, walked. -/
import Derived.Test.YtcnepnhbfleegaaP25
import Derived.Test.YtcnepnhbfleegaaP7
import Derived.Laws.OwnMore
import Derived.Test.YtcnepnhbfleegaaP15
namespace Go.Proofs.Ytcnepnhbfleegaa
open Go Go.RowKit

structure Hw (w : World) (n : Strs) (g : Grid) (u : World) : Prop where
  bl : Below w.heap.size w u
  l : Blk u w.heap.size [.slice n.ao n.len n.cap, .slice g.ao g.len g.cap] 25
theorem Hw.kept {w : World} {n : Strs} {g : Grid} {u u' : World} (h : Hw w n g u) (hb : Below u.heap.size u u') : Hw w n g u' := ⟨Below.next h.bl hb, h.l.kept hb⟩

def Stp (p : Prop) : Prop := p
theorem Stp.go {p : Prop} (h : Stp p) : p := h
theorem ap_belI {w0 a b : World} {r : Option Nat} (h : Below w0.heap.size w0 a) (hg : a.grownBy b r) (hr : ∀ k, r = some k → w0.heap.size ≤ k) : Below w0.heap.size w0 b := by
  have hs := h.size
  refine ⟨hg.os.trans h.os, hg.tape.trans h.tape, hg.output.trans h.output, Nat.le_trans h.size hg.size, fun k hk => ?_⟩
  rw [hg.block k (by omega) (fun e => by have := hr k e.symm; omega)]
  exact h.block k hk
theorem blk_grown {w w' : World} {B R : Nat} {c : List Value} {t : TypeId} (h : Blk w B c t) (hg : w.grownBy w' (some R)) (hne : B ≠ R) : Blk w' B c t := by
  unfold Blk; rw [hg.block B h.lt (fun e => hne (Option.some.inj e))]; exact h
theorem apx {w u u' : World} {n : Strs} {g : Grid} {c sl : List Value} {BF B2 BB gg H : Nat} {X : Prop} {v14 : Value} (hgrow : u.grownBy u' (some BB)) (h : (Hw w n g u ∧ Blk u BF c 43 ∧ X) ∧ Blk u B2 sl 39 ∧ BF < B2 ∧ BF < BB ∧ BB < B2) (hw : w.heap.size < BF) (hat : (some BB = some gg ∨ gg = H)) (hH : u.heap.size = H) (h14 : c[14]? = some v14) :
    Hw w n g u' ∧ Blk u' BF c 43 ∧ Blk u' B2 sl 39 ∧ (BF < gg) ∧ u'.cell? ⟨BF, 14, none⟩ = some v14 ∧ u'.frozen? ⟨BF, 14, none⟩ = false := by
  have hF := blk_grown h.1.2.1 hgrow (by have := h.2.2; omega)
  refine ⟨⟨ap_belI h.1.1.bl hgrow (fun k e => by have h1 : BB = k := Option.some.inj e; have := h.2.2; omega), blk_grown h.1.1.l hgrow (by have := h.2.2; omega)⟩, hF, blk_grown h.2.1 hgrow (by have := h.2.2; omega), ?_, hF.cell 14 h14, hF.frozen 14⟩
  rcases hat with e | e
  · have h1 : BB = gg := Option.some.inj e
    have := h.2.2; omega
  · have := h.1.2.1.lt; omega
theorem hb1_mem {w : World} {bt tp env : Nat} {op : Int} : ∀ nd ∈ hb1 bt tp env op, nd.At w := by
  intro nd h
  unfold hb1 at h
  simp only [List.mem_cons, List.not_mem_nil, or_false] at h
  rcases h with rfl | rfl | rfl | rfl <;> exact sN_at _ _ _ _ _ _ _
theorem hb2_mem {w : World} {bt tp env b : Nat} {op : Int} : ∀ nd ∈ hb2 bt tp env b op, nd.At w := by
  intro nd h
  unfold hb2 at h
  simp only [List.mem_cons, List.not_mem_nil, or_false] at h
  rcases h with rfl | rfl | rfl | rfl | rfl | rfl <;> exact sN_at _ _ _ _ _ _ _
theorem hb1_ops {bt tp env B c : Nat} {op : Int} (i : Nat) (hi : i < (bdN B c (hb1 bt tp env op)).len) : ((bdN B c (hb1 bt tp env op)).ps i).h.op = 1 ∨ ((bdN B c (hb1 bt tp env op)).ps i).h.op = 3 ∨ ((bdN B c (hb1 bt tp env op)).ps i).h.op = 4 ∨ ((bdN B c (hb1 bt tp env op)).ps i).h.op = 15 := by
  have hi' : i < 4 := hi
  match i, hi' with
  | 0, _ => exact Or.inl rfl
  | 1, _ => exact Or.inr (Or.inr (Or.inl rfl))
  | 2, _ => exact Or.inl rfl
  | 3, _ => exact Or.inr (Or.inr (Or.inr rfl))
theorem hb2_ops {bt tp env b B c : Nat} {op : Int} (i : Nat) (hi : i < (bdN B c (hb2 bt tp env b op)).len) : ((bdN B c (hb2 bt tp env b op)).ps i).h.op = 1 ∨ ((bdN B c (hb2 bt tp env b op)).ps i).h.op = 3 ∨ ((bdN B c (hb2 bt tp env b op)).ps i).h.op = 4 ∨ ((bdN B c (hb2 bt tp env b op)).ps i).h.op = 15 := by
  have hi' : i < 6 := hi
  match i, hi' with
  | 0, _ => exact Or.inl rfl
  | 1, _ => exact Or.inr (Or.inr (Or.inl rfl))
  | 2, _ => exact Or.inl rfl
  | 3, _ => exact Or.inr (Or.inr (Or.inr rfl))
  | 4, _ => exact Or.inl rfl
  | 5, _ => exact Or.inr (Or.inr (Or.inr rfl))
theorem run_build_fnH (p r h : Nat) (e : Nat) (BS : Nat) (w : World) {ls : List Nat} : (Instr.build 43 #[(0, .agg (leafT 1 (p : Nat)).vs.toArray), (1, .agg (leafT 1 (r : Nat)).vs.toArray), (3, .int .i64 h), (4, .int .i64 e), (5, .slice (some ⟨BS, 0, none⟩) ls.length ls.length), (7, .int .i64 2)]).run Try.prog w = .ok (.agg (fnH p r h e BS ls Ns.nl 2).vs.toArray) w := by kernel_rfl
set_option maxRecDepth 100000 in
set_option maxHeartbeats 16000000 in
theorem irHigh_any (n : Strs) (g : Grid) (a0 b0 m0 : Int) (w : World) (hn : n.At w) (hg : g.At w) :
    Calls Try.prog 4 #[.agg #[.slice n.ao n.len n.cap, .slice g.ao g.len g.cap], .agg #[.int .i64 a0, .int .i64 b0, .int .i64 m0]] w fun e w' => e = .returned (.bool true) ∧ Below w.heap.size w w' := by
  have H := allocs_heap [.cells #[.slice n.ao n.len n.cap, .slice g.ao g.len g.cap] 25, .cells #[.int .i64 a0, .int .i64 b0, .int .i64 m0] 33] w
  have B0 := allocs_below [.cells #[.slice n.ao n.len n.cap, .slice g.ao g.len g.cap] 25, .cells #[.int .i64 a0, .int .i64 b0, .int .i64 m0] 33] w
  simp only [List.foldl] at H B0
  have bT : Blk _ (w.heap.size + 1) [.int .i64 a0, .int .i64 b0, .int .i64 m0] 33 := H 1 (by simp)
  have HI := hid (show Hw w n g _ from ⟨B0, H 0 (by simp)⟩)
  have HH := hid (show n.At w ∧ g.At w from ⟨hn, hg⟩)
  clear H B0 hn hg
  go_enter Try.func4, Try.ntmps4
  go_upto_region 1 with fail
  generalize ((w.alloc (.cells #[.slice n.ao n.len n.cap, .slice g.ao g.len g.cap] 25)).alloc (.cells #[.int .i64 a0, .int .i64 b0, .int .i64 m0] 33)) = w1 at *
  have p0 : ∀ x : Gr w1, x.w.cell? ⟨w.heap.size + 1, 0, none⟩ = some (.int .i64 a0) := fun x => (bT.kept x.bl).cell 0 rfl
  have p1 : ∀ x : Gr w1, x.w.cell? ⟨w.heap.size + 1, 1, none⟩ = some (.int .i64 b0) := fun x => (bT.kept x.bl).cell 1 rfl
  have p2 : ∀ x : Gr w1, x.w.cell? ⟨w.heap.size + 1, 2, none⟩ = some (.int .i64 m0) := fun x => (bT.kept x.bl).cell 2 rfl
  have hNE : Nonempty (Gr w1) := ⟨⟨_, Below.refl _ _⟩⟩
  refine wp_region_gr (by kernel_rfl) (by kernel_rfl) ?_
  repeat go_big_quiet_step (fail)
  refine wpQuiet_nil ?_
  rintro w2 ⟨x2, rfl⟩
  have B2 := x2.bl
  generalize x2.w = w2 at B2 ⊢
  have HI2 := hid (HI.out.kept B2)
  clear x2 B2 p0 p1 p2 hNE HI bT
  obtain ⟨tn, htn⟩ : ∃ t : Nat, m0 % 256 = t := ⟨(m0 % 256).toNat, by omega⟩
  rw [htn]
  clear htn
  have e0 := HI2.out.l.cell 0 rfl
  have e1 := HI2.out.l.cell 1 rfl
  go_wp2_with fail
  refine Calls.mono (awake10_any w2) ?_
  rintro _ w3 ⟨rfl, hb⟩
  have HI3 := hid (HI2.out.kept hb)
  clear e0 e1 hb HI2
  have e0 := HI3.out.l.cell 0 rfl
  have e1 := HI3.out.l.cell 1 rfl
  go_wp2_with fail
  refine Calls.mono (small_any n g w3 (HH.out.1.kept HI3.out.bl) (HH.out.2.kept HI3.out.bl)) ?_
  rintro _ w4 ⟨rfl, hb⟩
  have HI4 := hid (HI3.out.kept hb)
  clear e0 e1 hb HI3
  cases q1 : smallB n g
  · go_wp2_with fail
    refine (awake10_any w4).mono ?_
    rintro _ wz ⟨rfl, hbz⟩
    go_wp2
    go_ret
    exact ⟨rfl, Below.next HI4.out.bl hbz⟩
  have e0 := HI4.out.l.cell 0 rfl
  have e1 := HI4.out.l.cell 1 rfl
  go_wp2_with fail
  refine Calls.mono (formed_any n g w4 (HH.out.1.kept HI4.out.bl) (HH.out.2.kept HI4.out.bl)) ?_
  rintro _ w5 ⟨rfl, hb⟩
  have HI5 := hid (HI4.out.kept hb)
  clear e0 e1 hb HI4
  cases q2 : formedB n g
  · go_wp2_with fail
    refine (awake10_any w5).mono ?_
    rintro _ wz ⟨rfl, hbz⟩
    go_wp2
    go_ret
    exact ⟨rfl, Below.next HI5.out.bl hbz⟩
  have e0 := HI5.out.l.cell 0 rfl
  have e1 := HI5.out.l.cell 1 rfl
  go_wp2_with fail
  refine Calls.mono (label_any n g a0 w5) ?_
  rintro _ w6 ⟨rfl, hb⟩
  have HI6 := hid (HI5.out.kept hb)
  clear e0 e1 hb HI5
  cases q3 : labB n a0
  · go_wp2_with fail
    refine (awake10_any w6).mono ?_
    rintro _ wz ⟨rfl, hbz⟩
    go_wp2
    go_ret
    exact ⟨rfl, Below.next HI6.out.bl hbz⟩
  have e0 := HI6.out.l.cell 0 rfl
  have e1 := HI6.out.l.cell 1 rfl
  go_wp2_with fail
  refine Calls.mono (label_any n g b0 w6) ?_
  rintro _ w7 ⟨rfl, hb⟩
  have HI7 := hid (HI6.out.kept hb)
  clear e0 e1 hb HI6
  cases q4 : labB n b0
  · go_wp2_with fail
    refine (awake10_any w7).mono ?_
    rintro _ wz ⟨rfl, hbz⟩
    go_wp2
    go_ret
    exact ⟨rfl, Below.next HI7.out.bl hbz⟩
  obtain ⟨a, rfl, ha⟩ := lab_nat q3
  obtain ⟨b, rfl, hb⟩ := lab_nat q4
  obtain ⟨bt, hbt, hbtl, hlow⟩ := bot_is q2
  obtain ⟨tp, htp, htpl, hhigh⟩ := top_is q2
  have HF := hid (show formedB n g = true ∧ a < n.len ∧ b < n.len ∧ botI n g = (bt : Int) ∧ bt < n.len ∧ (∀ c, c < n.len → g.B bt c = true) ∧ tp < n.len ∧ (∀ c, c < n.len → g.B c tp = true) from ⟨q2, ha, hb, hbt, hbtl, hlow, htpl, hhigh⟩)
  have HBt := hid (show ∀ x : Gr w7, Calls Try.prog 13 #[.agg #[.slice n.ao n.len n.cap, .slice g.ao g.len g.cap]] x.w fun e w' => e = .returned (.int .i64 bt) ∧ Below x.w.heap.size x.w w' from fun x => by rw [← hbt]; exact Bottom_any n g x.w ((HH.out.1.kept HI7.out.bl).kept x.bl) ((HH.out.2.kept HI7.out.bl).kept x.bl))
  have HTp := hid (show ∀ x : Gr w7, Calls Try.prog 14 #[.agg #[.slice n.ao n.len n.cap, .slice g.ao g.len g.cap]] x.w fun e w' => e = .returned (.int .i64 tp) ∧ Below x.w.heap.size x.w w' from fun x => by rw [← htp]; exact Top_any n g x.w ((HH.out.1.kept HI7.out.bl).kept x.bl) ((HH.out.2.kept HI7.out.bl).kept x.bl))
  clear q1 q2 q3 q4 ha hb hbt hbtl hlow htp htpl hhigh
  go_upto_region 4 with fail
  have p0 : ∀ x : Gr w7, x.w.cell? ⟨w.heap.size, 0, none⟩ = some (.slice n.ao n.len n.cap) := fun x => (HI7.out.l.kept x.bl).cell 0 rfl
  have p1 : ∀ x : Gr w7, x.w.cell? ⟨w.heap.size, 1, none⟩ = some (.slice g.ao g.len g.cap) := fun x => (HI7.out.l.kept x.bl).cell 1 rfl
  have hNE : Nonempty (Gr w7) := ⟨⟨_, Below.refl _ _⟩⟩
  refine wp_region_gr (by kernel_rfl) (by kernel_rfl) ?_
  go_big_quiet_step (fail)
  go_big_quiet_step ((go_at_call 13; exact Calls.gr _ (HBt.out _)))
  go_big_quiet_step (fail)
  go_big_quiet_step ((go_at_call 14; exact Calls.gr _ (HTp.out _)))
  iterate 2 go_big_quiet_step (fail)
  refine wpQuiet_nil ?_
  rintro w8 ⟨x8, rfl⟩
  have B8 := x8.bl
  generalize x8.w = w8 at B8 ⊢
  have HI8 := hid (HI7.out.kept B8)
  clear x8 B8 p0 p1 hNE HI7 HBt HTp
  go_upto_if 55 with fail
  generalize hq : (((tn : Int) % 2) == 1) = bit at *
  have HI9 := HI8
  go_cut [10] (fun c wx => c = .int .i64 (if bit = true then 10 else 6) ∧ Hid (Hw w n g wx))
  case first =>
    cases bit
    all_goals go_wp2
    all_goals go_meet
    all_goals exact ⟨rfl, HI8.out⟩
  case rest =>
    obtain ⟨rfl, hI⟩ := hcut
    clear HI8 HI9
    have HI8 := hid hI.out
    clear hI
    go_upto_if 59 with fail
    go_cut [11] (fun c wx => c = .int .i64 (if bit = true then a else bt : Nat) ∧ Hid (Hw w n g wx))
    case first =>
      cases bit
      all_goals go_wp2
      all_goals go_meet
      all_goals exact ⟨rfl, HI8.out⟩
    case rest =>
      obtain ⟨rfl, hI⟩ := hcut
      clear HI8
      have HI9 := hid hI.out
      clear hI hq
      have HP : Hid (((if bit = true then 10 else 6 : Int) = 6 ∧ (if bit = true then a else bt : Nat) = bt) ∨ ((if bit = true then 10 else 6 : Int) = 10 ∧ (if bit = true then a else bt : Nat) = a)) := by cases bit; exact Or.inl ⟨rfl, rfl⟩; exact Or.inr ⟨rfl, rfl⟩
      generalize (if bit = true then 10 else 6 : Int) = op at *
      generalize (if bit = true then a else bt : Nat) = env at *
      have HX : Hid (Hi n g a b bt tp env op) := ⟨HF.out.1, HF.out.2.2.2.1, HF.out.2.2.2.2.1, HF.out.2.2.2.2.2.1, HF.out.2.2.2.2.2.2.1, HF.out.2.2.2.2.2.2.2, HF.out.2.1, HF.out.2.2.1, HP.out⟩
      clear HP
      generalize wc = w9 at *
      go_wp2_with fail
      refine (number_any a w9).mono ?_
      rintro _ w10 ⟨rfl, hb⟩
      have HI10 := hid (HI9.out.kept hb)
      clear hb HI9
      go_wp2_with fail
      refine (number_any tp w10).mono ?_
      rintro _ w11 ⟨rfl, hb⟩
      have HI11 := hid (HI10.out.kept hb)
      clear hb HI10
      go_wp2_with fail
      refine (number_any a w11).mono ?_
      rintro _ w12 ⟨rfl, hb⟩
      have HI12 := hid (HI11.out.kept hb)
      clear hb HI11
      go_wp2_with fail
      refine (number_any a w12).mono ?_
      rintro _ w13 ⟨rfl, hb⟩
      have HI13 := hid (HI12.out.kept hb)
      clear hb HI12
      go_wp2_with fail
      refine (number_any tp w13).mono ?_
      rintro _ w14 ⟨rfl, hb⟩
      have HI14 := hid (HI13.out.kept hb)
      clear hb HI13
      have hb1 := below_alloc w14 (.cells (slV [a, a, tp]).toArray 39)
      have hb2 := below_alloc (w14.alloc (.cells (slV [a, a, tp]).toArray 39)) (.cells (fnH a tp bt tp w14.heap.size [a, a, tp] Ns.nl 2).vs.toArray 43)
      have SZ : (w14.alloc (.cells (slV [a, a, tp]).toArray 39)).heap.size = w14.heap.size + 1 := alloc_size _ _
      have HJ := hid (show Hw w n g ((w14.alloc (.cells (slV [a, a, tp]).toArray 39)).alloc (.cells (fnH a tp bt tp w14.heap.size [a, a, tp] Ns.nl 2).vs.toArray 43)) ∧ Blk ((w14.alloc (.cells (slV [a, a, tp]).toArray 39)).alloc (.cells (fnH a tp bt tp w14.heap.size [a, a, tp] Ns.nl 2).vs.toArray 43)) w14.heap.size (slV [a, a, tp]) 39 ∧ Blk ((w14.alloc (.cells (slV [a, a, tp]).toArray 39)).alloc (.cells (fnH a tp bt tp w14.heap.size [a, a, tp] Ns.nl 2).vs.toArray 43)) (w14.heap.size + 1) (fnH a tp bt tp w14.heap.size [a, a, tp] Ns.nl 2).vs 43 ∧ w.heap.size < w14.heap.size from ⟨(HI14.out.kept hb1).kept hb2, (Blk.new w14 _ _).kept hb2, by rw [← SZ]; exact Blk.new _ _ _, HI14.out.l.lt⟩)
      clear hb1 hb2 HI14
      go_upto_region 12 with (first | (refine wpList_slice rfl 37 3 #[(0, .tmp 68), (1, .tmp 70), (2, .tmp 72)] rfl #[(0, .agg (leafT 1 (a : Nat)).vs.toArray), (1, .agg (leafT 1 (a : Nat)).vs.toArray), (2, .agg (leafT 1 (tp : Nat)).vs.toArray)] (by kernel_rfl) (run_slice3_tl a a tp _) ?_) | (refine wpList_buildI rfl 43 #[(0, .tmp 62), (1, .tmp 64), (3, .tmp 65), (4, .tmp 66), (5, .tmp 73), (7, .const (.int .i64 2))] rfl _ (by kernel_rfl) (run_build_fnH a tp bt tp w14.heap.size _ (ls := [a, a, tp])) ?_) | (refine wpList_new_mid rfl rfl 43 rfl (.tmp 12) (.tmp 74) rfl zFv (alloc_fn _) rfl (fnH a tp bt tp w14.heap.size [a, a, tp] Ns.nl 2).vs.toArray (by kernel_rfl) (by kernel_rfl) rfl (by kernel_rfl) (by simpa using Fc.va_one _) ?_))
      rw [SZ]
      clear SZ
      generalize ((w14.alloc (.cells (slV [a, a, tp]).toArray 39)).alloc (.cells (fnH a tp bt tp w14.heap.size [a, a, tp] Ns.nl 2).vs.toArray 43)) = w20 at *
      generalize w14.heap.size = BS at *
      simp only [Act.put, List.setIfInBounds_toArray, List.set_cons_succ, List.set_cons_zero]
      generalize hBF : BS + 1 = BF at *
      have HBF := hid hBF
      clear hBF
      have bb1 := below_alloc w20 (.cells (bdV (hb1 bt tp env op)).toArray 46)
      have HJ1 := hid (show Hw w n g (w20.alloc (.cells (bdV (hb1 bt tp env op)).toArray 46)) ∧ Blk (w20.alloc (.cells (bdV (hb1 bt tp env op)).toArray 46)) BS (slV [a, a, tp]) 39 ∧ Blk (w20.alloc (.cells (bdV (hb1 bt tp env op)).toArray 46)) BF (fnH a tp bt tp BS [a, a, tp] Ns.nl 2).vs 43 ∧ (w20.alloc (.cells (bdV (hb1 bt tp env op)).toArray 46)).ownsRow w.heap.size 46 14 (.slice (some ⟨w20.heap.size, 0, none⟩) (hb1 bt tp env op).length 4) (hb1 bt tp env op).length (bdV (hb1 bt tp env op)) ∧ BF < w20.heap.size from ⟨HJ.out.1.kept bb1, HJ.out.2.1.kept bb1, HJ.out.2.2.1.kept bb1, by have := World.ownsRow_lit (base := w.heap.size) (e := 46) (size := 14) w20 (bdV (hb1 bt tp env op)).toArray 4 HJ.out.1.bl.size (by decide) (by rw [List.size_toArray, bdV_len]; rfl); exact this, HJ.out.2.2.1.lt⟩)
      have HLT := hid (show w.heap.size < BS ∧ BS < BF from ⟨HJ.out.2.2.2, by have := HBF.out; omega⟩)
      have c14 := HJ1.out.2.2.1.cell 14 (v := .slice none 0 0) rfl
      have g14 := HJ1.out.2.2.1.frozen 14
      clear bb1 HJ HBF
      have hrn : (Instr.buildSlice 41 4 #[(0, .agg (sN 1 2 0 0 7 bt).vs.toArray), (1, .agg (sN 4 1 0 0 op bt).vs.toArray), (2, .agg (sN 1 2 0 0 1 env).vs.toArray), (3, .agg (sN 15 0 2 0 tp env).vs.toArray)]).run Try.prog w20 = .ok (.slice (some ⟨w20.heap.size, 0, none⟩) 4 4) (w20.alloc (.cells (bdV (hb1 bt tp env op)).toArray 46)) := run_slice4_nd _ _ _ _ _
      go_upto_region 13 with (refine wpList_slice rfl 41 4 #[(0, .tmp 76), (1, .tmp 79), (2, .tmp 81), (3, .tmp 84)] rfl #[(0, .agg (sN 1 2 0 0 7 bt).vs.toArray), (1, .agg (sN 4 1 0 0 op bt).vs.toArray), (2, .agg (sN 1 2 0 0 1 env).vs.toArray), (3, .agg (sN 15 0 2 0 tp env).vs.toArray)] (by kernel_rfl) hrn ?_)
      clear hrn
      generalize hBB : w20.heap.size = BB at *
      generalize (w20.alloc (.cells (bdV (hb1 bt tp env op)).toArray 46)) = w21 at *
      have W1 := wrote_setCell (i := 14) HJ1.out.2.2.1 (.slice (some ⟨BB, 0, none⟩) 4 4)
      have HJ2 := hid (show Hw w n g (w21.setCell ⟨BF, 14, none⟩ (.slice (some ⟨BB, 0, none⟩) 4 4)) ∧ Blk (w21.setCell ⟨BF, 14, none⟩ (.slice (some ⟨BB, 0, none⟩) 4 4)) BS (slV [a, a, tp]) 39 ∧ Blk (w21.setCell ⟨BF, 14, none⟩ (.slice (some ⟨BB, 0, none⟩) 4 4)) BF (fnH a tp bt tp BS [a, a, tp] (bdN BB 4 (hb1 bt tp env op)) 2).vs 43 ∧ (w21.setCell ⟨BF, 14, none⟩ (.slice (some ⟨BB, 0, none⟩) 4 4)).ownsRow w.heap.size 46 14 (.slice (some ⟨BB, 0, none⟩) (hb1 bt tp env op).length 4) (hb1 bt tp env op).length (bdV (hb1 bt tp env op)) ∧ BF < BB from ⟨⟨W1.below (by have := HLT.out; omega) HJ1.out.1.bl, W1.keep HJ1.out.1.l (by have := HLT.out; omega)⟩, W1.keep HJ1.out.2.1 (by have := HLT.out; omega), W1.blk, eown_blk HJ1.out.2.2.2.1 (fun q hq => W1.other q (by have h1 : BB = q := Option.some.inj hq; have h2 := HJ1.out.2.2.2.2; omega)), HJ1.out.2.2.2.2⟩)
      clear W1 c14 g14 HJ1 hBB
      generalize (w21.setCell ⟨BF, 14, none⟩ (.slice (some ⟨BB, 0, none⟩) 4 4)) = w22 at *
      have bb1 := below_alloc w22 (.cells (fnH a tp bt tp BS [a, a, tp] (bdN BB 4 (hb1 bt tp env op)) 2).vs.toArray 43)
      have hC := Check_str n g (fl1 w22.heap.size (fnH a tp bt tp BS [a, a, tp] (bdN BB 4 (hb1 bt tp env op)) 2)) (w22.alloc (.cells (fnH a tp bt tp BS [a, a, tp] (bdN BB 4 (hb1 bt tp env op)) 2).vs.toArray 43)) ((HH.out.1.kept HJ2.out.1.bl).kept bb1) ((HH.out.2.kept HJ2.out.1.bl).kept bb1) (fl1_at (fnH_at (HJ2.out.2.1.kept bb1) (by show 3 ≤ 1000; decide) (bdN_at (eown_up HJ2.out.2.2.2.1 bb1) (by show 4 ≤ 1000; decide) hb1_mem)) (Blk.new w22 _ _)) (fun i _ => Nat.zero_le _) (fun k _ i hi => hb1_ops i hi)
      have HJc := hid (show Hw w n g (w22.alloc (.cells (fnH a tp bt tp BS [a, a, tp] (bdN BB 4 (hb1 bt tp env op)) 2).vs.toArray 43)) ∧ Blk (w22.alloc (.cells (fnH a tp bt tp BS [a, a, tp] (bdN BB 4 (hb1 bt tp env op)) 2).vs.toArray 43)) BF (fnH a tp bt tp BS [a, a, tp] (bdN BB 4 (hb1 bt tp env op)) 2).vs 43 ∧ (w22.alloc (.cells (fnH a tp bt tp BS [a, a, tp] (bdN BB 4 (hb1 bt tp env op)) 2).vs.toArray 43)).ownsRow w.heap.size 46 14 (.slice (some ⟨BB, 0, none⟩) (hb1 bt tp env op).length 4) (hb1 bt tp env op).length (bdV (hb1 bt tp env op)) from ⟨HJ2.out.1.kept bb1, HJ2.out.2.2.1.kept bb1, eown_up HJ2.out.2.2.2.1 bb1⟩)
      have e0 := HJ2.out.1.l.cell 0 rfl
      have e1 := HJ2.out.1.l.cell 1 rfl
      have bF := HJ2.out.2.2.1
      have hrn := run_slice1_fn (fnH a tp bt tp BS [a, a, tp] (bdN BB 4 (hb1 bt tp env op)) 2) w22
      clear bb1
      go_wp2_with (first | (refine wpList_load_mid rfl 43 (.tmp 12) rfl BF 0 (by kernel_rfl) (fnH a tp bt tp BS [a, a, tp] (bdN BB 4 (hb1 bt tp env op)) 2).vs _ bF.range Try.underlying43 rfl (by kernel_rfl) ?_) | (refine wpList_slice rfl 26 1 #[(0, .tmp 89)] rfl #[(0, .agg (fnH a tp bt tp BS [a, a, tp] (bdN BB 4 (hb1 bt tp env op)) 2).vs.toArray)] (by kernel_rfl) hrn ?_))
      refine Calls.mono hC ?_
      rintro _ w23 ⟨ra, rb, rfl, hR, hb⟩
      have HJ3 := hid (show Hw w n g w23 ∧ Blk w23 BF (fnH a tp bt tp BS [a, a, tp] (bdN BB 4 (hb1 bt tp env op)) 2).vs 43 ∧ w23.ownsRow w.heap.size 46 14 (.slice (some ⟨BB, 0, none⟩) (hb1 bt tp env op).length 4) (hb1 bt tp env op).length (bdV (hb1 bt tp env op)) from ⟨HJc.out.1.kept hb, HJc.out.2.1.kept hb, eown_up HJc.out.2.2 hb⟩)
      have HY1 := hid (HX.out.yes hR)
      have HBB := hid HJ2.out.2.2.2.2
      clear hC HJc e0 e1 bF hrn hb hR HJ2
      generalize hyr : rb = y1 at *
      have HYE := hid (show y1 = 0 from HY1.out)
      clear HY1 hyr
      go_wp2_with fail
      refine (number_any a w23).mono ?_
      rintro _ w24 ⟨rfl, hb⟩
      have HK24 := hid (show Hw w n g w24 ∧ Blk w24 BF (fnH a tp bt tp BS [a, a, tp] (bdN BB 4 (hb1 bt tp env op)) 2).vs 43 ∧ w24.ownsRow w.heap.size 46 14 (.slice (some ⟨BB, 0, none⟩) (hb1 bt tp env op).length 4) (hb1 bt tp env op).length (bdV (hb1 bt tp env op)) from ⟨HJ3.out.1.kept hb, HJ3.out.2.1.kept hb, eown_up HJ3.out.2.2 hb⟩)
      clear hb HJ3
      go_wp2_with fail
      refine (number_any a w24).mono ?_
      rintro _ w25 ⟨rfl, hb⟩
      have HK25 := hid (show Hw w n g w25 ∧ Blk w25 BF (fnH a tp bt tp BS [a, a, tp] (bdN BB 4 (hb1 bt tp env op)) 2).vs 43 ∧ w25.ownsRow w.heap.size 46 14 (.slice (some ⟨BB, 0, none⟩) (hb1 bt tp env op).length 4) (hb1 bt tp env op).length (bdV (hb1 bt tp env op)) from ⟨HK24.out.1.kept hb, HK24.out.2.1.kept hb, eown_up HK24.out.2.2 hb⟩)
      clear hb HK24
      go_wp2_with fail
      refine (number_any tp w25).mono ?_
      rintro _ w26 ⟨rfl, hb⟩
      have HK26 := hid (show Hw w n g w26 ∧ Blk w26 BF (fnH a tp bt tp BS [a, a, tp] (bdN BB 4 (hb1 bt tp env op)) 2).vs 43 ∧ w26.ownsRow w.heap.size 46 14 (.slice (some ⟨BB, 0, none⟩) (hb1 bt tp env op).length 4) (hb1 bt tp env op).length (bdV (hb1 bt tp env op)) from ⟨HK25.out.1.kept hb, HK25.out.2.1.kept hb, eown_up HK25.out.2.2 hb⟩)
      clear hb HK25
      go_wp2_with fail
      refine (number_any env w26).mono ?_
      rintro _ w27 ⟨rfl, hb⟩
      have HK27 := hid (show Hw w n g w27 ∧ Blk w27 BF (fnH a tp bt tp BS [a, a, tp] (bdN BB 4 (hb1 bt tp env op)) 2).vs 43 ∧ w27.ownsRow w.heap.size 46 14 (.slice (some ⟨BB, 0, none⟩) (hb1 bt tp env op).length 4) (hb1 bt tp env op).length (bdV (hb1 bt tp env op)) from ⟨HK26.out.1.kept hb, HK26.out.2.1.kept hb, eown_up HK26.out.2.2 hb⟩)
      clear hb HK26
      have bb1 := below_alloc w27 (.cells (slV [a, a, tp, env]).toArray 39)
      have HM := hid (show (Hw w n g (w27.alloc (.cells (slV [a, a, tp, env]).toArray 39)) ∧ Blk (w27.alloc (.cells (slV [a, a, tp, env]).toArray 39)) BF (fnH a tp bt tp BS [a, a, tp] (bdN BB 4 (hb1 bt tp env op)) 2).vs 43 ∧ (w27.alloc (.cells (slV [a, a, tp, env]).toArray 39)).ownsRow w.heap.size 46 14 (.slice (some ⟨BB, 0, none⟩) (hb1 bt tp env op).length 4) (hb1 bt tp env op).length (bdV (hb1 bt tp env op))) ∧ Blk (w27.alloc (.cells (slV [a, a, tp, env]).toArray 39)) w27.heap.size (slV [a, a, tp, env]) 39 ∧ BF < w27.heap.size ∧ BB < w27.heap.size from ⟨⟨HK27.out.1.kept bb1, HK27.out.2.1.kept bb1, eown_up HK27.out.2.2 bb1⟩, Blk.new w27 _ _, HK27.out.2.1.lt, (eown_lt HK27.out.2.2 rfl).2⟩)
      have c13 := HM.out.1.2.1.cell 13 (v := .slice (some ⟨BS, 0, none⟩) 3 3) rfl
      have g13 := HM.out.1.2.1.frozen 13
      clear bb1 HK27
      go_upto_region 15 with (refine wpList_slice rfl 37 4 #[(0, .tmp 95), (1, .tmp 97), (2, .tmp 99), (3, .tmp 101)] rfl #[(0, .agg (leafT 1 (a : Nat)).vs.toArray), (1, .agg (leafT 1 (a : Nat)).vs.toArray), (2, .agg (leafT 1 (tp : Nat)).vs.toArray), (3, .agg (leafT 1 (env : Nat)).vs.toArray)] (by kernel_rfl) (run_slice4_tl a a tp env _) ?_)
      generalize hB2 : w27.heap.size = B2 at *
      generalize (w27.alloc (.cells (slV [a, a, tp, env]).toArray 39)) = w28 at *
      have W1 := wrote_setCell (i := 13) HM.out.1.2.1 (.slice (some ⟨B2, 0, none⟩) 4 4)
      have HM2 := hid (show (Hw w n g (w28.setCell ⟨BF, 13, none⟩ (.slice (some ⟨B2, 0, none⟩) 4 4)) ∧ Blk (w28.setCell ⟨BF, 13, none⟩ (.slice (some ⟨B2, 0, none⟩) 4 4)) BF (fnH a tp bt tp B2 [a, a, tp, env] (bdN BB 4 (hb1 bt tp env op)) 2).vs 43 ∧ (w28.setCell ⟨BF, 13, none⟩ (.slice (some ⟨B2, 0, none⟩) 4 4)).ownsRow w.heap.size 46 14 (.slice (some ⟨BB, 0, none⟩) (hb1 bt tp env op).length 4) (hb1 bt tp env op).length (bdV (hb1 bt tp env op))) ∧ Blk (w28.setCell ⟨BF, 13, none⟩ (.slice (some ⟨B2, 0, none⟩) 4 4)) B2 (slV [a, a, tp, env]) 39 ∧ BF < B2 ∧ BF < BB ∧ BB < B2 from ⟨⟨⟨W1.below (by have := HLT.out; omega) HM.out.1.1.bl, W1.keep HM.out.1.1.l (by have := HLT.out; omega)⟩, W1.blk, eown_blk HM.out.1.2.2 (fun q hq => W1.other q (by have h1 : BB = q := Option.some.inj hq; have h2 := HBB.out; omega))⟩, W1.keep HM.out.2.1 (by have := HM.out.2.2.1; omega), HM.out.2.2.1, HBB.out, HM.out.2.2.2⟩)
      clear W1 c13 g13 HM hB2
      generalize (w28.setCell ⟨BF, 13, none⟩ (.slice (some ⟨B2, 0, none⟩) 4 4)) = w29 at *
      have bb1 := below_alloc w29 (.cells (bdV [sN 1 3 0 0 1 env, sN 15 0 3 0 b env]).toArray 46)
      have c14 := HM2.out.1.2.1.cell 14 (v := .slice (some ⟨BB, 0, none⟩) 4 4) rfl
      have HM3 := hid (show (Hw w n g (w29.alloc (.cells (bdV [sN 1 3 0 0 1 env, sN 15 0 3 0 b env]).toArray 46)) ∧ Blk (w29.alloc (.cells (bdV [sN 1 3 0 0 1 env, sN 15 0 3 0 b env]).toArray 46)) BF (fnH a tp bt tp B2 [a, a, tp, env] (bdN BB 4 (hb1 bt tp env op)) 2).vs 43 ∧ (w29.alloc (.cells (bdV [sN 1 3 0 0 1 env, sN 15 0 3 0 b env]).toArray 46)).ownsRow w.heap.size 46 14 (.slice (some ⟨BB, 0, none⟩) (hb1 bt tp env op).length 4) (hb1 bt tp env op).length (bdV (hb1 bt tp env op))) ∧ Blk (w29.alloc (.cells (bdV [sN 1 3 0 0 1 env, sN 15 0 3 0 b env]).toArray 46)) B2 (slV [a, a, tp, env]) 39 ∧ BF < B2 ∧ BF < BB ∧ BB < B2 from ⟨⟨HM2.out.1.1.kept bb1, HM2.out.1.2.1.kept bb1, eown_up HM2.out.1.2.2 bb1⟩, HM2.out.2.1.kept bb1, HM2.out.2.2⟩)
      have hnew := heap_alloc_new w29 (.cells (bdV [sN 1 3 0 0 1 env, sN 15 0 3 0 b env]).toArray 46)
      have SZ2 : (w29.alloc (.cells (bdV [sN 1 3 0 0 1 env, sN 15 0 3 0 b env]).toArray 46)).heap.size = w29.heap.size + 1 := alloc_size _ _
      obtain ⟨i0, hi, hz0, hz1, hz2⟩ := info_parts Try.infoNd
      have hown : (w29.alloc (.cells (bdV [sN 1 3 0 0 1 env, sN 15 0 3 0 b env]).toArray 46)).ownsRow w.heap.size 46 14 (.slice (some ⟨BB, 0, none⟩) 4 4) 4 (bdV (hb1 bt tp env op)) := HM3.out.1.2.2
      have hbb : w.heap.size ≤ (w29.alloc (.cells (bdV [sN 1 3 0 0 1 env, sN 15 0 3 0 b env]).toArray 46)).heap.size := HM3.out.1.1.bl.size
      have hnews : ∀ j u, (bdV [sN 1 3 0 0 1 env, sN 15 0 3 0 b env])[j]? = some u → (w29.alloc (.cells (bdV [sN 1 3 0 0 1 env, sN 15 0 3 0 b env]).toArray 46)).cell? ((⟨w29.heap.size, 0, none⟩ : Addr).add j) = some u := World.news_of_block (cs := (bdV [sN 1 3 0 0 1 env, sN 15 0 3 0 b env]).toArray) (t := 46) (fr := (0, 0)) hnew
      have hone := bdV_one [sN 1 3 0 0 1 env, sN 15 0 3 0 b env]
      clear bb1 hnew HM2
      have hrn := run_slice2_nd (sN 1 3 0 0 1 env) (sN 15 0 3 0 b env) w29
      go_upto_region 16 with (first | (refine wpList_slice rfl 41 2 #[(0, .tmp 107), (1, .tmp 110)] rfl #[(0, .agg (sN 1 3 0 0 1 env).vs.toArray), (1, .agg (sN 15 0 3 0 b env).vs.toArray)] (by kernel_rfl) hrn ?_) | (at_builtin; refine Stp.go ?_))
      unfold Stp
      refine wpList_append_lies _ rfl (.tmp 105) (.tmp 111) 41 rfl w.heap.size 46 i0 _ 14 176 Try.underlying41 hi hz0 hz1 hz2 rfl (by decide) (.slice (some ⟨BB, 0, none⟩) 4 4) 4 (bdV (hb1 bt tp env op)) (by kernel_rfl) hown ⟨w29.heap.size, 0, none⟩ 2 2 (bdV [sN 1 3 0 0 1 env, sN 15 0 3 0 b env]) (by kernel_rfl) rfl hnews hone (by decide) (by unfold maxLen; omega) (by decide) hbb (w29.heap.size + 1) SZ2 ?_
      intro gg cap3 w30 hown6 hgrow hat hltg
      have HBX := hid (apx (v14 := .slice (some ⟨BB, 0, none⟩) 4 4) hgrow HM3.out (Nat.lt_trans HLT.out.1 HLT.out.2) hat SZ2 rfl)
      have HO6 := hid hown6
      have HB2F := hid HM3.out.2.2.1
      obtain ⟨c14x, g14x⟩ := HBX.out.2.2.2.2
      clear hown6 hgrow hat hltg hown hnews hone hrn SZ2 hbb HM3 c14 hi hz0 hz1 hz2
      simp only [Act.put, List.setIfInBounds_toArray, List.set_cons_succ, List.set_cons_zero]
      go_upto_region 16 with fail
      have W1 := wrote_setCell (i := 14) HBX.out.2.1 (.slice (some ⟨gg, 0, none⟩) 6 cap3)
      have HM4 := hid (show Hw w n g (w30.setCell ⟨BF, 14, none⟩ (.slice (some ⟨gg, 0, none⟩) 6 cap3)) ∧ Blk (w30.setCell ⟨BF, 14, none⟩ (.slice (some ⟨gg, 0, none⟩) 6 cap3)) B2 (slV [a, a, tp, env]) 39 ∧ Blk (w30.setCell ⟨BF, 14, none⟩ (.slice (some ⟨gg, 0, none⟩) 6 cap3)) BF (fnH a tp bt tp B2 [a, a, tp, env] (bdN gg cap3 (hb2 bt tp env b op)) 2).vs 43 ∧ (w30.setCell ⟨BF, 14, none⟩ (.slice (some ⟨gg, 0, none⟩) 6 cap3)).ownsRow w.heap.size 46 14 (.slice (some ⟨gg, 0, none⟩) (hb2 bt tp env b op).length cap3) (hb2 bt tp env b op).length (bdV (hb2 bt tp env b op)) ∧ True from ⟨⟨W1.below (by have := HLT.out; omega) HBX.out.1.bl, W1.keep HBX.out.1.l (by have := HLT.out; omega)⟩, W1.keep HBX.out.2.2.1 (by have := HB2F.out; omega), W1.blk, eown_blk (by have := HO6.out; exact this) (fun q hq => W1.other q (by have h1 : gg = q := Option.some.inj hq; have h2 := HBX.out.2.2.2.1; omega)), trivial⟩)
      clear W1 c14x g14x HBX HO6
      generalize (w30.setCell ⟨BF, 14, none⟩ (.slice (some ⟨gg, 0, none⟩) 6 cap3)) = w31 at *
      have bb1 := below_alloc w31 (.cells (fnH a tp bt tp B2 [a, a, tp, env] (bdN gg cap3 (hb2 bt tp env b op)) 2).vs.toArray 43)
      have hC := Check_str n g (fl1 w31.heap.size (fnH a tp bt tp B2 [a, a, tp, env] (bdN gg cap3 (hb2 bt tp env b op)) 2)) (w31.alloc (.cells (fnH a tp bt tp B2 [a, a, tp, env] (bdN gg cap3 (hb2 bt tp env b op)) 2).vs.toArray 43)) ((HH.out.1.kept HM4.out.1.bl).kept bb1) ((HH.out.2.kept HM4.out.1.bl).kept bb1) (fl1_at (fnH_at (HM4.out.2.1.kept bb1) (by show 4 ≤ 1000; decide) (bdN_at (eown_up HM4.out.2.2.2.1 bb1) (by show 6 ≤ 1000; decide) hb2_mem)) (Blk.new w31 _ _)) (fun i _ => Nat.zero_le _) (fun k _ i hi => hb2_ops i hi)
      have HJc := hid (show Hw w n g (w31.alloc (.cells (fnH a tp bt tp B2 [a, a, tp, env] (bdN gg cap3 (hb2 bt tp env b op)) 2).vs.toArray 43)) ∧ Blk (w31.alloc (.cells (fnH a tp bt tp B2 [a, a, tp, env] (bdN gg cap3 (hb2 bt tp env b op)) 2).vs.toArray 43)) BF (fnH a tp bt tp B2 [a, a, tp, env] (bdN gg cap3 (hb2 bt tp env b op)) 2).vs 43 ∧ (w31.alloc (.cells (fnH a tp bt tp B2 [a, a, tp, env] (bdN gg cap3 (hb2 bt tp env b op)) 2).vs.toArray 43)).ownsRow w.heap.size 46 14 (.slice (some ⟨gg, 0, none⟩) (hb2 bt tp env b op).length cap3) (hb2 bt tp env b op).length (bdV (hb2 bt tp env b op)) from ⟨HM4.out.1.kept bb1, HM4.out.2.2.1.kept bb1, eown_up HM4.out.2.2.2.1 bb1⟩)
      have e0 := HM4.out.1.l.cell 0 rfl
      have e1 := HM4.out.1.l.cell 1 rfl
      have bF := HM4.out.2.2.1
      have hrn := run_slice1_fn (fnH a tp bt tp B2 [a, a, tp, env] (bdN gg cap3 (hb2 bt tp env b op)) 2) w31
      clear bb1
      go_wp2_with (first | (refine wpList_load_mid rfl 43 (.tmp 12) rfl BF 0 (by kernel_rfl) (fnH a tp bt tp B2 [a, a, tp, env] (bdN gg cap3 (hb2 bt tp env b op)) 2).vs _ bF.range Try.underlying43 rfl (by kernel_rfl) ?_) | (refine wpList_slice rfl 26 1 #[(0, .tmp 116)] rfl #[(0, .agg (fnH a tp bt tp B2 [a, a, tp, env] (bdN gg cap3 (hb2 bt tp env b op)) 2).vs.toArray)] (by kernel_rfl) hrn ?_))
      refine Calls.mono hC ?_
      rintro _ w32 ⟨ra, rb, rfl, hR, hb⟩
      have HM5 := hid (show Hw w n g w32 ∧ Blk w32 BF (fnH a tp bt tp B2 [a, a, tp, env] (bdN gg cap3 (hb2 bt tp env b op)) 2).vs 43 ∧ w32.ownsRow w.heap.size 46 14 (.slice (some ⟨gg, 0, none⟩) (hb2 bt tp env b op).length cap3) (hb2 bt tp env b op).length (bdV (hb2 bt tp env b op)) from ⟨HJc.out.1.kept hb, HJc.out.2.1.kept hb, eown_up HJc.out.2.2 hb⟩)
      have HY2 := hid (HX.out.two hR)
      clear hC HJc e0 e1 bF hrn hb hR HM4
      obtain rfl := HYE.out
      have e0 := HM5.out.1.l.cell 0 rfl
      have e1 := HM5.out.1.l.cell 1 rfl
      have hL := leq_any n g env b w32 (HH.out.1.kept HM5.out.1.bl) (HH.out.2.kept HM5.out.1.bl)
      have hE : (rb == 0) = leqB n g env b := by rw [HY2.out, leqB_nat HX.out.F HX.out.lte HX.out.ltb']
      generalize leqB n g env b = q at *
      go_wp2_with fail
      refine Calls.mono hL ?_
      rintro _ w33 ⟨rfl, hb⟩
      clear hL e0 e1
      cases q
      all_goals go_wp2
      all_goals go_ret
      all_goals exact ⟨rfl, Below.next HM5.out.1.bl hb⟩
end Go.Proofs.Ytcnepnhbfleegaa

/- A region that draws its order: all that reads, moves or reckons comes first, wherever it stands; what is left is one behind the other. -/
namespace Go.Proofs.Ytcnepnhbfleegaa
open Go Go.RowKit

section
variable {P : Program} {ops : Array Oper} {Q : Exit → Act → World → Prop}
def isReadP (o : Oper) : Bool := match o.op with
  | .load .. | .fieldAddr .. | .indexAddr .. | .extract .. | .move .. | .binOp .. | .convert .. | .build .. => true
  | _ => false
theorem readP_value {o : Oper} (h : isReadP o = true) (ρ : Operand → Value) (w w' : World) (n : Next) (hr : (execOp ρ o).run P w = .ok n w') : ∃ u, n = .value u := by
  cases ho : o.op
  case load => unfold execOp at hr; rw [ho] at hr; exact run_val hr
  case fieldAddr => unfold execOp at hr; rw [ho] at hr; exact run_val hr
  case indexAddr => unfold execOp at hr; rw [ho] at hr; exact run_val hr
  case extract => unfold execOp at hr; rw [ho] at hr; exact run_val hr
  case move => unfold execOp at hr; rw [ho] at hr; exact ⟨_, (Result.ok.inj hr).1.symm⟩
  case binOp => unfold execOp at hr; rw [ho] at hr; exact run_val hr
  case convert => unfold execOp at hr; rw [ho] at hr; exact run_val hr
  case build => unfold execOp at hr; rw [ho] at hr; exact run_val hr
  all_goals (unfold isReadP at h; rw [ho] at h; cases h)
theorem yieldsIf_of_quietP {S : World → Prop} {o : Oper} {a : Act} {K : Act → Prop} (hr : isReadP o = true) (h : if Region.wanted o (yielded ops a.tmps) then o.quiet P a S K else K (a.put o.dst undef)) : ∃ v, YieldsIf P ops S o v a ∧ K (a.put o.dst v) := by
  by_cases hw : Region.wanted o (yielded ops a.tmps) = true
  · rw [if_pos hw] at h
    obtain ⟨v, h1, h2⟩ := h
    refine ⟨v, Or.inl ⟨hw, fun w hS => ?_⟩, h2⟩
    have h3 := h1 w hS
    unfold Oper.quietAt at h3
    cases hq : (execOp a.eval o).run P w with
    | ok n w' =>
      obtain ⟨u, rfl⟩ := readP_value hr _ _ _ _ hq
      rw [hq] at h3
      simp only [Oper.quietUpon] at h3
      rw [h3.1, h3.2]
    | halt x w' => rw [hq] at h3; simp only [Oper.quietUpon] at h3
  · rw [if_neg hw] at h
    exact ⟨undef, Or.inr ⟨by simpa using hw, rfl⟩, h⟩
def lexP (ops : Array Oper) : List Nat → List Oper → Array Bool → Bool
  | [], [], _ => true
  | i :: js, o :: l, listed => isReadP o && (Region.ready .any ops listed).contains i && Region.free .any ops listed i && lexP ops js l (listed.setIfInBounds i true)
  | _, _, _ => false
theorem wpAnyH_readsP {S : World → Prop} {K : Act → Prop} {rest : Nat} {w : World} (hs : Region.noSelect ops = true) (hQ : ∀ c a d v w, Q (.panic c) (Act.put a d v) w → Q (.panic c) a w) (hS : S w) : ∀ (js : List Nat) (l : List Oper) (listed : Array Bool) (a : Act), (∀ j, j < l.length → ∃ i, js[j]? = some i ∧ ops[i]? = l[j]?) →
    lexP ops js l listed = true → wpQuiet P ops S K l a → (∀ a', K a' → wpAnyH P .any ops Q S rest (listedI js listed) a' w) → wpAnyH P .any ops Q S (js.length + rest) listed a w
  | [], [], _, _, _, _, h, hK => by simpa [listedI] using hK _ h
  | [], _ :: _, _, _, _, hB, _, _ => by simp [lexP] at hB
  | _ :: _, [], _, _, _, hB, _, _ => by simp [lexP] at hB
  | i :: js, o :: l, listed, a, hl, hB, h, hK => by
    have h0 : ops[i]? = some o := by
      obtain ⟨i', h1, h2⟩ := hl 0 (by simp)
      have : i = i' := by simpa using h1
      subst this
      simpa using h2
    simp only [lexP, Bool.and_eq_true] at hB
    obtain ⟨⟨⟨hr, hc⟩, hf⟩, hB'⟩ := hB
    have h' : if Region.wanted o (yielded ops a.tmps) then o.quiet P a S (wpQuiet P ops S K l) else wpQuiet P ops S K l (a.put o.dst undef) := h
    obtain ⟨v, hy, hk⟩ := yieldsIf_of_quietP (ops := ops) hr h'
    rw [show (i :: js).length + rest = (js.length + rest) + 1 by simp; omega]
    exact wpAnyH_take h0 hs hf hc (fun c a w => hQ c a _ _ w) hy hS (wpAnyH_readsP hs hQ hS js l _ _ (fun j hj => by
      obtain ⟨i', h1, h2⟩ := hl (j + 1) (by simp; omega)
      exact ⟨i', by simpa using h1, by simpa using h2⟩) hB' hk hK)
/-- A region that draws: first all that only reads. -/
theorem wp_region_readsP {id : Nat} {a : Act} {w : World} {l : List Oper} (S : World → Prop) (js : List Nat) (rest : Nat) (hm : P.follows .mixedOrders = true) (hlen : l.length = js.length + rest) (hB : (Region.noSelect l.toArray && lexP l.toArray js (js.filterMap (l[·]?)) (Array.replicate l.length false)) = true) (hj : ∀ j, j < (js.filterMap (l[·]?)).length → ∃ i, js[j]? = some i ∧ l.toArray[i]? = (js.filterMap (l[·]?))[j]?)
    (hQ : ∀ c a d v w, Q (.panic c) (Act.put a d v) w → Q (.panic c) a w) (hS : S w.drew)
    (h : wpQuiet P l.toArray (fun u => ∃ x : Wd S, u = x.w) (fun a' => wpAnyH P .any l.toArray Q S rest (listedI js (Array.replicate l.length false)) a' w.drew) (js.filterMap (l[·]?)) a) : (Code.region id l.toArray true).wp P Q a w := by
  simp only [Bool.and_eq_true] at hB
  refine wp_region_held_drew (S := S) hm hS fun hS => ?_
  have e3 : Array.replicate l.toArray.size false = Array.replicate l.length false := by simp
  have e2 : l.toArray.size = js.length + rest := by simpa using hlen
  have eS : (fun u : World => ∃ x : Wd S, u = x.w) = S := by
    funext u; apply propext
    exact ⟨fun ⟨x, hx⟩ => hx ▸ x.2, fun h => ⟨⟨u, h⟩, rfl⟩⟩
  rw [eS] at h
  rw [e3, e2]
  exact wpAnyH_readsP hB.1 hQ hS js _ _ a hj hB.2 h (fun a' h => h)
end
theorem wp_region_readsPN {P : Program} {Q : Exit → Act → World → Prop} {id : Nat} {a : Act} {w : World} {l : List Oper} (S : World → Prop) (js : List Nat) (rest : Nat) (hm : P.follows .mixedOrders = true) (hlen : l.length = js.length + rest) (hB : (Region.noSelect l.toArray && lexP l.toArray js (js.filterMap (l[·]?)) (Array.replicate l.length false)) = true) (hj : ∀ j, j < (js.filterMap (l[·]?)).length → ∃ i, js[j]? = some i ∧ l.toArray[i]? = (js.filterMap (l[·]?))[j]?)
    (hS : S w.drew)
    (h : wpQuiet P l.toArray (fun u => ∃ x : Wd S, u = x.w) (fun a' => wpAnyH P .any l.toArray (NoPanM Q) S rest (listedI js (Array.replicate l.length false)) a' w.drew) (js.filterMap (l[·]?)) a) : (Code.region id l.toArray true).wp P Q a w :=
  Code.wp_mono (fun _ _ _ h => h.2) (wp_region_readsP S js rest hm hlen hB hj (fun c _ _ _ _ h => absurd rfl (h.1 c)) hS h)
end Go.Proofs.Ytcnepnhbfleegaa
