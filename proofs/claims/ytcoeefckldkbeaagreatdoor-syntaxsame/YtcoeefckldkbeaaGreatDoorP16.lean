/- Layer 6: the reader's head: what is taken and given. -/
import Derived.Test.YtcoeefckldkbeaaGreatDoorP15
import Derived.Test.YtcoeefckldkbeaaGreatDoorP13
namespace Go.Proofs.YtcoeefckldkbeaaGreatDoor
open Go Go.RowKit

def StopH (p : Prop) : Prop := p
theorem StopH.go {p : Prop} (h : StopH p) : p := h
theorem StopH.mk {p : Prop} (h : p) : StopH p := h
def tyL (i : Nat) : List Value := [.int .i64 1, .int .i64 i, .slice none 0 0, .int .i64 0, .int .i64 0]
def tyZ : List Value := [.int .i64 0, .int .i64 0, .slice none 0 0, .int .i64 0, .int .i64 0]
/-- Two results that are types, in blocks A and A + 1. -/
structure H2 (w wr : World) (p : Nat) (ts : List Tq) (L : Int) (n : Strs) (g : Grid) (a b : List Value) : Prop where
  r : Rd6 w wr p ts L n g
  a : Blk wr w.heap.size a 24
  b : Blk wr (w.heap.size + 1) b 24
theorem H2.move {w wr w' : World} {p : Nat} {ts us : List Tq} {L : Int} {n : Strs} {g : Grid} {a b : List Value} (h : H2 w wr p ts L n g a b) (hr : Rp w' p us L (.slice n.ao n.len n.cap) (.slice g.ao g.len g.cap)) (hg : wr.grownBy w' (some p)) : H2 w w' p us L n g a b :=
  ⟨h.r.move hr hg, h.a.gb hg (by have := h.r.hp; omega), h.b.gb hg (by have := h.r.hp; omega)⟩
theorem H2.setA {w wr w' : World} {p : Nat} {ts : List Tq} {L : Int} {n : Strs} {g : Grid} {a a' b : List Value} (h : H2 w wr p ts L n g a b) (k : WroteB wr w' w.heap.size a' 24) : H2 w w' p ts L n g a' b :=
  ⟨h.r.new (k.below (Nat.le_refl _) (Below.refl _ _)), k.blk, k.keep h.b (by omega)⟩
theorem H2.setB {w wr w' : World} {p : Nat} {ts : List Tq} {L : Int} {n : Strs} {g : Grid} {a b b' : List Value} (h : H2 w wr p ts L n g a b) (k : WroteB wr w' (w.heap.size + 1) b' 24) : H2 w w' p ts L n g a b' :=
  ⟨h.r.new (k.below (by omega) (Below.refl _ _)), k.keep h.a (by omega), k.blk⟩
theorem wp_store_wroteS {o : Oper} {a : Act} {w : World} {K : Act → World → Prop} {Q : Exit → Act → World → Prop} (t : TypeId) (p x : Operand) (ho : o.op = .store t p x) (hdst : o.dst = none) (B : Nat) (vs c : List Value) (hp : a.eval p = .pointer (some ⟨B, 0, none⟩)) (hx : a.eval x = .agg vs.toArray) (h1 : vs.all (·.oneCell') = true)
    (hb : Blk w B c t) (hl : c.length = vs.length) (hi : (Tryz.prog.info? t).map (·.size) = some vs.toArray.size) (h : ∀ w', WroteB w w' B vs t → K a w') : o.wp Tryz.prog a w K Q :=
  wp_store_blk t p x ho hdst B vs c hp hx h1 hb hl hi (h _ (wrote_setCells hb vs hl))
set_option maxRecDepth 100000 in
set_option maxHeartbeats 4000000 in
theorem rHead_int (a1 a2 a3 b1 b2 b3 c1 c2 d1 d2 d3 e1 : Tq) (ts : List Tq) (L : Int) (n : Strs) (g : Grid) (p i j : Nat) (w : World) (h : Rd6 w w p (a1 :: a2 :: a3 :: b1 :: b2 :: b3 :: c1 :: c2 :: d1 :: d2 :: d3 :: e1 :: ts) L n g)
    (ha1 : (a1.s.toList == (⟨#[40]⟩ : ByteArray).toList) = true) (ha2 : a2.k = 1) (ha3 : (a3.s.toList == (⟨#[58]⟩ : ByteArray).toList) = true)
    (hb1 : (b1.s.toList == (⟨#[105, 110, 116]⟩ : ByteArray).toList) = true) (hb2 : (b2.s.toList == (⟨#[64]⟩ : ByteArray).toList) = true) (hb3 : b3.k = 1) (hi : findN n g b3.s = i) (hin : i < n.len)
    (hc1 : (c1.s.toList == (⟨#[41]⟩ : ByteArray).toList) = true) (hc2 : (c2.s.toList == (⟨#[58]⟩ : ByteArray).toList) = true)
    (hd1 : (d1.s.toList == (⟨#[105, 110, 116]⟩ : ByteArray).toList) = true) (hd2 : (d2.s.toList == (⟨#[64]⟩ : ByteArray).toList) = true) (hd3 : d3.k = 1) (hj : findN n g d3.s = j) (hjn : j < n.len) (he1 : (e1.s.toList == (⟨#[33]⟩ : ByteArray).toList) = true) :
    Calls Tryz.prog 40 #[.pointer (some ⟨p, 0, none⟩)] w fun e w' => e = .returned (.tuple #[.string a2.s, .agg (tyL i).toArray, .agg (tyL j).toArray]) ∧ Rd6 w w' p ts L n g := by
  have H := allocs_heap [.cells tyZ.toArray 24, .cells tyZ.toArray 24] w
  have B0 := allocs_below [.cells tyZ.toArray 24, .cells tyZ.toArray 24] w
  simp only [List.foldl] at H B0
  have HI : Hid (H2 w _ p (a1 :: a2 :: a3 :: b1 :: b2 :: b3 :: c1 :: c2 :: d1 :: d2 :: d3 :: e1 :: ts) L n g tyZ tyZ) := ⟨h.kept B0, H 0 (by simp), H 1 (by simp)⟩
  clear H B0 h
  unfold tyZ at HI
  go_enter Tryz.func40, Tryz.ntmps40
  go_upto_region 1 with fail
  generalize (w.alloc (.cells [.int .i64 0, .int .i64 0, .slice none 0 0, .int .i64 0, .int .i64 0].toArray 24)).alloc (.cells [.int .i64 0, .int .i64 0, .slice none 0 0, .int .i64 0, .int .i64 0].toArray 24) = w1 at *
  have hD := need1 _ a1 _ L _ _ p w1 HI.out.r.r ha1
  go_wp2_with fail
  refine hD.mono ?_
  rintro _ w2 ⟨rfl, hR, hg⟩
  have HI2 := show Hid _ from HI.out.move hR hg
  clear HI hR hg hD
  have hN := rName_any a2 _ L _ _ p w2 HI2.out.r.r ha2
  go_wp2_with fail
  refine hN.mono ?_
  rintro _ w3 ⟨rfl, hR, hg⟩
  have HI3 := show Hid _ from HI2.out.move hR hg
  clear HI2 hR hg hN
  have hD := need1 _ a3 _ L _ _ p w3 HI3.out.r.r ha3
  go_wp2_with fail
  refine hD.mono ?_
  rintro _ w4 ⟨rfl, hR, hg⟩
  have HI4 := show Hid _ from HI3.out.move hR hg
  clear HI3 hR hg hD
  have hT := rTyp_int b1 b2 b3 _ L n g p i w4 HI4.out.r.start hb1 hb2 hb3 hi hin
  go_wp2_with fail
  refine hT.mono ?_
  rintro _ w5 ⟨rfl, k⟩
  have HI5 := show Hid _ from HI4.out.move k.r k.gb
  clear HI4 k hT
  go_wp2_with (refine wpList_store_blk rfl rfl 24 (.tmp 3) (.tmp 14) rfl w.heap.size (tyL i) (by kernel_rfl) (by kernel_rfl) rfl HI5.out.a rfl (by kernel_rfl) ?_; intro w6 W6; refine StopH.go ?_)
  refine StopH.mk ?_
  have HI6 := show Hid _ from HI5.out.setA W6
  clear HI5 W6
  have hD := need2 ⟨#[41]⟩ ⟨#[58]⟩ c1 c2 _ L _ _ p w6 HI6.out.r.r hc1 hc2
  go_wp2_with fail
  refine hD.mono ?_
  rintro _ w7 ⟨rfl, hR, hg⟩
  have HI7 := show Hid _ from HI6.out.move hR hg
  clear HI6 hR hg hD
  have hT := rTyp_int d1 d2 d3 _ L n g p j w7 HI7.out.r.start hd1 hd2 hd3 hj hjn
  go_wp2_with fail
  refine hT.mono ?_
  rintro _ w8 ⟨rfl, k⟩
  have HI8 := show Hid _ from HI7.out.move k.r k.gb
  clear HI7 k hT
  go_wp2_with (refine wpList_store_blk rfl rfl 24 (.tmp 4) (.tmp 19) rfl (w.heap.size + 1) (tyL j) (by kernel_rfl) (by kernel_rfl) rfl HI8.out.b rfl (by kernel_rfl) ?_; intro w9 W9; refine StopH.go ?_)
  refine StopH.mk ?_
  have HI9 := show Hid _ from HI8.out.setB W9
  clear HI8 W9
  have hD := need1 ⟨#[33]⟩ e1 _ L _ _ p w9 HI9.out.r.r he1
  go_wp2_with fail
  refine hD.mono ?_
  rintro _ wa ⟨rfl, hR, hg⟩
  have HA := show Hid _ from HI9.out.move hR hg
  clear HI9 hR hg hD
  go_upto_region 8 with fail
  have HD : Hid (H2 w wa.drew p ts L n g (tyL i) (tyL j)) := by
    have b : Below wa.heap.size wa wa.drew := (Below.refl _ _).drew
    exact ⟨HA.out.r.kept b, HA.out.a.kept b, HA.out.b.kept b⟩
  refine wp_region_readsMN (fun q : World => Blk q w.heap.size (tyL i) 24 ∧ Blk q (w.heap.size + 1) (tyL j) 24) [0, 1, 2] 3 (by kernel_rfl) rfl (by kernel_rfl) (fun j hj => ?_) ⟨HD.out.a, HD.out.b⟩ ?_
  · have hj3 : j < 3 := hj
    match j, hj3 with
    | 0, _ => exact ⟨_, rfl, rfl⟩
    | 1, _ => exact ⟨_, rfl, rfl⟩
    | 2, _ => exact ⟨_, rfl, rfl⟩
  have hNE : Nonempty (Wd (fun q : World => Blk q w.heap.size (tyL i) 24 ∧ Blk q (w.heap.size + 1) (tyL j) 24)) := ⟨⟨wa.drew, HD.out.a, HD.out.b⟩⟩
  have f0 : ∀ z : Wd (fun q : World => Blk q w.heap.size (tyL i) 24 ∧ Blk q (w.heap.size + 1) (tyL j) 24), z.w.cell? ⟨w.heap.size, 0, none⟩ = some (.int .i64 1) := fun z => Blk.cell z.2.1 0 rfl
  have f1 : ∀ z : Wd (fun q : World => Blk q w.heap.size (tyL i) 24 ∧ Blk q (w.heap.size + 1) (tyL j) 24), z.w.cell? ⟨w.heap.size, 1, none⟩ = some (.int .i64 i) := fun z => Blk.cell z.2.1 1 rfl
  have f2 : ∀ z : Wd (fun q : World => Blk q w.heap.size (tyL i) 24 ∧ Blk q (w.heap.size + 1) (tyL j) 24), z.w.cell? ⟨w.heap.size, 2, none⟩ = some (.slice none 0 0) := fun z => Blk.cell z.2.1 2 rfl
  have f3 : ∀ z : Wd (fun q : World => Blk q w.heap.size (tyL i) 24 ∧ Blk q (w.heap.size + 1) (tyL j) 24), z.w.cell? ⟨w.heap.size, 3, none⟩ = some (.int .i64 0) := fun z => Blk.cell z.2.1 3 rfl
  have f4 : ∀ z : Wd (fun q : World => Blk q w.heap.size (tyL i) 24 ∧ Blk q (w.heap.size + 1) (tyL j) 24), z.w.cell? ⟨w.heap.size, 4, none⟩ = some (.int .i64 0) := fun z => Blk.cell z.2.1 4 rfl
  have g0 : ∀ z : Wd (fun q : World => Blk q w.heap.size (tyL i) 24 ∧ Blk q (w.heap.size + 1) (tyL j) 24), z.w.cell? ⟨w.heap.size + 1, 0, none⟩ = some (.int .i64 1) := fun z => Blk.cell z.2.2 0 rfl
  have g1 : ∀ z : Wd (fun q : World => Blk q w.heap.size (tyL i) 24 ∧ Blk q (w.heap.size + 1) (tyL j) 24), z.w.cell? ⟨w.heap.size + 1, 1, none⟩ = some (.int .i64 j) := fun z => Blk.cell z.2.2 1 rfl
  have g2 : ∀ z : Wd (fun q : World => Blk q w.heap.size (tyL i) 24 ∧ Blk q (w.heap.size + 1) (tyL j) 24), z.w.cell? ⟨w.heap.size + 1, 2, none⟩ = some (.slice none 0 0) := fun z => Blk.cell z.2.2 2 rfl
  have g3 : ∀ z : Wd (fun q : World => Blk q w.heap.size (tyL i) 24 ∧ Blk q (w.heap.size + 1) (tyL j) 24), z.w.cell? ⟨w.heap.size + 1, 3, none⟩ = some (.int .i64 0) := fun z => Blk.cell z.2.2 3 rfl
  have g4 : ∀ z : Wd (fun q : World => Blk q w.heap.size (tyL i) 24 ∧ Blk q (w.heap.size + 1) (tyL j) 24), z.w.cell? ⟨w.heap.size + 1, 4, none⟩ = some (.int .i64 0) := fun z => Blk.cell z.2.2 4 rfl
  clear HA
  generalize wa.drew = wb at *
  simp only [List.filterMap, List.getElem?_cons_zero, List.getElem?_cons_succ]
  repeat go_big_quiet_step (fail)
  refine wpQuiet_nil ?_
  clear f0 f1 f2 f3 f4 g0 g1 g2 g3 g4 hNE
  refine wpAnyH_ready (rs := [3]) (by kernel_rfl) (by simp) ?_
  refine AllReadyH.cons rfl (fun K hK => ?_) AllReadyH.nil
  rw [if_pos (by rfl)]
  go_simp
  refine hK.out _ _ ⟨HD.out.a, HD.out.b⟩ (fun _ => ?_)
  clear hK K
  refine wpAnyH_ready (rs := [4]) (by kernel_rfl) (by simp) ?_
  refine AllReadyH.cons rfl (fun K hK => ?_) AllReadyH.nil
  rw [if_pos (by rfl)]
  refine wp_store_wroteS 24 (.tmp 3) (.tmp 24) rfl rfl w.heap.size (tyL i) _ (by kernel_rfl) (by kernel_rfl) rfl HD.out.a rfl (by kernel_rfl) (fun u1 W1 => ?_)
  have HE := show Hid _ from HD.out.setA W1
  refine hK.out _ _ ⟨HE.out.a, HE.out.b⟩ (fun _ => ?_)
  clear hK K HD W1
  refine wpAnyH_ready (rs := [5]) (by kernel_rfl) (by simp) ?_
  refine AllReadyH.cons rfl (fun K hK => ?_) AllReadyH.nil
  rw [if_pos (by rfl)]
  refine wp_store_wroteS 24 (.tmp 4) (.tmp 25) rfl rfl (w.heap.size + 1) (tyL j) _ (by kernel_rfl) (by kernel_rfl) rfl HE.out.b rfl (by kernel_rfl) (fun u2 W2 => ?_)
  have HF := show Hid _ from HE.out.setB W2
  refine hK.out _ _ ⟨HF.out.a, HF.out.b⟩ (fun _ => ?_)
  clear hK K HE W2
  refine wpAnyH_done (by kernel_rfl) ?_ _
  refine ⟨(fun c hc => by cases hc), ?_⟩
  go_wp2
  have x0 := HF.out.a.cell 0 rfl
  have y0 := HF.out.b.cell 0 rfl
  have x1 := HF.out.a.cell 1 rfl
  have y1 := HF.out.b.cell 1 rfl
  have x2 := HF.out.a.cell 2 rfl
  have y2 := HF.out.b.cell 2 rfl
  have x3 := HF.out.a.cell 3 rfl
  have y3 := HF.out.b.cell 3 rfl
  have x4 := HF.out.a.cell 4 rfl
  have y4 := HF.out.b.cell 4 rfl
  exact bodyPost_ret (v := .tuple #[.string a2.s, .agg (tyL i).toArray, .agg (tyL j).toArray]) (by simp [results, Tryz.results40, go_sem, tyL, x0, x1, x2, x3, x4, y0, y1, y2, y3, y4]) rfl ⟨rfl, HF.out.r⟩
end Go.Proofs.YtcoeefckldkbeaaGreatDoor

/- Layer 6: expressions that are made; the reader's atoms. -/
namespace Go.Proofs.YtcoeefckldkbeaaGreatDoor
open Go Go.RowKit

def zTS : Ty := .mk 0 0 0 0 none 0 0 0 0 fun _ => .dm
/-- What made makes. -/
def mdE (k pl : Int) (ao : Option Addr) (b len cap : Nat) (ps : Nat → Ex) : Ex := .mk k 0 0 ⟨#[]⟩ ⟨#[]⟩ zTS zTS ao b 0 len cap ps pl
theorem run_build_md (k pl : Int) (ao : Option Addr) (b len cap : Nat) (ps : Nat → Ex) (w : World) : (Instr.build 27 #[(0, .int .i64 k), (7, .slice ao len cap), (8, .int .i64 pl)]).run Tryz.prog w = .ok (.agg (mdE k pl ao b len cap ps).va) w := by kernel_rfl
theorem wpList_buildS {ops : Array Oper} {rest : List Oper} {o : Oper} {a : Act} {w w' : World} {v : Value} {Q : Exit → Act → World → Prop} (hgd : o.guard = none) (t : TypeId) (parts : Array (Nat × Operand)) (ho : o.op = .build t parts) (vals : Array (Nat × Value)) (hv : (parts.map fun (i, x) => (i, a.eval x)) = vals)
    (hs : (Instr.build t vals).run Tryz.prog w = .ok v w') (h : wpList Tryz.prog ops Q rest (a.put o.dst v) w') : wpList Tryz.prog ops Q (o :: rest) a w := by
  subst hv
  refine wpList_plain hgd fun _ hK => ?_
  unfold Oper.wp execOp
  simp only [ho, Sem.run_bind, hs, Result.andThen_ok, Sem.run_pure]
  exact hK _ _ h
theorem exS_one (e : Ex) : e.vs.all (·.oneCell') = true := by simpa [Ex.va] using e.va_one
theorem loadVar_ex {w : World} {B : Nat} {e : Ex} (C : C17 w B 0 e) : (loadVar 27 ⟨B, 0, none⟩).run Tryz.prog w = .ok (.agg e.va) w := load_exV C
theorem results_ex {fn : Func} {tmps : Array Value} {k B : Nat} {e : Ex} {w : World} (hf : fn.results = #[.cell k 27]) (ht : tmps.getD k undef = .pointer (some ⟨B, 0, none⟩)) (C : C17 w B 0 e) : (results fn tmps).run Tryz.prog w = .ok (.agg e.va) w := by
  have h := loadVar_ex C
  generalize e.va = v at h ⊢
  have ha : (asAddr (tmps[k]?.getD undef)).run Tryz.prog w = .ok ⟨B, 0, none⟩ w := by rw [show tmps[k]?.getD undef = .pointer (some ⟨B, 0, none⟩) by simpa using ht]; rfl
  unfold results
  rw [hf]
  simp [ha, h]
set_option maxRecDepth 100000 in
set_option maxHeartbeats 2000000 in
theorem made_any (k pl : Int) (ao : Option Addr) (b len cap : Nat) (ps : Nat → Ex) (w : World) : Calls Tryz.prog 84 #[.int .i64 k, .int .i64 pl, .slice ao len cap] w fun r w' => r = .returned (.agg (mdE k pl ao b len cap ps).va) ∧ Below w.heap.size w w' := by
  have B0 := below_alloc w (.cells zEx.toArray 27)
  have x0 : Blk (w.alloc (.cells zEx.toArray 27)) w.heap.size zEx 27 := Blk.new _ _ _
  go_enter Tryz.func84, Tryz.ntmps84
  go_wp2_with (first | (refine wpList_buildS rfl 27 #[(0, .tmp 7), (7, .tmp 8), (8, .tmp 9)] rfl _ (by kernel_rfl) (run_build_md k pl ao b len cap ps _) ?_) | (refine wpList_store_blk rfl rfl 27 (.tmp 6) (.tmp 10) rfl w.heap.size (mdE k pl ao b len cap ps).vs (by kernel_rfl) (by kernel_rfl) (exS_one _) x0 rfl (by kernel_rfl) ?_; intro w2 W2))
  have C := C17.of_range W2.blk.range
  exact bodyPost_ret (v := .agg (mdE k pl ao b len cap ps).va) (results_ex Tryz.results84 rfl C) rfl ⟨rfl, W2.below (Nat.le_refl _) B0⟩
theorem newS_slice2 {ops : Array Oper} {rest : List Oper} {o : Oper} {a : Act} {w : World} {Q : Exit → Act → World → Prop} (hgd : o.guard = none) (x y : Operand) (ho : o.op = .buildSlice 25 2 #[(0, x), (1, y)]) (s t : Ex) (hv : (#[(0, x), (1, y)].map fun (i, x) => (i, a.eval x)) = #[(0, .agg s.va), (1, .agg t.va)])
    (h : ∀ w', Blk w' w.heap.size (s.vs ++ t.vs) 27 → Below w.heap.size w w' → wpList Tryz.prog ops Q rest (a.put o.dst (.slice (some ⟨w.heap.size, 0, none⟩) 2 2)) w') : wpList Tryz.prog ops Q (o :: rest) a w :=
  wpList_slice hgd 25 2 _ ho _ hv (run_slice2_ex s t w) (h _ (by rw [show s.va ++ t.va = (s.vs ++ t.vs).toArray by unfold Ex.va; simp]; exact Blk.new _ _ _) (below_alloc _ _))
/-- What joined makes. -/
def jnE (k : Int) (B : Nat) (f s : Ex) : Ex := mdE k f.pl (some ⟨B, 0, none⟩) B 2 2 (fun i => match i with | 0 => f | _ => s)
set_option maxRecDepth 100000 in
set_option maxHeartbeats 4000000 in
theorem joined_any (k : Int) (f s : Ex) (w : World) : Calls Tryz.prog 59 #[.int .i64 k, .agg f.va, .agg s.va] w fun r w' => ∃ B, r = .returned (.agg (jnE k B f s).va) ∧ Blk w' B (f.vs ++ s.vs) 27 ∧ w.heap.size ≤ B ∧ Below w.heap.size w w' := by
  have H := allocs_heap [.cells f.va 27, .cells s.va 27, .cells zEx.toArray 27] w
  have B0 := allocs_below [.cells f.va 27, .cells s.va 27, .cells zEx.toArray 27] w
  simp only [List.foldl] at H B0
  have HI : Hid (Blk _ w.heap.size f.vs 27 ∧ Blk _ (w.heap.size + 1) s.vs 27 ∧ Blk _ (w.heap.size + 2) zEx 27 ∧ Below w.heap.size w _) := ⟨H 0 (by simp), H 1 (by simp), H 2 (by simp), B0⟩
  clear H B0
  unfold zEx at HI
  go_enter Tryz.func59, Tryz.ntmps59
  go_upto_region 1 with fail
  generalize ((w.alloc (.cells f.va 27)).alloc (.cells s.va 27)).alloc (.cells [.int .i64 0, .int .i64 0, .int .i64 0, .string ⟨#[]⟩, .string ⟨#[]⟩, .int .i64 0, .int .i64 0, .slice none 0 0, .int .i64 0, .int .i64 0, .int .i64 0, .int .i64 0, .slice none 0 0, .int .i64 0, .int .i64 0, .slice none 0 0, .int .i64 0].toArray 27) = w1 at *
  have x16 := HI.out.1.cell 16 (v := .int .i64 f.pl) rfl
  go_wp2_with (refine wpList_load_ex rfl (.tmp 4) rfl w.heap.size 0 (by kernel_rfl) f (C17.of_range HI.out.1.range) ?_; refine StopH.go ?_)
  refine StopH.mk ?_
  refine wpList_load_ex rfl (.tmp 5) rfl (w.heap.size + 1) 0 (by kernel_rfl) s (C17.of_range HI.out.2.1.range) ?_
  refine newS_slice2 rfl (.tmp 10) (.tmp 11) rfl f s (by kernel_rfl) ?_
  intro w2 p2 k2
  have HI2 : Hid (Blk w2 (w.heap.size + 2) _ 27 ∧ Below w.heap.size w w2 ∧ w.heap.size + 2 < w1.heap.size) := ⟨HI.out.2.2.1.kept k2, Below.next HI.out.2.2.2 k2, HI.out.2.2.1.lt⟩
  have hM := made_any k f.pl (some ⟨w1.heap.size, 0, none⟩) w1.heap.size 2 2 (fun i => match i with | 0 => f | _ => s) w2
  clear HI x16 k2
  go_wp2_with fail
  refine hM.mono ?_
  rintro _ w3 ⟨rfl, hb⟩
  have p3 := p2.kept hb
  have HI3 : Hid (Blk w3 (w.heap.size + 2) _ 27 ∧ Below w.heap.size w w3 ∧ w.heap.size + 2 < w1.heap.size) := ⟨HI2.out.1.kept hb, Below.next HI2.out.2.1 hb, HI2.out.2.2⟩
  clear hM p2 HI2 hb
  have hlt := HI3.out.2.2
  go_wp2_with (refine wpList_store_blk rfl rfl 27 (.tmp 6) (.tmp 13) rfl (w.heap.size + 2) (jnE k w1.heap.size f s).vs (by kernel_rfl) (by kernel_rfl) (exS_one _) HI3.out.1 rfl (by kernel_rfl) ?_; intro w4 W4)
  exact bodyPost_ret (v := .agg (jnE k w1.heap.size f s).va) (results_ex Tryz.results59 rfl (C17.of_range W4.blk.range)) rfl ⟨w1.heap.size, rfl, W4.keep p3 (by omega), by omega, W4.below (by omega) HI3.out.2.1⟩
end Go.Proofs.YtcoeefckldkbeaaGreatDoor

/- Layer 6: the reader's atoms: a name, a number. -/
namespace Go.Proofs.YtcoeefckldkbeaaGreatDoor
open Go Go.RowKit

def zExE : List Value := [.int .i64 0, .int .i64 0, .int .i64 0, .string ⟨#[]⟩, .string ⟨#[]⟩, .int .i64 0, .int .i64 0, .slice none 0 0, .int .i64 0, .int .i64 0, .int .i64 0, .int .i64 0, .slice none 0 0, .int .i64 0, .int .i64 0, .slice none 0 0, .int .i64 0]
def vrE (s : ByteArray) (pl : Int) : Ex := .mk 3 0 0 s ⟨#[]⟩ zTS zTS none 0 0 0 0 (fun _ => .dm) pl
def nuE (n pl : Int) : Ex := .mk 1 n 0 ⟨#[]⟩ ⟨#[]⟩ zTS zTS none 0 0 0 0 (fun _ => .dm) pl
theorem newS_ex {ops : Array Oper} {rest : List Oper} {o1 o2 : Oper} {a : Act} {w : World} {Q : Exit → Act → World → Prop} (hg1 : o1.guard = none) (hg2 : o2.guard = none) (h1 : o1.op = .alloc 27) (x y : Operand) (h2 : o2.op = .store 27 x y) (hd2 : o2.dst = none)
    (hx : (a.put o1.dst (.pointer (some ⟨w.heap.size, 0, none⟩))).eval x = .pointer (some ⟨w.heap.size, 0, none⟩)) (e : Ex) (hy : (a.put o1.dst (.pointer (some ⟨w.heap.size, 0, none⟩))).eval y = .agg e.va)
    (h : ∀ w', Blk w' w.heap.size e.vs 27 → Below w.heap.size w w' → wpList Tryz.prog ops Q rest (a.put o1.dst (.pointer (some ⟨w.heap.size, 0, none⟩))) w') : wpList Tryz.prog ops Q (o1 :: o2 :: rest) a w :=
  wpList_new_ex hg1 hg2 h1 x y h2 hd2 hx e hy (h _ (Blk.new _ _ _) (below_alloc _ _))
/-- Where an atom stands: the result's block, the word's, the expression's. -/
structure At6 (w wr : World) (p : Nat) (ts : List Tq) (L : Int) (x y : Value) (t : Tq) (c : List Value) (Y Z : Nat) : Prop where
  r : Rp wr p ts L x y
  gb : w.grownBy wr (some p)
  hp : p < w.heap.size
  b2 : Blk wr w.heap.size zExE 27
  b3 : Blk wr Y [.int .i64 t.k, .string t.s, .int .i64 t.n, .int .i64 t.a] 62
  b4 : Blk wr Z c 27
  lt : w.heap.size < Y ∧ Y < Z
theorem At6.move {w wr w' : World} {p : Nat} {ts us : List Tq} {L : Int} {x y : Value} {t : Tq} {c : List Value} {Y Z : Nat} (h : At6 w wr p ts L x y t c Y Z) (hr : Rp w' p us L x y) (hg : wr.grownBy w' (some p)) : At6 w w' p us L x y t c Y Z :=
  ⟨hr, gb_trans h.gb hg, h.hp, h.b2.gb hg (by have := h.hp; omega), h.b3.gb hg (by have := h.hp; have := h.lt; omega), h.b4.gb hg (by have := h.hp; have := h.lt; omega), h.lt⟩
theorem At6.set {w wr : World} {p : Nat} {ts : List Tq} {L : Int} {x y : Value} {t : Tq} {c : List Value} {Y Z : Nat} (h : At6 w wr p ts L x y t c Y Z) (i : Nat) (v : Value) : At6 w (wr.setCell ⟨Z, i, none⟩ v) p ts L x y t (c.set i v) Y Z := by
  have hb : Below w.heap.size wr (wr.setCell ⟨Z, i, none⟩ v) := (Below.refl _ _).setCell (show w.heap.size ≤ Z by have := h.lt; omega) _
  have e : ∀ {B : Nat} {d : List Value} {ty : TypeId}, B ≠ Z → Blk wr B d ty → Blk (wr.setCell ⟨Z, i, none⟩ v) B d ty := fun hne hk => by
    unfold Blk
    rw [Below.heap_setCell _ _ _ _ hne]
    exact hk
  exact ⟨h.r.below h.hp hb, gb_below h.gb hb, h.hp, e (by have := h.lt; omega) h.b2, e (by have := h.lt; omega) h.b3, h.b4.set i v, h.lt⟩
set_option maxRecDepth 100000 in
set_option maxHeartbeats 8000000 in
theorem rAtom_name (t : Tq) (ts : List Tq) (L : Int) (x y : Value) (p : Nat) (w : World) (h : Rp w p (t :: ts) L x y) (hk : t.k = 1) : Calls Tryz.prog 135 #[.pointer (some ⟨p, 0, none⟩)] w fun r w' => r = .returned (.agg (vrE t.s t.a).va) ∧ Rp w' p ts L x y ∧ w.grownBy w' (some p) := by
  have B0 := below_alloc w (.cells zExE.toArray 27)
  have z0 : Blk (w.alloc (.cells zExE.toArray 27)) w.heap.size zExE 27 := Blk.new _ _ _
  have hN := rNext_any _ L _ _ p _ (h.kept B0)
  rw [hd_cons] at hN
  unfold Tq.v at hN
  have HR : Hid (Rp _ p (t :: ts) L x y ∧ Blk _ w.heap.size zExE 27 ∧ Below w.heap.size w _ ∧ p < w.heap.size) := ⟨h.kept B0, z0, B0, h.lt⟩
  obtain ⟨tk, s, tn, ta⟩ := t
  simp only at hk hN
  subst hk
  clear h B0 z0
  unfold zExE at HR hN
  go_enter Tryz.func135, Tryz.ntmps135
  go_wp2_with fail
  refine hN.mono ?_
  rintro _ w1 ⟨rfl, hb⟩
  have b1 := below_alloc w1 (.cells #[.int .i64 1, .string s, .int .i64 tn, .int .i64 ta] 62)
  have HR1 : Hid (Rp (w1.alloc (.cells #[.int .i64 1, .string s, .int .i64 tn, .int .i64 ta] 62)) p (⟨1, s, tn, ta⟩ :: ts) L x y ∧ Blk (w1.alloc (.cells #[.int .i64 1, .string s, .int .i64 tn, .int .i64 ta] 62)) w.heap.size zExE 27 ∧ Below w.heap.size w (w1.alloc (.cells #[.int .i64 1, .string s, .int .i64 tn, .int .i64 ta] 62)) ∧ p < w.heap.size ∧ Blk (w1.alloc (.cells #[.int .i64 1, .string s, .int .i64 tn, .int .i64 ta] 62)) w1.heap.size [.int .i64 1, .string s, .int .i64 tn, .int .i64 ta] 62 ∧ w.heap.size < w1.heap.size) := ⟨(HR.out.1.kept hb).kept b1, (HR.out.2.1.kept hb).kept b1, Below.next (Below.next HR.out.2.2.1 hb) b1, HR.out.2.2.2, Blk.new _ _ _, (HR.out.2.1.kept hb).lt⟩
  clear hN HR hb b1
  go_upto_region 2 with fail
  generalize w1.alloc (.cells #[.int .i64 1, .string s, .int .i64 tn, .int .i64 ta] 62) = w2 at *
  generalize w1.heap.size = Y at *
  have y3 := HR1.out.2.2.2.2.1.cell 3 rfl
  have hM := made_any 0 ta none 0 0 0 (fun _ => .dm) w2
  go_wp2_with fail
  refine hM.mono ?_
  rintro _ w3 ⟨rfl, hb⟩
  clear hM y3
  go_wp2_with (refine newS_ex rfl rfl rfl (.tmp 4) (.tmp 9) rfl rfl (by kernel_rfl) (mdE 0 ta none 0 0 0 (fun _ => .dm)) (by kernel_rfl) ?_; intro w4 k4 b4; refine StopH.go ?_)
  refine StopH.mk ?_
  have HI : Hid (At6 w w4 p (⟨1, s, tn, ta⟩ :: ts) L x y ⟨1, s, tn, ta⟩ (mdE 0 ta none 0 0 0 (fun _ => .dm)).vs Y w3.heap.size) := ⟨(HR1.out.1.kept hb).kept b4, gb_of _ (Below.next (Below.next HR1.out.2.2.1 hb) b4), HR1.out.2.2.2.1, (HR1.out.2.1.kept hb).kept b4, (HR1.out.2.2.2.2.1.kept hb).kept b4, k4, HR1.out.2.2.2.2.2, (HR1.out.2.2.2.2.1.kept hb).lt⟩
  clear HR1 hb k4 b4
  generalize w3.heap.size = Z at *
  have y0 := HI.out.b3.cell 0 rfl
  have hT := rTake_any _ ts L x y p w4 HI.out.r
  unfold Tq.v at hT
  have hf1 := fld1 1 tn ta s
  go_wp2_with fail
  refine hT.mono ?_
  rintro _ w5 ⟨rfl, hR, hg⟩
  have HI5 : Hid (At6 w w5 p ts L x y ⟨1, s, tn, ta⟩ (mdE 0 ta none 0 0 0 (fun _ => .dm)).vs Y Z) := HI.out.move hR hg
  clear hT hR hg HI y0
  have c0 := HI5.out.b4.cell 0 (v := .int .i64 0) rfl
  have f0 := HI5.out.b4.frozen 0
  have c3 := HI5.out.b4.cell 3 (v := .string ⟨#[]⟩) rfl
  have f3 := HI5.out.b4.frozen 3
  have HI6 : Hid (At6 w ((w5.setCell ⟨Z, 0, none⟩ (.int .i64 3)).setCell ⟨Z, 3, none⟩ (.string s)) p ts L x y ⟨1, s, tn, ta⟩ (vrE s ta).vs Y Z) := (HI5.out.set 0 _).set 3 _
  clear HI5
  go_upto_region 16 with fail
  generalize (w5.setCell ⟨Z, 0, none⟩ (.int .i64 3)).setCell ⟨Z, 3, none⟩ (.string s) = w6 at *
  clear c0 f0 c3 f3
  go_wp2_with (first | (refine wpList_load_ex rfl (.tmp 4) rfl Z 0 (by kernel_rfl) (vrE s ta) (C17.of_range HI6.out.b4.range) ?_) | (refine wpList_store_blk rfl rfl 27 (.tmp 2) (.tmp 54) rfl w.heap.size (vrE s ta).vs (by kernel_rfl) (by kernel_rfl) (exS_one _) HI6.out.b2 rfl (by kernel_rfl) ?_; intro w7 W7))
  have bw : Below w.heap.size w6 w7 := W7.below (Nat.le_refl _) (Below.refl _ _)
  exact bodyPost_ret (v := .agg (vrE s ta).va) (results_ex Tryz.results135 rfl (C17.of_range W7.blk.range)) rfl ⟨rfl, HI6.out.r.below HI6.out.hp bw, gb_below HI6.out.gb bw⟩
set_option maxRecDepth 100000 in
set_option maxHeartbeats 8000000 in
theorem rAtom_num (t : Tq) (ts : List Tq) (L : Int) (x y : Value) (p : Nat) (w : World) (h : Rp w p (t :: ts) L x y) (hk : t.k = 3) : Calls Tryz.prog 135 #[.pointer (some ⟨p, 0, none⟩)] w fun r w' => r = .returned (.agg (nuE t.n t.a).va) ∧ Rp w' p ts L x y ∧ w.grownBy w' (some p) := by
  have B0 := below_alloc w (.cells zExE.toArray 27)
  have z0 : Blk (w.alloc (.cells zExE.toArray 27)) w.heap.size zExE 27 := Blk.new _ _ _
  have hN := rNext_any _ L _ _ p _ (h.kept B0)
  rw [hd_cons] at hN
  unfold Tq.v at hN
  have HR : Hid (Rp _ p (t :: ts) L x y ∧ Blk _ w.heap.size zExE 27 ∧ Below w.heap.size w _ ∧ p < w.heap.size) := ⟨h.kept B0, z0, B0, h.lt⟩
  obtain ⟨tk, s, tn, ta⟩ := t
  simp only at hk hN
  subst hk
  clear h B0 z0
  unfold zExE at HR hN
  go_enter Tryz.func135, Tryz.ntmps135
  go_wp2_with fail
  refine hN.mono ?_
  rintro _ w1 ⟨rfl, hb⟩
  have b1 := below_alloc w1 (.cells #[.int .i64 3, .string s, .int .i64 tn, .int .i64 ta] 62)
  have HR1 : Hid (Rp (w1.alloc (.cells #[.int .i64 3, .string s, .int .i64 tn, .int .i64 ta] 62)) p (⟨3, s, tn, ta⟩ :: ts) L x y ∧ Blk (w1.alloc (.cells #[.int .i64 3, .string s, .int .i64 tn, .int .i64 ta] 62)) w.heap.size zExE 27 ∧ Below w.heap.size w (w1.alloc (.cells #[.int .i64 3, .string s, .int .i64 tn, .int .i64 ta] 62)) ∧ p < w.heap.size ∧ Blk (w1.alloc (.cells #[.int .i64 3, .string s, .int .i64 tn, .int .i64 ta] 62)) w1.heap.size [.int .i64 3, .string s, .int .i64 tn, .int .i64 ta] 62 ∧ w.heap.size < w1.heap.size) := ⟨(HR.out.1.kept hb).kept b1, (HR.out.2.1.kept hb).kept b1, Below.next (Below.next HR.out.2.2.1 hb) b1, HR.out.2.2.2, Blk.new _ _ _, (HR.out.2.1.kept hb).lt⟩
  clear hN HR hb b1
  go_upto_region 2 with fail
  generalize w1.alloc (.cells #[.int .i64 3, .string s, .int .i64 tn, .int .i64 ta] 62) = w2 at *
  generalize w1.heap.size = Y at *
  have y3 := HR1.out.2.2.2.2.1.cell 3 rfl
  have hM := made_any 0 ta none 0 0 0 (fun _ => .dm) w2
  go_wp2_with fail
  refine hM.mono ?_
  rintro _ w3 ⟨rfl, hb⟩
  clear hM y3
  go_wp2_with (refine newS_ex rfl rfl rfl (.tmp 4) (.tmp 9) rfl rfl (by kernel_rfl) (mdE 0 ta none 0 0 0 (fun _ => .dm)) (by kernel_rfl) ?_; intro w4 k4 b4; refine StopH.go ?_)
  refine StopH.mk ?_
  have HI : Hid (At6 w w4 p (⟨3, s, tn, ta⟩ :: ts) L x y ⟨3, s, tn, ta⟩ (mdE 0 ta none 0 0 0 (fun _ => .dm)).vs Y w3.heap.size) := ⟨(HR1.out.1.kept hb).kept b4, gb_of _ (Below.next (Below.next HR1.out.2.2.1 hb) b4), HR1.out.2.2.2.1, (HR1.out.2.1.kept hb).kept b4, (HR1.out.2.2.2.2.1.kept hb).kept b4, k4, HR1.out.2.2.2.2.2, (HR1.out.2.2.2.2.1.kept hb).lt⟩
  clear HR1 hb k4 b4
  generalize w3.heap.size = Z at *
  have y0 := HI.out.b3.cell 0 rfl
  have hT := rTake_any _ ts L x y p w4 HI.out.r
  unfold Tq.v at hT
  have hf1 := fld2 3 tn ta s
  go_wp2_with fail
  refine hT.mono ?_
  rintro _ w5 ⟨rfl, hR, hg⟩
  have HI5 : Hid (At6 w w5 p ts L x y ⟨3, s, tn, ta⟩ (mdE 0 ta none 0 0 0 (fun _ => .dm)).vs Y Z) := HI.out.move hR hg
  clear hT hR hg HI y0
  have c0 := HI5.out.b4.cell 0 (v := .int .i64 0) rfl
  have f0 := HI5.out.b4.frozen 0
  have c3 := HI5.out.b4.cell 1 (v := .int .i64 0) rfl
  have f3 := HI5.out.b4.frozen 1
  have HI6 : Hid (At6 w ((w5.setCell ⟨Z, 0, none⟩ (.int .i64 1)).setCell ⟨Z, 1, none⟩ (.int .i64 tn)) p ts L x y ⟨3, s, tn, ta⟩ (nuE tn ta).vs Y Z) := (HI5.out.set 0 _).set 1 _
  clear HI5
  go_upto_region 16 with fail
  generalize (w5.setCell ⟨Z, 0, none⟩ (.int .i64 1)).setCell ⟨Z, 1, none⟩ (.int .i64 tn) = w6 at *
  clear c0 f0 c3 f3
  go_wp2_with (first | (refine wpList_load_ex rfl (.tmp 4) rfl Z 0 (by kernel_rfl) (nuE tn ta) (C17.of_range HI6.out.b4.range) ?_) | (refine wpList_store_blk rfl rfl 27 (.tmp 2) (.tmp 54) rfl w.heap.size (nuE tn ta).vs (by kernel_rfl) (by kernel_rfl) (exS_one _) HI6.out.b2 rfl (by kernel_rfl) ?_; intro w7 W7))
  have bw : Below w.heap.size w6 w7 := W7.below (Nat.le_refl _) (Below.refl _ _)
  exact bodyPost_ret (v := .agg (nuE tn ta).va) (results_ex Tryz.results135 rfl (C17.of_range W7.blk.range)) rfl ⟨rfl, HI6.out.r.below HI6.out.hp bw, gb_below HI6.out.gb bw⟩
end Go.Proofs.YtcoeefckldkbeaaGreatDoor

/- Layer 6: the reader's call, unary and product, of one atom. -/
namespace Go.Proofs.YtcoeefckldkbeaaGreatDoor
open Go Go.RowKit

/-- It reads one word as e, where what comes next is as told. -/
def RdE (f : FuncId) (t : Tq) (e : Ex) (ok : List Tq → Int → Prop) : Prop := ∀ (ts : List Tq) (L : Int) (x y : Value) (p : Nat) (w : World), Rp w p (t :: ts) L x y → ok ts L → Calls Tryz.prog f #[.pointer (some ⟨p, 0, none⟩)] w fun r w' => r = .returned (.agg e.va) ∧ Rp w' p ts L x y ∧ w.grownBy w' (some p)
/-- The result's block and a variable. -/
structure F2 (w wr : World) (p : Nat) (ts : List Tq) (L : Int) (x y : Value) (c : List Value) (Z : Nat) : Prop where
  r : Rp wr p ts L x y
  gb : w.grownBy wr (some p)
  hp : p < w.heap.size
  b2 : Blk wr w.heap.size zExE 27
  b3 : Blk wr Z c 27
  lt : w.heap.size < Z
theorem F2.kept {w wr w' : World} {p : Nat} {ts : List Tq} {L : Int} {x y : Value} {c : List Value} {Z : Nat} (h : F2 w wr p ts L x y c Z) (hb : Below wr.heap.size wr w') : F2 w w' p ts L x y c Z :=
  ⟨h.r.kept hb, gb_next h.gb hb, h.hp, h.b2.kept hb, h.b3.kept hb, h.lt⟩
theorem F2.move {w wr w' : World} {p : Nat} {ts us : List Tq} {L : Int} {x y : Value} {c : List Value} {Z : Nat} (h : F2 w wr p ts L x y c Z) (hr : Rp w' p us L x y) (hg : wr.grownBy w' (some p)) : F2 w w' p us L x y c Z :=
  ⟨hr, gb_trans h.gb hg, h.hp, h.b2.gb hg (by have := h.hp; omega), h.b3.gb hg (by have := h.hp; have := h.lt; omega), h.lt⟩
theorem F2.done {w wr w' : World} {p : Nat} {ts : List Tq} {L : Int} {x y : Value} {c d : List Value} {Z : Nat} {t : TypeId} (h : F2 w wr p ts L x y c Z) (W : WroteB wr w' w.heap.size d t) : Rp w' p ts L x y ∧ w.grownBy w' (some p) := by
  have bw : Below w.heap.size wr w' := W.below (Nat.le_refl _) (Below.refl _ _)
  exact ⟨h.r.below h.hp bw, gb_below h.gb bw⟩
def noP (l : List (List UInt8)) (s : ByteArray) : Prop := ∀ q ∈ l, (s.toList == (⟨q.toArray⟩ : ByteArray).toList) = false
set_option maxRecDepth 100000 in
set_option maxHeartbeats 4000000 in
theorem rCall_leaf (t : Tq) (e : Ex) (hA : RdE 135 t e fun _ _ => True) : RdE 130 t e fun ts L => noP [[40]] (hd ts L).s := by
  intro ts L x y p w h hq
  have B0 := below_alloc w (.cells zExE.toArray 27)
  have z0 : Blk (w.alloc (.cells zExE.toArray 27)) w.heap.size zExE 27 := Blk.new _ _ _
  have hC := hA ts L x y p _ (h.kept B0) trivial
  have hp := h.lt
  clear h
  unfold zExE at hC B0
  go_enter Tryz.func130, Tryz.ntmps130
  go_wp2_with fail
  refine hC.mono ?_
  rintro _ w1 ⟨rfl, hR, hg⟩
  have z1 := z0.gb hg (by omega)
  have g1 := gb_trans (gb_of (some p) B0) hg
  clear hC z0 B0 hg
  go_wp2_with (refine newS_ex rfl rfl rfl (.tmp 3) (.tmp 5) rfl rfl (by kernel_rfl) e (by kernel_rfl) ?_; intro w2 k2 b2; refine StopH.go ?_)
  refine StopH.mk ?_
  have HI : Hid (F2 w w2 p ts L x y e.vs w1.heap.size) := ⟨hR.kept b2, gb_next g1 b2, hp, z1.kept b2, k2, z1.lt⟩
  clear hR g1 z1 k2 b2
  generalize w1.heap.size = Z at *
  go_wp2
  go_loopw [7] (fun _ wr => F2 w wr p ts L x y e.vs Z) (fun _ _ => 0)
  case atStart => exact HI.out
  case round =>
    clear HI
    have HI : Hid (F2 w wr p ts L x y e.vs Z) := hrel
    have hS := rSkip_no ⟨#[40]⟩ ts L x y p wr hrel.r (hq _ (by simp))
    clear hrel
    go_wp2_with fail
    refine hS.mono ?_
    rintro _ w3 ⟨rfl, hb⟩
    have HJ : Hid (F2 w w3 p ts L x y e.vs Z) := HI.out.kept hb
    clear hS hb HI
    go_wp2_with (first | (refine wpList_load_ex rfl (.tmp 3) rfl Z 0 (by kernel_rfl) e (C17.of_range HJ.out.b3.range) ?_) | (refine wpList_store_blk rfl rfl 27 (.tmp 2) (.tmp 15) rfl w.heap.size e.vs (by kernel_rfl) (by kernel_rfl) (exS_one _) HJ.out.b2 rfl (by kernel_rfl) ?_; intro w7 W7))
    exact bodyPost_ret (v := .agg e.va) (results_ex Tryz.results130 rfl (C17.of_range W7.blk.range)) rfl ⟨rfl, HJ.out.done W7⟩
end Go.Proofs.YtcoeefckldkbeaaGreatDoor

/- Layer 6: the reader's unary and product, of one atom. -/
namespace Go.Proofs.YtcoeefckldkbeaaGreatDoor
open Go Go.RowKit

def kwU : List (List UInt8) := [[110, 111, 116], [33], [102, 115, 116], [115, 110, 100], [111, 117, 116], [110, 101, 119], [114, 97, 105, 115, 101]]
set_option maxRecDepth 100000 in
set_option maxHeartbeats 8000000 in
theorem rUnary_leaf (t : Tq) (e : Ex) (hA : RdE 130 t e fun ts L => noP [[40]] (hd ts L).s) (hu : noP kwU t.s) : RdE 126 t e fun ts L => noP [[40]] (hd ts L).s := by
  intro ts L x y p w h hq
  have B0 := below_alloc w (.cells zExE.toArray 27)
  have z0 : Blk (w.alloc (.cells zExE.toArray 27)) w.heap.size zExE 27 := Blk.new _ _ _
  have hN := rNext_any _ L _ _ p _ (h.kept B0)
  rw [hd_cons] at hN
  unfold Tq.v at hN
  have HR : Hid (Rp _ p (t :: ts) L x y ∧ Blk _ w.heap.size zExE 27 ∧ Below w.heap.size w _ ∧ p < w.heap.size) := ⟨h.kept B0, z0, B0, h.lt⟩
  have HU : Hid (noP kwU t.s) := hu
  have hf := fld3 t.k t.n t.a t.s
  clear h B0 z0 hu
  unfold zExE at hN HR
  go_enter Tryz.func126, Tryz.ntmps126
  go_wp2_with fail
  refine hN.mono ?_
  rintro _ w1 ⟨rfl, hb⟩
  have HR1 : Hid (Rp w1 p (t :: ts) L x y ∧ Blk w1 w.heap.size zExE 27 ∧ Below w.heap.size w w1 ∧ p < w.heap.size) := ⟨HR.out.1.kept hb, HR.out.2.1.kept hb, Below.next HR.out.2.2.1 hb, HR.out.2.2.2⟩
  have hM := made_any 0 t.a none 0 0 0 (fun _ => .dm) w1
  clear hN HR hb
  go_wp2_with fail
  refine hM.mono ?_
  rintro _ w2 ⟨rfl, hb⟩
  have HR2 : Hid (Rp w2 p (t :: ts) L x y ∧ Blk w2 w.heap.size zExE 27 ∧ Below w.heap.size w w2 ∧ p < w.heap.size) := ⟨HR1.out.1.kept hb, HR1.out.2.1.kept hb, Below.next HR1.out.2.2.1 hb, HR1.out.2.2.2⟩
  clear hM HR1 hb hf
  go_wp2_with (refine newS_ex rfl rfl rfl (.tmp 3) (.tmp 7) rfl rfl (by kernel_rfl) (mdE 0 t.a none 0 0 0 (fun _ => .dm)) (by kernel_rfl) ?_; intro w3 k3 b3; refine StopH.go ?_)
  refine StopH.mk ?_
  have HI3 : Hid (F2 w w3 p (t :: ts) L x y (mdE 0 t.a none 0 0 0 (fun _ => .dm)).vs w2.heap.size) := ⟨HR2.out.1.kept b3, gb_of _ (Below.next HR2.out.2.2.1 b3), HR2.out.2.2.2, HR2.out.2.1.kept b3, k3, HR2.out.2.1.lt⟩
  clear HR2 k3 b3
  generalize w2.heap.size = Z at *
  have hS := rSkip_no ⟨#[110, 111, 116]⟩ (t :: ts) L x y p w3 HI3.out.r (HU.out [110, 111, 116] (by simp [kwU]))
  go_wp2_with fail
  refine hS.mono ?_
  rintro _ w4 ⟨rfl, hb⟩
  have HI4 : Hid (F2 w w4 p (t :: ts) L x y (mdE 0 t.a none 0 0 0 (fun _ => .dm)).vs Z) := HI3.out.kept hb
  clear hS hb HI3
  have hS := rSkip_no ⟨#[33]⟩ (t :: ts) L x y p w4 HI4.out.r (HU.out [33] (by simp [kwU]))
  go_wp2_with fail
  refine hS.mono ?_
  rintro _ w5 ⟨rfl, hb⟩
  have HI5 : Hid (F2 w w5 p (t :: ts) L x y (mdE 0 t.a none 0 0 0 (fun _ => .dm)).vs Z) := HI4.out.kept hb
  clear hS hb HI4
  have hS := rSkip_no ⟨#[102, 115, 116]⟩ (t :: ts) L x y p w5 HI5.out.r (HU.out [102, 115, 116] (by simp [kwU]))
  go_wp2_with fail
  refine hS.mono ?_
  rintro _ w6 ⟨rfl, hb⟩
  have HI6 : Hid (F2 w w6 p (t :: ts) L x y (mdE 0 t.a none 0 0 0 (fun _ => .dm)).vs Z) := HI5.out.kept hb
  clear hS hb HI5
  have hS := rSkip_no ⟨#[115, 110, 100]⟩ (t :: ts) L x y p w6 HI6.out.r (HU.out [115, 110, 100] (by simp [kwU]))
  go_wp2_with fail
  refine hS.mono ?_
  rintro _ w7 ⟨rfl, hb⟩
  have HI7 : Hid (F2 w w7 p (t :: ts) L x y (mdE 0 t.a none 0 0 0 (fun _ => .dm)).vs Z) := HI6.out.kept hb
  clear hS hb HI6
  have hS := rSkip_no ⟨#[111, 117, 116]⟩ (t :: ts) L x y p w7 HI7.out.r (HU.out [111, 117, 116] (by simp [kwU]))
  go_wp2_with fail
  refine hS.mono ?_
  rintro _ w8 ⟨rfl, hb⟩
  have HI8 : Hid (F2 w w8 p (t :: ts) L x y (mdE 0 t.a none 0 0 0 (fun _ => .dm)).vs Z) := HI7.out.kept hb
  clear hS hb HI7
  have hS := rSkip_no ⟨#[110, 101, 119]⟩ (t :: ts) L x y p w8 HI8.out.r (HU.out [110, 101, 119] (by simp [kwU]))
  go_wp2_with fail
  refine hS.mono ?_
  rintro _ w9 ⟨rfl, hb⟩
  have HI9 : Hid (F2 w w9 p (t :: ts) L x y (mdE 0 t.a none 0 0 0 (fun _ => .dm)).vs Z) := HI8.out.kept hb
  clear hS hb HI8
  have hS := rSkip_no ⟨#[114, 97, 105, 115, 101]⟩ (t :: ts) L x y p w9 HI9.out.r (HU.out [114, 97, 105, 115, 101] (by simp [kwU]))
  go_wp2_with fail
  refine hS.mono ?_
  rintro _ w10 ⟨rfl, hb⟩
  have HI10 : Hid (F2 w w10 p (t :: ts) L x y (mdE 0 t.a none 0 0 0 (fun _ => .dm)).vs Z) := HI9.out.kept hb
  clear hS hb HI9
  have hC := hA ts L x y p w10 HI10.out.r hq
  go_wp2_with fail
  refine hC.mono ?_
  rintro _ w11 ⟨rfl, hR, hg⟩
  have HJ : Hid (F2 w w11 p ts L x y (mdE 0 t.a none 0 0 0 (fun _ => .dm)).vs Z) := HI10.out.move hR hg
  clear hC hR hg HI10
  go_wp2_with (refine wpList_store_blk rfl rfl 27 (.tmp 2) (.tmp 9) rfl w.heap.size e.vs (by kernel_rfl) (by kernel_rfl) (exS_one _) HJ.out.b2 rfl (by kernel_rfl) ?_; intro wz W7)
  exact bodyPost_ret (v := .agg e.va) (results_ex Tryz.results126 rfl (C17.of_range W7.blk.range)) rfl ⟨rfl, HJ.out.done W7⟩
theorem sxStrs3 (r s t : ByteArray) (w : World) : SAt (w.alloc (.cells #[.string r, .string s, .string t] 9)) (.slice (some ⟨w.heap.size, 0, none⟩) 3 3) [r, s, t] := by
  refine ⟨_, w.heap.size, 0, 3, rfl, fun _ => rfl, (fun h => by cases h), by simp, fun i x hx => ?_⟩
  have h := heap_alloc_new w (.cells #[.string r, .string s, .string t] 9)
  match i, hx with
  | 0, hx => simp only [List.getElem?_cons_zero, Option.some.injEq] at hx; subst hx; simp only [World.cell?]; rw [h]; rfl
  | 1, hx => simp only [List.getElem?_cons_succ, List.getElem?_cons_zero, Option.some.injEq] at hx; subst hx; simp only [World.cell?]; rw [h]; rfl
  | 2, hx => simp only [List.getElem?_cons_succ, List.getElem?_cons_zero, Option.some.injEq] at hx; subst hx; simp only [World.cell?]; rw [h]; rfl
  | i + 3, hx => simp at hx
theorem noP_in {l : List (List UInt8)} {s : ByteArray} (h : noP l s) : inL s (l.map fun q => ⟨q.toArray⟩) = false := by
  unfold inL
  rw [List.any_eq_false]
  intro x hx
  obtain ⟨q, hq, rfl⟩ := List.mem_map.1 hx
  rw [h q hq]
  decide
set_option maxRecDepth 100000 in
set_option maxHeartbeats 4000000 in
theorem rProduct_leaf (t : Tq) (e : Ex) (hA : RdE 126 t e fun ts L => noP [[40]] (hd ts L).s) : RdE 117 t e fun ts L => noP [[40], [42], [47], [37]] (hd ts L).s := by
  intro ts L x y p w h hq
  have B0 := below_alloc w (.cells zExE.toArray 27)
  have z0 : Blk (w.alloc (.cells zExE.toArray 27)) w.heap.size zExE 27 := Blk.new _ _ _
  have hC := hA ts L x y p _ (h.kept B0) (fun q hm => hq q (by simp at hm; simp [hm]))
  have hin : inL (hd ts L).s [⟨#[42]⟩, ⟨#[47]⟩, ⟨#[37]⟩] = false := noP_in (l := [[42], [47], [37]]) (fun q hm => hq q (List.mem_cons_of_mem _ hm))
  have hp := h.lt
  clear h hq
  unfold zExE at hC B0
  go_enter Tryz.func117, Tryz.ntmps117
  go_wp2_with fail
  refine hC.mono ?_
  rintro _ w1 ⟨rfl, hR, hg⟩
  have z1 := z0.gb hg (by omega)
  have g1 := gb_trans (gb_of (some p) B0) hg
  clear hC z0 B0 hg
  go_wp2_with (refine newS_ex rfl rfl rfl (.tmp 3) (.tmp 5) rfl rfl (by kernel_rfl) e (by kernel_rfl) ?_; intro w2 k2 b2; refine StopH.go ?_)
  refine StopH.mk ?_
  have HI : Hid (F2 w w2 p ts L x y e.vs w1.heap.size) := ⟨hR.kept b2, gb_next g1 b2, hp, z1.kept b2, k2, z1.lt⟩
  clear hR g1 z1 k2 b2
  generalize w1.heap.size = Z at *
  go_wp2
  go_loopw [8] (fun _ wr => F2 w wr p ts L x y e.vs Z) (fun _ _ => 0)
  case atStart => exact HI.out
  case round =>
    clear HI
    have b3 := below_alloc wr (.cells #[.string ⟨#[42]⟩, .string ⟨#[47]⟩, .string ⟨#[37]⟩] 9)
    have HI : Hid (F2 w (wr.alloc (.cells #[.string ⟨#[42]⟩, .string ⟨#[47]⟩, .string ⟨#[37]⟩] 9)) p ts L x y e.vs Z) := hrel.kept b3
    have hS := rIs_any [⟨#[42]⟩, ⟨#[47]⟩, ⟨#[37]⟩] (.slice (some ⟨wr.heap.size, 0, none⟩) 3 3) ts L x y p _ HI.out.r (sxStrs3 _ _ _ wr)
    rw [hin] at hS
    clear hrel b3
    go_wp2_with fail
    refine hS.mono ?_
    rintro _ w3 ⟨rfl, hb⟩
    have HJ : Hid (F2 w w3 p ts L x y e.vs Z) := HI.out.kept hb
    clear hS hb HI
    go_wp2_with (first | (refine wpList_load_ex rfl (.tmp 3) rfl Z 0 (by kernel_rfl) e (C17.of_range HJ.out.b3.range) ?_) | (refine wpList_store_blk rfl rfl 27 (.tmp 2) (.tmp 14) rfl w.heap.size e.vs (by kernel_rfl) (by kernel_rfl) (exS_one _) HJ.out.b2 rfl (by kernel_rfl) ?_; intro w7 W7))
    exact bodyPost_ret (v := .agg e.va) (results_ex Tryz.results117 rfl (C17.of_range W7.blk.range)) rfl ⟨rfl, HJ.out.done W7⟩
end Go.Proofs.YtcoeefckldkbeaaGreatDoor
