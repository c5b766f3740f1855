/- Layer 6: the walk of the reader's program. -/
import Derived.Test.YtcoeefckldkbeaaGreatDoorP19
import Derived.Recover
import Derived.Defers
import Derived.WalkKit
namespace Go.Proofs.YtcoeefckldkbeaaGreatDoor
open Go Go.RowKit

def wsX (ts : List Tq) : List Tq := W 2 [110, 111, 110, 101] 0 64 :: W 4 [61] 0 69 :: ts
def wsH (ts : List Tq) : List Tq := W 4 [40] 0 38 :: W 1 [120] 0 39 :: W 4 [58] 0 40 :: W 2 [105, 110, 116] 0 42 :: W 4 [64] 0 45 :: W 1 [104, 105, 103, 104] 0 46 :: W 4 [41] 0 50 :: W 4 [58] 0 51 :: W 2 [105, 110, 116] 0 53 :: W 4 [64] 0 56 :: W 1 [104, 105, 103, 104] 0 57 :: W 4 [33] 0 62 :: wsX ts
/-- The lattice lies below Z. -/
def LtB (Z : Nat) (n : Strs) (g : Grid) : Prop := n.b ≠ Z ∧ g.gb ≠ Z ∧ ∀ r, r < g.len → g.AB r ≠ Z
theorem ltB_of {w : World} {p : Nat} {n : Strs} {g : Grid} (h : Lt w p n g) (hL : IsLH n g) : LtB w.heap.size n g := by
  obtain ⟨T, ao, b, cap, rfl⟩ := hL.grid
  have h0 := World.block_lt_of_cell? w _ (h.hn.cell 0 (by rw [hL.len]; omega))
  have h1 := World.block_lt_of_cell? w _ (h.hg.row 0 (by show 0 < 2; omega))
  refine ⟨Nat.ne_of_lt h0, Nat.ne_of_lt h1, fun r hr => ?_⟩
  have hr2 : r < 2 := hr
  exact Nat.ne_of_lt (World.block_lt_of_cell? w _ (h.hg.cell r hr 0 (by show 0 < 2; omega)))
theorem ltNew {w w' : World} {p Z : Nat} {n : Strs} {g : Grid} (h : Lt w p n g) (hL : LtB Z n g) (W : ∀ b, b ≠ Z → w'.heap[b]? = w.heap[b]?) : Lt w' p n g := by
  have e : ∀ (b q : Nat) (v : Value), b ≠ Z → w.cell? ⟨b, q, none⟩ = some v → w'.cell? ⟨b, q, none⟩ = some v := fun b q v hb hc => by
    rw [World.cell?_of_block (a := ⟨b, q, none⟩) (W b hb)]
    exact hc
  exact ⟨⟨h.hn.lc, h.hn.nil, h.hn.bound, fun i hi => e _ _ _ hL.1 (h.hn.cell i hi), h.hn.sz⟩, ⟨h.hg.lc, h.hg.nil, h.hg.bound, h.hg.lbound, fun r hr => e _ _ _ hL.2.1 (h.hg.row r hr), h.hg.adr, fun r hr c hc => e _ _ _ (hL.2.2 r hr) (h.hg.cell r hr c hc)⟩, h.f, h.nb, h.gb, h.ab⟩
theorem load_pr {w : World} {B : Nat} {vs : List Value} (h : w.rangeAt B 0 vs) (hl : vs.length = 31) : (loadVar 37 ⟨B, 0, none⟩).run Tryz.prog w = .ok (.agg vs.toArray) w :=
  run_loadAt_mid w B 0 37 vs _ h Tryz.underlying37 rfl (by rw [hl]; kernel_rfl)
theorem results_pr {fn : Func} {tmps : Array Value} {k B : Nat} {vs : List Value} {w : World} (hf : fn.results = #[.cell k 37]) (ht : tmps.getD k undef = .pointer (some ⟨B, 0, none⟩)) (h : w.rangeAt B 0 vs) (hl : vs.length = 31 := by rfl) : (results fn tmps).run Tryz.prog w = .ok (.agg vs.toArray) w := by
  have h := load_pr h hl
  have ha : (asAddr (tmps[k]?.getD undef)).run Tryz.prog w = .ok ⟨B, 0, none⟩ w := by rw [show tmps[k]?.getD undef = .pointer (some ⟨B, 0, none⟩) by simpa using ht]; rfl
  unfold results
  rw [hf]
  simp [ha, h]
theorem Rp.frz {w : World} {p : Nat} {ts : List Tq} {L : Int} {x y : Value} (h : Rp w p ts L x y) (i : Nat) : w.frozen? ⟨p, i, none⟩ = false := by
  obtain ⟨ao, b, o, c, h1, _⟩ := h
  exact h1.frozen i
theorem zTS_at (w : World) : zTS.At w := ⟨fun h => absurd h (Nat.lt_irrefl 0), by decide, fun _ hi => absurd hi (Nat.not_lt_zero _)⟩
theorem leaf6_at (k m : Int) (s : ByteArray) (pl : Int) (hs : s.size ≤ 1000) (w : World) : (Ex.mk k m 0 s ⟨#[]⟩ zTS zTS none 0 0 0 0 (fun _ => .dm) pl).At w := ⟨⟨by omega, by decide⟩, ⟨zTS_at w, zTS_at w⟩, fun h => absurd h (Nat.lt_irrefl 0), by decide, fun _ hi => absurd hi (Nat.not_lt_zero _)⟩
theorem leaf6_pl (k m : Int) (s : ByteArray) (pl : Int) (w : World) : (Ex.mk k m 0 s ⟨#[]⟩ zTS zTS none 0 0 0 0 (fun _ => .dm) pl).Pl w := ⟨fun h => absurd h (Nat.lt_irrefl 0), fun _ hi => absurd hi (Nat.not_lt_zero _)⟩
theorem range_midS {w : World} {B : Nat} (pre vs post : List Value) (h : w.rangeAt B 0 (pre ++ vs ++ post)) : w.rangeAt B pre.length vs := fun j v hv => by
  have hj : j < vs.length := by
    rcases Nat.lt_or_ge j vs.length with h1 | h1
    · exact h1
    · rw [List.getElem?_eq_none h1] at hv; cases hv
  have := h (pre.length + j) v (by rw [List.append_assoc, List.getElem?_append_right (by omega), Nat.add_sub_cancel_left, List.getElem?_append_left hj]; exact hv)
  rwa [Nat.zero_add] at this
theorem bn_at {w : World} {B : Nat} {f s : Ex} (h : Blk w B (f.vs ++ s.vs) 27) (hf : f.At w) (hs : s.At w) : (bnE B f s).At w :=
  ⟨⟨by decide, by decide⟩, ⟨zTS_at _, zTS_at _⟩, fun _ => rfl, by decide, fun i hi => by
    match i, hi with
    | 0, _ => exact ⟨C17.of_range (range_midS [] f.vs s.vs (by rw [List.nil_append]; exact h.range)), hf⟩
    | 1, _ => exact ⟨C17.of_range (range_midS f.vs s.vs [] (by rw [List.append_nil]; exact h.range)), hs⟩⟩
theorem bn_pl {w : World} {B : Nat} {f s : Ex} (h : Blk w B (f.vs ++ s.vs) 27) (hf : f.Pl w) (hs : s.Pl w) : (bnE B f s).Pl w :=
  ⟨fun _ => h.plain, fun i hi => by
    match i, hi with
    | 0, _ => exact hf
    | 1, _ => exact hs⟩
theorem nKw : noP kwX ⟨#[120]⟩ := by
  intro q hq
  simp only [kwX, List.mem_cons, List.not_mem_nil, or_false] at hq
  rcases hq with rfl | rfl | rfl <;> decide +kernel
theorem nUx : noP kwU ⟨#[120]⟩ := by
  intro q hq
  simp only [kwU, List.mem_cons, List.not_mem_nil, or_false] at hq
  rcases hq with rfl | rfl | rfl | rfl | rfl | rfl | rfl <;> decide +kernel
theorem nU1 : noP kwU ⟨#[49]⟩ := by
  intro q hq
  simp only [kwU, List.mem_cons, List.not_mem_nil, or_false] at hq
  rcases hq with rfl | rfl | rfl | rfl | rfl | rfl | rfl <;> decide +kernel
theorem nEnd : noP signsQ ⟨#[]⟩ := by
  intro q hq
  simp only [signsQ, List.mem_cons, List.not_mem_nil, or_false] at hq
  rcases hq with rfl | rfl | rfl | rfl | rfl | rfl | rfl | rfl | rfl | rfl <;> decide +kernel
theorem seq_c : RdS 42 wX wA w1 (vrE ⟨#[120]⟩ 71) (nuE 1 75) fun ts L => noP signsQ (hd ts L).s := by
  have pX : RdE 117 wX (vrE ⟨#[120]⟩ 71) fun ts L => noP signs8 (hd ts L).s := rProduct_leaf _ _ (rUnary_leaf _ _ (rCall_leaf _ _ (fun ts L x y p w h _ => rAtom_name wX ts L x y p w h rfl)) nUx)
  have p1 : RdE 117 w1 (nuE 1 75) fun ts L => noP signs8 (hd ts L).s := rProduct_leaf _ _ (rUnary_leaf _ _ (rCall_leaf _ _ (fun ts L x y p w h _ => rAtom_num w1 ts L x y p w h rfl)) nU1)
  exact rSeq_two _ _ _ _ _ (rExpr_two _ _ _ _ _ nKw (rCompare_two _ _ _ _ _ (rSum_two _ _ _ _ _ rfl pX p1)))
set_option maxRecDepth 100000 in
set_option maxHeartbeats 8000000 in
theorem rProgram_c (L : Int) (p : Nat) (w : World) (h : Rp w p (wsP [wX, wA, w1]) L (.slice none 0 0) (.slice none 0 0)) (hsg : Sg w) (hne : 4 ≠ p) :
    Calls Tryz.prog 28 #[.pointer (some ⟨p, 0, none⟩)] w fun r w' => ∃ (n : Strs) (g : Grid) (B : Nat), r = .returned (.agg (P31 (.slice n.ao n.len n.cap) (.slice g.ao g.len g.cap) (.string ⟨#[120]⟩) (tyL 1) (tyL 1) (.int .i64 (-1)) (bnE B (vrE ⟨#[120]⟩ 71) (nuE 1 75)).vs).toArray) ∧ w.grownBy w' (some p) := by
  have HS : Hid (Sg w) := hsg
  go_enter Tryz.func28, Tryz.ntmps28
  go_wp2_with (refine wpList_alloc_pr rfl rfl ?_; intro v0 z0 b0; refine StopH.go ?_)
  refine StopH.mk ?_
  have hp := h.lt
  have hK := rBlock_LH (W 2 [109, 97, 105, 110] 0 34 :: (wsH [wX, wA, w1])) L p v0 (h.kept b0)
  have g0 := gb_of (some p) b0
  clear h hsg b0
  go_wp2_with fail
  refine hK.mono ?_
  rintro _ v1 ⟨n, g, rfl, hL, hlt, hR, hg⟩
  have z1 := z0.gb hg (by omega)
  have g1 := gb_trans g0 hg
  have c2 := hR.lat.1
  have c3 := hR.lat.2
  have f2 := hR.frz 2
  have f3 := hR.frz 3
  have HL : Hid (IsLH n g) := hL
  have HI : Hid (Rp ((v1.setCell ⟨p, 2, none⟩ (.slice n.ao n.len n.cap)).setCell ⟨p, 3, none⟩ (.slice g.ao g.len g.cap)) p (W 2 [109, 97, 105, 110] 0 34 :: (wsH [wX, wA, w1])) L (.slice n.ao n.len n.cap) (.slice g.ao g.len g.cap) ∧ w.grownBy ((v1.setCell ⟨p, 2, none⟩ (.slice n.ao n.len n.cap)).setCell ⟨p, 3, none⟩ (.slice g.ao g.len g.cap)) (some p) ∧ Blk ((v1.setCell ⟨p, 2, none⟩ (.slice n.ao n.len n.cap)).setCell ⟨p, 3, none⟩ (.slice g.ao g.len g.cap)) w.heap.size zPr 37 ∧ Lt ((v1.setCell ⟨p, 2, none⟩ (.slice n.ao n.len n.cap)).setCell ⟨p, 3, none⟩ (.slice g.ao g.len g.cap)) p n g) := by
    have gs := gb_trans (gb_set v1 p 2 (.slice n.ao n.len n.cap)) (gb_set (v1.setCell ⟨p, 2, none⟩ (.slice n.ao n.len n.cap)) p 3 (.slice g.ao g.len g.cap))
    exact ⟨hR.setLat _ _, gb_trans g1 gs, z1.gb gs (by omega), hlt.move gs⟩
  clear hK hL hlt hR hg z0 g0 z1 g1
  go_upto_region 2 with fail
  generalize (v1.setCell ⟨p, 2, none⟩ (.slice n.ao n.len n.cap)).setCell ⟨p, 3, none⟩ (.slice g.ao g.len g.cap) = v2 at *
  clear c2 c3 f2 f3
  have l2 := HI.out.1.lat.1
  have l3 := HI.out.1.lat.2
  go_wp2_with (refine wpList_buildS rfl 37 #[(0, .tmp 12)] rfl #[(0, .agg #[(.slice n.ao n.len n.cap), (.slice g.ao g.len g.cap)])] (by kernel_rfl) (run_build_pr (.slice n.ao n.len n.cap) (.slice g.ao g.len g.cap) n.ao g.ao n.len g.len n.cap g.cap rfl rfl _) ?_; refine StopH.go ?_)
  refine StopH.mk ?_
  refine wpList_alloc_pr rfl rfl ?_
  intro v3 k3 b3
  refine wpList_store_blk rfl rfl 37 (.tmp 3) (.tmp 13) rfl v2.heap.size (P31 (.slice n.ao n.len n.cap) (.slice g.ao g.len g.cap) (.string ⟨#[]⟩) tyZ tyZ (.int .i64 0) zExE) (by kernel_rfl) (by kernel_rfl) rfl k3 rfl (by kernel_rfl) ?_
  intro v4 W4
  have HI4 : Hid (Pg w v4 p (W 2 [109, 97, 105, 110] 0 34 :: (wsH [wX, wA, w1])) L (.slice n.ao n.len n.cap) (.slice g.ao g.len g.cap) (P31 (.slice n.ao n.len n.cap) (.slice g.ao g.len g.cap) (.string ⟨#[]⟩) tyZ tyZ (.int .i64 0) zExE) v2.heap.size ∧ Lt v4 p n g) := by
    have h3 : Pg w v3 p (W 2 [109, 97, 105, 110] 0 34 :: (wsH [wX, wA, w1])) L (.slice n.ao n.len n.cap) (.slice g.ao g.len g.cap) zPr v2.heap.size := ⟨HI.out.1.kept b3, gb_next HI.out.2.1 b3, hp, HI.out.2.2.1.kept b3, k3, HI.out.2.2.1.lt⟩
    have b4 : Below v2.heap.size v2 v4 := W4.below (Nat.le_refl _) b3
    exact ⟨h3.wrote W4, HI.out.2.2.2.kept b4⟩
  have HB : Hid (LtB v2.heap.size n g) := ltB_of HI.out.2.2.2 HL.out
  clear HI k3 b3 W4 l2 l3
  generalize v2.heap.size = Z at *
  have hD := need1 ⟨#[109, 97, 105, 110]⟩ _ (wsH [wX, wA, w1]) L _ _ p v4 HI4.out.1.r (by decide +kernel)
  go_wp2_with fail
  refine hD.mono ?_
  rintro _ v5 ⟨rfl, hR, hg⟩
  have HI5 : Hid (Pg w v5 p (wsH [wX, wA, w1]) L (.slice n.ao n.len n.cap) (.slice g.ao g.len g.cap) (P31 (.slice n.ao n.len n.cap) (.slice g.ao g.len g.cap) (.string ⟨#[]⟩) tyZ tyZ (.int .i64 0) zExE) Z ∧ Lt v5 p n g) := ⟨HI4.out.1.move hR hg, HI4.out.2.move hg⟩
  clear hD hR hg HI4
  have hH : Calls Tryz.prog 40 #[.pointer (some ⟨p, 0, none⟩)] v5 fun e w' => e = .returned (.tuple #[.string ⟨#[120]⟩, .agg (tyL 1).toArray, .agg (tyL 1).toArray]) ∧ Rd6 v5 w' p (wsX [wX, wA, w1]) L n g := rHead_int _ _ _ _ _ _ _ _ _ _ _ _ (wsX [wX, wA, w1]) L n g p 1 1 v5 ⟨HI5.out.1.r, HI5.out.2, gb_refl _ _, HI5.out.1.r.lt⟩ (by decide +kernel) rfl (by decide +kernel) (by decide +kernel) (by decide +kernel) rfl HL.out.find (by rw [HL.out.len]; omega) (by decide +kernel) (by decide +kernel) (by decide +kernel) (by decide +kernel) rfl HL.out.find (by rw [HL.out.len]; omega) (by decide +kernel)
  go_wp2_with fail
  refine hH.mono ?_
  rintro _ v6 ⟨rfl, hrd⟩
  have HI6 : Hid (Pg w v6 p (wsX [wX, wA, w1]) L (.slice n.ao n.len n.cap) (.slice g.ao g.len g.cap) (P31 (.slice n.ao n.len n.cap) (.slice g.ao g.len g.cap) (.string ⟨#[]⟩) tyZ tyZ (.int .i64 0) zExE) Z ∧ Lt v6 p n g) := ⟨HI5.out.1.move hrd.r hrd.gb, hrd.l⟩
  clear hH hrd HI5
  have c2 := HI6.out.1.b3.cell 2 (v := .string ⟨#[]⟩) rfl
  have f2 := HI6.out.1.b3.frozen 2
  have HI7 : Hid (Pg w (v6.setCell ⟨Z, 2, none⟩ (.string ⟨#[120]⟩)) p (wsX [wX, wA, w1]) L (.slice n.ao n.len n.cap) (.slice g.ao g.len g.cap) (P31 (.slice n.ao n.len n.cap) (.slice g.ao g.len g.cap) (.string ⟨#[120]⟩) tyZ tyZ (.int .i64 0) zExE) Z ∧ Lt (v6.setCell ⟨Z, 2, none⟩ (.string ⟨#[120]⟩)) p n g) := ⟨HI6.out.1.set 2 _, ltNew HI6.out.2 HB.out (fun b hb => Below.heap_setCell _ _ _ _ hb)⟩
  clear HI6
  go_wp2_with (refine wpList_store_part rfl rfl 24 37 (.tmp 24) (.tmp 21) rfl Z 3 (tyL 1) tyZ [(.slice n.ao n.len n.cap), (.slice g.ao g.len g.cap), .string ⟨#[120]⟩] (tyZ ++ (.int .i64 0 :: zExE)) (by kernel_rfl) (by kernel_rfl) rfl HI7.out.1.b3 rfl rfl (by kernel_rfl) ?_; intro v8 W8; refine StopH.go ?_)
  refine StopH.mk ?_
  clear c2 f2
  have HI8 : Hid (Pg w v8 p (wsX [wX, wA, w1]) L (.slice n.ao n.len n.cap) (.slice g.ao g.len g.cap) (P31 (.slice n.ao n.len n.cap) (.slice g.ao g.len g.cap) (.string ⟨#[120]⟩) (tyL 1) tyZ (.int .i64 0) zExE) Z ∧ Lt v8 p n g) := ⟨HI7.out.1.wrote W8, ltNew HI7.out.2 HB.out W8.other⟩
  clear HI7 W8
  go_wp2_with (refine wpList_store_part rfl rfl 24 37 (.tmp 25) (.tmp 22) rfl Z 8 (tyL 1) tyZ ([(.slice n.ao n.len n.cap), (.slice g.ao g.len g.cap), .string ⟨#[120]⟩] ++ tyL 1) (.int .i64 0 :: zExE) (by kernel_rfl) (by kernel_rfl) rfl HI8.out.1.b3 rfl rfl (by kernel_rfl) ?_; intro v9 W9; refine StopH.go ?_)
  refine StopH.mk ?_
  have HI9 : Hid (Pg w v9 p (wsX [wX, wA, w1]) L (.slice n.ao n.len n.cap) (.slice g.ao g.len g.cap) (P31 (.slice n.ao n.len n.cap) (.slice g.ao g.len g.cap) (.string ⟨#[120]⟩) (tyL 1) (tyL 1) (.int .i64 0) zExE) Z ∧ Lt v9 p n g) := ⟨HI8.out.1.wrote W9, ltNew HI8.out.2 HB.out W9.other⟩
  clear HI8 W9
  have hX := rExc_none _ (W 4 [61] 0 69 :: [wX, wA, w1]) L _ _ p v9 HI9.out.1.r (by decide +kernel)
  go_wp2_with fail
  refine hX.mono ?_
  rintro _ va ⟨rfl, hR, hg⟩
  have HIa : Hid (Pg w va p (W 4 [61] 0 69 :: [wX, wA, w1]) L (.slice n.ao n.len n.cap) (.slice g.ao g.len g.cap) (P31 (.slice n.ao n.len n.cap) (.slice g.ao g.len g.cap) (.string ⟨#[120]⟩) (tyL 1) (tyL 1) (.int .i64 0) zExE) Z ∧ Lt va p n g) := ⟨HI9.out.1.move hR hg, HI9.out.2.move hg⟩
  clear hX hR hg HI9
  have c13 := HIa.out.1.b3.cell 13 (v := .int .i64 0) rfl
  have f13 := HIa.out.1.b3.frozen 13
  have HIb : Hid (Pg w (va.setCell ⟨Z, 13, none⟩ (.int .i64 (-1))) p (W 4 [61] 0 69 :: [wX, wA, w1]) L (.slice n.ao n.len n.cap) (.slice g.ao g.len g.cap) (P31 (.slice n.ao n.len n.cap) (.slice g.ao g.len g.cap) (.string ⟨#[120]⟩) (tyL 1) (tyL 1) (.int .i64 (-1)) zExE) Z ∧ Lt (va.setCell ⟨Z, 13, none⟩ (.int .i64 (-1))) p n g) := ⟨HIa.out.1.set 13 _, ltNew HIa.out.2 HB.out (fun b hb => Below.heap_setCell _ _ _ _ hb)⟩
  clear HIa
  go_upto_region 6 with fail
  generalize va.setCell ⟨Z, 13, none⟩ (.int .i64 (-1)) = vb at *
  clear c13 f13
  have hD := need1 ⟨#[61]⟩ _ [wX, wA, w1] L _ _ p vb HIb.out.1.r (by decide +kernel)
  go_wp2_with fail
  refine hD.mono ?_
  rintro _ vc ⟨rfl, hR, hg⟩
  have HIc : Hid (Pg w vc p [wX, wA, w1] L (.slice n.ao n.len n.cap) (.slice g.ao g.len g.cap) (P31 (.slice n.ao n.len n.cap) (.slice g.ao g.len g.cap) (.string ⟨#[120]⟩) (tyL 1) (tyL 1) (.int .i64 (-1)) zExE) Z ∧ Lt vc p n g) := ⟨HIb.out.1.move hR hg, HIb.out.2.move hg⟩
  clear hD hR hg HIb
  have hQ := seq_c [] L _ _ p vc HIc.out.1.r nEnd (HS.out.gb HIc.out.1.gb hne) hne
  go_wp2_with fail
  refine hQ.mono ?_
  rintro _ vd ⟨B, rfl, hB, hBl, hR, hg⟩
  have HId : Hid (Pg w vd p [] L (.slice n.ao n.len n.cap) (.slice g.ao g.len g.cap) (P31 (.slice n.ao n.len n.cap) (.slice g.ao g.len g.cap) (.string ⟨#[120]⟩) (tyL 1) (tyL 1) (.int .i64 (-1)) zExE) Z ∧ Blk vd B ((vrE ⟨#[120]⟩ 71).vs ++ (nuE 1 75).vs) 27 ∧ Z < B) := ⟨HIc.out.1.move hR hg, hB, Nat.lt_of_lt_of_le HIc.out.1.b3.lt hBl⟩
  clear hQ hB hBl hR hg HIc
  go_wp2_with (refine wpList_store_part rfl rfl 27 37 (.tmp 34) (.tmp 33) rfl Z 14 (bnE B (vrE ⟨#[120]⟩ 71) (nuE 1 75)).vs zExE ([(.slice n.ao n.len n.cap), (.slice g.ao g.len g.cap), .string ⟨#[120]⟩] ++ (tyL 1 ++ (tyL 1 ++ [.int .i64 (-1)]))) [] (by kernel_rfl) (by kernel_rfl) (exS_one _) HId.out.1.b3 rfl rfl (by kernel_rfl) ?_; intro ve We; refine StopH.go ?_)
  refine StopH.mk ?_
  have HIe : Hid (Pg w ve p [] L (.slice n.ao n.len n.cap) (.slice g.ao g.len g.cap) (P31 (.slice n.ao n.len n.cap) (.slice g.ao g.len g.cap) (.string ⟨#[120]⟩) (tyL 1) (tyL 1) (.int .i64 (-1)) (bnE B (vrE ⟨#[120]⟩ 71) (nuE 1 75)).vs) Z ∧ Blk ve B ((vrE ⟨#[120]⟩ 71).vs ++ (nuE 1 75).vs) 27) := ⟨HId.out.1.wrote (by simpa [P31, tyL] using We), We.keep HId.out.2.1 (by have := HId.out.2.2; omega)⟩
  clear HId We
  obtain ⟨lao, lb, lo, lc, hblk, _⟩ := HIe.out.1.r
  have x0 : _ = some (Value.slice lao 0 lc) := hblk.cell 0 rfl
  have C : C17 ve Z 14 (bnE B (vrE ⟨#[120]⟩ 71) (nuE 1 75)) := C17.of_range (range_midS ([(.slice n.ao n.len n.cap), (.slice g.ao g.len g.cap), .string ⟨#[120]⟩] ++ (tyL 1 ++ (tyL 1 ++ [.int .i64 (-1)]))) (bnE B (vrE ⟨#[120]⟩ 71) (nuE 1 75)).vs [] (by have := HIe.out.1.b3.range; simpa [P31, tyL] using this))
  have hSm := esmall_yes (bnE B (vrE ⟨#[120]⟩ 71) (nuE 1 75)) ve (bn_at HIe.out.2 (leaf6_at _ _ _ _ (by decide) _) (leaf6_at _ _ _ _ (by decide) _)) (bn_pl HIe.out.2 (leaf6_pl _ _ _ _ _) (leaf6_pl _ _ _ _ _)) (by show (3 : Nat) ≤ 2000; omega) (by show (2 : Nat) ≤ 30; omega)
  clear hblk
  go_wp2_with (refine wpList_load_ex rfl (.tmp 44) rfl Z 14 (by kernel_rfl) (bnE B (vrE ⟨#[120]⟩ 71) (nuE 1 75)) C ?_)
  refine hSm.mono ?_
  rintro _ vf ⟨rfl, hb⟩
  have HIf : Hid (Pg w vf p [] L (.slice n.ao n.len n.cap) (.slice g.ao g.len g.cap) (P31 (.slice n.ao n.len n.cap) (.slice g.ao g.len g.cap) (.string ⟨#[120]⟩) (tyL 1) (tyL 1) (.int .i64 (-1)) (bnE B (vrE ⟨#[120]⟩ 71) (nuE 1 75)).vs) Z) := HIe.out.1.kept hb
  clear hSm C x0 hb HIe
  go_wp2_with (first | (refine wpList_load_mid rfl 37 (.tmp 3) rfl Z 0 (by kernel_rfl) (P31 (.slice n.ao n.len n.cap) (.slice g.ao g.len g.cap) (.string ⟨#[120]⟩) (tyL 1) (tyL 1) (.int .i64 (-1)) (bnE B (vrE ⟨#[120]⟩ 71) (nuE 1 75)).vs) _ HIf.out.b3.range Tryz.underlying37 rfl (by kernel_rfl) ?_) | (refine wpList_store_blk rfl rfl 37 (.tmp 2) (.tmp 53) rfl w.heap.size (P31 (.slice n.ao n.len n.cap) (.slice g.ao g.len g.cap) (.string ⟨#[120]⟩) (tyL 1) (tyL 1) (.int .i64 (-1)) (bnE B (vrE ⟨#[120]⟩ 71) (nuE 1 75)).vs) (by kernel_rfl) (by kernel_rfl) rfl HIf.out.b2 rfl (by kernel_rfl) ?_; intro vg Wg))
  have bw : Below w.heap.size vf vg := Wg.below (Nat.le_refl _) (Below.refl _ _)
  exact bodyPost_ret (v := .agg (P31 (.slice n.ao n.len n.cap) (.slice g.ao g.len g.cap) (.string ⟨#[120]⟩) (tyL 1) (tyL 1) (.int .i64 (-1)) (bnE B (vrE ⟨#[120]⟩ 71) (nuE 1 75)).vs).toArray) (results_pr Tryz.results28 rfl Wg.blk.range) rfl ⟨n, g, B, rfl, gb_below HIf.out.gb bw⟩
end Go.Proofs.YtcoeefckldkbeaaGreatDoor

/- Layer 6: read. -/
namespace Go.Proofs.YtcoeefckldkbeaaGreatDoor
open Go Go.RowKit

theorem wrote_one {w : World} {B : Nat} {v : Value} {t : TypeId} (h : Blk w B [v] t) (v' : Value) : WroteB w (w.setCell ⟨B, 0, none⟩ v') B [v'] t := wrote_setCells h [v'] rfl
set_option maxHeartbeats 1000000 in
theorem catch6_idle (p q : Addr) (w : World) :
    CallsD Tryz.prog 27 #[.pointer (some p), .pointer (some q)] .returning w fun e u' w' => e = .returned (.tuple #[]) ∧ u' = .returning ∧ w' = w := by
  refine callsD_of_wpS Tryz.func27 rfl fun c₀ cs hu => ?_
  apply wpS_seq
  apply wpS_region
  simp [wpOpsS, go_sem, recoverD, hu, Tryz.ntmps27, Exit.thenS]
  apply wpS_seq
  apply wpS_seq
  apply wpS_region
  simp [wpOpsS, go_sem, Exit.thenS]
  refine wpS_cond (t := true) (by simp [Act.eval, Array.replicate]) ?_
  simp only [if_true]
  refine wpS_of_wp (wp_ret ?_)
  cases c₀
  simp_all [bodyPostS, results, Tryz.results27, Exit.thenS]
theorem below_gb {w v v' : World} {p : Nat} (h : Below w.heap.size w v) (hg : v.grownBy v' (some p)) (hp : w.heap.size ≤ p) : Below w.heap.size w v' := by
  refine ⟨hg.os.trans h.os, hg.tape.trans h.tape, hg.output.trans h.output, Nat.le_trans h.size hg.size, fun k hk => ?_⟩
  refine (hg.block k (Nat.lt_of_lt_of_le hk h.size) (fun e => ?_)).trans (h.block k hk)
  have : k = p := by simpa using e
  omega
theorem load_i {w : World} {B : Nat} {t : TypeId} {v : Value} (h : Blk w B [v] t) (ht : t = 3 ∨ t = 38) : (loadVar t ⟨B, 0, none⟩).run Tryz.prog w = .ok v w := by
  have c := h.cell 0 rfl
  rcases ht with rfl | rfl <;> simp [go_sem, c]
theorem results_pr3 {fn : Func} {tmps : Array Value} {k l m B C D : Nat} {vs : List Value} {x y : Value} {w : World} (hf : fn.results = #[.cell k 37, .cell l 3, .cell m 38]) (h1 : tmps.getD k undef = .pointer (some ⟨B, 0, none⟩)) (h2 : tmps.getD l undef = .pointer (some ⟨C, 0, none⟩)) (h3 : tmps.getD m undef = .pointer (some ⟨D, 0, none⟩)) (h : w.rangeAt B 0 vs) (hl : vs.length = 31) (hC : Blk w C [x] 3) (hD : Blk w D [y] 38) : (results fn tmps).run Tryz.prog w = .ok (.tuple #[.agg vs.toArray, x, y]) w := by
  have h := load_pr h hl
  have hC := load_i hC (.inl rfl)
  have hD := load_i hD (.inr rfl)
  have ha : ∀ k B, tmps.getD k undef = .pointer (some ⟨B, 0, none⟩) → (asAddr (tmps[k]?.getD undef)).run Tryz.prog w = .ok ⟨B, 0, none⟩ w := fun k B ht => by rw [show tmps[k]?.getD undef = .pointer (some ⟨B, 0, none⟩) by simpa using ht]; rfl
  have a1 := ha _ _ h1
  have a2 := ha _ _ h2
  have a3 := ha _ _ h3
  unfold results
  rw [hf]
  simp [a1, a2, a3, h, hC, hD]
/-- These words lie in this slice. -/
def Wl (w : World) (ao : Option Addr) (c : Nat) (ts : List Tq) : Prop := ∃ b o, (0 < ts.length → ao = some ⟨b, o, none⟩ ∧ b < w.heap.size) ∧ ts.length ≤ c ∧ ts.length ≤ 10000 ∧ True ∧ ∀ i t, ts[i]? = some t → C4 w b (o + i * 4) t
theorem Wl.rp {w w' : World} {ao : Option Addr} {c p : Nat} {ts : List Tq} {L : Int} {x y : Value} (h : Wl w ao c ts) (hb : Below w.heap.size w w') (hk : Blk w' p [.slice ao ts.length c, .int .i64 L, x, y] 70) (hp : w.heap.size ≤ p) : Rp w' p ts L x y := by
  obtain ⟨b, o, h1, h2, h3, h4, h5⟩ := h
  refine ⟨ao, b, o, c, hk, fun h0 => ⟨(h1 h0).1, Nat.lt_of_lt_of_le (h1 h0).2 hp⟩, h2, h3, h4, fun i t ht => ?_⟩
  have h0 : 0 < ts.length := by
    rcases Nat.lt_or_ge i ts.length with q | q
    · omega
    · rw [List.getElem?_eq_none q] at ht; cases ht
  exact (h5 i t ht).block (hb.block b (h1 h0).2)
set_option maxRecDepth 100000 in
set_option maxHeartbeats 8000000 in
theorem read_c (ao : Option Addr) (c : Nat) (L : Int) (w : World) (h : Wl w ao c (wsP [wX, wA, w1])) (hsg : Sg w) (hne : 4 < w.heap.size) :
    Calls Tryz.prog 17 #[.slice ao (wsP [wX, wA, w1]).length c, .int .i64 L] w fun r w' => (∃ (n : Strs) (g : Grid) (B : Nat), r = .returned (.tuple #[.agg (P31 (.slice n.ao n.len n.cap) (.slice g.ao g.len g.cap) (.string ⟨#[120]⟩) (tyL 1) (tyL 1) (.int .i64 (-1)) (bnE B (vrE ⟨#[120]⟩ 71) (nuE 1 75)).vs).toArray, .int .i64 0, .int .i64 0])) ∧ Below w.heap.size w w' := by
  have hmf : ∀ (fn : Fn) (first cap : Array Value) (w : World), (Instr.makeFunc fn first cap).run Tryz.prog w = .ok (.func fn first cap) w := fun _ _ _ _ => rfl
  generalize hts : wsP [wX, wA, w1] = ts at h ⊢
  generalize hk : ts.length = k
  have HH : Hid (Wl w ao c ts ∧ Sg w ∧ ts.length = k ∧ wsP [wX, wA, w1] = ts) := ⟨h, hsg, hk, hts⟩
  clear h hsg hts hk
  go_enter_defers Tryz.func17, Tryz.ntmps17
  go_wp2_with (refine wpList_alloc_pr rfl rfl ?_; intro v0 z0 b0)
  have x1 := Blk.new v0 [.int .i64 0] 3
  have b1 := below_alloc v0 (.cells #[.int .i64 0] 3)
  have x2 := Blk.new (v0.alloc (.cells #[.int .i64 0] 3)) [.int .i64 0] 38
  have b2 := below_alloc (v0.alloc (.cells #[.int .i64 0] 3)) (.cells #[.int .i64 0] 38)
  have x3 := Blk.new ((v0.alloc (.cells #[.int .i64 0] 3)).alloc (.cells #[.int .i64 0] 38)) [.slice ao k c, .int .i64 L, .slice none 0 0, .slice none 0 0] 70
  have b3 := below_alloc ((v0.alloc (.cells #[.int .i64 0] 3)).alloc (.cells #[.int .i64 0] 38)) (.cells #[.slice ao k c, .int .i64 L, .slice none 0 0, .slice none 0 0] 70)
  simp only [alloc_size] at x2 x3
  have c1 := (x1.kept b2).kept b3
  have c2 := x2.kept b3
  have c0 := ((z0.kept b1).kept b2).kept b3
  have B3 := Below.next (Below.next (Below.next b0 b1) b2) b3
  have hN : w.heap.size < v0.heap.size := z0.lt
  clear x1 b1 x2 b2 b3 z0 b0
  generalize ((v0.alloc (.cells #[.int .i64 0] 3)).alloc (.cells #[.int .i64 0] 38)).alloc (.cells #[.slice ao k c, .int .i64 L, .slice none 0 0, .slice none 0 0] 70) = v3 at *
  generalize v0.heap.size = N at *
  have hR : Rp v3 (N + 1 + 1) (wsP [wX, wA, w1]) L (.slice none 0 0) (.slice none 0 0) := by
    rw [HH.out.2.2.2]
    refine HH.out.1.rp B3 ?_ (by omega)
    rw [HH.out.2.2.1]
    exact x3
  have hP := rProgram_c L (N + 1 + 1) v3 hR (HH.out.2.1.kept B3) (by omega)
  clear x3 hR
  refine hP.mono ?_
  rintro _ v4 ⟨n, g, B, rfl, hg⟩
  have d0 := c0.gb hg (by omega)
  have d1 := c1.gb hg (by omega)
  have d2 := c2.gb hg (by omega)
  have B4 := below_gb B3 hg (by omega)
  clear hP c0 c1 c2 hg B3
  generalize hX : (P31 (.slice n.ao n.len n.cap) (.slice g.ao g.len g.cap) (.string ⟨#[120]⟩) (tyL 1) (tyL 1) (.int .i64 (-1)) (bnE B (vrE ⟨#[120]⟩ 71) (nuE 1 75)).vs) = X
  have h31 : X.length = 31 := by rw [← hX]; rfl
  have hone : X.all (·.oneCell') = true := by rw [← hX]; rfl
  have HX : Hid ((P31 (.slice n.ao n.len n.cap) (.slice g.ao g.len g.cap) (.string ⟨#[120]⟩) (tyL 1) (tyL 1) (.int .i64 (-1)) (bnE B (vrE ⟨#[120]⟩ 71) (nuE 1 75)).vs) = X ∧ X.length = 31 ∧ X.all (·.oneCell') = true) := ⟨hX, h31, hone⟩
  clear hX h31 hone
  go_wp2_with (refine wpList_store_blk rfl rfl 37 (.tmp 4) (.tmp 14) rfl w.heap.size X (by kernel_rfl) (by kernel_rfl) HX.out.2.2 d0 (by rw [HX.out.2.1]; rfl) (by rw [List.size_toArray, HX.out.2.1]; kernel_rfl) ?_; intro v5 W5; refine StopH.go ?_)
  refine StopH.mk ?_
  have e1 := W5.keep d1 (by omega)
  have e2 := W5.keep d2 (by omega)
  have B5 := W5.below (Nat.le_refl _) B4
  have e0 := W5.blk
  clear d0 d1 d2 B4 W5
  have u1 := e1.cell 0 rfl
  have f1 := e1.frozen 0
  have u2 := e2.cell 0 rfl
  have f2 := e2.frozen 0
  have W6 := wrote_one e1 (.int .i64 0)
  have y0 := W6.keep e0 (by omega)
  have y2 := W6.keep e2 (by omega)
  have W7 := wrote_one y2 (.int .i64 0)
  have HZ : Hid (Blk ((v5.setCell ⟨N, 0, none⟩ (.int .i64 0)).setCell ⟨N + 1, 0, none⟩ (.int .i64 0)) w.heap.size X 37 ∧ Blk ((v5.setCell ⟨N, 0, none⟩ (.int .i64 0)).setCell ⟨N + 1, 0, none⟩ (.int .i64 0)) N [.int .i64 0] 3 ∧ Blk ((v5.setCell ⟨N, 0, none⟩ (.int .i64 0)).setCell ⟨N + 1, 0, none⟩ (.int .i64 0)) (N + 1) [.int .i64 0] 38 ∧ Below w.heap.size w ((v5.setCell ⟨N, 0, none⟩ (.int .i64 0)).setCell ⟨N + 1, 0, none⟩ (.int .i64 0))) := ⟨W7.keep y0 (by omega), W7.keep W6.blk (by omega), W7.blk, W7.below (by omega) (W6.below (by omega) B5)⟩
  clear W6 y0 y2 W7 e0 e1 e2 B5
  go_wp2
  generalize (v5.setCell ⟨N, 0, none⟩ (.int .i64 0)).setCell ⟨N + 1, 0, none⟩ (.int .i64 0) = v7 at *
  clear u1 u2 f1 f2
  refine leaves_cons (f := 27) (args := #[.pointer (some ⟨N, 0, none⟩), .pointer (some ⟨N + 1, 0, none⟩)]) (by simp) (by simp [go_sem]) ?_
  refine (catch6_idle _ _ _).mono ?_
  rintro _ _ _ ⟨rfl, rfl, rfl⟩
  have hr := results_pr3 (tmps := #[Value.slice ao k c, .int .i64 L, undef, undef, .pointer (some ⟨w.heap.size, 0, none⟩), .pointer (some ⟨N, 0, none⟩), .pointer (some ⟨N + 1, 0, none⟩), .pointer (some ⟨N + 1 + 1, 0, none⟩), .func (.func 27) #[] #[.pointer (some ⟨N, 0, none⟩), .pointer (some ⟨N + 1, 0, none⟩)], .slice ao k c, .int .i64 L, .agg #[.slice ao k c, .int .i64 L, .slice none 0 0, .slice none 0 0], .pointer (some ⟨N + 1 + 1, 0, none⟩), .pointer (some ⟨N + 1 + 1, 0, none⟩), .agg X.toArray]) Tryz.results17 rfl rfl rfl HZ.out.1.range HX.out.2.1 HZ.out.2.1 HZ.out.2.2.1
  exact ⟨_, hr, ⟨n, g, B, by rw [HX.out.1]⟩, HZ.out.2.2.2⟩
end Go.Proofs.YtcoeefckldkbeaaGreatDoor

/- Layer 5, plain: the words of a text, as lists of bytes. No program is named here. -/
namespace Go.Proofs.YtcoeefckldkbeaaGreatDoor

def al (c : UInt8) : Bool := (decide (97 ≤ c.toNat) && decide (c.toNat ≤ 122)) || (decide (65 ≤ c.toNat) && decide (c.toNat ≤ 90))
def dig (c : UInt8) : Bool := decide (48 ≤ c.toNat) && decide (c.toNat ≤ 57)
def gk (c d : UInt8) : Bool := (c.toNat == 206 && (decide (177 ≤ d.toNat) && decide (d.toNat ≤ 191))) || (c.toNat == 207 && (decide (128 ≤ d.toNat) && decide (d.toNat ≤ 137)))
def bl (c : UInt8) : Bool := c.toNat == 32 || (c.toNat == 9 || c.toNat == 10)
/-- The bytes of the letter that a text begins with; 0: there is none. -/
def lsz : List UInt8 → Nat
  | [] => 0
  | c :: r => if al c then 1 else match r with
    | [] => 0
    | d :: _ => if gk c d then 2 else 0
/-- The bytes of the letters and digits that a text begins with. -/
def nmLen : List UInt8 → Nat
  | [] => 0
  | [c] => if al c || dig c then 1 else 0
  | c :: d :: r => if al c || dig c then nmLen (d :: r) + 1 else if gk c d then nmLen r + 2 else 0
/-- How many they are. -/
def nmCnt : List UInt8 → Nat
  | [] => 0
  | [c] => if al c || dig c then 1 else 0
  | c :: d :: r => if al c || dig c then nmCnt (d :: r) + 1 else if gk c d then nmCnt r + 1 else 0
def dgLen : List UInt8 → Nat
  | [] => 0
  | c :: r => if dig c then dgLen r + 1 else 0
def numF (a : Nat) : List UInt8 → Nat
  | [] => a
  | c :: r => numF (10 * a + (c.toNat - 48)) r
def numV (l : List UInt8) : Nat := numF 0 l
def lg (c d : UInt8) : Bool := (c.toNat == 61 && d.toNat == 61) || ((c.toNat == 61 && d.toNat == 62) || ((c.toNat == 45 && d.toNat == 62) || (c.toNat == 58 && d.toNat == 61)))
def sgs : List UInt8 := [40, 41, 91, 93, 123, 125, 60, 62, 44, 59, 58, 64, 33, 61, 43, 45, 42, 47, 37]
def sg (c : UInt8) : Bool := sgs.contains c
def sgLen : List UInt8 → Nat
  | [] => 0
  | [c] => if sg c then 1 else 0
  | c :: d :: _ => if lg c d then 2 else if sg c then 1 else 0
def kws : List (List UInt8) := [[108, 97, 116, 116, 105, 99, 101], [109, 97, 105, 110], [108, 101, 116], [105, 110], [105, 102], [116, 104, 101, 110], [101, 108, 115, 101], [102, 117, 110], [101, 110, 100], [114, 97, 105, 115, 101], [116, 114, 121], [119, 105, 116, 104], [111, 117, 116], [110, 101, 119], [110, 111, 116], [102, 115, 116], [115, 110, 100], [116, 114, 117, 101], [102, 97, 108, 115, 101], [105, 110, 116], [98, 111, 111, 108], [114, 101, 102], [110, 111, 110, 101]]
def kw (t : List UInt8) : Bool := kws.contains t
def remLen : List UInt8 → Nat
  | [] => 0
  | c :: r => if c.toNat == 10 then 0 else remLen r + 1
/-- The word that a text begins with: its kind, its bytes, its number. -/
def nextW (l : List UInt8) : Option (Nat × Nat × Nat) :=
  if 0 < lsz l then (if nmCnt l ≤ 16 then some (if kw (l.take (nmLen l)) then 2 else 1, nmLen l, 0) else none)
  else if 0 < dgLen l then (if numV (l.take (dgLen l)) ≤ 9223372036854775807 ∧ (dgLen l = 1 ∨ l.head? ≠ some 48) then some (3, dgLen l, numV (l.take (dgLen l))) else none)
  else if 0 < sgLen l then some (4, sgLen l, 0) else none

structure Tk where
  k : Nat
  t : List UInt8
  n : Nat
  a : Nat
inductive Rs where
  | ok (ts : List Tk)
  | bad (a : Nat) (e : Nat)
def rd : Nat → List UInt8 → Nat → List Tk → Rs
  | 0, _, _, acc => .ok acc
  | _ + 1, [], _, acc => .ok acc
  | f + 1, c :: r, a, acc =>
    if bl c then rd f r (a + 1) acc
    else if c.toNat == 35 then rd f ((c :: r).drop (remLen (c :: r))) (a + remLen (c :: r)) acc
    else match nextW (c :: r) with
      | none => .bad a 2
      | some (k, m, n) => if 2000 ≤ acc.length then .bad a 7 else rd f ((c :: r).drop m) (a + m) (acc ++ [⟨k, (c :: r).take m, n, a⟩])

theorem al_iff (c : UInt8) : al c = true ↔ (97 ≤ c.toNat ∧ c.toNat ≤ 122) ∨ (65 ≤ c.toNat ∧ c.toNat ≤ 90) := by
  unfold al; simp only [Bool.or_eq_true, Bool.and_eq_true, decide_eq_true_eq]
theorem dig_iff (c : UInt8) : dig c = true ↔ 48 ≤ c.toNat ∧ c.toNat ≤ 57 := by
  unfold dig; simp only [Bool.and_eq_true, decide_eq_true_eq]
theorem gk_iff (c d : UInt8) : gk c d = true ↔ (c.toNat = 206 ∧ 177 ≤ d.toNat ∧ d.toNat ≤ 191) ∨ (c.toNat = 207 ∧ 128 ≤ d.toNat ∧ d.toNat ≤ 137) := by
  unfold gk; simp only [Bool.or_eq_true, Bool.and_eq_true, decide_eq_true_eq, beq_iff_eq]
theorem bl_iff (c : UInt8) : bl c = true ↔ c.toNat = 32 ∨ c.toNat = 9 ∨ c.toNat = 10 := by
  unfold bl; simp only [Bool.or_eq_true, beq_iff_eq]

theorem nm_le : ∀ l : List UInt8, nmLen l ≤ l.length
  | [] => Nat.le_refl _
  | [c] => by unfold nmLen; split <;> simp
  | c :: d :: r => by
    unfold nmLen
    have h1 := nm_le (d :: r); have h2 := nm_le r
    simp only [List.length_cons] at *
    split
    · omega
    · split <;> omega
theorem dg_le : ∀ l : List UInt8, dgLen l ≤ l.length
  | [] => Nat.le_refl _
  | c :: r => by unfold dgLen; have := dg_le r; simp only [List.length_cons]; split <;> omega
theorem sg_le (l : List UInt8) : sgLen l ≤ l.length := by
  match l with
  | [] => exact Nat.le_refl _
  | [c] => simp only [sgLen, List.length_cons, List.length_nil]; split <;> omega
  | c :: d :: r => simp only [sgLen, List.length_cons]; split <;> (try split) <;> omega
theorem rem_le : ∀ l : List UInt8, remLen l ≤ l.length
  | [] => Nat.le_refl _
  | c :: r => by unfold remLen; have := rem_le r; simp only [List.length_cons]; split <;> omega
theorem rem_pos (c : UInt8) (r : List UInt8) (h : (c.toNat == 35) = true) : 1 ≤ remLen (c :: r) := by
  unfold remLen
  have : c.toNat = 35 := by simpa using h
  rw [if_neg (by simp; omega)]; omega
theorem lsz_nm (l : List UInt8) (h : 0 < lsz l) : lsz l ≤ nmLen l ∧ 1 ≤ nmCnt l := by
  match l with
  | [] => simp [lsz] at h
  | [c] => unfold lsz at h ⊢; by_cases hc : al c = true <;> simp [hc, nmLen, nmCnt] at h ⊢
  | c :: d :: r =>
    unfold lsz at h ⊢
    by_cases hc : al c = true
    · simp [hc, nmLen, nmCnt]
    · by_cases hg : gk c d = true
      · have hd : dig c = false := by
          rw [← Bool.not_eq_true, dig_iff]; have := (gk_iff c d).1 hg; omega
        simp [hc, hg, hd, nmLen, nmCnt]
      · simp [hc, hg] at h
theorem nextW_le {l : List UInt8} {k m n : Nat} (h : nextW l = some (k, m, n)) : 1 ≤ m ∧ m ≤ l.length := by
  unfold nextW at h
  split at h
  · rename_i hl
    split at h
    · simp only [Option.some.injEq, Prod.mk.injEq] at h
      obtain ⟨_, rfl, _⟩ := h
      have := lsz_nm l hl
      exact ⟨by omega, nm_le l⟩
    · cases h
  · split at h
    · split at h
      · simp only [Option.some.injEq, Prod.mk.injEq] at h
        obtain ⟨_, rfl, _⟩ := h
        exact ⟨by omega, dg_le l⟩
      · cases h
    · split at h
      · simp only [Option.some.injEq, Prod.mk.injEq] at h
        obtain ⟨_, rfl, _⟩ := h
        exact ⟨by omega, sg_le l⟩
      · cases h

theorem rd_fuel : ∀ (f g : Nat) (l : List UInt8) (a : Nat) (acc : List Tk), l.length ≤ f → l.length ≤ g → rd f l a acc = rd g l a acc
  | 0, 0, _, _, _, _, _ => rfl
  | 0, _ + 1, [], _, _, _, _ => rfl
  | 0, _ + 1, _ :: _, _, _, h, _ => by simp at h
  | _ + 1, 0, [], _, _, _, _ => rfl
  | _ + 1, 0, _ :: _, _, _, _, h => by simp at h
  | _ + 1, _ + 1, [], _, _, _, _ => rfl
  | f + 1, g + 1, c :: r, a, acc, hf, hg => by
    simp only [List.length_cons] at hf hg
    unfold rd
    split
    · exact rd_fuel f g r _ _ (by omega) (by omega)
    · split
      · rename_i h35
        have := rem_pos c r h35
        exact rd_fuel f g _ _ _ (by simp only [List.length_drop, List.length_cons]; omega) (by simp only [List.length_drop, List.length_cons]; omega)
      · split
        · rfl
        · rename_i k m n hn
          have := nextW_le hn
          split
          · rfl
          · exact rd_fuel f g _ _ _ (by simp only [List.length_drop, List.length_cons]; omega) (by simp only [List.length_drop, List.length_cons]; omega)

/-- The words from a place on, those of acc being read. -/
def R (l : List UInt8) (a : Nat) (acc : List Tk) : Rs := rd l.length l a acc
theorem R_nil (a : Nat) (acc : List Tk) : R [] a acc = .ok acc := rfl
theorem R_bl {c : UInt8} (r : List UInt8) (a : Nat) (acc : List Tk) (h : bl c = true) : R (c :: r) a acc = R r (a + 1) acc := by
  unfold R; simp only [List.length_cons]; rw [rd, if_pos h]
theorem bl_not35 {c : UInt8} (h : c.toNat = 35) : bl c = false := by
  rw [← Bool.not_eq_true, bl_iff]; omega
theorem R_rem {c : UInt8} (r : List UInt8) (a : Nat) (acc : List Tk) (h : c.toNat = 35) : R (c :: r) a acc = R ((c :: r).drop (remLen (c :: r))) (a + remLen (c :: r)) acc := by
  unfold R; simp only [List.length_cons]; rw [rd, if_neg (by simp [bl_not35 h]), if_pos (by simpa using h)]
  have := rem_pos c r (by simpa using h)
  exact rd_fuel _ _ _ _ _ (by simp only [List.length_drop, List.length_cons]; omega) (by simp)
theorem R_none {c : UInt8} (r : List UInt8) (a : Nat) (acc : List Tk) (h1 : bl c = false) (h2 : c.toNat ≠ 35) (h : nextW (c :: r) = none) : R (c :: r) a acc = .bad a 2 := by
  unfold R; simp only [List.length_cons]; rw [rd, if_neg (by simp [h1]), if_neg (by simpa using h2), h]
theorem R_full {c : UInt8} (r : List UInt8) (a : Nat) (acc : List Tk) {x : Nat × Nat × Nat} (h1 : bl c = false) (h2 : c.toNat ≠ 35) (h : nextW (c :: r) = some x) (hl : 2000 ≤ acc.length) : R (c :: r) a acc = .bad a 7 := by
  unfold R; simp only [List.length_cons]; rw [rd, if_neg (by simp [h1]), if_neg (by simpa using h2), h]; simp only [if_pos hl]
theorem R_word {c : UInt8} (r : List UInt8) (a : Nat) (acc : List Tk) {k m n : Nat} (h1 : bl c = false) (h2 : c.toNat ≠ 35) (h : nextW (c :: r) = some (k, m, n)) (hl : acc.length < 2000) :
    R (c :: r) a acc = R ((c :: r).drop m) (a + m) (acc ++ [⟨k, (c :: r).take m, n, a⟩]) := by
  unfold R; simp only [List.length_cons]; rw [rd, if_neg (by simp [h1]), if_neg (by simpa using h2), h]; simp only [if_neg (show ¬ 2000 ≤ acc.length by omega)]
  have := nextW_le h
  exact rd_fuel _ _ _ _ _ (by simp only [List.length_drop, List.length_cons] at *; omega) (by simp)
end Go.Proofs.YtcoeefckldkbeaaGreatDoor
