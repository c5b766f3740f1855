/- Layer 15: the ways from a place. -/
import Derived.Test.YtmajlfocfjcgmaaGreatDoorP15
import Derived.Deep.DeepCutAuto
import Derived.Test.YtmajlfocfjcgmaaGreatDoorP7
import Derived.Deep.QuietTactic
import Derived.BigQuiet
import Derived.LoopN
import Derived.Laws.AppendOwn
import Derived.Laws.EntriesVeiled
import Derived.Carry
import Derived.Test.YtmajlfocfjcgmaaGreatDoorP10
import Derived.Laws.CopyOwn
import Derived.Laws.OwnMore
import Derived.Deep.LoopGhost
namespace Go.Proofs.YtmajlfocfjcgmaaGreatDoor
open Go Go.RowKit

/-- A function in its box; nothing below is turned. -/
structure Fb (w0 : World) (f : Cf) (B : Nat) (w : World) : Prop where
  bl : Below w0.heap.size w0 w
  b : Blk w B f.vs 43
theorem Fb.kept {w0 : World} {f : Cf} {B : Nat} {w w' : World} (h : Fb w0 f B w) (hb : Below w.heap.size w w') : Fb w0 f B w' := ⟨Below.next h.bl hb, h.b.kept hb⟩
theorem Fb.grown {w0 : World} {f : Cf} {B : Nat} {w w' : World} {r : Option Nat} (h : Fb w0 f B w) (hg : w.grownBy w' r) (hr : ∀ k, r = some k → w0.heap.size ≤ k ∧ k ≠ B) : Fb w0 f B w' :=
  ⟨gb_bel h.bl hg (fun k hk => (hr k hk).1), by unfold Blk; rw [hg.block B h.b.lt (fun e => (hr B e.symm).2 rfl)]; exact h.b⟩
theorem Fb.new (w : World) (f : Cf) : Fb w f w.heap.size (w.alloc (.cells f.vs.toArray 43)) := ⟨below_alloc w _, Blk.new w f.vs 43⟩
/-- .. and numbers of one's own. -/
structure Wv (w0 : World) (f : Cf) (v : Value) (l : List Int) (w : World) : Prop where
  x : Fb w0 f w0.heap.size w
  o : Oi w (w0.heap.size + 1) v l
theorem Wv.kept {w0 : World} {f : Cf} {v : Value} {l : List Int} {w w' : World} (h : Wv w0 f v l w) (hb : Below w.heap.size w w') : Wv w0 f v l w' := ⟨h.x.kept hb, h.o.kept hb⟩
theorem Wv.size {w0 : World} {f : Cf} {v : Value} {l : List Int} {w : World} (h : Wv w0 f v l w) : w0.heap.size + 1 ≤ w.heap.size := h.x.b.lt
theorem Wv.to {w0 : World} {f : Cf} {v v' : Value} {l l' : List Int} {w w' : World} (h : Wv w0 f v l w) (ho : Oi w' (w0.heap.size + 1) v' l') (hg : w.grownBy w' v.ownBlock) : Wv w0 f v' l' w' :=
  ⟨h.x.grown hg (fun k hk => by have := (owb h.o hk).1; omega), ho⟩
theorem own_mono {w : World} {base b' : Nat} {v : Value} {l : List Int} (h : Oi w base v l) (hb : b' ≤ base) : Oi w b' v l := by
  obtain ⟨h0, h1 | ⟨g, cap, cur, h1, h2, h3⟩⟩ := h
  · exact ⟨h0, Or.inl h1⟩
  · exact ⟨h0, Or.inr ⟨g, cap, cur, h1, by omega, h3⟩⟩
theorem Cf.w1_t {f : Cf} {p : Nat} (h1 : nxO (f.cd.x p).op = true) (h2 : f.pl ((p : Int) + 1) = true) : f.w1 p = [(p : Int) + 1] := by
  unfold Cf.w1; rw [if_pos ⟨h1, by have := Cf.pl_iff.1 h2; omega⟩]
theorem Cf.w1_f {f : Cf} {p : Nat} (h : nxO (f.cd.x p).op = false ∨ f.pl ((p : Int) + 1) = false) : f.w1 p = [] := by
  unfold Cf.w1
  rw [if_neg]
  rintro ⟨h1, h2⟩
  rcases h with h | h
  · rw [h] at h1; cases h1
  · rw [Cf.pl_iff.2 ⟨by omega, by omega⟩] at h; cases h
theorem Cf.w3_t {f : Cf} {g : Rw Bool} {h : Int} {p : Nat} (h1 : f.rs g p = true) (h2 : f.pl h = true) : f.w3 g h p = [h] := by unfold Cf.w3; rw [if_pos ⟨h1, h2⟩]
theorem Cf.w3_f {f : Cf} {g : Rw Bool} {h : Int} {p : Nat} (k : f.rs g p = false ∨ f.pl h = false) : f.w3 g h p = [] := by
  unfold Cf.w3
  rw [if_neg]
  rintro ⟨h1, h2⟩
  rcases k with k | k
  · rw [k] at h1; cases h1
  · rw [k] at h2; cases h2
theorem Cf.w_len (f : Cf) (g : Rw Bool) (h : Int) (p : Nat) : (f.w1 p).length ≤ 1 ∧ (f.w2 p).length ≤ 1 ∧ (f.w3 g h p).length ≤ 1 := by
  unfold Cf.w1 Cf.w2 Cf.w3
  refine ⟨?_, ?_, ?_⟩ <;> split <;> simp

set_option maxRecDepth 100000 in
set_option maxHeartbeats 16000000 in
theorem waysWith_any (f : Cf) (g : Rw Bool) (p : Nat) (h : Int) (w : World) (hf : f.At w) (hg : BlAt w g) (hp : p < f.cd.len) : Calls Tryz.prog 17 #[.agg f.vs.toArray, .slice g.ao g.len g.cap, .int .i64 p, .int .i64 h] w fun e w' => ∃ v, e = .returned v ∧ Oi w' w.heap.size v (f.wsH g h p) ∧ Below w.heap.size w w' := by
  have H1 : Hid (Wv w f (.slice none 0 0) [] (w.alloc (.cells f.vs.toArray 43))) := ⟨Fb.new w f, Oi.nil _ _⟩
  have HD := hyd (show f.At w ∧ BlAt w g ∧ p < f.cd.len from ⟨hf, hg, hp⟩)
  have HW := hyd (f.wsH_eq g h p)
  have HLN := hyd (f.w_len g h p)
  have hbd := hf.cd.bound
  have ip : (p : Int) < f.cd.len := by omega
  have HN14 := hyd (hf.cd.nil (by omega))
  clear hf hg hp
  generalize f.wsH g h p = R at *
  generalize hw : w.alloc (.cells f.vs.toArray 43) = u1 at *
  go_enter Tryz.func17, Tryz.ntmps17
  go_upto_region 2 with fail
  clear hw
  go_cut [23] (fun c wx => ∃ b : Bool, c = .bool b ∧ Hid (Wv w f (.slice none 0 0) [] wx) ∧ Hid (f.w1 p = if b = true then [(p : Int) + 1] else []))
  case first =>
    have c14 := H1.out.x.b.cell 14 rfl
    rw [HN14.out] at c14
    have r0 := (Cf.At.kept H1.out.x.bl HD.out.1).cd.row p HD.out.2.2 0 _ rfl
    simp only [Nat.add_zero] at r0
    have HT := hyd (fun h1 h2 => Cf.w1_t (f := f) (p := p) h1 h2)
    have HFf := hyd (fun h => Cf.w1_f (f := f) (p := p) h)
    generalize (f.cd.x p).op = op at *
    have h0 := goesOn_any op u1
    generalize nxO op = nb at *
    go_wp2_with fail
    refine h0.mono ?_
    rintro _ u2 ⟨rfl, hb⟩
    have H2 := hyd (H1.out.kept hb)
    clear h0 hb H1 c14 r0
    cases nb
    · go_wp2
      go_meet
      case rel => exact ⟨false, rfl, H2.out, HFf.out (by simp)⟩
    · have rF := H2.out.x.b.range
      have h0 := fplace_any f ((p : Int) + 1) u2
      generalize f.pl ((p : Int) + 1) = pb at *
      go_wp2_with (refine wpList_loadW (by kernel_rfl) 43 (.tmp 4) rfl w.heap.size 0 (by kernel_rfl) f.vs _ rF Tryz.underlying43 rfl (by kernel_rfl) ?_)
      refine h0.mono ?_
      rintro _ u3 ⟨rfl, hb⟩
      have H3 := hyd (H2.out.kept hb)
      clear h0 hb H2 rF
      cases pb
      · go_wp2
        go_meet
        case rel => exact ⟨false, rfl, H3.out, HFf.out (by simp)⟩
      · go_wp2
        go_meet
        case rel => exact ⟨true, rfl, H3.out, HT.out (by simp) (by simp)⟩
  case rest =>
  obtain ⟨b, rfl, hV, hE⟩ := hcut
  have H2 := hyd hV.out
  have HE := hyd hE.out
  clear hV hE H1
  go_upto_if 23 with fail
  go_cut [9] (fun v wx => Hid (Wv w f v (f.w1 p) wx))
  case first =>
    cases b
    · have HE2 : Hid (f.w1 p = []) := HE.out
      go_wp2
      go_meet
      case rel => rw [HE2.out]; exact H2.out
    · have HE2 : Hid (f.w1 p = [(p : Int) + 1]) := HE.out
      clear HE
      go_wp2_with ((at_builtin; refine wpList_app1 rfl _ _ rfl (w.heap.size + 1) (.slice none 0 0) [] ((p : Int) + 1) rfl H2.out.o rfl (by simp) H2.out.size ?_; intro v6 w6 h6 g6; have H3 := hyd (H2.out.to h6 g6); clear h6 g6 H2))
      go_meet
      case rel => rw [HE2.out]; exact H3.out
  case rest =>
  clear H2 HE
  have H2 := hyd hcut.out
  clear hcut
  go_upto_region 4 with fail
  have rF := H2.out.x.b.range
  have h0 := target_any f p wc (Cf.At.kept H2.out.x.bl HD.out.1) HD.out.2.2
  have HT2 : Hid (f.w2 p = if f.tg p = -1 then [] else [f.tg p]) := rfl
  generalize f.tg p = tg at *
  go_upto_region 5 with (refine wpList_load_mid rfl 43 (.tmp 4) rfl w.heap.size 0 (by kernel_rfl) f.vs _ rF Tryz.underlying43 rfl (by kernel_rfl) ?_)
  refine h0.mono ?_
  rintro _ u3 ⟨rfl, hb⟩
  have H3 := hyd (H2.out.kept hb)
  clear h0 hb H2 rF
  go_upto_if 33 with fail
  go_cut [9] (fun v wx => Hid (Wv w f v (f.w1 p ++ f.w2 p) wx))
  case first =>
    by_cases ht : tg = -1
    · have e1 : (tg != -1) = false := by simpa using ht
      have HE2 : Hid (f.w1 p ++ f.w2 p = f.w1 p) := by show _ = _; rw [HT2.out, if_pos ht, List.append_nil]
      clear ht
      go_wp2
      go_meet
      case rel => rw [HE2.out]; exact H3.out
    · have e1 : (tg != -1) = true := by simpa using ht
      have HE2 : Hid (f.w1 p ++ f.w2 p = f.w1 p ++ [tg]) := by show _ = _; rw [HT2.out, if_neg ht]
      clear ht
      go_wp2_with ((at_builtin; refine wpList_app1 rfl _ _ rfl (w.heap.size + 1) u9 (f.w1 p) tg rfl H3.out.o rfl (by have := HLN.out; omega) H3.out.size ?_; intro v6 w6 h6 g6; have H4 := hyd (H3.out.to h6 g6); clear h6 g6 H3))
      go_meet
      case rel => rw [HE2.out]; exact H4.out
  case rest =>
  clear H3
  have H2 := hyd hcut.out
  clear hcut HT2
  go_upto_region 7 with fail
  go_cut [46] (fun c wx => ∃ b : Bool, c = .bool b ∧ Hid (Wv w f u9 (f.w1 p ++ f.w2 p) wx) ∧ Hid (f.w3 g h p = if b = true then [h] else []))
  case first =>
    have rF := H2.out.x.b.range
    have HT := hyd (fun h1 h2 => Cf.w3_t (f := f) (g := g) (h := h) (p := p) h1 h2)
    have HFf := hyd (fun k => Cf.w3_f (f := f) (g := g) (h := h) (p := p) k)
    have h0 := raises_any f g p wc (Cf.At.kept H2.out.x.bl HD.out.1) (BlAt.kept HD.out.2.1 H2.out.x.bl) HD.out.2.2
    generalize f.rs g p = nb at *
    go_wp2_with (refine wpList_load_mid rfl 43 (.tmp 4) rfl w.heap.size 0 (by kernel_rfl) f.vs _ rF Tryz.underlying43 rfl (by kernel_rfl) ?_)
    refine h0.mono ?_
    rintro _ u2 ⟨rfl, hb⟩
    have H3 := hyd (H2.out.kept hb)
    clear h0 hb H2 rF
    cases nb
    · go_wp2
      go_meet
      case rel => exact ⟨false, rfl, H3.out, HFf.out (by simp)⟩
    · have rF := H3.out.x.b.range
      have h0 := fplace_any f h u2
      generalize f.pl h = pb at *
      go_wp2_with (refine wpList_loadW (by kernel_rfl) 43 (.tmp 4) rfl w.heap.size 0 (by kernel_rfl) f.vs _ rF Tryz.underlying43 rfl (by kernel_rfl) ?_)
      refine h0.mono ?_
      rintro _ u3 ⟨rfl, hb⟩
      have H4 := hyd (H3.out.kept hb)
      clear h0 hb H3 rF
      cases pb
      · go_wp2
        go_meet
        case rel => exact ⟨false, rfl, H4.out, HFf.out (by simp)⟩
      · go_wp2
        go_meet
        case rel => exact ⟨true, rfl, H4.out, HT.out (by simp) (by simp)⟩
  case rest =>
  obtain ⟨b, rfl, hV, hE⟩ := hcut
  clear H2
  have H2 := hyd hV.out
  have HE := hyd hE.out
  clear hV hE
  go_upto_if 46 with fail
  go_cut [9] (fun v wx => Hid (Wv w f v (f.w1 p ++ f.w2 p ++ f.w3 g h p) wx))
  case first =>
    cases b
    · have HE2 : Hid (f.w1 p ++ f.w2 p ++ f.w3 g h p = f.w1 p ++ f.w2 p) := by show _ = _; rw [HE.out]; simp
      go_wp2
      go_meet
      case rel => rw [HE2.out]; exact H2.out
    · have HE2 : Hid (f.w1 p ++ f.w2 p ++ f.w3 g h p = f.w1 p ++ f.w2 p ++ [h]) := by show _ = _; rw [HE.out]; simp
      clear HE
      go_wp2_with ((at_builtin; refine wpList_app1 rfl _ _ rfl (w.heap.size + 1) u9 (f.w1 p ++ f.w2 p) h rfl H2.out.o rfl (by have := HLN.out; rw [List.length_append]; omega) H2.out.size ?_; intro v6 w6 h6 g6; have H4 := hyd (H2.out.to h6 g6); clear h6 g6 H2))
      go_meet
      case rel => rw [HE2.out]; exact H4.out
  case rest =>
  clear H2 HE
  have H2 := hyd hcut.out
  clear hcut
  have HLl : Hid ((f.w1 p ++ f.w2 p ++ f.w3 g h p).length ≤ 1000000) := by show _ ≤ _; have := HLN.out; rw [List.length_append, List.length_append]; omega
  generalize f.w1 p ++ f.w2 p ++ f.w3 g h p = L at *
  have h0 := sort_oi wc (w.heap.size + 1) u9 L H2.out.o HLl.out
  go_wp2_with fail
  refine h0.mono ?_
  rintro _ u3 ⟨rfl, h6, g6⟩
  have H3 := hyd (H2.out.to h6 g6)
  clear h0 h6 g6 H2
  have HLs : Hid ((L.mergeSort fun x y => decide (x ≤ y)).length ≤ 1000000) := by show _ ≤ _; rw [List.length_mergeSort]; exact HLl.out
  generalize (L.mergeSort fun x y => decide (x ≤ y)) = S at *
  have h0 := compact_oi u3 (w.heap.size + 1) u9 S H3.out.o HLs.out
  go_wp2_with fail
  refine h0.mono ?_
  rintro _ u4 ⟨v5, rfl, h6, g6⟩
  have H4 := hyd (H3.out.to h6 g6)
  clear h0 h6 g6 H3
  rw [HW.out] at H4
  go_wp2
  go_ret
  exact ⟨_, rfl, (own_mono H4.out.o (Nat.le_succ _)), H4.out.x.bl⟩
end Go.Proofs.YtmajlfocfjcgmaaGreatDoor

/- Layer 15: Ways, Leaves. -/
namespace Go.Proofs.YtmajlfocfjcgmaaGreatDoor
open Go Go.RowKit

theorem quiet_load_rowF {C : World → Prop} {K : Act → Prop} {a : Act} {o : Oper} (ty : TypeId) (x : Operand) (ho : o.op = .load ty x) (b oo : Nat) (hx : a.eval x = .pointer (some ⟨b, oo, none⟩)) (cs : List Value) (d : TypeDesc) (hc : ∀ w, C w → w.rangeAt b oo cs)
    (hu : Tryz.prog.underlying ty = some d) (hd : d.isRow = true) (hi : (Tryz.prog.info? ty).map (·.size) = some cs.length) (h : K (a.put o.dst (.agg cs.toArray))) : o.quiet Tryz.prog a C K := by
  refine ⟨.agg cs.toArray, fun w hC => ?_, h⟩
  unfold Oper.quietAt execOp
  simp only [ho, hx, Sem.run_bind, run_loadAt_mid w b oo ty cs d (hc w hC) hu hd hi, Result.andThen_ok, Sem.run_pure]
  exact ⟨rfl, rfl⟩

set_option maxRecDepth 100000 in
set_option maxHeartbeats 8000000 in
theorem ways_any (f : Cf) (g : Rw Bool) (p : Nat) (w : World) (hf : f.At w) (hg : BlAt w g) (hp : p < f.cd.len) : Calls Tryz.prog 7 #[.agg f.vs.toArray, .slice g.ao g.len g.cap, .int .i64 p] w fun e w' => ∃ v, e = .returned v ∧ Oi w' w.heap.size v (f.ws g p) ∧ Below w.heap.size w w' := by
  have HWS : Hid (f.ws g p = f.wsH g (f.han p) p) := rfl
  generalize f.ws g p = R at *
  have H1 := hyd (Fb.new w f)
  have hpl : f.pl p = true := Cf.pl_iff.2 ⟨by omega, by omega⟩
  have HD := hyd (show f.At w ∧ BlAt w g ∧ p < f.cd.len from ⟨hf, hg, hp⟩)
  have hbd := hf.cd.bound
  have ip : (p : Int) < f.cd.len := by omega
  have HN14 := hyd (hf.cd.nil (by omega))
  clear hf hg hp
  have h0 := fplace_any f p (w.alloc (.cells f.vs.toArray 43))
  rw [hpl] at h0
  have rF := H1.out.b.range
  generalize hw : w.alloc (.cells f.vs.toArray 43) = u1 at *
  go_enter Tryz.func7, Tryz.ntmps7
  go_wp2_with (refine wpList_load_mid rfl 43 (.tmp 3) rfl w.heap.size 0 (by kernel_rfl) f.vs _ rF Tryz.underlying43 rfl (by kernel_rfl) ?_)
  refine h0.mono ?_
  rintro _ u2 ⟨rfl, hb⟩
  have H2 := hyd (H1.out.kept hb)
  clear h0 hb H1 rF hpl hw
  go_upto_region 3 with fail
  have rF := H2.out.b.range
  have hh : ∀ x : Gr u2, Calls Tryz.prog 18 #[.agg f.vs.toArray, .int .i64 p] x.w fun e w' => e = .returned (.int .i64 (f.han p)) ∧ Below x.w.heap.size x.w w' := fun x => handler_any f p x.w (Cf.At.kept (Below.next H2.out.bl x.bl) HD.out.1) HD.out.2.2
  generalize f.han p = hn at *
  refine wp_region_gr_tail 6 (by kernel_rfl) (by kernel_rfl) ?_
  simp only [List.take, List.drop]
  go_big_quiet_want
  refine quiet_load_rowF 43 (.tmp 3) rfl w.heap.size 0 (by kernel_rfl) f.vs _ (fun _ hC => by obtain ⟨x, rfl⟩ := hC; exact range_kept rF (Gr.bl x)) Tryz.underlying43 rfl (by kernel_rfl) ?_
  simp only [Act.put, List.setIfInBounds_toArray, List.set_cons_succ, List.set_cons_zero]
  go_big_quiet_on
  iterate 2 go_big_quiet_step (fail)
  go_big_quiet_want
  refine quiet_load_rowF 43 (.tmp 3) rfl w.heap.size 0 (by kernel_rfl) f.vs _ (fun _ hC => by obtain ⟨x, rfl⟩ := hC; exact range_kept rF (Gr.bl x)) Tryz.underlying43 rfl (by kernel_rfl) ?_
  simp only [Act.put, List.setIfInBounds_toArray, List.set_cons_succ, List.set_cons_zero]
  go_big_quiet_on
  go_big_quiet_step (fail)
  go_big_quiet_step ((go_at_call 18; exact Calls.gr _ (hh _)))
  refine wpQuiet_nil ?_
  rintro y1 ⟨xg, rfl⟩
  have Bg := xg.bl
  generalize xg.w = y1 at Bg ⊢
  have H3 := hyd (H2.out.kept Bg)
  clear Bg xg H2 rF hh
  have h0 := waysWith_any f g p hn y1 (Cf.At.kept H3.out.bl HD.out.1) (BlAt.kept HD.out.2.1 H3.out.bl) HD.out.2.2
  go_wp2_with fail
  refine h0.mono ?_
  rintro _ u4 ⟨v, rfl, hO, hb⟩
  have H4 := hyd (show Below w.heap.size w u4 ∧ Oi u4 w.heap.size v R from ⟨Below.next H3.out.bl hb, by rw [HWS.out]; exact own_mono hO H3.out.bl.size⟩)
  clear h0 hO hb H3
  go_wp2
  go_ret
  exact ⟨_, rfl, H4.out.2, H4.out.1⟩

set_option maxRecDepth 100000 in
set_option maxHeartbeats 8000000 in
theorem leaves_any (f : Cf) (g : Rw Bool) (p : Nat) (w : World) (hf : f.At w) (hg : BlAt w g) (hp : p < f.cd.len) : Calls Tryz.prog 8 #[.agg f.vs.toArray, .slice g.ao g.len g.cap, .int .i64 p] w fun e w' => e = .returned (.bool (f.lv g p)) ∧ Below w.heap.size w w' := by
  have HWS : Hid (f.lv g p = (decide ((f.cd.x p).op = 27) || (f.rs g p && decide (f.han p = -1)))) := rfl
  generalize f.lv g p = R at *
  have H1 := hyd (Fb.new w f)
  have hpl : f.pl p = true := Cf.pl_iff.2 ⟨by omega, by omega⟩
  have HD := hyd (show f.At w ∧ BlAt w g ∧ p < f.cd.len from ⟨hf, hg, hp⟩)
  have hbd := hf.cd.bound
  have ip : (p : Int) < f.cd.len := by omega
  have HN14 := hyd (hf.cd.nil (by omega))
  clear hf hg hp
  have h0 := fplace_any f p (w.alloc (.cells f.vs.toArray 43))
  rw [hpl] at h0
  have rF := H1.out.b.range
  generalize hw : w.alloc (.cells f.vs.toArray 43) = u1 at *
  go_enter Tryz.func8, Tryz.ntmps8
  go_wp2_with (refine wpList_load_mid rfl 43 (.tmp 3) rfl w.heap.size 0 (by kernel_rfl) f.vs _ rF Tryz.underlying43 rfl (by kernel_rfl) ?_)
  refine h0.mono ?_
  rintro _ u2 ⟨rfl, hb⟩
  have H2 := hyd (H1.out.kept hb)
  clear h0 hb H1 rF hpl hw
  have c14 := H2.out.b.cell 14 rfl
  rw [HN14.out] at c14
  have r0 := (Cf.At.kept H2.out.bl HD.out.1).cd.row p HD.out.2.2 0 _ rfl
  simp only [Nat.add_zero] at r0
  have hr := raises_any f g p u2 (Cf.At.kept H2.out.bl HD.out.1) (BlAt.kept HD.out.2.1 H2.out.bl) HD.out.2.2
  have hh : Hid (∀ u, Below w.heap.size w u → Calls Tryz.prog 18 #[.agg f.vs.toArray, .int .i64 p] u fun e w' => e = .returned (.int .i64 (f.han p)) ∧ Below u.heap.size u w') := fun u hb => handler_any f p u (Cf.At.kept hb HD.out.1) HD.out.2.2
  generalize (f.cd.x p).op = op at *
  generalize f.rs g p = rb at *
  generalize f.han p = hn at *
  by_cases o1 : op = 27
  · subst o1
    have HE : Hid (R = true) := HWS.out
    go_wp2
    go_ret
    exact ⟨ret_bool HE.out.symm, H2.out.bl⟩
  have n1 : (op == 27) = false := by simpa using o1
  have HW2 : Hid (R = (rb && decide (hn = -1))) := by show _ = _; rw [HWS.out, decide_eq_false o1]; rfl
  clear o1 HWS
  have rF := H2.out.b.range
  go_wp2_with (refine wpList_loadW (by kernel_rfl) 43 (.tmp 3) rfl w.heap.size 0 (by kernel_rfl) f.vs _ rF Tryz.underlying43 rfl (by kernel_rfl) ?_)
  refine hr.mono ?_
  rintro _ u3 ⟨rfl, hb⟩
  have H3 := hyd (H2.out.kept hb)
  clear hr hb H2 rF r0 c14
  cases rb
  · have HE : Hid (R = false) := HW2.out
    go_wp2
    go_ret
    exact ⟨ret_bool HE.out.symm, H3.out.bl⟩
  have rF := H3.out.b.range
  have h0 := hh.out u3 H3.out.bl
  go_wp2_with (refine wpList_loadW (by kernel_rfl) 43 (.tmp 3) rfl w.heap.size 0 (by kernel_rfl) f.vs _ rF Tryz.underlying43 rfl (by kernel_rfl) ?_)
  refine h0.mono ?_
  rintro _ u4 ⟨rfl, hb⟩
  have H4 := hyd (H3.out.kept hb)
  clear h0 hb H3 rF
  by_cases e : hn = -1
  · have e1 : (hn == -1) = true := by simpa using e
    have HE : Hid (R = true) := by show _ = _; rw [HW2.out, decide_eq_true e]; rfl
    clear e
    go_wp2
    go_ret
    exact ⟨ret_bool HE.out.symm, H4.out.bl⟩
  · have e1 : (hn == -1) = false := by simpa using e
    have HE : Hid (R = false) := by show _ = _; rw [HW2.out, decide_eq_false e]; rfl
    clear e
    go_wp2
    go_ret
    exact ⟨ret_bool HE.out.symm, H4.out.bl⟩
end Go.Proofs.YtmajlfocfjcgmaaGreatDoor

/- Layer 9: walk.Total at a function without Parts: what is counted on. -/
namespace Go.Proofs.YtmajlfocfjcgmaaGreatDoor
open Go Go.RowKit

def zTE : Ty := .mk 0 0 0 0 none 0 0 0 0 fun _ => .dm
/-- A function without Parts. -/
def fnE : Ex := .mk 6 0 0 ⟨#[]⟩ ⟨#[]⟩ zTE zTE none 0 0 0 0 (fun _ => .dm) 0
theorem Blk.setE {w : World} {B : Nat} {c : List Value} {t : TypeId} (h : Blk w B c t) (i : Nat) (v : Value) : Blk (w.setCell ⟨B, i, none⟩ v) B (c.set i v) t := by
  unfold Blk at h ⊢
  simp [World.setCell, Array.getElem?_modify, h]
theorem WroteB.cell1 {w : World} {B : Nat} {c : List Value} {t : TypeId} (h : Blk w B c t) (i : Nat) (v : Value) : WroteB w (w.setCell ⟨B, i, none⟩ v) B (c.set i v) t :=
  ⟨h.setE i v, fun b hb => Below.heap_setCell _ _ _ _ hb, by simp [World.setCell], fun hB hb => hb.setCell hB v⟩
/-- One cell of a block stored. -/
theorem wp_store1 {o : Oper} {a : Act} {w : World} {K : Act → World → Prop} {Q : Exit → Act → World → Prop} (ty : TypeId) (p x : Operand) (ho : o.op = .store ty p x) (hdst : o.dst = none) (B i : Nat) (v : Value) (c : List Value) (t : TypeId) (hp : a.eval p = .pointer (some ⟨B, i, none⟩)) (hx : a.eval x = v)
    (hs : ∀ w : World, w.there B i 1 → (storeVar ty ⟨B, i, none⟩ v).run Tryz.prog w = .ok () (w.setCell ⟨B, i, none⟩ v))
    (hb : Blk w B c t) (hi : i < c.length) (h : ∀ w', WroteB w w' B (c.set i v) t → K a w') : o.wp Tryz.prog a w K Q := by
  have ht : w.there B i 1 := fun j hj => by
    have e : j = 0 := by omega
    subst e
    refine ⟨?_, hb.frozen _⟩
    rw [hb.cell (i + 0) (v := c[i]) (by simp [hi])]; rfl
  unfold Oper.wp execOp
  simp only [ho, hp, hx, Instr.storeAt, Instr.sureAddr, Sem.run_bind, Sem.run_pure, Result.andThen_ok, hs w ht]
  have e : a.put o.dst undef = a := by rw [hdst]; rfl
  show K (a.put o.dst undef) _
  rw [e]
  exact h _ (WroteB.cell1 hb i v)
theorem wpList_store1 {w : World} {ops : Array Oper} {rest : List Oper} {o : Oper} {a : Act} {Q : Exit → Act → World → Prop} (hgd : o.guard = none) (ty : TypeId) (p x : Operand) (ho : o.op = .store ty p x) (hdst : o.dst = none) (B i : Nat) (v : Value) (c : List Value) (t : TypeId) (hp : a.eval p = .pointer (some ⟨B, i, none⟩)) (hx : a.eval x = v)
    (hs : ∀ w : World, w.there B i 1 → (storeVar ty ⟨B, i, none⟩ v).run Tryz.prog w = .ok () (w.setCell ⟨B, i, none⟩ v))
    (hb : Blk w B c t) (hi : i < c.length) (h : ∀ w', WroteB w w' B (c.set i v) t → wpList Tryz.prog ops Q rest a w') : wpList Tryz.prog ops Q (o :: rest) a w :=
  wpList_plain hgd fun _ hK => wp_store1 ty p x ho hdst B i v c t hp hx hs hb hi (fun w' W => hK _ _ (h w' W))
/-- What is put behind a nil list. -/
theorem wp_append_new {w : World} {o : Oper} {a : Act} {K : Act → World → Prop} {Q : Exit → Act → World → Prop} (s x : Operand) (t e : TypeId) (z : Value) (size bytes : Nat)
    (hop : o.op = .call { callee := .builtin .append, args := #[s, x], argTypes := #[t, t] }) (ht : Tryz.prog.underlying t = some (.slice e)) (hinfo : (Tryz.prog.info? e).map (fun i => (i.zero, i.size, i.bytes)) = some (some z, size, bytes)) (hz : z.cells.size = size) (hsz : 0 < size) (hby : bytes ≤ 1000)
    (hs : a.eval s = .slice none 0 0) (b c : Nat) (xs : List Value) (e' : TypeId) (hx : a.eval x = .slice (some ⟨b, 0, none⟩) 1 c) (hb : Blk w b xs e') (hl : xs.length = size) (h1 : ∀ u ∈ xs, u.oneCell' = true)
    (h : ∀ g cap ys w', w.heap.size ≤ g → Blk w' g (xs ++ ys) e → Below w.heap.size w w' → K (a.put o.dst (.slice (some ⟨g, 0, none⟩) 1 cap)) w') : o.wp Tryz.prog a w K Q := by
  obtain ⟨i0, hi, hz0, hz1, hz2⟩ := info_parts hinfo
  obtain ⟨v', w', hr, h2, h3, _⟩ := run_append_own (P := Tryz.prog) w w.heap.size t o.type e i0 _ size bytes ht hi hz0 hz1 hz2 hz hsz (.slice none 0 0) 0 [] (World.ownsRow_nil _ _ _ _) ⟨b, 0, none⟩ 1 c xs (by omega)
    (fun j u hu => by rw [addr_add, Nat.zero_add]; exact hb.cell j hu) h1 (by decide) (by omega) (Nat.le_refl _)
  obtain ⟨_, ⟨rfl, e⟩ | ⟨g, cap, cur, rfl, hg, hcur, _, _, _, htk⟩⟩ := h2
  · simp at e
  unfold Oper.wp execOp
  simp only [hop, resolve, invoke, builtin, Sem.run_bind, Sem.run_pure, Result.andThen_ok, List.map_toArray, List.map_cons, List.map_nil, hs, hx, hr]
  refine h g cap (cur.toList.drop ((0 + 1) * size)) w' hg ?_ ((Below.refl _ _).grown h3 (Nat.le_refl _) (fun k hk => by cases hk))
  unfold Blk
  rw [hcur]
  have e : xs ++ cur.toList.drop ((0 + 1) * size) = cur.toList := by
    have := List.take_append_drop ((0 + 1) * size) cur.toList
    rw [htk] at this
    simpa using this
  rw [e]
theorem wpList_append_new {w : World} {ops : Array Oper} {rest : List Oper} {o : Oper} {a : Act} {Q : Exit → Act → World → Prop} (hgd : o.guard = none) (s x : Operand) (t e : TypeId) (z : Value) (size bytes : Nat)
    (hop : o.op = .call { callee := .builtin .append, args := #[s, x], argTypes := #[t, t] }) (ht : Tryz.prog.underlying t = some (.slice e)) (hinfo : (Tryz.prog.info? e).map (fun i => (i.zero, i.size, i.bytes)) = some (some z, size, bytes)) (hz : z.cells.size = size) (hsz : 0 < size) (hby : bytes ≤ 1000)
    (hs : a.eval s = .slice none 0 0) (b c : Nat) (xs : List Value) (e' : TypeId) (hx : a.eval x = .slice (some ⟨b, 0, none⟩) 1 c) (hb : Blk w b xs e') (hl : xs.length = size) (h1 : ∀ u ∈ xs, u.oneCell' = true)
    (h : ∀ g cap ys w', w.heap.size ≤ g → Blk w' g (xs ++ ys) e → Below w.heap.size w w' → wpList Tryz.prog ops Q rest (a.put o.dst (.slice (some ⟨g, 0, none⟩) 1 cap)) w') : wpList Tryz.prog ops Q (o :: rest) a w :=
  wpList_plain hgd fun _ hK => wp_append_new s x t e z size bytes hop ht hinfo hz hsz hby hs b c xs e' hx hb hl h1 (fun g cap ys w' h2 h3 h4 => hK _ _ (h g cap ys w' h2 h3 h4))

/-- The list's first node alone: so many are such, it holds some. -/
def lsV (n : Nat) (own : Int) (hd : Bool) (ys : List Value) : List Value := .slice (some ⟨n, 0, none⟩) 1 1 :: .int .i64 own :: .slice none 0 0 :: .bool hd :: ys
theorem Tryz.infoIntT : (Tryz.prog.info? 3).map (fun i => (i.zero, i.size, i.bytes)) = some (some (.int .i64 0), 1, 8) := by kernel_rfl
theorem run_slice_int (k : Int) (w : World) : (Instr.buildSlice 44 1 #[(0, .int .i64 k)]).run Tryz.prog w = .ok (.slice (some ⟨w.heap.size, 0, none⟩) 1 1) (w.alloc (.cells #[.int .i64 k] 3)) := by
  obtain ⟨i0, hi, hz0, hz1, hz2⟩ := info_parts Tryz.infoIntT
  have hf : Instr.fill (fun i => some (i, 1)) (Array.map (fun x => [Value.int IntKind.i64 0][x % 1]?.getD default) (Array.range 1)) [(0, .int .i64 k)] = some #[.int .i64 k] := by kernel_rfl
  simp [Instr.buildSlice, run_underlying Tryz.underlying44, sizeOf, typeInfo, hi, hz0, hz1, zeroValue, newRow, Value.cells, hf]
theorem store_one (ty : TypeId) (v : Value) (h1 : (Tryz.prog.info? ty).map (·.size) = some 1) (hv : v.oneCell' = true) (hc : v.cells = #[v]) (B i : Nat) (w : World) (h : w.there B i 1) : (storeVar ty ⟨B, i, none⟩ v).run Tryz.prog w = .ok () (w.setCell ⟨B, i, none⟩ v) := by
  cases hq : Tryz.prog.info? ty with
  | none => simp [hq] at h1
  | some j =>
    have hs : j.size = 1 := by simpa [hq] using h1
    have := run_storeCells_cells (P := Tryz.prog) B i [v] 0 w (fun j hj => by simpa using (h j (by simpa using hj)).1) (fun j hj => by simpa using (h j (by simpa using hj)).2) (fun u hu => by simp at hu; subst hu; exact hv)
    simp only [Nat.add_zero, World.setCells] at this
    simp [storeVar, sizeOf, typeInfo, hq, hc, hs, this]
theorem wpList_new_int {w : World} {ops : Array Oper} {rest : List Oper} {o : Oper} {a : Act} {Q : Exit → Act → World → Prop} (hgd : o.guard = none) (x : Operand) (ho : o.op = .buildSlice 44 1 #[(0, x)]) (k : Int) (hx : a.eval x = .int .i64 k)
    (h : ∀ w', Blk w' w.heap.size [.int .i64 k] 3 → Below w.heap.size w w' → wpList Tryz.prog ops Q rest (a.put o.dst (.slice (some ⟨w.heap.size, 0, none⟩) 1 1)) w') : wpList Tryz.prog ops Q (o :: rest) a w :=
  wpList_slice hgd 44 1 #[(0, x)] ho #[(0, .int .i64 k)] (by simp [hx]) (run_slice_int k w) (h _ (Blk.new w [.int .i64 k] 3) (below_alloc w _))
end Go.Proofs.YtmajlfocfjcgmaaGreatDoor

/- Layer 15: slices.Repeat of one number. -/
namespace Go.Proofs.YtmajlfocfjcgmaaGreatDoor
open Go Go.RowKit

theorem blk_of_own {w : World} {base : Nat} {e : TypeId} {g n : Nat} {xs : List Value} (h : w.ownsRow base e 1 (.slice (some ⟨g, 0, none⟩) n n) n xs) : Blk w g xs e := by
  obtain ⟨h0, ⟨h1, _⟩ | ⟨g', cap, cur, h1, _, h3, _, _, h6, h7⟩⟩ := h
  · cases h1
  · injection h1 with e1 _ e3
    injection e1 with e1
    injection e1 with e1
    subst e1; subst e3
    unfold Blk
    rw [h3]
    congr 2
    apply Array.toList_inj.1
    rw [← h7, List.take_of_length_le (by simp; omega)]
/-- make of n elements of one cell. -/
theorem wpList_make_blk {w : World} {ops : Array Oper} {rest : List Oper} {o : Oper} {a : Act} {Q : Exit → Act → World → Prop}
    (hg : o.guard = none) (l c : Operand) (t : TypeId) (hop : o.op = Op.makeSlice t l c) (e : TypeId) (z : Value) (bytes : Nat) (h1 : Tryz.prog.underlying t = some (.slice e)) (hinf : (Tryz.prog.info? e).map (fun i => (i.zero, i.size, i.bytes)) = some (some z, 1, bytes)) (hz : z.cells = #[z])
    (n : Nat) (hl : a.eval l = .int .i64 (n : Int)) (hc : a.eval c = .int .i64 (n : Int)) (b2 : bytes * n ≤ 281474976710656) (b3 : n ≤ 1000000000)
    (hK : ∀ w', Blk w' w.heap.size (List.replicate n z) e → Below w.heap.size w w' → wpList Tryz.prog ops Q rest (a.put o.dst (.slice (some ⟨w.heap.size, 0, none⟩) n n)) w') :
    wpList Tryz.prog ops Q (o :: rest) a w := by
  obtain ⟨i0, hi, hz0, hz1, hz2⟩ := info_parts hinf
  refine wpList_make_full w hg l c t hop w.heap.size e i0 z 1 h1 hi hz0 hz1 .i64 .i64 n n n hl hc rfl rfl (by rw [hz2]; exact b2) (by unfold maxLen; omega) (Nat.le_refl _) ?_
  intro w' ho hgr
  refine hK w' ?_ (gb_bel (Below.refl _ _) hgr (fun k hk => by cases hk))
  have := blk_of_own ho
  rw [hz, Nat.mul_one, toList_madeCells_one] at this
  exact this

/-- The first k are x, the others z. -/
def rpC (x : Int) (k n : Nat) : List Value := List.replicate k (.int .i64 x) ++ List.replicate (n - k) (.int .i64 0)
theorem rpC_len {x : Int} {k n : Nat} (h : k ≤ n) : (rpC x k n).length = n := by simp [rpC]; omega
theorem rpC_splice {x : Int} {k n m : Nat} (h : k + m ≤ n) : splice (rpC x k n) k (List.replicate m (.int .i64 x)) = rpC x (k + m) n := by
  unfold splice rpC
  simp only [List.length_replicate]
  rw [List.take_left' (by simp), List.drop_append]
  simp only [List.length_replicate, List.drop_replicate]
  rw [show k - (k + m) = 0 by omega, List.replicate_zero, List.nil_append, show n - k - (k + m - k) = n - (k + m) by omega, ← List.append_assoc, List.replicate_append_replicate]
set_option maxRecDepth 100000 in
set_option maxHeartbeats 8000000 in
theorem repeat_any (x : Int) (n b : Nat) (w : World) (hx : w.cell? ⟨b, 0, none⟩ = some (.int .i64 x)) (hn : n ≤ 100000) : Calls Tryz.prog 33 #[.slice (some ⟨b, 0, none⟩) 1 1, .int .i64 n] w fun e w' => ∃ B, e = .returned (.slice (some ⟨B, 0, none⟩) n n) ∧ w.heap.size ≤ B ∧ Blk w' B (List.replicate n (.int .i64 x)) 3 ∧ Below w.heap.size w w' := by
  have i0 : ¬ (n : Int) < 0 := by omega
  have h0 := Tryz.bits_Mul 1 n (by omega) (by omega) w
  rw [show 1 * n / 18446744073709551616 = 0 by omega, show 1 * n % 18446744073709551616 = n by omega] at h0
  have e1 : IntKind.u64.wrap (n : Int) = n := by rw [IntKind.wrap_u64]; omega
  go_enter Tryz.func33, Tryz.ntmps33
  go_wp2_with fail
  refine h0.mono ?_
  rintro _ w9 ⟨rfl, hww⟩
  rw [hww]
  clear h0 i0 hww w9
  have i1 : ¬ (9223372036854775807 : Int) < n := by omega
  have e2 : IntKind.i64.wrap (n : Int) = n := by rw [IntKind.wrap_i64]; omega
  have HX := hyd hx
  clear hx
  go_upto_region 7 with (refine wpList_make_blk rfl _ _ _ rfl 3 (.int .i64 0) 8 Tryz.underlying44 Tryz.infoI rfl n rfl rfl (by omega) (by omega) ?_; intro w1 hb1 hl1; have H1 := hyd (show Blk w1 w.heap.size (rpC x 0 n) 3 ∧ Below w.heap.size w w1 from ⟨by simpa [rpC] using hb1, hl1⟩); clear hb1 hl1)
  have hmin : Nat.min 1 n = min 1 n := rfl
  go_wp2_with (refine wpList_copy_splice rfl _ _ 44 44 rfl 3 Tryz.underlying44 (by kernel_rfl) (some ⟨w.heap.size, 0, none⟩) (some ⟨b, 0, none⟩) n n 1 1 rfl rfl w.heap.size 0 (rpC x 0 n) 3 H1.out.1 (List.replicate (min 1 n) (.int .i64 x)) (by rw [List.length_replicate, hmin]) (fun hp => ⟨rfl, _, rfl, fun j v hj => by have hj0 : j = 0 := by { have := (List.getElem?_eq_some_iff.1 hj).1; rw [List.length_replicate] at this; omega }; subst hj0; have hv : v = .int .i64 x := List.eq_of_mem_replicate (List.mem_of_getElem? hj); subst hv; rw [adp]; exact up H1.out.2 HX.out⟩) (by rw [rpC_len (Nat.zero_le _), List.length_replicate]; omega) (fun v hv => by rw [List.eq_of_mem_replicate hv]; rfl) w.heap.size w H1.out.2 (Nat.le_refl _) ?_; intro w2 hb2 hl2; have H2 := hyd (show Blk w2 w.heap.size (rpC x (min 1 n) n) 3 ∧ Below w.heap.size w w2 from ⟨by have := hb2.out; rw [rpC_splice (by omega), Nat.zero_add] at this; exact this, hl2⟩); clear hb2 hl2 H1)
  clear e1 e2 i1 HX hmin
  generalize hBs : w.heap.size = B at *
  go_loopw [8] (fun i wr => ∃ k : Nat, k ≤ n ∧ (0 < n → 0 < k) ∧ i = .int .i64 k ∧ Blk wr B (rpC x k n) 3 ∧ Below B w wr) (fun i _ => n - (intOf i).toNat)
  case atStart => exact ⟨min 1 n, by omega, by omega, by simp, H2.out⟩
  case round =>
    clear H2
    obtain ⟨k, hk, hk0, rfl, hB⟩ := hrel
    have HB := hyd hB
    clear hB
    by_cases hlt : k < n
    · have il : (k : Int) < n := by omega
      have hkp := hk0 (by omega)
      go_upto_region 9 with fail
      have ic : ¬ n = k := by omega
      have i1 : (0 : Int) ≤ k := by omega
      have i2 : (k : Int) ≤ n := by omega
      refine wp_region_readsQN (fun _ => True) [0, 1, 2, 3, 4, 5, 6] 3 (by kernel_rfl) rfl (by kernel_rfl) (hj_ofQ (by kernel_rfl)) trivial ?_
      simp only [List.filterMap, List.getElem?_cons_zero, List.getElem?_cons_succ]
      iterate 7 go_big_quiet_step (rfl)
      refine wpQuiet_nil ?_
      refine wpAnyH_ready (rs := [7]) (by kernel_rfl) (by simp) ?_
      refine AllReadyH.cons rfl (fun K hK => ?_) AllReadyH.nil
      refine step_copy_splice rfl (.tmp 41) (.tmp 44) 44 44 rfl 3 Tryz.underlying44 (by kernel_rfl) (some ⟨B, k, none⟩) (some ⟨B, 0, none⟩) (n - k) (n - k) k n (by kernel_rfl) (by kernel_rfl) B k (rpC x k n) 3 HB.out.1 (List.replicate (min k (n - k)) (.int .i64 x)) (by rw [List.length_replicate]) (fun hp => ⟨rfl, _, rfl, fun j v hj => ?cell⟩) (by rw [rpC_len hk, List.length_replicate]; omega) (fun v hv => by rw [List.eq_of_mem_replicate hv]; rfl) B w HB.out.2.drew (Nat.le_refl _) ?_
      case cell =>
        have hj0 : j < min k (n - k) := by have := (List.getElem?_eq_some_iff.1 hj).1; rwa [List.length_replicate] at this
        have hv : v = .int .i64 x := List.eq_of_mem_replicate (List.mem_of_getElem? hj)
        subst hv
        rw [adp, Nat.zero_add]
        have hc : (rpC x k n)[j]? = some (.int .i64 x) := by
          unfold rpC
          rw [List.getElem?_append_left (by rw [List.length_replicate]; omega), List.getElem?_replicate, if_pos (by omega)]
        exact HB.out.1.cell j hc
      intro w4 hg4 hb4
      have H4 := hyd (show Blk w4 B (rpC x (k + min k (n - k)) n) 3 ∧ Below B w w4 from ⟨by have := hg4.out; rw [rpC_splice (by omega)] at this; exact this, hb4⟩)
      clear hg4 hb4 HB
      rw [List.length_replicate]
      obtain ⟨m, hm⟩ : ∃ m, m = min k (n - k) := ⟨_, rfl⟩
      rw [← hm] at H4
      rw [← hm]
      have hmk : m ≤ n - k ∧ 0 < m := by omega
      clear hm
      refine hK.out _ _ trivial (fun _ => ?_)
      clear hK K
      refine wpAnyH_ready (rs := [8]) (by kernel_rfl) (by simp) ?_
      refine AllReadyH.cons rfl (fun K hK => ?_) AllReadyH.nil
      rw [if_pos (by rfl)]
      go_simp
      rw [show IntKind.i64.wrap ((k : Int) + (m : Int)) = ((k + m : Nat) : Int) by rw [IntKind.wrap_i64]; omega]
      refine hK.out _ _ trivial (fun _ => ?_)
      clear hK K
      refine wpAnyH_ready (rs := [9]) (by kernel_rfl) (by simp) ?_
      refine AllReadyH.cons rfl (fun K hK => ?_) AllReadyH.nil
      rw [if_pos (by rfl)]
      go_simp
      refine hK.out _ _ trivial (fun _ => ?_)
      clear hK K
      refine wpAnyH_done (by kernel_rfl) ?_ _
      refine ⟨(fun c hc => by cases hc), ?_⟩
      go_wp2
      go_roundw
      case rel => exact ⟨k + m, by omega, by omega, rfl, H4.out⟩
      case measure => simp [intOf]; omega
    · have il : ¬ (k : Int) < n := by omega
      have e : k = n := by omega
      subst e
      have HB2 : Hid (Blk wr B (List.replicate k (.int .i64 x)) 3) := by show Blk _ _ _ _; have := HB.out.1; simpa [rpC] using this
      go_wp2
      go_ret
      exact ⟨B, rfl, Nat.le_refl _, HB2.out, HB.out.2⟩
end Go.Proofs.YtmajlfocfjcgmaaGreatDoor

/- Layer 15: freeFrom: the first place that has no handler yet. -/
namespace Go.Proofs.YtmajlfocfjcgmaaGreatDoor
open Go Go.RowKit

/-- Numbers in a row. -/
def nvL (a : Nat → Int) (n : Nat) : List Value := (List.range n).map fun i => .int .i64 (a i)
theorem nvL_len (a : Nat → Int) (n : Nat) : (nvL a n).length = n := by simp [nvL]
theorem nvL_get (a : Nat → Int) {n i : Nat} (h : i < n) : (nvL a n)[i]? = some (.int .i64 (a i)) := by simp [nvL, h]
def updI (a : Nat → Int) (k : Nat) (x : Int) : Nat → Int := fun i => if i = k then x else a i
theorem nvL_set (a : Nat → Int) (n k : Nat) (x : Int) : (nvL a n).set k (.int .i64 x) = nvL (updI a k x) n := by
  apply List.ext_getElem?
  intro i
  rw [List.getElem?_set]
  by_cases e : k = i
  · subst e
    rw [if_pos rfl]
    by_cases h : k < n
    · rw [nvL_len, if_pos h, nvL_get _ h]; simp [updI]
    · rw [nvL_len, if_neg h, List.getElem?_eq_none (by rw [nvL_len]; omega)]
  · rw [if_neg e]
    by_cases h : i < n
    · rw [nvL_get _ h, nvL_get _ h]
      simp [updI, show ¬ i = k from fun h => e h.symm]
    · rw [List.getElem?_eq_none (by rw [nvL_len]; omega), List.getElem?_eq_none (by rw [nvL_len]; omega)]
theorem rpl_nvL (n : Nat) (x : Int) : List.replicate n (Value.int .i64 x) = nvL (fun _ => x) n := by
  apply List.ext_getElem?
  intro i
  by_cases h : i < n
  · rw [nvL_get _ h, List.getElem?_replicate, if_pos h]
  · rw [List.getElem?_eq_none (by simp; omega), List.getElem?_eq_none (by rw [nvL_len]; omega)]
theorem WroteB.gb {w w' : World} {B : Nat} {c : List Value} {t : TypeId} (h : WroteB w w' B c t) : w.grownBy w' (some B) := by
  have hb := h.below (Nat.le_refl B) (Below.refl B w)
  exact ⟨hb.os, hb.tape, hb.output, Nat.le_of_eq h.size.symm, fun k _ hne => h.other k (fun e => hne (by rw [e]))⟩
theorem gb_trans {a b c : World} {r : Option Nat} (h : a.grownBy b r) (k : b.grownBy c r) : a.grownBy c r :=
  ⟨k.os.trans h.os, k.tape.trans h.tape, k.output.trans h.output, Nat.le_trans h.size k.size, fun i hi hne => (k.block i (Nat.lt_of_lt_of_le hi h.size) hne).trans (h.block i hi hne)⟩

/-- Leaps: a number that is free is its own, all that is leapt over isn't free. -/
structure Ah (n : Nat) (S : Nat → Prop) (a : Nat → Int) : Prop where
  le : ∀ k : Nat, k ≤ n → (k : Int) ≤ a k ∧ a k ≤ n
  fix : ∀ k : Nat, k ≤ n → (a k = k ↔ ¬ S k)
  run : ∀ k j : Nat, k ≤ n → k ≤ j → (j : Int) < a k → S j
theorem Ah.half {n : Nat} {S : Nat → Prop} {a : Nat → Int} (h : Ah n S a) {k : Nat} (hk : k ≤ n) (hne : a k ≠ k) : Ah n S (updI a k (a (a k).toNat)) := by
  have h1 := h.le k hk
  have e : ((a k).toNat : Int) = a k := by omega
  have h2 := h.le (a k).toNat (by omega)
  refine ⟨fun i hi => ?_, fun i hi => ?_, fun i j hi hij hj => ?_⟩
  · unfold updI; split
    · rename_i e1; subst e1; omega
    · exact h.le i hi
  · unfold updI; split
    · rename_i e1; subst e1
      have h3 : ¬ ¬ S i := fun h4 => hne ((h.fix i hi).2 h4)
      constructor
      · intro h4; omega
      · intro h4; exact absurd h4 h3
    · exact h.fix i hi
  · unfold updI at hj; split at hj
    · rename_i e1; subst e1
      by_cases h3 : (j : Int) < a i
      · exact h.run i j hi hij h3
      · exact h.run (a i).toNat j (by omega) (by omega) hj
    · exact h.run i j hi hij hj
theorem Ah.take {n : Nat} {S : Nat → Prop} {a : Nat → Int} (h : Ah n S a) {r : Nat} (hr : r < n) : Ah n (fun p => S p ∨ p = r) (updI a r ((r : Int) + 1)) := by
  refine ⟨fun i hi => ?_, fun i hi => ?_, fun i j hi hij hj => ?_⟩
  · unfold updI; split
    · rename_i e1; subst e1; omega
    · exact h.le i hi
  · unfold updI; split
    · rename_i e1; subst e1
      constructor
      · intro h4; omega
      · intro h4; exact absurd (Or.inr rfl) h4
    · rename_i e1
      rw [h.fix i hi]
      constructor
      · rintro h4 (h5 | h5); exact h4 h5; exact e1 h5
      · intro h4 h5; exact h4 (Or.inl h5)
  · unfold updI at hj; split at hj
    · rename_i e1; subst e1; right; omega
    · left; exact h.run i j hi hij hj
/-- Its row. -/
structure Ax (w : World) (B n : Nat) (S : Nat → Prop) (a : Nat → Int) (u : World) : Prop where
  ah : Ah n S a
  b : Blk u B (nvL a (n + 1)) 3
  g : w.grownBy u (some B)
structure FrR (n : Nat) (S : Nat → Prop) (at_ r : Nat) : Prop where
  le : r ≤ n
  no : ¬ S r
  ge : at_ ≤ n → at_ ≤ r
  all : ∀ j, at_ ≤ j → j < r → S j
  far : ¬ at_ ≤ n → r = n
set_option maxRecDepth 100000 in
set_option maxHeartbeats 8000000 in
theorem freeFrom_any (n N : Nat) (S : Nat → Prop) (B : Nat) (a : Nat → Int) (at_ : Nat) (w : World) (hN : N = n + 1) (hn : n ≤ 100000) (hS : ¬ S n) (hA : Ah n S a) (hB : Blk w B (nvL a (n + 1)) 3) :
    Calls Tryz.prog 34 #[.slice (some ⟨B, 0, none⟩) N N, .int .i64 at_] w fun e w' => ∃ r a', e = .returned (.int .i64 (r : Nat)) ∧ FrR n S at_ r ∧ Ax w B n S a' w' := by
  have HN := hyd hN
  have HX : Hid (Ax w B n S a w) := ⟨hA, hB, gbr _ _⟩
  have HS := hyd hS
  clear hA hB hS hN
  by_cases h0 : N ≤ at_
  · have i0 : (N : Int) ≤ at_ := by omega
    have e1 : IntKind.i64.wrap ((N : Int) - 1) = n := by rw [IntKind.wrap_i64]; have := HN.out; omega
    have hN1 : N ≤ 100001 := by have := HN.out; omega
    go_enter Tryz.func34, Tryz.ntmps34
    go_wp2
    go_ret
    exact ⟨n, a, by first | rfl | (rw [← e1]), ⟨Nat.le_refl _, HS.out, fun h => by have := HN.out; omega, fun j h1 h2 => by have := HN.out; omega, fun _ => rfl⟩, HX.out⟩
  · have i0 : ¬ (N : Int) ≤ at_ := by omega
    go_enter Tryz.func34, Tryz.ntmps34
    go_wp2
    have hle : at_ ≤ n := by have := HN.out; omega
    clear i0 h0
    go_loopw [1] (fun i wr => ∃ (k : Nat) (a' : Nat → Int), k ≤ n ∧ at_ ≤ k ∧ i = .int .i64 k ∧ (∀ j, at_ ≤ j → j < k → S j) ∧ Ax w B n S a' wr) (fun i _ => n - (intOf i).toNat)
    case atStart => exact ⟨at_, a, hle, Nat.le_refl _, rfl, fun j h1 h2 => by omega, HX.out⟩
    case round =>
      clear HX
      obtain ⟨k, a', hk, hge, rfl, hall, hX⟩ := hrel
      have HX := hyd hX
      have HL := hyd hall
      clear hX hall
      have hNN := HN.out
      have ik : (k : Int) < N := by omega
      have c0 := HX.out.b.cell k (nvL_get a' (show k < n + 1 by omega))
      have hl1 := HX.out.ah.le k hk
      obtain ⟨y, hy⟩ : ∃ y : Nat, a' k = y := ⟨(a' k).toNat, by omega⟩
      have HY := hyd hy
      rw [hy] at c0 hl1
      clear hy
      by_cases e : y = k
      · have d : ((y : Int) != (k : Int)) = false := by simp [e]
        have HE : Hid (FrR n S at_ k) := ⟨hk, (HX.out.ah.fix k hk).1 (by rw [HY.out, e]), fun _ => hge, HL.out, fun h => absurd hle h⟩
        clear e
        go_wp2
        go_ret
        exact ⟨k, a', rfl, HE.out, HX.out⟩
      · have d : ((y : Int) != (k : Int)) = true := by simp; omega
        have iy : (y : Int) < N := by omega
        have c1 := HX.out.b.cell y (nvL_get a' (show y < n + 1 by omega))
        have HH := hyd (HX.out.ah.half hk (by rw [HY.out]; omega))
        have hl2 := HX.out.ah.le y (by omega)
        have HR := hyd (HX.out.ah.run k)
        rw [HY.out] at HR
        rw [HY.out, Int.toNat_natCast] at HH
        obtain ⟨z, hz⟩ : ∃ z : Nat, a' y = z := ⟨(a' y).toNat, by omega⟩
        rw [hz] at c1 HH hl2
        have HR2 := hyd (HX.out.ah.run y)
        rw [hz] at HR2
        clear hz
        go_wp2_with (refine wpList_store1 rfl 3 (.tmp 27) (.tmp 26) rfl rfl B k (.int .i64 z) _ _ (by kernel_rfl) (by kernel_rfl) (store_one _ _ (by kernel_rfl) rfl rfl _ _) HX.out.b (by rw [nvL_len]; omega) ?_; intro w1 W1; have HX1 : Hid (Ax w B n S (updI a' k z) w1) := ⟨HH.out, by rw [← nvL_set]; exact W1.blk, gb_trans HX.out.g W1.gb⟩; have c2 : w1.cell? ⟨B, k, none⟩ = some (.int .i64 z) := by { have := HX1.out.b.cell k (nvL_get _ (show k < n + 1 by omega)); simpa [updI] using this }; clear W1 HX c0 c1 HH)
        go_roundw
        case rel =>
          refine ⟨z, _, by omega, by omega, rfl, fun j h1 h2 => ?_, HX1.out⟩
          by_cases g1 : j < k
          · exact HL.out j h1 g1
          · by_cases g2 : j < y
            · exact HR.out j hk (by omega) (by omega)
            · exact HR2.out j (by omega) (by omega) (by omega)
        case measure => simp [intOf]; omega
end Go.Proofs.YtmajlfocfjcgmaaGreatDoor
