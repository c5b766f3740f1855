/- Layer 13: whether a class is formed, and its pool: gather, Formed. -/
import Derived.Test.YtmajlfocfjcgmaaGreatDoorP23
import Derived.Test.YtmajlfocfjcgmaaGreatDoorP20
import Derived.Test.YtmajlfocfjcgmaaGreatDoorP8
import Derived.Test.YtmajlfocfjcgmaaGreatDoorP6
import Derived.Test.YtmajlfocfjcgmaaGreatDoorP10
namespace Go.Proofs.YtmajlfocfjcgmaaGreatDoor
open Go Go.RowKit

def fnL (f : Nat → Cf) : Nat → List Ty → List Ty
  | 0, R => R
  | k + 1, R => (f k).take (fnL f k R)
/-- What gather answers. -/
structure GatR (c : Kl) (w : World) (e : Ending) (w' : World) : Prop where
  yes : c.fm = true → ∃ p S, e = .returned (.tuple #[.pointer (some ⟨p, 0, none⟩), .bool true]) ∧ Pl w c.n c.g p S (fnL c.fs.x c.fs.len []) w' ∧ (fnL c.fs.x c.fs.len []).length ≤ 2000000000
  no : c.fm = false → e = .returned (.tuple #[.pointer none, .bool false])
  bl : Below w.heap.size w w'
theorem allFn_any {w0 : World} {n : Strs} {g : Grid} {p : Nat} (hF : formedB n g = true) (hn : n.At w0) (hg : g.At w0) (hO : Og w0) (r : Rw Cf) (S : Nat → Prop) (w : World) (hr : CfsAt w0 r) (hP : Pl w0 n g p S [] w) (h60 : r.len ≤ 60) :
    Calls Tryz.prog 36 #[.slice r.ao r.len r.cap, .func (.func 37) #[.pointer (some ⟨p, 0, none⟩)] #[]] w fun e w' => BR w0 n g p S w [] (20720720 * r.len) (decide (∀ i, i < r.len → (r.x i).fm n.len = true)) (fnL r.x r.len []) e w' := by
  have hA := all_fn (.pointer (some ⟨p, 0, none⟩)) (fun i u => (∃ S', Pg w0 n g p S w S' (fnL r.x i []) u) ∧ (fnL r.x i []).length ≤ 20720720 * i) (fun u => Below w0.heap.size w0 u) (fun i => (r.x i).fm n.len) r.ao r.b r.o r.len r.cap (fun i => (r.x i).vs) w hr.nil hr.bound (fun _ _ => rfl) (fun i _ => Cf.vs_one _)
    (fun i u hi h => by
      obtain ⟨⟨S', h1⟩, _⟩ := h
      exact range_kept (hr.row i hi) h1.pl.bl)
    (fun i u u' _ h hb => by
      obtain ⟨⟨S', h1⟩, h2⟩ := h
      exact ⟨⟨S', h1.kept hb⟩, h2⟩)
    (fun i u hi h => by
      obtain ⟨⟨S', h1⟩, h2⟩ := h
      refine (functionFormed_any hF hn hg hO (r.x i) (hr.each i hi) S' (fnL r.x i []) u h1.pl (by omega)).mono ?_
      intro e u' h3
      refine ⟨h3.ret, fun h5 => ?_, fun _ => h3.bl⟩
      obtain ⟨⟨S2, h4⟩, h6⟩ := h3.yes h5
      refine ⟨⟨S2, h1.trans h4⟩, ?_⟩
      show ((r.x i).take (fnL r.x i [])).length ≤ _
      omega)
    ⟨⟨S, Pg.of hP (Below.refl _ _)⟩, Nat.le_refl _⟩
  refine hA.mono fun e w' h => ⟨h.ret, fun h1 => ?_, ?_⟩
  · obtain ⟨h2, h3⟩ := h.yes (of_decide_eq_true h1)
    exact ⟨h2, by simpa using h3⟩
  · by_cases h1 : ∀ i, i < r.len → (r.x i).fm n.len = true
    · obtain ⟨⟨S', h2⟩, _⟩ := h.yes h1
      exact h2.pl.bl
    · apply h.no
      apply Classical.byContradiction
      intro h2
      apply h1
      intro i hi
      cases h3 : (r.x i).fm n.len
      · exact absurd ⟨i, hi, h3⟩ h2
      · rfl

set_option maxRecDepth 100000 in
set_option maxHeartbeats 8000000 in
theorem gather_any (c : Kl) (w : World) (hc : c.At w) (hO : Og w) : Calls Tryz.prog 24 #[.agg #[.slice c.n.ao c.n.len c.n.cap, .slice c.g.ao c.g.len c.g.cap, .slice c.fs.ao c.fs.len c.fs.cap]] w fun e w' => GatR c w e w' := by
  have B0 := below_alloc w (.cells #[.slice c.n.ao c.n.len c.n.cap, .slice c.g.ao c.g.len c.g.cap, .slice c.fs.ao c.fs.len c.fs.cap] 28)
  have b := Blk.new w [.slice c.n.ao c.n.len c.n.cap, .slice c.g.ao c.g.len c.g.cap, .slice c.fs.ao c.fs.len c.fs.cap] 28
  have c0 := b.cell 0 rfl
  have c1 := b.cell 1 rfl
  have c2 := b.cell 2 rfl
  have HD := hyd (show c.At w ∧ Og w from ⟨hc, hO⟩)
  have HB := hyd B0
  have HF : Hid (c.fm = (formedB c.n c.g && ((decide (1 ≤ c.fs.len) && decide (c.fs.len ≤ 60)) && decide (∀ i, i < c.fs.len → (c.fs.x i).fm c.n.len = true)))) := rfl
  have h0 := formed_any c.n c.g _ (hc.n.kept B0) (hc.g.kept B0)
  have hmf : ∀ (fn : Fn) (first cap : Array Value) (w : World), (Instr.makeFunc fn first cap).run Tryz.prog w = .ok (.func fn first cap) w := fun _ _ _ _ => rfl
  have hmm := @run_makeMap Tryz.prog
  have HG : Hid (∀ e w', e = .returned (.tuple #[.pointer none, .bool false]) → c.fm = false → Below w.heap.size w w' → GatR c w e w') := fun e w' h1 h2 h3 => ⟨fun h => (by rw [h2] at h; cases h), fun _ => h1, h3⟩
  have HF0 : Hid (formedB c.n c.g = true → formedB c.n c.g = true) := fun h => h
  clear hc hO B0 b
  generalize hfb : formedB c.n c.g = b0 at h0 HF
  have HFB := hyd hfb
  clear hfb
  go_enter Tryz.func24, Tryz.ntmps24
  go_wp2_with fail
  refine h0.mono ?_
  rintro _ w1 ⟨rfl, hb1⟩
  have HB1 := hyd (Below.next HB.out hb1)
  have d0 := up hb1 c0
  have d1 := up hb1 c1
  have d2 := up hb1 c2
  clear h0 c0 c1 c2 hb1 HB
  cases b0
  · have HE : Hid (c.fm = false) := by show _ = _; rw [HF.out]; rfl
    go_wp2
    go_ret2
    exact HG.out _ _ rfl HE.out HB1.out
  by_cases hl0 : c.fs.len = 0
  · have e0 : ((c.fs.len : Int) == 0) = true := by simpa using hl0
    have HE : Hid (c.fm = false) := by show _ = _; rw [HF.out, decide_eq_false (show ¬ 1 ≤ c.fs.len by omega)]; rfl
    clear hl0
    go_wp2
    go_ret2
    exact HG.out _ _ rfl HE.out HB1.out
  have e0 : ((c.fs.len : Int) == 0) = false := by simpa using hl0
  by_cases hl1 : 60 < c.fs.len
  · have e1 : (60 : Int) < c.fs.len := by omega
    have HE : Hid (c.fm = false) := by show _ = _; rw [HF.out, decide_eq_false (show ¬ c.fs.len ≤ 60 by omega)]; simp
    clear hl0
    go_wp2
    go_ret2
    exact HG.out _ _ rfl HE.out HB1.out
  have e1 : ¬ (60 : Int) < c.fs.len := by omega
  have HLN := hyd (show c.fs.len ≤ 60 by omega)
  have HF2 : Hid (c.fm = decide (∀ i, i < c.fs.len → (c.fs.x i).fm c.n.len = true)) := by
    show _ = _
    rw [HF.out, decide_eq_true (show 1 ≤ c.fs.len by omega), decide_eq_true (show c.fs.len ≤ 60 by omega)]; rfl
  clear hl0 hl1
  go_upto_region 4 with fail
  have B2 := Below.next (below_alloc w1 (.map #[] 0)) (below_alloc (w1.alloc (.map #[] 0)) (.cells #[.slice c.n.ao c.n.len c.n.cap, .slice c.g.ao c.g.len c.g.cap, .slice none 0 0, .map (some w1.heap.size)] 80))
  have f2 := up B2 d2
  have HPl := hyd (show Pl w c.n c.g (w1.heap.size + 1) (PS (w1.heap.size + 1) w1.heap.size (.slice none 0 0)) [] ((w1.alloc (.map #[] 0)).alloc (.cells #[.slice c.n.ao c.n.len c.n.cap, .slice c.g.ao c.g.len c.g.cap, .slice none 0 0, .map (some w1.heap.size)] 80)) from by
    have hb := Blk.new (w1.alloc (.map #[] 0)) [.slice c.n.ao c.n.len c.n.cap, .slice c.g.ao c.g.len c.g.cap, .slice none 0 0, .map (some w1.heap.size)] 80
    rw [alloc_size] at hb
    refine ⟨w1.heap.size, .slice none 0 0, #[], 0, [], ⟨Below.next HB1.out B2, hb, ?_, NKeys.nil, Good.nil _, World.ownsRow_nil _ _ _ _, by simp, ?_, HB1.out.size⟩, rfl⟩
    · rw [(below_alloc (w1.alloc (.map #[] 0)) _).block _ (by rw [alloc_size]; omega)]
      exact heap_alloc_new w1 (.map #[] 0)
    · have := HB1.out.size; omega)
  have h2 := allFn_any HFB.out HD.out.1.n HD.out.1.g HD.out.2 c.fs _ _ HD.out.1.fs HPl.out HLN.out
  clear d0 d1 d2 B2
  generalize (w1.alloc (.map #[] 0)).alloc (.cells #[.slice c.n.ao c.n.len c.n.cap, .slice c.g.ao c.g.len c.g.cap, .slice none 0 0, .map (some w1.heap.size)] 80) = u2 at *
  generalize w1.heap.size + 1 = p at *
  rw [← HF2.out] at h2
  have HGY : Hid (∀ S' w', c.fm = true → Pl w c.n c.g p S' (fnL c.fs.x c.fs.len []) w' → (fnL c.fs.x c.fs.len []).length ≤ 2000000000 → GatR c w (.returned (.tuple #[.pointer (some ⟨p, 0, none⟩), .bool true])) w') := fun S' w' h1 h2 h3 => ⟨fun _ => ⟨p, S', rfl, h2, h3⟩, fun h => (by rw [h1] at h; cases h), h2.bl⟩
  generalize hcf : c.fm = F at *
  go_wp2_with fail
  refine Calls.mono h2 ?_
  intro e u3 h6
  obtain rfl := h6.ret
  have H6 := hyd h6
  clear h2 h6 f2
  cases F
  · go_wp2
    go_ret2
    exact HG.out _ _ rfl (by simp) H6.out.bl
  · obtain ⟨⟨S', h7⟩, h8⟩ := H6.out.yes (by simp)
    have HL8 : Hid ((fnL c.fs.x c.fs.len []).length ≤ 2000000000) := by have h9 := HLN.out; simp at h8; show _ ≤ _; omega
    clear h8
    have H7 := hyd h7.pl
    clear h7
    go_wp2
    go_ret2
    exact HGY.out S' _ (by simp) H7.out HL8.out

set_option maxHeartbeats 4000000 in
theorem cFormed_any (c : Kl) (w : World) (hc : c.At w) (hO : Og w) : Calls Tryz.prog 14 #[.agg #[.slice c.n.ao c.n.len c.n.cap, .slice c.g.ao c.g.len c.g.cap, .slice c.fs.ao c.fs.len c.fs.cap]] w fun e w' => e = .returned (.bool c.fm) ∧ Below w.heap.size w w' := by
  have B0 := below_alloc w (.cells #[.slice c.n.ao c.n.len c.n.cap, .slice c.g.ao c.g.len c.g.cap, .slice c.fs.ao c.fs.len c.fs.cap] 28)
  have b := Blk.new w [.slice c.n.ao c.n.len c.n.cap, .slice c.g.ao c.g.len c.g.cap, .slice c.fs.ao c.fs.len c.fs.cap] 28
  have c0 := b.cell 0 rfl
  have c1 := b.cell 1 rfl
  have c2 := b.cell 2 rfl
  have h := gather_any c _ (Kl.At.kept B0 hc) (hO.kept B0)
  have HB := hyd B0
  clear b B0
  go_enter Tryz.func14, Tryz.ntmps14
  go_wp2_with fail
  refine Calls.mono h ?_
  intro e w1 h1
  have HB1 := hyd (Below.next HB.out h1.bl)
  have H1 := hyd h1
  clear h c0 c1 c2
  cases hf : c.fm
  · obtain rfl := h1.no hf
    have HF := hyd hf
    clear h1 H1 hf
    go_wp2
    go_ret
    exact ⟨ret_bool HF.out.symm, HB1.out⟩
  · obtain ⟨p, S, rfl, _⟩ := h1.yes hf
    have HF := hyd hf
    clear h1 H1 hf
    go_wp2
    go_ret
    exact ⟨ret_bool HF.out.symm, HB1.out⟩
end Go.Proofs.YtmajlfocfjcgmaaGreatDoor

/- Layer 14: rule 2, the first rule that is broken, Check. -/
namespace Go.Proofs.YtmajlfocfjcgmaaGreatDoor
open Go Go.RowKit

/-- A class's three cells. -/
def Kl.cs (c : Kl) : List Value := [.slice c.n.ao c.n.len c.n.cap, .slice c.g.ao c.g.len c.g.cap, .slice c.fs.ao c.fs.len c.fs.cap]
/-- Both boxes: the class's, the function's. -/
structure Sb (w : World) (c : Kl) (f : Cf) (BC BF : Nat) (u : World) : Prop where
  bl : Below w.heap.size w u
  bC : Blk u BC c.cs 28
  bF : Blk u BF f.vs 43
  f : f.At u
theorem Sb.kept {w : World} {c : Kl} {f : Cf} {BC BF : Nat} {u u' : World} (h : Sb w c f BC BF u) (hb : Below u.heap.size u u') : Sb w c f BC BF u' := ⟨Below.next h.bl hb, h.bC.kept hb, h.bF.kept hb, Cf.At.kept hb h.f⟩
theorem Sb.new (w : World) (c : Kl) (f : Cf) (hf : f.At w) : Sb w c f w.heap.size (w.heap.size + 1) ((w.alloc (.cells #[.slice c.n.ao c.n.len c.n.cap, .slice c.g.ao c.g.len c.g.cap, .slice c.fs.ao c.fs.len c.fs.cap] 28)).alloc (.cells f.vs.toArray 43)) := by
  have B0 := below_alloc w (.cells #[.slice c.n.ao c.n.len c.n.cap, .slice c.g.ao c.g.len c.g.cap, .slice c.fs.ao c.fs.len c.fs.cap] 28)
  have b0 := Blk.new w c.cs 28
  have B1 := below_alloc (w.alloc (.cells #[.slice c.n.ao c.n.len c.n.cap, .slice c.g.ao c.g.len c.g.cap, .slice c.fs.ao c.fs.len c.fs.cap] 28)) (.cells f.vs.toArray 43)
  have b1 := Blk.new (w.alloc (.cells #[.slice c.n.ao c.n.len c.n.cap, .slice c.g.ao c.g.len c.g.cap, .slice c.fs.ao c.fs.len c.fs.cap] 28)) f.vs 43
  rw [alloc_size] at b1
  exact ⟨Below.next B0 B1, b0.kept B1, b1, Cf.At.kept (Below.next B0 B1) hf⟩

set_option maxRecDepth 100000 in
set_option maxHeartbeats 8000000 in
theorem code_any14 (c : Kl) (f : Cf) (w : World) (hf : f.At w) (hpos : 0 < f.cd.len) : Calls Tryz.prog 26 #[.agg #[.slice c.n.ao c.n.len c.n.cap, .slice c.g.ao c.g.len c.g.cap, .slice c.fs.ao c.fs.len c.fs.cap], .agg f.vs.toArray] w fun e w' => e = .returned (.bool (f.codB c.fs.len c.n.len)) ∧ Below w.heap.size w w' := by
  have H1 := hyd (Sb.new w c f hf)
  have HA : Hid (f.codB c.fs.len c.n.len = (decide (∀ i, i < f.cd.len → (f.cd.x i).nhB c.fs.len c.n.len f.sl f.cd.len i = true) && lastB (f.cd.x (f.cd.len - 1)).op)) := rfl
  have hbd := hf.cd.bound
  have HNIL := hyd (hf.cd.nil hpos)
  have HP := hyd hpos
  generalize f.codB c.fs.len c.n.len = F at *
  clear hf hpos
  have hs := alloc_size w (.cells #[.slice c.n.ao c.n.len c.n.cap, .slice c.g.ao c.g.len c.g.cap, .slice c.fs.ao c.fs.len c.fs.cap] 28)
  generalize hw0 : w.alloc (.cells #[.slice c.n.ao c.n.len c.n.cap, .slice c.g.ao c.g.len c.g.cap, .slice c.fs.ao c.fs.len c.fs.cap] 28) = u0 at *
  generalize hw1 : u0.alloc (.cells f.vs.toArray 43) = u1 at *
  have c14 := H1.out.bF.cell 14 rfl
  rw [HNIL.out] at c14
  go_enter Tryz.func26, Tryz.ntmps26
  go_wp2
  clear hw0 hw1 hs
  go_loopw [10] (fun i wr => ∃ (j : Nat), j ≤ f.cd.len ∧ i = .int .i64 j ∧ Sb w c f w.heap.size (w.heap.size + 1) wr ∧ (∀ i, i < j → (f.cd.x i).nhB c.fs.len c.n.len f.sl f.cd.len i = true)) (fun i _ => f.cd.len - (intOf i).toNat)
  case atStart => exact ⟨0, Nat.zero_le _, rfl, H1.out, fun i hi => absurd hi (Nat.not_lt_zero _)⟩
  case round =>
    clear H1 c14
    obtain ⟨j, hj, rfl, hBl, hall⟩ := hrel
    have HB := hyd hBl
    have HL := hyd hall
    clear hBl hall
    by_cases hlt : j < f.cd.len
    · have ij : (j : Int) < f.cd.len := by omega
      have d0 := HB.out.bC.cell 0 rfl
      have d1 := HB.out.bC.cell 1 rfl
      have d2 := HB.out.bC.cell 2 rfl
      have rF := HB.out.bF.range
      have HY := hyd (all_step14 (P := fun i => (f.cd.x i).nhB c.fs.len c.n.len f.sl f.cd.len i = true) HL.out)
      have HNo : Hid ((f.cd.x j).nhB c.fs.len c.n.len f.sl f.cd.len j = false → F = false) := fun h => by
        rw [HA.out, decide_eq_false (fun hh => by have := hh j hlt; rw [h] at this; cases this)]; rfl
      have hc := number_any14 c f j wr HB.out.f hlt
      generalize (f.cd.x j).nhB c.fs.len c.n.len f.sl f.cd.len j = bb at *
      generalize hBF : w.heap.size + 1 = BF at *
      go_wp2_with (refine wpList_load_mid rfl 43 (.tmp 3) rfl BF 0 (by kernel_rfl) f.vs _ rF Tryz.underlying43 rfl (by kernel_rfl) ?_)
      refine hc.mono ?_
      rintro _ u2 ⟨rfl, hb⟩
      have HB2 := hyd (HB.out.kept hb)
      clear hc hb d0 d1 d2 rF HB
      cases bb
      · have HE := hyd (HNo.out (by simp))
        go_wp2
        go_ret
        exact ⟨ret_bool HE.out.symm, HB2.out.bl⟩
      · have HE := hyd (HY.out (by simp))
        subst hBF
        go_wp2
        go_roundw
        case rel => exact ⟨j + 1, by omega, by go_num, HB2.out, HE.out⟩
        case measure => simp [intOf]; omega
    · have e2 : ¬ (j : Int) < f.cd.len := by omega
      have HE : Hid (F = lastB (f.cd.x (f.cd.len - 1)).op) := by show _ = _; rw [HA.out, decide_eq_true (fun i hi => HL.out i (by omega))]; rfl
      have c14 := HB.out.bF.cell 14 rfl
      rw [HNIL.out] at c14
      have hp0 : (0 : Int) < f.cd.len := by have := HP.out; omega
      have r0 := HB.out.f.cd.row (f.cd.len - 1) (by omega) 0 _ rfl
      simp only [Nat.add_zero] at r0
      have HE2 : Hid (F = (decide ((f.cd.x (f.cd.len - 1)).op = 27) || decide ((f.cd.x (f.cd.len - 1)).op = 26))) := by show _ = _; rw [HE.out]; rfl
      clear HE HP
      generalize (f.cd.x (f.cd.len - 1)).op = op at *
      by_cases o1 : op = 27
      · subst o1
        have HE3 : Hid (F = true) := by show _ = _; rw [HE2.out]; rfl
        go_wp2
        go_ret
        exact ⟨ret_bool HE3.out.symm, HB.out.bl⟩
      have n1 : (op == 27) = false := by simpa using o1
      by_cases o2 : op = 26
      · subst o2
        have HE3 : Hid (F = true) := by show _ = _; rw [HE2.out]; rfl
        clear n1
        go_wp2
        go_ret
        exact ⟨ret_bool HE3.out.symm, HB.out.bl⟩
      have n2 : (op == 26) = false := by simpa using o2
      have HE3 : Hid (F = false) := by show _ = _; rw [HE2.out, decide_eq_false o1, decide_eq_false o2]; rfl
      clear o1 o2
      go_wp2
      go_ret
      exact ⟨ret_bool HE3.out.symm, HB.out.bl⟩

set_option maxRecDepth 100000 in
set_option maxHeartbeats 8000000 in
theorem broken_any (c : Kl) (f : Cf) (w : World) (hf : f.At w) : Calls Tryz.prog 15 #[.agg #[.slice c.n.ao c.n.len c.n.cap, .slice c.g.ao c.g.len c.g.cap, .slice c.fs.ao c.fs.len c.fs.cap], .agg f.vs.toArray] w fun e w' => e = .returned (.int .i64 (f.brk c.fs.len c.n.len : Nat)) ∧ Below w.heap.size w w' := by
  have H1 := hyd (Sb.new w c f hf)
  have HX : Hid (f.brk c.fs.len c.n.len = if f.cntB = false then 1 else if f.codB c.fs.len c.n.len = false then 2 else if f.hanB = false then 3 else if f.regB = false then 4 else 0) := rfl
  have HP : Hid (f.cntB = true → 0 < f.cd.len) := fun h => by
    unfold Cf.cntB at h
    simp only [Bool.and_eq_true, decide_eq_true_eq] at h
    exact h.1.1
  generalize f.brk c.fs.len c.n.len = F at *
  clear hf
  have hs := alloc_size w (.cells #[.slice c.n.ao c.n.len c.n.cap, .slice c.g.ao c.g.len c.g.cap, .slice c.fs.ao c.fs.len c.fs.cap] 28)
  generalize hw0 : w.alloc (.cells #[.slice c.n.ao c.n.len c.n.cap, .slice c.g.ao c.g.len c.g.cap, .slice c.fs.ao c.fs.len c.fs.cap] 28) = u0 at *
  generalize hw1 : u0.alloc (.cells f.vs.toArray 43) = u1 at *
  have rF := H1.out.bF.range
  have hc := counts_any f u1
  generalize f.cntB = b1 at *
  generalize hBF : w.heap.size + 1 = BF at *
  go_enter Tryz.func15, Tryz.ntmps15
  go_wp2_with (refine wpList_load_mid rfl 43 (.tmp 3) rfl BF 0 (by kernel_rfl) f.vs _ rF Tryz.underlying43 rfl (by kernel_rfl) ?_)
  refine hc.mono ?_
  rintro _ u2 ⟨rfl, hb⟩
  have H2 := hyd (H1.out.kept hb)
  clear hc hb rF H1 hw0 hw1 hs
  cases b1
  · have HE : Hid (F = 1) := by show _ = _; rw [HX.out]; rfl
    go_wp2
    go_ret
    exact ⟨ret_int (by rw [HE.out]; rfl), H2.out.bl⟩
  have rF := H2.out.bF.range
  have d0 := H2.out.bC.cell 0 rfl
  have d1 := H2.out.bC.cell 1 rfl
  have d2 := H2.out.bC.cell 2 rfl
  have hc := code_any14 c f u2 H2.out.f (HP.out (by simp))
  generalize f.codB c.fs.len c.n.len = b2 at *
  go_wp2_with (refine wpList_load_mid rfl 43 (.tmp 3) rfl BF 0 (by kernel_rfl) f.vs _ rF Tryz.underlying43 rfl (by kernel_rfl) ?_)
  refine hc.mono ?_
  rintro _ u3 ⟨rfl, hb⟩
  have H3 := hyd (H2.out.kept hb)
  clear hc hb rF H2 d0 d1 d2
  cases b2
  · have HE : Hid (F = 2) := by show _ = _; rw [HX.out]; rfl
    go_wp2
    go_ret
    exact ⟨ret_int (by rw [HE.out]; rfl), H3.out.bl⟩
  have rF := H3.out.bF.range
  have hc := handlers_any14 f u3 H3.out.f
  generalize f.hanB = b3 at *
  go_wp2_with (refine wpList_load_mid rfl 43 (.tmp 3) rfl BF 0 (by kernel_rfl) f.vs _ rF Tryz.underlying43 rfl (by kernel_rfl) ?_)
  refine hc.mono ?_
  rintro _ u4 ⟨rfl, hb⟩
  have H4 := hyd (H3.out.kept hb)
  clear hc hb rF H3
  cases b3
  · have HE : Hid (F = 3) := by show _ = _; rw [HX.out]; rfl
    go_wp2
    go_ret
    exact ⟨ret_int (by rw [HE.out]; rfl), H4.out.bl⟩
  have rF := H4.out.bF.range
  have hc := regions_any14 f u4 H4.out.f
  generalize f.regB = b4 at *
  go_wp2_with (refine wpList_load_mid rfl 43 (.tmp 3) rfl BF 0 (by kernel_rfl) f.vs _ rF Tryz.underlying43 rfl (by kernel_rfl) ?_)
  refine hc.mono ?_
  rintro _ u5 ⟨rfl, hb⟩
  have H5 := hyd (H4.out.kept hb)
  clear hc hb rF H4
  cases b4
  · have HE : Hid (F = 4) := by show _ = _; rw [HX.out]; rfl
    go_wp2
    go_ret
    exact ⟨ret_int (by rw [HE.out]; rfl), H5.out.bl⟩
  · have HE : Hid (F = 0) := by show _ = _; rw [HX.out]; rfl
    go_wp2
    go_ret
    exact ⟨ret_int (by rw [HE.out]; rfl), H5.out.bl⟩

theorem results_tmp3 {fn : Func} {t u v : Tmp} (h : fn.results = #[.tmp t, .tmp u, .tmp v]) (tmps : Array Value) (P : Program) (w : World) :
    (results fn tmps).run P w = .ok (.tuple #[tmps.getD t undef, tmps.getD u undef, tmps.getD v undef]) w := by simp [results, h, go_sem]
/-- A new variable, filled behind another assignment. -/
theorem wpList_new_as {ops : Array Oper} {rest : List Oper} {o1 o2 o3 : Oper} {a : Act} {w : World} {Q : Exit → Act → World → Prop} (hg1 : o1.guard = none) (hg2 : o2.guard = none) (hg3 : o3.guard = none) (ty : TypeId) (h1 : o1.op = .alloc ty) (z : Operand) (h2 : o2.op = .assign z) (x y : Operand) (h3 : o3.op = .store ty x y)
    (zs : List Value) (hz : (Instr.alloc ty true (.tuple #[])).run Tryz.prog w = .ok (.pointer (some ⟨w.heap.size, 0, none⟩)) (w.alloc (.cells zs.toArray ty))) (hd3 : o3.dst = none)
    (v : Value) (hv : (a.put o1.dst (.pointer (some ⟨w.heap.size, 0, none⟩))).eval z = v)
    (cells : Array Value) (hx : ((a.put o1.dst (.pointer (some ⟨w.heap.size, 0, none⟩))).put o2.dst v).eval x = .pointer (some ⟨w.heap.size, 0, none⟩)) (hy : ((a.put o1.dst (.pointer (some ⟨w.heap.size, 0, none⟩))).put o2.dst v).eval y = .agg cells)
    (hl : zs.length = cells.size) (hi : (Tryz.prog.info? ty).map (·.size) = some cells.size) (hc : cells.all (·.oneCell') = true)
    (h : wpList Tryz.prog ops Q rest ((a.put o1.dst (.pointer (some ⟨w.heap.size, 0, none⟩))).put o2.dst v) (w.alloc (.cells cells ty))) : wpList Tryz.prog ops Q (o1 :: o2 :: o3 :: rest) a w := by
  refine wpList_plain hg1 fun _ hK => ?_
  unfold Oper.wp execOp
  simp only [h1, Sem.run_bind, hz, Result.andThen_ok, Sem.run_pure]
  refine hK _ _ ?_
  refine wpList_plain hg2 fun _ hK2 => ?_
  unfold Oper.wp execOp
  simp only [h2, Sem.run_pure]
  refine hK2 _ _ ?_
  rw [hv]
  refine wpList_store_mid hg3 ty x y h3 w.heap.size 0 cells hx hy (fun j hj => ⟨?_, ?_⟩) hi hc ?_
  · have : j < zs.length := by omega
    show ((w.alloc (.cells zs.toArray ty)).cell? ⟨w.heap.size, 0 + j, none⟩).isSome = true
    simp [this]
  · simp
  · have k := setCells_new w ty cells.toList [] zs (by simpa using hl)
    simp only [List.nil_append, List.length_nil] at k
    rw [k, hd3]
    exact h

theorem ChR.no {c : Kl} (h : c.fm = false) : ChR c (-1) 0 9 := ⟨fun _ => ⟨⟨rfl, rfl⟩, rfl⟩, fun h2 => (by rw [h] at h2; cases h2), fun h2 => (by rw [h] at h2; cases h2)⟩
theorem ChR.at_ {c : Kl} (h : c.fm = true) {j : Nat} (hj : j < c.fs.len) (h1 : c.brk j ≠ 0) (h2 : ∀ i, i < j → c.brk i = 0) : ChR c j (c.brk j) 11 :=
  ⟨fun h3 => (by rw [h] at h3; cases h3), fun _ k hk k1 k2 => by
    have : k = j := by
      rcases Nat.lt_trichotomy k j with h4 | h4 | h4
      · exact absurd (h2 k h4) k1
      · exact h4
      · exact absurd (k2 j h4) h1
    subst this
    exact ⟨⟨rfl, rfl⟩, rfl⟩, fun _ hh => absurd (hh j hj) h1⟩
theorem ChR.all {c : Kl} (h : c.fm = true) (h2 : ∀ i, i < c.fs.len → c.brk i = 0) : ChR c 0 0 0 :=
  ⟨fun h3 => (by rw [h] at h3; cases h3), fun _ k hk k1 _ => absurd (h2 k hk) k1, fun _ _ => ⟨⟨rfl, rfl⟩, rfl⟩⟩
/-- What Check leaves. -/
structure ChkR (c : Kl) (w : World) (e : Ending) (w' : World) : Prop where
  ret : ∃ k r er : Int, e = .returned (.tuple #[.int .i64 k, .int .i64 r, .int .i64 er]) ∧ ChR c k r er
  bl : Below w.heap.size w w'
set_option maxRecDepth 100000 in
set_option maxHeartbeats 8000000 in
theorem check14_any (c : Kl) (w : World) (hc : c.At w) (hO : Og w) : Calls Tryz.prog 6 #[.agg #[.slice c.n.ao c.n.len c.n.cap, .slice c.g.ao c.g.len c.g.cap, .slice c.fs.ao c.fs.len c.fs.cap]] w fun e w' => ChkR c w e w' := by
  have B0 := below_alloc w (.cells #[.slice c.n.ao c.n.len c.n.cap, .slice c.g.ao c.g.len c.g.cap, .slice c.fs.ao c.fs.len c.fs.cap] 28)
  have b := Blk.new w c.cs 28
  have c0 := b.cell 0 rfl
  have c1 := b.cell 1 rfl
  have c2 := b.cell 2 rfl
  have h0 := cFormed_any c _ (Kl.At.kept B0 hc) (hO.kept B0)
  have H0 := hyd (show Below w.heap.size w _ ∧ Blk _ w.heap.size c.cs 28 from ⟨B0, b⟩)
  have HD := hyd hc
  have hbd := hc.fs.bound
  have HNIL := hyd hc.fs.nil
  have HNo := hyd (@ChR.no c)
  have HAt := hyd (@ChR.at_ c)
  have HAll := hyd (@ChR.all c)
  have HPos : Hid (c.fm = true → 0 < c.fs.len) := fun h => by
    unfold Kl.fm at h
    simp only [Bool.and_eq_true, decide_eq_true_eq] at h
    exact h.2.1.1
  clear B0 b hc hO
  generalize c.fm = F at *
  go_enter Tryz.func6, Tryz.ntmps6
  go_wp2_with fail
  refine h0.mono ?_
  rintro _ u1 ⟨rfl, hb⟩
  have H1 := hyd (show Below w.heap.size w u1 ∧ Blk u1 w.heap.size c.cs 28 from ⟨Below.next H0.out.1 hb, H0.out.2.kept hb⟩)
  clear h0 hb c0 c1 c2 H0
  cases F
  · go_wp2
    refine bodyPost_ret (results_tmp3 rfl _ _ _) rfl ?_
    exact ⟨⟨_, _, _, rfl, HNo.out (by simp)⟩, H1.out.1⟩
  have hpos := HPos.out (by simp)
  have a0 := HNIL.out hpos
  have HA0 := hyd a0
  clear a0
  have c2 := H1.out.2.cell 2 rfl
  rw [HA0.out] at c2
  have HP := hyd hpos
  clear hpos HNIL
  go_wp2
  go_loopw [14] (fun i wr => ∃ (j : Nat), j ≤ c.fs.len ∧ i = .int .i64 j ∧ (Below w.heap.size w wr ∧ Blk wr w.heap.size c.cs 28) ∧ (∀ i, i < j → c.brk i = 0)) (fun i _ => c.fs.len - (intOf i).toNat)
  case atStart => exact ⟨0, Nat.zero_le _, rfl, H1.out, fun i hi => absurd hi (Nat.not_lt_zero _)⟩
  case round =>
    clear H1 c2
    obtain ⟨j, hj, rfl, hBl, hall⟩ := hrel
    have HB := hyd hBl
    have HL := hyd hall
    clear hBl hall
    by_cases hlt : j < c.fs.len
    · have ij : (j : Int) < c.fs.len := by omega
      have r0 := range_kept (HD.out.fs.row j hlt) HB.out.1
      have HF := hyd (Cf.At.kept HB.out.1 (HD.out.fs.each j hlt))
      have HY := hyd (all_step14 (P := fun i => c.brk i = 0) HL.out)
      have HAt2 : Hid (c.brk j ≠ 0 → ChR c j (c.brk j) 11) := fun h => HAt.out (by simp) hlt h HL.out
      have HQ : Hid (c.brk j = (c.fs.x j).brk c.fs.len c.n.len) := rfl
      generalize c.fs.x j = f at *
      go_upto_region 6 with (first | (refine wpList_load_mid rfl 43 (.tmp 17) rfl c.fs.b (c.fs.o + j * 18) (by kernel_rfl) f.vs _ r0 Tryz.underlying43 rfl (by kernel_rfl) ?_) | (refine wpList_new_as rfl rfl rfl 43 rfl (.tmp 16) rfl (.tmp 6) (.tmp 18) rfl z_fn (alloc_fn _) rfl (.int .i64 j) (by kernel_rfl) f.vs.toArray (by kernel_rfl) (by kernel_rfl) rfl (by kernel_rfl) (by simpa using f.vs_one) ?_))
      have B1 := below_alloc wr (.cells f.vs.toArray 43)
      have HU := hyd (show Sb w c f w.heap.size wr.heap.size (wr.alloc (.cells f.vs.toArray 43)) from ⟨Below.next HB.out.1 B1, HB.out.2.kept B1, Blk.new wr _ _, Cf.At.kept B1 HF.out⟩)
      clear r0 HF HB B1
      generalize wr.alloc (.cells f.vs.toArray 43) = U at *
      generalize wr.heap.size = BF at *
      have d0 := HU.out.bC.cell 0 rfl
      have d1 := HU.out.bC.cell 1 rfl
      have d2 := HU.out.bC.cell 2 rfl
      have rF := HU.out.bF.range
      have hc := broken_any c f U HU.out.f
      rw [← HQ.out] at hc
      generalize c.brk j = q at *
      go_wp2_with (refine wpList_load_mid rfl 43 (.tmp 6) rfl BF 0 (by kernel_rfl) f.vs _ rF Tryz.underlying43 rfl (by kernel_rfl) ?_)
      refine hc.mono ?_
      rintro _ u2 ⟨rfl, hb⟩
      have HU2 := hyd (HU.out.kept hb)
      clear hc hb d0 d1 d2 rF HU
      by_cases hq : q = 0
      · have e1 : ((q : Int) != 0) = false := by simp; omega
        have HE := hyd (HY.out hq)
        clear hq
        go_wp2
        go_roundw
        case rel => exact ⟨j + 1, by omega, by go_num, ⟨HU2.out.bl, HU2.out.bC⟩, HE.out⟩
        case measure => simp [intOf]; omega
      · have e1 : ((q : Int) != 0) = true := by simp; omega
        have HE := hyd (HAt2.out hq)
        clear hq
        go_wp2
        refine bodyPost_ret (results_tmp3 rfl _ _ _) rfl ?_
        exact ⟨⟨_, _, _, rfl, HE.out⟩, HU2.out.bl⟩
    · have e2 : ¬ (j : Int) < c.fs.len := by omega
      have HE := hyd (HAll.out (by simp) (fun i hi => HL.out i (by omega)))
      go_wp2
      refine bodyPost_ret (results_tmp3 rfl _ _ _) rfl ?_
      exact ⟨⟨_, _, _, rfl, HE.out⟩, HB.out.1⟩
end Go.Proofs.YtmajlfocfjcgmaaGreatDoor

/- Layers 13 to 15: the reference's small: types of a size that is looked at. -/
namespace Go.Proofs.YtmajlfocfjcgmaaGreatDoor
open Go Go.RowKit

set_option maxRecDepth 100000 in
set_option maxHeartbeats 2000000 in
theorem rsmall_any (T : Ty) (w : World) (hT : T.At w) : Calls Tryz.prog 13 #[.slice T.ao T.len T.cap] w fun e w' => e = .returned (.bool (decide (∀ i, i < T.len → (T.ps i).nodes ≤ 40))) ∧ Below w.heap.size w w' := by
  have hnil := hT.nil
  have hbd := hT.bound
  have HT := hyd hT
  have HB := hyd (Below.refl w.heap.size w)
  generalize hANS : decide (∀ i, i < T.len → (T.ps i).nodes ≤ 40) = ANS at *
  have HANS := hyd hANS
  clear hT hANS
  generalize hlen : T.len = len at *
  have HL := hyd hlen
  clear hlen
  generalize T.ao = ao at *
  go_enter Tryz.func13, Tryz.ntmps13
  go_wp2
  go_loopw [3] (fun i wr => ∃ (j : Nat), j ≤ len ∧ i = .int .i64 j ∧ Below w.heap.size w wr ∧ (∀ i, i < j → (T.ps i).nodes ≤ 40)) (fun i _ => len - (intOf i).toNat)
  case atStart => exact ⟨0, Nat.zero_le _, rfl, HB.out, fun i hi => absurd hi (Nat.not_lt_zero _)⟩
  case round =>
    clear HB
    obtain ⟨j, hj, rfl, hBl, hall⟩ := hrel
    have HB := hyd hBl
    have HA := hyd hall
    clear hBl hall
    by_cases hlt : j < len
    · have ij : (j : Int) < len := by omega
      have a0 := hnil (by omega)
      subst a0
      have hjT : j < T.len := by rw [HL.out]; exact hlt
      have C := (HT.out.kept HB.out).cells hjT
      have c0 := C.c0
      have c1 := C.c1
      have c2 := C.c2
      have c3 := C.c3
      have c4 := C.c4
      have hs := rSmall2_any (T.ps j) wr ((HT.out.kept HB.out).part hjT)
      have HAS : Hid (∀ b, b = decide ((T.ps j).nodes ≤ 40) → (b = true → ∀ i, i < j + 1 → (T.ps i).nodes ≤ 40) ∧ (b = false → ANS = false)) := by
        intro b hb
        refine ⟨fun h1 i hi => ?_, fun h1 => ?_⟩
        · rcases Nat.lt_or_ge i j with h2 | h2
          · exact HA.out i h2
          · have : i = j := by omega
            subst this
            exact of_decide_eq_true (hb.symm.trans h1)
        · rw [← HANS.out, decide_eq_false_iff_not]
          intro hh
          have h2 := of_decide_eq_false (hb.symm.trans h1)
          exact h2 (hh j hlt)
      have H5 := hyd (HAS.out _ rfl)
      clear C HAS hjT
      generalize decide ((T.ps j).nodes ≤ 40) = bb at *
      go_wp2_with fail
      refine hs.mono ?_
      rintro _ w1 ⟨rfl, hb1⟩
      have HB1 := hyd (Below.next HB.out hb1)
      clear hs c0 c1 c2 c3 c4 hb1 HB
      cases bb
      · go_wp2
        go_ret
        exact ⟨ret_bool (H5.out.2 (by simp)).symm, HB1.out⟩
      · go_wp2
        go_roundw
        case rel => exact ⟨j + 1, by omega, by go_num, HB1.out, H5.out.1 (by simp)⟩
        case measure => simp [intOf]; omega
    · have e2 : j = len := by omega
      subst e2
      have dj : ¬ (j : Int) < j := by omega
      go_wp2
      go_ret
      exact ⟨ret_bool (by rw [← HANS.out]; symm; rw [decide_eq_true_eq]; exact HA.out), HB.out⟩
end Go.Proofs.YtmajlfocfjcgmaaGreatDoor
