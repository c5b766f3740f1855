/- Layer 13: whether a class is formed, and its pool: gather, Formed. -/
import Derived.Test.YtmkncmmegjfipaaGreatDoorP28
import Derived.Test.YtmkncmmegjfipaaGreatDoorP25
import Derived.Test.YtmkncmmegjfipaaGreatDoorP18
import Derived.Deep.RegionWith
namespace Go.Proofs.YtmkncmmegjfipaaGreatDoor
open Go Go.RowKit

def fnL (f : Nat → Cf) : Nat → List Ty → List Ty
  | 0, R => R
  | k + 1, R => (f k).take (fnL f k R)
/-- What gather answers. -/
structure GatR (c : Kl) (w : World) (e : Ending) (w' : World) : Prop where
  yes : c.fm = true → ∃ p S, e = .returned (.tuple #[.pointer (some ⟨p, 0, none⟩), .bool true]) ∧ Pl w c.n c.g p S (fnL c.fs.x c.fs.len []) w' ∧ (fnL c.fs.x c.fs.len []).length ≤ 2000000000
  no : c.fm = false → e = .returned (.tuple #[.pointer none, .bool false])
  bl : Below w.heap.size w w'
theorem allFn_any {w0 : World} {n : Strs} {g : Grid} {p : Nat} (hF : formedB n g = true) (hn : n.At w0) (hg : g.At w0) (hO : Og w0) (r : Rw Cf) (S : Nat → Prop) (w : World) (hr : CfsAt w0 r) (hP : Pl w0 n g p S [] w) (h60 : r.len ≤ 60) :
    Calls Tryz.prog 68 #[.slice r.ao r.len r.cap, .func (.func 69) #[.pointer (some ⟨p, 0, none⟩)] #[]] w fun e w' => BR w0 n g p S w [] (20720720 * r.len) (decide (∀ i, i < r.len → (r.x i).fm n.len = true)) (fnL r.x r.len []) e w' := by
  have hA := all_fn (.pointer (some ⟨p, 0, none⟩)) (fun i u => (∃ S', Pg w0 n g p S w S' (fnL r.x i []) u) ∧ (fnL r.x i []).length ≤ 20720720 * i) (fun u => Below w0.heap.size w0 u) (fun i => (r.x i).fm n.len) r.ao r.b r.o r.len r.cap (fun i => (r.x i).vs) w hr.nil hr.bound (fun _ _ => rfl) (fun i _ => Cf.vs_one _)
    (fun i u hi h => by
      obtain ⟨⟨S', h1⟩, _⟩ := h
      exact range_kept (hr.row i hi) h1.pl.bl)
    (fun i u u' _ h hb => by
      obtain ⟨⟨S', h1⟩, h2⟩ := h
      exact ⟨⟨S', h1.kept hb⟩, h2⟩)
    (fun i u hi h => by
      obtain ⟨⟨S', h1⟩, h2⟩ := h
      refine (functionFormed_any hF hn hg hO (r.x i) (hr.each i hi) S' (fnL r.x i []) u h1.pl (by omega)).mono ?_
      intro e u' h3
      refine ⟨h3.ret, fun h5 => ?_, fun _ => h3.bl⟩
      obtain ⟨⟨S2, h4⟩, h6⟩ := h3.yes h5
      refine ⟨⟨S2, h1.trans h4⟩, ?_⟩
      show ((r.x i).take (fnL r.x i [])).length ≤ _
      omega)
    ⟨⟨S, Pg.of hP (Below.refl _ _)⟩, Nat.le_refl _⟩
  refine hA.mono fun e w' h => ⟨h.ret, fun h1 => ?_, ?_⟩
  · obtain ⟨h2, h3⟩ := h.yes (of_decide_eq_true h1)
    exact ⟨h2, by simpa using h3⟩
  · by_cases h1 : ∀ i, i < r.len → (r.x i).fm n.len = true
    · obtain ⟨⟨S', h2⟩, _⟩ := h.yes h1
      exact h2.pl.bl
    · apply h.no
      apply Classical.byContradiction
      intro h2
      apply h1
      intro i hi
      cases h3 : (r.x i).fm n.len
      · exact absurd ⟨i, hi, h3⟩ h2
      · rfl

set_option maxRecDepth 100000 in
set_option maxHeartbeats 8000000 in
theorem gather_any (c : Kl) (w : World) (hc : c.At w) (hO : Og w) : Calls Tryz.prog 43 #[.agg #[.slice c.n.ao c.n.len c.n.cap, .slice c.g.ao c.g.len c.g.cap, .slice c.fs.ao c.fs.len c.fs.cap]] w fun e w' => GatR c w e w' := by
  have B0 := below_alloc w (.cells #[.slice c.n.ao c.n.len c.n.cap, .slice c.g.ao c.g.len c.g.cap, .slice c.fs.ao c.fs.len c.fs.cap] 28)
  have b := Blk.new w [.slice c.n.ao c.n.len c.n.cap, .slice c.g.ao c.g.len c.g.cap, .slice c.fs.ao c.fs.len c.fs.cap] 28
  have c0 := b.cell 0 rfl
  have c1 := b.cell 1 rfl
  have c2 := b.cell 2 rfl
  have HD := hyd (show c.At w ∧ Og w from ⟨hc, hO⟩)
  have HB := hyd B0
  have HF : Hid (c.fm = (formedB c.n c.g && ((decide (1 ≤ c.fs.len) && decide (c.fs.len ≤ 60)) && decide (∀ i, i < c.fs.len → (c.fs.x i).fm c.n.len = true)))) := rfl
  have h0 := formed_any c.n c.g _ (hc.n.kept B0) (hc.g.kept B0)
  have hmf : ∀ (fn : Fn) (first cap : Array Value) (w : World), (Instr.makeFunc fn first cap).run Tryz.prog w = .ok (.func fn first cap) w := fun _ _ _ _ => rfl
  have hmm := @run_makeMap Tryz.prog
  have HG : Hid (∀ e w', e = .returned (.tuple #[.pointer none, .bool false]) → c.fm = false → Below w.heap.size w w' → GatR c w e w') := fun e w' h1 h2 h3 => ⟨fun h => (by rw [h2] at h; cases h), fun _ => h1, h3⟩
  have HF0 : Hid (formedB c.n c.g = true → formedB c.n c.g = true) := fun h => h
  clear hc hO B0 b
  generalize hfb : formedB c.n c.g = b0 at h0 HF
  have HFB := hyd hfb
  clear hfb
  go_enter Tryz.func43, Tryz.ntmps43
  go_wp2_with fail
  refine h0.mono ?_
  rintro _ w1 ⟨rfl, hb1⟩
  have HB1 := hyd (Below.next HB.out hb1)
  have d0 := up hb1 c0
  have d1 := up hb1 c1
  have d2 := up hb1 c2
  clear h0 c0 c1 c2 hb1 HB
  cases b0
  · have HE : Hid (c.fm = false) := by show _ = _; rw [HF.out]; rfl
    go_wp2
    go_ret2
    exact HG.out _ _ rfl HE.out HB1.out
  by_cases hl0 : c.fs.len = 0
  · have e0 : ((c.fs.len : Int) == 0) = true := by simpa using hl0
    have HE : Hid (c.fm = false) := by show _ = _; rw [HF.out, decide_eq_false (show ¬ 1 ≤ c.fs.len by omega)]; rfl
    clear hl0
    go_wp2
    go_ret2
    exact HG.out _ _ rfl HE.out HB1.out
  have e0 : ((c.fs.len : Int) == 0) = false := by simpa using hl0
  by_cases hl1 : 60 < c.fs.len
  · have e1 : (60 : Int) < c.fs.len := by omega
    have HE : Hid (c.fm = false) := by show _ = _; rw [HF.out, decide_eq_false (show ¬ c.fs.len ≤ 60 by omega)]; simp
    clear hl0
    go_wp2
    go_ret2
    exact HG.out _ _ rfl HE.out HB1.out
  have e1 : ¬ (60 : Int) < c.fs.len := by omega
  have HLN := hyd (show c.fs.len ≤ 60 by omega)
  have HF2 : Hid (c.fm = decide (∀ i, i < c.fs.len → (c.fs.x i).fm c.n.len = true)) := by
    show _ = _
    rw [HF.out, decide_eq_true (show 1 ≤ c.fs.len by omega), decide_eq_true (show c.fs.len ≤ 60 by omega)]; rfl
  clear hl0 hl1
  go_upto_region 4 with fail
  have B2 := Below.next (below_alloc w1 (.map #[] 0)) (below_alloc (w1.alloc (.map #[] 0)) (.cells #[.slice c.n.ao c.n.len c.n.cap, .slice c.g.ao c.g.len c.g.cap, .slice none 0 0, .map (some w1.heap.size)] 131))
  have f2 := up B2 d2
  have HPl := hyd (show Pl w c.n c.g (w1.heap.size + 1) (PS (w1.heap.size + 1) w1.heap.size (.slice none 0 0)) [] ((w1.alloc (.map #[] 0)).alloc (.cells #[.slice c.n.ao c.n.len c.n.cap, .slice c.g.ao c.g.len c.g.cap, .slice none 0 0, .map (some w1.heap.size)] 131)) from by
    have hb := Blk.new (w1.alloc (.map #[] 0)) [.slice c.n.ao c.n.len c.n.cap, .slice c.g.ao c.g.len c.g.cap, .slice none 0 0, .map (some w1.heap.size)] 131
    rw [alloc_size] at hb
    refine ⟨w1.heap.size, .slice none 0 0, #[], 0, [], ⟨Below.next HB1.out B2, hb, ?_, NKeys.nil, Good.nil _, World.ownsRow_nil _ _ _ _, by simp, ?_, HB1.out.size⟩, rfl⟩
    · rw [(below_alloc (w1.alloc (.map #[] 0)) _).block _ (by rw [alloc_size]; omega)]
      exact heap_alloc_new w1 (.map #[] 0)
    · have := HB1.out.size; omega)
  have h2 := allFn_any HFB.out HD.out.1.n HD.out.1.g HD.out.2 c.fs _ _ HD.out.1.fs HPl.out HLN.out
  clear d0 d1 d2 B2
  generalize (w1.alloc (.map #[] 0)).alloc (.cells #[.slice c.n.ao c.n.len c.n.cap, .slice c.g.ao c.g.len c.g.cap, .slice none 0 0, .map (some w1.heap.size)] 131) = u2 at *
  generalize w1.heap.size + 1 = p at *
  rw [← HF2.out] at h2
  have HGY : Hid (∀ S' w', c.fm = true → Pl w c.n c.g p S' (fnL c.fs.x c.fs.len []) w' → (fnL c.fs.x c.fs.len []).length ≤ 2000000000 → GatR c w (.returned (.tuple #[.pointer (some ⟨p, 0, none⟩), .bool true])) w') := fun S' w' h1 h2 h3 => ⟨fun _ => ⟨p, S', rfl, h2, h3⟩, fun h => (by rw [h1] at h; cases h), h2.bl⟩
  generalize hcf : c.fm = F at *
  go_wp2_with fail
  refine Calls.mono h2 ?_
  intro e u3 h6
  obtain rfl := h6.ret
  have H6 := hyd h6
  clear h2 h6 f2
  cases F
  · go_wp2
    go_ret2
    exact HG.out _ _ rfl (by simp) H6.out.bl
  · obtain ⟨⟨S', h7⟩, h8⟩ := H6.out.yes (by simp)
    have HL8 : Hid ((fnL c.fs.x c.fs.len []).length ≤ 2000000000) := by have h9 := HLN.out; simp at h8; show _ ≤ _; omega
    clear h8
    have H7 := hyd h7.pl
    clear h7
    go_wp2
    go_ret2
    exact HGY.out S' _ (by simp) H7.out HL8.out

set_option maxHeartbeats 4000000 in
theorem cFormed_any (c : Kl) (w : World) (hc : c.At w) (hO : Og w) : Calls Tryz.prog 23 #[.agg #[.slice c.n.ao c.n.len c.n.cap, .slice c.g.ao c.g.len c.g.cap, .slice c.fs.ao c.fs.len c.fs.cap]] w fun e w' => e = .returned (.bool c.fm) ∧ Below w.heap.size w w' := by
  have B0 := below_alloc w (.cells #[.slice c.n.ao c.n.len c.n.cap, .slice c.g.ao c.g.len c.g.cap, .slice c.fs.ao c.fs.len c.fs.cap] 28)
  have b := Blk.new w [.slice c.n.ao c.n.len c.n.cap, .slice c.g.ao c.g.len c.g.cap, .slice c.fs.ao c.fs.len c.fs.cap] 28
  have c0 := b.cell 0 rfl
  have c1 := b.cell 1 rfl
  have c2 := b.cell 2 rfl
  have h := gather_any c _ (Kl.At.kept B0 hc) (hO.kept B0)
  have HB := hyd B0
  clear b B0
  go_enter Tryz.func23, Tryz.ntmps23
  go_wp2_with fail
  refine Calls.mono h ?_
  intro e w1 h1
  have HB1 := hyd (Below.next HB.out h1.bl)
  have H1 := hyd h1
  clear h c0 c1 c2
  cases hf : c.fm
  · obtain rfl := h1.no hf
    have HF := hyd hf
    clear h1 H1 hf
    go_wp2
    go_ret
    exact ⟨ret_bool HF.out.symm, HB1.out⟩
  · obtain ⟨p, S, rfl, _⟩ := h1.yes hf
    have HF := hyd hf
    clear h1 H1 hf
    go_wp2
    go_ret
    exact ⟨ret_bool HF.out.symm, HB1.out⟩
end Go.Proofs.YtmkncmmegjfipaaGreatDoor

/- Layer 18: Run, given a leaf and no cells. -/
namespace Go.Proofs.YtmkncmmegjfipaaGreatDoor
open Go Go.RowKit

def mc0 (fuel lm lc : Int) : Mc := ⟨.slice none 0 0, [], .slice none 0 0, [], fuel, 0, 0, .lf 0 0, fuel, lm, lc, .slice none 0 0, [], []⟩
theorem MAt.init {cl : Kl} {w0 w : World} {B : Nat} {fuel lm lc : Int} (hb : Below w0.heap.size w0 w) (hB : w0.heap.size ≤ B) (h : Blk w B ((mc0 fuel lm lc).vs cl) 83) : MAt cl w0 B (fun b => if b = B then 1 else 0) (mc0 fuel lm lc) w :=
  ⟨hb, fun k hk => by rw [if_neg (by omega)], hB, by rw [if_pos rfl], h, Rr.nil _ _ _ _ _ _, Rr.nil _ _ _ _ _ _, Rr.nil _ _ _ _ _ _, fun i f hf => by simp [mc0] at hf, fun p hp => by simp [mc0] at hp, VOk.lf _ _ ⟨by omega, by omega⟩ ⟨by omega, by omega⟩⟩
/-- How it ends: how, with what, after how many steps. -/
structure RunR (en k n s : Int) (w : World) (e : Ending) (w' : World) : Prop where
  ret : ∃ aot capt ao cap, e = .returned (.agg #[.int .i64 en, .int .i64 k, .int .i64 n, .slice none 0 0, .slice aot 0 capt, .slice ao 0 cap, .int .i64 s])
  bl : Below w.heap.size w w'
/-- The boxes of Run. -/
structure Rs (cl : Kl) (k n fuel lm lc : Int) (w : World) (u : World) : Prop where
  c : Blk u w.heap.size [.slice cl.n.ao cl.n.len cl.n.cap, .slice cl.g.ao cl.g.len cl.g.cap, .slice cl.fs.ao cl.fs.len cl.fs.cap] 28
  v : Blk u (w.heap.size + 1) [.int .i64 k, .int .i64 n, .slice none 0 0] 31
  l : Blk u (w.heap.size + 1 + 1) [.int .i64 fuel, .int .i64 lm, .int .i64 lc] 34
  z : Blk u (w.heap.size + 1 + 1 + 1) zO7 42
  bl : Below w.heap.size w u
theorem Rs.kept {cl : Kl} {k n fuel lm lc : Int} {w u u' : World} (h : Rs cl k n fuel lm lc w u) (hb : Below u.heap.size u u') : Rs cl k n fuel lm lc w u' := ⟨h.c.kept hb, h.v.kept hb, h.l.kept hb, h.z.kept hb, Below.next h.bl hb⟩
theorem Below.low {b : Nat} {w w' : World} (h : Below w.heap.size w w') (hb : b ≤ w.heap.size) : Below b w w' := ⟨h.os, h.tape, h.output, h.size, fun k hk => h.block k (by omega)⟩
set_option maxRecDepth 100000 in
set_option maxHeartbeats 8000000 in
theorem run_leaf {cl : Kl} {w : World} (k n fuel lm lc en k' n' s' : Int) (hc : cl.At w) (hfm : cl.fm = true) (hO : Og w) (hv : (Vl.lf k n).ok = true) (hk : I64 k) (hn : I64 n) (hf : 0 ≤ fuel ∧ fuel ≤ 65536) (hlm : 1 ≤ lm ∧ lm ≤ 100000) (hlc : 0 ≤ lc) (h0 : 0 < cl.fs.len)
    (hE : ∀ w0 B ρ lv fv u, cl.At w0 → Below w.heap.size w w0 → MAt cl w0 B ρ ((mc0 fuel lm lc).ent (bareF 0 (.lf k n) lv) fv) u → Calls Tryz.prog 26 #[.pointer (some ⟨B, 0, none⟩)] u fun e u' => e = .returned (.tuple #[]) ∧ ∃ ρ' m', MAt cl w0 B ρ' m' u' ∧ m'.ce = [] ∧ m'.tr = [] ∧ m'.la = .lf k' n' ∧ m'.en = en ∧ m'.steps = s') :
    Calls Tryz.prog 11 #[.agg #[.slice cl.n.ao cl.n.len cl.n.cap, .slice cl.g.ao cl.g.len cl.g.cap, .slice cl.fs.ao cl.fs.len cl.fs.cap], .agg #[.int .i64 k, .int .i64 n, .slice none 0 0], .slice none 0 0, .agg #[.int .i64 fuel, .int .i64 lm, .int .i64 lc]] w (RunR en k' n' s' w) := by
  have BB := allocs_below [.cells #[.slice cl.n.ao cl.n.len cl.n.cap, .slice cl.g.ao cl.g.len cl.g.cap, .slice cl.fs.ao cl.fs.len cl.fs.cap] 28, .cells #[.int .i64 k, .int .i64 n, .slice none 0 0] 31, .cells #[.int .i64 fuel, .int .i64 lm, .int .i64 lc] 34, .cells zO7.toArray 42] w
  have SS := allocs_heap [.cells #[.slice cl.n.ao cl.n.len cl.n.cap, .slice cl.g.ao cl.g.len cl.g.cap, .slice cl.fs.ao cl.fs.len cl.fs.cap] 28, .cells #[.int .i64 k, .int .i64 n, .slice none 0 0] 31, .cells #[.int .i64 fuel, .int .i64 lm, .int .i64 lc] 34, .cells zO7.toArray 42] w
  simp only [List.foldl, List.length] at BB SS
  have HX := hyd (show Rs cl k n fuel lm lc w _ from ⟨SS 0 (by simp), SS 1 (by simp), SS 2 (by simp), SS 3 (by simp), BB⟩)
  have HOG := hyd hO
  have HEE := hyd hE
  have HFM := hyd hfm
  have HVV := hyd hv
  have HKN := hyd (show I64 k ∧ I64 n from ⟨hk, hn⟩)
  have f1 : decide (lm < 0) = false := by simp; omega
  have f2 : decide (lc < 0) = false := by simp; omega
  clear hO hE BB SS hfm hv
  go_enter Tryz.func11, Tryz.ntmps11
  go_upto_region 1 with fail
  have HX : Hid (Rs cl k n fuel lm lc w ((((w.alloc (.cells #[.slice cl.n.ao cl.n.len cl.n.cap, .slice cl.g.ao cl.g.len cl.g.cap, .slice cl.fs.ao cl.fs.len cl.fs.cap] 28)).alloc (.cells #[.int .i64 k, .int .i64 n, .slice none 0 0] 31)).alloc (.cells #[.int .i64 fuel, .int .i64 lm, .int .i64 lc] 34)).alloc (.cells #[.int .i64 0, .int .i64 0, .int .i64 0, .slice none 0 0, .slice none 0 0, .slice none 0 0, .int .i64 0] 42))) := HX
  generalize ((((w.alloc (.cells #[.slice cl.n.ao cl.n.len cl.n.cap, .slice cl.g.ao cl.g.len cl.g.cap, .slice cl.fs.ao cl.fs.len cl.fs.cap] 28)).alloc (.cells #[.int .i64 k, .int .i64 n, .slice none 0 0] 31)).alloc (.cells #[.int .i64 fuel, .int .i64 lm, .int .i64 lc] 34)).alloc (.cells #[.int .i64 0, .int .i64 0, .int .i64 0, .slice none 0 0, .slice none 0 0, .slice none 0 0, .int .i64 0] 42)) = u1 at *
  have v0 := HX.out.v.cell 0 rfl
  have v1 := HX.out.v.cell 1 rfl
  have v2 := HX.out.v.cell 2 rfl
  have l0 := HX.out.l.cell 0 rfl
  have l1 := HX.out.l.cell 1 rfl
  have l2 := HX.out.l.cell 2 rfl
  go_wp2_with fail
  refine (may_nil k n fuel u1 hf HVV.out).mono ?_
  rintro _ u2 ⟨rfl, hb⟩
  have HX2 := hyd (HX.out.kept hb)
  clear v0 v1 v2 l0 l1 l2 hb HX
  have k0 := HX2.out.c.cell 0 rfl
  have k1 := HX2.out.c.cell 1 rfl
  have k2 := HX2.out.c.cell 2 rfl
  go_wp2_with fail
  refine (cFormed_any cl u2 (hc.kept HX2.out.bl) (fun i hi => up HX2.out.bl (HOG.out i hi))).mono ?_
  rintro _ u3 ⟨rfl, hb⟩
  have HX3 := hyd (HX2.out.kept hb)
  clear k0 k1 k2 hb HX2
  rw [HFM.out]
  go_upto_region 3 with fail
  have q0 := fun x : Gr u3 => x.cell (HX3.out.l.cell 0 rfl)
  have rC : ∀ u, (∃ x : Gr u3, u = x.w) → u.rangeAt w.heap.size 0 [.slice cl.n.ao cl.n.len cl.n.cap, .slice cl.g.ao cl.g.len cl.g.cap, .slice cl.fs.ao cl.fs.len cl.fs.cap] := fun _ hC => by obtain ⟨x, rfl⟩ := hC; exact range_kept HX3.out.c.range (Gr.bl x)
  have rL : ∀ u, (∃ x : Gr u3, u = x.w) → u.rangeAt (w.heap.size + 1 + 1) 0 [.int .i64 fuel, .int .i64 lm, .int .i64 lc] := fun _ hC => by obtain ⟨x, rfl⟩ := hC; exact range_kept HX3.out.l.range (Gr.bl x)
  have hBg := fun x : Gr u3 => begin_nil fuel x.w
  have hNE : Nonempty (Gr u3) := ⟨⟨_, Below.refl _ _⟩⟩
  refine wp_region_gr_tail 6 (by kernel_rfl) (by kernel_rfl) ?_
  simp only [List.take, List.drop]
  iterate 3 go_big_quiet_step (fail)
  go_big_quiet_step ((go_at_call 24; exact Calls.gr _ (hBg _)))
  go_big_quiet_want
  refine quiet_load_rowV 28 (.tmp 4) rfl w.heap.size 0 (by kernel_rfl) [.slice cl.n.ao cl.n.len cl.n.cap, .slice cl.g.ao cl.g.len cl.g.cap, .slice cl.fs.ao cl.fs.len cl.fs.cap] _ rC Tryz.underlying28 rfl (by kernel_rfl) ?_
  simp only [Act.put, List.setIfInBounds_toArray, List.set_cons_succ, List.set_cons_zero]
  go_big_quiet_on
  go_big_quiet_want
  refine quiet_load_rowV 34 (.tmp 7) rfl (w.heap.size + 1 + 1) 0 (by kernel_rfl) [.int .i64 fuel, .int .i64 lm, .int .i64 lc] _ rL Tryz.underlying34 rfl (by kernel_rfl) ?_
  simp only [Act.put, List.setIfInBounds_toArray, List.set_cons_succ, List.set_cons_zero]
  go_big_quiet_on
  refine wpQuiet_nil ?_
  rintro u4 ⟨xg, rfl⟩
  have Bg := xg.bl
  generalize xg.w = u4 at Bg ⊢
  have HX4 := hyd (HX3.out.kept Bg)
  clear xg Bg q0 rC rL hBg hNE HX3
  have hBV : (beV fuel).toArray = #[.slice none 0 0, .slice none 0 0, .int .i64 fuel, .int .i64 0, .int .i64 0, .int .i64 0, .int .i64 0, .slice none 0 0] := rfl
  rw [hBV]
  go_upto_region 4 with fail
  have hM5 : MAt cl u4 u4.heap.size (fun b => if b = u4.heap.size then 1 else 0) (mc0 fuel lm lc) (u4.alloc (.cells #[.slice none 0 0, .slice none 0 0, .int .i64 fuel, .int .i64 0, .int .i64 0, .int .i64 0, .int .i64 0, .slice none 0 0, .slice cl.n.ao cl.n.len cl.n.cap, .slice cl.g.ao cl.g.len cl.g.cap, .slice cl.fs.ao cl.fs.len cl.fs.cap, .int .i64 fuel, .int .i64 lm, .int .i64 lc, .slice none 0 0] 83)) := MAt.init (below_alloc u4 _) (Nat.le_refl _) (Blk.new u4 _ _)
  have HM5 := hyd hM5
  have HX5 := hyd (HX4.out.kept (below_alloc u4 (.cells #[.slice none 0 0, .slice none 0 0, .int .i64 fuel, .int .i64 0, .int .i64 0, .int .i64 0, .int .i64 0, .slice none 0 0, .slice cl.n.ao cl.n.len cl.n.cap, .slice cl.g.ao cl.g.len cl.g.cap, .slice cl.fs.ao cl.fs.len cl.fs.cap, .int .i64 fuel, .int .i64 lm, .int .i64 lc, .slice none 0 0] 83)))
  have HC4 := hyd (hc.kept HX4.out.bl)
  clear hM5 hBV
  generalize u4.alloc (.cells #[.slice none 0 0, .slice none 0 0, .int .i64 fuel, .int .i64 0, .int .i64 0, .int .i64 0, .int .i64 0, .slice none 0 0, .slice cl.n.ao cl.n.len cl.n.cap, .slice cl.g.ao cl.g.len cl.g.cap, .slice cl.fs.ao cl.fs.len cl.fs.cap, .int .i64 fuel, .int .i64 lm, .int .i64 lc, .slice none 0 0] 83) = u5 at *
  generalize (fun b => if b = u4.heap.size then 1 else 0) = ρ0 at *
  generalize hB : u4.heap.size = B at *
  have HBQ := hyd hB
  clear hB
  have v0 := HX5.out.v.cell 0 rfl
  have v1 := HX5.out.v.cell 1 rfl
  have v2 := HX5.out.v.cell 2 rfl
  have hEn := enter_bare 0 (.lf k n) HM5.out HC4.out rfl (VOk.lf ρ0 u5 hk hn) ⟨h0, by omega⟩ (by show (0 : Nat) ≤ 100000; omega) (by show ((0 : Nat) : Int) ≠ lm; omega)
  have hEn : Calls Tryz.prog 25 #[.pointer (some ⟨B, 0, none⟩), .agg #[.int .i64 4, .int .i64 0, .slice none 0 0], .agg #[.int .i64 k, .int .i64 n, .slice none 0 0]] u5 _ := hEn
  go_wp2_with fail
  refine hEn.mono ?_
  rintro _ u6 ⟨rfl, lv, fv, ρ1, hm6, _⟩
  have HEE6 := hyd (HEE.out u4 B ρ1 lv fv u6 HC4.out HX4.out.bl hm6)
  clear hEn hm6 v0 v1 v2 HEE HM5 HX5
  go_wp2_with fail
  refine HEE6.out.mono ?_
  rintro _ u7 ⟨rfl, ρ2, m', hm7, hce, htr, hla, hen, hst⟩
  have HM7 := hyd (show MAt cl u4 B ρ2 m' u7 ∧ m'.ce = [] ∧ m'.tr = [] ∧ m'.en = en ∧ m'.steps = s' from ⟨hm7, hce, htr, hen, hst⟩)
  have HOUT := hyd (outcome_leaf k' n' hm7 hce hla)
  clear hm7 hce htr hla hen hst HEE6
  obtain ⟨ao, cap, ev⟩ := owform HM7.out.1.c.own
  rw [HM7.out.2.1] at ev
  obtain ⟨aot, capt, evt⟩ := owform HM7.out.1.t.own
  rw [HM7.out.2.2.1] at evt
  have eO : m'.out k' n' = [.int .i64 en, .int .i64 k', .int .i64 n', .slice none 0 0, .slice aot 0 capt, .slice ao 0 cap, .int .i64 s'] := by
    unfold Mc.out
    rw [HM7.out.2.2.2.1, HM7.out.2.2.2.2, show m'.tv = .slice aot 0 capt from evt, show m'.cv = .slice ao 0 cap from ev]
  rw [eO] at HOUT
  clear ev evt eO
  go_wp2_with fail
  refine HOUT.out.mono ?_
  rintro _ u8 ⟨rfl, hb⟩
  have hb48 := Below.next HM7.out.1.bl hb
  have HZ := hyd (HX4.out.z.kept hb48)
  have HB8 := hyd (Below.next HX4.out.bl hb48)
  clear hb hb48 HOUT HM7 HX4
  have hb1 : ([.int .i64 en, .int .i64 k', .int .i64 n', .slice none 0 0, .slice aot 0 capt, .slice ao 0 cap, .int .i64 s'] : List Value).all (·.oneCell') = true := by simp [Value.oneCell']
  go_wp2_with (refine wpList_store_seg rfl rfl 42 (.tmp 8) (.tmp 49) rfl (w.heap.size + 1 + 1 + 1) 0 [.int .i64 en, .int .i64 k', .int .i64 n', .slice none 0 0, .slice aot 0 capt, .slice ao 0 cap, .int .i64 s'] (by kernel_rfl) (by kernel_rfl) hb1 HZ.out (by show 0 + 7 ≤ 7; omega) (by kernel_rfl) ?_; intro u9 W9)
  have W9 : WroteB u8 u9 (w.heap.size + 1 + 1 + 1) [.int .i64 en, .int .i64 k', .int .i64 n', .slice none 0 0, .slice aot 0 capt, .slice ao 0 cap, .int .i64 s'] 42 := W9
  exact bodyPost_ret (v := .agg #[.int .i64 en, .int .i64 k', .int .i64 n', .slice none 0 0, .slice aot 0 capt, .slice ao 0 cap, .int .i64 s']) (results_rowV (vs := [.int .i64 en, .int .i64 k', .int .i64 n', .slice none 0 0, .slice aot 0 capt, .slice ao 0 cap, .int .i64 s']) Tryz.underlying42 rfl (by kernel_rfl) Tryz.results11 rfl W9.blk.range) rfl ⟨⟨aot, capt, ao, cap, rfl⟩, W9.below (by omega) HB8.out⟩
end Go.Proofs.YtmkncmmegjfipaaGreatDoor

/- Layer 9: walk.Total at a function without Parts: findHolding, waits, total. -/
namespace Go.Proofs.YtmkncmmegjfipaaGreatDoor
open Go Go.RowKit

end Go.Proofs.YtmkncmmegjfipaaGreatDoor

/- Layer 9: walk.Total at a function without Parts: waits, total. -/
namespace Go.Proofs.YtmkncmmegjfipaaGreatDoor
open Go Go.RowKit

theorem run_make1 (w : World) : (Instr.makeSlice 108 (.int .i64 1) (.int .i64 1)).run Tryz.prog w = .ok (.slice (some ⟨w.heap.size, 0, none⟩) 1 1) (w.alloc (.cells #[.int .i64 0] 3)) := by
  kernel_rfl
def zLs : List Value := [.slice none 0 0, .int .i64 0, .slice none 0 0, .bool false]
structure Tt (w : World) (a b : Nat) (x : Int) : Prop where
  ba : Blk w a [.int .i64 0] 3
  bb : Blk w b [.int .i64 x] 3
  ne : a ≠ b
end Go.Proofs.YtmkncmmegjfipaaGreatDoor

/- Layer 9: walk.Total at a function without Parts: gather, Total, Numbers. -/
namespace Go.Proofs.YtmkncmmegjfipaaGreatDoor
open Go Go.RowKit

def lsZ (n : Nat) : List Value := [.slice (some ⟨n, 0, none⟩) 1 1, .int .i64 0, .slice none 0 0, .bool false]
theorem lsZ_one (n : Nat) : ∀ u ∈ lsZ n, u.oneCell' = true := by simp [lsZ, Value.oneCell']
end Go.Proofs.YtmkncmmegjfipaaGreatDoor

/- Layer 9: walk.Total and eval.Numbers at a function without Parts. -/
namespace Go.Proofs.YtmkncmmegjfipaaGreatDoor
open Go Go.RowKit

def zHd : List Value := [.nilFunc, .nilFunc, .map none, .slice none 0 0]
theorem wpList_buildT {ops : Array Oper} {rest : List Oper} {o : Oper} {a : Act} {w w' : World} {v : Value} {Q : Exit → Act → World → Prop} (hgd : o.guard = none) (t : TypeId) (parts : Array (Nat × Operand)) (ho : o.op = .build t parts) (vals : Array (Nat × Value)) (hv : (parts.map fun (i, x) => (i, a.eval x)) = vals)
    (hs : (Instr.build t vals).run Tryz.prog w = .ok v w') (h : wpList Tryz.prog ops Q rest (a.put o.dst v) w') : wpList Tryz.prog ops Q (o :: rest) a w := by
  subst hv
  refine wpList_plain hgd fun _ hK => ?_
  unfold Oper.wp execOp
  simp only [ho, Sem.run_bind, hs, Result.andThen_ok, Sem.run_pure]
  exact hK _ _ h
end Go.Proofs.YtmkncmmegjfipaaGreatDoor
