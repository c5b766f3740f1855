/- Layer 8: free.gather. -/
import Derived.Test.YtnhoehiaphdomaaP7
import Derived.Deep.DeepCutAuto
import Derived.Test.YtnhoehiaphdomaaP5
namespace Go.Proofs.Ytnhoehiaphdomaa
open Go Go.RowKit

/-- What gather does at t. -/
def GatherC (t : Ex) : Prop := ∀ (w0 w : World) (v hv : Value) (f h : List ByteArray), Gth w0 w v f → t.At w0 → SFar w hv h v → f.length + t.nodes ≤ 10000 → h.length + 2 * t.nest ≤ 10000 →
  Calls Try.prog 20 #[v, hv, .agg t.va] w fun r w' => ∃ v', r = .returned v' ∧ Gth w0 w' v' (t.gth f h) ∧ Gb w w' v v'
/-- Where it stands: its own variable in block b. -/
structure GI (w0 w wr : World) (t : Ex) (v vr hv : Value) (fr h : List ByteArray) (b : Nat) : Prop where
  g : Gth w0 wr vr fr
  gb : Gb w wr v vr
  x : Blk wr b t.vs 36
  far : Far wr vr b
  h : SFar wr hv h vr
theorem GI.step {w0 w wr w' : World} {t : Ex} {v vr hv : Value} {fr h : List ByteArray} {b : Nat} (k : GI w0 w wr t v vr hv fr h b) (hb : Below wr.heap.size wr w') : GI w0 w w' t v vr hv fr h b :=
  ⟨k.g.step hb, k.gb.trans (Gb.of hb vr), k.x.kept hb, k.far.step (Gb.of hb vr), k.h.step (Gb.of hb vr)⟩
theorem GI.to {w0 w wr w' : World} {t : Ex} {v vr v' hv : Value} {fr fr' h : List ByteArray} {b : Nat} (k : GI w0 w wr t v vr hv fr h b) (g : Gth w0 w' v' fr') (hb : Gb wr w' vr v') : GI w0 w w' t v v' hv fr' h b :=
  ⟨g, k.gb.trans hb, by unfold Blk; rw [k.far.block hb]; exact k.x, k.far.step hb, k.h.step hb⟩
theorem gth_eq {w : World} : ∀ {t : Ex}, t.At w → ∀ f h, t.gth f h = foldTo (fun i x => (t.ps i).gth x (h ++ bnd t i)) t.len (own1 t.k t.tx f h)
  | .dm, h => h.elim
  | .mk _ _ _ _ _ _ _ _ _ _ _ _ _ _, _ => fun _ _ => rfl

theorem fold_len (t : Ex) (f h : List ByteArray) : ∀ j, (foldTo (fun i x => (t.ps i).gth x (h ++ bnd t i)) j (own1 t.k t.tx f h)).length ≤ f.length + (1 + sumTo (fun i => (t.ps i).nodes) j)
  | 0 => by show (own1 t.k t.tx f h).length ≤ _; have := own1_len t.k t.tx f h; simp only [sumTo]; omega
  | j + 1 => by
    have h1 := fold_len t f h j
    have h2 := gth_len (t.ps j) (foldTo (fun i x => (t.ps i).gth x (h ++ bnd t i)) j (own1 t.k t.tx f h)) (h ++ bnd t j)
    show ((t.ps j).gth (foldTo (fun i x => (t.ps i).gth x (h ++ bnd t i)) j (own1 t.k t.tx f h)) (h ++ bnd t j)).length ≤ _
    simp only [sumTo]; omega
theorem quiet_load_exF {C : World → Prop} {K : Act → Prop} {a : Act} {o : Oper} (x : Operand) (ho : o.op = .load 36 x) (b oo : Nat) (hx : a.eval x = .pointer (some ⟨b, oo, none⟩)) (e : Ex) (hc : ∀ w, C w → C17 w b oo e)
    (h : K (a.put o.dst (.agg e.va))) : o.quiet Try.prog a C K := by
  refine ⟨.agg e.va, fun w hC => ?_, h⟩
  unfold Oper.quietAt execOp
  simp only [ho, hx, Sem.run_bind, load_exV (hc w hC), Result.andThen_ok, Sem.run_pure]
  exact ⟨rfl, rfl⟩
theorem Try.infoSts : (Try.prog.info? 43).map (fun i => (i.zero, i.size, i.bytes)) = some (some (.slice none 0 0), 1, 24) := by kernel_rfl
theorem run_rows2 (ao bo : Option Addr) (n m c d : Nat) (w : World) : (Instr.buildSlice 68 2 #[(0, .slice ao n c), (1, .slice bo m d)]).run Try.prog w = .ok (.slice (some ⟨w.heap.size, 0, none⟩) 2 2) (w.alloc (.cells #[.slice ao n c, .slice bo m d] 43)) := by
  obtain ⟨i0, hi, hz0, hz1, hz2⟩ := info_parts Try.infoSts
  simp [Instr.buildSlice, run_underlying Try.underlying68, sizeOf, typeInfo, hi, hz0, hz1, zeroValue, newRow, Value.cells, Instr.fill]
  kernel_rfl
theorem wp_sliceF {o : Oper} {a : Act} {w w' : World} {v : Value} {K : Act → World → Prop} {Q : Exit → Act → World → Prop} (t : TypeId) (n : Nat) (parts : Array (Nat × Operand)) (ho : o.op = .buildSlice t n parts) (vals : Array (Nat × Value)) (hv : (parts.map fun (i, x) => (i, a.eval x)) = vals)
    (hs : (Instr.buildSlice t n vals).run Try.prog w = .ok v w') (h : K (a.put o.dst v) w') : o.wp Try.prog a w K Q := by
  subst hv
  unfold Oper.wp execOp
  simp only [ho, Sem.run_bind, hs, Result.andThen_ok, Sem.run_pure]
  exact h
theorem SAt.form {w : World} {v : Value} {l : List ByteArray} (h : SAt w v l) : ∃ ao n cap, v = .slice ao n cap := by
  obtain ⟨ao, b, o, cap, h1, _⟩ := h
  exact ⟨ao, _, cap, h1⟩

set_option maxRecDepth 100000 in
set_option maxHeartbeats 8000000 in
theorem gather_any : ∀ t : Ex, GatherC t := by
  intro t
  induction t using Ex.ind with
  | h t ih =>
    intro w0 w v hv f h hG hAt hF hn hd
    obtain ⟨hao, hln, hcp, rfl⟩ := hF.sat.form
    have B0 := below_alloc w (.cells t.va 36)
    have HI : Hid (GI w0 w (w.alloc (.cells t.va 36)) t v v (.slice hao hln hcp) f h w.heap.size) := ⟨hG.step B0, Gb.of B0 v, Blk.new _ _ _, ⟨by simp, hG.far (Nat.le_refl _)⟩, hF.step (Gb.of B0 v)⟩
    have HE : Hid (t.gth f h = foldTo (fun i x => (t.ps i).gth x (h ++ bnd t i)) t.len (own1 t.k t.tx f h)) := gth_eq hAt f h
    have HD : Hid (t.At w0 ∧ f.length + t.nodes ≤ 10000 ∧ h.length + 2 * t.nest ≤ 10000) := ⟨hAt, hn, hd⟩
    have HR : Hid (t.gth f h = t.gth f h) := by show _ = _; rfl
    generalize t.gth f h = R at HE ⊢
    clear hG hAt hF hn hd B0 HR
    go_enter Try.func20, Try.ntmps20
    go_upto_region 1 with fail
    generalize w.alloc (.cells t.va 36) = w1 at *
    go_cut [25] (fun c wx => c = .bool ((t.k == 3) && !inL t.tx h && !inL t.tx f) ∧ Hid (GI w0 w wx t v v (.slice hao hln hcp) f h w.heap.size))
    case first =>
      have x0 := HI.out.x.cell 0 (v := .int .i64 t.k) rfl
      have x3 := HI.out.x.cell 3 (v := .string t.tx) rfl
      by_cases h3 : t.k = 3
      · rw [h3] at x0
        go_wp2_with fail
        refine (sContains_any h (.slice hao hln hcp) t.tx w1 HI.out.h.sat).mono ?_
        rintro _ w2 ⟨rfl, hb⟩
        have HI2 : Hid (GI w0 w w2 t v v (.slice hao hln hcp) f h w.heap.size) := HI.out.step hb
        clear x0 x3 HI hb
        have x3 := HI2.out.x.cell 3 (v := .string t.tx) rfl
        cases hq : inL t.tx h
        · go_wp2_with fail
          refine (sContains_any f v t.tx w2 (own_sat HI2.out.g.own (by have := HD.out; omega))).mono ?_
          rintro _ w3 ⟨rfl, hb⟩
          have HI3 : Hid (GI w0 w w3 t v v (.slice hao hln hcp) f h w.heap.size) := HI2.out.step hb
          clear x3 HI2 hb
          go_wp2
          go_meet
          case rel => exact ⟨by rw [h3, hq]; rfl, HI3.out⟩
        · go_wp2
          go_meet
          case rel => exact ⟨by rw [h3, hq]; rfl, HI2.out⟩
      · have d3 : (t.k == 3) = false := beq_eq_false_iff_ne.2 h3
        go_wp2
        go_meet
        case rel => exact ⟨by rw [d3]; rfl, HI.out⟩
    case rest =>
      obtain ⟨rfl, hI⟩ := hcut
      clear HI
      have HI : Hid (GI w0 w wc t v v (.slice hao hln hcp) f h w.heap.size) := hI
      clear hI
      go_upto_if 25 with fail
      go_cut [0] (fun vr wx => Hid (GI w0 w wx t v vr (.slice hao hln hcp) (own1 t.k t.tx f h) h w.heap.size))
      case first =>
        cases hc : ((t.k == 3) && !inL t.tx h && !inL t.tx f)
        · have HO : Hid (own1 t.k t.tx f h = f) := by show _ = _; unfold own1; rw [hc]; rfl
          go_wp2
          go_meet
          case rel => rw [HO.out]; exact HI.out
        · have HO : Hid (own1 t.k t.tx f h = f ++ [t.tx]) := by show _ = _; unfold own1; rw [hc]; rfl
          have x3 := HI.out.x.cell 3 (v := .string t.tx) rfl
          have hfl : f.length ≤ 10000 := by have := HD.out; omega
          have b1 := below_alloc wc (.cells #[.string t.tx] 9)
          have ho6 := own_kept HI.out.g.own b1
          have hnew := heap_alloc_new wc (.cells #[.string t.tx] 9)
          have ez : (wc.alloc (.cells #[.string t.tx] 9)).heap.size = wc.heap.size + 1 := alloc_size _ _
          have HJ : Hid (GI w0 w (wc.alloc (.cells #[.string t.tx] 9)) t v v (.slice hao hln hcp) f h w.heap.size) := HI.out.step b1
          obtain ⟨i0, hi, hz0, hz1, hz2⟩ := info_parts Try.infoSt
          have hbb : w0.heap.size ≤ (wc.alloc (.cells #[.string t.tx] 9)).heap.size := HJ.out.g.bl.size
          have h1s := run_strs1 t.tx wc
          clear HI b1 hc
          go_wp2_with (first | (refine wpList_slice rfl 43 1 #[(0, .tmp 28)] rfl #[(0, .string t.tx)] rfl h1s ?_) | (at_builtin; (refine wpList_append_lies _ rfl (.tmp 26) (.tmp 29) 43 rfl w0.heap.size 9 i0 _ 1 16 Try.underlying43 hi hz0 hz1 hz2 rfl (by decide) v f.length (f.map .string) rfl ho6 ⟨wc.heap.size, 0, none⟩ 1 1 [.string t.tx] rfl rfl (World.news_of_block (cs := #[.string t.tx]) (t := 9) (fr := (0, 0)) hnew) (by intro x hx; simp at hx; rcases hx with rfl; rfl) (by omega) (by unfold maxLen; omega) (by omega) hbb (wc.heap.size + 1) ez ?_); intro gg cap3 w6 hown6 hgrow hat hltg))
          have HK : Hid (GI w0 w w6 t v (.slice (some ⟨gg, 0, none⟩) (f.length + 1) cap3) (.slice hao hln hcp) (f ++ [t.tx]) h w.heap.size) := by
            have hgb : Gb (wc.alloc (.cells #[.string t.tx] 9)) w6 v (.slice (some ⟨gg, 0, none⟩) (f.length + 1) cap3) := ⟨hgrow, by
              rcases hat with h1 | h1
              · exact Or.inl h1.symm
              · exact Or.inr ⟨gg, rfl, by rw [ez]; omega⟩⟩
            exact HJ.out.to (HJ.out.g.to hgb (by simpa using hown6)) hgb
          clear hown6 hgrow hat hltg ho6 hnew x3 HJ
          go_wp2
          go_meet
          case rel => rw [HO.out]; exact HK.out
      case rest =>
        clear HI
        have HI : Hid (GI w0 w wc t v u0 (.slice hao hln hcp) (own1 t.k t.tx f h) h w.heap.size) := hcut
        clear hcut
        have x15 := HI.out.x.cell 15 (v := .slice t.ao t.len t.cap) rfl
        have hb : t.len ≤ 9223372036854775807 := HD.out.1.bound
        have hnil : 0 < t.len → t.ao = some ⟨t.b, t.o, none⟩ := HD.out.1.nil
        generalize hlen : t.len = len at *
        have HL : Hid (t.len = len) := hlen
        clear hlen
        generalize t.ao = ao at *
        generalize t.cap = cap at *
        go_wp2
        clear x15
        go_loopw [0, 34] (fun vr i wr => ∃ (j : Nat), j ≤ len ∧ i = .int .i64 j ∧ GI w0 w wr t v vr (.slice hao hln hcp) (foldTo (fun i x => (t.ps i).gth x (h ++ bnd t i)) j (own1 t.k t.tx f h)) h w.heap.size) (fun _ i _ => len - (intOf i).toNat)
        case atStart => exact ⟨0, Nat.zero_le _, rfl, HI.out⟩
        case round =>
          obtain ⟨j, hj, rfl, hI⟩ := hrel
          clear HI
          obtain ⟨fj, hfj⟩ : ∃ x, x = foldTo (fun i x => (t.ps i).gth x (h ++ bnd t i)) j (own1 t.k t.tx f h) := ⟨_, rfl⟩
          rw [← hfj] at hI
          have HFJ : Hid (fj = foldTo (fun i x => (t.ps i).gth x (h ++ bnd t i)) j (own1 t.k t.tx f h)) := hfj
          have HI : Hid (GI w0 w wr t v u0 (.slice hao hln hcp) fj h w.heap.size) := hI
          clear hI hfj
          by_cases hlt : j < len
          · have ij : (j : Int) < len := by omega
            have a0 := hnil (by omega)
            subst a0
            have hlt' : j < t.len := by rw [HL.out]; exact hlt
            have C : C17 wr t.b (t.o + j * 17) (t.ps j) := (HD.out.1.kept HI.out.g.bl).cells hlt'
            have HP : Hid ((t.ps j).At w0) := HD.out.1.part hlt'
            have b1 := below_alloc wr (.cells zEx.toArray 36)
            have x7 : Blk (wr.alloc (.cells zEx.toArray 36)) wr.heap.size zEx 36 := Blk.new _ _ _
            go_upto_region 6 with (first | (refine wpList_load_ex rfl (.tmp 37) rfl _ _ rfl _ C ?_) | (refine wpList_store_blk rfl rfl 36 (.tmp 8) (.tmp 38) rfl wr.heap.size (t.ps j).vs (by kernel_rfl) (by kernel_rfl) (by simpa [Ex.va] using (t.ps j).va_one) x7 rfl (by kernel_rfl) ?_; intro w2 W2))
            have HJ : Hid (GI w0 w w2 t v u0 (.slice hao hln hcp) fj h w.heap.size) := HI.out.step (W2.below (Nat.le_refl _) b1)
            have HY : Hid (Blk w2 wr.heap.size (t.ps j).vs 36 ∧ Far w2 u0 wr.heap.size) := ⟨W2.blk, ⟨W2.blk.lt, HI.out.g.far (Nat.le_refl _)⟩⟩
            clear HI W2 b1 x7 C
            generalize wr.heap.size = Y at HY ⊢
            have hbD : Below w2.heap.size w2 w2.drew := (Below.refl _ _).drew
            have HJ2 : Hid (GI w0 w w2.drew t v u0 (.slice hao hln hcp) fj h w.heap.size) := HJ.out.step hbD
            have HY2 : Hid (Blk w2.drew Y (t.ps j).vs 36 ∧ Far w2.drew u0 Y) := ⟨HY.out.1.kept hbD, HY.out.2.step (Gb.of hbD u0)⟩
            clear HJ HY hbD
            refine wp_region_readsMN (fun q : World => Blk q w.heap.size t.vs 36 ∧ Blk q Y (t.ps j).vs 36) [0, 1, 2, 3, 7] 5 (by kernel_rfl) rfl (by kernel_rfl) (fun j hj => ?_) ⟨HJ2.out.x, HY2.out.1⟩ ?_
            · have hj5 : j < 5 := hj
              match j, hj5 with
              | 0, _ => exact ⟨_, rfl, rfl⟩
              | 1, _ => exact ⟨_, rfl, rfl⟩
              | 2, _ => exact ⟨_, rfl, rfl⟩
              | 3, _ => exact ⟨_, rfl, rfl⟩
              | 4, _ => exact ⟨_, rfl, rfl⟩
            have hNE : Nonempty (Wd (fun q : World => Blk q w.heap.size t.vs 36 ∧ Blk q Y (t.ps j).vs 36)) := ⟨⟨w2.drew, HJ2.out.x, HY2.out.1⟩⟩
            have hC5 : ∀ u, (∃ x : Wd (fun q : World => Blk q w.heap.size t.vs 36 ∧ Blk q Y (t.ps j).vs 36), u = x.w) → C17 u w.heap.size 0 t := by
              rintro _ ⟨x, rfl⟩
              exact C17.of_range (Blk.range x.2.1)
            have hC8 : ∀ u, (∃ x : Wd (fun q : World => Blk q w.heap.size t.vs 36 ∧ Blk q Y (t.ps j).vs 36), u = x.w) → C17 u Y 0 (t.ps j) := by
              rintro _ ⟨x, rfl⟩
              exact C17.of_range (Blk.range x.2.2)
            generalize w2.drew = w3 at *
            simp only [List.filterMap, List.getElem?_cons_zero, List.getElem?_cons_succ]
            iterate 2 go_big_quiet_step (fail)
            go_big_quiet_want
            refine quiet_load_exF (.tmp 5) rfl _ _ (by kernel_rfl) t hC5 ?_
            simp only [Act.put, List.setIfInBounds_toArray, List.set_cons_succ, List.set_cons_zero]
            go_big_quiet_on
            go_big_quiet_step (fail)
            go_big_quiet_want
            refine quiet_load_exF (.tmp 8) rfl _ _ (by kernel_rfl) (t.ps j) hC8 ?_
            simp only [Act.put, List.setIfInBounds_toArray, List.set_cons_succ, List.set_cons_zero]
            go_big_quiet_on
            refine wpQuiet_nil ?_
            clear hNE hC5 hC8
            refine wpAnyH_ready (rs := [4]) (by kernel_rfl) (by simp) ?_
            refine AllReadyH.cons rfl (fun K hK => ?_) AllReadyH.nil
            rw [if_pos (by rfl)]
            go_simp
            refine (bound_fr t j w3).mono ?_
            rintro _ w4 ⟨bv, rfl, hS4, hb4⟩
            obtain ⟨bo, bn, bc, rfl⟩ := hS4.form
            have HS4 : Hid (SAt w4 (.slice bo bn bc) (bnd t j)) := hS4
            have HJ4 : Hid (GI w0 w w4 t v u0 (.slice hao hln hcp) fj h w.heap.size) := HJ2.out.step hb4
            have HY4 : Hid (Blk w4 Y (t.ps j).vs 36 ∧ Far w4 u0 Y) := ⟨HY2.out.1.kept hb4, HY2.out.2.step (Gb.of hb4 u0)⟩
            refine hK.out _ _ ⟨HJ4.out.x, HY4.out.1⟩ (fun _ => ?_)
            clear hK K HJ2 HY2 hS4 hb4
            refine wpAnyH_ready (rs := [5]) (by kernel_rfl) (by simp) ?_
            refine AllReadyH.cons rfl (fun K hK => ?_) AllReadyH.nil
            rw [if_pos (by rfl)]
            have hr := run_rows2 hao bo hln bn hcp bc w4
            have b5 := below_alloc w4 (.cells #[.slice hao hln hcp, .slice bo bn bc] 43)
            have h5 := heap_alloc_new w4 (.cells #[.slice hao hln hcp, .slice bo bn bc] 43)
            have c0 : (w4.alloc (.cells #[.slice hao hln hcp, .slice bo bn bc] 43)).cell? ⟨w4.heap.size, 0, none⟩ = some (.slice hao hln hcp) := by simp only [World.cell?]; rw [h5]; rfl
            have c1 : (w4.alloc (.cells #[.slice hao hln hcp, .slice bo bn bc] 43)).cell? ⟨w4.heap.size, 1, none⟩ = some (.slice bo bn bc) := by simp only [World.cell?]; rw [h5]; rfl
            have HC : Hid ((w4.alloc (.cells #[.slice hao hln hcp, .slice bo bn bc] 43)).cell? ⟨w4.heap.size, 0, none⟩ = some (.slice hao hln hcp) ∧ (w4.alloc (.cells #[.slice hao hln hcp, .slice bo bn bc] 43)).cell? ⟨w4.heap.size, 1, none⟩ = some (.slice bo bn bc)) := ⟨c0, c1⟩
            have HS5 : Hid (SAt (w4.alloc (.cells #[.slice hao hln hcp, .slice bo bn bc] 43)) (.slice bo bn bc) (bnd t j)) := HS4.out.kept b5
            have HJ5 : Hid (GI w0 w (w4.alloc (.cells #[.slice hao hln hcp, .slice bo bn bc] 43)) t v u0 (.slice hao hln hcp) fj h w.heap.size) := HJ4.out.step b5
            have HY5 : Hid (Blk (w4.alloc (.cells #[.slice hao hln hcp, .slice bo bn bc] 43)) Y (t.ps j).vs 36 ∧ Far (w4.alloc (.cells #[.slice hao hln hcp, .slice bo bn bc] 43)) u0 Y) := ⟨HY4.out.1.kept b5, HY4.out.2.step (Gb.of b5 u0)⟩
            clear c0 c1 h5 b5 HS4 HJ4 HY4
            refine wp_sliceF 68 2 #[(0, .tmp 40), (1, .tmp 43)] rfl #[(0, .slice hao hln hcp), (1, .slice bo bn bc)] (by kernel_rfl) hr ?_
            refine hK.out _ _ ⟨HJ5.out.x, HY5.out.1⟩ (fun _ => ?_)
            clear hK K hr
            simp only [Act.put, List.setIfInBounds_toArray]
            have hcl : h.length + (bnd t j).length ≤ 1000000 := by have h1 := HD.out; have h2 := bnd_len t j; omega
            have hCC := sConcat_any w4.heap.size h (bnd t j) (.slice hao hln hcp) (.slice bo bn bc) (w4.alloc (.cells #[.slice hao hln hcp, .slice bo bn bc] 43)) HJ5.out.h.sat HS5.out hcl HC.out.1 HC.out.2
            generalize (w4.alloc (.cells #[.slice hao hln hcp, .slice bo bn bc] 43)) = w5 at *
            clear HC HS5
            refine wpAnyH_ready (rs := [6]) (by kernel_rfl) (by simp) ?_
            refine AllReadyH.cons rfl (fun K hK => ?_) AllReadyH.nil
            rw [if_pos (by rfl)]
            go_simp
            refine hCC.mono ?_
            rintro _ w6 ⟨cv, rfl, ho6, hb6⟩
            have HF6 : Hid (SFar w6 cv (h ++ bnd t j) u0) := sfar_own HJ5.out.g (Below.refl _ _) ho6 (by rw [List.length_append]; exact hcl)
            have HJ6 : Hid (GI w0 w w6 t v u0 (.slice hao hln hcp) fj h w.heap.size) := HJ5.out.step hb6
            have HY6 : Hid (Blk w6 Y (t.ps j).vs 36 ∧ Far w6 u0 Y) := ⟨HY5.out.1.kept hb6, HY5.out.2.step (Gb.of hb6 u0)⟩
            refine hK.out _ _ ⟨HJ6.out.x, HY6.out.1⟩ (fun _ => ?_)
            clear hK K hCC HJ5 HY5 ho6 hb6
            have hb1 : fj.length + (t.ps j).nodes ≤ 10000 := by
              have h1 := HD.out.2.1
              have h2 := fold_len t f h j
              rw [← HFJ.out] at h2
              have h3 := HD.out.1.nodes_eq
              have h4 := sumTo_mono (fun i => (t.ps i).nodes) hlt'
              simp only [sumTo] at h4
              omega
            have hb2 : (h ++ bnd t j).length + 2 * (t.ps j).nest ≤ 10000 := by
              have h1 := HD.out.2.2
              have h2 := bnd_len t j
              have h3 := HD.out.1.nest_eq
              have h4 := le_mxTo (f := fun i => (t.ps i).nest) hlt'
              rw [List.length_append]
              omega
            have hGG := ih j hlt w0 w6 u0 cv fj (h ++ bnd t j) HJ6.out.g HP.out HF6.out hb1 hb2
            clear hb1 hb2 HF6
            refine wpAnyH_ready (rs := [8]) (by kernel_rfl) (by simp) ?_
            refine AllReadyH.cons rfl (fun K hK => ?_) AllReadyH.nil
            rw [if_pos (by rfl)]
            go_simp
            refine hGG.mono ?_
            rintro _ w7 ⟨v7, rfl, g7, gb7⟩
            have HJ7 : Hid (GI w0 w w7 t v v7 (.slice hao hln hcp) ((t.ps j).gth fj (h ++ bnd t j)) h w.heap.size) := HJ6.out.to g7 gb7
            have hY7 : Blk w7 Y (t.ps j).vs 36 := by unfold Blk; rw [HY6.out.2.block gb7]; exact HY6.out.1
            refine hK.out _ _ ⟨HJ7.out.x, hY7⟩ (fun _ => ?_)
            clear hK K hGG g7 gb7
            refine wpAnyH_ready (rs := [9]) (by kernel_rfl) (by simp) ?_
            refine AllReadyH.cons rfl (fun K hK => ?_) AllReadyH.nil
            rw [if_pos (by rfl)]
            go_simp
            refine hK.out _ _ ⟨HJ7.out.x, hY7⟩ (fun _ => ?_)
            clear hK K HJ6 HY6 hY7
            refine wpAnyH_done (by kernel_rfl) ?_ _
            refine ⟨(fun c hc => by cases hc), ?_⟩
            go_wp2
            go_roundw
            case rel => exact ⟨j + 1, by omega, by go_num, by show GI w0 w w7 t v v7 _ ((t.ps j).gth _ (h ++ bnd t j)) h _; rw [← HFJ.out]; exact HJ7.out⟩
            case measure => simp [intOf]; omega
          · have e2 : j = len := by omega
            subst e2
            have d : ¬ (j : Int) < j := by omega
            go_wp2
            go_ret
            refine ⟨_, rfl, ?_, HI.out.gb⟩
            have := HI.out.g
            rw [HFJ.out] at this
            rw [HE.out]
            exact this
end Go.Proofs.Ytnhoehiaphdomaa

/- Layer 8: walk's count of an expression's nodes, by free's own partsOf. -/
namespace Go.Proofs.Ytnhoehiaphdomaa
open Go.RowKit

set_option maxHeartbeats 1000000 in
theorem epartsOfF_any (t : Ex) (w : World) :
    Calls Try.prog 17 #[.agg #[.int .i64 t.k, .int .i64 t.n, .int .i64 t.m, .string t.tx, .string t.ar, .int .i64 t.ty.k, .int .i64 t.ty.l, .slice t.ty.ao t.ty.len t.ty.cap, .int .i64 t.ty.h, .int .i64 t.ty.e, .int .i64 t.gv.k, .int .i64 t.gv.l, .slice t.gv.ao t.gv.len t.gv.cap, .int .i64 t.gv.h, .int .i64 t.gv.e, .slice t.ao t.len t.cap, .int .i64 t.pl]] w fun e w' => e = .returned (.slice t.ao t.len t.cap) ∧ Below w.heap.size w w' := by
  have B0 := below_alloc w (.cells #[.int .i64 t.k, .int .i64 t.n, .int .i64 t.m, .string t.tx, .string t.ar, .int .i64 t.ty.k, .int .i64 t.ty.l, .slice t.ty.ao t.ty.len t.ty.cap, .int .i64 t.ty.h, .int .i64 t.ty.e, .int .i64 t.gv.k, .int .i64 t.gv.l, .slice t.gv.ao t.gv.len t.gv.cap, .int .i64 t.gv.h, .int .i64 t.gv.e, .slice t.ao t.len t.cap, .int .i64 t.pl] 36)
  have x2 : (w.alloc (.cells #[.int .i64 t.k, .int .i64 t.n, .int .i64 t.m, .string t.tx, .string t.ar, .int .i64 t.ty.k, .int .i64 t.ty.l, .slice t.ty.ao t.ty.len t.ty.cap, .int .i64 t.ty.h, .int .i64 t.ty.e, .int .i64 t.gv.k, .int .i64 t.gv.l, .slice t.gv.ao t.gv.len t.gv.cap, .int .i64 t.gv.h, .int .i64 t.gv.e, .slice t.ao t.len t.cap, .int .i64 t.pl] 36)).cell? ⟨w.heap.size, 15, none⟩ = some (.slice t.ao t.len t.cap) := (Bex.new w t).c15
  go_enter Try.func17, Try.ntmps17
  go_wp2
  go_ret
  exact ⟨rfl, B0⟩
theorem epartsF (t : Ex) (w : World) : Calls Try.prog 17 #[.agg t.va] w fun e w' => e = .returned (.slice t.ao t.len t.cap) ∧ Below w.heap.size w w' := epartsOfF_any t w

set_option maxRecDepth 100000 in
set_option maxHeartbeats 4000000 in
theorem ecountF_any : ∀ (t : Ex) (a : Nat) (w : World), a ≤ 2000 → t.At w → Calls Try.prog 24 #[.agg t.va, .func (.func 17) #[] #[], .int .i64 2000, .int .i64 a] w fun e w' => e = .returned (.int .i64 (min (a + t.nodes) 2001 : Nat)) ∧ Below w.heap.size w w' := by
  intro t
  induction t using Ex.ind with
  | h t ih =>
    intro a w ha hAt
    have HN : Hid (t.nodes = 1 + sumTo (fun i => (t.ps i).nodes) t.len) := hAt.nodes_eq
    have B0 := below_alloc w (.cells t.va 36)
    have X0 := Bex.newV w t
    have hb : t.len ≤ 9223372036854775807 := hAt.bound
    have hnil : 0 < t.len → t.ao = some ⟨t.b, t.o, none⟩ := hAt.nil
    have HS : Hid (Ex.At (w.alloc (.cells t.va 36)) t ∧ Below w.heap.size w (w.alloc (.cells t.va 36))) := ⟨hAt.kept B0, B0⟩
    have hP := epartsF t (w.alloc (.cells t.va 36))
    clear B0 hAt
    generalize t.nodes = N at HN ⊢
    generalize t.ao = ao at hnil hP
    generalize hlen : t.len = len at *
    have HL : Hid (t.len = len) := hlen
    clear hlen
    generalize t.cap = cap at hP
    go_enter Try.func24, Try.ntmps24
    go_wp2_with (refine wpList_load_exB rfl (.tmp 4) rfl _ rfl t X0 ?_)
    refine hP.mono ?_
    rintro _ w5 ⟨rfl, hb5⟩
    have HS : Hid (Ex.At w5 t ∧ Below w.heap.size w w5) := ⟨HS.out.1.kept hb5, Below.next HS.out.2 hb5⟩
    clear hb5 hP X0
    go_wp2
    go_loopw [9, 18] (fun mm i wr => ∃ (q j : Nat), j ≤ len ∧ mm = .int .i64 q ∧ i = .int .i64 j ∧ q = min (a + (1 + sumTo (fun i => (t.ps i).nodes) j)) 2001 ∧ Ex.At wr t ∧ Below w.heap.size w wr) (fun _ i _ => len - (intOf i).toNat)
    case atStart => exact ⟨a + 1, 0, Nat.zero_le _, by rw [Int.natCast_add]; rfl, rfl, by simp only [sumTo]; omega, HS.out⟩
    case round =>
      obtain ⟨q, j, hj, rfl, rfl, hm, hA, hB⟩ := hrel
      clear HS
      have HQ : Hid (q = min (a + (1 + sumTo (fun i => (t.ps i).nodes) j)) 2001) := hm
      clear hm
      by_cases hlt : j < len
      · have ij : (j : Int) < len := by omega
        have a0 := hnil (by omega)
        subst a0
        have HlT : j < t.len := by rw [HL.out]; exact hlt
        have C : C17 wr t.b (t.o + j * 17) (t.ps j) := hA.cells HlT
        have P : (t.ps j).At wr := hA.part HlT
        have X0 := Bex.newV wr (t.ps j)
        have B0 := below_alloc wr (.cells (t.ps j).va 36)
        have HS : Hid (Ex.At wr t ∧ Below w.heap.size w wr) := ⟨hA, hB⟩
        clear hA hB HlT
        by_cases h40 : 2000 < q
        · have d40 : decide ((2000 : Int) < q) = true := by simp; omega
          have HE : Hid (min (a + N) 2001 = q) := by
            show min (a + N) 2001 = q
            have := HQ.out
            have h2 := sumTo_mono (fun i => (t.ps i).nodes) hj
            rw [HN.out]
            omega
          go_wp2_with (first | (refine wpList_load_ex rfl (.tmp 20) rfl _ _ rfl _ C ?_) | (refine wpList_new_ex rfl rfl rfl (.tmp 11) (.tmp 21) rfl rfl rfl _ rfl ?_))
          all_goals go_ret
          all_goals exact ⟨ret_int (by have h2 := HE.out; omega), Below.next HS.out.2 B0⟩
        · have d40 : decide ((2000 : Int) < q) = false := by simp; omega
          go_wp2_with (first | (refine wpList_load_ex rfl (.tmp 20) rfl _ _ rfl _ C ?_) | (refine wpList_new_ex rfl rfl rfl (.tmp 11) (.tmp 21) rfl rfl rfl _ rfl ?_) | (refine wpList_load_exB rfl (.tmp 11) rfl _ rfl _ X0 ?_))
          refine (ih j hlt q _ (by omega) (P.kept B0)).mono ?_
          rintro r w1 ⟨rfl, hb1⟩
          have B1 := Below.next B0 hb1
          clear X0
          go_wp2
          go_roundw
          case rel => exact ⟨min (q + (t.ps j).nodes) 2001, j + 1, by omega, rfl, by go_num, by have := HQ.out; simp only [sumTo]; omega, HS.out.1.kept B1, Below.next HS.out.2 B1⟩
          case measure => simp [intOf]; omega
      · have e : len = j := by omega
        subst e
        have d : ¬ (len : Int) < len := by omega
        go_wp2
        go_ret
        exact ⟨ret_int (by have h1 := HQ.out; have h2 := HN.out; omega), hB⟩

set_option maxHeartbeats 1000000 in
theorem eCountF_any (t : Ex) (w : World) (ht : t.At w) : Calls Try.prog 16 #[.agg t.va, .func (.func 17) #[] #[], .int .i64 2000] w fun e w' => e = .returned (.int .i64 (min t.nodes 2001 : Nat)) ∧ Below w.heap.size w w' := by
  have B0 := below_alloc w (.cells t.va 36)
  have X0 := Bex.newV w t
  have h := ecountF_any t 0 _ (by omega) (ht.kept B0)
  rw [Nat.zero_add] at h
  go_enter Try.func16, Try.ntmps16
  go_wp2_with (refine wpList_load_exB rfl (.tmp 3) rfl _ rfl t X0 ?_)
  refine h.mono ?_
  rintro r w1 ⟨rfl, hb1⟩
  clear X0
  go_wp2
  go_ret
  exact ⟨rfl, Below.next B0 hb1⟩
end Go.Proofs.Ytnhoehiaphdomaa

/- The map of places, where two pointers may be told to be one by a draw: what holds all the same. -/
namespace Go.Proofs.Ytnhoehiaphdomaa
open Go.RowKit

/-- Nothing but draws. -/
def Dw (w w' : World) : Prop := ∃ n, w' = { w with drawn := n }
theorem Dw.refl (w : World) : Dw w w := ⟨w.drawn, rfl⟩
theorem Dw.trans {a b c : World} (h : Dw a b) (k : Dw b c) : Dw a c := by
  obtain ⟨n, rfl⟩ := h
  obtain ⟨m, rfl⟩ := k
  exact ⟨m, rfl⟩
theorem Dw.heap {a b : World} (h : Dw a b) : b.heap = a.heap := by obtain ⟨n, rfl⟩ := h; rfl
theorem Dw.below {a b : World} (h : Dw a b) (B : Nat) : Below B a b := by
  obtain ⟨n, rfl⟩ := h
  exact ⟨rfl, rfl, rfl, Nat.le_refl _, fun _ _ => rfl⟩
/-- A cell of a row that isn't frozen. -/
def Nfz (w : World) (a : Addr) : Prop := (∃ c t fr, w.heap[a.block]? = some (.cells c t fr)) ∧ w.frozen? a = false
theorem Nfz.dr {w w' : World} {a : Addr} (h : Nfz w a) (k : Dw w w') : Nfz w' a := by
  obtain ⟨n, rfl⟩ := k
  exact h
theorem run_mayBeOne (w : World) (a b : Addr) (ha : Nfz w a) (hb : Nfz w b) : ∃ r, (mayBeOne a b).run Try.prog w = .ok r w := by
  obtain ⟨⟨ca, ta, fa, ha⟩, za⟩ := ha
  obtain ⟨⟨cb, tb, fb, hb⟩, zb⟩ := hb
  simp [mayBeOne, stringish, za, zb, World.shape?, ha, hb]
theorem run_sameAddr_weak (w : World) (a b : Addr) (ha : Nfz w a) (hb : Nfz w b) : ∃ r w', (sameAddr a b).run Try.prog w = .ok r w' ∧ Dw w w' := by
  obtain ⟨r, hr⟩ := run_mayBeOne w a b ha hb
  obtain ⟨⟨ca, ta, fa, ha⟩, za⟩ := ha
  obtain ⟨⟨cb, tb, fb, hb⟩, zb⟩ := hb
  by_cases hbl : a.block = b.block
  · exact ⟨a == b, w, by simp [sameAddr, hbl], Dw.refl _⟩
  · cases r with
    | false => exact ⟨false, w, by simp [sameAddr, hbl, za, zb, noView, viewAt, World.shape?, ha, hb, hr], Dw.refl _⟩
    | true =>
      have hf : (Question.extern "sameAddr.stringBytes" 2).forced = false := by kernel_rfl
      refine ⟨_, { w with drawn := w.drawn + 1 }, by simp [sameAddr, hbl, za, zb, noView, viewAt, World.shape?, ha, hb, hr, choose, Sem.run, hf]; rfl, ⟨_, rfl⟩⟩
theorem run_eqp_ptr_weak (w : World) (d : Nat) (a b : Addr) (ha : Nfz w a) (hb : Nfz w b) : ∃ r w', (Op.equalIn (d + 1) 81 (.pointer (some a)) (.pointer (some b))).run Try.prog w = .ok r w' ∧ Dw w w' := by
  obtain ⟨r, w', h, hd⟩ := run_sameAddr_weak w a b ha hb
  have hz := Try.exSize
  cases hq : Try.prog.info? 36 with
  | none => rw [hq] at hz; simp at hz
  | some i =>
    rw [hq] at hz
    have hz : i.size = 17 := by simpa using hz
    by_cases hab : a = b
    · subst hab
      exact ⟨true, w, by simp [Op.equalIn, run_underlying Try.underlying81, sizeOf, typeInfo, hq, run_sameAddr_same], Dw.refl _⟩
    · exact ⟨r, w', by simp [Op.equalIn, run_underlying Try.underlying81, sizeOf, typeInfo, hq, hz, h], hd⟩
theorem run_eq_place_weak' (w : World) (d : Nat) (a b : Addr) (m n : Nat) (ha : Nfz w a) (hb : Nfz w b) : ∃ r w', (Op.equalIn (d + 2) 83 (keyV a m) (keyV b n)).run Try.prog w = .ok r w' ∧ Dw w w' := by
  unfold keyV
  obtain ⟨r, w', e1, hd⟩ := run_eqp_ptr_weak w d a b ha hb
  have e2 := run_eqp_nil w' d
  have e3 := run_eqp_int w' d m n
  have p1 := fun a' n' => run_part_ptr w (.pointer (some a')) (.pointer none) (.int .i64 n') 0 _ rfl
  have p2 := fun a' n' => run_part_ptr w' (.pointer (some a')) (.pointer none) (.int .i64 n') 1 _ rfl
  have p3 := fun a' n' => run_part_int w' (.pointer (some a')) (.pointer none) (.int .i64 n') 2 _ rfl
  refine ⟨r && decide (m = n), w', ?_, hd⟩
  rw [Op.equalIn]
  simp only [Sem.run_bind, run_underlying Try.underlying83, Result.andThen_ok]
  cases r with
  | false => simp [e1, p1]
  | true =>
    by_cases hmn : m = n
    · subst hmn
      simp [e1, e2, e3, p1, p2, p3]
    · simp [e1, e2, e3, p1, p2, p3, hmn]
theorem run_eq_place_weak (w : World) (a b : Addr) (m n : Nat) (ha : Nfz w a) (hb : Nfz w b) : ∃ r w', (Op.equal 83 (keyV a m) (keyV b n)).run Try.prog w = .ok r w' ∧ Dw w w' :=
  run_eq_place_weak' w 9998 a b m n ha hb
/-- The keys of a map of places. -/
def KeysW (w : World) (es : List MapEntry) : Prop := ∀ e ∈ es, ∃ a n, e.key = keyV a n ∧ Nfz w a ∧ e.val = .agg #[]
theorem KeysW.dr {w w' : World} {es : List MapEntry} (h : KeysW w es) (k : Dw w w') : KeysW w' es := fun e he => by
  obtain ⟨a, n, h1, h2, h3⟩ := h e he
  exact ⟨a, n, h1, h2.dr k, h3⟩
theorem run_findAsking_weak (a : Addr) (n : Nat) : ∀ (es : List MapEntry) (i : Nat) (w : World), Nfz w a → KeysW w es →
    ∃ r w', (Instr.findAsking 83 (keyV a n) es i).run Try.prog w = .ok r w' ∧ Dw w w' ∧ (r = none ∨ ∃ j, r = some (j, .agg #[]))
  | [], i, w, _, _ => ⟨none, w, by simp [Instr.findAsking], Dw.refl _, Or.inl rfl⟩
  | e :: es, i, w, ha, hk => by
    obtain ⟨b, m, h1, h2, h3⟩ := hk e (List.mem_cons_self ..)
    obtain ⟨q, w1, hq, d1⟩ := run_eq_place_weak w a b n m ha h2
    cases q with
    | true =>
      refine ⟨some (i, e.val), w1, ?_, d1, Or.inr ⟨i, by rw [h3]⟩⟩
      rw [Instr.findAsking, h1]
      simp [hq]
    | false =>
      obtain ⟨r, w2, h4, d2, h5⟩ := run_findAsking_weak a n es (i + 1) w1 (ha.dr d1) (KeysW.dr (fun x hx => hk x (List.mem_cons_of_mem _ hx)) d1)
      refine ⟨r, w2, ?_, d1.trans d2, h5⟩
      rw [Instr.findAsking, h1]
      simp only [Sem.run_bind, hq, Result.andThen_ok]
      simpa using h4
theorem run_findKey_weak (w : World) (a : Addr) (n : Nat) (ha : Nfz w a) (es : Array MapEntry) (h : KeysW w es.toList) :
    ∃ r w', (Instr.findKey 83 (keyV a n) es.toList).run Try.prog w = .ok r w' ∧ Dw w w' ∧ (r = none ∨ ∃ j, r = some (j, .agg #[])) := by
  have hu := run_underlying (w := w) Try.underlying83
  obtain ⟨r, w', h1, h2, h3⟩ := run_findAsking_weak a n es.toList 0 w ha h
  cases hl : es.toList with
  | nil => exact ⟨none, w, by simp [Instr.findKey, hu, Instr.findNow], Dw.refl _, Or.inl rfl⟩
  | cons e l =>
    rw [hl] at h1
    refine ⟨r, w', ?_, h2, h3⟩
    simp [Instr.findKey, hu, Instr.findNow, Instr.sameNow, h1]
theorem run_look_weak (w : World) (m : Nat) (es : Array MapEntry) (c : Nat) (hm : w.heap[m]? = some (.map es c)) (a : Addr) (n : Nat) (ha : Nfz w a) (h : KeysW w es.toList) :
    ∃ b w', (Instr.lookup 80 (.map (some m)) (keyV a n) true).run Try.prog w = .ok (.tuple #[.agg #[], .bool b]) w' ∧ Dw w w' := by
  obtain ⟨r, w', h1, hd, h2⟩ := run_findKey_weak w a n ha es h
  have hc' : ∀ e, (Instr.checkKey e 10000 83 (keyV a n)).run Try.prog w = .ok () w := fun e => run_checkKey w e 9998 a n
  have hg : (getObj m).run Try.prog w = .ok (.map es c) w := by simp [getObj, Sem.run, hm]
  have hz : (Try.prog.info? 84).map (·.zero) = some (some (.agg #[])) := by kernel_rfl
  cases hq : Try.prog.info? 84 with
  | none => rw [hq] at hz; simp at hz
  | some i =>
    rw [hq] at hz
    have hz : i.zero = some (.agg #[]) := by simpa using hz
    rcases h2 with rfl | ⟨j, rfl⟩
    · exact ⟨false, w', by simp [Instr.lookup, run_underlying Try.underlying80, hg, hc', h1, zeroValue, typeInfo, hq, hz], hd⟩
    · exact ⟨true, w', by simp [Instr.lookup, run_underlying Try.underlying80, hg, hc', h1], hd⟩
theorem run_stays (w : World) (old new : Value) : ∃ k w', (Instr.keyThatStays old new).run Try.prog w = .ok k w' ∧ Dw w w' ∧ (k = new ∨ k = old) := by
  by_cases hs : Instr.sameBits 10000 old new = true
  · exact ⟨new, w, by simp [Instr.keyThatStays, hs], Dw.refl _, Or.inl rfl⟩
  · have hf : (Question.extern "map.whichKeyStays" 2).forced = false := by kernel_rfl
    by_cases h0 : (Question.extern "map.whichKeyStays" 2).cut (w.tape w.drawn (Question.extern "map.whichKeyStays" 2)) = 0
    · exact ⟨new, { w with drawn := w.drawn + 1 }, by simp [Instr.keyThatStays, hs, choose, Sem.run, hf, h0], ⟨_, rfl⟩, Or.inl rfl⟩
    · exact ⟨old, { w with drawn := w.drawn + 1 }, by simp [Instr.keyThatStays, hs, choose, Sem.run, hf, h0], ⟨_, rfl⟩, Or.inr rfl⟩
theorem run_put_weak (w : World) (m : Nat) (es : Array MapEntry) (c : Nat) (hm : w.heap[m]? = some (.map es c)) (a : Addr) (n : Nat) (ha : Nfz w a) (h : KeysW w es.toList) :
    ∃ es' c' d, (Instr.mapUpdate 80 (.map (some m)) (keyV a n) (.agg #[])).run Try.prog w = .ok () { w with drawn := d, heap := w.heap.setIfInBounds m (.map es' c') } ∧ ∀ u, Nfz u a → KeysW u es.toList → KeysW u es'.toList := by
  obtain ⟨r, w1, h1, d1, h2⟩ := run_findKey_weak w a n ha es h
  have hc' : ∀ e, (Instr.checkKey e 10000 83 (keyV a n)).run Try.prog w = .ok () w := fun e => run_checkKey w e 9998 a n
  have hg : (getObj m).run Try.prog w = .ok (.map es c) w := by simp [getObj, Sem.run, hm]
  have hs : ∀ o n, (setObj m o).run Try.prog { w with drawn := n } = .ok () { w with drawn := n, heap := w.heap.setIfInBounds m o } := fun o n => by simp [setObj, Sem.run, hm]
  obtain ⟨n1, rfl⟩ := d1
  rcases h2 with rfl | ⟨j, rfl⟩
  · refine ⟨es.push { key := keyV a n, val := .agg #[], born := c }, c + 1, n1, by simp [Instr.mapUpdate, run_underlying Try.underlying80, hg, hc', h1, hs], fun u ha h e he => ?_⟩
    simp only [Array.toList_push, List.mem_append, List.mem_singleton] at he
    rcases he with he | rfl
    · exact h e he
    · exact ⟨a, n, rfl, ha, rfl⟩
  · obtain ⟨k, w2, hk, d2, hkk⟩ := run_stays { w with drawn := n1 } (((es[j]?).map (·.key)).getD (keyV a n)) (keyV a n)
    obtain ⟨n2, rfl⟩ := d2
    have hk' : ∀ u, Nfz u a → KeysW u es.toList → ∃ a' n', k = keyV a' n' ∧ Nfz u a' := by
      intro u ha h
      rcases hkk with rfl | rfl
      · exact ⟨a, n, rfl, ha⟩
      · cases hj : es[j]? with
        | none => exact ⟨a, n, rfl, ha⟩
        | some e =>
          obtain ⟨a', n', h3, h4, _⟩ := h e (by rw [← Array.getElem?_toList] at hj; exact List.mem_of_getElem? hj)
          exact ⟨a', n', by simp [h3], h4⟩
    refine ⟨es.modify j fun e => { e with key := k, val := .agg #[] }, c, n2, by simp [Instr.mapUpdate, run_underlying Try.underlying80, hg, hc', h1, hk, hs], fun u ha h e he => ?_⟩
    obtain ⟨a', n', e1, e2⟩ := hk' u ha h
    obtain ⟨i, hi⟩ := List.mem_iff_getElem?.1 he
    rw [Array.getElem?_toList, Array.getElem?_modify] at hi
    split at hi
    · obtain ⟨e0, _, rfl⟩ := Option.map_eq_some_iff.1 hi
      exact ⟨a', n', e1, e2, rfl⟩
    · exact h e (by rw [← Array.getElem?_toList] at hi; exact List.mem_of_getElem? hi)
end Go.Proofs.Ytnhoehiaphdomaa
