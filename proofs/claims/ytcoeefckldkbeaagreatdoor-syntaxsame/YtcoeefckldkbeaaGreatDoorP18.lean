/- Layer 6: the reader's item that is a pair. -/
import Derived.Test.YtcoeefckldkbeaaGreatDoorP17
import Derived.Test.YtcoeefckldkbeaaGreatDoorP4
namespace Go.Proofs.YtcoeefckldkbeaaGreatDoor
open Go Go.RowKit

theorem Tryz.infoTwo : (Tryz.prog.info? 124).map (fun i => (i.zero, i.size, i.bytes)) = some (some (.agg #[.int .i64 0, .int .i64 0]), 2, 16) := by kernel_rfl
theorem run_pair1 (a b : Int) (w : World) : (Instr.buildSlice 106 1 #[(0, .agg #[.int .i64 a, .int .i64 b])]).run Tryz.prog w = .ok (.slice (some ⟨w.heap.size, 0, none⟩) 1 1) (w.alloc (.cells #[.int .i64 a, .int .i64 b] 124)) := by
  obtain ⟨i0, hi, hz0, hz1, hz2⟩ := info_parts Tryz.infoTwo
  simp [Instr.buildSlice, run_underlying Tryz.underlying106, sizeOf, typeInfo, hi, hz0, hz1, zeroValue, newRow, Value.cells, Instr.fill]
  kernel_rfl
theorem run_two (a b : Int) (w : World) : (Instr.build 124 #[(0, .int .i64 a), (1, .int .i64 b)]).run Tryz.prog w = .ok (.agg #[.int .i64 a, .int .i64 b]) w := by kernel_rfl
theorem wp_buildS {o : Oper} {a : Act} {w w' : World} {v : Value} {K : Act → World → Prop} {Q : Exit → Act → World → Prop} (t : TypeId) (parts : Array (Nat × Operand)) (ho : o.op = .build t parts) (vals : Array (Nat × Value)) (hv : (parts.map fun (i, x) => (i, a.eval x)) = vals)
    (hs : (Instr.build t vals).run Tryz.prog w = .ok v w') (h : K (a.put o.dst v) w') : o.wp Tryz.prog a w K Q := by
  subst hv
  unfold Oper.wp execOp
  simp only [ho, Sem.run_bind, hs, Result.andThen_ok, Sem.run_pure]
  exact h
theorem wp_sliceS {o : Oper} {a : Act} {w w' : World} {v : Value} {K : Act → World → Prop} {Q : Exit → Act → World → Prop} (t : TypeId) (n : Nat) (parts : Array (Nat × Operand)) (ho : o.op = .buildSlice t n parts) (vals : Array (Nat × Value)) (hv : (parts.map fun (i, x) => (i, a.eval x)) = vals)
    (hs : (Instr.buildSlice t n vals).run Tryz.prog w = .ok v w') (h : K (a.put o.dst v) w') : o.wp Tryz.prog a w K Q := by
  subst hv
  unfold Oper.wp execOp
  simp only [ho, Sem.run_bind, hs, Result.andThen_ok, Sem.run_pure]
  exact h
set_option maxRecDepth 100000 in
set_option maxHeartbeats 8000000 in
theorem rItem_lt {w wr : World} {p q : Nat} {t t2 t3 : Tq} {ts : List Tq} {L : Int} {x y : Value} {ns : List ByteArray} {ps : List (Int × Int)} {nv pv : Value} (h : Od w wr p q (t :: t2 :: t3 :: ts) L x y ns ps nv pv) (hn : ns.length ≤ 1000) (hpn : ps.length ≤ 1000) (hk : t.k = 1) (hk3 : t3.k = 1) (hs2 : (t2.s.toList == (⟨#[60]⟩ : ByteArray).toList) = true)
    (i j : Nat) (zi zj : ByteArray) (hi1 : ns[i]? = some zi) (hi2 : (t.s.toList == zi.toList) = true) (hi3 : ∀ k y, k < i → ns[k]? = some y → (t.s.toList == y.toList) = false) (hj1 : ns[j]? = some zj) (hj2 : (t3.s.toList == zj.toList) = true) (hj3 : ∀ k y, k < j → ns[k]? = some y → (t3.s.toList == y.toList) = false) :
    Calls Tryz.prog 52 #[.pointer (some ⟨p, 0, none⟩), .pointer (some ⟨q, 0, none⟩)] wr fun e w' => e = .returned (.tuple #[]) ∧ ∃ pv', Od w w' p q ts L x y ns (ps ++ [((i : Int), (j : Int))]) nv pv' := by
  have hN := rName_any t _ L x y p wr h.r hk
  go_enter Tryz.func52, Tryz.ntmps52
  go_wp2_with fail
  refine hN.mono ?_
  rintro _ w1 ⟨rfl, hR, hg⟩
  have hB := oLabel_old (h.move hR hg) hn t.s zi i hi1 hi2 hi3
  clear hN hR hg h hi1 hi2 hi3
  go_wp2_with fail
  refine hB.mono ?_
  rintro _ w2 ⟨rfl, h2⟩
  have hS := rSkip_yes ⟨#[60]⟩ t2 (t3 :: ts) L x y p w2 h2.r hs2
  have HO : Hid (Od w w2 p q (t2 :: t3 :: ts) L x y ns ps nv pv) := h2
  clear hB h2
  go_wp2_with fail
  refine hS.mono ?_
  rintro _ w3 ⟨rfl, hR, hg⟩
  have HO3 : Hid (Od w w3 p q (t3 :: ts) L x y ns ps nv pv) := HO.out.move hR hg
  have HJ : Hid ((t3.k = 1 ∧ ns.length ≤ 1000 ∧ ps.length ≤ 1000) ∧ ns[j]? = some zj ∧ (t3.s.toList == zj.toList) = true ∧ ∀ k y, k < j → ns[k]? = some y → (t3.s.toList == y.toList) = false) := ⟨⟨hk3, hn, hpn⟩, hj1, hj2, hj3⟩
  clear hS HO hR hg hj1 hj2 hj3 hk3 hn hpn hk hs2
  go_upto_region 2 with fail
  refine wp_region_held_drew (S := fun _ : World => True) (by kernel_rfl) trivial (fun _ => ?_)
  have HO4 : Hid (Od w w3.drew p q (t3 :: ts) L x y ns ps nv pv) := HO3.out.kept (Below.refl _ _).drew
  clear HO3
  generalize w3.drew = w4 at *
  refine wpAnyH_take (i := 0) (v := (.pointer (some ⟨q, 0, none⟩))) rfl (by kernel_rfl) (by kernel_rfl) (by kernel_rfl) (fun _ _ _ h => h) (Or.inl ⟨by kernel_rfl, ?_⟩) trivial ?_
  · intro u _
    go_simp
  simp only [Act.put]
  refine wpAnyH_take (i := 1) (v := (.pointer (some ⟨q, 0, none⟩))) rfl (by kernel_rfl) (by kernel_rfl) (by kernel_rfl) (fun _ _ _ h => h) (Or.inl ⟨by kernel_rfl, ?_⟩) trivial ?_
  · intro u _
    go_simp
  simp only [Act.put]
  refine wpAnyH_take (i := 2) (v := (.pointer (some ⟨q, 0, none⟩))) rfl (by kernel_rfl) (by kernel_rfl) (by kernel_rfl) (fun _ _ _ h => h) (Or.inl ⟨by kernel_rfl, ?_⟩) trivial ?_
  · intro u _
    go_simp
  simp only [Act.put]
  refine wpAnyH_take (i := 3) (v := (.pointer (some ⟨q, 1, none⟩))) rfl (by kernel_rfl) (by kernel_rfl) (by kernel_rfl) (fun _ _ _ h => h) (Or.inl ⟨by kernel_rfl, ?_⟩) trivial ?_
  · intro u _
    go_simp
  simp only [Act.put]
  refine wpAnyH_take (i := 5) (v := (.int .i64 i)) rfl (by kernel_rfl) (by kernel_rfl) (by kernel_rfl) (fun _ _ _ h => h) (Or.inl ⟨by kernel_rfl, ?_⟩) trivial ?_
  · intro u _
    go_simp
  simp only [Act.put]
  refine wpAnyH_take (i := 6) (v := (.pointer (some ⟨q, 0, none⟩))) rfl (by kernel_rfl) (by kernel_rfl) (by kernel_rfl) (fun _ _ _ h => h) (Or.inl ⟨by kernel_rfl, ?_⟩) trivial ?_
  · intro u _
    go_simp
  simp only [Act.put]
  refine wpAnyH_take (i := 7) (v := (.pointer (some ⟨p, 0, none⟩))) rfl (by kernel_rfl) (by kernel_rfl) (by kernel_rfl) (fun _ _ _ h => h) (Or.inl ⟨by kernel_rfl, ?_⟩) trivial ?_
  · intro u _
    go_simp
  simp only [Act.put]
  refine wpAnyH_ready (rs := [4, 8]) (by kernel_rfl) (by simp) ?_
  refine AllReadyH.cons rfl (fun K hK => ?_) (AllReadyH.cons rfl (fun K hK => ?_) AllReadyH.nil)
  · rw [if_pos (by rfl)]
    have c1 := HO4.out.o.cell 1 rfl
    go_simp
    refine hK.out _ _ trivial (fun _ => ?_)
    clear hK K c1
    refine wpAnyH_ready (rs := [8]) (by kernel_rfl) (by simp) ?_
    refine AllReadyH.cons rfl (fun K hK => ?_) AllReadyH.nil
    rw [if_pos (by rfl)]
    have hN := rName_any t3 ts L x y p w4 HO4.out.r HJ.out.1.1
    go_simp
    refine hN.mono ?_
    rintro _ w5 ⟨rfl, hR, hg⟩
    have HO5 : Hid (Od w w5 p q ts L x y ns ps nv pv) := HO4.out.move hR hg
    refine hK.out _ _ trivial (fun _ => ?_)
    clear hK K hN hR hg HO4
    refine wpAnyH_ready (rs := [9]) (by kernel_rfl) (by simp) ?_
    refine AllReadyH.cons rfl (fun K hK => ?_) AllReadyH.nil
    rw [if_pos (by rfl)]
    have hB := oLabel_old HO5.out HJ.out.1.2.1 t3.s zj j HJ.out.2.1 HJ.out.2.2.1 HJ.out.2.2.2
    go_simp
    refine hB.mono ?_
    rintro _ w6 ⟨rfl, h6⟩
    have HO6 : Hid (Od w w6 p q ts L x y ns ps nv pv) := h6
    refine hK.out _ _ trivial (fun _ => ?_)
    clear hK K hB h6 HO5
    refine wpAnyH_ready (rs := [10]) (by kernel_rfl) (by simp) ?_
    refine AllReadyH.cons rfl (fun K hK => ?_) AllReadyH.nil
    rw [if_pos (by rfl)]
    refine wp_buildS 124 #[(0, .tmp 16), (1, .tmp 20)] rfl _ (by kernel_rfl) (run_two i j _) ?_
    refine hK.out _ _ trivial (fun _ => ?_)
    clear hK K
    simp only [Act.put]
    refine wpAnyH_ready (rs := [11]) (by kernel_rfl) (by simp) ?_
    refine AllReadyH.cons rfl (fun K hK => ?_) AllReadyH.nil
    rw [if_pos (by rfl)]
    refine wp_sliceS 106 1 #[(0, .tmp 21)] rfl #[(0, .agg #[.int .i64 i, .int .i64 j])] (by kernel_rfl) (run_pair1 i j w6) ?_
    have HO7 : Hid (Od w (w6.alloc (.cells #[.int .i64 i, .int .i64 j] 124)) p q ts L x y ns ps nv pv) := HO6.out.kept (below_alloc _ _)
    have hnew := heap_alloc_new w6 (.cells #[.int .i64 i, .int .i64 j] 124)
    have ez : (w6.alloc (.cells #[.int .i64 i, .int .i64 j] 124)).heap.size = w6.heap.size + 1 := alloc_size _ _
    refine hK.out _ _ trivial (fun _ => ?_)
    clear hK K HO6
    simp only [Act.put]
    refine wpAnyH_ready (rs := [12]) (by kernel_rfl) (by simp) ?_
    refine AllReadyH.cons rfl (fun K hK => ?_) AllReadyH.nil
    rw [if_pos (by rfl)]
    obtain ⟨i1, hi1, hz0, hz1, hz2⟩ := info_parts Tryz.infoTwo
    have hpo := HO7.out.po
    have hbb : q + 1 ≤ (w6.alloc (.cells #[.int .i64 i, .int .i64 j] 124)).heap.size := by have := HO7.out.o.lt; omega
    have hpl := HJ.out.1.2.2
    refine wp_append_lies _ (.tmp 15) (.tmp 22) 106 rfl (q + 1) 124 i1 _ 2 16 Tryz.underlying106 hi1 hz0 hz1 hz2 rfl (by decide) pv ps.length (ps.flatMap fun z => [.int .i64 z.1, .int .i64 z.2]) (by kernel_rfl) hpo ⟨w6.heap.size, 0, none⟩ 1 1 [.int .i64 i, .int .i64 j] (by kernel_rfl) rfl (World.news_of_block (cs := #[.int .i64 i, .int .i64 j]) (t := 124) (fr := (0, 0)) hnew) (by intro x hx; simp at hx; rcases hx with rfl | rfl <;> rfl) (by omega) (by unfold maxLen; omega) (by omega) hbb (w6.heap.size + 1) ez ?_
    intro gg cap3 w8 hown8 hgrow hat hltg
    have hqk : w8.heap[q]? = (w6.alloc (.cells #[.int .i64 i, .int .i64 j] 124)).heap[q]? := hgrow.block q HO7.out.o.lt (fun e => by have := (so_ge hpo e.symm).1; omega)
    have hlow : Below (q + 1) (w6.alloc (.cells #[.int .i64 i, .int .i64 j] 124)) w8 := ⟨hgrow.os, hgrow.tape, hgrow.output, hgrow.size, fun k hk => hgrow.block k (by have := HO7.out.o.lt; omega) (fun e => by have := (so_ge hpo e.symm).1; omega)⟩
    have o8 : Blk w8 q [nv, pv] 108 := by unfold Blk; rw [hqk]; exact HO7.out.o
    have HQ : Hid (Od w (w8.setCell ⟨q, 1, none⟩ (.slice (some ⟨gg, 0, none⟩) (ps.length + 1) cap3)) p q ts L x y ns (ps ++ [((i : Int), (j : Int))]) nv (.slice (some ⟨gg, 0, none⟩) (ps.length + 1) cap3)) := by
      have k1 : Below w.heap.size (w6.alloc (.cells #[.int .i64 i, .int .i64 j] 124)) (w8.setCell ⟨q, 1, none⟩ (.slice (some ⟨gg, 0, none⟩) (ps.length + 1) cap3)) := (hlow.mono (by have := HO7.out.hq; omega)).setCell HO7.out.hq _
      refine ⟨HO7.out.r.below HO7.out.hp k1, gb_below HO7.out.gb k1, HO7.out.hp, HO7.out.hq, o8.set 1 _, ?_, ?_⟩
      · have hno := HO7.out.no
        have hn8 : w8.ownsRow (q + 1) 9 1 nv ns.length (ns.map .string) := so_blk hno fun b hb => hgrow.block b (so_ge hno hb).2.1 (so_apart hno hpo (by decide) hb)
        exact so_blk hn8 fun b hb => Below.heap_setCell _ _ _ _ (by have := (so_ge hn8 hb).1; show b ≠ q; omega)
      · have : w8.ownsRow (q + 1) 124 2 (.slice (some ⟨gg, 0, none⟩) (ps.length + 1) cap3) (ps ++ [((i : Int), (j : Int))]).length ((ps ++ [((i : Int), (j : Int))]).flatMap fun z => [.int .i64 z.1, .int .i64 z.2]) := by simpa using hown8
        exact so_blk this fun b hb => Below.heap_setCell _ _ _ _ (by have := (so_ge this hb).1; show b ≠ q; omega)
    have d8 := o8.cell 1 rfl
    have f8 := o8.frozen 1
    refine hK.out _ _ trivial (fun _ => ?_)
    clear hK K hown8 hgrow hat hltg hqk hlow o8 HO7 hnew hpo hbb ez
    simp only [Act.put]
    refine wpAnyH_ready (rs := [13]) (by kernel_rfl) (by simp) ?_
    refine AllReadyH.cons rfl (fun K hK => ?_) AllReadyH.nil
    rw [if_pos (by rfl)]
    go_simp
    refine hK.out _ _ trivial (fun _ => ?_)
    clear hK K
    refine wpAnyH_ready (rs := [14]) (by kernel_rfl) (by simp) ?_
    refine AllReadyH.cons rfl (fun K hK => ?_) AllReadyH.nil
    rw [if_pos (by rfl)]
    go_simp
    refine hK.out _ _ trivial (fun _ => ?_)
    clear hK K
    refine wpAnyH_ready (rs := [15]) (by kernel_rfl) (by simp) ?_
    refine AllReadyH.cons rfl (fun K hK => ?_) AllReadyH.nil
    rw [if_pos (by rfl)]
    go_simp
    refine hK.out _ _ trivial (fun _ => ?_)
    clear hK K d8 f8
    refine wpAnyH_done (by kernel_rfl) ?_ _
    go_wp2
    go_end0
    exact ⟨rfl, _, HQ.out⟩
  · rw [if_pos (by rfl)]
    have hN := rName_any t3 ts L x y p w4 HO4.out.r HJ.out.1.1
    go_simp
    refine hN.mono ?_
    rintro _ w5 ⟨rfl, hR, hg⟩
    have HO5 : Hid (Od w w5 p q ts L x y ns ps nv pv) := HO4.out.move hR hg
    refine hK.out _ _ trivial (fun _ => ?_)
    clear hK K hN hR hg HO4
    refine wpAnyH_ready (rs := [4, 9]) (by kernel_rfl) (by simp) ?_
    refine AllReadyH.cons rfl (fun K hK => ?_) (AllReadyH.cons rfl (fun K hK => ?_) AllReadyH.nil)
    · rw [if_pos (by rfl)]
      have c1 := HO5.out.o.cell 1 rfl
      go_simp
      refine hK.out _ _ trivial (fun _ => ?_)
      clear hK K c1
      refine wpAnyH_ready (rs := [9]) (by kernel_rfl) (by simp) ?_
      refine AllReadyH.cons rfl (fun K hK => ?_) AllReadyH.nil
      rw [if_pos (by rfl)]
      have hB := oLabel_old HO5.out HJ.out.1.2.1 t3.s zj j HJ.out.2.1 HJ.out.2.2.1 HJ.out.2.2.2
      go_simp
      refine hB.mono ?_
      rintro _ w6 ⟨rfl, h6⟩
      have HO6 : Hid (Od w w6 p q ts L x y ns ps nv pv) := h6
      refine hK.out _ _ trivial (fun _ => ?_)
      clear hK K hB h6 HO5
      refine wpAnyH_ready (rs := [10]) (by kernel_rfl) (by simp) ?_
      refine AllReadyH.cons rfl (fun K hK => ?_) AllReadyH.nil
      rw [if_pos (by rfl)]
      refine wp_buildS 124 #[(0, .tmp 16), (1, .tmp 20)] rfl _ (by kernel_rfl) (run_two i j _) ?_
      refine hK.out _ _ trivial (fun _ => ?_)
      clear hK K
      simp only [Act.put]
      refine wpAnyH_ready (rs := [11]) (by kernel_rfl) (by simp) ?_
      refine AllReadyH.cons rfl (fun K hK => ?_) AllReadyH.nil
      rw [if_pos (by rfl)]
      refine wp_sliceS 106 1 #[(0, .tmp 21)] rfl #[(0, .agg #[.int .i64 i, .int .i64 j])] (by kernel_rfl) (run_pair1 i j w6) ?_
      have HO7 : Hid (Od w (w6.alloc (.cells #[.int .i64 i, .int .i64 j] 124)) p q ts L x y ns ps nv pv) := HO6.out.kept (below_alloc _ _)
      have hnew := heap_alloc_new w6 (.cells #[.int .i64 i, .int .i64 j] 124)
      have ez : (w6.alloc (.cells #[.int .i64 i, .int .i64 j] 124)).heap.size = w6.heap.size + 1 := alloc_size _ _
      refine hK.out _ _ trivial (fun _ => ?_)
      clear hK K HO6
      simp only [Act.put]
      refine wpAnyH_ready (rs := [12]) (by kernel_rfl) (by simp) ?_
      refine AllReadyH.cons rfl (fun K hK => ?_) AllReadyH.nil
      rw [if_pos (by rfl)]
      obtain ⟨i1, hi1, hz0, hz1, hz2⟩ := info_parts Tryz.infoTwo
      have hpo := HO7.out.po
      have hbb : q + 1 ≤ (w6.alloc (.cells #[.int .i64 i, .int .i64 j] 124)).heap.size := by have := HO7.out.o.lt; omega
      have hpl := HJ.out.1.2.2
      refine wp_append_lies _ (.tmp 15) (.tmp 22) 106 rfl (q + 1) 124 i1 _ 2 16 Tryz.underlying106 hi1 hz0 hz1 hz2 rfl (by decide) pv ps.length (ps.flatMap fun z => [.int .i64 z.1, .int .i64 z.2]) (by kernel_rfl) hpo ⟨w6.heap.size, 0, none⟩ 1 1 [.int .i64 i, .int .i64 j] (by kernel_rfl) rfl (World.news_of_block (cs := #[.int .i64 i, .int .i64 j]) (t := 124) (fr := (0, 0)) hnew) (by intro x hx; simp at hx; rcases hx with rfl | rfl <;> rfl) (by omega) (by unfold maxLen; omega) (by omega) hbb (w6.heap.size + 1) ez ?_
      intro gg cap3 w8 hown8 hgrow hat hltg
      have hqk : w8.heap[q]? = (w6.alloc (.cells #[.int .i64 i, .int .i64 j] 124)).heap[q]? := hgrow.block q HO7.out.o.lt (fun e => by have := (so_ge hpo e.symm).1; omega)
      have hlow : Below (q + 1) (w6.alloc (.cells #[.int .i64 i, .int .i64 j] 124)) w8 := ⟨hgrow.os, hgrow.tape, hgrow.output, hgrow.size, fun k hk => hgrow.block k (by have := HO7.out.o.lt; omega) (fun e => by have := (so_ge hpo e.symm).1; omega)⟩
      have o8 : Blk w8 q [nv, pv] 108 := by unfold Blk; rw [hqk]; exact HO7.out.o
      have HQ : Hid (Od w (w8.setCell ⟨q, 1, none⟩ (.slice (some ⟨gg, 0, none⟩) (ps.length + 1) cap3)) p q ts L x y ns (ps ++ [((i : Int), (j : Int))]) nv (.slice (some ⟨gg, 0, none⟩) (ps.length + 1) cap3)) := by
        have k1 : Below w.heap.size (w6.alloc (.cells #[.int .i64 i, .int .i64 j] 124)) (w8.setCell ⟨q, 1, none⟩ (.slice (some ⟨gg, 0, none⟩) (ps.length + 1) cap3)) := (hlow.mono (by have := HO7.out.hq; omega)).setCell HO7.out.hq _
        refine ⟨HO7.out.r.below HO7.out.hp k1, gb_below HO7.out.gb k1, HO7.out.hp, HO7.out.hq, o8.set 1 _, ?_, ?_⟩
        · have hno := HO7.out.no
          have hn8 : w8.ownsRow (q + 1) 9 1 nv ns.length (ns.map .string) := so_blk hno fun b hb => hgrow.block b (so_ge hno hb).2.1 (so_apart hno hpo (by decide) hb)
          exact so_blk hn8 fun b hb => Below.heap_setCell _ _ _ _ (by have := (so_ge hn8 hb).1; show b ≠ q; omega)
        · have : w8.ownsRow (q + 1) 124 2 (.slice (some ⟨gg, 0, none⟩) (ps.length + 1) cap3) (ps ++ [((i : Int), (j : Int))]).length ((ps ++ [((i : Int), (j : Int))]).flatMap fun z => [.int .i64 z.1, .int .i64 z.2]) := by simpa using hown8
          exact so_blk this fun b hb => Below.heap_setCell _ _ _ _ (by have := (so_ge this hb).1; show b ≠ q; omega)
      have d8 := o8.cell 1 rfl
      have f8 := o8.frozen 1
      refine hK.out _ _ trivial (fun _ => ?_)
      clear hK K hown8 hgrow hat hltg hqk hlow o8 HO7 hnew hpo hbb ez
      simp only [Act.put]
      refine wpAnyH_ready (rs := [13]) (by kernel_rfl) (by simp) ?_
      refine AllReadyH.cons rfl (fun K hK => ?_) AllReadyH.nil
      rw [if_pos (by rfl)]
      go_simp
      refine hK.out _ _ trivial (fun _ => ?_)
      clear hK K
      refine wpAnyH_ready (rs := [14]) (by kernel_rfl) (by simp) ?_
      refine AllReadyH.cons rfl (fun K hK => ?_) AllReadyH.nil
      rw [if_pos (by rfl)]
      go_simp
      refine hK.out _ _ trivial (fun _ => ?_)
      clear hK K
      refine wpAnyH_ready (rs := [15]) (by kernel_rfl) (by simp) ?_
      refine AllReadyH.cons rfl (fun K hK => ?_) AllReadyH.nil
      rw [if_pos (by rfl)]
      go_simp
      refine hK.out _ _ trivial (fun _ => ?_)
      clear hK K d8 f8
      refine wpAnyH_done (by kernel_rfl) ?_ _
      go_wp2
      go_end0
      exact ⟨rfl, _, HQ.out⟩
    · rw [if_pos (by rfl)]
      have hB := oLabel_old HO5.out HJ.out.1.2.1 t3.s zj j HJ.out.2.1 HJ.out.2.2.1 HJ.out.2.2.2
      go_simp
      refine hB.mono ?_
      rintro _ w6 ⟨rfl, h6⟩
      have HO6 : Hid (Od w w6 p q ts L x y ns ps nv pv) := h6
      refine hK.out _ _ trivial (fun _ => ?_)
      clear hK K hB h6 HO5
      refine wpAnyH_ready (rs := [4, 10]) (by kernel_rfl) (by simp) ?_
      refine AllReadyH.cons rfl (fun K hK => ?_) (AllReadyH.cons rfl (fun K hK => ?_) AllReadyH.nil)
      · rw [if_pos (by rfl)]
        have c1 := HO6.out.o.cell 1 rfl
        go_simp
        refine hK.out _ _ trivial (fun _ => ?_)
        clear hK K c1
        refine wpAnyH_ready (rs := [10]) (by kernel_rfl) (by simp) ?_
        refine AllReadyH.cons rfl (fun K hK => ?_) AllReadyH.nil
        rw [if_pos (by rfl)]
        refine wp_buildS 124 #[(0, .tmp 16), (1, .tmp 20)] rfl _ (by kernel_rfl) (run_two i j _) ?_
        refine hK.out _ _ trivial (fun _ => ?_)
        clear hK K
        simp only [Act.put]
        refine wpAnyH_ready (rs := [11]) (by kernel_rfl) (by simp) ?_
        refine AllReadyH.cons rfl (fun K hK => ?_) AllReadyH.nil
        rw [if_pos (by rfl)]
        refine wp_sliceS 106 1 #[(0, .tmp 21)] rfl #[(0, .agg #[.int .i64 i, .int .i64 j])] (by kernel_rfl) (run_pair1 i j w6) ?_
        have HO7 : Hid (Od w (w6.alloc (.cells #[.int .i64 i, .int .i64 j] 124)) p q ts L x y ns ps nv pv) := HO6.out.kept (below_alloc _ _)
        have hnew := heap_alloc_new w6 (.cells #[.int .i64 i, .int .i64 j] 124)
        have ez : (w6.alloc (.cells #[.int .i64 i, .int .i64 j] 124)).heap.size = w6.heap.size + 1 := alloc_size _ _
        refine hK.out _ _ trivial (fun _ => ?_)
        clear hK K HO6
        simp only [Act.put]
        refine wpAnyH_ready (rs := [12]) (by kernel_rfl) (by simp) ?_
        refine AllReadyH.cons rfl (fun K hK => ?_) AllReadyH.nil
        rw [if_pos (by rfl)]
        obtain ⟨i1, hi1, hz0, hz1, hz2⟩ := info_parts Tryz.infoTwo
        have hpo := HO7.out.po
        have hbb : q + 1 ≤ (w6.alloc (.cells #[.int .i64 i, .int .i64 j] 124)).heap.size := by have := HO7.out.o.lt; omega
        have hpl := HJ.out.1.2.2
        refine wp_append_lies _ (.tmp 15) (.tmp 22) 106 rfl (q + 1) 124 i1 _ 2 16 Tryz.underlying106 hi1 hz0 hz1 hz2 rfl (by decide) pv ps.length (ps.flatMap fun z => [.int .i64 z.1, .int .i64 z.2]) (by kernel_rfl) hpo ⟨w6.heap.size, 0, none⟩ 1 1 [.int .i64 i, .int .i64 j] (by kernel_rfl) rfl (World.news_of_block (cs := #[.int .i64 i, .int .i64 j]) (t := 124) (fr := (0, 0)) hnew) (by intro x hx; simp at hx; rcases hx with rfl | rfl <;> rfl) (by omega) (by unfold maxLen; omega) (by omega) hbb (w6.heap.size + 1) ez ?_
        intro gg cap3 w8 hown8 hgrow hat hltg
        have hqk : w8.heap[q]? = (w6.alloc (.cells #[.int .i64 i, .int .i64 j] 124)).heap[q]? := hgrow.block q HO7.out.o.lt (fun e => by have := (so_ge hpo e.symm).1; omega)
        have hlow : Below (q + 1) (w6.alloc (.cells #[.int .i64 i, .int .i64 j] 124)) w8 := ⟨hgrow.os, hgrow.tape, hgrow.output, hgrow.size, fun k hk => hgrow.block k (by have := HO7.out.o.lt; omega) (fun e => by have := (so_ge hpo e.symm).1; omega)⟩
        have o8 : Blk w8 q [nv, pv] 108 := by unfold Blk; rw [hqk]; exact HO7.out.o
        have HQ : Hid (Od w (w8.setCell ⟨q, 1, none⟩ (.slice (some ⟨gg, 0, none⟩) (ps.length + 1) cap3)) p q ts L x y ns (ps ++ [((i : Int), (j : Int))]) nv (.slice (some ⟨gg, 0, none⟩) (ps.length + 1) cap3)) := by
          have k1 : Below w.heap.size (w6.alloc (.cells #[.int .i64 i, .int .i64 j] 124)) (w8.setCell ⟨q, 1, none⟩ (.slice (some ⟨gg, 0, none⟩) (ps.length + 1) cap3)) := (hlow.mono (by have := HO7.out.hq; omega)).setCell HO7.out.hq _
          refine ⟨HO7.out.r.below HO7.out.hp k1, gb_below HO7.out.gb k1, HO7.out.hp, HO7.out.hq, o8.set 1 _, ?_, ?_⟩
          · have hno := HO7.out.no
            have hn8 : w8.ownsRow (q + 1) 9 1 nv ns.length (ns.map .string) := so_blk hno fun b hb => hgrow.block b (so_ge hno hb).2.1 (so_apart hno hpo (by decide) hb)
            exact so_blk hn8 fun b hb => Below.heap_setCell _ _ _ _ (by have := (so_ge hn8 hb).1; show b ≠ q; omega)
          · have : w8.ownsRow (q + 1) 124 2 (.slice (some ⟨gg, 0, none⟩) (ps.length + 1) cap3) (ps ++ [((i : Int), (j : Int))]).length ((ps ++ [((i : Int), (j : Int))]).flatMap fun z => [.int .i64 z.1, .int .i64 z.2]) := by simpa using hown8
            exact so_blk this fun b hb => Below.heap_setCell _ _ _ _ (by have := (so_ge this hb).1; show b ≠ q; omega)
        have d8 := o8.cell 1 rfl
        have f8 := o8.frozen 1
        refine hK.out _ _ trivial (fun _ => ?_)
        clear hK K hown8 hgrow hat hltg hqk hlow o8 HO7 hnew hpo hbb ez
        simp only [Act.put]
        refine wpAnyH_ready (rs := [13]) (by kernel_rfl) (by simp) ?_
        refine AllReadyH.cons rfl (fun K hK => ?_) AllReadyH.nil
        rw [if_pos (by rfl)]
        go_simp
        refine hK.out _ _ trivial (fun _ => ?_)
        clear hK K
        refine wpAnyH_ready (rs := [14]) (by kernel_rfl) (by simp) ?_
        refine AllReadyH.cons rfl (fun K hK => ?_) AllReadyH.nil
        rw [if_pos (by rfl)]
        go_simp
        refine hK.out _ _ trivial (fun _ => ?_)
        clear hK K
        refine wpAnyH_ready (rs := [15]) (by kernel_rfl) (by simp) ?_
        refine AllReadyH.cons rfl (fun K hK => ?_) AllReadyH.nil
        rw [if_pos (by rfl)]
        go_simp
        refine hK.out _ _ trivial (fun _ => ?_)
        clear hK K d8 f8
        refine wpAnyH_done (by kernel_rfl) ?_ _
        go_wp2
        go_end0
        exact ⟨rfl, _, HQ.out⟩
      · rw [if_pos (by rfl)]
        refine wp_buildS 124 #[(0, .tmp 16), (1, .tmp 20)] rfl _ (by kernel_rfl) (run_two i j _) ?_
        refine hK.out _ _ trivial (fun _ => ?_)
        clear hK K
        simp only [Act.put]
        refine wpAnyH_ready (rs := [4, 11]) (by kernel_rfl) (by simp) ?_
        refine AllReadyH.cons rfl (fun K hK => ?_) (AllReadyH.cons rfl (fun K hK => ?_) AllReadyH.nil)
        · rw [if_pos (by rfl)]
          have c1 := HO6.out.o.cell 1 rfl
          go_simp
          refine hK.out _ _ trivial (fun _ => ?_)
          clear hK K c1
          refine wpAnyH_ready (rs := [11]) (by kernel_rfl) (by simp) ?_
          refine AllReadyH.cons rfl (fun K hK => ?_) AllReadyH.nil
          rw [if_pos (by rfl)]
          refine wp_sliceS 106 1 #[(0, .tmp 21)] rfl #[(0, .agg #[.int .i64 i, .int .i64 j])] (by kernel_rfl) (run_pair1 i j w6) ?_
          have HO7 : Hid (Od w (w6.alloc (.cells #[.int .i64 i, .int .i64 j] 124)) p q ts L x y ns ps nv pv) := HO6.out.kept (below_alloc _ _)
          have hnew := heap_alloc_new w6 (.cells #[.int .i64 i, .int .i64 j] 124)
          have ez : (w6.alloc (.cells #[.int .i64 i, .int .i64 j] 124)).heap.size = w6.heap.size + 1 := alloc_size _ _
          refine hK.out _ _ trivial (fun _ => ?_)
          clear hK K HO6
          simp only [Act.put]
          refine wpAnyH_ready (rs := [12]) (by kernel_rfl) (by simp) ?_
          refine AllReadyH.cons rfl (fun K hK => ?_) AllReadyH.nil
          rw [if_pos (by rfl)]
          obtain ⟨i1, hi1, hz0, hz1, hz2⟩ := info_parts Tryz.infoTwo
          have hpo := HO7.out.po
          have hbb : q + 1 ≤ (w6.alloc (.cells #[.int .i64 i, .int .i64 j] 124)).heap.size := by have := HO7.out.o.lt; omega
          have hpl := HJ.out.1.2.2
          refine wp_append_lies _ (.tmp 15) (.tmp 22) 106 rfl (q + 1) 124 i1 _ 2 16 Tryz.underlying106 hi1 hz0 hz1 hz2 rfl (by decide) pv ps.length (ps.flatMap fun z => [.int .i64 z.1, .int .i64 z.2]) (by kernel_rfl) hpo ⟨w6.heap.size, 0, none⟩ 1 1 [.int .i64 i, .int .i64 j] (by kernel_rfl) rfl (World.news_of_block (cs := #[.int .i64 i, .int .i64 j]) (t := 124) (fr := (0, 0)) hnew) (by intro x hx; simp at hx; rcases hx with rfl | rfl <;> rfl) (by omega) (by unfold maxLen; omega) (by omega) hbb (w6.heap.size + 1) ez ?_
          intro gg cap3 w8 hown8 hgrow hat hltg
          have hqk : w8.heap[q]? = (w6.alloc (.cells #[.int .i64 i, .int .i64 j] 124)).heap[q]? := hgrow.block q HO7.out.o.lt (fun e => by have := (so_ge hpo e.symm).1; omega)
          have hlow : Below (q + 1) (w6.alloc (.cells #[.int .i64 i, .int .i64 j] 124)) w8 := ⟨hgrow.os, hgrow.tape, hgrow.output, hgrow.size, fun k hk => hgrow.block k (by have := HO7.out.o.lt; omega) (fun e => by have := (so_ge hpo e.symm).1; omega)⟩
          have o8 : Blk w8 q [nv, pv] 108 := by unfold Blk; rw [hqk]; exact HO7.out.o
          have HQ : Hid (Od w (w8.setCell ⟨q, 1, none⟩ (.slice (some ⟨gg, 0, none⟩) (ps.length + 1) cap3)) p q ts L x y ns (ps ++ [((i : Int), (j : Int))]) nv (.slice (some ⟨gg, 0, none⟩) (ps.length + 1) cap3)) := by
            have k1 : Below w.heap.size (w6.alloc (.cells #[.int .i64 i, .int .i64 j] 124)) (w8.setCell ⟨q, 1, none⟩ (.slice (some ⟨gg, 0, none⟩) (ps.length + 1) cap3)) := (hlow.mono (by have := HO7.out.hq; omega)).setCell HO7.out.hq _
            refine ⟨HO7.out.r.below HO7.out.hp k1, gb_below HO7.out.gb k1, HO7.out.hp, HO7.out.hq, o8.set 1 _, ?_, ?_⟩
            · have hno := HO7.out.no
              have hn8 : w8.ownsRow (q + 1) 9 1 nv ns.length (ns.map .string) := so_blk hno fun b hb => hgrow.block b (so_ge hno hb).2.1 (so_apart hno hpo (by decide) hb)
              exact so_blk hn8 fun b hb => Below.heap_setCell _ _ _ _ (by have := (so_ge hn8 hb).1; show b ≠ q; omega)
            · have : w8.ownsRow (q + 1) 124 2 (.slice (some ⟨gg, 0, none⟩) (ps.length + 1) cap3) (ps ++ [((i : Int), (j : Int))]).length ((ps ++ [((i : Int), (j : Int))]).flatMap fun z => [.int .i64 z.1, .int .i64 z.2]) := by simpa using hown8
              exact so_blk this fun b hb => Below.heap_setCell _ _ _ _ (by have := (so_ge this hb).1; show b ≠ q; omega)
          have d8 := o8.cell 1 rfl
          have f8 := o8.frozen 1
          refine hK.out _ _ trivial (fun _ => ?_)
          clear hK K hown8 hgrow hat hltg hqk hlow o8 HO7 hnew hpo hbb ez
          simp only [Act.put]
          refine wpAnyH_ready (rs := [13]) (by kernel_rfl) (by simp) ?_
          refine AllReadyH.cons rfl (fun K hK => ?_) AllReadyH.nil
          rw [if_pos (by rfl)]
          go_simp
          refine hK.out _ _ trivial (fun _ => ?_)
          clear hK K
          refine wpAnyH_ready (rs := [14]) (by kernel_rfl) (by simp) ?_
          refine AllReadyH.cons rfl (fun K hK => ?_) AllReadyH.nil
          rw [if_pos (by rfl)]
          go_simp
          refine hK.out _ _ trivial (fun _ => ?_)
          clear hK K
          refine wpAnyH_ready (rs := [15]) (by kernel_rfl) (by simp) ?_
          refine AllReadyH.cons rfl (fun K hK => ?_) AllReadyH.nil
          rw [if_pos (by rfl)]
          go_simp
          refine hK.out _ _ trivial (fun _ => ?_)
          clear hK K d8 f8
          refine wpAnyH_done (by kernel_rfl) ?_ _
          go_wp2
          go_end0
          exact ⟨rfl, _, HQ.out⟩
        · rw [if_pos (by rfl)]
          refine wp_sliceS 106 1 #[(0, .tmp 21)] rfl #[(0, .agg #[.int .i64 i, .int .i64 j])] (by kernel_rfl) (run_pair1 i j w6) ?_
          have HO7 : Hid (Od w (w6.alloc (.cells #[.int .i64 i, .int .i64 j] 124)) p q ts L x y ns ps nv pv) := HO6.out.kept (below_alloc _ _)
          have hnew := heap_alloc_new w6 (.cells #[.int .i64 i, .int .i64 j] 124)
          have ez : (w6.alloc (.cells #[.int .i64 i, .int .i64 j] 124)).heap.size = w6.heap.size + 1 := alloc_size _ _
          refine hK.out _ _ trivial (fun _ => ?_)
          clear hK K HO6
          simp only [Act.put]
          refine wpAnyH_ready (rs := [4]) (by kernel_rfl) (by simp) ?_
          refine AllReadyH.cons rfl (fun K hK => ?_) AllReadyH.nil
          rw [if_pos (by rfl)]
          have c1 := HO7.out.o.cell 1 rfl
          go_simp
          refine hK.out _ _ trivial (fun _ => ?_)
          clear hK K c1
          refine wpAnyH_ready (rs := [12]) (by kernel_rfl) (by simp) ?_
          refine AllReadyH.cons rfl (fun K hK => ?_) AllReadyH.nil
          rw [if_pos (by rfl)]
          obtain ⟨i1, hi1, hz0, hz1, hz2⟩ := info_parts Tryz.infoTwo
          have hpo := HO7.out.po
          have hbb : q + 1 ≤ (w6.alloc (.cells #[.int .i64 i, .int .i64 j] 124)).heap.size := by have := HO7.out.o.lt; omega
          have hpl := HJ.out.1.2.2
          refine wp_append_lies _ (.tmp 15) (.tmp 22) 106 rfl (q + 1) 124 i1 _ 2 16 Tryz.underlying106 hi1 hz0 hz1 hz2 rfl (by decide) pv ps.length (ps.flatMap fun z => [.int .i64 z.1, .int .i64 z.2]) (by kernel_rfl) hpo ⟨w6.heap.size, 0, none⟩ 1 1 [.int .i64 i, .int .i64 j] (by kernel_rfl) rfl (World.news_of_block (cs := #[.int .i64 i, .int .i64 j]) (t := 124) (fr := (0, 0)) hnew) (by intro x hx; simp at hx; rcases hx with rfl | rfl <;> rfl) (by omega) (by unfold maxLen; omega) (by omega) hbb (w6.heap.size + 1) ez ?_
          intro gg cap3 w8 hown8 hgrow hat hltg
          have hqk : w8.heap[q]? = (w6.alloc (.cells #[.int .i64 i, .int .i64 j] 124)).heap[q]? := hgrow.block q HO7.out.o.lt (fun e => by have := (so_ge hpo e.symm).1; omega)
          have hlow : Below (q + 1) (w6.alloc (.cells #[.int .i64 i, .int .i64 j] 124)) w8 := ⟨hgrow.os, hgrow.tape, hgrow.output, hgrow.size, fun k hk => hgrow.block k (by have := HO7.out.o.lt; omega) (fun e => by have := (so_ge hpo e.symm).1; omega)⟩
          have o8 : Blk w8 q [nv, pv] 108 := by unfold Blk; rw [hqk]; exact HO7.out.o
          have HQ : Hid (Od w (w8.setCell ⟨q, 1, none⟩ (.slice (some ⟨gg, 0, none⟩) (ps.length + 1) cap3)) p q ts L x y ns (ps ++ [((i : Int), (j : Int))]) nv (.slice (some ⟨gg, 0, none⟩) (ps.length + 1) cap3)) := by
            have k1 : Below w.heap.size (w6.alloc (.cells #[.int .i64 i, .int .i64 j] 124)) (w8.setCell ⟨q, 1, none⟩ (.slice (some ⟨gg, 0, none⟩) (ps.length + 1) cap3)) := (hlow.mono (by have := HO7.out.hq; omega)).setCell HO7.out.hq _
            refine ⟨HO7.out.r.below HO7.out.hp k1, gb_below HO7.out.gb k1, HO7.out.hp, HO7.out.hq, o8.set 1 _, ?_, ?_⟩
            · have hno := HO7.out.no
              have hn8 : w8.ownsRow (q + 1) 9 1 nv ns.length (ns.map .string) := so_blk hno fun b hb => hgrow.block b (so_ge hno hb).2.1 (so_apart hno hpo (by decide) hb)
              exact so_blk hn8 fun b hb => Below.heap_setCell _ _ _ _ (by have := (so_ge hn8 hb).1; show b ≠ q; omega)
            · have : w8.ownsRow (q + 1) 124 2 (.slice (some ⟨gg, 0, none⟩) (ps.length + 1) cap3) (ps ++ [((i : Int), (j : Int))]).length ((ps ++ [((i : Int), (j : Int))]).flatMap fun z => [.int .i64 z.1, .int .i64 z.2]) := by simpa using hown8
              exact so_blk this fun b hb => Below.heap_setCell _ _ _ _ (by have := (so_ge this hb).1; show b ≠ q; omega)
          have d8 := o8.cell 1 rfl
          have f8 := o8.frozen 1
          refine hK.out _ _ trivial (fun _ => ?_)
          clear hK K hown8 hgrow hat hltg hqk hlow o8 HO7 hnew hpo hbb ez
          simp only [Act.put]
          refine wpAnyH_ready (rs := [13]) (by kernel_rfl) (by simp) ?_
          refine AllReadyH.cons rfl (fun K hK => ?_) AllReadyH.nil
          rw [if_pos (by rfl)]
          go_simp
          refine hK.out _ _ trivial (fun _ => ?_)
          clear hK K
          refine wpAnyH_ready (rs := [14]) (by kernel_rfl) (by simp) ?_
          refine AllReadyH.cons rfl (fun K hK => ?_) AllReadyH.nil
          rw [if_pos (by rfl)]
          go_simp
          refine hK.out _ _ trivial (fun _ => ?_)
          clear hK K
          refine wpAnyH_ready (rs := [15]) (by kernel_rfl) (by simp) ?_
          refine AllReadyH.cons rfl (fun K hK => ?_) AllReadyH.nil
          rw [if_pos (by rfl)]
          go_simp
          refine hK.out _ _ trivial (fun _ => ?_)
          clear hK K d8 f8
          refine wpAnyH_done (by kernel_rfl) ?_ _
          go_wp2
          go_end0
          exact ⟨rfl, _, HQ.out⟩
end Go.Proofs.YtcoeefckldkbeaaGreatDoor

/- Layer 6: the reader's block, of the lattice low < high. -/
namespace Go.Proofs.YtcoeefckldkbeaaGreatDoor
open Go Go.RowKit

def sLow : ByteArray := ⟨#[108, 111, 119]⟩
def sHigh : ByteArray := ⟨#[104, 105, 103, 104]⟩
def sLH (i : Nat) : ByteArray := if i = 0 then sLow else sHigh
def nLH (ao : Option Addr) (b cap : Nat) : Strs := ⟨ao, b, 0, 2, cap, sLH⟩
def pLH (ao : Option Addr) (b cap : Nat) : Prs := ⟨ao, b, 0, 1, cap, fun _ => 0, fun _ => 1⟩
theorem makeE_LH (ao ao' : Option Addr) (b b' cap cap' : Nat) : makeE (nLH ao b cap) (pLH ao' b' cap') = 0 := by
  show makeE (nLH none 0 0) (pLH none 0 0) = 0
  decide +kernel
theorem formedM_LH (ao : Option Addr) (b cap : Nat) : formedM 2 sLH (leastM (pLH ao b cap) 2) = true := by
  show formedM 2 sLH (leastM (pLH none 0 0) 2) = true
  decide +kernel
/-- The lattice low < high. -/
structure IsLH (n : Strs) (g : Grid) : Prop where
  len : n.len = 2
  s : n.s = sLH
  grid : ∃ T ao b cap, g = gridOf T 2 (leastM (pLH ao b cap) 2)
theorem IsLH.formed {n : Strs} {g : Grid} (h : IsLH n g) : formedB n g = true := by
  obtain ⟨T, ao, b, cap, rfl⟩ := h.grid
  rw [formed_canon h.len h.s]
  exact formedM_LH _ _ _
theorem IsLH.find {n : Strs} {g : Grid} (h : IsLH n g) : findN n g sHigh = (1 : Nat) := by
  unfold findN
  rw [if_pos h.formed, h.len, h.s]
  decide +kernel
theorem cell_of {w : World} {p k : Nat} {c : List Value} {t : TypeId} {v : Value} (h : Blk w p c t) (hc : w.cell? ⟨p, k, none⟩ = some v) : c[k]? = some v := by
  unfold Blk at h
  simp [World.cell?, h] at hc
  exact hc
theorem names_at {w : World} {base : Nat} {v : Value} (h : w.ownsRow base 9 1 v 2 [.string sLow, .string sHigh]) : ∃ ao b cap, v = .slice ao 2 cap ∧ (nLH ao b cap).At w ∧ ao = some ⟨b, 0, none⟩ := by
  obtain ⟨_, ⟨rfl, hn⟩ | ⟨g, cap, cur, rfl, hg, hh, h1, h2, h3, ht⟩⟩ := h
  · cases hn
  · have ho : w.ownsRow base 9 1 (.slice (some ⟨g, 0, none⟩) 2 cap) 2 [.string sLow, .string sHigh] := ⟨rfl, Or.inr ⟨g, cap, cur, rfl, hg, hh, h1, h2, h3, ht⟩⟩
    refine ⟨_, g, cap, rfl, ⟨h1, fun _ => rfl, (show (2 : Nat) ≤ 9223372036854775807 by decide), fun i hi => ?_, fun i hi => ?_⟩, rfl⟩
    · have hi2 : i < 2 := hi
      have := ho.cellAt i (by omega)
      show w.cell? ⟨g, 0 + i, none⟩ = some (.string (sLH i))
      rw [Nat.zero_add, this]
      match i, hi2 with
      | 0, _ => rfl
      | 1, _ => rfl
    · have hi2 : i < 2 := hi
      show (sLH i).size ≤ _
      match i, hi2 with
      | 0, _ => decide
      | 1, _ => decide
theorem pairs_at {w : World} {base : Nat} {v : Value} (h : w.ownsRow base 124 2 v 1 [.int .i64 0, .int .i64 1]) : ∃ ao b cap, v = .slice ao 1 cap ∧ (pLH ao b cap).At w := by
  obtain ⟨_, ⟨rfl, hn⟩ | ⟨g, cap, cur, rfl, hg, hh, h1, h2, h3, ht⟩⟩ := h
  · cases hn
  · have ho : w.ownsRow base 124 2 (.slice (some ⟨g, 0, none⟩) 1 cap) 1 [.int .i64 0, .int .i64 1] := ⟨rfl, Or.inr ⟨g, cap, cur, rfl, hg, hh, h1, h2, h3, ht⟩⟩
    refine ⟨_, g, cap, rfl, ⟨h1, fun _ => rfl, (show (1 : Nat) ≤ 9223372036854775807 by decide), fun i hi => ?_, fun i hi => ?_⟩⟩
    · have : i = 0 := by have : i < 1 := hi; omega
      subst this
      exact ho.cellAt 0 (by omega)
    · have : i = 0 := by have : i < 1 := hi; omega
      subst this
      exact ho.cellAt 1 (by omega)
theorem lt_of_made {w : World} {p : Nat} {ts : List Tq} {L : Int} {n : Strs} {g : Grid} (h : IsLH n g) (hn : n.At w) (hg : g.At w) (hr : Rp w p ts L (.slice none 0 0) (.slice none 0 0)) : Lt w p n g := by
  obtain ⟨ao, b, o, c, hb, _⟩ := hr
  refine ⟨hn, hg, h.formed, fun e => ?_, fun e => ?_, fun r hr e => ?_⟩
  · have h0 := hn.cell 0 (by rw [h.len]; omega)
    rw [e] at h0
    have := cell_of hb h0
    match hq : n.o + 0, this with
    | 0, this => simp at this
    | 1, this => simp at this
    | 2, this => simp at this
    | 3, this => simp at this
    | k + 4, this => simp at this
  · obtain ⟨T, ao', b', cap', rfl⟩ := h.grid
    have h1 := hg.row 1 (by show 1 < 2; omega)
    rw [e] at h1
    have := cell_of hb h1
    simp [gridOf] at this
  · obtain ⟨T, ao', b', cap', rfl⟩ := h.grid
    have h1 := hg.cell r hr 0 (by show 0 < 2; omega)
    rw [e] at h1
    have := cell_of hb h1
    simp [gridOf] at this
end Go.Proofs.YtcoeefckldkbeaaGreatDoor
