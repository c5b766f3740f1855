/- Layer 9: taken of one name, where nothing is needed. -/
import Derived.Test.YtnhoehiaphdomaaP9
import Derived.Laws.AppendOwn
namespace Go.Proofs.Ytnhoehiaphdomaa
open Go Go.RowKit Go.Shelf
attribute [local go_sem] Oper.semAt_some

theorem Blk.setE {w : World} {B : Nat} {c : List Value} {t : TypeId} (h : Blk w B c t) (i : Nat) (v : Value) : Blk (w.setCell ⟨B, i, none⟩ v) B (c.set i v) t := by
  have hl := h.lt
  unfold Blk at h ⊢
  have e : c.toArray.setIfInBounds i v = (c.set i v).toArray := by
    apply Array.toList_inj.1
    simp
  rw [← e]
  simp [World.setCell, Array.getElem?_modify, h]
set_option maxRecDepth 100000 in
set_option maxHeartbeats 2000000 in
theorem ev_back1 (s : ByteArray) (l Bs b n₀ : Nat) (J Jx : List ByteArray → World → Prop)
    (hY : ∀ pre x W, J pre W → pre.length < 1 → YieldAt Fence.wide 1 Try.prog l #[.int .i64 0, .string x] W fun e W' =>
      (e = .returned (.bool true) ∧ J (pre ++ [x]) W' ∧ Below n₀ W W') ∨ (e = .returned (.bool false) ∧ Jx (pre ++ [x]) W'))
    (W : World) (hBs : W.cell? ⟨Bs, 0, none⟩ = some (.slice (some ⟨b, 0, none⟩) 1 1)) (hc : W.cell? ⟨b, 0, none⟩ = some (.string s)) (h0 : J [] W) :
    CallsIn Fence.wide 2 Try.prog 41 #[.func (.yield l) #[] #[], .pointer (some ⟨Bs, 0, none⟩)] W fun e W' => (∃ v, e = .returned v) ∧ (J [s] W' ∨ Jx [s] W') := by
  refine callsIn_of_wp Try.func41 rfl trivial ?_ rfl
  simp only [Try.ntmps41, List.size_toArray, List.length_cons, List.length_nil, Nat.reduceAdd, Nat.reduceSub, Array.replicate_succ, Array.replicate_zero, List.push_toArray, List.append_toArray, List.nil_append, List.cons_append]
  gi_wp2
  gi_loopw [3] (fun i wr => (i = .int .i64 0 ∧ wr = W) ∨ (i = .int .i64 (-1) ∧ J [s] wr)) (fun i _ => (intOf i + 1).toNat)
  case atStart => exact .inl ⟨rfl, rfl⟩
  case round =>
    rcases hrel with ⟨rfl, rfl⟩ | ⟨rfl, hJ⟩
    · obtain ⟨fn, tmps, assign, body, hy, hR⟩ := hY [] s wr h0 (by decide)
      gi_wp2
      refine hR.mono ?_
      rintro e W3 (⟨rfl, hJ3, hk3⟩ | ⟨rfl, hJx3⟩)
      · gi_wp2
        go_roundw
        case rel => exact .inr ⟨by simp, hJ3⟩
        case measure => simp [intOf]
      · gi_wp2
        refine bodyPost_ret (results_none rfl _ _ _) rfl ?_
        exact ⟨⟨_, rfl⟩, .inr hJx3⟩
    · gi_wp2
      go_end0
      exact ⟨⟨_, rfl⟩, .inl hJ⟩

theorem ev_back_stops (s : ByteArray) (Bs b n₀ : Nat) (w : World) (hBs' : Bs < n₀) (hb : b < n₀) (hn : n₀ ≤ w.heap.size) (hBs : w.cell? ⟨Bs, 0, none⟩ = some (.slice (some ⟨b, 0, none⟩) 1 1)) (hc : w.cell? ⟨b, 0, none⟩ = some (.string s)) :
    SeqStopsK Fence.wide 2 Try.prog 41 #[.pointer (some ⟨Bs, 0, none⟩)] (fun x : ByteArray => #[Value.int .i64 0, Value.string x]) (Below n₀) (fun ys => ys = [s]) (fun pre => pre = [s]) 1 w := fun l J Jx W hW _ _ hY h0 => by
  have h1 := (hW.cell (p := ⟨Bs, 0, none⟩) (show Bs < w.heap.size by omega)).trans hBs
  have h2 := (hW.cell (p := ⟨b, 0, none⟩) (show b < w.heap.size by omega)).trans hc
  exact (ev_back1 s l Bs b n₀ J Jx hY W h1 h2 h0).mono fun e W' ⟨he, hj⟩ => ⟨he, hj.elim (fun h => .inl ⟨_, rfl, h⟩) (fun h => .inr ⟨_, rfl, h⟩)⟩

set_option maxRecDepth 100000 in
set_option maxHeartbeats 4000000 in
theorem ev_taken (s : ByteArray) (b : Nat) (w : World) (hb : b < w.heap.size) (hc : w.cell? ⟨b, 0, none⟩ = some (.string s)) :
    Calls Try.prog 19 #[.slice (some ⟨b, 0, none⟩) 1 1, .slice none 0 0] w fun e w' => e = .returned (.slice none 0 0) ∧ Below w.heap.size w w' := by
  have B0 := below_alloc w (.cells #[.slice none 0 0] 43)
  have k0 : Blk (w.alloc (.cells #[.slice none 0 0] 43)) w.heap.size [.slice none 0 0] 43 := Blk.new w _ _
  have B1 := below_alloc (w.alloc (.cells #[.slice none 0 0] 43)) (.cells #[.slice none 0 0] 43)
  have k1 := k0.kept B1
  have j1 : Blk ((w.alloc (.cells #[.slice none 0 0] 43)).alloc (.cells #[.slice none 0 0] 43)) (w.heap.size + 1) [.slice none 0 0] 43 := by
    have := Blk.new (w.alloc (.cells #[.slice none 0 0] 43)) [.slice none 0 0] 43
    rwa [World.size_alloc] at this
  have hV := ev_values (w.alloc (.cells #[.slice none 0 0] 43))
  rw [World.size_alloc] at hV
  have hS := ev_sorted (w.heap.size + 1) _ j1.lt (j1.cell 0 rfl)
  have c0 := k0.cell 0 rfl
  refine (callsIn_wide (n := 3)).1 ?_
  refine callsIn_of_wp_marks Try.func19 rfl trivial ?_ rfl
  simp only [Try.ntmps19, List.size_toArray, List.length_cons, List.length_nil, Nat.reduceAdd, Nat.reduceSub, Array.replicate_succ, Array.replicate_zero, List.push_toArray, List.append_toArray, List.nil_append, List.cons_append]
  gi_wp2
  refine ⟨trivial, ?_⟩
  refine (callsIn_wide.2 hV).mono ?_
  rintro _ _ ⟨rfl, rfl⟩
  gi_wp2
  refine ⟨trivial, ?_⟩
  refine (callsIn_wide.2 hS).mono ?_
  rintro _ w2 ⟨rfl, hb2⟩
  have B2 := Below.next (Below.next B0 B1) hb2
  have k2 := k1.kept hb2
  have c2 := k2.cell 0 rfl
  have f2 := k2.frozen 0
  have hc2 := (B2.cell (p := ⟨b, 0, none⟩) hb).trans hc
  have hz2 : w.heap.size < w2.heap.size := k2.lt
  have HW : Hid (Below w.heap.size w w2 ∧ Blk w2 w.heap.size [.slice none 0 0] 43 ∧ w2.cell? ⟨b, 0, none⟩ = some (.string s) ∧ w.heap.size < w2.heap.size) := ⟨B2, k2, hc2, hz2⟩
  clear B0 k0 B1 k1 j1 hV hS c0 B2 hb2 k2 hc2 hz2
  gi_wp2
  obtain ⟨W3, hW3⟩ : ∃ W3, (w2.setCell ⟨w.heap.size, 0, none⟩ (.slice none 0 0)).alloc (.cells #[.slice none 0 0] 43) = W3 := ⟨_, rfl⟩
  have H3 : Hid (Below w.heap.size w W3 ∧ Blk W3 w.heap.size [.slice none 0 0] 43 ∧ Blk W3 w2.heap.size [.slice none 0 0] 43) := by
    obtain ⟨q1, q2, _, q4⟩ := HW.out
    have b1 := q1.setCell (p := ⟨w.heap.size, 0, none⟩) (Nat.le_refl _) (.slice none 0 0)
    have e1 := Blk.setE q2 0 (.slice none 0 0)
    have e2 := Blk.new (w2.setCell ⟨w.heap.size, 0, none⟩ (.slice none 0 0)) [.slice none 0 0] 43
    have e3 : (w2.setCell ⟨w.heap.size, 0, none⟩ (.slice none 0 0)).heap.size = w2.heap.size := by simp [World.setCell]
    rw [e3] at e2
    rw [← hW3]
    exact ⟨Below.next b1 (below_alloc _ _), e1.kept (below_alloc _ _), e2⟩
  rw [hW3]
  have H4 := below_alloc W3 (.cells #[.slice (some ⟨b, 0, none⟩) 1 1] 43)
  have M4 := Blk.new W3 [.slice (some ⟨b, 0, none⟩) 1 1] 43
  refine ⟨trivial, ?_⟩
  refine (callsIn_wide.2 (ev_backward _ _ _ _)).mono ?_
  rintro _ _ ⟨rfl, rfl⟩
  have B4 := Below.next H3.out.1 H4
  have k4 := H3.out.2.1.kept H4
  have j4 := H3.out.2.2.kept H4
  have hc4 := (B4.cell (p := ⟨b, 0, none⟩) hb).trans hc
  have zb : b < W3.heap.size := by have := H3.out.2.1.lt; omega
  have zs := H3.out.2.1.lt
  have zt := H3.out.2.2.lt
  clear HW hW3 c2 f2
  generalize hT : w2.heap.size = T at *
  clear hT
  gi_wp2
  refine wpIn_rangeFunc_ownG rfl (by omega) (gf := 41) (lb := #[.pointer (some ⟨W3.heap.size, 0, none⟩)]) rfl trivial (enters_of Try.func41 (by kernel_rfl) rfl)
    (ev_back_stops s W3.heap.size b (W3.heap.size + 1) _ (by omega) (by omega) (by simp) (M4.cell 0 rfl) hc4) belowK_t (belowK_b (by simp)) (Below.refl _ _) (fun _ => rfl)
    (fun pre W => ((W.cell? ⟨w.heap.size, 0, none⟩ = some (.slice none 0 0) ∧ W.frozen? ⟨w.heap.size, 0, none⟩ = false) ∧ (W.cell? ⟨T, 0, none⟩ = some (.slice none 0 0) ∧ W.frozen? ⟨T, 0, none⟩ = false)) ∧ Below w.heap.size w W)
    (fun _ _ _ => False)
    (OwnFrom.and (Own.from (fun s A B row hs hg hr => ⟨⟨cell_kept hs.1.1 hg hr, (frozen_kept hs.1.1 hg hr).trans hs.1.2⟩, ⟨cell_kept hs.2.1 hg hr, (frozen_kept hs.2.1 hg hr).trans hs.2.2⟩⟩) _) (ownFrom_below (Nat.le_refl _) (by simp; omega)))
    (fun _ _ _ _ _ hs _ _ => hs)
    ⟨⟨⟨k4.cell 0 rfl, k4.frozen 0⟩, ⟨j4.cell 0 rfl, j4.frozen 0⟩⟩, B4⟩
    (fun x => { tmps := #[.slice (some ⟨b, 0, none⟩) 1 1, .slice none 0 0, undef, .pointer (some ⟨w.heap.size, 0, none⟩), .slice none 0 0, .pointer (some ⟨T, 0, none⟩), undef, .string x, undef, undef, .slice none 0 0, .func (.func 40) #[] #[.pointer (some ⟨w.heap.size + 1, 0, none⟩)], .slice none 0 0, .slice (some ⟨b, 0, none⟩) 1 1, .func (.func 41) #[] #[.pointer (some ⟨W3.heap.size, 0, none⟩)], .int .i64 0, .string x, undef, undef, undef, undef, undef, undef, undef, undef, undef, undef, undef, undef, undef, undef, undef, undef, undef, undef, undef], defers := [] }) ?assign ?body ?done ?stop
  case assign =>
    intro l x W K hK
    gi_wp2
    exact hK
  case body =>
    rintro l pre x W ⟨⟨⟨x1, x2⟩, x3, x4⟩, x5⟩ hl
    gi_wp2
    refine ⟨trivial, ?_⟩
    refine (CallsIn.inRound l (callsIn_wide.2 (ev_bsearch x W))).mono ?_
    rintro _ _ ⟨rfl, rfl⟩
    gi_wp2
    exact ⟨KeepsFrom.refl _ _, Below.refl _ _, ⟨⟨x1, x2⟩, x3, x4⟩, x5⟩
  case done =>
    rintro D ys W hD rfl ⟨⟨⟨x1, x2⟩, x3, x4⟩, x5⟩ hK
    gi_wp2
    refine ⟨trivial, ?_⟩
    refine (callsIn_wide.2 (ev_reverse W)).mono ?_
    rintro _ _ ⟨⟨v, rfl⟩, rfl⟩
    gi_wp2
    refine ⟨by simp, .inl ⟨_, _, rfl, run_takeDeferred hK, ?_⟩⟩
    exact ⟨_, results_tmp rfl _ _ _, rfl, x5.trans (belowK_b (w := w) (Nat.le_refl _) _ D _ _ (by simp at hD; omega) hK rfl rfl)⟩
  case stop =>
    rintro D c pre W _ _ h _
    exact h.elim
end Go.Proofs.Ytnhoehiaphdomaa

/- Layer 9: own of a function without Parts; enter; Table; Numbers. -/
namespace Go.Proofs.Ytnhoehiaphdomaa
open Go Go.RowKit Go.Shelf

def zTv : Array Value := #[.int .i64 0, .int .i64 0, .slice none 0 0, .int .i64 0, .int .i64 0]
set_option maxHeartbeats 1000000 in
theorem ev_ot1 (w : World) : Calls Try.prog 46 #[.agg #[.int .i64 0, .int .i64 0, .slice none 0 0, .int .i64 0, .int .i64 0]] w fun e w' => e = .returned (.slice none 0 0) ∧ Below w.heap.size w w' := by
  have B0 := below_alloc w (.cells #[.int .i64 0, .int .i64 0, .slice none 0 0, .int .i64 0, .int .i64 0] 33)
  go_enter Try.func46, Try.ntmps46
  go_wp2
  go_ret
  exact ⟨rfl, B0⟩
set_option maxHeartbeats 1000000 in
theorem ev_ot2 (w : World) : Calls Try.prog 47 #[.agg #[.int .i64 0, .int .i64 0, .slice none 0 0, .int .i64 0, .int .i64 0], .slice none 0 0] w fun e w' => e = .returned (.agg #[.int .i64 0, .int .i64 0, .slice none 0 0, .int .i64 0, .int .i64 0]) ∧ Below w.heap.size w w' := by
  have H := allocs_heap [.cells #[.int .i64 0, .int .i64 0, .slice none 0 0, .int .i64 0, .int .i64 0] 33, .cells #[.int .i64 0, .int .i64 0, .slice none 0 0, .int .i64 0, .int .i64 0] 33] w
  have B0 := allocs_below [.cells #[.int .i64 0, .int .i64 0, .slice none 0 0, .int .i64 0, .int .i64 0] 33, .cells #[.int .i64 0, .int .i64 0, .slice none 0 0, .int .i64 0, .int .i64 0] 33] w
  simp only [List.foldl] at H B0
  have b1 : Blk _ (w.heap.size + 1) [.int .i64 0, .int .i64 0, .slice none 0 0, .int .i64 0, .int .i64 0] 33 := H 1 (by simp)
  have e0 := b1.cell 0 rfl
  have e1 := b1.cell 1 rfl
  have e2 := b1.cell 2 rfl
  have e3 := b1.cell 3 rfl
  have e4 := b1.cell 4 rfl
  clear H b1
  go_enter Try.func47, Try.ntmps47
  go_wp2
  exact bodyPost_ret (v := .agg #[.int .i64 0, .int .i64 0, .slice none 0 0, .int .i64 0, .int .i64 0]) (by simp [results, Try.results47, go_sem, e0, e1, e2, e3, e4]) rfl ⟨rfl, B0⟩
set_option maxRecDepth 100000 in
set_option maxHeartbeats 1000000 in
theorem ev_count (w : World) : Calls Try.prog 65 #[.agg #[.int .i64 0, .int .i64 0, .slice none 0 0, .int .i64 0, .int .i64 0], .func (.func 46) #[] #[], .int .i64 4000, .int .i64 0] w fun e w' => e = .returned (.int .i64 1) ∧ Below w.heap.size w w' := by
  have B0 := below_alloc w (.cells #[.int .i64 0, .int .i64 0, .slice none 0 0, .int .i64 0, .int .i64 0] 33)
  have h := ev_ot1 (w.alloc (.cells #[.int .i64 0, .int .i64 0, .slice none 0 0, .int .i64 0, .int .i64 0] 33))
  go_enter Try.func65, Try.ntmps65
  go_wp2_with fail
  refine h.mono ?_
  rintro _ w1 ⟨rfl, hb⟩
  have B1 := Below.next B0 hb
  clear h
  go_wp2
  go_loopw [9, 18] (fun q i wr => q = .int .i64 1 ∧ i = .int .i64 0 ∧ wr = w1) (fun _ _ _ => 0)
  case atStart => exact ⟨rfl, rfl, rfl⟩
  case round =>
    obtain ⟨rfl, rfl, rfl⟩ := hrel
    go_wp2
    go_ret
    exact ⟨rfl, B1⟩
set_option maxHeartbeats 1000000 in
theorem ev_Count (w : World) : Calls Try.prog 52 #[.agg #[.int .i64 0, .int .i64 0, .slice none 0 0, .int .i64 0, .int .i64 0], .func (.func 46) #[] #[], .int .i64 4000] w fun e w' => e = .returned (.int .i64 1) ∧ Below w.heap.size w w' := by
  have B0 := below_alloc w (.cells #[.int .i64 0, .int .i64 0, .slice none 0 0, .int .i64 0, .int .i64 0] 33)
  have h := ev_count (w.alloc (.cells #[.int .i64 0, .int .i64 0, .slice none 0 0, .int .i64 0, .int .i64 0] 33))
  go_enter Try.func52, Try.ntmps52
  go_wp2_with fail
  refine h.mono ?_
  rintro _ w1 ⟨rfl, hb⟩
  go_wp2
  go_ret
  exact ⟨rfl, Below.next B0 hb⟩
set_option maxHeartbeats 1000000 in
theorem ev_cloneT (w : World) : Calls Try.prog 66 #[.slice none 0 0] w fun e w' => e = .returned (.slice none 0 0) ∧ w' = w := by
  have h := run_eql_slice_nil (P := Try.prog) w 31 33 none 0 0 (by kernel_rfl)
  go_enter Try.func66, Try.ntmps66
  go_wp2
  go_ret
  exact ⟨rfl, rfl⟩
set_option maxHeartbeats 1000000 in
theorem ev_cloneE (w : World) : Calls Try.prog 35 #[.slice none 0 0] w fun e w' => e = .returned (.slice none 0 0) ∧ w' = w := by
  have h := run_eql_slice_nil (P := Try.prog) w 34 36 none 0 0 (by kernel_rfl)
  go_enter Try.func35, Try.ntmps35
  go_wp2
  go_ret
  exact ⟨rfl, rfl⟩
set_option maxRecDepth 100000 in
set_option maxHeartbeats 1000000 in
theorem ev_unfolded (w : World) : Calls Try.prog 53 #[.agg #[.int .i64 0, .int .i64 0, .slice none 0 0, .int .i64 0, .int .i64 0], .func (.func 46) #[] #[], .func (.func 47) #[] #[]] w fun e w' => e = .returned (.agg #[.int .i64 0, .int .i64 0, .slice none 0 0, .int .i64 0, .int .i64 0]) ∧ Below w.heap.size w w' := by
  have H := allocs_heap [.cells #[.int .i64 0, .int .i64 0, .slice none 0 0, .int .i64 0, .int .i64 0] 33, .cells #[.int .i64 0, .int .i64 0, .slice none 0 0, .int .i64 0, .int .i64 0] 33] w
  have B0 := allocs_below [.cells #[.int .i64 0, .int .i64 0, .slice none 0 0, .int .i64 0, .int .i64 0] 33, .cells #[.int .i64 0, .int .i64 0, .slice none 0 0, .int .i64 0, .int .i64 0] 33] w
  simp only [List.foldl] at H B0
  have b0 : Blk _ w.heap.size [.int .i64 0, .int .i64 0, .slice none 0 0, .int .i64 0, .int .i64 0] 33 := H 0 (by simp)
  have b1 : Blk _ (w.heap.size + 1) [.int .i64 0, .int .i64 0, .slice none 0 0, .int .i64 0, .int .i64 0] 33 := H 1 (by simp)
  have h1 := ev_ot1 ((w.alloc (.cells #[.int .i64 0, .int .i64 0, .slice none 0 0, .int .i64 0, .int .i64 0] 33)).alloc (.cells #[.int .i64 0, .int .i64 0, .slice none 0 0, .int .i64 0, .int .i64 0] 33))
  clear H
  go_enter Try.func53, Try.ntmps53
  go_wp2_with fail
  refine h1.mono ?_
  rintro _ w1 ⟨rfl, hb1⟩
  have h2 := ev_cloneT w1
  have B1 := Below.next B0 hb1
  have d0 := b0.kept hb1
  have d1 := b1.kept hb1
  clear h1 B0 b0 b1 hb1
  go_wp2_with fail
  refine h2.mono ?_
  rintro _ w2 ⟨rfl, hw2⟩
  subst hw2
  clear h2
  have x0 := d0.cell 0 rfl
  have x1 := d0.cell 1 rfl
  have x2 := d0.cell 2 rfl
  have x3 := d0.cell 3 rfl
  have x4 := d0.cell 4 rfl
  have h3 := ev_ot2 w2
  go_wp2
  go_loopw [15] (fun i wr => i = .int .i64 0 ∧ wr = w2) (fun _ _ => 0)
  case atStart => exact ⟨rfl, rfl⟩
  case round =>
    obtain ⟨rfl, rfl⟩ := hrel
    go_wp2_with fail
    refine h3.mono ?_
    rintro _ w3 ⟨rfl, hb3⟩
    have d3 := d1.kept hb3
    have B3 := Below.next B1 hb3
    clear x0 x1 x2 x3 x4 d0 d1 h3
    go_wp2_with (refine wpList_store_blk rfl rfl 33 (.tmp 6) (.tmp 32) rfl (w.heap.size + 1) [.int .i64 0, .int .i64 0, .slice none 0 0, .int .i64 0, .int .i64 0] rfl rfl rfl d3 rfl (by kernel_rfl) ?_; intro w4 W4)
    have e0 := W4.blk.cell 0 rfl
    have e1 := W4.blk.cell 1 rfl
    have e2 := W4.blk.cell 2 rfl
    have e3 := W4.blk.cell 3 rfl
    have e4 := W4.blk.cell 4 rfl
    exact bodyPost_ret (v := .agg #[.int .i64 0, .int .i64 0, .slice none 0 0, .int .i64 0, .int .i64 0]) (by simp [results, Try.results53, go_sem, e0, e1, e2, e3, e4]) rfl ⟨rfl, W4.below (by omega) B3⟩
set_option maxRecDepth 100000 in
set_option maxHeartbeats 1000000 in
theorem ev_copy (w : World) : Calls Try.prog 45 #[.agg #[.int .i64 0, .int .i64 0, .slice none 0 0, .int .i64 0, .int .i64 0], .func (.func 46) #[] #[], .func (.func 47) #[] #[]] w fun e w' => e = .returned (.agg #[.int .i64 0, .int .i64 0, .slice none 0 0, .int .i64 0, .int .i64 0]) ∧ Below w.heap.size w w' := by
  have H := allocs_heap [.cells #[.int .i64 0, .int .i64 0, .slice none 0 0, .int .i64 0, .int .i64 0] 33, .cells #[.int .i64 0, .int .i64 0, .slice none 0 0, .int .i64 0, .int .i64 0] 33] w
  have B0 := allocs_below [.cells #[.int .i64 0, .int .i64 0, .slice none 0 0, .int .i64 0, .int .i64 0] 33, .cells #[.int .i64 0, .int .i64 0, .slice none 0 0, .int .i64 0, .int .i64 0] 33] w
  simp only [List.foldl] at H B0
  have b0 : Blk _ w.heap.size [.int .i64 0, .int .i64 0, .slice none 0 0, .int .i64 0, .int .i64 0] 33 := H 0 (by simp)
  have b1 : Blk _ (w.heap.size + 1) [.int .i64 0, .int .i64 0, .slice none 0 0, .int .i64 0, .int .i64 0] 33 := H 1 (by simp)
  have h1 := ev_Count ((w.alloc (.cells #[.int .i64 0, .int .i64 0, .slice none 0 0, .int .i64 0, .int .i64 0] 33)).alloc (.cells #[.int .i64 0, .int .i64 0, .slice none 0 0, .int .i64 0, .int .i64 0] 33))
  clear H
  go_enter Try.func45, Try.ntmps45
  go_wp2_with fail
  refine h1.mono ?_
  rintro _ w1 ⟨rfl, hb1⟩
  have B1 := Below.next B0 hb1
  have d0 := b0.kept hb1
  have d1 := b1.kept hb1
  have x0 := d0.cell 0 rfl
  have x1 := d0.cell 1 rfl
  have x2 := d0.cell 2 rfl
  have x3 := d0.cell 3 rfl
  have x4 := d0.cell 4 rfl
  have h3 := ev_unfolded w1
  clear h1 B0 b0 b1 hb1
  go_wp2_with fail
  refine h3.mono ?_
  rintro _ w3 ⟨rfl, hb3⟩
  have d3 := d1.kept hb3
  have B3 := Below.next B1 hb3
  clear x0 x1 x2 x3 x4 d0 d1 h3
  go_wp2_with (refine wpList_store_blk rfl rfl 33 (.tmp 6) (.tmp 15) rfl (w.heap.size + 1) [.int .i64 0, .int .i64 0, .slice none 0 0, .int .i64 0, .int .i64 0] rfl rfl rfl d3 rfl (by kernel_rfl) ?_; intro w4 W4)
  have e0 := W4.blk.cell 0 rfl
  have e1 := W4.blk.cell 1 rfl
  have e2 := W4.blk.cell 2 rfl
  have e3 := W4.blk.cell 3 rfl
  have e4 := W4.blk.cell 4 rfl
  exact bodyPost_ret (v := .agg #[.int .i64 0, .int .i64 0, .slice none 0 0, .int .i64 0, .int .i64 0]) (by simp [results, Try.results45, go_sem, e0, e1, e2, e3, e4]) rfl ⟨rfl, W4.below (by omega) B3⟩
set_option maxRecDepth 100000 in
set_option maxHeartbeats 1000000 in
theorem ev_ownType (w : World) : Calls Try.prog 34 #[.agg #[.int .i64 0, .int .i64 0, .slice none 0 0, .int .i64 0, .int .i64 0]] w fun e w' => e = .returned (.agg #[.int .i64 0, .int .i64 0, .slice none 0 0, .int .i64 0, .int .i64 0]) ∧ Below w.heap.size w w' := by
  have H := allocs_heap [.cells #[.int .i64 0, .int .i64 0, .slice none 0 0, .int .i64 0, .int .i64 0] 33, .cells #[.int .i64 0, .int .i64 0, .slice none 0 0, .int .i64 0, .int .i64 0] 33] w
  have B0 := allocs_below [.cells #[.int .i64 0, .int .i64 0, .slice none 0 0, .int .i64 0, .int .i64 0] 33, .cells #[.int .i64 0, .int .i64 0, .slice none 0 0, .int .i64 0, .int .i64 0] 33] w
  simp only [List.foldl] at H B0
  have b1 : Blk _ (w.heap.size + 1) [.int .i64 0, .int .i64 0, .slice none 0 0, .int .i64 0, .int .i64 0] 33 := H 1 (by simp)
  have h1 := ev_copy ((w.alloc (.cells #[.int .i64 0, .int .i64 0, .slice none 0 0, .int .i64 0, .int .i64 0] 33)).alloc (.cells #[.int .i64 0, .int .i64 0, .slice none 0 0, .int .i64 0, .int .i64 0] 33))
  clear H
  go_enter Try.func34, Try.ntmps34
  go_wp2_with fail
  refine h1.mono ?_
  rintro _ w3 ⟨rfl, hb3⟩
  have d3 := b1.kept hb3
  have B3 := Below.next B0 hb3
  clear h1 B0 b1 hb3
  go_wp2_with (refine wpList_store_blk rfl rfl 33 (.tmp 2) (.tmp 4) rfl (w.heap.size + 1) [.int .i64 0, .int .i64 0, .slice none 0 0, .int .i64 0, .int .i64 0] rfl rfl rfl d3 rfl (by kernel_rfl) ?_; intro w4 W4)
  have e0 := W4.blk.cell 0 rfl
  have e1 := W4.blk.cell 1 rfl
  have e2 := W4.blk.cell 2 rfl
  have e3 := W4.blk.cell 3 rfl
  have e4 := W4.blk.cell 4 rfl
  exact bodyPost_ret (v := .agg #[.int .i64 0, .int .i64 0, .slice none 0 0, .int .i64 0, .int .i64 0]) (by simp [results, Try.results34, go_sem, e0, e1, e2, e3, e4]) rfl ⟨rfl, W4.below (by omega) B3⟩
end Go.Proofs.Ytnhoehiaphdomaa

/- Layer 9: own, enter, Table, Numbers at a function without Parts. -/
namespace Go.Proofs.Ytnhoehiaphdomaa
open Go Go.RowKit Go.Shelf

theorem setCells_midE (t : TypeId) : ∀ (vs old pre post : List Value) (w : World) (B : Nat), old.length = vs.length → Blk w B (pre ++ (old ++ post)) t → Blk (w.setCells B pre.length vs) B (pre ++ (vs ++ post)) t
  | [], old, pre, post, w, B, h, hb => by
    have e : old = [] := List.eq_nil_of_length_eq_zero h
    subst e; exact hb
  | v :: vs, [], pre, post, w, B, h, hb => by simp at h
  | v :: vs, p :: old, pre, post, w, B, h, hb => by
    rw [World.setCells]
    have h1 : Blk (w.setCell ⟨B, pre.length, none⟩ v) B ((pre ++ [v]) ++ (old ++ post)) t := by
      have := Blk.setE hb pre.length v
      rw [show (pre ++ (p :: old ++ post)).set pre.length v = (pre ++ [v]) ++ (old ++ post) by simp] at this
      exact this
    have k := setCells_midE t vs old (pre ++ [v]) post _ B (by simpa using h) h1
    rw [show (pre ++ [v]).length = pre.length + 1 by simp] at k
    simpa using k
theorem wrote_midE {w : World} {B : Nat} {t : TypeId} (vs old pre post : List Value) (hb : Blk w B (pre ++ (old ++ post)) t) (hl : old.length = vs.length) : WroteB w (w.setCells B pre.length vs) B (pre ++ (vs ++ post)) t :=
  ⟨setCells_midE t vs old pre post w B hl hb, fun _ hb => setCells_heap _ _ _ _ _ hb, setCells_size _ _ _ _, fun hB hb => below_setCells hB _ _ _ hb⟩
/-- A part of a variable stored. -/
theorem wpList_store_partE {w : World} {ops : Array Oper} {rest : List Oper} {o : Oper} {a : Act} {Q : Exit → Act → World → Prop} (hgd : o.guard = none) (hdst : o.dst = none) (t ty : TypeId) (p x : Operand) (ho : o.op = .store t p x) (B k : Nat) (vs old pre post : List Value)
    (hp : a.eval p = .pointer (some ⟨B, k, none⟩)) (hx : a.eval x = .agg vs.toArray) (h1 : vs.all (·.oneCell') = true) (hb : Blk w B (pre ++ (old ++ post)) ty) (hk : pre.length = k) (hl : old.length = vs.length) (hi : (Try.prog.info? t).map (·.size) = some vs.toArray.size)
    (h : ∀ w', WroteB w w' B (pre ++ (vs ++ post)) ty → wpList Try.prog ops Q rest a w') : wpList Try.prog ops Q (o :: rest) a w := by
  subst hk
  refine wpList_store_mid hgd t p x ho B pre.length vs.toArray hp hx (fun j hj => ?_) hi (by simpa using h1) ?_
  · have hj' : j < vs.length := by simpa using hj
    refine ⟨?_, hb.frozen _⟩
    have : ∃ v, (pre ++ (old ++ post))[pre.length + j]? = some v := ⟨_, List.getElem?_eq_getElem (by simp; omega)⟩
    obtain ⟨v, hv⟩ := this
    rw [hb.cell (pre.length + j) hv]; rfl
  · rw [hdst]
    exact h _ (wrote_midE vs old pre post hb hl)

def zTE : Ty := .mk 0 0 0 0 none 0 0 0 0 fun _ => .dm
theorem zTE_at (w : World) : zTE.At w := ⟨fun h => absurd h (Nat.lt_irrefl 0), by decide, fun i hi => absurd hi (Nat.not_lt_zero _)⟩
/-- A function without Parts. -/
def fnE : Ex := .mk 6 0 0 ⟨#[]⟩ ⟨#[]⟩ zTE zTE none 0 0 0 0 (fun _ => .dm) 0
theorem fnE_at (w : World) : fnE.At w := ⟨⟨by decide, by decide⟩, ⟨zTE_at w, zTE_at w⟩, fun h => absurd h (Nat.lt_irrefl 0), by decide, fun i hi => absurd hi (Nat.not_lt_zero _)⟩
theorem fnE_nz (w : World) : fnE.Nz w := ⟨fun h => absurd h (Nat.lt_irrefl 0), fun _ hi => absurd hi (Nat.not_lt_zero _)⟩
def zTl : List Value := [.int .i64 0, .int .i64 0, .slice none 0 0, .int .i64 0, .int .i64 0]
def fnA : List Value := [.int .i64 6, .int .i64 0, .int .i64 0, .string ⟨#[]⟩, .string ⟨#[]⟩]
def fnZ : List Value := [.slice none 0 0, .int .i64 0]
theorem fnE_vs : fnE.vs = fnA ++ (zTl ++ (zTl ++ fnZ)) := by kernel_rfl
theorem exE_one (e : Ex) : e.vs.all (·.oneCell') = true := by simpa [Ex.va] using e.va_one
theorem loadVar_exE {w : World} {B : Nat} {e : Ex} (C : C17 w B 0 e) : (loadVar 36 ⟨B, 0, none⟩).run Try.prog w = .ok (.agg e.va) w := load_exV C
theorem results_exE {fn : Func} {tmps : Array Value} {k B : Nat} {e : Ex} {w : World} (hf : fn.results = #[.cell k 36]) (ht : tmps.getD k undef = .pointer (some ⟨B, 0, none⟩)) (C : C17 w B 0 e) : (results fn tmps).run Try.prog w = .ok (.agg e.va) w := by
  have h := loadVar_exE C
  generalize e.va = v at h ⊢
  have ha : (asAddr (tmps[k]?.getD undef)).run Try.prog w = .ok ⟨B, 0, none⟩ w := by rw [show tmps[k]?.getD undef = .pointer (some ⟨B, 0, none⟩) by simpa using ht]; rfl
  unfold results
  rw [hf]
  simp [ha, h]
set_option maxRecDepth 100000 in
set_option maxHeartbeats 4000000 in
theorem ev_own (w : World) : Calls Try.prog 21 #[.agg fnE.va] w fun e w' => e = .returned (.agg fnE.va) ∧ Below w.heap.size w w' := by
  have H := allocs_heap [.cells fnE.va 36, .cells zEx.toArray 36] w
  have B0 := allocs_below [.cells fnE.va 36, .cells zEx.toArray 36] w
  simp only [List.foldl] at H B0
  have HI : Hid (Blk _ w.heap.size fnE.vs 36 ∧ Blk _ (w.heap.size + 1) zEx 36 ∧ Below w.heap.size w _) := ⟨H 0 (by simp), H 1 (by simp), B0⟩
  clear H B0
  unfold zEx at HI
  go_enter Try.func21, Try.ntmps21
  go_upto_region 1 with fail
  generalize (w.alloc (.cells fnE.va 36)).alloc (.cells [.int .i64 0, .int .i64 0, .int .i64 0, .string ⟨#[]⟩, .string ⟨#[]⟩, .int .i64 0, .int .i64 0, .slice none 0 0, .int .i64 0, .int .i64 0, .int .i64 0, .int .i64 0, .slice none 0 0, .int .i64 0, .int .i64 0, .slice none 0 0, .int .i64 0].toArray 36) = w1 at *
  have p0 := fun x : Gr w1 => Gr.cell x (HI.out.1.cell 5 (v := .int .i64 0) (by kernel_rfl))
  have p1 := fun x : Gr w1 => Gr.cell x (HI.out.1.cell 6 (v := .int .i64 0) (by kernel_rfl))
  have p2 := fun x : Gr w1 => Gr.cell x (HI.out.1.cell 7 (v := .slice none 0 0) (by kernel_rfl))
  have p3 := fun x : Gr w1 => Gr.cell x (HI.out.1.cell 8 (v := .int .i64 0) (by kernel_rfl))
  have p4 := fun x : Gr w1 => Gr.cell x (HI.out.1.cell 9 (v := .int .i64 0) (by kernel_rfl))
  have q0 := fun x : Gr w1 => Gr.cell x (HI.out.1.cell 10 (v := .int .i64 0) (by kernel_rfl))
  have q1 := fun x : Gr w1 => Gr.cell x (HI.out.1.cell 11 (v := .int .i64 0) (by kernel_rfl))
  have q2 := fun x : Gr w1 => Gr.cell x (HI.out.1.cell 12 (v := .slice none 0 0) (by kernel_rfl))
  have q3 := fun x : Gr w1 => Gr.cell x (HI.out.1.cell 13 (v := .int .i64 0) (by kernel_rfl))
  have q4 := fun x : Gr w1 => Gr.cell x (HI.out.1.cell 14 (v := .int .i64 0) (by kernel_rfl))
  have hNE : Nonempty (Gr w1) := ⟨⟨_, Below.refl _ _⟩⟩
  refine wp_region_gr_tail 7 (by kernel_rfl) (by kernel_rfl) ?_
  simp only [List.take, List.drop]
  repeat (first | go_big_quiet_step ((go_at_call 34; with_reducible exact Calls.gr _ (ev_ownType _))))
  refine wpQuiet_nil ?_
  rintro w4 ⟨x4, rfl⟩
  have B4 := x4.bl
  generalize x4.w = w4 at B4 ⊢
  clear x4 p0 p1 p2 p3 p4 q0 q1 q2 q3 q4 hNE
  have HJ : Hid (Blk w4 w.heap.size (fnA ++ (zTl ++ (zTl ++ fnZ))) 36 ∧ Blk w4 (w.heap.size + 1) zEx 36 ∧ Below w.heap.size w w4) := ⟨by rw [← fnE_vs]; exact HI.out.1.kept B4, HI.out.2.1.kept B4, Below.next HI.out.2.2 B4⟩
  clear HI B4
  refine wpList_store_partE rfl rfl 33 36 (.tmp 11) (.tmp 7) rfl w.heap.size 5 zTl zTl fnA (zTl ++ fnZ) (by kernel_rfl) (by kernel_rfl) (by kernel_rfl) HJ.out.1 rfl rfl (by kernel_rfl) ?_
  intro w5 W5
  have HK : Hid (Blk w5 w.heap.size ((fnA ++ zTl) ++ (zTl ++ fnZ)) 36 ∧ Blk w5 (w.heap.size + 1) zEx 36 ∧ Below w.heap.size w w5) := ⟨by rw [List.append_assoc]; exact W5.blk, W5.keep HJ.out.2.1 (by omega), W5.below (Nat.le_refl _) HJ.out.2.2⟩
  clear HJ W5
  go_wp2_with (refine wpList_store_partE rfl rfl 33 36 (.tmp 12) (.tmp 10) rfl w.heap.size 10 zTl zTl (fnA ++ zTl) fnZ (by kernel_rfl) (by kernel_rfl) (by kernel_rfl) HK.out.1 rfl rfl (by kernel_rfl) ?_; intro w6 W6; have c15 := W6.blk.cell 15 (v := .slice none 0 0) (by kernel_rfl))
  have hcl := ev_cloneE w6
  refine hcl.mono ?_
  rintro _ w7 ⟨rfl, hw7⟩
  subst hw7
  clear hcl
  have f15 := W6.blk.frozen 15
  have B7 := W6.below (Nat.le_refl _) HK.out.2.2
  have HL : Hid (Blk (w7.setCell ⟨w.heap.size, 15, none⟩ (.slice none 0 0)) w.heap.size fnE.vs 36 ∧ Blk (w7.setCell ⟨w.heap.size, 15, none⟩ (.slice none 0 0)) (w.heap.size + 1) zEx 36 ∧ Below w.heap.size w (w7.setCell ⟨w.heap.size, 15, none⟩ (.slice none 0 0))) := by
    refine ⟨Blk.setE W6.blk 15 (.slice none 0 0), ?_, B7.setCell (p := ⟨w.heap.size, 15, none⟩) (Nat.le_refl _) _⟩
    exact (Below.heap_setCell _ _ _ _ (by simp)).trans (W6.keep HK.out.2.1 (by omega))
  clear HK B7 W6
  go_upto_region 3 with fail
  clear f15 c15
  generalize w7.setCell ⟨w.heap.size, 15, none⟩ (.slice none 0 0) = w8 at *
  have c15 := HL.out.1.cell 15 (v := .slice none 0 0) (by kernel_rfl)
  have C := C17.of_range HL.out.1.range
  have d1 := HL.out.2.1
  go_wp2
  go_loopw [20] (fun i wr => i = .int .i64 0 ∧ wr = w8) (fun _ _ => 0)
  case atStart => exact ⟨rfl, rfl⟩
  case round =>
    obtain ⟨rfl, rfl⟩ := hrel
    go_wp2_with (first | (refine wpList_load_ex rfl (.tmp 1) rfl w.heap.size 0 (by kernel_rfl) fnE C ?_) | (refine wpList_store_blk rfl rfl 36 (.tmp 2) (.tmp 32) rfl (w.heap.size + 1) fnE.vs (by kernel_rfl) (by kernel_rfl) (exE_one _) d1 rfl (by kernel_rfl) ?_; intro w9 W9))
    exact bodyPost_ret (v := .agg fnE.va) (results_exE Try.results21 rfl (C17.of_range W9.blk.range)) rfl ⟨rfl, W9.below (by omega) HL.out.2.2⟩
end Go.Proofs.Ytnhoehiaphdomaa

/- Layer 9: enter, Table, Numbers at a function without Parts. -/
namespace Go.Proofs.Ytnhoehiaphdomaa
open Go Go.RowKit Go.Shelf

set_option maxRecDepth 100000 in
set_option maxHeartbeats 2000000 in
theorem ev_gather (w : World) : Calls Try.prog 20 #[.slice none 0 0, .slice none 0 0, .agg fnE.va] w fun e w' => e = .returned (.slice none 0 0) ∧ Below w.heap.size w w' := by
  have B0 := below_alloc w (.cells fnE.va 36)
  have X0 := Bex.newV w fnE
  have c0 : (w.alloc (.cells fnE.va 36)).cell? ⟨w.heap.size, 0, none⟩ = some (.int .i64 6) := (C17.ofB X0).c0
  have c15 : (w.alloc (.cells fnE.va 36)).cell? ⟨w.heap.size, 15, none⟩ = some (.slice none 0 0) := (C17.ofB X0).c15
  clear X0
  go_enter Try.func20, Try.ntmps20
  go_wp2
  go_loopw [0, 34] (fun v i wr => v = .slice none 0 0 ∧ i = .int .i64 0 ∧ wr = w.alloc (.cells fnE.va 36)) (fun _ _ _ => 0)
  case atStart => exact ⟨rfl, rfl, rfl⟩
  case round =>
    obtain ⟨rfl, rfl, rfl⟩ := hrel
    go_wp2
    go_ret
    exact ⟨rfl, B0⟩
def entE : List Value := fnE.vs ++ [.slice none 0 0]
theorem run_build_ent (w : World) : (Instr.build 50 #[(0, .agg fnE.va), (1, .slice none 0 0)]).run Try.prog w = .ok (.agg entE.toArray) w := by kernel_rfl
def zEnt : List Value := zEx ++ [.slice none 0 0]
theorem Try.infoEnt : (Try.prog.info? 50).map (fun i => (i.zero, i.size, i.bytes)) = some (some (.agg zEnt.toArray), 18, 224) := by kernel_rfl
theorem run_slice_ent (w : World) : (Instr.buildSlice 39 1 #[(0, .agg entE.toArray)]).run Try.prog w = .ok (.slice (some ⟨w.heap.size, 0, none⟩) 1 1) (w.alloc (.cells entE.toArray 50)) := by
  obtain ⟨i0, hi, hz0, hz1, hz2⟩ := info_parts Try.infoEnt
  have hf : Instr.fill (fun i => some (i * 18, 18)) (Array.map (fun x => zEnt[x % zEnt.length]?.getD default) (Array.range 18)) [(0, Value.agg entE.toArray)] = some entE.toArray := by kernel_rfl
  simp [Instr.buildSlice, run_underlying Try.underlying39, sizeOf, typeInfo, hi, hz0, hz1, zeroValue, newRow, Value.cells, hf]
theorem wpList_buildE {ops : Array Oper} {rest : List Oper} {o : Oper} {a : Act} {w w' : World} {v : Value} {Q : Exit → Act → World → Prop} (hgd : o.guard = none) (t : TypeId) (parts : Array (Nat × Operand)) (ho : o.op = .build t parts) (vals : Array (Nat × Value)) (hv : (parts.map fun (i, x) => (i, a.eval x)) = vals)
    (hs : (Instr.build t vals).run Try.prog w = .ok v w') (h : wpList Try.prog ops Q rest (a.put o.dst v) w') : wpList Try.prog ops Q (o :: rest) a w := by
  subst hv
  refine wpList_plain hgd fun _ hK => ?_
  unfold Oper.wp execOp
  simp only [ho, Sem.run_bind, hs, Result.andThen_ok, Sem.run_pure]
  exact hK _ _ h
theorem entE_len : entE.length = 1 * 18 := by kernel_rfl
theorem entE_one : ∀ u ∈ entE, u.oneCell' = true := by decide +kernel
theorem wpList_append_ent {w : World} {ops : Array Oper} {rest : List Oper} {o : Oper} {a : Act} {Q : Exit → Act → World → Prop} (hgd : o.guard = none) (s x : Operand)
    (hop : o.op = .call { callee := .builtin .append, args := #[s, x], argTypes := #[39, 39] }) (hs : a.eval s = .slice none 0 0) (b c : Nat) (hx : a.eval x = .slice (some ⟨b, 0, none⟩) 1 c) (hb : Blk w b entE 50)
    (h : ∀ ao cap w', Below w.heap.size w w' → wpList Try.prog ops Q rest (a.put o.dst (.slice ao 1 cap)) w') : wpList Try.prog ops Q (o :: rest) a w := by
  obtain ⟨i0, hi, hz0, hz1, hz2⟩ := info_parts Try.infoEnt
  refine wpList_plain hgd fun K hK => ?_
  obtain ⟨v', w', hr, h2, h3, _⟩ := run_append_own (P := Try.prog) w w.heap.size 39 o.type 50 i0 _ 18 224 Try.underlying39 hi hz0 hz1 hz2 (by kernel_rfl) (by decide) (.slice none 0 0) 0 [] (World.ownsRow_nil _ _ _ _) ⟨b, 0, none⟩ 1 c entE entE_len
    (fun j u hu => by rw [addr_add, Nat.zero_add]; exact hb.cell j hu) entE_one (by decide) (by decide) (Nat.le_refl _)
  obtain ⟨ao, cap, rfl⟩ : ∃ ao cap, v' = .slice ao 1 cap := by
    obtain ⟨_, ⟨rfl, e⟩ | ⟨g, cap, cur, rfl, _⟩⟩ := h2
    · simp at e
    · exact ⟨_, cap, rfl⟩
  unfold Oper.wp execOp
  simp only [hop, resolve, invoke, builtin, Sem.run_bind, Sem.run_pure, Result.andThen_ok, List.map_toArray, List.map_cons, List.map_nil, hs, hx, hr]
  exact hK _ _ (h ao cap w' ((Below.refl _ _).grown h3 (Nat.le_refl _) (fun k hk => by cases hk)))
set_option maxRecDepth 100000 in
set_option maxHeartbeats 4000000 in
theorem ev_enter (s : ByteArray) (b : Nat) (w : World) (hb : b < w.heap.size) (hc : w.cell? ⟨b, 0, none⟩ = some (.string s)) :
    Calls Try.prog 15 #[.slice none 0 0, .slice (some ⟨b, 0, none⟩) 1 1, .agg fnE.va] w fun e w' => (∃ ao cap, e = .returned (.slice ao 1 cap)) ∧ Below w.heap.size w w' := by
  have B0 := below_alloc w (.cells fnE.va 36)
  have b0 : Blk (w.alloc (.cells fnE.va 36)) w.heap.size fnE.vs 36 := Blk.new w _ _
  have X0 := C17.of_range b0.range
  have c0 : (w.alloc (.cells fnE.va 36)).cell? ⟨w.heap.size, 0, none⟩ = some (.int .i64 6) := X0.c0
  have h1 := ev_gather (w.alloc (.cells fnE.va 36))
  go_enter Try.func15, Try.ntmps15
  go_wp2_with (refine wpList_load_ex rfl (.tmp 5) rfl w.heap.size 0 (by kernel_rfl) fnE X0 ?_)
  refine h1.mono ?_
  rintro _ w1 ⟨rfl, hb1⟩
  have B1 := Below.next B0 hb1
  have b1 := b0.kept hb1
  have hc1 := up B1 hc
  have h2 := ev_taken s b w1 (by have := B1.size; omega) hc1
  clear h1 B0 b0 X0 c0 hb1
  go_wp2_with fail
  refine h2.mono ?_
  rintro _ w2 ⟨rfl, hb2⟩
  have B2 := Below.next B1 hb2
  have b2 := b1.kept hb2
  have X2 := C17.of_range b2.range
  have h3 := ev_own w2
  clear h2 B1 b1 hb2 hc1 hc hb
  go_wp2_with (refine wpList_load_ex rfl (.tmp 5) rfl w.heap.size 0 (by kernel_rfl) fnE X2 ?_)
  refine h3.mono ?_
  rintro _ w3 ⟨rfl, hb3⟩
  have B3 := Below.next B2 hb3
  have b3 := b2.kept hb3
  have B4 := below_alloc w3 (.cells entE.toArray 50)
  have b4 := b3.kept B4
  have n4 := Blk.new w3 entE 50
  have BB := Below.next B3 B4
  clear h3 B2 b2 X2 hb3 B3 b3 B4
  go_upto_region 4 with (first | (refine wpList_buildE rfl 50 #[(0, .tmp 18), (1, .tmp 19)] rfl _ (by kernel_rfl) (run_build_ent _) ?_) | (refine wpList_slice rfl 39 1 _ rfl _ (by kernel_rfl) (run_slice_ent _) ?_) | (refine wpList_append_ent rfl (.tmp 16) (.tmp 21) rfl (by kernel_rfl) w3.heap.size 1 (by kernel_rfl) n4 ?_; intro ao cap w5 B5))
  have b5 := b4.kept B5
  have c15 : w5.cell? ⟨w.heap.size, 15, none⟩ = some (.slice none 0 0) := b5.cell 15 (by kernel_rfl)
  have B6 := Below.next BB B5
  clear n4 b4 b5 BB B5
  go_wp2
  go_loopw [0, 26] (fun v i wr => v = .slice ao 1 cap ∧ i = .int .i64 0 ∧ wr = w5) (fun _ _ _ => 0)
  case atStart => exact ⟨rfl, rfl, rfl⟩
  case round =>
    obtain ⟨rfl, rfl, rfl⟩ := hrel
    go_wp2
    go_ret
    exact ⟨⟨_, _, rfl⟩, B6⟩
set_option maxRecDepth 100000 in
set_option maxHeartbeats 2000000 in
theorem ev_table (w : World) : Calls Try.prog 13 #[.string ⟨#[]⟩, .agg fnE.va] w fun e w' => (∃ ao cap, e = .returned (.slice ao 1 cap)) ∧ Below w.heap.size w w' := by
  have B0 := below_alloc w (.cells fnE.va 36)
  have b0 : Blk (w.alloc (.cells fnE.va 36)) w.heap.size fnE.vs 36 := Blk.new w _ _
  have X0 := C17.of_range b0.range
  have h1 := fsmall_yes fnE (w.alloc (.cells fnE.va 36)) (fnE_at _) (fnE_nz _) (by decide) (by decide)
  go_enter Try.func13, Try.ntmps13
  go_wp2_with (refine wpList_load_ex rfl (.tmp 3) rfl w.heap.size 0 (by kernel_rfl) fnE X0 ?_)
  refine h1.mono ?_
  rintro _ w1 ⟨rfl, hb1⟩
  have B1 := Below.next B0 hb1
  have B2 := below_alloc w1 (.cells #[.string ⟨#[]⟩] 9)
  have b2 := (b0.kept hb1).kept B2
  have X2 := C17.of_range b2.range
  have n2 := Blk.new w1 [.string ⟨#[]⟩] 9
  have h2 := ev_enter ⟨#[]⟩ w1.heap.size _ n2.lt (n2.cell 0 rfl)
  have B3 := Below.next B1 B2
  clear h1 B0 b0 X0 hb1 b2 n2 B1 B2
  go_wp2_with (refine wpList_load_ex rfl (.tmp 3) rfl w.heap.size 0 (by kernel_rfl) fnE X2 ?_)
  refine h2.mono ?_
  rintro _ w4 ⟨⟨ao, cap, rfl⟩, hb4⟩
  have B4 := Below.next B3 hb4
  clear h2 X2 B3 hb4
  go_wp2
  go_ret
  exact ⟨⟨_, _, rfl⟩, B4⟩
set_option maxHeartbeats 2000000 in
theorem ev_numbers (w : World) : Calls Try.prog 8 #[.agg fnE.va] w fun e w' => e = .returned (.int .i64 1) ∧ Below w.heap.size w w' := by
  have B0 := below_alloc w (.cells fnE.va 36)
  have X0 := C17.ofB (Bex.newV w fnE)
  have h1 := ev_table (w.alloc (.cells fnE.va 36))
  go_enter Try.func8, Try.ntmps8
  go_wp2_with (refine wpList_load_ex rfl (.tmp 1) rfl w.heap.size 0 (by kernel_rfl) fnE X0 ?_)
  refine h1.mono ?_
  rintro _ w1 ⟨⟨ao, cap, rfl⟩, hb1⟩
  have B1 := Below.next B0 hb1
  clear h1 X0 B0 hb1
  go_wp2
  go_ret
  exact ⟨rfl, B1⟩
end Go.Proofs.Ytnhoehiaphdomaa
