/- Layer 7: judged. -/
import Derived.Test.YtepgdkigncjalaaGreatP24
import Derived.Test.YtepgdkigncjalaaGreatP16
import Derived.Laws.EntriesVeiled
import Derived.Test.YtepgdkigncjalaaGreatP2
namespace Go.Proofs.YtepgdkigncjalaaGreat
open Go Go.RowKit

/-- The same where nothing panics. -/
def NoPan (Q : Exit → Act → World → Prop) (e : Exit) (a : Act) (w : World) : Prop := (∀ c, e ≠ .panic c) ∧ Q e a w
theorem wp_region_readsN {P : Program} {Q : Exit → Act → World → Prop} {id : Nat} {a : Act} {w : World} {l : List Oper} (S : World → Prop) (js : List Nat) (rest : Nat) (hm : P.follows .mixedOrders = true) (hlen : l.length = js.length + rest) (hB : (Region.noSelect l.toArray && lexI l.toArray js (js.filterMap (l[·]?)) (Array.replicate l.length false)) = true) (hj : ∀ j, j < (js.filterMap (l[·]?)).length → ∃ i, js[j]? = some i ∧ l.toArray[i]? = (js.filterMap (l[·]?))[j]?)
    (hS : S w.drew)
    (h : wpQuiet P l.toArray (fun u => ∃ x : Wd S, u = x.w) (fun a' => wpAnyH P .any l.toArray (NoPan Q) S rest (listedI js (Array.replicate l.length false)) a' w.drew) (js.filterMap (l[·]?)) a) : (Code.region id l.toArray true).wp P Q a w :=
  Code.wp_mono (fun _ _ _ h => h.2) (wp_region_reads S js rest hm hlen hB hj (fun c _ _ _ _ h => absurd rfl (h.1 c)) hS h)
set_option maxRecDepth 100000 in
set_option maxHeartbeats 8000000 in
theorem judged_no (n : Strs) (g : Grid) (e : Ex) (sb : Nat) (pc hp pl c : Int) (w : World) (hR : ∀ u, Below w.heap.size w u → ExprNo n g e sb pc hp pl c u) :
    Calls Tryz.prog 26 #[.agg #[.slice n.ao n.len n.cap, .slice g.ao g.len g.cap], .agg e.va, .agg #[.pointer (some ⟨sb, 0, none⟩), .int .i64 pc, .int .i64 hp]] w fun r w' => r = .returned (.tuple #[.agg #[.int .i64 0, .int .i64 0, .slice none 0 0, .int .i64 0, .int .i64 0], .int .i64 (-1), .int .i64 pl, .int .i64 c]) ∧ Below w.heap.size w w' := by
  have hmf : ∀ (fn : Fn) (first cap : Array Value) (w : World), (Instr.makeFunc fn first cap).run Tryz.prog w = .ok (.func fn first cap) w := fun _ _ _ _ => rfl
  have H := allocs_heap [.cells #[.slice n.ao n.len n.cap, .slice g.ao g.len g.cap] 25, .cells e.va 37, .cells #[.pointer (some ⟨sb, 0, none⟩), .int .i64 pc, .int .i64 hp] 73, .cells #[.int .i64 0, .int .i64 0, .slice none 0 0, .int .i64 0, .int .i64 0] 34, .cells #[.int .i64 0] 3, .cells #[.int .i64 0] 3, .cells #[.int .i64 0] 40] w
  have B0 := allocs_below [.cells #[.slice n.ao n.len n.cap, .slice g.ao g.len g.cap] 25, .cells e.va 37, .cells #[.pointer (some ⟨sb, 0, none⟩), .int .i64 pc, .int .i64 hp] 73, .cells #[.int .i64 0, .int .i64 0, .slice none 0 0, .int .i64 0, .int .i64 0] 34, .cells #[.int .i64 0] 3, .cells #[.int .i64 0] 3, .cells #[.int .i64 0] 40] w
  have SZ := allocs_size [.cells #[.slice n.ao n.len n.cap, .slice g.ao g.len g.cap] 25, .cells e.va 37, .cells #[.pointer (some ⟨sb, 0, none⟩), .int .i64 pc, .int .i64 hp] 73, .cells #[.int .i64 0, .int .i64 0, .slice none 0 0, .int .i64 0, .int .i64 0] 34, .cells #[.int .i64 0] 3, .cells #[.int .i64 0] 3, .cells #[.int .i64 0] 40] w
  simp only [List.foldl, List.length] at H B0 SZ
  have bA : Blk _ w.heap.size [.slice n.ao n.len n.cap, .slice g.ao g.len g.cap] 25 := H 0 (by simp)
  have bE : Blk _ (w.heap.size + 1) e.vs 37 := H 1 (by simp)
  have bW : Blk _ (w.heap.size + 2) [.pointer (some ⟨sb, 0, none⟩), .int .i64 pc, .int .i64 hp] 73 := H 2 (by simp)
  have bT : Blk _ (w.heap.size + 3) [.int .i64 0, .int .i64 0, .slice none 0 0, .int .i64 0, .int .i64 0] 34 := H 3 (by simp)
  have bX : Blk _ (w.heap.size + 4) [.int .i64 0] 3 := H 4 (by simp)
  have bY : Blk _ (w.heap.size + 5) [.int .i64 0] 3 := H 5 (by simp)
  have bZ : Blk _ (w.heap.size + 6) [.int .i64 0] 40 := H 6 (by simp)
  have a0 := bA.cell 0 rfl
  have a1 := bA.cell 1 rfl
  have X0 := C17.of_range bE.range
  have w0 := bW.cell 0 rfl
  have w1 := bW.cell 1 rfl
  have w2 := bW.cell 2 rfl
  have h := hR _ B0
  clear H hR bA bE bW SZ
  unfold ExprNo at h
  go_enter_defers Tryz.func26, Tryz.ntmps26
  go_wp2_with (refine wpList_load_ex rfl (.tmp 4) rfl _ _ rfl e X0 ?_)
  refine h.mono ?_
  rintro _ w3 ⟨rfl, hb3⟩
  have tT := bT.kept hb3
  have tX := bX.kept hb3
  have tY := bY.kept hb3
  have tZ := bZ.kept hb3
  have B3 := Below.next B0 hb3
  clear a0 a1 X0 w0 w1 w2 h bT bX bY bZ hb3 B0
  go_wp2
  refine leaves_cons (f := 39) (args := #[.pointer (some ⟨w.heap.size + 4, 0, none⟩), .pointer (some ⟨w.heap.size + 5, 0, none⟩), .pointer (some ⟨w.heap.size + 6, 0, none⟩)]) (by simp) (by simp [go_sem]) ?_
  refine (catch_fault (w.heap.size + 4) (w.heap.size + 5) (w.heap.size + 6) pl c 0 0 0 w3 tX tY tZ (by omega) (by omega)).mono ?_
  rintro _ _ w4 ⟨rfl, rfl, x4, y4, z4, b4, o4⟩
  have t4 : Blk w4 (w.heap.size + 3) [.int .i64 0, .int .i64 0, .slice none 0 0, .int .i64 0, .int .i64 0] 34 := by unfold Blk; rw [b4.block _ (by omega)]; exact tT
  have c0 := t4.cell 0 rfl
  have c1 := t4.cell 1 rfl
  have c2 := t4.cell 2 rfl
  have c3 := t4.cell 3 rfl
  have c4 := t4.cell 4 rfl
  have cx := x4.cell 0 rfl
  have cy := y4.cell 0 rfl
  have cz := z4.cell 0 rfl
  have B5 : Below w.heap.size w w4 := B3.trans (b4.mono (by omega))
  simp [Leaves, settle, results, Tryz.results26, go_sem, c0, c1, c2, c3, c4, cx, cy, cz]
  exact B5
set_option maxRecDepth 100000 in
set_option maxHeartbeats 8000000 in
theorem judged_ok (n : Strs) (g : Grid) (e : Ex) (sb : Nat) (pc hp k l x b : Int) (w : World) (hR : ∀ u, Below w.heap.size w u → ExprOk n g e sb pc hp k l x b u) :
    Calls Tryz.prog 26 #[.agg #[.slice n.ao n.len n.cap, .slice g.ao g.len g.cap], .agg e.va, .agg #[.pointer (some ⟨sb, 0, none⟩), .int .i64 pc, .int .i64 hp]] w fun r w' => (∃ ao cap, r = .returned (.tuple #[.agg #[.int .i64 k, .int .i64 l, .slice ao 0 cap, .int .i64 0, .int .i64 0], .int .i64 x, .int .i64 0, .int .i64 0])) ∧ Below w.heap.size w w' := by
  have hmf : ∀ (fn : Fn) (first cap : Array Value) (w : World), (Instr.makeFunc fn first cap).run Tryz.prog w = .ok (.func fn first cap) w := fun _ _ _ _ => rfl
  have H := allocs_heap [.cells #[.slice n.ao n.len n.cap, .slice g.ao g.len g.cap] 25, .cells e.va 37, .cells #[.pointer (some ⟨sb, 0, none⟩), .int .i64 pc, .int .i64 hp] 73, .cells #[.int .i64 0, .int .i64 0, .slice none 0 0, .int .i64 0, .int .i64 0] 34, .cells #[.int .i64 0] 3, .cells #[.int .i64 0] 3, .cells #[.int .i64 0] 40] w
  have B0 := allocs_below [.cells #[.slice n.ao n.len n.cap, .slice g.ao g.len g.cap] 25, .cells e.va 37, .cells #[.pointer (some ⟨sb, 0, none⟩), .int .i64 pc, .int .i64 hp] 73, .cells #[.int .i64 0, .int .i64 0, .slice none 0 0, .int .i64 0, .int .i64 0] 34, .cells #[.int .i64 0] 3, .cells #[.int .i64 0] 3, .cells #[.int .i64 0] 40] w
  have SZ := allocs_size [.cells #[.slice n.ao n.len n.cap, .slice g.ao g.len g.cap] 25, .cells e.va 37, .cells #[.pointer (some ⟨sb, 0, none⟩), .int .i64 pc, .int .i64 hp] 73, .cells #[.int .i64 0, .int .i64 0, .slice none 0 0, .int .i64 0, .int .i64 0] 34, .cells #[.int .i64 0] 3, .cells #[.int .i64 0] 3, .cells #[.int .i64 0] 40] w
  simp only [List.foldl, List.length] at H B0 SZ
  have bA : Blk _ w.heap.size [.slice n.ao n.len n.cap, .slice g.ao g.len g.cap] 25 := H 0 (by simp)
  have bE : Blk _ (w.heap.size + 1) e.vs 37 := H 1 (by simp)
  have bW : Blk _ (w.heap.size + 2) [.pointer (some ⟨sb, 0, none⟩), .int .i64 pc, .int .i64 hp] 73 := H 2 (by simp)
  have bT : Blk _ (w.heap.size + 3) [.int .i64 0, .int .i64 0, .slice none 0 0, .int .i64 0, .int .i64 0] 34 := H 3 (by simp)
  have bX : Blk _ (w.heap.size + 4) [.int .i64 0] 3 := H 4 (by simp)
  have bY : Blk _ (w.heap.size + 5) [.int .i64 0] 3 := H 5 (by simp)
  have bZ : Blk _ (w.heap.size + 6) [.int .i64 0] 40 := H 6 (by simp)
  have a0 := bA.cell 0 rfl
  have a1 := bA.cell 1 rfl
  have X0 := C17.of_range bE.range
  have w0 := bW.cell 0 rfl
  have w1 := bW.cell 1 rfl
  have w2 := bW.cell 2 rfl
  have h := hR _ B0
  clear H hR bA bE bW SZ
  unfold ExprOk at h
  go_enter_defers Tryz.func26, Tryz.ntmps26
  go_wp2_with (refine wpList_load_ex rfl (.tmp 4) rfl _ _ rfl e X0 ?_)
  refine h.mono ?_
  rintro _ w3 ⟨⟨ao, cap, rfl⟩, hb3⟩
  have bG := below_alloc w3 (.cells #[.int .i64 k, .int .i64 l, .slice ao 0 cap, .int .i64 0, .int .i64 0, .int .i64 x, .int .i64 b] 90)
  have nG : Blk (w3.alloc (.cells #[.int .i64 k, .int .i64 l, .slice ao 0 cap, .int .i64 0, .int .i64 0, .int .i64 x, .int .i64 b] 90)) w3.heap.size [.int .i64 k, .int .i64 l, .slice ao 0 cap, .int .i64 0, .int .i64 0, .int .i64 x, .int .i64 b] 90 := Blk.new w3 _ _
  have b3 := Below.next hb3 bG
  have hsz : w.heap.size + 7 ≤ w3.heap.size := by have := bZ.lt; have := hb3.size; have := (bZ.kept hb3).lt; omega
  have HC : Hid (Below w.heap.size w (w3.alloc (.cells #[.int .i64 k, .int .i64 l, .slice ao 0 cap, .int .i64 0, .int .i64 0, .int .i64 x, .int .i64 b] 90)) ∧ Blk (w3.alloc (.cells #[.int .i64 k, .int .i64 l, .slice ao 0 cap, .int .i64 0, .int .i64 0, .int .i64 x, .int .i64 b] 90)) w3.heap.size [.int .i64 k, .int .i64 l, .slice ao 0 cap, .int .i64 0, .int .i64 0, .int .i64 x, .int .i64 b] 90 ∧ Blk (w3.alloc (.cells #[.int .i64 k, .int .i64 l, .slice ao 0 cap, .int .i64 0, .int .i64 0, .int .i64 x, .int .i64 b] 90)) (w.heap.size + 3) [.int .i64 0, .int .i64 0, .slice none 0 0, .int .i64 0, .int .i64 0] 34 ∧ Blk (w3.alloc (.cells #[.int .i64 k, .int .i64 l, .slice ao 0 cap, .int .i64 0, .int .i64 0, .int .i64 x, .int .i64 b] 90)) (w.heap.size + 4) [.int .i64 0] 3 ∧ Blk (w3.alloc (.cells #[.int .i64 k, .int .i64 l, .slice ao 0 cap, .int .i64 0, .int .i64 0, .int .i64 x, .int .i64 b] 90)) (w.heap.size + 5) [.int .i64 0] 3 ∧ Blk (w3.alloc (.cells #[.int .i64 k, .int .i64 l, .slice ao 0 cap, .int .i64 0, .int .i64 0, .int .i64 x, .int .i64 b] 90)) (w.heap.size + 6) [.int .i64 0] 40 ∧ w.heap.size + 7 ≤ w3.heap.size) := ⟨Below.next B0 b3, nG, bT.kept b3, bX.kept b3, bY.kept b3, bZ.kept b3, hsz⟩
  clear a0 a1 X0 w0 w1 w2 h bT bX bY bZ hb3 B0 bG nG b3 hsz
  go_wp2
  generalize w3.heap.size = F at *
  generalize w3.alloc (.cells #[.int .i64 k, .int .i64 l, .slice ao 0 cap, .int .i64 0, .int .i64 0, .int .i64 x, .int .i64 b] 90) = u at *
  have hFs := HC.out.2.2.2.2.2.2
  refine wp_region_readsN (fun q : World => Blk q F [.int .i64 k, .int .i64 l, .slice ao 0 cap, .int .i64 0, .int .i64 0, .int .i64 x, .int .i64 b] 90) [0, 1, 2, 3] 4 (by kernel_rfl) rfl (by kernel_rfl) (fun j hj => ?_) HC.out.2.1 ?_
  · have hj4 : j < 4 := hj
    match j, hj4 with
    | 0, _ => exact ⟨_, rfl, rfl⟩
    | 1, _ => exact ⟨_, rfl, rfl⟩
    | 2, _ => exact ⟨_, rfl, rfl⟩
    | 3, _ => exact ⟨_, rfl, rfl⟩
  have f0 : ∀ q : Wd (fun q : World => Blk q F [.int .i64 k, .int .i64 l, .slice ao 0 cap, .int .i64 0, .int .i64 0, .int .i64 x, .int .i64 b] 90), q.w.cell? ⟨F, 0, none⟩ = some (.int .i64 k) := fun q => Blk.cell q.2 0 rfl
  have f1 : ∀ q : Wd (fun q : World => Blk q F [.int .i64 k, .int .i64 l, .slice ao 0 cap, .int .i64 0, .int .i64 0, .int .i64 x, .int .i64 b] 90), q.w.cell? ⟨F, 1, none⟩ = some (.int .i64 l) := fun q => Blk.cell q.2 1 rfl
  have f2 : ∀ q : Wd (fun q : World => Blk q F [.int .i64 k, .int .i64 l, .slice ao 0 cap, .int .i64 0, .int .i64 0, .int .i64 x, .int .i64 b] 90), q.w.cell? ⟨F, 2, none⟩ = some (.slice ao 0 cap) := fun q => Blk.cell q.2 2 rfl
  have f3 : ∀ q : Wd (fun q : World => Blk q F [.int .i64 k, .int .i64 l, .slice ao 0 cap, .int .i64 0, .int .i64 0, .int .i64 x, .int .i64 b] 90), q.w.cell? ⟨F, 3, none⟩ = some (.int .i64 0) := fun q => Blk.cell q.2 3 rfl
  have f4 : ∀ q : Wd (fun q : World => Blk q F [.int .i64 k, .int .i64 l, .slice ao 0 cap, .int .i64 0, .int .i64 0, .int .i64 x, .int .i64 b] 90), q.w.cell? ⟨F, 4, none⟩ = some (.int .i64 0) := fun q => Blk.cell q.2 4 rfl
  have f5 : ∀ q : Wd (fun q : World => Blk q F [.int .i64 k, .int .i64 l, .slice ao 0 cap, .int .i64 0, .int .i64 0, .int .i64 x, .int .i64 b] 90), q.w.cell? ⟨F, 5, none⟩ = some (.int .i64 x) := fun q => Blk.cell q.2 5 rfl
  have hNE : Nonempty (Wd (fun q : World => Blk q F [.int .i64 k, .int .i64 l, .slice ao 0 cap, .int .i64 0, .int .i64 0, .int .i64 x, .int .i64 b] 90)) := ⟨⟨u, HC.out.2.1⟩⟩
  simp only [List.filterMap, List.getElem?_cons_zero, List.getElem?_cons_succ]
  repeat go_big_quiet_step (fail)
  refine wpQuiet_nil ?_
  clear f0 f1 f2 f3 f4 f5 hNE
  refine wpAnyH_ready (rs := [4]) (by kernel_rfl) (by simp) ?_
  refine AllReadyH.cons rfl (fun K hK => ?_) AllReadyH.nil
  rw [if_pos (by rfl)]
  have bt : Blk u.drew (w.heap.size + 3) [.int .i64 0, .int .i64 0, .slice none 0 0, .int .i64 0, .int .i64 0] 34 := HC.out.2.2.1
  refine wp_store_wrote 34 (.tmp 6) (.tmp 18) rfl rfl (w.heap.size + 3) [.int .i64 k, .int .i64 l, .slice ao 0 cap, .int .i64 0, .int .i64 0] _ rfl rfl rfl bt rfl (by kernel_rfl) (fun u1 W1 => ?_)
  have k1 : Blk u1 F _ _ := W1.keep (show Blk u.drew F _ _ from HC.out.2.1) (by omega)
  have x1 : Blk u1 (w.heap.size + 4) [.int .i64 0] 3 := W1.keep (show Blk u.drew _ _ _ from HC.out.2.2.2.1) (by omega)
  have y1 : Blk u1 (w.heap.size + 5) [.int .i64 0] 3 := W1.keep (show Blk u.drew _ _ _ from HC.out.2.2.2.2.1) (by omega)
  have z1 : Blk u1 (w.heap.size + 6) [.int .i64 0] 40 := W1.keep (show Blk u.drew _ _ _ from HC.out.2.2.2.2.2.1) (by omega)
  refine hK.out _ _ k1 (fun _ => ?_)
  clear hK K bt
  try simp only [Act.put, List.setIfInBounds_toArray, List.set_cons_succ, List.set_cons_zero]
  have d0 := x1.cell 0 rfl
  have d1 := x1.frozen 0
  refine wpAnyH_ready (rs := [5]) (by kernel_rfl) (by simp) ?_
  refine AllReadyH.cons rfl (fun K hK => ?_) AllReadyH.nil
  rw [if_pos (by rfl)]
  go_simp
  have W2 := wrote_one x1 (.int .i64 x)
  clear d0 d1
  generalize u1.setCell ⟨w.heap.size + 4, 0, none⟩ (.int .i64 x) = u2 at W2 ⊢
  have k2 := W2.keep k1 (by omega)
  have y2 := W2.keep y1 (by omega)
  have z2 := W2.keep z1 (by omega)
  have t2 := W2.keep W1.blk (by omega)
  refine hK.out _ _ k2 (fun _ => ?_)
  clear hK K
  try simp only [Act.put, List.setIfInBounds_toArray, List.set_cons_succ, List.set_cons_zero]
  have d0 := y2.cell 0 rfl
  have d1 := y2.frozen 0
  refine wpAnyH_ready (rs := [6]) (by kernel_rfl) (by simp) ?_
  refine AllReadyH.cons rfl (fun K hK => ?_) AllReadyH.nil
  rw [if_pos (by rfl)]
  go_simp
  have W3 := wrote_one y2 (.int .i64 0)
  clear d0 d1
  generalize u2.setCell ⟨w.heap.size + 5, 0, none⟩ (.int .i64 0) = u3 at W3 ⊢
  have k3 := W3.keep k2 (by omega)
  have x3 := W3.keep W2.blk (by omega)
  have z3 := W3.keep z2 (by omega)
  have t3 := W3.keep t2 (by omega)
  refine hK.out _ _ k3 (fun _ => ?_)
  clear hK K
  try simp only [Act.put, List.setIfInBounds_toArray, List.set_cons_succ, List.set_cons_zero]
  have d0 := z3.cell 0 rfl
  have d1 := z3.frozen 0
  refine wpAnyH_ready (rs := [7]) (by kernel_rfl) (by simp) ?_
  refine AllReadyH.cons rfl (fun K hK => ?_) AllReadyH.nil
  rw [if_pos (by rfl)]
  go_simp
  have W4 := wrote_one z3 (.int .i64 0)
  clear d0 d1
  generalize u3.setCell ⟨w.heap.size + 6, 0, none⟩ (.int .i64 0) = u4 at W4 ⊢
  have k4 := W4.keep k3 (by omega)
  have x4 := W4.keep x3 (by omega)
  have y4 := W4.keep W3.blk (by omega)
  have t4 := W4.keep t3 (by omega)
  refine hK.out _ _ k4 (fun _ => ?_)
  clear hK K
  try simp only [Act.put, List.setIfInBounds_toArray, List.set_cons_succ, List.set_cons_zero]
  refine wpAnyH_done (by kernel_rfl) ⟨fun _ h => (by cases h), ?_⟩ _
  have B4 : Below w.heap.size w u4 := W4.below (by omega) (W3.below (by omega) (W2.below (by omega) (W1.below (by omega) (Below.drew HC.out.1))))
  go_wp2
  have c0 := t4.cell 0 rfl
  have c1 := t4.cell 1 rfl
  have c2 := t4.cell 2 rfl
  have c3 := t4.cell 3 rfl
  have c4 := t4.cell 4 rfl
  have cx := x4.cell 0 rfl
  have cy := y4.cell 0 rfl
  have cz := W4.blk.cell 0 rfl
  refine leaves_cons (f := 39) (args := #[.pointer (some ⟨w.heap.size + 4, 0, none⟩), .pointer (some ⟨w.heap.size + 5, 0, none⟩), .pointer (some ⟨w.heap.size + 6, 0, none⟩)]) (by simp) (by simp [go_sem]) ?_
  refine (catch_idle _ _ _ _).mono ?_
  rintro _ _ _ ⟨rfl, rfl, rfl⟩
  simp [Leaves, settle, results, Tryz.results26, go_sem, c0, c1, c2, c3, c4, cx, cy, cz]
  exact B4
end Go.Proofs.YtepgdkigncjalaaGreat

/- Layer 6: walk.Everywhere of an expression and itself, where all is right. -/
namespace Go.Proofs.YtepgdkigncjalaaGreat
open Go.RowKit

/-- The walk's variable: asked is Formed's question of the program in block pb, L nodes may still be gone through, nothing is put off. -/
structure Wx (pb : Nat) (w : World) (X L : Nat) : Prop where
  c0 : w.cell? ⟨X, 0, none⟩ = some (.func (.func 58) #[] #[])
  c1 : w.cell? ⟨X, 1, none⟩ = some (.func (.func 59) #[] #[.pointer (some ⟨pb, 0, none⟩)])
  c2 : w.cell? ⟨X, 2, none⟩ = some (.int .i64 L)
  c3 : w.cell? ⟨X, 3, none⟩ = some (.slice none 0 0)
  f2 : w.frozen? ⟨X, 2, none⟩ = false
theorem Wx.kept {pb : Nat} {w w' : World} {X L : Nat} (h : Wx pb w X L) (hb : Below w.heap.size w w') : Wx pb w' X L :=
  ⟨up hb h.c0, up hb h.c1, up hb h.c2, up hb h.c3, by rw [hb.frozen (p := ⟨X, 2, none⟩) (by have := World.block_lt_of_cell? w _ h.c0; exact this)]; exact h.f2⟩
theorem Wx.set {pb : Nat} {w : World} {X L : Nat} (h : Wx pb w X L) (L' : Nat) : Wx pb (w.setCell ⟨X, 2, none⟩ (.int .i64 L')) X L' :=
  ⟨by rw [World.cell?_setCell_other _ _ _ _ (by simp)]; exact h.c0, by rw [World.cell?_setCell_other _ _ _ _ (by simp)]; exact h.c1, World.cell?_setCell_same _ _ _ h.c2, by rw [World.cell?_setCell_other _ _ _ _ (by simp)]; exact h.c3, by rw [World.frozen?_setCell]; exact h.f2⟩
/-- How many nodes the Parts have. -/
def Ex.pn (t : Ex) : Nat := sumTo (fun i => (t.ps i).nodes) t.len
theorem expn_nodes : ∀ t : Ex, t.nodes = 1 + t.pn
  | .dm => rfl
  | .mk _ _ _ _ _ _ _ _ _ _ _ _ _ _ => rfl
/-- Of it, and of all its Parts. -/
def Ex.all (Q : Ex → Prop) : Ex → Prop
  | .dm => False
  | .mk k n m tx ar ty gv ao b o len cap ps pl => Q (.mk k n m tx ar ty gv ao b o len cap ps pl) ∧ ∀ i, i < len → Ex.all Q (ps i)
theorem Ex.all.self {Q : Ex → Prop} : ∀ {e : Ex}, e.all Q → Q e
  | .dm, h => h.elim
  | .mk _ _ _ _ _ _ _ _ _ _ _ _ _ _, h => h.1
theorem Ex.all.part {Q : Ex → Prop} : ∀ {e : Ex}, e.all Q → ∀ {i}, i < e.len → (e.ps i).all Q
  | .dm, h, _, _ => h.elim
  | .mk _ _ _ _ _ _ _ _ _ _ _ _ _ _, h, _, hi => h.2 _ hi

set_option maxRecDepth 100000 in
set_option maxHeartbeats 8000000 in
theorem exthrough_yes (pb : Nat) (w0 : World) (X : Nat) (hX : w0.heap.size ≤ X) (Q : Ex → Prop) (HQ : ∀ x, Q x → x.At w0 → ∀ u, Below w0.heap.size w0 u → Yes 59 #[.agg x.va, .agg x.va, .pointer (some ⟨pb, 0, none⟩)] u (.bool true)) : ∀ (s : Ex) (w : World) (L : Nat), s.At w0 → (∀ i, i < s.len → (s.ps i).all Q) → s.pn ≤ L → L ≤ 4000 → Wx pb w X L → Below w0.heap.size w0 w →
    Calls Tryz.prog 82 #[.pointer (some ⟨X, 0, none⟩), .slice s.ao s.len s.cap, .slice s.ao s.len s.cap] w fun e w' => e = .returned (.bool true) ∧ Below w0.heap.size w0 w' ∧ Wx pb w' X (L - s.pn) := by
  intro s
  induction s using Ex.ind with
  | h s ih =>
    intro w L hs hq hL h4000 hW hB
    have HL : Hid (s.pn ≤ L ∧ s.pn = sumTo (fun i => (s.ps i).nodes) s.len) := ⟨hL, rfl⟩
    have HS : Hid (s.At w0 ∧ (∀ i, i < s.len → (s.ps i).all Q)) := ⟨hs, hq⟩
    have b1 : s.len ≤ 9223372036854775807 := hs.bound
    have n1 : 0 < s.len → s.ao = some ⟨s.b, s.o, none⟩ := hs.nil
    have HW : Hid (Wx pb w X L ∧ Below w0.heap.size w0 w) := ⟨hW, hB⟩
    clear hL hW hB hs hq
    generalize s.pn = N at HL ⊢
    generalize s.ao = ao at n1 ⊢
    generalize hlen : s.len = len at *
    have HLN : Hid (s.len = len) := hlen
    clear hlen
    generalize s.cap = cap
    go_enter Tryz.func82, Tryz.ntmps82
    go_wp2
    go_loopw [10] (fun i wr => ∃ j l : Nat, j ≤ len ∧ i = .int .i64 j ∧ l + sumTo (fun i => (s.ps i).nodes) j = L ∧ Wx pb wr X l ∧ Below w0.heap.size w0 wr) (fun i _ => len - (intOf i).toNat)
    case atStart => exact ⟨0, L, Nat.zero_le _, rfl, rfl, HW.out.1, HW.out.2⟩
    case round =>
      obtain ⟨j, l, hj, rfl, hl, hW, hB⟩ := hrel
      clear HW
      have HD : Hid (l + sumTo (fun i => (s.ps i).nodes) j = L) := hl
      by_cases hlt : j < len
      · have ij : (j : Int) < len := by omega
        have hsum := sumTo_le (fun i => (s.ps i).nodes) hlt
        have hnod := expn_nodes (s.ps j)
        have hLL := HL.out
        have hl0 : 1 ≤ l := by omega
        have HN : Hid ((s.ps j).pn ≤ l - 1 ∧ l ≤ 4000 ∧ (s.ps j).nodes = 1 + (s.ps j).pn) := ⟨by omega, by omega, hnod⟩
        clear hsum hnod hLL hl
        have a1 := n1 (by omega)
        subst a1
        have e0 : ((l : Int) == 0) = false := by simp; omega
        have k1 := hW.c2
        have kf := hW.f2
        have i1 : (1 : Int) ≤ l := by omega
        have i2 : (l : Int) ≤ 4000 := by have := HN.out.2.1; omega
        have W2 : Wx pb (wr.setCell ⟨X, 2, none⟩ (.int .i64 ((l : Int) - 1))) X (l - 1) := by
          have := hW.set (l - 1)
          rwa [show ((l - 1 : Nat) : Int) = (l : Int) - 1 by omega] at this
        have B2 : Below w0.heap.size w0 (wr.setCell ⟨X, 2, none⟩ (.int .i64 ((l : Int) - 1))) := hB.setCell hX _
        clear hW hB
        have hjt : j < s.len := by rw [HLN.out]; exact hlt
        have C : C17 _ s.b (s.o + j * 17) (s.ps j) := (HS.out.1.kept B2).cells hjt
        have P : (s.ps j).At w0 := HS.out.1.part hjt
        have R : (s.ps j).all Q := HS.out.2 j hlt
        go_wp2
        generalize wr.setCell ⟨X, 2, none⟩ (.int .i64 ((l : Int) - 1)) = w2 at *
        have H1 : ∀ u, Below w0.heap.size w0 u → Calls Tryz.prog 59 #[.agg (s.ps j).va, .agg (s.ps j).va, .pointer (some ⟨pb, 0, none⟩)] u fun e w' => e = .returned (.bool true) ∧ Below u.heap.size u w' := fun u hu => HQ _ R.self P u hu
        have H2 := fun u (hu : Wx pb u X (l - 1)) (hv : Below w0.heap.size w0 u) => ih j hlt u (l - 1) P (fun i hi => R.part hi) HN.out.1 (by have := HN.out.2.1; omega) hu hv
        have k0 := fun x => Gr.cell x W2.c1
        have k9 := fun x => Gr.cell x W2.c0
        have hC : ∀ u, (∃ x : Gr w2, u = x.w) → C17 u s.b (s.o + j * 17) (s.ps j) := fun u ⟨x, hx⟩ => by rw [hx]; exact C.kept x.bl
        have hNE : Nonempty (Gr w2) := ⟨⟨_, Below.refl _ _⟩⟩
        clear hjt R
        obtain ⟨x, hx⟩ : ∃ x, x = s.ps j := ⟨_, rfl⟩
        rw [← hx] at hC C P H1 H2 HN
        have HX : Hid (s.ps j = x) := hx.symm
        clear hx
        refine wp_region_gr_tail 34 (by kernel_rfl) (by kernel_rfl) ?_
        simp only [List.take, List.drop]
        iterate 7 go_big_quiet_step ((first | (go_at_call 59; exact Calls.gr _ (H1 _ (Below.next B2 (Gr.bl _)))) | (go_at_call 58; exact Calls.gr _ (epartsV x _))))
        go_big_quiet_want
        refine quiet_load_ex (.tmp 40) rfl _ _ (by kernel_rfl) x hC ?_
        simp only [Act.put, List.setIfInBounds_toArray, List.set_cons_succ, List.set_cons_zero]
        go_big_quiet_on
        iterate 3 go_big_quiet_step ((first | (go_at_call 59; exact Calls.gr _ (H1 _ (Below.next B2 (Gr.bl _)))) | (go_at_call 58; exact Calls.gr _ (epartsV x _))))
        go_big_quiet_want
        refine quiet_load_ex (.tmp 44) rfl _ _ (by kernel_rfl) x hC ?_
        simp only [Act.put, List.setIfInBounds_toArray, List.set_cons_succ, List.set_cons_zero]
        go_big_quiet_on
        iterate 11 go_big_quiet_step ((first | (go_at_call 59; exact Calls.gr _ (H1 _ (Below.next B2 (Gr.bl _)))) | (go_at_call 58; exact Calls.gr _ (epartsV x _))))
        go_big_quiet_want
        refine quiet_load_ex (.tmp 56) rfl _ _ (by kernel_rfl) x hC ?_
        simp only [Act.put, List.setIfInBounds_toArray, List.set_cons_succ, List.set_cons_zero]
        go_big_quiet_on
        iterate 8 go_big_quiet_step ((first | (go_at_call 59; exact Calls.gr _ (H1 _ (Below.next B2 (Gr.bl _)))) | (go_at_call 58; exact Calls.gr _ (epartsV x _))))
        go_big_quiet_want
        refine quiet_load_ex (.tmp 65) rfl _ _ (by kernel_rfl) x hC ?_
        simp only [Act.put, List.setIfInBounds_toArray, List.set_cons_succ, List.set_cons_zero]
        go_big_quiet_on
        iterate 1 go_big_quiet_step ((first | (go_at_call 59; exact Calls.gr _ (H1 _ (Below.next B2 (Gr.bl _)))) | (go_at_call 58; exact Calls.gr _ (epartsV x _))))
        refine wpQuiet_nil ?_
        rintro w4 ⟨x4, rfl⟩
        have B4 := x4.bl
        generalize x4.w = w4 at B4 ⊢
        clear x4 k0 k9 hNE hC C P H1
        have H3 := H2 w4 (W2.kept B4) (Below.next B2 B4)
        clear H2 W2 B2 B4
        go_wp2_with fail
        refine H3.mono ?_
        rintro e w6 ⟨rfl, B6, W6⟩
        clear H3
        go_wp2
        go_roundw
        case rel => exact ⟨j + 1, l - 1 - x.pn, by omega, by go_num, by have h1 := HD.out; have h3 := HN.out; have h4 := HX.out; simp only [sumTo, h4]; omega, W6, B6⟩
        case measure => simp [intOf]; omega
      · have e : len = j := by omega
        subst e
        have dl : ¬ (len : Int) < len := by omega
        go_wp2
        go_ret
        have e1 : l = L - N := by have := HL.out; omega
        exact ⟨rfl, hB, e1 ▸ hW⟩
end Go.Proofs.YtepgdkigncjalaaGreat

/- Layer 6: nodeFormed, where all is formed. -/
namespace Go.Proofs.YtepgdkigncjalaaGreat
open Go.RowKit

set_option maxRecDepth 100000 in
set_option maxHeartbeats 8000000 in
theorem nodeFormed_yes (n : Strs) (g : Grid) (e : Ex) (w : World) (hk6 : (e.k == 6) = false) (ar0 : e.ar = ⟨#[]⟩) (m0 : e.m = 0) (gz : e.gv = zT) (b1 b2 : Bool)
    (H83 : ∀ u, Yes 83 #[.int .i64 e.k] u (.int .i64 e.len))
    (H84 : ∀ u, Below w.heap.size w u → Yes 84 #[.agg #[.slice n.ao n.len n.cap, .slice g.ao g.len g.cap], .agg e.va] u (.bool true))
    (H86 : ∀ u, Yes 86 #[.int .i64 e.k] u (.bool b1))
    (H85 : ∀ u, Yes 85 #[.string e.tx, .bool b1] u (.bool true))
    (H88 : ∀ u, Yes 88 #[.int .i64 e.k] u (.bool b2))
    (H87 : ∀ u, Below w.heap.size w u → Yes 87 #[.agg #[.slice n.ao n.len n.cap, .slice g.ao g.len g.cap], .agg #[.int .i64 e.ty.k, .int .i64 e.ty.l, .slice e.ty.ao e.ty.len e.ty.cap, .int .i64 e.ty.h, .int .i64 e.ty.e], .bool b2] u (.bool true)) :
    Yes 60 #[.agg #[.slice n.ao n.len n.cap, .slice g.ao g.len g.cap], .agg e.va] w (.bool true) := by
  obtain ⟨L0, X0, B0⟩ := start_le w n g e
  have z4 := X0.c4
  rw [ar0] at z4
  have z2 := X0.c2
  rw [m0] at z2
  have z10 := X0.c10
  rw [gz] at z10
  change _ = some (Value.int .i64 0) at z10
  have z11 := X0.c11
  rw [gz] at z11
  change _ = some (Value.int .i64 0) at z11
  have z12 := X0.c12
  rw [gz] at z12
  change _ = some (Value.slice none 0 0) at z12
  have z13 := X0.c13
  rw [gz] at z13
  change _ = some (Value.int .i64 0) at z13
  have z14 := X0.c14
  rw [gz] at z14
  change _ = some (Value.int .i64 0) at z14
  have k0 := X0.c0
  clear ar0 m0 gz
  unfold Yes at *
  go_enter Tryz.func60, Tryz.ntmps60
  go_wp2
  generalize ((w.alloc (.cells #[.slice n.ao n.len n.cap, .slice g.ao g.len g.cap] 25)).alloc (.cells e.va 37)) = w2 at *
  have l0 := fun q => Gr.cell q L0.c0
  have l1 := fun q => Gr.cell q L0.c1
  have x0 := fun q => Gr.cell q X0.c0
  have x2 := fun q => Gr.cell q z2
  have x3 := fun q => Gr.cell q X0.c3
  have x4 := fun q => Gr.cell q z4
  have x5 := fun q => Gr.cell q X0.c5
  have x6 := fun q => Gr.cell q X0.c6
  have x7 := fun q => Gr.cell q X0.c7
  have x8 := fun q => Gr.cell q X0.c8
  have x9 := fun q => Gr.cell q X0.c9
  have x10 := fun q => Gr.cell q z10
  have x11 := fun q => Gr.cell q z11
  have x12 := fun q => Gr.cell q z12
  have x13 := fun q => Gr.cell q z13
  have x14 := fun q => Gr.cell q z14
  have x15 := fun q => Gr.cell q X0.c15
  have hNE : Nonempty (Gr w2) := ⟨⟨_, Below.refl _ _⟩⟩
  have hC : ∀ u, (∃ x : Gr w2, u = x.w) → C17 u (w.heap.size + 1) 0 e := fun u ⟨x, hx⟩ => by rw [hx]; exact (C17.ofB X0).kept x.bl
  clear z2 z4 z10 z11 z12 z13 z14 k0 L0 X0
  refine wp_region_gr (by kernel_rfl) (by kernel_rfl) ?_
  iterate 9
    go_big_quiet_step ((first
      | (go_at_call 83; exact Calls.gr _ (H83 _))
      | (go_at_call 84; exact Calls.gr _ (H84 _ (Below.next B0 (Gr.bl _))))
      | (go_at_call 86; exact Calls.gr _ (H86 _))
      | (go_at_call 85; first | with_reducible exact Calls.gr _ (H85 _) | with_reducible exact Calls.gr _ (nameFormed_no _))
      | (go_at_call 88; exact Calls.gr _ (H88 _))
      | (go_at_call 87; first | with_reducible exact Calls.gr _ (H87 _ (Below.next B0 (Gr.bl _))) | with_reducible exact Calls.gr _ (typeFormed_no n g _))))
  go_big_quiet_want
  refine quiet_load_ex (.tmp 3) rfl _ _ (by kernel_rfl) e hC ?_
  simp only [Act.put, List.setIfInBounds_toArray, List.set_cons_succ, List.set_cons_zero]
  go_big_quiet_on
  repeat
    go_big_quiet_step ((first
      | (go_at_call 83; exact Calls.gr _ (H83 _))
      | (go_at_call 84; exact Calls.gr _ (H84 _ (Below.next B0 (Gr.bl _))))
      | (go_at_call 86; exact Calls.gr _ (H86 _))
      | (go_at_call 85; first | with_reducible exact Calls.gr _ (H85 _) | with_reducible exact Calls.gr _ (nameFormed_no _))
      | (go_at_call 88; exact Calls.gr _ (H88 _))
      | (go_at_call 87; first | with_reducible exact Calls.gr _ (H87 _ (Below.next B0 (Gr.bl _))) | with_reducible exact Calls.gr _ (typeFormed_no n g _))))
  refine wpQuiet_nil ?_
  rintro w4 ⟨q4, rfl⟩
  have B4 := q4.bl
  generalize q4.w = w4 at B4 ⊢
  clear q4 l0 l1 x0 x2 x3 x4 x5 x6 x7 x8 x9 x10 x11 x12 x13 x14 x15 hNE hC H83 H84 H85 H86 H87 H88
  go_wp2
  go_ret
  exact ⟨rfl, Below.next B0 B4⟩
end Go.Proofs.YtepgdkigncjalaaGreat

/- Layer 6: a program that is formed. -/
namespace Go.Proofs.YtepgdkigncjalaaGreat
open Go.RowKit

/-- A program's values. -/
def pvL (n : Strs) (g : Grid) (a : ByteArray) (p r : Ty) (x : Int) (e : Ex) : List Value := [.slice n.ao n.len n.cap, .slice g.ao g.len g.cap, .string a, .int .i64 p.k, .int .i64 p.l, .slice p.ao p.len p.cap, .int .i64 p.h, .int .i64 p.e, .int .i64 r.k, .int .i64 r.l, .slice r.ao r.len r.cap, .int .i64 r.h, .int .i64 r.e, .int .i64 x] ++ e.vs
def pv (n : Strs) (g : Grid) (a : ByteArray) (p r : Ty) (x : Int) (e : Ex) : Array Value := (pvL n g a p r x e).toArray
theorem new_cell (w : World) (l : List Value) (t : TypeId) (i : Nat) (v : Value) (h : l[i]? = some v) : (w.alloc (.cells l.toArray t)).cell? ⟨w.heap.size, i, none⟩ = some v := by simp [h]
/-- A variable that holds a program. -/
structure Bp (w : World) (B : Nat) (n : Strs) (g : Grid) (a : ByteArray) (p r : Ty) (x : Int) (e : Ex) : Prop where
  c0 : w.cell? ⟨B, 0, none⟩ = some (.slice n.ao n.len n.cap)
  c1 : w.cell? ⟨B, 1, none⟩ = some (.slice g.ao g.len g.cap)
  c2 : w.cell? ⟨B, 2, none⟩ = some (.string a)
  c3 : w.cell? ⟨B, 3, none⟩ = some (.int .i64 p.k)
  c4 : w.cell? ⟨B, 4, none⟩ = some (.int .i64 p.l)
  c5 : w.cell? ⟨B, 5, none⟩ = some (.slice p.ao p.len p.cap)
  c6 : w.cell? ⟨B, 6, none⟩ = some (.int .i64 p.h)
  c7 : w.cell? ⟨B, 7, none⟩ = some (.int .i64 p.e)
  c8 : w.cell? ⟨B, 8, none⟩ = some (.int .i64 r.k)
  c9 : w.cell? ⟨B, 9, none⟩ = some (.int .i64 r.l)
  c10 : w.cell? ⟨B, 10, none⟩ = some (.slice r.ao r.len r.cap)
  c11 : w.cell? ⟨B, 11, none⟩ = some (.int .i64 r.h)
  c12 : w.cell? ⟨B, 12, none⟩ = some (.int .i64 r.e)
  c13 : w.cell? ⟨B, 13, none⟩ = some (.int .i64 x)
  body : C17 w B 14 e
theorem Bp.kept {w w' : World} {B : Nat} {n : Strs} {g : Grid} {a : ByteArray} {p r : Ty} {x : Int} {e : Ex} (h : Bp w B n g a p r x e) (hb : Below w.heap.size w w') : Bp w' B n g a p r x e := ⟨up hb h.c0, up hb h.c1, up hb h.c2, up hb h.c3, up hb h.c4, up hb h.c5, up hb h.c6, up hb h.c7, up hb h.c8, up hb h.c9, up hb h.c10, up hb h.c11, up hb h.c12, up hb h.c13, h.body.kept hb⟩
theorem Bp.new (w : World) (n : Strs) (g : Grid) (a : ByteArray) (p r : Ty) (x : Int) (e : Ex) : Bp (w.alloc (.cells (pv n g a p r x e) 85)) w.heap.size n g a p r x e :=
  have key := fun i v h => new_cell w (pvL n g a p r x e) 85 i v h
  ⟨key 0 _ rfl, key 1 _ rfl, key 2 _ rfl, key 3 _ rfl, key 4 _ rfl, key 5 _ rfl, key 6 _ rfl, key 7 _ rfl, key 8 _ rfl, key 9 _ rfl, key 10 _ rfl, key 11 _ rfl, key 12 _ rfl, key 13 _ rfl, ⟨key 14 _ rfl, key 15 _ rfl, key 16 _ rfl, key 17 _ rfl, key 18 _ rfl, key 19 _ rfl, key 20 _ rfl, key 21 _ rfl, key 22 _ rfl, key 23 _ rfl, key 24 _ rfl, key 25 _ rfl, key 26 _ rfl, key 27 _ rfl, key 28 _ rfl, key 29 _ rfl, key 30 _ rfl⟩⟩

set_option maxHeartbeats 1000000 in
theorem formed1_yes (n : Strs) (g : Grid) (e : Ex) (pb : Nat) (w : World) (h0 : w.cell? ⟨pb, 0, none⟩ = some (.slice n.ao n.len n.cap)) (h1 : w.cell? ⟨pb, 1, none⟩ = some (.slice g.ao g.len g.cap))
    (hN : ∀ u, Below w.heap.size w u → Yes 60 #[.agg #[.slice n.ao n.len n.cap, .slice g.ao g.len g.cap], .agg e.va] u (.bool true)) : Yes 59 #[.agg e.va, .agg e.va, .pointer (some ⟨pb, 0, none⟩)] w (.bool true) := by
  have B1 := below_alloc w (.cells e.va 37)
  have B2 := Below.next B1 (below_alloc (w.alloc (.cells e.va 37)) (.cells e.va 37))
  have X0 := (Bex.newV w e).kept (below_alloc (w.alloc (.cells e.va 37)) (.cells e.va 37))
  have y0 := up B2 h0
  have y1 := up B2 h1
  have H := hN _ B2
  clear h0 h1 hN B1
  unfold Yes at *
  go_enter Tryz.func59, Tryz.ntmps59
  go_wp2_with (refine wpList_load_exB rfl (.tmp 3) rfl _ rfl e X0 ?_)
  refine H.mono ?_
  rintro r w1 ⟨rfl, hb1⟩
  clear X0 H y0 y1
  go_wp2
  go_ret
  exact ⟨rfl, Below.next B2 hb1⟩

theorem wx_new (pb : Nat) (w : World) : Wx pb (w.alloc (.cells #[.func (.func 58) #[] #[], .func (.func 59) #[] #[.pointer (some ⟨pb, 0, none⟩)], .int .i64 4000, .slice none 0 0, .map none] 126)) w.heap.size 4000 := by
  constructor <;> simp

set_option maxRecDepth 100000 in
set_option maxHeartbeats 4000000 in
theorem exeverywhere_yes (pb : Nat) (s : Ex) (w : World) (Q : Ex → Prop) (HQ : ∀ x, Q x → ∀ u, x.At u → Below w.heap.size w u → Yes 59 #[.agg x.va, .agg x.va, .pointer (some ⟨pb, 0, none⟩)] u (.bool true)) (hs : s.At w) (ha : s.all Q) (hL : s.pn ≤ 4000) :
    Yes 57 #[.agg s.va, .agg s.va, .func (.func 58) #[] #[], .func (.func 59) #[] #[.pointer (some ⟨pb, 0, none⟩)]] w (.bool true) := by
  have B0 := Below.next (below_alloc w (.cells s.va 37)) (below_alloc (w.alloc (.cells s.va 37)) (.cells s.va 37))
  have X0 := (Bex.newV w s).kept (below_alloc (w.alloc (.cells s.va 37)) (.cells s.va 37))
  have Y0 := Bex.newV (w.alloc (.cells s.va 37)) s
  rw [alloc_size] at Y0
  have K0 := wx_new pb ((w.alloc (.cells s.va 37)).alloc (.cells s.va 37))
  have BK := below_alloc ((w.alloc (.cells s.va 37)).alloc (.cells s.va 37)) (.cells #[.func (.func 58) #[] #[], .func (.func 59) #[] #[.pointer (some ⟨pb, 0, none⟩)], .int .i64 4000, .slice none 0 0, .map none] 126)
  have X1 := X0.kept BK
  have Y1 := Y0.kept BK
  have sz : ((w.alloc (.cells s.va 37)).alloc (.cells s.va 37)).heap.size = w.heap.size + 2 := by rw [alloc_size, alloc_size]
  have HP := fun u (hu : Wx pb u ((w.alloc (.cells s.va 37)).alloc (.cells s.va 37)).heap.size 4000) (hv : Below ((w.alloc (.cells s.va 37)).alloc (.cells s.va 37)).heap.size ((w.alloc (.cells s.va 37)).alloc (.cells s.va 37)) u) => exthrough_yes pb _ _ (Nat.le_refl _) Q (fun x hx hA u hu => HQ x hx u (hA.kept hu) (Below.next B0 hu)) s u 4000 (hs.kept B0) (fun i hi => ha.part hi) hL (Nat.le_refl _) hu hv
  rw [sz] at HP K0
  have HB : Hid (Below w.heap.size w ((w.alloc (.cells s.va 37)).alloc (.cells s.va 37))) := B0
  have HZ : Hid (((w.alloc (.cells s.va 37)).alloc (.cells s.va 37)).heap.size = w.heap.size + 2) := sz
  have H1 : ∀ u, Below ((w.alloc (.cells s.va 37)).alloc (.cells s.va 37)).heap.size ((w.alloc (.cells s.va 37)).alloc (.cells s.va 37)) u → Calls Tryz.prog 59 #[.agg s.va, .agg s.va, .pointer (some ⟨pb, 0, none⟩)] u fun e w' => e = .returned (.bool true) ∧ Below u.heap.size u w' := fun u hu => HQ s ha.self u ((hs.kept B0).kept hu) (Below.next B0 hu)
  clear B0 sz HQ hs ha X0 Y0
  unfold Yes
  go_enter Tryz.func57, Tryz.ntmps57
  go_wp2
  generalize ((w.alloc (.cells s.va 37)).alloc (.cells s.va 37)) = w0 at *
  generalize w0.alloc (.cells #[.func (.func 58) #[] #[], .func (.func 59) #[] #[.pointer (some ⟨pb, 0, none⟩)], .int .i64 4000, .slice none 0 0, .map none] 126) = w2 at *
  have hNE : Nonempty (Gr w2) := ⟨⟨_, Below.refl _ _⟩⟩
  have hC : ∀ u, (∃ x : Gr w2, u = x.w) → C17 u w.heap.size 0 s := fun u ⟨x, hx⟩ => by rw [hx]; exact (C17.ofB X1).kept x.bl
  have hD : ∀ u, (∃ x : Gr w2, u = x.w) → C17 u (w.heap.size + 1) 0 s := fun u ⟨x, hx⟩ => by rw [hx]; exact (C17.ofB Y1).kept x.bl
  have hP := fun (w5 : World) (B5 : Below w2.heap.size w2 w5) => HP w5 (K0.kept B5) ((Below.next BK B5).mono (Nat.le_of_eq HZ.out.symm))
  clear HP K0 X1 Y1
  refine wp_region_gr_tail 12 (by kernel_rfl) (by kernel_rfl) ?_
  simp only [List.take, List.drop]
  iterate 1 go_big_quiet_step ((first | (go_at_call 59; exact Calls.gr _ (H1 _ (Below.next BK (Gr.bl _)))) | (go_at_call 58; exact Calls.gr _ (epartsV s _))))
  go_big_quiet_want
  refine quiet_load_ex (.tmp 4) rfl _ _ (by kernel_rfl) s hC ?_
  simp only [Act.put, List.setIfInBounds_toArray, List.set_cons_succ, List.set_cons_zero]
  go_big_quiet_on
  go_big_quiet_want
  refine quiet_load_ex (.tmp 5) rfl _ _ (by kernel_rfl) s hD ?_
  simp only [Act.put, List.setIfInBounds_toArray, List.set_cons_succ, List.set_cons_zero]
  go_big_quiet_on
  iterate 4 go_big_quiet_step ((first | (go_at_call 59; exact Calls.gr _ (H1 _ (Below.next BK (Gr.bl _)))) | (go_at_call 58; exact Calls.gr _ (epartsV s _))))
  go_big_quiet_want
  refine quiet_load_ex (.tmp 4) rfl _ _ (by kernel_rfl) s hC ?_
  simp only [Act.put, List.setIfInBounds_toArray, List.set_cons_succ, List.set_cons_zero]
  go_big_quiet_on
  iterate 2 go_big_quiet_step ((first | (go_at_call 59; exact Calls.gr _ (H1 _ (Below.next BK (Gr.bl _)))) | (go_at_call 58; exact Calls.gr _ (epartsV s _))))
  go_big_quiet_want
  refine quiet_load_ex (.tmp 5) rfl _ _ (by kernel_rfl) s hD ?_
  simp only [Act.put, List.setIfInBounds_toArray, List.set_cons_succ, List.set_cons_zero]
  go_big_quiet_on
  iterate 1 go_big_quiet_step ((first | (go_at_call 59; exact Calls.gr _ (H1 _ (Below.next BK (Gr.bl _)))) | (go_at_call 58; exact Calls.gr _ (epartsV s _))))
  refine wpQuiet_nil ?_
  rintro w4 ⟨q4, rfl⟩
  have B4 := q4.bl
  generalize q4.w = w4 at B4 ⊢
  clear q4 hNE H1 hC hD
  have H3 := hP w4 B4
  clear hP
  go_wp2_with fail
  refine H3.mono ?_
  rintro e w6 ⟨rfl, B6, W6⟩
  have HR : Hid (Below w.heap.size w w6) := Below.next HB.out (by rw [HZ.out]; exact B6)
  have k2 := W6.c3
  clear H3 W6 B6
  go_wp2
  go_loopw [10] (fun _ wr => wr = w6) (fun _ _ => 0)
  case atStart => rfl
  case round =>
    subst hrel
    go_wp2
    go_ret
    exact ⟨rfl, HR.out⟩
end Go.Proofs.YtepgdkigncjalaaGreat
