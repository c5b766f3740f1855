/- Layer 7: the rules' choice by Kind. -/
import Derived.Test.YtepgdkigncjalaaGreatP17
namespace Go.Proofs.YtepgdkigncjalaaGreat
open Go Go.RowKit

set_option maxRecDepth 100000 in
set_option maxHeartbeats 4000000 in
theorem rule_int (n : Strs) (g : Grid) (e : Ex) (sb : Nat) (pc hp : Int) (w : World) (hK : e.k = 1) : RuleOk n g e sb pc hp 1 pc (-1) w := by
  have H := allocs_heap [.cells #[.slice n.ao n.len n.cap, .slice g.ao g.len g.cap] 92, .cells e.va 37, .cells #[.pointer (some ⟨sb, 0, none⟩), .int .i64 pc, .int .i64 hp] 73, .cells #[.int .i64 0, .int .i64 0, .slice none 0 0, .int .i64 0, .int .i64 0] 34] w
  have B0 := allocs_below [.cells #[.slice n.ao n.len n.cap, .slice g.ao g.len g.cap] 92, .cells e.va 37, .cells #[.pointer (some ⟨sb, 0, none⟩), .int .i64 pc, .int .i64 hp] 73, .cells #[.int .i64 0, .int .i64 0, .slice none 0 0, .int .i64 0, .int .i64 0] 34] w
  simp only [List.foldl] at H B0
  have bA : Blk _ w.heap.size [.slice n.ao n.len n.cap, .slice g.ao g.len g.cap] 92 := H 0 (by simp)
  have bE : Blk _ (w.heap.size + 1) e.vs 37 := H 1 (by simp)
  have bW : Blk _ (w.heap.size + 2) [.pointer (some ⟨sb, 0, none⟩), .int .i64 pc, .int .i64 hp] 73 := H 2 (by simp)
  have bZ : Blk _ (w.heap.size + 3) [.int .i64 0, .int .i64 0, .slice none 0 0, .int .i64 0, .int .i64 0] 34 := H 3 (by simp)
  clear H
  have a0 := bA.cell 0 rfl
  have a1 := bA.cell 1 rfl
  have X0 := C17.of_range bE.range
  have k0 : _ = some (Value.int .i64 e.k) := bE.cell 0 rfl
  rw [hK] at k0
  have w0 := bW.cell 0 rfl
  have w1 := bW.cell 1 rfl
  have w2 := bW.cell 2 rfl
  clear bA bE bW hK
  unfold RuleOk
  go_enter Tryz.func61, Tryz.ntmps61
  go_wp2_with fail
  refine (jplain 1 pc _).mono ?_
  rintro _ w3 ⟨rfl, hb3⟩
  have bZ3 := bZ.kept hb3
  clear a0 a1 X0 k0 w0 w1 w2
  go_wp2_with (refine wpList_store_blk rfl rfl 34 (.tmp 6) (.tmp 26) rfl (w.heap.size + 3) [.int .i64 1, .int .i64 pc, .slice none 0 0, .int .i64 0, .int .i64 0] rfl rfl rfl bZ3 rfl (by kernel_rfl) ?_; intro w9 W9)
  have c0 := W9.blk.cell 0 rfl
  have c1 := W9.blk.cell 1 rfl
  have c2 := W9.blk.cell 2 rfl
  have c3 := W9.blk.cell 3 rfl
  have c4 := W9.blk.cell 4 rfl
  refine bodyPost_ret (v := .tuple #[.agg #[.int .i64 1, .int .i64 pc, .slice none 0 0, .int .i64 0, .int .i64 0], .int .i64 (-1)]) (by simp [results, Tryz.results61, go_sem, c0, c1, c2, c3, c4]) rfl ⟨⟨none, 0, rfl⟩, W9.below (by omega) (Below.next B0 hb3)⟩

set_option maxRecDepth 100000 in
set_option maxHeartbeats 4000000 in
theorem rule_var (n : Strs) (g : Grid) (e : Ex) (sb eb : Nat) (env : List Nm) (pc hp : Int) (w : World) (hn : n.At w) (hg : g.At w) (hF : formedB n g = true) (hS : Sc w sb eb env) (hlen : env.length ≤ 1000) (m : Nat) (x : Nm) (hm : env[m]? = some x) (hx : x.s = e.tx) (hlast : ∀ j y, m < j → env[j]? = some y → (y.s.toList == e.tx.toList) = false)
    (hk : x.k = 1 ∨ x.k = 2) (hl : inR n.len x.l = true) (hpc : inR n.len pc = true) (hK : e.k = 3) : RuleOk n g e sb pc hp x.k (joinI n g x.l pc) (-1) w := by
  have H := allocs_heap [.cells #[.slice n.ao n.len n.cap, .slice g.ao g.len g.cap] 92, .cells e.va 37, .cells #[.pointer (some ⟨sb, 0, none⟩), .int .i64 pc, .int .i64 hp] 73, .cells #[.int .i64 0, .int .i64 0, .slice none 0 0, .int .i64 0, .int .i64 0] 34] w
  have B0 := allocs_below [.cells #[.slice n.ao n.len n.cap, .slice g.ao g.len g.cap] 92, .cells e.va 37, .cells #[.pointer (some ⟨sb, 0, none⟩), .int .i64 pc, .int .i64 hp] 73, .cells #[.int .i64 0, .int .i64 0, .slice none 0 0, .int .i64 0, .int .i64 0] 34] w
  simp only [List.foldl] at H B0
  have bA : Blk _ w.heap.size [.slice n.ao n.len n.cap, .slice g.ao g.len g.cap] 92 := H 0 (by simp)
  have bE : Blk _ (w.heap.size + 1) e.vs 37 := H 1 (by simp)
  have bW : Blk _ (w.heap.size + 2) [.pointer (some ⟨sb, 0, none⟩), .int .i64 pc, .int .i64 hp] 73 := H 2 (by simp)
  have bZ : Blk _ (w.heap.size + 3) [.int .i64 0, .int .i64 0, .slice none 0 0, .int .i64 0, .int .i64 0] 34 := H 3 (by simp)
  clear H
  have a0 := bA.cell 0 rfl
  have a1 := bA.cell 1 rfl
  have X0 := C17.of_range bE.range
  have k0 : _ = some (Value.int .i64 e.k) := bE.cell 0 rfl
  rw [hK] at k0
  have w0 := bW.cell 0 rfl
  have w1 := bW.cell 1 rfl
  have w2 := bW.cell 2 rfl
  have hM := jname n g e sb eb env pc hp _ (hn.kept B0) (hg.kept B0) hF (hS.kept B0) hlen m x hm hx hlast hk hl hpc
  clear bA bE bW hK hn hg hF hS hlen hm hx hlast hk hl hpc
  unfold RuleOk
  go_enter Tryz.func61, Tryz.ntmps61
  go_wp2_with (refine wpList_load_ex rfl (.tmp 4) rfl _ _ rfl e X0 ?_)
  refine hM.mono ?_
  rintro _ w3 ⟨ao', cap', rfl, hb3⟩
  have bZ3 := bZ.kept hb3
  clear a0 a1 X0 k0 w0 w1 w2 hM
  go_wp2_with (refine wpList_store_blk rfl rfl 34 (.tmp 6) (.tmp 37) rfl (w.heap.size + 3) [.int .i64 x.k, .int .i64 (joinI n g x.l pc), .slice ao' 0 cap', .int .i64 0, .int .i64 0] rfl rfl rfl bZ3 rfl (by kernel_rfl) ?_; intro w9 W9)
  have c0 := W9.blk.cell 0 rfl
  have c1 := W9.blk.cell 1 rfl
  have c2 := W9.blk.cell 2 rfl
  have c3 := W9.blk.cell 3 rfl
  have c4 := W9.blk.cell 4 rfl
  refine bodyPost_ret (v := .tuple #[.agg #[.int .i64 x.k, .int .i64 (joinI n g x.l pc), .slice ao' 0 cap', .int .i64 0, .int .i64 0], .int .i64 (-1)]) (by simp [results, Tryz.results61, go_sem, c0, c1, c2, c3, c4]) rfl ⟨⟨ao', cap', rfl⟩, W9.below (by omega) (Below.next B0 hb3)⟩

set_option maxRecDepth 100000 in
set_option maxHeartbeats 4000000 in
theorem rule_choice (n : Strs) (g : Grid) (e : Ex) (sb : Nat) (pc hp k l x : Int) (w : World) (hK : e.k = 5)
    (hM : ∀ u, Below w.heap.size w u → Calls Tryz.prog 92 #[.agg #[.slice n.ao n.len n.cap, .slice g.ao g.len g.cap], .agg e.va, .agg #[.pointer (some ⟨sb, 0, none⟩), .int .i64 pc, .int .i64 hp]] u fun r w' => (∃ ao cap, r = .returned (.tuple #[.agg #[.int .i64 k, .int .i64 l, .slice ao 0 cap, .int .i64 0, .int .i64 0], .int .i64 x])) ∧ Below u.heap.size u w') : RuleOk n g e sb pc hp k l x w := by
  have H := allocs_heap [.cells #[.slice n.ao n.len n.cap, .slice g.ao g.len g.cap] 92, .cells e.va 37, .cells #[.pointer (some ⟨sb, 0, none⟩), .int .i64 pc, .int .i64 hp] 73, .cells #[.int .i64 0, .int .i64 0, .slice none 0 0, .int .i64 0, .int .i64 0] 34] w
  have B0 := allocs_below [.cells #[.slice n.ao n.len n.cap, .slice g.ao g.len g.cap] 92, .cells e.va 37, .cells #[.pointer (some ⟨sb, 0, none⟩), .int .i64 pc, .int .i64 hp] 73, .cells #[.int .i64 0, .int .i64 0, .slice none 0 0, .int .i64 0, .int .i64 0] 34] w
  simp only [List.foldl] at H B0
  have bA : Blk _ w.heap.size [.slice n.ao n.len n.cap, .slice g.ao g.len g.cap] 92 := H 0 (by simp)
  have bE : Blk _ (w.heap.size + 1) e.vs 37 := H 1 (by simp)
  have bW : Blk _ (w.heap.size + 2) [.pointer (some ⟨sb, 0, none⟩), .int .i64 pc, .int .i64 hp] 73 := H 2 (by simp)
  have bZ : Blk _ (w.heap.size + 3) [.int .i64 0, .int .i64 0, .slice none 0 0, .int .i64 0, .int .i64 0] 34 := H 3 (by simp)
  clear H
  have a0 := bA.cell 0 rfl
  have a1 := bA.cell 1 rfl
  have X0 := C17.of_range bE.range
  have k0 : _ = some (Value.int .i64 e.k) := bE.cell 0 rfl
  rw [hK] at k0
  have w0 := bW.cell 0 rfl
  have w1 := bW.cell 1 rfl
  have w2 := bW.cell 2 rfl
  have hM := hM _ B0
  clear bA bE bW hK
  unfold RuleOk
  go_enter Tryz.func61, Tryz.ntmps61
  go_wp2_with (refine wpList_load_ex rfl (.tmp 4) rfl _ _ rfl e X0 ?_)
  refine hM.mono ?_
  rintro _ w3 ⟨⟨ao', cap', rfl⟩, hb3⟩
  have bZ3 := bZ.kept hb3
  clear a0 a1 X0 k0 w0 w1 w2 hM
  go_wp2_with (refine wpList_store_blk rfl rfl 34 (.tmp 6) (.tmp 52) rfl (w.heap.size + 3) [.int .i64 k, .int .i64 l, .slice ao' 0 cap', .int .i64 0, .int .i64 0] rfl rfl rfl bZ3 rfl (by kernel_rfl) ?_; intro w9 W9)
  have c0 := W9.blk.cell 0 rfl
  have c1 := W9.blk.cell 1 rfl
  have c2 := W9.blk.cell 2 rfl
  have c3 := W9.blk.cell 3 rfl
  have c4 := W9.blk.cell 4 rfl
  refine bodyPost_ret (v := .tuple #[.agg #[.int .i64 k, .int .i64 l, .slice ao' 0 cap', .int .i64 0, .int .i64 0], .int .i64 x]) (by simp [results, Tryz.results61, go_sem, c0, c1, c2, c3, c4]) rfl ⟨⟨ao', cap', rfl⟩, W9.below (by omega) (Below.next B0 hb3)⟩

set_option maxRecDepth 100000 in
set_option maxHeartbeats 4000000 in
theorem rule_choice_no (n : Strs) (g : Grid) (e : Ex) (sb : Nat) (pc hp pl c : Int) (w : World) (hK : e.k = 5)
    (hM : ∀ u, Below w.heap.size w u → Calls Tryz.prog 92 #[.agg #[.slice n.ao n.len n.cap, .slice g.ao g.len g.cap], .agg e.va, .agg #[.pointer (some ⟨sb, 0, none⟩), .int .i64 pc, .int .i64 hp]] u fun r w' => r = .panicked (fault pl c) ∧ Below u.heap.size u w') : RuleNo n g e sb pc hp pl c w := by
  have H := allocs_heap [.cells #[.slice n.ao n.len n.cap, .slice g.ao g.len g.cap] 92, .cells e.va 37, .cells #[.pointer (some ⟨sb, 0, none⟩), .int .i64 pc, .int .i64 hp] 73, .cells #[.int .i64 0, .int .i64 0, .slice none 0 0, .int .i64 0, .int .i64 0] 34] w
  have B0 := allocs_below [.cells #[.slice n.ao n.len n.cap, .slice g.ao g.len g.cap] 92, .cells e.va 37, .cells #[.pointer (some ⟨sb, 0, none⟩), .int .i64 pc, .int .i64 hp] 73, .cells #[.int .i64 0, .int .i64 0, .slice none 0 0, .int .i64 0, .int .i64 0] 34] w
  simp only [List.foldl] at H B0
  have bA : Blk _ w.heap.size [.slice n.ao n.len n.cap, .slice g.ao g.len g.cap] 92 := H 0 (by simp)
  have bE : Blk _ (w.heap.size + 1) e.vs 37 := H 1 (by simp)
  have bW : Blk _ (w.heap.size + 2) [.pointer (some ⟨sb, 0, none⟩), .int .i64 pc, .int .i64 hp] 73 := H 2 (by simp)
  have bZ : Blk _ (w.heap.size + 3) [.int .i64 0, .int .i64 0, .slice none 0 0, .int .i64 0, .int .i64 0] 34 := H 3 (by simp)
  clear H
  have a0 := bA.cell 0 rfl
  have a1 := bA.cell 1 rfl
  have X0 := C17.of_range bE.range
  have k0 : _ = some (Value.int .i64 e.k) := bE.cell 0 rfl
  rw [hK] at k0
  have w0 := bW.cell 0 rfl
  have w1 := bW.cell 1 rfl
  have w2 := bW.cell 2 rfl
  have hM := hM _ B0
  clear bA bE bW hK bZ
  unfold RuleNo
  go_enter Tryz.func61, Tryz.ntmps61
  go_wp2_with (refine wpList_load_ex rfl (.tmp 4) rfl _ _ rfl e X0 ?_)
  refine hM.mono ?_
  rintro _ w3 ⟨rfl, hb3⟩
  clear a0 a1 X0 k0 w0 w1 w2 hM
  go_wp2
  exact ⟨rfl, rfl, Below.next B0 hb3⟩

set_option maxRecDepth 100000 in
set_option maxHeartbeats 4000000 in
theorem rule_out (n : Strs) (g : Grid) (e : Ex) (sb : Nat) (pc hp k l x : Int) (w : World) (hK : e.k = 14)
    (hM : ∀ u, Below w.heap.size w u → Calls Tryz.prog 100 #[.agg #[.slice n.ao n.len n.cap, .slice g.ao g.len g.cap], .agg e.va, .agg #[.pointer (some ⟨sb, 0, none⟩), .int .i64 pc, .int .i64 hp]] u fun r w' => (∃ ao cap, r = .returned (.tuple #[.agg #[.int .i64 k, .int .i64 l, .slice ao 0 cap, .int .i64 0, .int .i64 0], .int .i64 x])) ∧ Below u.heap.size u w') : RuleOk n g e sb pc hp k l x w := by
  have H := allocs_heap [.cells #[.slice n.ao n.len n.cap, .slice g.ao g.len g.cap] 92, .cells e.va 37, .cells #[.pointer (some ⟨sb, 0, none⟩), .int .i64 pc, .int .i64 hp] 73, .cells #[.int .i64 0, .int .i64 0, .slice none 0 0, .int .i64 0, .int .i64 0] 34] w
  have B0 := allocs_below [.cells #[.slice n.ao n.len n.cap, .slice g.ao g.len g.cap] 92, .cells e.va 37, .cells #[.pointer (some ⟨sb, 0, none⟩), .int .i64 pc, .int .i64 hp] 73, .cells #[.int .i64 0, .int .i64 0, .slice none 0 0, .int .i64 0, .int .i64 0] 34] w
  simp only [List.foldl] at H B0
  have bA : Blk _ w.heap.size [.slice n.ao n.len n.cap, .slice g.ao g.len g.cap] 92 := H 0 (by simp)
  have bE : Blk _ (w.heap.size + 1) e.vs 37 := H 1 (by simp)
  have bW : Blk _ (w.heap.size + 2) [.pointer (some ⟨sb, 0, none⟩), .int .i64 pc, .int .i64 hp] 73 := H 2 (by simp)
  have bZ : Blk _ (w.heap.size + 3) [.int .i64 0, .int .i64 0, .slice none 0 0, .int .i64 0, .int .i64 0] 34 := H 3 (by simp)
  clear H
  have a0 := bA.cell 0 rfl
  have a1 := bA.cell 1 rfl
  have X0 := C17.of_range bE.range
  have k0 : _ = some (Value.int .i64 e.k) := bE.cell 0 rfl
  rw [hK] at k0
  have w0 := bW.cell 0 rfl
  have w1 := bW.cell 1 rfl
  have w2 := bW.cell 2 rfl
  have hM := hM _ B0
  clear bA bE bW hK
  unfold RuleOk
  go_enter Tryz.func61, Tryz.ntmps61
  go_wp2_with (refine wpList_load_ex rfl (.tmp 4) rfl _ _ rfl e X0 ?_)
  refine hM.mono ?_
  rintro _ w3 ⟨⟨ao', cap', rfl⟩, hb3⟩
  have bZ3 := bZ.kept hb3
  clear a0 a1 X0 k0 w0 w1 w2 hM
  go_wp2_with (refine wpList_store_blk rfl rfl 34 (.tmp 6) (.tmp 124) rfl (w.heap.size + 3) [.int .i64 k, .int .i64 l, .slice ao' 0 cap', .int .i64 0, .int .i64 0] rfl rfl rfl bZ3 rfl (by kernel_rfl) ?_; intro w9 W9)
  have c0 := W9.blk.cell 0 rfl
  have c1 := W9.blk.cell 1 rfl
  have c2 := W9.blk.cell 2 rfl
  have c3 := W9.blk.cell 3 rfl
  have c4 := W9.blk.cell 4 rfl
  refine bodyPost_ret (v := .tuple #[.agg #[.int .i64 k, .int .i64 l, .slice ao' 0 cap', .int .i64 0, .int .i64 0], .int .i64 x]) (by simp [results, Tryz.results61, go_sem, c0, c1, c2, c3, c4]) rfl ⟨⟨ao', cap', rfl⟩, W9.below (by omega) (Below.next B0 hb3)⟩

set_option maxRecDepth 100000 in
set_option maxHeartbeats 4000000 in
theorem rule_out_no (n : Strs) (g : Grid) (e : Ex) (sb : Nat) (pc hp pl c : Int) (w : World) (hK : e.k = 14)
    (hM : ∀ u, Below w.heap.size w u → Calls Tryz.prog 100 #[.agg #[.slice n.ao n.len n.cap, .slice g.ao g.len g.cap], .agg e.va, .agg #[.pointer (some ⟨sb, 0, none⟩), .int .i64 pc, .int .i64 hp]] u fun r w' => r = .panicked (fault pl c) ∧ Below u.heap.size u w') : RuleNo n g e sb pc hp pl c w := by
  have H := allocs_heap [.cells #[.slice n.ao n.len n.cap, .slice g.ao g.len g.cap] 92, .cells e.va 37, .cells #[.pointer (some ⟨sb, 0, none⟩), .int .i64 pc, .int .i64 hp] 73, .cells #[.int .i64 0, .int .i64 0, .slice none 0 0, .int .i64 0, .int .i64 0] 34] w
  have B0 := allocs_below [.cells #[.slice n.ao n.len n.cap, .slice g.ao g.len g.cap] 92, .cells e.va 37, .cells #[.pointer (some ⟨sb, 0, none⟩), .int .i64 pc, .int .i64 hp] 73, .cells #[.int .i64 0, .int .i64 0, .slice none 0 0, .int .i64 0, .int .i64 0] 34] w
  simp only [List.foldl] at H B0
  have bA : Blk _ w.heap.size [.slice n.ao n.len n.cap, .slice g.ao g.len g.cap] 92 := H 0 (by simp)
  have bE : Blk _ (w.heap.size + 1) e.vs 37 := H 1 (by simp)
  have bW : Blk _ (w.heap.size + 2) [.pointer (some ⟨sb, 0, none⟩), .int .i64 pc, .int .i64 hp] 73 := H 2 (by simp)
  have bZ : Blk _ (w.heap.size + 3) [.int .i64 0, .int .i64 0, .slice none 0 0, .int .i64 0, .int .i64 0] 34 := H 3 (by simp)
  clear H
  have a0 := bA.cell 0 rfl
  have a1 := bA.cell 1 rfl
  have X0 := C17.of_range bE.range
  have k0 : _ = some (Value.int .i64 e.k) := bE.cell 0 rfl
  rw [hK] at k0
  have w0 := bW.cell 0 rfl
  have w1 := bW.cell 1 rfl
  have w2 := bW.cell 2 rfl
  have hM := hM _ B0
  clear bA bE bW hK bZ
  unfold RuleNo
  go_enter Tryz.func61, Tryz.ntmps61
  go_wp2_with (refine wpList_load_ex rfl (.tmp 4) rfl _ _ rfl e X0 ?_)
  refine hM.mono ?_
  rintro _ w3 ⟨rfl, hb3⟩
  clear a0 a1 X0 k0 w0 w1 w2 hM
  go_wp2
  exact ⟨rfl, rfl, Below.next B0 hb3⟩

set_option maxRecDepth 100000 in
set_option maxHeartbeats 4000000 in
theorem rule_raising (n : Strs) (g : Grid) (e : Ex) (sb : Nat) (pc hp k l x : Int) (w : World) (hK : e.k = 15)
    (hM : ∀ u, Below w.heap.size w u → Calls Tryz.prog 101 #[.agg #[.slice n.ao n.len n.cap, .slice g.ao g.len g.cap], .agg e.va, .agg #[.pointer (some ⟨sb, 0, none⟩), .int .i64 pc, .int .i64 hp]] u fun r w' => (∃ ao cap, r = .returned (.tuple #[.agg #[.int .i64 k, .int .i64 l, .slice ao 0 cap, .int .i64 0, .int .i64 0], .int .i64 x])) ∧ Below u.heap.size u w') : RuleOk n g e sb pc hp k l x w := by
  have H := allocs_heap [.cells #[.slice n.ao n.len n.cap, .slice g.ao g.len g.cap] 92, .cells e.va 37, .cells #[.pointer (some ⟨sb, 0, none⟩), .int .i64 pc, .int .i64 hp] 73, .cells #[.int .i64 0, .int .i64 0, .slice none 0 0, .int .i64 0, .int .i64 0] 34] w
  have B0 := allocs_below [.cells #[.slice n.ao n.len n.cap, .slice g.ao g.len g.cap] 92, .cells e.va 37, .cells #[.pointer (some ⟨sb, 0, none⟩), .int .i64 pc, .int .i64 hp] 73, .cells #[.int .i64 0, .int .i64 0, .slice none 0 0, .int .i64 0, .int .i64 0] 34] w
  simp only [List.foldl] at H B0
  have bA : Blk _ w.heap.size [.slice n.ao n.len n.cap, .slice g.ao g.len g.cap] 92 := H 0 (by simp)
  have bE : Blk _ (w.heap.size + 1) e.vs 37 := H 1 (by simp)
  have bW : Blk _ (w.heap.size + 2) [.pointer (some ⟨sb, 0, none⟩), .int .i64 pc, .int .i64 hp] 73 := H 2 (by simp)
  have bZ : Blk _ (w.heap.size + 3) [.int .i64 0, .int .i64 0, .slice none 0 0, .int .i64 0, .int .i64 0] 34 := H 3 (by simp)
  clear H
  have a0 := bA.cell 0 rfl
  have a1 := bA.cell 1 rfl
  have X0 := C17.of_range bE.range
  have k0 : _ = some (Value.int .i64 e.k) := bE.cell 0 rfl
  rw [hK] at k0
  have w0 := bW.cell 0 rfl
  have w1 := bW.cell 1 rfl
  have w2 := bW.cell 2 rfl
  have hM := hM _ B0
  clear bA bE bW hK
  unfold RuleOk
  go_enter Tryz.func61, Tryz.ntmps61
  go_wp2_with (refine wpList_load_ex rfl (.tmp 4) rfl _ _ rfl e X0 ?_)
  refine hM.mono ?_
  rintro _ w3 ⟨⟨ao', cap', rfl⟩, hb3⟩
  have bZ3 := bZ.kept hb3
  clear a0 a1 X0 k0 w0 w1 w2 hM
  go_wp2_with (refine wpList_store_blk rfl rfl 34 (.tmp 6) (.tmp 132) rfl (w.heap.size + 3) [.int .i64 k, .int .i64 l, .slice ao' 0 cap', .int .i64 0, .int .i64 0] rfl rfl rfl bZ3 rfl (by kernel_rfl) ?_; intro w9 W9)
  have c0 := W9.blk.cell 0 rfl
  have c1 := W9.blk.cell 1 rfl
  have c2 := W9.blk.cell 2 rfl
  have c3 := W9.blk.cell 3 rfl
  have c4 := W9.blk.cell 4 rfl
  refine bodyPost_ret (v := .tuple #[.agg #[.int .i64 k, .int .i64 l, .slice ao' 0 cap', .int .i64 0, .int .i64 0], .int .i64 x]) (by simp [results, Tryz.results61, go_sem, c0, c1, c2, c3, c4]) rfl ⟨⟨ao', cap', rfl⟩, W9.below (by omega) (Below.next B0 hb3)⟩

set_option maxRecDepth 100000 in
set_option maxHeartbeats 4000000 in
theorem rule_raising_no (n : Strs) (g : Grid) (e : Ex) (sb : Nat) (pc hp pl c : Int) (w : World) (hK : e.k = 15)
    (hM : ∀ u, Below w.heap.size w u → Calls Tryz.prog 101 #[.agg #[.slice n.ao n.len n.cap, .slice g.ao g.len g.cap], .agg e.va, .agg #[.pointer (some ⟨sb, 0, none⟩), .int .i64 pc, .int .i64 hp]] u fun r w' => r = .panicked (fault pl c) ∧ Below u.heap.size u w') : RuleNo n g e sb pc hp pl c w := by
  have H := allocs_heap [.cells #[.slice n.ao n.len n.cap, .slice g.ao g.len g.cap] 92, .cells e.va 37, .cells #[.pointer (some ⟨sb, 0, none⟩), .int .i64 pc, .int .i64 hp] 73, .cells #[.int .i64 0, .int .i64 0, .slice none 0 0, .int .i64 0, .int .i64 0] 34] w
  have B0 := allocs_below [.cells #[.slice n.ao n.len n.cap, .slice g.ao g.len g.cap] 92, .cells e.va 37, .cells #[.pointer (some ⟨sb, 0, none⟩), .int .i64 pc, .int .i64 hp] 73, .cells #[.int .i64 0, .int .i64 0, .slice none 0 0, .int .i64 0, .int .i64 0] 34] w
  simp only [List.foldl] at H B0
  have bA : Blk _ w.heap.size [.slice n.ao n.len n.cap, .slice g.ao g.len g.cap] 92 := H 0 (by simp)
  have bE : Blk _ (w.heap.size + 1) e.vs 37 := H 1 (by simp)
  have bW : Blk _ (w.heap.size + 2) [.pointer (some ⟨sb, 0, none⟩), .int .i64 pc, .int .i64 hp] 73 := H 2 (by simp)
  have bZ : Blk _ (w.heap.size + 3) [.int .i64 0, .int .i64 0, .slice none 0 0, .int .i64 0, .int .i64 0] 34 := H 3 (by simp)
  clear H
  have a0 := bA.cell 0 rfl
  have a1 := bA.cell 1 rfl
  have X0 := C17.of_range bE.range
  have k0 : _ = some (Value.int .i64 e.k) := bE.cell 0 rfl
  rw [hK] at k0
  have w0 := bW.cell 0 rfl
  have w1 := bW.cell 1 rfl
  have w2 := bW.cell 2 rfl
  have hM := hM _ B0
  clear bA bE bW hK bZ
  unfold RuleNo
  go_enter Tryz.func61, Tryz.ntmps61
  go_wp2_with (refine wpList_load_ex rfl (.tmp 4) rfl _ _ rfl e X0 ?_)
  refine hM.mono ?_
  rintro _ w3 ⟨rfl, hb3⟩
  clear a0 a1 X0 k0 w0 w1 w2 hM
  go_wp2
  exact ⟨rfl, rfl, Below.next B0 hb3⟩

set_option maxRecDepth 100000 in
set_option maxHeartbeats 4000000 in
theorem rule_seq (n : Strs) (g : Grid) (e : Ex) (sb : Nat) (pc hp k l x : Int) (w : World) (hK : e.k = 17)
    (hM : ∀ u, Below w.heap.size w u → Calls Tryz.prog 103 #[.agg #[.slice n.ao n.len n.cap, .slice g.ao g.len g.cap], .agg e.va, .agg #[.pointer (some ⟨sb, 0, none⟩), .int .i64 pc, .int .i64 hp]] u fun r w' => (∃ ao cap, r = .returned (.tuple #[.agg #[.int .i64 k, .int .i64 l, .slice ao 0 cap, .int .i64 0, .int .i64 0], .int .i64 x])) ∧ Below u.heap.size u w') : RuleOk n g e sb pc hp k l x w := by
  have H := allocs_heap [.cells #[.slice n.ao n.len n.cap, .slice g.ao g.len g.cap] 92, .cells e.va 37, .cells #[.pointer (some ⟨sb, 0, none⟩), .int .i64 pc, .int .i64 hp] 73, .cells #[.int .i64 0, .int .i64 0, .slice none 0 0, .int .i64 0, .int .i64 0] 34] w
  have B0 := allocs_below [.cells #[.slice n.ao n.len n.cap, .slice g.ao g.len g.cap] 92, .cells e.va 37, .cells #[.pointer (some ⟨sb, 0, none⟩), .int .i64 pc, .int .i64 hp] 73, .cells #[.int .i64 0, .int .i64 0, .slice none 0 0, .int .i64 0, .int .i64 0] 34] w
  simp only [List.foldl] at H B0
  have bA : Blk _ w.heap.size [.slice n.ao n.len n.cap, .slice g.ao g.len g.cap] 92 := H 0 (by simp)
  have bE : Blk _ (w.heap.size + 1) e.vs 37 := H 1 (by simp)
  have bW : Blk _ (w.heap.size + 2) [.pointer (some ⟨sb, 0, none⟩), .int .i64 pc, .int .i64 hp] 73 := H 2 (by simp)
  have bZ : Blk _ (w.heap.size + 3) [.int .i64 0, .int .i64 0, .slice none 0 0, .int .i64 0, .int .i64 0] 34 := H 3 (by simp)
  clear H
  have a0 := bA.cell 0 rfl
  have a1 := bA.cell 1 rfl
  have X0 := C17.of_range bE.range
  have k0 : _ = some (Value.int .i64 e.k) := bE.cell 0 rfl
  rw [hK] at k0
  have w0 := bW.cell 0 rfl
  have w1 := bW.cell 1 rfl
  have w2 := bW.cell 2 rfl
  have hM := hM _ B0
  clear bA bE bW hK
  unfold RuleOk
  go_enter Tryz.func61, Tryz.ntmps61
  go_wp2_with (refine wpList_load_ex rfl (.tmp 4) rfl _ _ rfl e X0 ?_)
  refine hM.mono ?_
  rintro _ w3 ⟨⟨ao', cap', rfl⟩, hb3⟩
  have bZ3 := bZ.kept hb3
  clear a0 a1 X0 k0 w0 w1 w2 hM
  go_wp2_with (refine wpList_store_blk rfl rfl 34 (.tmp 6) (.tmp 148) rfl (w.heap.size + 3) [.int .i64 k, .int .i64 l, .slice ao' 0 cap', .int .i64 0, .int .i64 0] rfl rfl rfl bZ3 rfl (by kernel_rfl) ?_; intro w9 W9)
  have c0 := W9.blk.cell 0 rfl
  have c1 := W9.blk.cell 1 rfl
  have c2 := W9.blk.cell 2 rfl
  have c3 := W9.blk.cell 3 rfl
  have c4 := W9.blk.cell 4 rfl
  refine bodyPost_ret (v := .tuple #[.agg #[.int .i64 k, .int .i64 l, .slice ao' 0 cap', .int .i64 0, .int .i64 0], .int .i64 x]) (by simp [results, Tryz.results61, go_sem, c0, c1, c2, c3, c4]) rfl ⟨⟨ao', cap', rfl⟩, W9.below (by omega) (Below.next B0 hb3)⟩

set_option maxRecDepth 100000 in
set_option maxHeartbeats 4000000 in
theorem rule_seq_no (n : Strs) (g : Grid) (e : Ex) (sb : Nat) (pc hp pl c : Int) (w : World) (hK : e.k = 17)
    (hM : ∀ u, Below w.heap.size w u → Calls Tryz.prog 103 #[.agg #[.slice n.ao n.len n.cap, .slice g.ao g.len g.cap], .agg e.va, .agg #[.pointer (some ⟨sb, 0, none⟩), .int .i64 pc, .int .i64 hp]] u fun r w' => r = .panicked (fault pl c) ∧ Below u.heap.size u w') : RuleNo n g e sb pc hp pl c w := by
  have H := allocs_heap [.cells #[.slice n.ao n.len n.cap, .slice g.ao g.len g.cap] 92, .cells e.va 37, .cells #[.pointer (some ⟨sb, 0, none⟩), .int .i64 pc, .int .i64 hp] 73, .cells #[.int .i64 0, .int .i64 0, .slice none 0 0, .int .i64 0, .int .i64 0] 34] w
  have B0 := allocs_below [.cells #[.slice n.ao n.len n.cap, .slice g.ao g.len g.cap] 92, .cells e.va 37, .cells #[.pointer (some ⟨sb, 0, none⟩), .int .i64 pc, .int .i64 hp] 73, .cells #[.int .i64 0, .int .i64 0, .slice none 0 0, .int .i64 0, .int .i64 0] 34] w
  simp only [List.foldl] at H B0
  have bA : Blk _ w.heap.size [.slice n.ao n.len n.cap, .slice g.ao g.len g.cap] 92 := H 0 (by simp)
  have bE : Blk _ (w.heap.size + 1) e.vs 37 := H 1 (by simp)
  have bW : Blk _ (w.heap.size + 2) [.pointer (some ⟨sb, 0, none⟩), .int .i64 pc, .int .i64 hp] 73 := H 2 (by simp)
  have bZ : Blk _ (w.heap.size + 3) [.int .i64 0, .int .i64 0, .slice none 0 0, .int .i64 0, .int .i64 0] 34 := H 3 (by simp)
  clear H
  have a0 := bA.cell 0 rfl
  have a1 := bA.cell 1 rfl
  have X0 := C17.of_range bE.range
  have k0 : _ = some (Value.int .i64 e.k) := bE.cell 0 rfl
  rw [hK] at k0
  have w0 := bW.cell 0 rfl
  have w1 := bW.cell 1 rfl
  have w2 := bW.cell 2 rfl
  have hM := hM _ B0
  clear bA bE bW hK bZ
  unfold RuleNo
  go_enter Tryz.func61, Tryz.ntmps61
  go_wp2_with (refine wpList_load_ex rfl (.tmp 4) rfl _ _ rfl e X0 ?_)
  refine hM.mono ?_
  rintro _ w3 ⟨rfl, hb3⟩
  clear a0 a1 X0 k0 w0 w1 w2 hM
  go_wp2
  exact ⟨rfl, rfl, Below.next B0 hb3⟩
end Go.Proofs.YtepgdkigncjalaaGreat

/- Layer 7: need; a new variable for a judgement. -/
namespace Go.Proofs.YtepgdkigncjalaaGreat
open Go Go.RowKit

def zGv : List Value := [.int .i64 0, .int .i64 0, .slice none 0 0, .int .i64 0, .int .i64 0, .int .i64 0, .int .i64 0]
theorem alloc_gv (w : World) : (Instr.alloc 90 true (.tuple #[])).run Tryz.prog w = .ok (.pointer (some ⟨w.heap.size, 0, none⟩)) (w.alloc (.cells zGv.toArray 90)) := by
  have hz : (Tryz.prog.info? 90).map (·.zero) = some (some (.agg zGv.toArray)) := by kernel_rfl
  cases hq : Tryz.prog.info? 90 with
  | none => rw [hq] at hz; simp at hz
  | some i =>
    rw [hq] at hz
    simp at hz
    simp [Instr.alloc, newVar, newRow, zeroValue, typeInfo, hq, hz, Value.cells]
/-- A judgement that must be of a Kind. -/
def NeedOk (n : Strs) (g : Grid) (e : Ex) (sb : Nat) (pc hp k l x b : Int) (w : World) : Prop := Calls Tryz.prog 105 #[.agg #[.slice n.ao n.len n.cap, .slice g.ao g.len g.cap], .int .i64 k, .agg e.va, .agg #[.pointer (some ⟨sb, 0, none⟩), .int .i64 pc, .int .i64 hp]] w fun r w' => (∃ ao cap, r = .returned (.agg #[.int .i64 k, .int .i64 l, .slice ao 0 cap, .int .i64 0, .int .i64 0, .int .i64 x, .int .i64 b])) ∧ Below w.heap.size w w'
set_option maxRecDepth 100000 in
set_option maxHeartbeats 4000000 in
theorem need_ok (n : Strs) (g : Grid) (e : Ex) (sb : Nat) (pc hp k l x b : Int) (w : World) (hR : ∀ u, Below w.heap.size w u → ExprOk n g e sb pc hp k l x b u) : NeedOk n g e sb pc hp k l x b w := by
  have H := allocs_heap [.cells #[.slice n.ao n.len n.cap, .slice g.ao g.len g.cap] 92, .cells e.va 37, .cells #[.pointer (some ⟨sb, 0, none⟩), .int .i64 pc, .int .i64 hp] 73, .cells #[.int .i64 0, .int .i64 0, .slice none 0 0, .int .i64 0, .int .i64 0, .int .i64 0, .int .i64 0] 90] w
  have B0 := allocs_below [.cells #[.slice n.ao n.len n.cap, .slice g.ao g.len g.cap] 92, .cells e.va 37, .cells #[.pointer (some ⟨sb, 0, none⟩), .int .i64 pc, .int .i64 hp] 73, .cells #[.int .i64 0, .int .i64 0, .slice none 0 0, .int .i64 0, .int .i64 0, .int .i64 0, .int .i64 0] 90] w
  simp only [List.foldl] at H B0
  have bA : Blk _ w.heap.size [.slice n.ao n.len n.cap, .slice g.ao g.len g.cap] 92 := H 0 (by simp)
  have bE : Blk _ (w.heap.size + 1) e.vs 37 := H 1 (by simp)
  have bW : Blk _ (w.heap.size + 2) [.pointer (some ⟨sb, 0, none⟩), .int .i64 pc, .int .i64 hp] 73 := H 2 (by simp)
  have bZ : Blk _ (w.heap.size + 3) [.int .i64 0, .int .i64 0, .slice none 0 0, .int .i64 0, .int .i64 0, .int .i64 0, .int .i64 0] 90 := H 3 (by simp)
  clear H
  have a0 := bA.cell 0 rfl
  have a1 := bA.cell 1 rfl
  have X0 := C17.of_range bE.range
  have w0 := bW.cell 0 rfl
  have w1 := bW.cell 1 rfl
  have w2 := bW.cell 2 rfl
  have h := hR _ B0
  clear bA bE bW hR
  unfold ExprOk at h
  unfold NeedOk
  go_enter Tryz.func105, Tryz.ntmps105
  go_wp2_with (refine wpList_load_ex rfl (.tmp 6) rfl _ _ rfl e X0 ?_)
  refine h.mono ?_
  rintro _ w3 ⟨⟨ao, cap, rfl⟩, hb3⟩
  have B4 := Below.next hb3 (below_alloc w3 (.cells #[.int .i64 k, .int .i64 l, .slice ao 0 cap, .int .i64 0, .int .i64 0, .int .i64 x, .int .i64 b] 90))
  have bZ4 := bZ.kept B4
  have hkk : (k != k) = false := by simp
  clear a0 a1 X0 w0 w1 w2 h bZ hb3
  go_wp2_with (refine wpList_store_blk rfl rfl 90 (.tmp 8) (.tmp 23) rfl (w.heap.size + 3) [.int .i64 k, .int .i64 l, .slice ao 0 cap, .int .i64 0, .int .i64 0, .int .i64 x, .int .i64 b] rfl rfl rfl bZ4 rfl (by kernel_rfl) ?_; intro w9 W9)
  have c0 := W9.blk.cell 0 rfl
  have c1 := W9.blk.cell 1 rfl
  have c2 := W9.blk.cell 2 rfl
  have c3 := W9.blk.cell 3 rfl
  have c4 := W9.blk.cell 4 rfl
  have c5 := W9.blk.cell 5 rfl
  have c6 := W9.blk.cell 6 rfl
  refine bodyPost_ret (v := .agg #[.int .i64 k, .int .i64 l, .slice ao 0 cap, .int .i64 0, .int .i64 0, .int .i64 x, .int .i64 b]) (by simp [results, Tryz.results105, go_sem, c0, c1, c2, c3, c4, c5, c6]) rfl ⟨⟨ao, cap, rfl⟩, W9.below (by omega) (Below.next B0 B4)⟩
/-- What such a variable holds. -/
def Gvs (k l x b : Int) (vs : Array Value) : Prop := ∃ ao cap, vs = #[.int .i64 k, .int .i64 l, .slice ao 0 cap, .int .i64 0, .int .i64 0, .int .i64 x, .int .i64 b]
theorem Gvs.good {k l x b : Int} : ∀ vs, Gvs k l x b vs → vs.size = zGv.length ∧ vs.all (·.oneCell') = true := by
  rintro _ ⟨ao, cap, rfl⟩
  exact ⟨rfl, by simp [Value.oneCell']⟩
end Go.Proofs.YtepgdkigncjalaaGreat

/- Layer 7: the rule of EOut. -/
namespace Go.Proofs.YtepgdkigncjalaaGreat
open Go Go.RowKit

set_option maxRecDepth 100000 in
set_option maxHeartbeats 8000000 in
theorem out_rule (n : Strs) (g : Grid) (e : Ex) (sb : Nat) (pc hp l x b : Int) (w : World) (hn : n.At w) (hg : g.At w) (he : e.At w) (h1 : e.len = 1)
    (hP : ∀ u, Below w.heap.size w u → NeedOk n g (e.ps 0) sb pc hp 1 l x b u) :
    Calls Tryz.prog 100 #[.agg #[.slice n.ao n.len n.cap, .slice g.ao g.len g.cap], .agg e.va, .agg #[.pointer (some ⟨sb, 0, none⟩), .int .i64 pc, .int .i64 hp]] w fun r w' => ((belAll n g [l, b, hp] e.n = true ∧ ∃ ao cap, r = .returned (.tuple #[.agg #[.int .i64 1, .int .i64 b, .slice ao 0 cap, .int .i64 0, .int .i64 0], .int .i64 x])) ∨ (belAll n g [l, b, hp] e.n = false ∧ r = .panicked (fault e.pl 6))) ∧ Below w.heap.size w w' := by
  have H := allocs_heap [.cells #[.slice n.ao n.len n.cap, .slice g.ao g.len g.cap] 92, .cells e.va 37, .cells #[.pointer (some ⟨sb, 0, none⟩), .int .i64 pc, .int .i64 hp] 73, .cells #[.int .i64 0, .int .i64 0, .slice none 0 0, .int .i64 0, .int .i64 0] 34] w
  have B0 := allocs_below [.cells #[.slice n.ao n.len n.cap, .slice g.ao g.len g.cap] 92, .cells e.va 37, .cells #[.pointer (some ⟨sb, 0, none⟩), .int .i64 pc, .int .i64 hp] 73, .cells #[.int .i64 0, .int .i64 0, .slice none 0 0, .int .i64 0, .int .i64 0] 34] w
  have SZ := allocs_size [.cells #[.slice n.ao n.len n.cap, .slice g.ao g.len g.cap] 92, .cells e.va 37, .cells #[.pointer (some ⟨sb, 0, none⟩), .int .i64 pc, .int .i64 hp] 73, .cells #[.int .i64 0, .int .i64 0, .slice none 0 0, .int .i64 0, .int .i64 0] 34] w
  simp only [List.foldl, List.length] at H B0 SZ
  have bA : Blk _ w.heap.size [.slice n.ao n.len n.cap, .slice g.ao g.len g.cap] 92 := H 0 (by simp)
  have bE : Blk _ (w.heap.size + 1) e.vs 37 := H 1 (by simp)
  have bW : Blk _ (w.heap.size + 2) [.pointer (some ⟨sb, 0, none⟩), .int .i64 pc, .int .i64 hp] 73 := H 2 (by simp)
  have bZ : Blk _ (w.heap.size + 3) [.int .i64 0, .int .i64 0, .slice none 0 0, .int .i64 0, .int .i64 0] 34 := H 3 (by simp)
  clear H
  have HSZ : Hid (((((w.alloc (.cells #[.slice n.ao n.len n.cap, .slice g.ao g.len g.cap] 92)).alloc (.cells e.va 37)).alloc (.cells #[.pointer (some ⟨sb, 0, none⟩), .int .i64 pc, .int .i64 hp] 73)).alloc (.cells #[.int .i64 0, .int .i64 0, .slice none 0 0, .int .i64 0, .int .i64 0] 34)).heap.size = w.heap.size + 4) := SZ
  clear SZ
  have ea : e.ao = some ⟨e.b, e.o, none⟩ := he.nil (by omega)
  have HI : Hid (_ ∧ _ ∧ _ ∧ _ ∧ _) := (⟨B0, bA, bE, bW, bZ⟩ : _ ∧ _ ∧ _ ∧ _ ∧ _)
  have HN : Hid (n.At w ∧ g.At w) := ⟨hn, hg⟩
  have C0 := (he.kept B0).cells (i := 0) (by omega)
  simp only [Nat.zero_mul, Nat.add_zero] at C0
  have e15 := bE.cell 15 (v := .slice e.ao e.len e.cap) rfl
  rw [ea, h1] at e15
  clear ea h1 hn hg he
  go_enter Tryz.func100, Tryz.ntmps100
  go_wp2
  have a0 := fun z => Gr.cell z (bA.cell 0 rfl)
  have a1 := fun z => Gr.cell z (bA.cell 1 rfl)
  have w0 := fun z => Gr.cell z (bW.cell 0 rfl)
  have w1 := fun z => Gr.cell z (bW.cell 1 rfl)
  have w2 := fun z => Gr.cell z (bW.cell 2 rfl)
  have y15 := fun z => Gr.cell z e15
  generalize ((((w.alloc (.cells #[.slice n.ao n.len n.cap, .slice g.ao g.len g.cap] 92)).alloc (.cells e.va 37)).alloc (.cells #[.pointer (some ⟨sb, 0, none⟩), .int .i64 pc, .int .i64 hp] 73)).alloc (.cells #[.int .i64 0, .int .i64 0, .slice none 0 0, .int .i64 0, .int .i64 0] 34)) = W at *
  have hC : ∀ u, (∃ x : Gr W, u = x.w) → C17 u e.b e.o (e.ps 0) := fun u ⟨x, hx⟩ => by rw [hx]; exact C0.kept x.bl
  have hNE : Nonempty (Gr W) := ⟨⟨_, Below.refl _ _⟩⟩
  clear bA bE bW bZ e15 C0
  refine wp_region_new 6 (by kernel_rfl) rfl (by kernel_rfl) (T := ⟨rfl, rfl, rfl, rfl, rfl, rfl, rfl, rfl, rfl, rfl, rfl, by kernel_rfl, by kernel_rfl, by kernel_rfl, by kernel_rfl, by kernel_rfl, by kernel_rfl, alloc_gv⟩) (Gvs 1 l x b) (fun _ => False) (fun _ _ d _ _ h => by cases d <;> exact h) Gvs.good ?_
  simp only [List.take]
  iterate 4 go_big_quiet_step (fail)
  go_big_quiet_want
  refine quiet_load_ex (.tmp 12) rfl _ _ (by kernel_rfl) (e.ps 0) hC ?_
  simp only [Act.put, List.setIfInBounds_toArray, List.set_cons_succ, List.set_cons_zero]
  go_big_quiet_on
  iterate 1 go_big_quiet_step (fail)
  refine wpQuiet_nil ⟨105, #[.agg #[.slice n.ao n.len n.cap, .slice g.ao g.len g.cap], .int .i64 1, .agg (e.ps 0).va, .agg #[.pointer (some ⟨sb, 0, none⟩), .int .i64 pc, .int .i64 hp]], ?_, ?_, ?_, ?_, ?_, ?_, ?_⟩
  · intro u _
    go_simp
  · intro u v _
    simp only [Act.put, List.setIfInBounds_toArray, List.set_cons_succ, List.set_cons_zero]
    go_simp
  · intro v v'
    simp only [Act.put, List.setIfInBounds_toArray, List.set_cons_succ, List.set_cons_zero]
  · intro v v'
    simp only [Act.put, List.setIfInBounds_toArray, List.set_cons_succ, List.set_cons_zero]
    exact ⟨rfl, rfl⟩
  · intro u hu
    refine (hP u (Below.next B0 hu)).mono ?_
    rintro _ u' ⟨⟨ao, cap, rfl⟩, hb⟩
    exact ⟨hb, Or.inl ⟨_, rfl, ao, cap, rfl⟩⟩
  · intro _ _ _ h
    exact h.elim
  intro vals G u hg hu hG hr
  obtain ⟨ao, cap, rfl⟩ := hg
  simp only [Act.put, List.setIfInBounds_toArray, List.set_cons_succ, List.set_cons_zero]
  have HGS : Hid (w.heap.size + 4 ≤ G) := by show _ ≤ _; have := HSZ.out; omega
  have HJ : Hid (Below w.heap.size w u ∧ Blk u w.heap.size [.slice n.ao n.len n.cap, .slice g.ao g.len g.cap] 92 ∧ Blk u (w.heap.size + 1) e.vs 37 ∧ Blk u (w.heap.size + 2) [.pointer (some ⟨sb, 0, none⟩), .int .i64 pc, .int .i64 hp] 73 ∧ Blk u (w.heap.size + 3) [.int .i64 0, .int .i64 0, .slice none 0 0, .int .i64 0, .int .i64 0] 34 ∧ u.rangeAt G 0 [.int .i64 1, .int .i64 l, .slice ao 0 cap, .int .i64 0, .int .i64 0, .int .i64 x, .int .i64 b]) := ⟨Below.next B0 hu, HI.out.2.1.kept hu, HI.out.2.2.1.kept hu, HI.out.2.2.2.1.kept hu, HI.out.2.2.2.2.kept hu, hr⟩
  clear a0 a1 w0 w1 w2 y15 hC hNE HI hr hu hP
  have a0 := HJ.out.2.1.cell 0 rfl
  have a1 := HJ.out.2.1.cell 1 rfl
  have e1 := HJ.out.2.2.1.cell 1 (v := .int .i64 e.n) rfl
  have X0 := C17.of_range HJ.out.2.2.1.range
  have w2 := HJ.out.2.2.2.1.cell 2 rfl
  have g1 : u.cell? ⟨G, 1, none⟩ = some (.int .i64 l) := by have := HJ.out.2.2.2.2.2 1 _ rfl; simpa using this
  have g6 : u.cell? ⟨G, 6, none⟩ = some (.int .i64 b) := by have := HJ.out.2.2.2.2.2 6 _ rfl; simpa using this
  have B6 := below_alloc u (.cells #[.int .i64 l, .int .i64 b, .int .i64 hp] 3)
  have N6 : Blk (u.alloc (.cells #[.int .i64 l, .int .i64 b, .int .i64 hp] 3)) u.heap.size ([l, b, hp].map (Value.int .i64)) 3 := Blk.new u _ _
  have b6 := Below.next HJ.out.1 B6
  have hB := jbelow n g e e.n [l, b, hp] u.heap.size _ (HN.out.1.kept b6) (HN.out.2.kept b6) N6 (by simp) (by simp)
  simp only [List.length] at hB
  go_wp2_with (refine wpList_load_ex rfl (.tmp 4) rfl _ _ rfl e X0 ?_)
  refine hB.mono ?_
  rintro _ w7 ⟨hcase, hb7⟩
  have B7 := Below.next b6 hb7
  have b7 := Below.next B6 hb7
  have HK : Hid (Below w.heap.size w w7 ∧ Blk w7 (w.heap.size + 3) [.int .i64 0, .int .i64 0, .slice none 0 0, .int .i64 0, .int .i64 0] 34 ∧ w7.cell? ⟨G, 5, none⟩ = some (.int .i64 x) ∧ w7.cell? ⟨G, 6, none⟩ = some (.int .i64 b)) := ⟨B7, HJ.out.2.2.2.2.1.kept b7, up b7 (by have := HJ.out.2.2.2.2.2 5 _ rfl; simpa using this), up b7 g6⟩
  clear a0 a1 e1 X0 w2 g1 g6 B6 N6 b6 hB HJ hb7 B7 b7
  rcases hcase with ⟨hy, rfl⟩ | ⟨hy, rfl⟩
  rotate_left
  · have HY : Hid (belAll n g [l, b, hp] e.n = false) := hy
    clear hy
    go_wp2
    exact ⟨rfl, Or.inr ⟨HY.out, rfl⟩, HK.out.1⟩
  have HY : Hid (belAll n g [l, b, hp] e.n = true) := hy
  clear hy
  go_wp2
  have hGne : G ≠ w.heap.size + 3 := by have := HGS.out; omega
  have key : ∀ u', (∀ k, k = G → u'.heap[k]? = w7.heap[k]?) → (fun q : World => q.cell? ⟨G, 5, none⟩ = some (.int .i64 x) ∧ q.cell? ⟨G, 6, none⟩ = some (.int .i64 b)) u' := fun u' hu' => ⟨(World.cell?_of_block (w := w7) (hu' G rfl)).trans HK.out.2.2.1, (World.cell?_of_block (w := w7) (hu' G rfl)).trans HK.out.2.2.2⟩
  refine wp_region_reads (fun q : World => q.cell? ⟨G, 5, none⟩ = some (.int .i64 x) ∧ q.cell? ⟨G, 6, none⟩ = some (.int .i64 b)) [0, 1, 3, 4] 3 (by kernel_rfl) rfl (by kernel_rfl) (fun j hj => ?_) (fun _ _ d _ _ h => by cases d <;> exact h) (key _ (fun _ _ => rfl)) ?_
  · have hj4 : j < 4 := hj
    match j, hj4 with
    | 0, _ => exact ⟨_, rfl, rfl⟩
    | 1, _ => exact ⟨_, rfl, rfl⟩
    | 2, _ => exact ⟨_, rfl, rfl⟩
    | 3, _ => exact ⟨_, rfl, rfl⟩
  have g5 : ∀ z : Wd (fun q : World => q.cell? ⟨G, 5, none⟩ = some (.int .i64 x) ∧ q.cell? ⟨G, 6, none⟩ = some (.int .i64 b)), z.w.cell? ⟨G, 5, none⟩ = some (.int .i64 x) := fun z => z.2.1
  have g6 : ∀ z : Wd (fun q : World => q.cell? ⟨G, 5, none⟩ = some (.int .i64 x) ∧ q.cell? ⟨G, 6, none⟩ = some (.int .i64 b)), z.w.cell? ⟨G, 6, none⟩ = some (.int .i64 b) := fun z => z.2.2
  have hNE : Nonempty (Wd (fun q : World => q.cell? ⟨G, 5, none⟩ = some (.int .i64 x) ∧ q.cell? ⟨G, 6, none⟩ = some (.int .i64 b))) := ⟨⟨w7, key w7 (fun _ _ => rfl)⟩⟩
  simp only [List.filterMap, List.getElem?_cons_zero, List.getElem?_cons_succ]
  repeat go_big_quiet_step (fail)
  refine wpQuiet_nil ?_
  clear g5 g6
  refine wpAnyH_ready (rs := [2]) (by kernel_rfl) (by simp) ?_
  refine AllReadyH.cons rfl (fun K hK => ?_) AllReadyH.nil
  rw [if_pos (by rfl)]
  go_simp
  refine (jplain 1 b _).mono ?_
  rintro _ w8 ⟨rfl, b8⟩
  have b8' : Below w7.heap.size w7 w8 := Below.next (Below.refl _ _).drew b8
  have bZ8 := HK.out.2.1.kept b8'
  dsimp only
  refine hK.out _ _ (key _ (fun k hk => b8'.block k (by rw [hk]; exact World.block_lt_of_cell? w7 _ HK.out.2.2.1))) (fun hS8 => ?_)
  clear hK K hNE
  try simp only [Act.put, List.setIfInBounds_toArray, List.set_cons_succ, List.set_cons_zero]
  refine wpAnyH_ready (rs := [5]) (by kernel_rfl) (by simp) ?_
  refine AllReadyH.cons rfl (fun K hK => ?_) AllReadyH.nil
  rw [if_pos (by rfl)]
  have W9 := wrote_setCells bZ8 [.int .i64 1, .int .i64 b, .slice none 0 0, .int .i64 0, .int .i64 0] rfl
  refine wp_store_blk 34 (.tmp 6) (.tmp 31) rfl rfl (w.heap.size + 3) [.int .i64 1, .int .i64 b, .slice none 0 0, .int .i64 0, .int .i64 0] _ rfl rfl rfl bZ8 rfl (by kernel_rfl) ?_
  have hB9 : Below w.heap.size w (w8.setCells (w.heap.size + 3) 0 [.int .i64 1, .int .i64 b, .slice none 0 0, .int .i64 0, .int .i64 0]) := W9.below (by omega) (Below.next HK.out.1 b8')
  have hS9 : ∀ k, k = G → (w8.setCells (w.heap.size + 3) 0 [.int .i64 1, .int .i64 b, .slice none 0 0, .int .i64 0, .int .i64 0]).heap[k]? = w7.heap[k]? := fun k hk => by
    rw [W9.other k (by omega), b8'.block k (by rw [hk]; exact World.block_lt_of_cell? w7 _ HK.out.2.2.1)]
  have HW9 := W9.blk
  clear W9
  generalize w8.setCells (w.heap.size + 3) 0 [.int .i64 1, .int .i64 b, .slice none 0 0, .int .i64 0, .int .i64 0] = w9 at hB9 hS9 HW9 ⊢
  refine hK.out _ _ (key _ hS9) (fun hS10 => ?_)
  clear hK K
  refine wpAnyH_ready (rs := [6]) (by kernel_rfl) (by simp) ?_
  refine AllReadyH.cons rfl (fun K hK => ?_) AllReadyH.nil
  rw [if_pos (by rfl)]
  go_simp
  refine hK.out _ _ (key _ hS9) (fun hS11 => ?_)
  clear hK K
  try simp only [Act.put, List.setIfInBounds_toArray, List.set_cons_succ, List.set_cons_zero]
  refine wpAnyH_done (by kernel_rfl) ?_ _
  go_wp2
  have c0 := HW9.cell 0 rfl
  have c1 := HW9.cell 1 rfl
  have c2 := HW9.cell 2 rfl
  have c3 := HW9.cell 3 rfl
  have c4 := HW9.cell 4 rfl
  refine bodyPost_ret (v := .tuple #[.agg #[.int .i64 1, .int .i64 b, .slice none 0 0, .int .i64 0, .int .i64 0], .int .i64 x]) (by simp [results, Tryz.results100, go_sem, c0, c1, c2, c3, c4]) rfl ⟨Or.inl ⟨HY.out, none, 0, rfl⟩, hB9⟩
end Go.Proofs.YtepgdkigncjalaaGreat
