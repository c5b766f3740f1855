/- Layer 9: Reckon. -/
import Derived.Test.YtmkncmmegjfipaaGreatDoorP29
import Derived.BigFrame
namespace Go.Proofs.YtmkncmmegjfipaaGreatDoor
open Go Go.RowKit

set_option maxHeartbeats 1000000 in
theorem ev_integer (n : Int) (w : World) : Calls Tryz.prog 173 #[.int .i64 n] w fun e w' => e = .returned (.agg #[.int .i64 1, .int .i64 n, .slice none 0 0]) ∧ Below w.heap.size w w' := by
  have B0 := allocs_below [.cells #[.int .i64 1, .int .i64 n, .slice none 0 0] 31] w
  simp only [List.foldl] at B0
  go_enter Tryz.func173, Tryz.ntmps173
  go_wp2
  exact bodyPost_ret (v := .agg #[.int .i64 1, .int .i64 n, .slice none 0 0]) (by simp [results, Tryz.results173, go_sem]) rfl ⟨rfl, B0⟩
set_option maxHeartbeats 1000000 in
theorem ev_rinteger (n : Int) (w : World) : Calls Tryz.prog 36 #[.int .i64 n] w fun e w' => e = .returned (.agg #[.int .i64 1, .int .i64 n, .slice none 0 0]) ∧ Below w.heap.size w w' := by
  have B0 := allocs_below [.cells #[.int .i64 1, .int .i64 n, .slice none 0 0] 31] w
  simp only [List.foldl] at B0
  go_enter Tryz.func36, Tryz.ntmps36
  go_wp2
  exact bodyPost_ret (v := .agg #[.int .i64 1, .int .i64 n, .slice none 0 0]) (by simp [results, Tryz.results36, go_sem]) rfl ⟨rfl, B0⟩
set_option maxHeartbeats 1000000 in
theorem ev_truth0 (w : World) : Calls Tryz.prog 174 #[.bool false] w fun e w' => e = .returned (.agg #[.int .i64 2, .int .i64 0, .slice none 0 0]) ∧ Below w.heap.size w w' := by
  have B0 := allocs_below [.cells #[.int .i64 2, .int .i64 0, .slice none 0 0] 31] w
  simp only [List.foldl] at B0
  go_enter Tryz.func174, Tryz.ntmps174
  go_wp2
  exact bodyPost_ret (v := .agg #[.int .i64 2, .int .i64 0, .slice none 0 0]) (by simp [results, Tryz.results174, go_sem]) rfl ⟨rfl, B0⟩
set_option maxHeartbeats 1000000 in
theorem ev_truth1 (w : World) : Calls Tryz.prog 174 #[.bool true] w fun e w' => e = .returned (.agg #[.int .i64 2, .int .i64 1, .slice none 0 0]) ∧ Below w.heap.size w w' := by
  have B0 := allocs_below [.cells #[.int .i64 2, .int .i64 1, .slice none 0 0] 31] w
  simp only [List.foldl] at B0
  go_enter Tryz.func174, Tryz.ntmps174
  go_wp2
  exact bodyPost_ret (v := .agg #[.int .i64 2, .int .i64 1, .slice none 0 0]) (by simp [results, Tryz.results174, go_sem]) rfl ⟨rfl, B0⟩
set_option maxHeartbeats 1000000 in
theorem ev_rtruth0 (w : World) : Calls Tryz.prog 37 #[.bool false] w fun e w' => e = .returned (.agg #[.int .i64 2, .int .i64 0, .slice none 0 0]) ∧ Below w.heap.size w w' := by
  have B0 := allocs_below [.cells #[.int .i64 2, .int .i64 0, .slice none 0 0] 31, .cells #[.int .i64 2, .int .i64 0, .slice none 0 0] 31] w
  simp only [List.foldl] at B0
  go_enter Tryz.func37, Tryz.ntmps37
  go_wp2
  exact bodyPost_ret (v := .agg #[.int .i64 2, .int .i64 0, .slice none 0 0]) (by simp [results, Tryz.results37, go_sem]) rfl ⟨rfl, B0⟩
set_option maxHeartbeats 1000000 in
theorem ev_rtruth1 (w : World) : Calls Tryz.prog 37 #[.bool true] w fun e w' => e = .returned (.agg #[.int .i64 2, .int .i64 1, .slice none 0 0]) ∧ Below w.heap.size w w' := by
  have B0 := allocs_below [.cells #[.int .i64 2, .int .i64 1, .slice none 0 0] 31, .cells #[.int .i64 2, .int .i64 1, .slice none 0 0] 31] w
  simp only [List.foldl] at B0
  go_enter Tryz.func37, Tryz.ntmps37
  go_wp2
  exact bodyPost_ret (v := .agg #[.int .i64 2, .int .i64 1, .slice none 0 0]) (by simp [results, Tryz.results37, go_sem]) rfl ⟨rfl, B0⟩
set_option maxRecDepth 100000 in
set_option maxHeartbeats 2000000 in
theorem ev_reck6 (a b : Int) (w : World) : Calls Tryz.prog 158 #[.int .i64 6, .int .i64 a, .int .i64 b] w fun e w' => e = .returned (.tuple #[.agg #[.int .i64 1, .int .i64 (wrap64 (a + b)), .slice none 0 0], .bool true]) ∧ Below w.heap.size w w' := by
  have B0 := below_alloc w (.cells #[.int .i64 0, .int .i64 0, .slice none 0 0] 31)
  have b0 : Blk _ w.heap.size [.int .i64 0, .int .i64 0, .slice none 0 0] 31 := Blk.new w _ 31
  have h := ev_integer (wrap64 (a + b)) (w.alloc (.cells #[.int .i64 0, .int .i64 0, .slice none 0 0] 31))
  go_enter Tryz.func158, Tryz.ntmps158
  go_wp2_with fail
  refine h.mono ?_
  rintro _ w1 ⟨rfl, hb⟩
  have B1 := Below.next B0 hb
  have b1 := b0.kept hb
  clear h B0 b0 hb
  go_wp2_with (refine wpList_store_blk rfl rfl 31 (.tmp 6) (.tmp 14) rfl w.heap.size [.int .i64 1, .int .i64 (wrap64 (a + b)), .slice none 0 0] rfl rfl rfl b1 rfl (by kernel_rfl) ?_; intro w2 W2)
  have e0 := W2.blk.cell 0 rfl
  have e1 := W2.blk.cell 1 rfl
  have e2 := W2.blk.cell 2 rfl
  exact bodyPost_ret (v := .tuple #[.agg #[.int .i64 1, .int .i64 (wrap64 (a + b)), .slice none 0 0], .bool true]) (by simp [results, Tryz.results158, go_sem, e0, e1, e2]) rfl ⟨rfl, W2.below (Nat.le_refl _) B1⟩
set_option maxRecDepth 100000 in
set_option maxHeartbeats 2000000 in
theorem ev_reck7 (a b : Int) (w : World) : Calls Tryz.prog 158 #[.int .i64 7, .int .i64 a, .int .i64 b] w fun e w' => e = .returned (.tuple #[.agg #[.int .i64 1, .int .i64 (wrap64 (a - b)), .slice none 0 0], .bool true]) ∧ Below w.heap.size w w' := by
  have B0 := below_alloc w (.cells #[.int .i64 0, .int .i64 0, .slice none 0 0] 31)
  have b0 : Blk _ w.heap.size [.int .i64 0, .int .i64 0, .slice none 0 0] 31 := Blk.new w _ 31
  have h := ev_integer (wrap64 (a - b)) (w.alloc (.cells #[.int .i64 0, .int .i64 0, .slice none 0 0] 31))
  go_enter Tryz.func158, Tryz.ntmps158
  go_wp2_with fail
  refine h.mono ?_
  rintro _ w1 ⟨rfl, hb⟩
  have B1 := Below.next B0 hb
  have b1 := b0.kept hb
  clear h B0 b0 hb
  go_wp2_with (refine wpList_store_blk rfl rfl 31 (.tmp 6) (.tmp 20) rfl w.heap.size [.int .i64 1, .int .i64 (wrap64 (a - b)), .slice none 0 0] rfl rfl rfl b1 rfl (by kernel_rfl) ?_; intro w2 W2)
  have e0 := W2.blk.cell 0 rfl
  have e1 := W2.blk.cell 1 rfl
  have e2 := W2.blk.cell 2 rfl
  exact bodyPost_ret (v := .tuple #[.agg #[.int .i64 1, .int .i64 (wrap64 (a - b)), .slice none 0 0], .bool true]) (by simp [results, Tryz.results158, go_sem, e0, e1, e2]) rfl ⟨rfl, W2.below (Nat.le_refl _) B1⟩
set_option maxRecDepth 100000 in
set_option maxHeartbeats 2000000 in
theorem ev_reck8 (a b : Int) (w : World) : Calls Tryz.prog 158 #[.int .i64 8, .int .i64 a, .int .i64 b] w fun e w' => e = .returned (.tuple #[.agg #[.int .i64 1, .int .i64 (wrap64 (a * b)), .slice none 0 0], .bool true]) ∧ Below w.heap.size w w' := by
  have B0 := below_alloc w (.cells #[.int .i64 0, .int .i64 0, .slice none 0 0] 31)
  have b0 : Blk _ w.heap.size [.int .i64 0, .int .i64 0, .slice none 0 0] 31 := Blk.new w _ 31
  have h := ev_integer (wrap64 (a * b)) (w.alloc (.cells #[.int .i64 0, .int .i64 0, .slice none 0 0] 31))
  go_enter Tryz.func158, Tryz.ntmps158
  go_wp2_with fail
  refine h.mono ?_
  rintro _ w1 ⟨rfl, hb⟩
  have B1 := Below.next B0 hb
  have b1 := b0.kept hb
  clear h B0 b0 hb
  go_wp2_with (refine wpList_store_blk rfl rfl 31 (.tmp 6) (.tmp 26) rfl w.heap.size [.int .i64 1, .int .i64 (wrap64 (a * b)), .slice none 0 0] rfl rfl rfl b1 rfl (by kernel_rfl) ?_; intro w2 W2)
  have e0 := W2.blk.cell 0 rfl
  have e1 := W2.blk.cell 1 rfl
  have e2 := W2.blk.cell 2 rfl
  exact bodyPost_ret (v := .tuple #[.agg #[.int .i64 1, .int .i64 (wrap64 (a * b)), .slice none 0 0], .bool true]) (by simp [results, Tryz.results158, go_sem, e0, e1, e2]) rfl ⟨rfl, W2.below (Nat.le_refl _) B1⟩
set_option maxRecDepth 100000 in
set_option maxHeartbeats 2000000 in
theorem ev_reck11t (a b : Int) (w : World)
    (hl : a < b) : Calls Tryz.prog 158 #[.int .i64 11, .int .i64 a, .int .i64 b] w fun e w' => e = .returned (.tuple #[.agg #[.int .i64 2, .int .i64 1, .slice none 0 0], .bool true]) ∧ Below w.heap.size w w' := by
  have B0 := below_alloc w (.cells #[.int .i64 0, .int .i64 0, .slice none 0 0] 31)
  have b0 : Blk _ w.heap.size [.int .i64 0, .int .i64 0, .slice none 0 0] 31 := Blk.new w _ 31
  have h := ev_truth1 (w.alloc (.cells #[.int .i64 0, .int .i64 0, .slice none 0 0] 31))
  go_enter Tryz.func158, Tryz.ntmps158
  go_wp2_with fail
  refine h.mono ?_
  rintro _ w1 ⟨rfl, hb⟩
  have B1 := Below.next B0 hb
  have b1 := b0.kept hb
  clear h B0 b0 hb
  go_wp2_with (refine wpList_store_blk rfl rfl 31 (.tmp 6) (.tmp 32) rfl w.heap.size [.int .i64 2, .int .i64 1, .slice none 0 0] rfl rfl rfl b1 rfl (by kernel_rfl) ?_; intro w2 W2)
  have e0 := W2.blk.cell 0 rfl
  have e1 := W2.blk.cell 1 rfl
  have e2 := W2.blk.cell 2 rfl
  exact bodyPost_ret (v := .tuple #[.agg #[.int .i64 2, .int .i64 1, .slice none 0 0], .bool true]) (by simp [results, Tryz.results158, go_sem, e0, e1, e2]) rfl ⟨rfl, W2.below (Nat.le_refl _) B1⟩
set_option maxRecDepth 100000 in
set_option maxHeartbeats 2000000 in
theorem ev_reck11f (a b : Int) (w : World)
    (hl : ¬ a < b) : Calls Tryz.prog 158 #[.int .i64 11, .int .i64 a, .int .i64 b] w fun e w' => e = .returned (.tuple #[.agg #[.int .i64 2, .int .i64 0, .slice none 0 0], .bool true]) ∧ Below w.heap.size w w' := by
  have B0 := below_alloc w (.cells #[.int .i64 0, .int .i64 0, .slice none 0 0] 31)
  have b0 : Blk _ w.heap.size [.int .i64 0, .int .i64 0, .slice none 0 0] 31 := Blk.new w _ 31
  have h := ev_truth0 (w.alloc (.cells #[.int .i64 0, .int .i64 0, .slice none 0 0] 31))
  go_enter Tryz.func158, Tryz.ntmps158
  go_wp2_with fail
  refine h.mono ?_
  rintro _ w1 ⟨rfl, hb⟩
  have B1 := Below.next B0 hb
  have b1 := b0.kept hb
  clear h B0 b0 hb
  go_wp2_with (refine wpList_store_blk rfl rfl 31 (.tmp 6) (.tmp 32) rfl w.heap.size [.int .i64 2, .int .i64 0, .slice none 0 0] rfl rfl rfl b1 rfl (by kernel_rfl) ?_; intro w2 W2)
  have e0 := W2.blk.cell 0 rfl
  have e1 := W2.blk.cell 1 rfl
  have e2 := W2.blk.cell 2 rfl
  exact bodyPost_ret (v := .tuple #[.agg #[.int .i64 2, .int .i64 0, .slice none 0 0], .bool true]) (by simp [results, Tryz.results158, go_sem, e0, e1, e2]) rfl ⟨rfl, W2.below (Nat.le_refl _) B1⟩
set_option maxRecDepth 100000 in
set_option maxHeartbeats 2000000 in
theorem ev_reck12t (a b : Int) (w : World)
    (hl : (a == b) = true) : Calls Tryz.prog 158 #[.int .i64 12, .int .i64 a, .int .i64 b] w fun e w' => e = .returned (.tuple #[.agg #[.int .i64 2, .int .i64 1, .slice none 0 0], .bool true]) ∧ Below w.heap.size w w' := by
  have B0 := below_alloc w (.cells #[.int .i64 0, .int .i64 0, .slice none 0 0] 31)
  have b0 : Blk _ w.heap.size [.int .i64 0, .int .i64 0, .slice none 0 0] 31 := Blk.new w _ 31
  have h := ev_truth1 (w.alloc (.cells #[.int .i64 0, .int .i64 0, .slice none 0 0] 31))
  go_enter Tryz.func158, Tryz.ntmps158
  go_wp2_with fail
  refine h.mono ?_
  rintro _ w1 ⟨rfl, hb⟩
  have B1 := Below.next B0 hb
  have b1 := b0.kept hb
  clear h B0 b0 hb
  go_wp2_with (refine wpList_store_blk rfl rfl 31 (.tmp 6) (.tmp 38) rfl w.heap.size [.int .i64 2, .int .i64 1, .slice none 0 0] rfl rfl rfl b1 rfl (by kernel_rfl) ?_; intro w2 W2)
  have e0 := W2.blk.cell 0 rfl
  have e1 := W2.blk.cell 1 rfl
  have e2 := W2.blk.cell 2 rfl
  exact bodyPost_ret (v := .tuple #[.agg #[.int .i64 2, .int .i64 1, .slice none 0 0], .bool true]) (by simp [results, Tryz.results158, go_sem, e0, e1, e2]) rfl ⟨rfl, W2.below (Nat.le_refl _) B1⟩
set_option maxRecDepth 100000 in
set_option maxHeartbeats 2000000 in
theorem ev_reck12f (a b : Int) (w : World)
    (hl : (a == b) = false) : Calls Tryz.prog 158 #[.int .i64 12, .int .i64 a, .int .i64 b] w fun e w' => e = .returned (.tuple #[.agg #[.int .i64 2, .int .i64 0, .slice none 0 0], .bool true]) ∧ Below w.heap.size w w' := by
  have B0 := below_alloc w (.cells #[.int .i64 0, .int .i64 0, .slice none 0 0] 31)
  have b0 : Blk _ w.heap.size [.int .i64 0, .int .i64 0, .slice none 0 0] 31 := Blk.new w _ 31
  have h := ev_truth0 (w.alloc (.cells #[.int .i64 0, .int .i64 0, .slice none 0 0] 31))
  go_enter Tryz.func158, Tryz.ntmps158
  go_wp2_with fail
  refine h.mono ?_
  rintro _ w1 ⟨rfl, hb⟩
  have B1 := Below.next B0 hb
  have b1 := b0.kept hb
  clear h B0 b0 hb
  go_wp2_with (refine wpList_store_blk rfl rfl 31 (.tmp 6) (.tmp 38) rfl w.heap.size [.int .i64 2, .int .i64 0, .slice none 0 0] rfl rfl rfl b1 rfl (by kernel_rfl) ?_; intro w2 W2)
  have e0 := W2.blk.cell 0 rfl
  have e1 := W2.blk.cell 1 rfl
  have e2 := W2.blk.cell 2 rfl
  exact bodyPost_ret (v := .tuple #[.agg #[.int .i64 2, .int .i64 0, .slice none 0 0], .bool true]) (by simp [results, Tryz.results158, go_sem, e0, e1, e2]) rfl ⟨rfl, W2.below (Nat.le_refl _) B1⟩
set_option maxRecDepth 100000 in
set_option maxHeartbeats 2000000 in
theorem ev_reckN (op a b : Int) (w : World)
    (h6 : (op == 6) = false) (h7 : (op == 7) = false) (h8 : (op == 8) = false) (h9 : (op == 9) = false) (h10 : (op == 10) = false) (h11 : (op == 11) = false) (h12 : (op == 12) = false) (hz : (b == 0) = false) : Calls Tryz.prog 158 #[.int .i64 op, .int .i64 a, .int .i64 b] w fun e w' => e = .returned (.tuple #[.agg #[.int .i64 0, .int .i64 0, .slice none 0 0], .bool false]) ∧ Below w.heap.size w w' := by
  have B0 := below_alloc w (.cells #[.int .i64 0, .int .i64 0, .slice none 0 0] 31)
  go_enter Tryz.func158, Tryz.ntmps158
  go_wp2
  exact bodyPost_ret (v := .tuple #[.agg #[.int .i64 0, .int .i64 0, .slice none 0 0], .bool false]) (by simp [results, Tryz.results158, go_sem]) rfl ⟨rfl, B0⟩
set_option maxRecDepth 100000 in
set_option maxHeartbeats 2000000 in
theorem ev_reckN0 (op a b : Int) (w : World)
    (h6 : (op == 6) = false) (h7 : (op == 7) = false) (h8 : (op == 8) = false) (h11 : (op == 11) = false) (h12 : (op == 12) = false) (hz : b = 0) : Calls Tryz.prog 158 #[.int .i64 op, .int .i64 a, .int .i64 b] w fun e w' => e = .returned (.tuple #[.agg #[.int .i64 0, .int .i64 0, .slice none 0 0], .bool false]) ∧ Below w.heap.size w w' := by
  have B0 := below_alloc w (.cells #[.int .i64 0, .int .i64 0, .slice none 0 0] 31)
  subst hz
  go_enter Tryz.func158, Tryz.ntmps158
  go_wp2
  exact bodyPost_ret (v := .tuple #[.agg #[.int .i64 0, .int .i64 0, .slice none 0 0], .bool false]) (by simp [results, Tryz.results158, go_sem]) rfl ⟨rfl, B0⟩
set_option maxRecDepth 100000 in
set_option maxHeartbeats 2000000 in
theorem ev_reck9z (a b : Int) (w : World)
    (hz : b = 0) : Calls Tryz.prog 158 #[.int .i64 9, .int .i64 a, .int .i64 b] w fun e w' => e = .returned (.tuple #[.agg #[.int .i64 0, .int .i64 0, .slice none 0 0], .bool false]) ∧ Below w.heap.size w w' := by
  have B0 := below_alloc w (.cells #[.int .i64 0, .int .i64 0, .slice none 0 0] 31)
  subst hz
  go_enter Tryz.func158, Tryz.ntmps158
  go_wp2
  exact bodyPost_ret (v := .tuple #[.agg #[.int .i64 0, .int .i64 0, .slice none 0 0], .bool false]) (by simp [results, Tryz.results158, go_sem]) rfl ⟨rfl, B0⟩
set_option maxRecDepth 100000 in
set_option maxHeartbeats 2000000 in
theorem ev_reck10z (a b : Int) (w : World)
    (hz : b = 0) : Calls Tryz.prog 158 #[.int .i64 10, .int .i64 a, .int .i64 b] w fun e w' => e = .returned (.tuple #[.agg #[.int .i64 0, .int .i64 0, .slice none 0 0], .bool false]) ∧ Below w.heap.size w w' := by
  have B0 := below_alloc w (.cells #[.int .i64 0, .int .i64 0, .slice none 0 0] 31)
  subst hz
  go_enter Tryz.func158, Tryz.ntmps158
  go_wp2
  exact bodyPost_ret (v := .tuple #[.agg #[.int .i64 0, .int .i64 0, .slice none 0 0], .bool false]) (by simp [results, Tryz.results158, go_sem]) rfl ⟨rfl, B0⟩
set_option maxRecDepth 100000 in
set_option maxHeartbeats 2000000 in
theorem ev_rreck6 (a b : Int) (w : World) : Calls Tryz.prog 18 #[.int .i64 6, .int .i64 a, .int .i64 b] w fun e w' => e = .returned (.tuple #[.agg #[.int .i64 1, .int .i64 (wrap64 (a + b)), .slice none 0 0], .bool true]) ∧ Below w.heap.size w w' := by
  have B0 := below_alloc w (.cells #[.int .i64 0, .int .i64 0, .slice none 0 0] 31)
  have b0 : Blk _ w.heap.size [.int .i64 0, .int .i64 0, .slice none 0 0] 31 := Blk.new w _ 31
  have h := ev_rinteger (wrap64 (a + b)) (w.alloc (.cells #[.int .i64 0, .int .i64 0, .slice none 0 0] 31))
  go_enter Tryz.func18, Tryz.ntmps18
  go_wp2_with fail
  refine h.mono ?_
  rintro _ w1 ⟨rfl, hb⟩
  have B1 := Below.next B0 hb
  have b1 := b0.kept hb
  clear h B0 b0 hb
  go_wp2_with (refine wpList_store_blk rfl rfl 31 (.tmp 6) (.tmp 16) rfl w.heap.size [.int .i64 1, .int .i64 (wrap64 (a + b)), .slice none 0 0] rfl rfl rfl b1 rfl (by kernel_rfl) ?_; intro w2 W2)
  have e0 := W2.blk.cell 0 rfl
  have e1 := W2.blk.cell 1 rfl
  have e2 := W2.blk.cell 2 rfl
  exact bodyPost_ret (v := .tuple #[.agg #[.int .i64 1, .int .i64 (wrap64 (a + b)), .slice none 0 0], .bool true]) (by simp [results, Tryz.results18, go_sem, e0, e1, e2]) rfl ⟨rfl, W2.below (Nat.le_refl _) B1⟩
set_option maxRecDepth 100000 in
set_option maxHeartbeats 2000000 in
theorem ev_rreck7 (a b : Int) (w : World) : Calls Tryz.prog 18 #[.int .i64 7, .int .i64 a, .int .i64 b] w fun e w' => e = .returned (.tuple #[.agg #[.int .i64 1, .int .i64 (wrap64 (a - b)), .slice none 0 0], .bool true]) ∧ Below w.heap.size w w' := by
  have B0 := below_alloc w (.cells #[.int .i64 0, .int .i64 0, .slice none 0 0] 31)
  have b0 : Blk _ w.heap.size [.int .i64 0, .int .i64 0, .slice none 0 0] 31 := Blk.new w _ 31
  have h := ev_rinteger (wrap64 (a - b)) (w.alloc (.cells #[.int .i64 0, .int .i64 0, .slice none 0 0] 31))
  go_enter Tryz.func18, Tryz.ntmps18
  go_wp2_with fail
  refine h.mono ?_
  rintro _ w1 ⟨rfl, hb⟩
  have B1 := Below.next B0 hb
  have b1 := b0.kept hb
  clear h B0 b0 hb
  go_wp2_with (refine wpList_store_blk rfl rfl 31 (.tmp 6) (.tmp 22) rfl w.heap.size [.int .i64 1, .int .i64 (wrap64 (a - b)), .slice none 0 0] rfl rfl rfl b1 rfl (by kernel_rfl) ?_; intro w2 W2)
  have e0 := W2.blk.cell 0 rfl
  have e1 := W2.blk.cell 1 rfl
  have e2 := W2.blk.cell 2 rfl
  exact bodyPost_ret (v := .tuple #[.agg #[.int .i64 1, .int .i64 (wrap64 (a - b)), .slice none 0 0], .bool true]) (by simp [results, Tryz.results18, go_sem, e0, e1, e2]) rfl ⟨rfl, W2.below (Nat.le_refl _) B1⟩
set_option maxRecDepth 100000 in
set_option maxHeartbeats 2000000 in
theorem ev_rreck8 (a b : Int) (w : World) : Calls Tryz.prog 18 #[.int .i64 8, .int .i64 a, .int .i64 b] w fun e w' => e = .returned (.tuple #[.agg #[.int .i64 1, .int .i64 (wrap64 (a * b)), .slice none 0 0], .bool true]) ∧ Below w.heap.size w w' := by
  have B0 := below_alloc w (.cells #[.int .i64 0, .int .i64 0, .slice none 0 0] 31)
  have b0 : Blk _ w.heap.size [.int .i64 0, .int .i64 0, .slice none 0 0] 31 := Blk.new w _ 31
  have h := ev_rinteger (wrap64 (a * b)) (w.alloc (.cells #[.int .i64 0, .int .i64 0, .slice none 0 0] 31))
  go_enter Tryz.func18, Tryz.ntmps18
  go_wp2_with fail
  refine h.mono ?_
  rintro _ w1 ⟨rfl, hb⟩
  have B1 := Below.next B0 hb
  have b1 := b0.kept hb
  clear h B0 b0 hb
  go_wp2_with (refine wpList_store_blk rfl rfl 31 (.tmp 6) (.tmp 28) rfl w.heap.size [.int .i64 1, .int .i64 (wrap64 (a * b)), .slice none 0 0] rfl rfl rfl b1 rfl (by kernel_rfl) ?_; intro w2 W2)
  have e0 := W2.blk.cell 0 rfl
  have e1 := W2.blk.cell 1 rfl
  have e2 := W2.blk.cell 2 rfl
  exact bodyPost_ret (v := .tuple #[.agg #[.int .i64 1, .int .i64 (wrap64 (a * b)), .slice none 0 0], .bool true]) (by simp [results, Tryz.results18, go_sem, e0, e1, e2]) rfl ⟨rfl, W2.below (Nat.le_refl _) B1⟩
set_option maxRecDepth 100000 in
set_option maxHeartbeats 2000000 in
theorem ev_rreck11t (a b : Int) (w : World)
    (hl : a < b) : Calls Tryz.prog 18 #[.int .i64 11, .int .i64 a, .int .i64 b] w fun e w' => e = .returned (.tuple #[.agg #[.int .i64 2, .int .i64 1, .slice none 0 0], .bool true]) ∧ Below w.heap.size w w' := by
  have B0 := below_alloc w (.cells #[.int .i64 0, .int .i64 0, .slice none 0 0] 31)
  have b0 : Blk _ w.heap.size [.int .i64 0, .int .i64 0, .slice none 0 0] 31 := Blk.new w _ 31
  have h := ev_rtruth1 (w.alloc (.cells #[.int .i64 0, .int .i64 0, .slice none 0 0] 31))
  go_enter Tryz.func18, Tryz.ntmps18
  go_wp2_with fail
  refine h.mono ?_
  rintro _ w1 ⟨rfl, hb⟩
  have B1 := Below.next B0 hb
  have b1 := b0.kept hb
  clear h B0 b0 hb
  go_wp2_with (refine wpList_store_blk rfl rfl 31 (.tmp 6) (.tmp 34) rfl w.heap.size [.int .i64 2, .int .i64 1, .slice none 0 0] rfl rfl rfl b1 rfl (by kernel_rfl) ?_; intro w2 W2)
  have e0 := W2.blk.cell 0 rfl
  have e1 := W2.blk.cell 1 rfl
  have e2 := W2.blk.cell 2 rfl
  exact bodyPost_ret (v := .tuple #[.agg #[.int .i64 2, .int .i64 1, .slice none 0 0], .bool true]) (by simp [results, Tryz.results18, go_sem, e0, e1, e2]) rfl ⟨rfl, W2.below (Nat.le_refl _) B1⟩
set_option maxRecDepth 100000 in
set_option maxHeartbeats 2000000 in
theorem ev_rreck11f (a b : Int) (w : World)
    (hl : ¬ a < b) : Calls Tryz.prog 18 #[.int .i64 11, .int .i64 a, .int .i64 b] w fun e w' => e = .returned (.tuple #[.agg #[.int .i64 2, .int .i64 0, .slice none 0 0], .bool true]) ∧ Below w.heap.size w w' := by
  have B0 := below_alloc w (.cells #[.int .i64 0, .int .i64 0, .slice none 0 0] 31)
  have b0 : Blk _ w.heap.size [.int .i64 0, .int .i64 0, .slice none 0 0] 31 := Blk.new w _ 31
  have h := ev_rtruth0 (w.alloc (.cells #[.int .i64 0, .int .i64 0, .slice none 0 0] 31))
  go_enter Tryz.func18, Tryz.ntmps18
  go_wp2_with fail
  refine h.mono ?_
  rintro _ w1 ⟨rfl, hb⟩
  have B1 := Below.next B0 hb
  have b1 := b0.kept hb
  clear h B0 b0 hb
  go_wp2_with (refine wpList_store_blk rfl rfl 31 (.tmp 6) (.tmp 34) rfl w.heap.size [.int .i64 2, .int .i64 0, .slice none 0 0] rfl rfl rfl b1 rfl (by kernel_rfl) ?_; intro w2 W2)
  have e0 := W2.blk.cell 0 rfl
  have e1 := W2.blk.cell 1 rfl
  have e2 := W2.blk.cell 2 rfl
  exact bodyPost_ret (v := .tuple #[.agg #[.int .i64 2, .int .i64 0, .slice none 0 0], .bool true]) (by simp [results, Tryz.results18, go_sem, e0, e1, e2]) rfl ⟨rfl, W2.below (Nat.le_refl _) B1⟩
set_option maxRecDepth 100000 in
set_option maxHeartbeats 2000000 in
theorem ev_rreck12t (a b : Int) (w : World)
    (hl : (a == b) = true) : Calls Tryz.prog 18 #[.int .i64 12, .int .i64 a, .int .i64 b] w fun e w' => e = .returned (.tuple #[.agg #[.int .i64 2, .int .i64 1, .slice none 0 0], .bool true]) ∧ Below w.heap.size w w' := by
  have B0 := below_alloc w (.cells #[.int .i64 0, .int .i64 0, .slice none 0 0] 31)
  have b0 : Blk _ w.heap.size [.int .i64 0, .int .i64 0, .slice none 0 0] 31 := Blk.new w _ 31
  have h := ev_rtruth1 (w.alloc (.cells #[.int .i64 0, .int .i64 0, .slice none 0 0] 31))
  go_enter Tryz.func18, Tryz.ntmps18
  go_wp2_with fail
  refine h.mono ?_
  rintro _ w1 ⟨rfl, hb⟩
  have B1 := Below.next B0 hb
  have b1 := b0.kept hb
  clear h B0 b0 hb
  go_wp2_with (refine wpList_store_blk rfl rfl 31 (.tmp 6) (.tmp 40) rfl w.heap.size [.int .i64 2, .int .i64 1, .slice none 0 0] rfl rfl rfl b1 rfl (by kernel_rfl) ?_; intro w2 W2)
  have e0 := W2.blk.cell 0 rfl
  have e1 := W2.blk.cell 1 rfl
  have e2 := W2.blk.cell 2 rfl
  exact bodyPost_ret (v := .tuple #[.agg #[.int .i64 2, .int .i64 1, .slice none 0 0], .bool true]) (by simp [results, Tryz.results18, go_sem, e0, e1, e2]) rfl ⟨rfl, W2.below (Nat.le_refl _) B1⟩
set_option maxRecDepth 100000 in
set_option maxHeartbeats 2000000 in
theorem ev_rreck12f (a b : Int) (w : World)
    (hl : (a == b) = false) : Calls Tryz.prog 18 #[.int .i64 12, .int .i64 a, .int .i64 b] w fun e w' => e = .returned (.tuple #[.agg #[.int .i64 2, .int .i64 0, .slice none 0 0], .bool true]) ∧ Below w.heap.size w w' := by
  have B0 := below_alloc w (.cells #[.int .i64 0, .int .i64 0, .slice none 0 0] 31)
  have b0 : Blk _ w.heap.size [.int .i64 0, .int .i64 0, .slice none 0 0] 31 := Blk.new w _ 31
  have h := ev_rtruth0 (w.alloc (.cells #[.int .i64 0, .int .i64 0, .slice none 0 0] 31))
  go_enter Tryz.func18, Tryz.ntmps18
  go_wp2_with fail
  refine h.mono ?_
  rintro _ w1 ⟨rfl, hb⟩
  have B1 := Below.next B0 hb
  have b1 := b0.kept hb
  clear h B0 b0 hb
  go_wp2_with (refine wpList_store_blk rfl rfl 31 (.tmp 6) (.tmp 40) rfl w.heap.size [.int .i64 2, .int .i64 0, .slice none 0 0] rfl rfl rfl b1 rfl (by kernel_rfl) ?_; intro w2 W2)
  have e0 := W2.blk.cell 0 rfl
  have e1 := W2.blk.cell 1 rfl
  have e2 := W2.blk.cell 2 rfl
  exact bodyPost_ret (v := .tuple #[.agg #[.int .i64 2, .int .i64 0, .slice none 0 0], .bool true]) (by simp [results, Tryz.results18, go_sem, e0, e1, e2]) rfl ⟨rfl, W2.below (Nat.le_refl _) B1⟩
set_option maxRecDepth 100000 in
set_option maxHeartbeats 2000000 in
theorem ev_rreckN (op a b : Int) (w : World)
    (h6 : (op == 6) = false) (h7 : (op == 7) = false) (h8 : (op == 8) = false) (h9 : (op == 9) = false) (h10 : (op == 10) = false) (h11 : (op == 11) = false) (h12 : (op == 12) = false) : Calls Tryz.prog 18 #[.int .i64 op, .int .i64 a, .int .i64 b] w fun e w' => e = .returned (.tuple #[.agg #[.int .i64 0, .int .i64 0, .slice none 0 0], .bool false]) ∧ Below w.heap.size w w' := by
  have B0 := below_alloc w (.cells #[.int .i64 0, .int .i64 0, .slice none 0 0] 31)
  go_enter Tryz.func18, Tryz.ntmps18
  go_wp2
  exact bodyPost_ret (v := .tuple #[.agg #[.int .i64 0, .int .i64 0, .slice none 0 0], .bool false]) (by simp [results, Tryz.results18, go_sem]) rfl ⟨rfl, B0⟩
set_option maxRecDepth 100000 in
set_option maxHeartbeats 2000000 in
theorem ev_rreck9z (a b : Int) (w : World)
    (hz : b = 0) : Calls Tryz.prog 18 #[.int .i64 9, .int .i64 a, .int .i64 b] w fun e w' => e = .returned (.tuple #[.agg #[.int .i64 0, .int .i64 0, .slice none 0 0], .bool false]) ∧ Below w.heap.size w w' := by
  have B0 := below_alloc w (.cells #[.int .i64 0, .int .i64 0, .slice none 0 0] 31)
  subst hz
  go_enter Tryz.func18, Tryz.ntmps18
  go_wp2
  exact bodyPost_ret (v := .tuple #[.agg #[.int .i64 0, .int .i64 0, .slice none 0 0], .bool false]) (by simp [results, Tryz.results18, go_sem]) rfl ⟨rfl, B0⟩
set_option maxRecDepth 100000 in
set_option maxHeartbeats 2000000 in
theorem ev_rreck10z (a b : Int) (w : World)
    (hz : b = 0) : Calls Tryz.prog 18 #[.int .i64 10, .int .i64 a, .int .i64 b] w fun e w' => e = .returned (.tuple #[.agg #[.int .i64 0, .int .i64 0, .slice none 0 0], .bool false]) ∧ Below w.heap.size w w' := by
  have B0 := below_alloc w (.cells #[.int .i64 0, .int .i64 0, .slice none 0 0] 31)
  subst hz
  go_enter Tryz.func18, Tryz.ntmps18
  go_wp2
  exact bodyPost_ret (v := .tuple #[.agg #[.int .i64 0, .int .i64 0, .slice none 0 0], .bool false]) (by simp [results, Tryz.results18, go_sem]) rfl ⟨rfl, B0⟩
set_option maxRecDepth 100000 in
set_option maxHeartbeats 2000000 in
theorem ev_reck9 (a b : Int) (w : World)
    (hz : (b == 0) = false) (hz2 : ¬ b = 0) : Calls Tryz.prog 158 #[.int .i64 9, .int .i64 a, .int .i64 b] w fun e w' => e = .returned (.tuple #[.agg #[.int .i64 1, .int .i64 (wrap64 (a.tdiv b)), .slice none 0 0], .bool true]) ∧ Below w.heap.size w w' := by
  have B0 := below_alloc w (.cells #[.int .i64 0, .int .i64 0, .slice none 0 0] 31)
  have b0 : Blk _ w.heap.size [.int .i64 0, .int .i64 0, .slice none 0 0] 31 := Blk.new w _ 31
  have h := ev_integer (wrap64 (a.tdiv b)) (w.alloc (.cells #[.int .i64 0, .int .i64 0, .slice none 0 0] 31))
  go_enter Tryz.func158, Tryz.ntmps158
  go_wp2_with fail
  refine h.mono ?_
  rintro _ w1 ⟨rfl, hb⟩
  have B1 := Below.next B0 hb
  have b1 := b0.kept hb
  clear h B0 b0 hb
  go_wp2_with (refine wpList_store_blk rfl rfl 31 (.tmp 6) (.tmp 48) rfl w.heap.size [.int .i64 1, .int .i64 (wrap64 (a.tdiv b)), .slice none 0 0] rfl rfl rfl b1 rfl (by kernel_rfl) ?_; intro w2 W2)
  have e0 := W2.blk.cell 0 rfl
  have e1 := W2.blk.cell 1 rfl
  have e2 := W2.blk.cell 2 rfl
  exact bodyPost_ret (v := .tuple #[.agg #[.int .i64 1, .int .i64 (wrap64 (a.tdiv b)), .slice none 0 0], .bool true]) (by simp [results, Tryz.results158, go_sem, e0, e1, e2]) rfl ⟨rfl, W2.below (Nat.le_refl _) B1⟩
set_option maxRecDepth 100000 in
set_option maxHeartbeats 2000000 in
theorem ev_reck10 (a b : Int) (w : World)
    (hz : (b == 0) = false) (hz2 : ¬ b = 0) : Calls Tryz.prog 158 #[.int .i64 10, .int .i64 a, .int .i64 b] w fun e w' => e = .returned (.tuple #[.agg #[.int .i64 1, .int .i64 (a.tmod b), .slice none 0 0], .bool true]) ∧ Below w.heap.size w w' := by
  have B0 := below_alloc w (.cells #[.int .i64 0, .int .i64 0, .slice none 0 0] 31)
  have b0 : Blk _ w.heap.size [.int .i64 0, .int .i64 0, .slice none 0 0] 31 := Blk.new w _ 31
  have h := ev_integer (a.tmod b) (w.alloc (.cells #[.int .i64 0, .int .i64 0, .slice none 0 0] 31))
  go_enter Tryz.func158, Tryz.ntmps158
  go_wp2_with fail
  refine h.mono ?_
  rintro _ w1 ⟨rfl, hb⟩
  have B1 := Below.next B0 hb
  have b1 := b0.kept hb
  clear h B0 b0 hb
  go_wp2_with (refine wpList_store_blk rfl rfl 31 (.tmp 6) (.tmp 54) rfl w.heap.size [.int .i64 1, .int .i64 (a.tmod b), .slice none 0 0] rfl rfl rfl b1 rfl (by kernel_rfl) ?_; intro w2 W2)
  have e0 := W2.blk.cell 0 rfl
  have e1 := W2.blk.cell 1 rfl
  have e2 := W2.blk.cell 2 rfl
  exact bodyPost_ret (v := .tuple #[.agg #[.int .i64 1, .int .i64 (a.tmod b), .slice none 0 0], .bool true]) (by simp [results, Tryz.results158, go_sem, e0, e1, e2]) rfl ⟨rfl, W2.below (Nat.le_refl _) B1⟩
set_option maxRecDepth 100000 in
set_option maxHeartbeats 2000000 in
theorem ev_rreck9 (a b : Int) (w : World)
    (hz : (b == 0) = false) (hz2 : ¬ b = 0) (hm : (b == -1) = false) : Calls Tryz.prog 18 #[.int .i64 9, .int .i64 a, .int .i64 b] w fun e w' => e = .returned (.tuple #[.agg #[.int .i64 1, .int .i64 (wrap64 (a.tdiv b)), .slice none 0 0], .bool true]) ∧ Below w.heap.size w w' := by
  have B0 := below_alloc w (.cells #[.int .i64 0, .int .i64 0, .slice none 0 0] 31)
  have b0 : Blk _ w.heap.size [.int .i64 0, .int .i64 0, .slice none 0 0] 31 := Blk.new w _ 31
  have h := ev_rinteger (wrap64 (a.tdiv b)) (w.alloc (.cells #[.int .i64 0, .int .i64 0, .slice none 0 0] 31))
  go_enter Tryz.func18, Tryz.ntmps18
  go_wp2_with fail
  refine h.mono ?_
  rintro _ w1 ⟨rfl, hb⟩
  have B1 := Below.next B0 hb
  have b1 := b0.kept hb
  clear h B0 b0 hb
  go_wp2_with (refine wpList_store_blk rfl rfl 31 (.tmp 6) (.tmp 63) rfl w.heap.size [.int .i64 1, .int .i64 (wrap64 (a.tdiv b)), .slice none 0 0] rfl rfl rfl b1 rfl (by kernel_rfl) ?_; intro w2 W2)
  have e0 := W2.blk.cell 0 rfl
  have e1 := W2.blk.cell 1 rfl
  have e2 := W2.blk.cell 2 rfl
  exact bodyPost_ret (v := .tuple #[.agg #[.int .i64 1, .int .i64 (wrap64 (a.tdiv b)), .slice none 0 0], .bool true]) (by simp [results, Tryz.results18, go_sem, e0, e1, e2]) rfl ⟨rfl, W2.below (Nat.le_refl _) B1⟩
set_option maxRecDepth 100000 in
set_option maxHeartbeats 2000000 in
theorem ev_rreck9m (a b : Int) (w : World)
    (hm : b = -1) : Calls Tryz.prog 18 #[.int .i64 9, .int .i64 a, .int .i64 b] w fun e w' => e = .returned (.tuple #[.agg #[.int .i64 1, .int .i64 (wrap64 (-a)), .slice none 0 0], .bool true]) ∧ Below w.heap.size w w' := by
  have B0 := below_alloc w (.cells #[.int .i64 0, .int .i64 0, .slice none 0 0] 31)
  have b0 : Blk _ w.heap.size [.int .i64 0, .int .i64 0, .slice none 0 0] 31 := Blk.new w _ 31
  have h := ev_rinteger (wrap64 (-a)) (w.alloc (.cells #[.int .i64 0, .int .i64 0, .slice none 0 0] 31))
  subst hm
  go_enter Tryz.func18, Tryz.ntmps18
  go_wp2_with fail
  refine h.mono ?_
  rintro _ w1 ⟨rfl, hb⟩
  have B1 := Below.next B0 hb
  have b1 := b0.kept hb
  clear h B0 b0 hb
  go_wp2_with (refine wpList_store_blk rfl rfl 31 (.tmp 6) (.tmp 63) rfl w.heap.size [.int .i64 1, .int .i64 (wrap64 (-a)), .slice none 0 0] rfl rfl rfl b1 rfl (by kernel_rfl) ?_; intro w2 W2)
  have e0 := W2.blk.cell 0 rfl
  have e1 := W2.blk.cell 1 rfl
  have e2 := W2.blk.cell 2 rfl
  exact bodyPost_ret (v := .tuple #[.agg #[.int .i64 1, .int .i64 (wrap64 (-a)), .slice none 0 0], .bool true]) (by simp [results, Tryz.results18, go_sem, e0, e1, e2]) rfl ⟨rfl, W2.below (Nat.le_refl _) B1⟩
set_option maxRecDepth 100000 in
set_option maxHeartbeats 2000000 in
theorem ev_rreck10 (a b : Int) (w : World)
    (hz : (b == 0) = false) (hz2 : ¬ b = 0) (hm : (b == -1) = false) : Calls Tryz.prog 18 #[.int .i64 10, .int .i64 a, .int .i64 b] w fun e w' => e = .returned (.tuple #[.agg #[.int .i64 1, .int .i64 (wrap64 (a - wrap64 (wrap64 (a.tdiv b) * b))), .slice none 0 0], .bool true]) ∧ Below w.heap.size w w' := by
  have B0 := below_alloc w (.cells #[.int .i64 0, .int .i64 0, .slice none 0 0] 31)
  have b0 : Blk _ w.heap.size [.int .i64 0, .int .i64 0, .slice none 0 0] 31 := Blk.new w _ 31
  have h := ev_rinteger (wrap64 (a - wrap64 (wrap64 (a.tdiv b) * b))) (w.alloc (.cells #[.int .i64 0, .int .i64 0, .slice none 0 0] 31))
  go_enter Tryz.func18, Tryz.ntmps18
  go_wp2_with fail
  refine h.mono ?_
  rintro _ w1 ⟨rfl, hb⟩
  have B1 := Below.next B0 hb
  have b1 := b0.kept hb
  clear h B0 b0 hb
  go_wp2_with (refine wpList_store_blk rfl rfl 31 (.tmp 6) (.tmp 65) rfl w.heap.size [.int .i64 1, .int .i64 (wrap64 (a - wrap64 (wrap64 (a.tdiv b) * b))), .slice none 0 0] rfl rfl rfl b1 rfl (by kernel_rfl) ?_; intro w2 W2)
  have e0 := W2.blk.cell 0 rfl
  have e1 := W2.blk.cell 1 rfl
  have e2 := W2.blk.cell 2 rfl
  exact bodyPost_ret (v := .tuple #[.agg #[.int .i64 1, .int .i64 (wrap64 (a - wrap64 (wrap64 (a.tdiv b) * b))), .slice none 0 0], .bool true]) (by simp [results, Tryz.results18, go_sem, e0, e1, e2]) rfl ⟨rfl, W2.below (Nat.le_refl _) B1⟩
set_option maxRecDepth 100000 in
set_option maxHeartbeats 2000000 in
theorem ev_rreck10m (a b : Int) (w : World)
    (hm : b = -1) : Calls Tryz.prog 18 #[.int .i64 10, .int .i64 a, .int .i64 b] w fun e w' => e = .returned (.tuple #[.agg #[.int .i64 1, .int .i64 0, .slice none 0 0], .bool true]) ∧ Below w.heap.size w w' := by
  have B0 := below_alloc w (.cells #[.int .i64 0, .int .i64 0, .slice none 0 0] 31)
  have b0 : Blk _ w.heap.size [.int .i64 0, .int .i64 0, .slice none 0 0] 31 := Blk.new w _ 31
  have h := ev_rinteger 0 (w.alloc (.cells #[.int .i64 0, .int .i64 0, .slice none 0 0] 31))
  subst hm
  go_enter Tryz.func18, Tryz.ntmps18
  go_wp2_with fail
  refine h.mono ?_
  rintro _ w1 ⟨rfl, hb⟩
  have B1 := Below.next B0 hb
  have b1 := b0.kept hb
  clear h B0 b0 hb
  go_wp2_with (refine wpList_store_blk rfl rfl 31 (.tmp 6) (.tmp 65) rfl w.heap.size [.int .i64 1, .int .i64 0, .slice none 0 0] rfl rfl rfl b1 rfl (by kernel_rfl) ?_; intro w2 W2)
  have e0 := W2.blk.cell 0 rfl
  have e1 := W2.blk.cell 1 rfl
  have e2 := W2.blk.cell 2 rfl
  exact bodyPost_ret (v := .tuple #[.agg #[.int .i64 1, .int .i64 0, .slice none 0 0], .bool true]) (by simp [results, Tryz.results18, go_sem, e0, e1, e2]) rfl ⟨rfl, W2.below (Nat.le_refl _) B1⟩
end Go.Proofs.YtmkncmmegjfipaaGreatDoor

/- Layer 9: the statement EvalReckons, walked whole. -/
namespace Go.Proofs.YtmkncmmegjfipaaGreatDoor
open Go Go.RowKit

set_option maxRecDepth 100000 in
set_option maxHeartbeats 2000000 in
theorem ev_rsame (k n : Int) (w : World) : Calls Tryz.prog 15 #[.agg #[.int .i64 k, .int .i64 n, .slice none 0 0], .agg #[.int .i64 k, .int .i64 n, .slice none 0 0]] w fun e w' => e = .returned (.bool true) ∧ Below w.heap.size w w' := by
  have B0 := allocs_below [.cells #[.int .i64 k, .int .i64 n, .slice none 0 0] 31, .cells #[.int .i64 k, .int .i64 n, .slice none 0 0] 31] w
  simp only [List.foldl] at B0
  have hk : (k != k) = false := by simp
  have hn : (n != n) = false := by simp
  go_enter Tryz.func15, Tryz.ntmps15
  go_wp2
  go_loopw [5] (fun i wr => i = .int .i64 0 ∧ wr = (w.alloc (.cells #[.int .i64 k, .int .i64 n, .slice none 0 0] 31)).alloc (.cells #[.int .i64 k, .int .i64 n, .slice none 0 0] 31)) (fun _ _ => 0)
  case atStart => exact ⟨rfl, rfl⟩
  case round =>
    obtain ⟨rfl, rfl⟩ := hrel
    go_wp2
    go_ret
    exact ⟨rfl, B0⟩
theorem wpList_buildEG {ops : Array Oper} {rest : List Oper} {o : Oper} {a : Act} {w w' : World} {v : Value} {Q : Exit → Act → World → Prop} (hw : Region.wanted o (yielded ops a.tmps) = true) (t : TypeId) (parts : Array (Nat × Operand)) (ho : o.op = .build t parts) (vals : Array (Nat × Value)) (hv : (parts.map fun (i, x) => (i, a.eval x)) = vals)
    (hs : (Instr.build t vals).run Tryz.prog w = .ok v w') (h : wpList Tryz.prog ops Q rest (a.put o.dst v) w') : wpList Tryz.prog ops Q (o :: rest) a w := by
  subst hv
  refine Go.BigFrame.wpList_want hw fun _ hK => ?_
  unfold Oper.wp execOp
  simp only [ho, Sem.run_bind, hs, Result.andThen_ok, Sem.run_pure]
  exact hK _ _ h
/-- Both answers are one. -/
def BothReck (op a b : Int) : Prop := ∃ (k n : Int) (ok : Bool), (∀ w, Calls Tryz.prog 158 #[.int .i64 op, .int .i64 a, .int .i64 b] w fun e w' => e = .returned (.tuple #[.agg #[.int .i64 k, .int .i64 n, .slice none 0 0], .bool ok]) ∧ Below w.heap.size w w') ∧
  (∀ w, Calls Tryz.prog 18 #[.int .i64 op, .int .i64 a, .int .i64 b] w fun e w' => e = .returned (.tuple #[.agg #[.int .i64 k, .int .i64 n, .slice none 0 0], .bool ok]) ∧ Below w.heap.size w w')
theorem tmod_in {a b : Int} (ha : -9223372036854775808 ≤ a ∧ a ≤ 9223372036854775807) : -9223372036854775808 ≤ a.tmod b ∧ a.tmod b ≤ 9223372036854775807 := by
  rcases Int.le_total 0 a with h | h
  · have h1 := Int.tmod_nonneg b h
    have h2 : a.tmod b ≤ a := by
      obtain ⟨m, rfl⟩ := Int.eq_ofNat_of_zero_le h
      have : ((m : Int).tmod b).natAbs ≤ m := by rw [Int.natAbs_tmod]; exact Nat.mod_le _ _
      omega
    omega
  · have h0 : (-a).tmod b = -(a.tmod b) := Int.neg_tmod a b
    have h1 := Int.tmod_nonneg b (show 0 ≤ -a by omega)
    have h2 : ((-a).tmod b) ≤ -a := by
      obtain ⟨m, hm⟩ := Int.eq_ofNat_of_zero_le (show 0 ≤ -a by omega)
      rw [hm]
      have h3 := Int.tmod_nonneg b (show (0 : Int) ≤ (m : Int) by omega)
      have : ((m : Int).tmod b).natAbs ≤ m := by rw [Int.natAbs_tmod]; exact Nat.mod_le _ _
      omega
    omega
theorem wrap64_modeq (x : Int) : ∃ q : Int, wrap64 x = x + q * 18446744073709551616 := by
  refine ⟨-((x + 9223372036854775808) / 18446744073709551616), ?_⟩
  unfold wrap64
  have := Int.emod_add_mul_ediv (x + 9223372036854775808) 18446744073709551616
  have h2 : -((x + 9223372036854775808) / 18446744073709551616) * 18446744073709551616 = -(18446744073709551616 * ((x + 9223372036854775808) / 18446744073709551616)) := by rw [Int.neg_mul, Int.mul_comm]
  omega
theorem wrap64_add_mul (x q : Int) : wrap64 (x + q * 18446744073709551616) = wrap64 x := by unfold wrap64; omega
theorem rem_eq (a b : Int) (ha : -9223372036854775808 ≤ a ∧ a ≤ 9223372036854775807) : wrap64 (a - wrap64 (wrap64 (a.tdiv b) * b)) = a.tmod b := by
  obtain ⟨q1, h1⟩ := wrap64_modeq (a.tdiv b)
  obtain ⟨q2, h2⟩ := wrap64_modeq (wrap64 (a.tdiv b) * b)
  have e : a - wrap64 (wrap64 (a.tdiv b) * b) = a.tmod b + (-(q1 * b) - q2) * 18446744073709551616 := by
    rw [h2, h1]
    have h3 := Int.mul_tdiv_add_tmod a b
    have h4 : (a.tdiv b + q1 * 18446744073709551616) * b = b * a.tdiv b + q1 * b * 18446744073709551616 := by
      rw [Int.add_mul, Int.mul_comm (a.tdiv b) b, Int.mul_assoc, Int.mul_comm 18446744073709551616 b, ← Int.mul_assoc]
    rw [h4, Int.sub_mul, Int.neg_mul]
    omega
  rw [e, wrap64_add_mul]
  have := tmod_in (b := b) ha
  unfold wrap64; omega
theorem both_reck (op a b : Int) (ha : -9223372036854775808 ≤ a ∧ a ≤ 9223372036854775807) : BothReck op a b := by
  have ne : ∀ {x y : Int}, ¬ x = y → (x == y) = false := fun h => beq_eq_false_iff_ne.2 h
  by_cases h6 : op = 6
  · subst h6; exact ⟨_, _, _, ev_reck6 a b, ev_rreck6 a b⟩
  by_cases h7 : op = 7
  · subst h7; exact ⟨_, _, _, ev_reck7 a b, ev_rreck7 a b⟩
  by_cases h8 : op = 8
  · subst h8; exact ⟨_, _, _, ev_reck8 a b, ev_rreck8 a b⟩
  by_cases h11 : op = 11
  · subst h11
    by_cases hl : a < b
    · exact ⟨_, _, _, fun w => ev_reck11t a b w hl, fun w => ev_rreck11t a b w hl⟩
    · exact ⟨_, _, _, fun w => ev_reck11f a b w hl, fun w => ev_rreck11f a b w hl⟩
  by_cases h12 : op = 12
  · subst h12
    by_cases hl : a = b
    · exact ⟨_, _, _, fun w => ev_reck12t a b w (beq_iff_eq.2 hl), fun w => ev_rreck12t a b w (beq_iff_eq.2 hl)⟩
    · exact ⟨_, _, _, fun w => ev_reck12f a b w (ne hl), fun w => ev_rreck12f a b w (ne hl)⟩
  by_cases hz : b = 0
  · by_cases h9 : op = 9
    · subst h9; exact ⟨_, _, _, fun w => ev_reck9z a b w hz, fun w => ev_rreck9z a b w hz⟩
    by_cases h10 : op = 10
    · subst h10; exact ⟨_, _, _, fun w => ev_reck10z a b w hz, fun w => ev_rreck10z a b w hz⟩
    exact ⟨_, _, _, fun w => ev_reckN0 op a b w (ne h6) (ne h7) (ne h8) (ne h11) (ne h12) hz, fun w => ev_rreckN op a b w (ne h6) (ne h7) (ne h8) (ne h9) (ne h10) (ne h11) (ne h12)⟩
  by_cases h9 : op = 9
  · subst h9
    by_cases hm : b = -1
    · refine ⟨_, _, _, fun w => ev_reck9 a b w (ne hz) hz, fun w => ?_⟩
      have h := ev_rreck9m a b w hm
      rw [show wrap64 (-a) = wrap64 (a.tdiv b) by subst hm; rw [Int.tdiv_neg, Int.tdiv_one]] at h
      exact h
    · exact ⟨_, _, _, fun w => ev_reck9 a b w (ne hz) hz, fun w => ev_rreck9 a b w (ne hz) hz (ne hm)⟩
  by_cases h10 : op = 10
  · subst h10
    by_cases hm : b = -1
    · refine ⟨_, _, _, fun w => ev_reck10 a b w (ne hz) hz, fun w => ?_⟩
      have h := ev_rreck10m a b w hm
      rw [show (0 : Int) = a.tmod b by subst hm; rw [Int.tmod_neg, Int.tmod_one]] at h
      exact h
    · refine ⟨_, _, _, fun w => ev_reck10 a b w (ne hz) hz, fun w => ?_⟩
      have h := ev_rreck10 a b w (ne hz) hz (ne hm)
      rw [rem_eq a b ha] at h
      exact h
  exact ⟨_, _, _, fun w => ev_reckN op a b w (ne h6) (ne h7) (ne h8) (ne h9) (ne h10) (ne h11) (ne h12) (ne hz), fun w => ev_rreckN op a b w (ne h6) (ne h7) (ne h8) (ne h9) (ne h10) (ne h11) (ne h12)⟩
end Go.Proofs.YtmkncmmegjfipaaGreatDoor
