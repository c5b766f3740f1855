/- Layer 10: makes, of the Ops 1 to 4. -/
import Derived.Test.YtbdhbgilaeldgaaGreatP17
namespace Go.Proofs.YtbdhbgilaeldgaaGreat
open Go Go.RowKit

/-- What makes answers. -/
def MakeC (D : Nat) (j : Jd) (nd : Nd) (w : World) : Prop := Calls Tryz.prog 98 #[.agg j.va, .agg nd.va] w (TkRet D (j.makes nd).1 (j.makes nd).2 w)
structure Mk (w : World) (j : Jd) (nd : Nd) (u : World) : Prop where
  bl : Below w.heap.size w u
  hj : j.At u
  J : Blk u w.heap.size j.vs 61
  N : Blk u (w.heap.size + 1) nd.vs 44
  Z : Blk u (w.heap.size + 2) zTv 38
  sz : w.heap.size + 3 ≤ u.heap.size
theorem Mk.kept {w : World} {j : Jd} {nd : Nd} {u u' : World} (h : Mk w j nd u) (hb : Below u.heap.size u u') : Mk w j nd u' :=
  ⟨Below.next h.bl hb, h.hj.kept hb, h.J.kept hb, h.N.kept hb, h.Z.kept hb, Nat.le_trans h.sz hb.size⟩
def mkW (w : World) (j : Jd) (nd : Nd) : World := ((w.alloc (.cells j.va 61)).alloc (.cells nd.va 44)).alloc (.cells #[.int .i64 0, .int .i64 0, .slice none 0 0, .int .i64 0, .int .i64 0] 38)
theorem mk_new (w : World) (j : Jd) (nd : Nd) (hj : j.At w) : Mk w j nd (mkW w j nd) := by
  have H := allocs_heap [.cells j.va 61, .cells nd.va 44, .cells zTv.toArray 38] w
  have B0 := allocs_below [.cells j.va 61, .cells nd.va 44, .cells zTv.toArray 38] w
  have SZ := allocs_size [.cells j.va 61, .cells nd.va 44, .cells zTv.toArray 38] w
  simp only [List.foldl, List.length] at H B0 SZ
  exact ⟨B0, hj.kept B0, H 0 (by simp), H 1 (by simp), H 2 (by simp), by show _ ≤ (World.heap _).size; exact Nat.le_of_eq SZ.symm⟩

/-- The answer stored. -/
theorem tk_mk {D : Nat} {r : Ty} {k : Int} {w w' : World} (u : Ty) (hA : u.At w') (hk : u.Blk (fun b => b < D ∨ w.heap.size ≤ b)) (hs : u.same r = true) (hb : Below w.heap.size w w') : TkRet D r k w (.returned (.tuple #[.agg u.vs.toArray, .int .i64 k])) w' := ⟨u, rfl, hA, hk, hs, hb⟩
set_option maxRecDepth 100000 in
set_option maxHeartbeats 8000000 in
theorem makes_op1 (D : Nat) (j : Jd) (nd : Nd) (w : World) (hj : j.At w) (hD : D ≤ w.heap.size) (hop : nd.h.op = 1) (r : Ty) (hr : j.makes nd = (r, -1)) (hc : ∀ u, Below w.heap.size w u → Calls Tryz.prog 120 #[.agg j.vs.toArray, .int .i64 1] u (TyRet D r u)) : MakeC D j nd w := by
  unfold MakeC
  have HI := hid (mk_new w j nd hj)
  have HG := hid hr
  have c0 := HI.out.N.cell 0 (v := .int .i64 nd.h.op) rfl
  have c2 := HI.out.N.cell 2 (v := .int .i64 nd.h.a) rfl
  have HP : Hid (∀ u, Below w.heap.size w u → Calls Tryz.prog 120 #[.agg j.vs.toArray, .int .i64 1] u (TyRet D r u)) := hc
  rw [hop] at c0
  unfold mkW at HI c0 c2
  clear hop hr hc hj
  go_enter Tryz.func98, Tryz.ntmps98
  go_upto_region 1 with fail
  generalize (((w.alloc (.cells j.va 61)).alloc (.cells nd.va 44)).alloc (.cells #[.int .i64 0, .int .i64 0, .slice none 0 0, .int .i64 0, .int .i64 0] 38)) = w1 at *
  have bJ := HI.out.J
  have bN := HI.out.N
  go_wp2_with (first | (refine wpList_load_mid rfl 61 (.tmp 2) rfl w.heap.size 0 (by kernel_rfl) j.vs _ bJ.range Tryz.underlying61 rfl (by kernel_rfl) ?_) | (refine wpList_load_mid rfl 44 (.tmp 3) rfl (w.heap.size + 1) 0 (by kernel_rfl) nd.vs _ bN.range Tryz.underlying44 rfl (by kernel_rfl) ?_))
  refine (HP.out w1 HI.out.bl).mono ?_
  rintro _ w2 ⟨u, rfl, uA, uB, uS, hb⟩
  have HI2 := hid (HI.out.kept hb)
  have HU := hid (show u.At w2 ∧ u.Blk (fun b => b < D ∨ w.heap.size + 3 ≤ b) ∧ u.same r = true from ⟨uA, uB.mono (fun b h => by have := HI.out.sz; omega), uS⟩)
  have bZ := HI2.out.Z
  clear HI bJ bN c0 c2 HP hb uA uB uS
  go_wp2_with (refine wpList_store_blk rfl rfl 38 (.tmp 4) (.tmp 14) rfl (w.heap.size + 2) u.vs (by kernel_rfl) (by kernel_rfl) u.vs_one bZ rfl (by kernel_rfl) ?_; intro w3 W2)
  have z0 := W2.blk.cell 0 (v := .int .i64 u.k) rfl
  have z1 := W2.blk.cell 1 (v := .int .i64 u.l) rfl
  have z2 := W2.blk.cell 2 (v := .slice u.ao u.len u.cap) rfl
  have z3 := W2.blk.cell 3 (v := .int .i64 u.h) rfl
  have z4 := W2.blk.cell 4 (v := .int .i64 u.e) rfl
  refine bodyPost_ret (v := .tuple #[.agg u.vs.toArray, .int .i64 (-1)]) (by simp [results, Tryz.results98, go_sem, z0, z1, z2, z3, z4, Ty.vs]) rfl ?_
  rw [HG.out]
  exact tk_mk u (HU.out.1.wrote HU.out.2.1 W2 (by omega) (by omega)) (HU.out.2.1.mono (fun b h => by omega)) HU.out.2.2 (W2.below (by omega) HI2.out.bl)
set_option maxRecDepth 100000 in
set_option maxHeartbeats 8000000 in
theorem makes_op2 (D : Nat) (j : Jd) (nd : Nd) (w : World) (hj : j.At w) (hD : D ≤ w.heap.size) (hop : nd.h.op = 2) (r : Ty) (hr : j.makes nd = (r, -1)) (hc : ∀ u, Below w.heap.size w u → Calls Tryz.prog 120 #[.agg j.vs.toArray, .int .i64 2] u (TyRet D r u)) : MakeC D j nd w := by
  unfold MakeC
  have HI := hid (mk_new w j nd hj)
  have HG := hid hr
  have c0 := HI.out.N.cell 0 (v := .int .i64 nd.h.op) rfl
  have c2 := HI.out.N.cell 2 (v := .int .i64 nd.h.a) rfl
  have HP : Hid (∀ u, Below w.heap.size w u → Calls Tryz.prog 120 #[.agg j.vs.toArray, .int .i64 2] u (TyRet D r u)) := hc
  rw [hop] at c0
  unfold mkW at HI c0 c2
  clear hop hr hc hj
  go_enter Tryz.func98, Tryz.ntmps98
  go_upto_region 1 with fail
  generalize (((w.alloc (.cells j.va 61)).alloc (.cells nd.va 44)).alloc (.cells #[.int .i64 0, .int .i64 0, .slice none 0 0, .int .i64 0, .int .i64 0] 38)) = w1 at *
  have bJ := HI.out.J
  have bN := HI.out.N
  go_wp2_with (first | (refine wpList_load_mid rfl 61 (.tmp 2) rfl w.heap.size 0 (by kernel_rfl) j.vs _ bJ.range Tryz.underlying61 rfl (by kernel_rfl) ?_) | (refine wpList_load_mid rfl 44 (.tmp 3) rfl (w.heap.size + 1) 0 (by kernel_rfl) nd.vs _ bN.range Tryz.underlying44 rfl (by kernel_rfl) ?_))
  refine (HP.out w1 HI.out.bl).mono ?_
  rintro _ w2 ⟨u, rfl, uA, uB, uS, hb⟩
  have HI2 := hid (HI.out.kept hb)
  have HU := hid (show u.At w2 ∧ u.Blk (fun b => b < D ∨ w.heap.size + 3 ≤ b) ∧ u.same r = true from ⟨uA, uB.mono (fun b h => by have := HI.out.sz; omega), uS⟩)
  have bZ := HI2.out.Z
  clear HI bJ bN c0 c2 HP hb uA uB uS
  go_wp2_with (refine wpList_store_blk rfl rfl 38 (.tmp 4) (.tmp 18) rfl (w.heap.size + 2) u.vs (by kernel_rfl) (by kernel_rfl) u.vs_one bZ rfl (by kernel_rfl) ?_; intro w3 W2)
  have z0 := W2.blk.cell 0 (v := .int .i64 u.k) rfl
  have z1 := W2.blk.cell 1 (v := .int .i64 u.l) rfl
  have z2 := W2.blk.cell 2 (v := .slice u.ao u.len u.cap) rfl
  have z3 := W2.blk.cell 3 (v := .int .i64 u.h) rfl
  have z4 := W2.blk.cell 4 (v := .int .i64 u.e) rfl
  refine bodyPost_ret (v := .tuple #[.agg u.vs.toArray, .int .i64 (-1)]) (by simp [results, Tryz.results98, go_sem, z0, z1, z2, z3, z4, Ty.vs]) rfl ?_
  rw [HG.out]
  exact tk_mk u (HU.out.1.wrote HU.out.2.1 W2 (by omega) (by omega)) (HU.out.2.1.mono (fun b h => by omega)) HU.out.2.2 (W2.below (by omega) HI2.out.bl)
set_option maxRecDepth 100000 in
set_option maxHeartbeats 8000000 in
theorem makes_op3 (D : Nat) (j : Jd) (nd : Nd) (w : World) (hj : j.At w) (hD : D ≤ w.heap.size) (hop : nd.h.op = 3) (r : Ty) (hr : j.makes nd = (r, -1)) (hc : ∀ u, Below w.heap.size w u → Calls Tryz.prog 96 #[.agg j.vs.toArray, .agg nd.vs.toArray, .int .i64 nd.h.a] u (TyRet D r u)) : MakeC D j nd w := by
  unfold MakeC
  have HI := hid (mk_new w j nd hj)
  have HG := hid hr
  have c0 := HI.out.N.cell 0 (v := .int .i64 nd.h.op) rfl
  have c2 := HI.out.N.cell 2 (v := .int .i64 nd.h.a) rfl
  have HP : Hid (∀ u, Below w.heap.size w u → Calls Tryz.prog 96 #[.agg j.vs.toArray, .agg nd.vs.toArray, .int .i64 nd.h.a] u (TyRet D r u)) := hc
  rw [hop] at c0
  unfold mkW at HI c0 c2
  clear hop hr hc hj
  go_enter Tryz.func98, Tryz.ntmps98
  go_upto_region 1 with fail
  generalize (((w.alloc (.cells j.va 61)).alloc (.cells nd.va 44)).alloc (.cells #[.int .i64 0, .int .i64 0, .slice none 0 0, .int .i64 0, .int .i64 0] 38)) = w1 at *
  have bJ := HI.out.J
  have bN := HI.out.N
  go_wp2_with (first | (refine wpList_load_mid rfl 61 (.tmp 2) rfl w.heap.size 0 (by kernel_rfl) j.vs _ bJ.range Tryz.underlying61 rfl (by kernel_rfl) ?_) | (refine wpList_load_mid rfl 44 (.tmp 3) rfl (w.heap.size + 1) 0 (by kernel_rfl) nd.vs _ bN.range Tryz.underlying44 rfl (by kernel_rfl) ?_))
  refine (HP.out w1 HI.out.bl).mono ?_
  rintro _ w2 ⟨u, rfl, uA, uB, uS, hb⟩
  have HI2 := hid (HI.out.kept hb)
  have HU := hid (show u.At w2 ∧ u.Blk (fun b => b < D ∨ w.heap.size + 3 ≤ b) ∧ u.same r = true from ⟨uA, uB.mono (fun b h => by have := HI.out.sz; omega), uS⟩)
  have bZ := HI2.out.Z
  clear HI bJ bN c0 c2 HP hb uA uB uS
  go_wp2_with (refine wpList_store_blk rfl rfl 38 (.tmp 4) (.tmp 25) rfl (w.heap.size + 2) u.vs (by kernel_rfl) (by kernel_rfl) u.vs_one bZ rfl (by kernel_rfl) ?_; intro w3 W2)
  have z0 := W2.blk.cell 0 (v := .int .i64 u.k) rfl
  have z1 := W2.blk.cell 1 (v := .int .i64 u.l) rfl
  have z2 := W2.blk.cell 2 (v := .slice u.ao u.len u.cap) rfl
  have z3 := W2.blk.cell 3 (v := .int .i64 u.h) rfl
  have z4 := W2.blk.cell 4 (v := .int .i64 u.e) rfl
  refine bodyPost_ret (v := .tuple #[.agg u.vs.toArray, .int .i64 (-1)]) (by simp [results, Tryz.results98, go_sem, z0, z1, z2, z3, z4, Ty.vs]) rfl ?_
  rw [HG.out]
  exact tk_mk u (HU.out.1.wrote HU.out.2.1 W2 (by omega) (by omega)) (HU.out.2.1.mono (fun b h => by omega)) HU.out.2.2 (W2.below (by omega) HI2.out.bl)
set_option maxRecDepth 100000 in
set_option maxHeartbeats 8000000 in
theorem makes_op4 (D : Nat) (j : Jd) (nd : Nd) (w : World) (hj : j.At w) (hD : D ≤ w.heap.size) (hop : nd.h.op = 4) (r : Ty) (k : Int) (hr : j.makes nd = (r, k)) (hc : ∀ u, Below w.heap.size w u → Calls Tryz.prog 121 #[.agg j.vs.toArray, .agg nd.vs.toArray] u (TkRet D r k u)) : MakeC D j nd w := by
  unfold MakeC
  have HI := hid (mk_new w j nd hj)
  have HG := hid hr
  have c0 := HI.out.N.cell 0 (v := .int .i64 nd.h.op) rfl
  have c2 := HI.out.N.cell 2 (v := .int .i64 nd.h.a) rfl
  have HP : Hid (∀ u, Below w.heap.size w u → Calls Tryz.prog 121 #[.agg j.vs.toArray, .agg nd.vs.toArray] u (TkRet D r k u)) := hc
  rw [hop] at c0
  unfold mkW at HI c0 c2
  clear hop hr hc hj
  go_enter Tryz.func98, Tryz.ntmps98
  go_upto_region 1 with fail
  generalize (((w.alloc (.cells j.va 61)).alloc (.cells nd.va 44)).alloc (.cells #[.int .i64 0, .int .i64 0, .slice none 0 0, .int .i64 0, .int .i64 0] 38)) = w1 at *
  have bJ := HI.out.J
  have bN := HI.out.N
  go_wp2_with (first | (refine wpList_load_mid rfl 61 (.tmp 2) rfl w.heap.size 0 (by kernel_rfl) j.vs _ bJ.range Tryz.underlying61 rfl (by kernel_rfl) ?_) | (refine wpList_load_mid rfl 44 (.tmp 3) rfl (w.heap.size + 1) 0 (by kernel_rfl) nd.vs _ bN.range Tryz.underlying44 rfl (by kernel_rfl) ?_))
  refine (HP.out w1 HI.out.bl).mono ?_
  rintro _ w2 ⟨u, rfl, uA, uB, uS, hb⟩
  have HI2 := hid (HI.out.kept hb)
  have HU := hid (show u.At w2 ∧ u.Blk (fun b => b < D ∨ w.heap.size + 3 ≤ b) ∧ u.same r = true from ⟨uA, uB.mono (fun b h => by have := HI.out.sz; omega), uS⟩)
  have bZ := HI2.out.Z
  clear HI bJ bN c0 c2 HP hb uA uB uS
  go_wp2_with (refine wpList_store_blk rfl rfl 38 (.tmp 4) (.tmp 31) rfl (w.heap.size + 2) u.vs (by kernel_rfl) (by kernel_rfl) u.vs_one bZ rfl (by kernel_rfl) ?_; intro w3 W2)
  have z0 := W2.blk.cell 0 (v := .int .i64 u.k) rfl
  have z1 := W2.blk.cell 1 (v := .int .i64 u.l) rfl
  have z2 := W2.blk.cell 2 (v := .slice u.ao u.len u.cap) rfl
  have z3 := W2.blk.cell 3 (v := .int .i64 u.h) rfl
  have z4 := W2.blk.cell 4 (v := .int .i64 u.e) rfl
  refine bodyPost_ret (v := .tuple #[.agg u.vs.toArray, .int .i64 k]) (by simp [results, Tryz.results98, go_sem, z0, z1, z2, z3, z4, Ty.vs]) rfl ?_
  rw [HG.out]
  exact tk_mk u (HU.out.1.wrote HU.out.2.1 W2 (by omega) (by omega)) (HU.out.2.1.mono (fun b h => by omega)) HU.out.2.2 (W2.below (by omega) HI2.out.bl)
set_option maxRecDepth 100000 in
set_option maxHeartbeats 8000000 in
theorem makes_op7 (D : Nat) (j : Jd) (nd : Nd) (w : World) (hj : j.At w) (hD : D ≤ w.heap.size) (hop : nd.h.op = 7) (r : Ty) (hr : j.makes nd = (r, -1)) (hc : ∀ u, Below w.heap.size w u → Calls Tryz.prog 123 #[.agg j.vs.toArray, .agg nd.vs.toArray, .int .i64 0] u (TyRet D r u)) : MakeC D j nd w := by
  unfold MakeC
  have HI := hid (mk_new w j nd hj)
  have HG := hid hr
  have c0 := HI.out.N.cell 0 (v := .int .i64 nd.h.op) rfl
  have c2 := HI.out.N.cell 2 (v := .int .i64 nd.h.a) rfl
  have HP : Hid (∀ u, Below w.heap.size w u → Calls Tryz.prog 123 #[.agg j.vs.toArray, .agg nd.vs.toArray, .int .i64 0] u (TyRet D r u)) := hc
  rw [hop] at c0
  unfold mkW at HI c0 c2
  clear hop hr hc hj
  go_enter Tryz.func98, Tryz.ntmps98
  go_upto_region 1 with fail
  generalize (((w.alloc (.cells j.va 61)).alloc (.cells nd.va 44)).alloc (.cells #[.int .i64 0, .int .i64 0, .slice none 0 0, .int .i64 0, .int .i64 0] 38)) = w1 at *
  have bJ := HI.out.J
  have bN := HI.out.N
  go_wp2_with (first | (refine wpList_load_mid rfl 61 (.tmp 2) rfl w.heap.size 0 (by kernel_rfl) j.vs _ bJ.range Tryz.underlying61 rfl (by kernel_rfl) ?_) | (refine wpList_load_mid rfl 44 (.tmp 3) rfl (w.heap.size + 1) 0 (by kernel_rfl) nd.vs _ bN.range Tryz.underlying44 rfl (by kernel_rfl) ?_))
  refine (HP.out w1 HI.out.bl).mono ?_
  rintro _ w2 ⟨u, rfl, uA, uB, uS, hb⟩
  have HI2 := hid (HI.out.kept hb)
  have HU := hid (show u.At w2 ∧ u.Blk (fun b => b < D ∨ w.heap.size + 3 ≤ b) ∧ u.same r = true from ⟨uA, uB.mono (fun b h => by have := HI.out.sz; omega), uS⟩)
  have bZ := HI2.out.Z
  clear HI bJ bN c0 c2 HP hb uA uB uS
  go_wp2_with (refine wpList_store_blk rfl rfl 38 (.tmp 4) (.tmp 61) rfl (w.heap.size + 2) u.vs (by kernel_rfl) (by kernel_rfl) u.vs_one bZ rfl (by kernel_rfl) ?_; intro w3 W2)
  have z0 := W2.blk.cell 0 (v := .int .i64 u.k) rfl
  have z1 := W2.blk.cell 1 (v := .int .i64 u.l) rfl
  have z2 := W2.blk.cell 2 (v := .slice u.ao u.len u.cap) rfl
  have z3 := W2.blk.cell 3 (v := .int .i64 u.h) rfl
  have z4 := W2.blk.cell 4 (v := .int .i64 u.e) rfl
  refine bodyPost_ret (v := .tuple #[.agg u.vs.toArray, .int .i64 (-1)]) (by simp [results, Tryz.results98, go_sem, z0, z1, z2, z3, z4, Ty.vs]) rfl ?_
  rw [HG.out]
  exact tk_mk u (HU.out.1.wrote HU.out.2.1 W2 (by omega) (by omega)) (HU.out.2.1.mono (fun b h => by omega)) HU.out.2.2 (W2.below (by omega) HI2.out.bl)
set_option maxRecDepth 100000 in
set_option maxHeartbeats 8000000 in
theorem makes_op8 (D : Nat) (j : Jd) (nd : Nd) (w : World) (hj : j.At w) (hD : D ≤ w.heap.size) (hop : nd.h.op = 8) (r : Ty) (hr : j.makes nd = (r, -1)) (hc : ∀ u, Below w.heap.size w u → Calls Tryz.prog 123 #[.agg j.vs.toArray, .agg nd.vs.toArray, .int .i64 1] u (TyRet D r u)) : MakeC D j nd w := by
  unfold MakeC
  have HI := hid (mk_new w j nd hj)
  have HG := hid hr
  have c0 := HI.out.N.cell 0 (v := .int .i64 nd.h.op) rfl
  have c2 := HI.out.N.cell 2 (v := .int .i64 nd.h.a) rfl
  have HP : Hid (∀ u, Below w.heap.size w u → Calls Tryz.prog 123 #[.agg j.vs.toArray, .agg nd.vs.toArray, .int .i64 1] u (TyRet D r u)) := hc
  rw [hop] at c0
  unfold mkW at HI c0 c2
  clear hop hr hc hj
  go_enter Tryz.func98, Tryz.ntmps98
  go_upto_region 1 with fail
  generalize (((w.alloc (.cells j.va 61)).alloc (.cells nd.va 44)).alloc (.cells #[.int .i64 0, .int .i64 0, .slice none 0 0, .int .i64 0, .int .i64 0] 38)) = w1 at *
  have bJ := HI.out.J
  have bN := HI.out.N
  go_wp2_with (first | (refine wpList_load_mid rfl 61 (.tmp 2) rfl w.heap.size 0 (by kernel_rfl) j.vs _ bJ.range Tryz.underlying61 rfl (by kernel_rfl) ?_) | (refine wpList_load_mid rfl 44 (.tmp 3) rfl (w.heap.size + 1) 0 (by kernel_rfl) nd.vs _ bN.range Tryz.underlying44 rfl (by kernel_rfl) ?_))
  refine (HP.out w1 HI.out.bl).mono ?_
  rintro _ w2 ⟨u, rfl, uA, uB, uS, hb⟩
  have HI2 := hid (HI.out.kept hb)
  have HU := hid (show u.At w2 ∧ u.Blk (fun b => b < D ∨ w.heap.size + 3 ≤ b) ∧ u.same r = true from ⟨uA, uB.mono (fun b h => by have := HI.out.sz; omega), uS⟩)
  have bZ := HI2.out.Z
  clear HI bJ bN c0 c2 HP hb uA uB uS
  go_wp2_with (refine wpList_store_blk rfl rfl 38 (.tmp 4) (.tmp 66) rfl (w.heap.size + 2) u.vs (by kernel_rfl) (by kernel_rfl) u.vs_one bZ rfl (by kernel_rfl) ?_; intro w3 W2)
  have z0 := W2.blk.cell 0 (v := .int .i64 u.k) rfl
  have z1 := W2.blk.cell 1 (v := .int .i64 u.l) rfl
  have z2 := W2.blk.cell 2 (v := .slice u.ao u.len u.cap) rfl
  have z3 := W2.blk.cell 3 (v := .int .i64 u.h) rfl
  have z4 := W2.blk.cell 4 (v := .int .i64 u.e) rfl
  refine bodyPost_ret (v := .tuple #[.agg u.vs.toArray, .int .i64 (-1)]) (by simp [results, Tryz.results98, go_sem, z0, z1, z2, z3, z4, Ty.vs]) rfl ?_
  rw [HG.out]
  exact tk_mk u (HU.out.1.wrote HU.out.2.1 W2 (by omega) (by omega)) (HU.out.2.1.mono (fun b h => by omega)) HU.out.2.2 (W2.below (by omega) HI2.out.bl)
set_option maxRecDepth 100000 in
set_option maxHeartbeats 8000000 in
theorem makes_op9 (D : Nat) (j : Jd) (nd : Nd) (w : World) (hj : j.At w) (hD : D ≤ w.heap.size) (hop : nd.h.op = 9) (r : Ty) (hr : j.makes nd = (r, -1)) (hc : ∀ u, Below w.heap.size w u → Calls Tryz.prog 124 #[.agg j.vs.toArray, .agg nd.vs.toArray] u (TyRet D r u)) : MakeC D j nd w := by
  unfold MakeC
  have HI := hid (mk_new w j nd hj)
  have HG := hid hr
  have c0 := HI.out.N.cell 0 (v := .int .i64 nd.h.op) rfl
  have c2 := HI.out.N.cell 2 (v := .int .i64 nd.h.a) rfl
  have HP : Hid (∀ u, Below w.heap.size w u → Calls Tryz.prog 124 #[.agg j.vs.toArray, .agg nd.vs.toArray] u (TyRet D r u)) := hc
  rw [hop] at c0
  unfold mkW at HI c0 c2
  clear hop hr hc hj
  go_enter Tryz.func98, Tryz.ntmps98
  go_upto_region 1 with fail
  generalize (((w.alloc (.cells j.va 61)).alloc (.cells nd.va 44)).alloc (.cells #[.int .i64 0, .int .i64 0, .slice none 0 0, .int .i64 0, .int .i64 0] 38)) = w1 at *
  have bJ := HI.out.J
  have bN := HI.out.N
  go_wp2_with (first | (refine wpList_load_mid rfl 61 (.tmp 2) rfl w.heap.size 0 (by kernel_rfl) j.vs _ bJ.range Tryz.underlying61 rfl (by kernel_rfl) ?_) | (refine wpList_load_mid rfl 44 (.tmp 3) rfl (w.heap.size + 1) 0 (by kernel_rfl) nd.vs _ bN.range Tryz.underlying44 rfl (by kernel_rfl) ?_))
  refine (HP.out w1 HI.out.bl).mono ?_
  rintro _ w2 ⟨u, rfl, uA, uB, uS, hb⟩
  have HI2 := hid (HI.out.kept hb)
  have HU := hid (show u.At w2 ∧ u.Blk (fun b => b < D ∨ w.heap.size + 3 ≤ b) ∧ u.same r = true from ⟨uA, uB.mono (fun b h => by have := HI.out.sz; omega), uS⟩)
  have bZ := HI2.out.Z
  clear HI bJ bN c0 c2 HP hb uA uB uS
  go_wp2_with (refine wpList_store_blk rfl rfl 38 (.tmp 4) (.tmp 71) rfl (w.heap.size + 2) u.vs (by kernel_rfl) (by kernel_rfl) u.vs_one bZ rfl (by kernel_rfl) ?_; intro w3 W2)
  have z0 := W2.blk.cell 0 (v := .int .i64 u.k) rfl
  have z1 := W2.blk.cell 1 (v := .int .i64 u.l) rfl
  have z2 := W2.blk.cell 2 (v := .slice u.ao u.len u.cap) rfl
  have z3 := W2.blk.cell 3 (v := .int .i64 u.h) rfl
  have z4 := W2.blk.cell 4 (v := .int .i64 u.e) rfl
  refine bodyPost_ret (v := .tuple #[.agg u.vs.toArray, .int .i64 (-1)]) (by simp [results, Tryz.results98, go_sem, z0, z1, z2, z3, z4, Ty.vs]) rfl ?_
  rw [HG.out]
  exact tk_mk u (HU.out.1.wrote HU.out.2.1 W2 (by omega) (by omega)) (HU.out.2.1.mono (fun b h => by omega)) HU.out.2.2 (W2.below (by omega) HI2.out.bl)
set_option maxRecDepth 100000 in
set_option maxHeartbeats 8000000 in
theorem makes_op10 (D : Nat) (j : Jd) (nd : Nd) (w : World) (hj : j.At w) (hD : D ≤ w.heap.size) (hop : nd.h.op = 10) (r : Ty) (hr : j.makes nd = (r, -1)) (hc : ∀ u, Below w.heap.size w u → Calls Tryz.prog 13 #[.agg #[.slice j.n.ao j.n.len j.n.cap, .slice j.g.ao j.g.len j.g.cap], .agg j.f.vs.toArray] u (TyRet D r u)) : MakeC D j nd w := by
  unfold MakeC
  have HI := hid (mk_new w j nd hj)
  have HG := hid hr
  have c0 := HI.out.N.cell 0 (v := .int .i64 nd.h.op) rfl
  have c2 := HI.out.N.cell 2 (v := .int .i64 nd.h.a) rfl
  have HP : Hid (∀ u, Below w.heap.size w u → Calls Tryz.prog 13 #[.agg #[.slice j.n.ao j.n.len j.n.cap, .slice j.g.ao j.g.len j.g.cap], .agg j.f.vs.toArray] u (TyRet D r u)) := hc
  rw [hop] at c0
  unfold mkW at HI c0 c2
  clear hop hr hc hj
  go_enter Tryz.func98, Tryz.ntmps98
  go_upto_region 1 with fail
  generalize (((w.alloc (.cells j.va 61)).alloc (.cells nd.va 44)).alloc (.cells #[.int .i64 0, .int .i64 0, .slice none 0 0, .int .i64 0, .int .i64 0] 38)) = w1 at *
  have bJ := HI.out.J
  have bN := HI.out.N
  have a0 := bJ.cell 0 (v := .slice j.n.ao j.n.len j.n.cap) rfl
  have a1 := bJ.cell 1 (v := .slice j.g.ao j.g.len j.g.cap) rfl
  have rF : w1.rangeAt w.heap.size 4 j.f.vs := fun i v hv => by rw [Nat.add_comm 4 i]; exact bJ.cell (i + 4) (by show j.f.vs[i]? = some v; exact hv)
  go_wp2_with (first | (refine wpList_load_mid rfl 61 (.tmp 2) rfl w.heap.size 0 (by kernel_rfl) j.vs _ bJ.range Tryz.underlying61 rfl (by kernel_rfl) ?_) | (refine wpList_load_mid rfl 44 (.tmp 3) rfl (w.heap.size + 1) 0 (by kernel_rfl) nd.vs _ bN.range Tryz.underlying44 rfl (by kernel_rfl) ?_) | (refine wpList_load_mid rfl 41 (.tmp 76) rfl w.heap.size 4 (by kernel_rfl) j.f.vs _ rF Tryz.underlying41 rfl (by kernel_rfl) ?_))
  refine (HP.out w1 HI.out.bl).mono ?_
  rintro _ w2 ⟨u, rfl, uA, uB, uS, hb⟩
  have HI2 := hid (HI.out.kept hb)
  have HU := hid (show u.At w2 ∧ u.Blk (fun b => b < D ∨ w.heap.size + 3 ≤ b) ∧ u.same r = true from ⟨uA, uB.mono (fun b h => by have := HI.out.sz; omega), uS⟩)
  have bZ := HI2.out.Z
  clear HI bJ bN c0 c2 HP hb uA uB uS a0 a1 rF
  go_wp2_with (refine wpList_store_blk rfl rfl 38 (.tmp 4) (.tmp 78) rfl (w.heap.size + 2) u.vs (by kernel_rfl) (by kernel_rfl) u.vs_one bZ rfl (by kernel_rfl) ?_; intro w3 W2)
  have z0 := W2.blk.cell 0 (v := .int .i64 u.k) rfl
  have z1 := W2.blk.cell 1 (v := .int .i64 u.l) rfl
  have z2 := W2.blk.cell 2 (v := .slice u.ao u.len u.cap) rfl
  have z3 := W2.blk.cell 3 (v := .int .i64 u.h) rfl
  have z4 := W2.blk.cell 4 (v := .int .i64 u.e) rfl
  refine bodyPost_ret (v := .tuple #[.agg u.vs.toArray, .int .i64 (-1)]) (by simp [results, Tryz.results98, go_sem, z0, z1, z2, z3, z4, Ty.vs]) rfl ?_
  rw [HG.out]
  exact tk_mk u (HU.out.1.wrote HU.out.2.1 W2 (by omega) (by omega)) (HU.out.2.1.mono (fun b h => by omega)) HU.out.2.2 (W2.below (by omega) HI2.out.bl)
set_option maxRecDepth 100000 in
set_option maxHeartbeats 8000000 in
theorem makes_op11 (D : Nat) (j : Jd) (nd : Nd) (w : World) (hj : j.At w) (hD : D ≤ w.heap.size) (hop : nd.h.op = 11) (r : Ty) (k : Int) (hr : j.makes nd = (r, k)) (hc : ∀ u, Below w.heap.size w u → Calls Tryz.prog 125 #[.agg j.vs.toArray, .agg nd.vs.toArray] u (TkRet D r k u)) : MakeC D j nd w := by
  unfold MakeC
  have HI := hid (mk_new w j nd hj)
  have HG := hid hr
  have c0 := HI.out.N.cell 0 (v := .int .i64 nd.h.op) rfl
  have c2 := HI.out.N.cell 2 (v := .int .i64 nd.h.a) rfl
  have HP : Hid (∀ u, Below w.heap.size w u → Calls Tryz.prog 125 #[.agg j.vs.toArray, .agg nd.vs.toArray] u (TkRet D r k u)) := hc
  rw [hop] at c0
  unfold mkW at HI c0 c2
  clear hop hr hc hj
  go_enter Tryz.func98, Tryz.ntmps98
  go_upto_region 1 with fail
  generalize (((w.alloc (.cells j.va 61)).alloc (.cells nd.va 44)).alloc (.cells #[.int .i64 0, .int .i64 0, .slice none 0 0, .int .i64 0, .int .i64 0] 38)) = w1 at *
  have bJ := HI.out.J
  have bN := HI.out.N
  go_wp2_with (first | (refine wpList_load_mid rfl 61 (.tmp 2) rfl w.heap.size 0 (by kernel_rfl) j.vs _ bJ.range Tryz.underlying61 rfl (by kernel_rfl) ?_) | (refine wpList_load_mid rfl 44 (.tmp 3) rfl (w.heap.size + 1) 0 (by kernel_rfl) nd.vs _ bN.range Tryz.underlying44 rfl (by kernel_rfl) ?_))
  refine (HP.out w1 HI.out.bl).mono ?_
  rintro _ w2 ⟨u, rfl, uA, uB, uS, hb⟩
  have HI2 := hid (HI.out.kept hb)
  have HU := hid (show u.At w2 ∧ u.Blk (fun b => b < D ∨ w.heap.size + 3 ≤ b) ∧ u.same r = true from ⟨uA, uB.mono (fun b h => by have := HI.out.sz; omega), uS⟩)
  have bZ := HI2.out.Z
  clear HI bJ bN c0 c2 HP hb uA uB uS
  go_wp2_with (refine wpList_store_blk rfl rfl 38 (.tmp 4) (.tmp 84) rfl (w.heap.size + 2) u.vs (by kernel_rfl) (by kernel_rfl) u.vs_one bZ rfl (by kernel_rfl) ?_; intro w3 W2)
  have z0 := W2.blk.cell 0 (v := .int .i64 u.k) rfl
  have z1 := W2.blk.cell 1 (v := .int .i64 u.l) rfl
  have z2 := W2.blk.cell 2 (v := .slice u.ao u.len u.cap) rfl
  have z3 := W2.blk.cell 3 (v := .int .i64 u.h) rfl
  have z4 := W2.blk.cell 4 (v := .int .i64 u.e) rfl
  refine bodyPost_ret (v := .tuple #[.agg u.vs.toArray, .int .i64 k]) (by simp [results, Tryz.results98, go_sem, z0, z1, z2, z3, z4, Ty.vs]) rfl ?_
  rw [HG.out]
  exact tk_mk u (HU.out.1.wrote HU.out.2.1 W2 (by omega) (by omega)) (HU.out.2.1.mono (fun b h => by omega)) HU.out.2.2 (W2.below (by omega) HI2.out.bl)
set_option maxRecDepth 100000 in
set_option maxHeartbeats 8000000 in
theorem makes_op12 (D : Nat) (j : Jd) (nd : Nd) (w : World) (hj : j.At w) (hD : D ≤ w.heap.size) (hop : nd.h.op = 12) (r : Ty) (hr : j.makes nd = (r, -1)) (hc : ∀ u, Below w.heap.size w u → Calls Tryz.prog 126 #[.agg j.vs.toArray, .agg nd.vs.toArray] u (TyRet D r u)) : MakeC D j nd w := by
  unfold MakeC
  have HI := hid (mk_new w j nd hj)
  have HG := hid hr
  have c0 := HI.out.N.cell 0 (v := .int .i64 nd.h.op) rfl
  have c2 := HI.out.N.cell 2 (v := .int .i64 nd.h.a) rfl
  have HP : Hid (∀ u, Below w.heap.size w u → Calls Tryz.prog 126 #[.agg j.vs.toArray, .agg nd.vs.toArray] u (TyRet D r u)) := hc
  rw [hop] at c0
  unfold mkW at HI c0 c2
  clear hop hr hc hj
  go_enter Tryz.func98, Tryz.ntmps98
  go_upto_region 1 with fail
  generalize (((w.alloc (.cells j.va 61)).alloc (.cells nd.va 44)).alloc (.cells #[.int .i64 0, .int .i64 0, .slice none 0 0, .int .i64 0, .int .i64 0] 38)) = w1 at *
  have bJ := HI.out.J
  have bN := HI.out.N
  go_wp2_with (first | (refine wpList_load_mid rfl 61 (.tmp 2) rfl w.heap.size 0 (by kernel_rfl) j.vs _ bJ.range Tryz.underlying61 rfl (by kernel_rfl) ?_) | (refine wpList_load_mid rfl 44 (.tmp 3) rfl (w.heap.size + 1) 0 (by kernel_rfl) nd.vs _ bN.range Tryz.underlying44 rfl (by kernel_rfl) ?_))
  refine (HP.out w1 HI.out.bl).mono ?_
  rintro _ w2 ⟨u, rfl, uA, uB, uS, hb⟩
  have HI2 := hid (HI.out.kept hb)
  have HU := hid (show u.At w2 ∧ u.Blk (fun b => b < D ∨ w.heap.size + 3 ≤ b) ∧ u.same r = true from ⟨uA, uB.mono (fun b h => by have := HI.out.sz; omega), uS⟩)
  have bZ := HI2.out.Z
  clear HI bJ bN c0 c2 HP hb uA uB uS
  go_wp2_with (refine wpList_store_blk rfl rfl 38 (.tmp 4) (.tmp 90) rfl (w.heap.size + 2) u.vs (by kernel_rfl) (by kernel_rfl) u.vs_one bZ rfl (by kernel_rfl) ?_; intro w3 W2)
  have z0 := W2.blk.cell 0 (v := .int .i64 u.k) rfl
  have z1 := W2.blk.cell 1 (v := .int .i64 u.l) rfl
  have z2 := W2.blk.cell 2 (v := .slice u.ao u.len u.cap) rfl
  have z3 := W2.blk.cell 3 (v := .int .i64 u.h) rfl
  have z4 := W2.blk.cell 4 (v := .int .i64 u.e) rfl
  refine bodyPost_ret (v := .tuple #[.agg u.vs.toArray, .int .i64 (-1)]) (by simp [results, Tryz.results98, go_sem, z0, z1, z2, z3, z4, Ty.vs]) rfl ?_
  rw [HG.out]
  exact tk_mk u (HU.out.1.wrote HU.out.2.1 W2 (by omega) (by omega)) (HU.out.2.1.mono (fun b h => by omega)) HU.out.2.2 (W2.below (by omega) HI2.out.bl)
set_option maxRecDepth 100000 in
set_option maxHeartbeats 8000000 in
theorem makes_op13 (D : Nat) (j : Jd) (nd : Nd) (w : World) (hj : j.At w) (hD : D ≤ w.heap.size) (hop : nd.h.op = 13) (r : Ty) (hr : j.makes nd = (r, -1)) (hc : ∀ u, Below w.heap.size w u → Calls Tryz.prog 127 #[.agg j.vs.toArray, .agg nd.vs.toArray] u (TyRet D r u)) : MakeC D j nd w := by
  unfold MakeC
  have HI := hid (mk_new w j nd hj)
  have HG := hid hr
  have c0 := HI.out.N.cell 0 (v := .int .i64 nd.h.op) rfl
  have c2 := HI.out.N.cell 2 (v := .int .i64 nd.h.a) rfl
  have HP : Hid (∀ u, Below w.heap.size w u → Calls Tryz.prog 127 #[.agg j.vs.toArray, .agg nd.vs.toArray] u (TyRet D r u)) := hc
  rw [hop] at c0
  unfold mkW at HI c0 c2
  clear hop hr hc hj
  go_enter Tryz.func98, Tryz.ntmps98
  go_upto_region 1 with fail
  generalize (((w.alloc (.cells j.va 61)).alloc (.cells nd.va 44)).alloc (.cells #[.int .i64 0, .int .i64 0, .slice none 0 0, .int .i64 0, .int .i64 0] 38)) = w1 at *
  have bJ := HI.out.J
  have bN := HI.out.N
  go_wp2_with (first | (refine wpList_load_mid rfl 61 (.tmp 2) rfl w.heap.size 0 (by kernel_rfl) j.vs _ bJ.range Tryz.underlying61 rfl (by kernel_rfl) ?_) | (refine wpList_load_mid rfl 44 (.tmp 3) rfl (w.heap.size + 1) 0 (by kernel_rfl) nd.vs _ bN.range Tryz.underlying44 rfl (by kernel_rfl) ?_))
  refine (HP.out w1 HI.out.bl).mono ?_
  rintro _ w2 ⟨u, rfl, uA, uB, uS, hb⟩
  have HI2 := hid (HI.out.kept hb)
  have HU := hid (show u.At w2 ∧ u.Blk (fun b => b < D ∨ w.heap.size + 3 ≤ b) ∧ u.same r = true from ⟨uA, uB.mono (fun b h => by have := HI.out.sz; omega), uS⟩)
  have bZ := HI2.out.Z
  clear HI bJ bN c0 c2 HP hb uA uB uS
  go_wp2_with (refine wpList_store_blk rfl rfl 38 (.tmp 4) (.tmp 10) rfl (w.heap.size + 2) u.vs (by kernel_rfl) (by kernel_rfl) u.vs_one bZ rfl (by kernel_rfl) ?_; intro w3 W2)
  have z0 := W2.blk.cell 0 (v := .int .i64 u.k) rfl
  have z1 := W2.blk.cell 1 (v := .int .i64 u.l) rfl
  have z2 := W2.blk.cell 2 (v := .slice u.ao u.len u.cap) rfl
  have z3 := W2.blk.cell 3 (v := .int .i64 u.h) rfl
  have z4 := W2.blk.cell 4 (v := .int .i64 u.e) rfl
  refine bodyPost_ret (v := .tuple #[.agg u.vs.toArray, .int .i64 (-1)]) (by simp [results, Tryz.results98, go_sem, z0, z1, z2, z3, z4, Ty.vs]) rfl ?_
  rw [HG.out]
  exact tk_mk u (HU.out.1.wrote HU.out.2.1 W2 (by omega) (by omega)) (HU.out.2.1.mono (fun b h => by omega)) HU.out.2.2 (W2.below (by omega) HI2.out.bl)
end Go.Proofs.YtbdhbgilaeldgaaGreat

/- Layer 10: states in variables. -/
namespace Go.Proofs.YtbdhbgilaeldgaaGreat
open Go Go.RowKit

theorem alloc_st (w : World) : (Instr.alloc 83 true (.tuple #[])).run Tryz.prog w = .ok (.pointer (some ⟨w.heap.size, 0, none⟩)) (w.alloc (.cells Sta.zero.va 83)) := by
  have hz : (Tryz.prog.info? 83).map (·.zero) = some (some (.agg Sta.zero.va)) := by kernel_rfl
  cases hq : Tryz.prog.info? 83 with
  | none => rw [hq] at hz; simp at hz
  | some i =>
    rw [hq] at hz
    simp at hz
    simp [Instr.alloc, newVar, newRow, zeroValue, typeInfo, hq, hz, Value.cells]
theorem wpList_alloc_st {ops : Array Oper} {rest : List Oper} {o : Oper} {a : Act} {w : World} {Q : Exit → Act → World → Prop} (hgd : o.guard = none) (ho : o.op = .alloc 83)
    (h : wpList Tryz.prog ops Q rest (a.put o.dst (.pointer (some ⟨w.heap.size, 0, none⟩))) (w.alloc (.cells Sta.zero.va 83))) : wpList Tryz.prog ops Q (o :: rest) a w := by
  refine wpList_plain hgd fun _ hK => ?_
  unfold Oper.wp execOp
  simp only [ho, Sem.run_bind, alloc_st, Result.andThen_ok, Sem.run_pure]
  exact hK _ _ h
theorem run_build_st0 (w : World) : (Instr.build 83 #[]).run Tryz.prog w = .ok (.agg Sta.zero.va) w := by kernel_rfl
theorem run_build_st2 (a x : Int) (w : World) : (Instr.build 83 #[(0, .int .i64 a), (1, .int .i64 x)]).run Tryz.prog w = .ok (.agg (⟨a, x, fun _ => false, false⟩ : Sta).va) w := by kernel_rfl
theorem wpList_buildI {ops : Array Oper} {rest : List Oper} {o : Oper} {a : Act} {w w' : World} {v : Value} {Q : Exit → Act → World → Prop} (hgd : o.guard = none) (t : TypeId) (parts : Array (Nat × Operand)) (ho : o.op = .build t parts) (vals : Array (Nat × Value)) (hv : (parts.map fun (i, x) => (i, a.eval x)) = vals)
    (hs : (Instr.build t vals).run Tryz.prog w = .ok v w') (h : wpList Tryz.prog ops Q rest (a.put o.dst v) w') : wpList Tryz.prog ops Q (o :: rest) a w := by
  subst hv
  refine wpList_plain hgd fun _ hK => ?_
  unfold Oper.wp execOp
  simp only [ho, Sem.run_bind, hs, Result.andThen_ok, Sem.run_pure]
  exact hK _ _ h
theorem loadVar_row {ty : TypeId} {w : World} {b o : Nat} {cs : List Value} {d : TypeDesc} (hc : w.rangeAt b o cs) (hu : Tryz.prog.underlying ty = some d) (hd : d.isRow = true) (hi : (Tryz.prog.info? ty).map (·.size) = some cs.length) : (loadVar ty ⟨b, o, none⟩).run Tryz.prog w = .ok (.agg cs.toArray) w := run_loadVar_mid w b o ty cs d hc hu hd hi
theorem results_st {fn : Func} {tmps : Array Value} {k l B : Nat} {s : Sta} {v : Value} {w : World} (hf : fn.results = #[.cell k 83, .tmp l]) (ht : tmps.getD k undef = .pointer (some ⟨B, 0, none⟩)) (hl : tmps.getD l undef = v) (C : w.rangeAt B 0 s.vs) : (results fn tmps).run Tryz.prog w = .ok (.tuple #[.agg s.vs.toArray, v]) w := by
  have h := loadVar_row (ty := 83) C Tryz.underlying83 rfl (by rw [s.len]; kernel_rfl)
  have hl' : tmps[l]?.getD undef = v := by simpa using hl
  generalize s.vs.toArray = va at h ⊢
  have ha : (asAddr (tmps[k]?.getD undef)).run Tryz.prog w = .ok ⟨B, 0, none⟩ w := by rw [show tmps[k]?.getD undef = .pointer (some ⟨B, 0, none⟩) by simpa using ht]; rfl
  unfold results
  rw [hf]
  simp [ha, h, hl']
end Go.Proofs.YtbdhbgilaeldgaaGreat
