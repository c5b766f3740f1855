/- Layer 10: called. -/
import Derived.Test.YtbdhbgilaeldgaaP20
namespace Go.Proofs.Ytbdhbgilaeldgaa
open Go Go.RowKit

theorem called_len {j : Jd} {nd : Nd} {i : Int} {t1 : Ty} (s1 : t1.same (j.read nd i) = true) (hq : (t1.k != 4) = false) : t1.len = 2 := by
  have h1 : (j.read nd i).k = 4 := by rw [← same_k s1]; simpa using hq
  have h2 := raise_ar (n := j.n) (g := j.g) (t := j.f.slots.ps i.toNat) (a := nd.h.env) (k := 4) (by decide) h1
  have h3 : arityI 4 = 2 := by decide
  have h4 : (t1.len : Int) = 2 := by rw [same_len s1, ← h3]; exact h2
  omega

set_option maxRecDepth 100000 in
set_option maxHeartbeats 16000000 in
theorem called_any (D : Nat) (j : Jd) (nd : Nd) (w : World) (hj : j.At w) (hD : D ≤ w.heap.size) (ha : 0 ≤ nd.h.a) (ha1 : nd.h.a < j.f.slots.len) (hb : 0 ≤ nd.h.b) (hb1 : nd.h.b < j.f.slots.len) :
    Calls Try.prog 95 #[.agg j.va, .agg nd.va] w (TkRet D (j.called nd).1 (j.called nd).2 w) := by
  have H := allocs_heap [.cells j.va 57, .cells nd.va 46, .cells zTv.toArray 39] w
  have B0 := allocs_below [.cells j.va 57, .cells nd.va 46, .cells zTv.toArray 39] w
  have SZ := allocs_size [.cells j.va 57, .cells nd.va 46, .cells zTv.toArray 39] w
  simp only [List.foldl, List.length] at H B0 SZ
  have bJ : Blk _ w.heap.size j.vs 57 := H 0 (by simp)
  have bN : Blk _ (w.heap.size + 1) nd.vs 46 := H 1 (by simp)
  have bZ : Blk _ (w.heap.size + 2) zTv 39 := H 2 (by simp)
  have hj1 := hj.kept B0
  clear H
  unfold zTv at hj1 B0 bJ bN bZ SZ
  go_enter Try.func95, Try.ntmps95
  go_upto_region 1 with fail
  generalize (((w.alloc (.cells j.va 57)).alloc (.cells nd.va 46)).alloc (.cells #[.int .i64 0, .int .i64 0, .slice none 0 0, .int .i64 0, .int .i64 0] 39)) = w1 at *
  have HI : Hid (j.At w1 ∧ Below w.heap.size w w1 ∧ Blk w1 (w.heap.size + 2) zTv 39 ∧ w1.heap.size = w.heap.size + 3 ∧ Blk w1 w.heap.size j.vs 57 ∧ Blk w1 (w.heap.size + 1) nd.vs 46) := ⟨hj1, B0, bZ, SZ, bJ, bN⟩
  have HH : Hid (D ≤ w.heap.size ∧ (0 ≤ nd.h.a ∧ nd.h.a < j.f.slots.len) ∧ 0 ≤ nd.h.b ∧ nd.h.b < j.f.slots.len) := ⟨hD, ⟨ha, ha1⟩, hb, hb1⟩
  have HNA := hid (show (j.read nd nd.h.a).Nd ∧ (j.read nd nd.h.b).Nd from ⟨read_nd hj ha ha1, read_nd hj hb hb1⟩)
  clear hj hj1 B0 SZ bJ bN bZ hD ha ha1 hb hb1
  have hC0 : ∀ u, (∃ x : Wd (fun u => Below w1.heap.size w1 u), u = x.w) → u.rangeAt w.heap.size 0 j.vs := by rintro _ ⟨x, rfl⟩; exact (HI.out.2.2.2.2.1.kept x.2).range
  have hC1 : ∀ u, (∃ x : Wd (fun u => Below w1.heap.size w1 u), u = x.w) → u.rangeAt (w.heap.size + 1) 0 nd.vs := by rintro _ ⟨x, rfl⟩; exact (HI.out.2.2.2.2.2.kept x.2).range
  have p2 : ∀ x : Wd (fun u => Below w1.heap.size w1 u), x.w.cell? ⟨w.heap.size + 1, 2, none⟩ = some (.int .i64 nd.h.a) := fun x => (HI.out.2.2.2.2.2.kept x.2).cell 2 rfl
  have p3 : ∀ x : Wd (fun u => Below w1.heap.size w1 u), x.w.cell? ⟨w.heap.size + 1, 3, none⟩ = some (.int .i64 nd.h.b) := fun x => (HI.out.2.2.2.2.2.kept x.2).cell 3 rfl
  have hNE : Nonempty (Wd (fun u => Below w1.heap.size w1 u)) := ⟨⟨_, Below.refl _ _⟩⟩
  refine wp_region_readsMN (fun u => Below w1.heap.size w1 u) [0, 1, 2, 3, 5, 6, 7, 8] 6 (by kernel_rfl) rfl (by kernel_rfl) (fun j hj => ?_) ((Below.refl _ _).drew) ?_
  · have hj5 : j < 8 := hj
    match j, hj5 with
    | 0, _ => exact ⟨_, rfl, rfl⟩
    | 1, _ => exact ⟨_, rfl, rfl⟩
    | 2, _ => exact ⟨_, rfl, rfl⟩
    | 3, _ => exact ⟨_, rfl, rfl⟩
    | 4, _ => exact ⟨_, rfl, rfl⟩
    | 5, _ => exact ⟨_, rfl, rfl⟩
    | 6, _ => exact ⟨_, rfl, rfl⟩
    | 7, _ => exact ⟨_, rfl, rfl⟩
  simp only [List.filterMap, List.getElem?_cons_zero, List.getElem?_cons_succ]
  go_big_quiet_want
  refine quiet_load_row 57 (.tmp 2) rfl _ 0 (by kernel_rfl) j.vs _ hC0 Try.underlying57 rfl (by kernel_rfl) ?_
  simp only [Act.put, List.setIfInBounds_toArray, List.set_cons_succ, List.set_cons_zero]
  go_big_quiet_on
  go_big_quiet_want
  refine quiet_load_row 46 (.tmp 3) rfl _ 0 (by kernel_rfl) nd.vs _ hC1 Try.underlying46 rfl (by kernel_rfl) ?_
  simp only [Act.put, List.setIfInBounds_toArray, List.set_cons_succ, List.set_cons_zero]
  go_big_quiet_on
  iterate 2 go_big_quiet_step (fail)
  go_big_quiet_want
  refine quiet_load_row 57 (.tmp 2) rfl _ 0 (by kernel_rfl) j.vs _ hC0 Try.underlying57 rfl (by kernel_rfl) ?_
  simp only [Act.put, List.setIfInBounds_toArray, List.set_cons_succ, List.set_cons_zero]
  go_big_quiet_on
  go_big_quiet_want
  refine quiet_load_row 46 (.tmp 3) rfl _ 0 (by kernel_rfl) nd.vs _ hC1 Try.underlying46 rfl (by kernel_rfl) ?_
  simp only [Act.put, List.setIfInBounds_toArray, List.set_cons_succ, List.set_cons_zero]
  go_big_quiet_on
  iterate 2 go_big_quiet_step (fail)
  refine wpQuiet_nil ?_
  clear hC0 hC1 p2 p3 hNE
  refine wpAnyH_six (L := L6) (ff := 0) (d1 := 13) (d2 := 18) (e1 := 6) (e2 := 7) ⟨⟨by decide, by decide, by decide, by decide, by decide, by decide⟩, ⟨_, rfl, rfl, rfl⟩, ⟨_, rfl, rfl, rfl⟩, ⟨_, rfl, rfl, rfl, rfl⟩, ⟨_, rfl, rfl, rfl, rfl⟩, ⟨_, rfl, rfl, rfl, rfl⟩, ⟨_, rfl, rfl, rfl, rfl⟩, fun _ _ _ _ _ _ => ⟨rfl, rfl, rfl, rfl, rfl, rfl⟩, by kernel_rfl, by kernel_rfl, by kernel_rfl, by kernel_rfl, by kernel_rfl, by kernel_rfl, by kernel_rfl, by kernel_rfl, by kernel_rfl, by kernel_rfl, by kernel_rfl, by kernel_rfl, by kernel_rfl, by kernel_rfl⟩ (D := D) (w0 := w1) (r1 := j.read nd nd.h.a) (r2 := j.read nd nd.h.b) (by have h1 := HI.out.2.1.size; have h2 := HH.out.1; omega) _ #[.agg j.vs.toArray, .agg nd.vs.toArray, .int .i64 nd.h.a] #[.agg j.vs.toArray, .agg nd.vs.toArray, .int .i64 nd.h.b] 77 77 ?_ ?_ ?_ ?_ ?_ ?_ _ ((Below.refl _ _).drew)
  · intro o2 q1 q2 o u ho
    have e := (Option.some.inj ho).symm
    subst e
    cases o2 <;> cases q1 <;> cases q2 <;> (show _ = _; kernel_rfl)
  · intro o2 q1 q2 o u ho
    have e := (Option.some.inj ho).symm
    subst e
    cases o2 <;> cases q1 <;> cases q2 <;> (show _ = _; kernel_rfl)
  · exact fun u hu => read_any D j nd nd.h.a u (HI.out.1.kept hu) (by have h1 := HI.out.2.1.size; have h2 := HH.out.1; have h3 := hu.size; omega) HH.out.2.1.1 HH.out.2.1.2
  · exact fun u hu => read_any D j nd nd.h.b u (HI.out.1.kept hu) (by have h1 := HI.out.2.1.size; have h2 := HH.out.1; have h3 := hu.size; omega) HH.out.2.2.1 HH.out.2.2.2
  · exact fun t1 t2 B1 B2 => ⟨rfl, rfl, rfl, rfl⟩
  intro t1 t2 B1 B2 u hY
  refine ⟨(fun c hc => by cases hc), ?_⟩
  simp only [actS, putO, Option.map, Act.put, tyA, ptA, List.setIfInBounds_toArray, List.set_cons_succ, List.set_cons_zero]
  have HR : Hid (Rk D w j nd t1 t2 B1 B2 u) := ⟨Below.next HI.out.2.1 hY.bl, HI.out.1.kept hY.bl, HI.out.2.2.2.2.1.kept hY.bl, HI.out.2.2.2.2.2.kept hY.bl, HI.out.2.2.1.kept hY.bl, hY.b1, hY.b2, by have h1 := HI.out.2.2.2.1; have h2 := hY.n1; omega, by have h1 := HI.out.2.2.2.1; have h2 := hY.n2; omega, hY.s1, hY.s2⟩
  have HT := hid (show t1.At u ∧ t2.At u ∧ t1.Blk (fun b => b < D ∨ w.heap.size + 3 ≤ b) from ⟨hY.a1, hY.a2, hY.k1.mono (fun b h => by have h1 := HI.out.2.2.2.1; have h2 := h.1; omega)⟩)
  clear hY HI
  have HE : Hid (j.called nd = if (t1.k != 4 || !(belB j.n j.g t2 (t1.ps 0)) || !(leqB j.n j.g t1.l t1.h && leqB j.n j.g j.f.heap t1.h)) = true then (leafT 0 0, -1) else (raiseT j.n j.g ((j.read nd nd.h.a).ps 1) t1.l, if t1.e = -1 then -1 else bothI j.n j.g t1.e t1.l)) := by
    show _ = _
    unfold Jd.called
    have e4 : (t1.k != 4) = ((j.read nd nd.h.a).k != 4) := by rw [same_k HR.out.s1]
    rw [← e4, ← same_l HR.out.s1, ← same_h HR.out.s1, ← same_e HR.out.s1]
    cases hq : (t1.k != 4)
    · have h0 := called_len HR.out.s1 hq
      rw [← bel_sameL (t := (j.read nd nd.h.a).ps 0) HT.out.2.1.nd HNA.out.2 HR.out.s2, ← bel_sameR (t := t2) (nd_ps HT.out.1.nd (by omega)) (nd_ps HNA.out.1 (by rw [← same_len HR.out.s1]; omega)) (same_ps HR.out.s1 (by omega))]
    · rfl
  have hCJ : ∀ q, (∃ x : Wd (fun q => Below u.heap.size u q), q = x.w) → q.rangeAt w.heap.size 0 j.vs := by rintro _ ⟨x, rfl⟩; exact (HR.out.J.kept x.2).range
  have hCB : ∀ q, (∃ x : Wd (fun q => Below u.heap.size u q), q = x.w) → q.rangeAt B2 0 t2.vs := by rintro _ ⟨x, rfl⟩; exact (HR.out.b2.kept x.2).range
  have p0 : ∀ x : Wd (fun q => Below u.heap.size u q), x.w.cell? ⟨w.heap.size, 0, none⟩ = some (.slice j.n.ao j.n.len j.n.cap) := fun x => (HR.out.J.kept x.2).cell 0 rfl
  have p1 : ∀ x : Wd (fun q => Below u.heap.size u q), x.w.cell? ⟨w.heap.size, 1, none⟩ = some (.slice j.g.ao j.g.len j.g.cap) := fun x => (HR.out.J.kept x.2).cell 1 rfl
  have p15 : ∀ x : Wd (fun q => Below u.heap.size u q), x.w.cell? ⟨w.heap.size, 15, none⟩ = some (.int .i64 j.f.heap) := fun x => (HR.out.J.kept x.2).cell 15 rfl
  have q0 : ∀ x : Wd (fun q => Below u.heap.size u q), x.w.cell? ⟨B1, 0, none⟩ = some (.int .i64 t1.k) := fun x => (HR.out.b1.kept x.2).cell 0 rfl
  have q1 : ∀ x : Wd (fun q => Below u.heap.size u q), x.w.cell? ⟨B1, 1, none⟩ = some (.int .i64 t1.l) := fun x => (HR.out.b1.kept x.2).cell 1 rfl
  have q2 : ∀ x : Wd (fun q => Below u.heap.size u q), x.w.cell? ⟨B1, 2, none⟩ = some (.slice t1.ao t1.len t1.cap) := fun x => (HR.out.b1.kept x.2).cell 2 rfl
  have q3 : ∀ x : Wd (fun q => Below u.heap.size u q), x.w.cell? ⟨B1, 3, none⟩ = some (.int .i64 t1.h) := fun x => (HR.out.b1.kept x.2).cell 3 rfl
  have hNE : Nonempty (Wd (fun q => Below u.heap.size u q)) := ⟨⟨_, Below.refl _ _⟩⟩
  cases hq : (t1.k != 4)
  · have HL := hid (called_len HR.out.s1 hq)
    have hCP : ∀ q, (∃ x : Wd (fun q => Below u.heap.size u q), q = x.w) → q.rangeAt t1.b (t1.o + 0 * 5) (t1.ps 0).vs := by rintro _ ⟨x, rfl⟩; exact C5.row ((HT.out.1.kept x.2).cells (by have := HL.out; omega))
    rw [HT.out.1.nil (by have := HL.out; omega)] at q2
    have hlt : (0 : Int) < t1.len := by have := HL.out; omega
    go_upto_region 2 with fail
    refine wp_region_readsMN (fun q => Below u.heap.size u q) [0, 1] 25 (by kernel_rfl) rfl (by kernel_rfl) (hj_of (by kernel_rfl)) ((Below.refl _ _).drew) ?_
    simp only [List.filterMap, List.getElem?_cons_zero, List.getElem?_cons_succ]
    go_big_quiet_step (fail)
    go_big_quiet_step (fail)
    refine wpQuiet_nil ?_
    have HV0 := hid (show Below u.heap.size u u.drew from (Below.refl _ _).drew)
    generalize u.drew = v0 at *
    refine wpAnyH_ready (rs := [2]) (by kernel_rfl) (by simp) ?_
    refine AllReadyH.cons rfl (fun K hK => ?_) AllReadyH.nil
    rw [if_pos (by rfl)]
    go_simp
    refine hK.out _ _ HV0.out (fun _ => ?_)
    clear hK K
    refine wpAnyH_ready (rs := [3]) (by kernel_rfl) (by simp) ?_
    refine AllReadyH.cons rfl (fun K hK => ?_) AllReadyH.nil
    rw [if_pos (by rfl)]
    go_simp
    refine hK.out _ _ HV0.out (fun _ => ?_)
    clear hK K
    refine wpAnyH_readsN [4, 5, 6, 7, 8, 9, 10] (rest := 16) rfl (by kernel_rfl) (by kernel_rfl) HV0.out ?_
    simp only [List.filterMap, List.getElem?_cons_zero, List.getElem?_cons_succ]
    go_big_quiet_step (fail)
    go_big_quiet_step (fail)
    go_big_quiet_want
    refine quiet_load_row 39 (.tmp 7) rfl _ 0 (by kernel_rfl) t2.vs _ hCB Try.underlying39 rfl (by kernel_rfl) ?_
    simp only [Act.put, List.setIfInBounds_toArray, List.set_cons_succ, List.set_cons_zero]
    go_big_quiet_on
    go_big_quiet_step (fail)
    go_big_quiet_step (fail)
    go_big_quiet_step (fail)
    go_big_quiet_want
    refine quiet_load_row 39 (.tmp 28) rfl t1.b (t1.o + 0 * 5) (by kernel_rfl) (t1.ps 0).vs _ hCP Try.underlying39 rfl (by kernel_rfl) ?_
    simp only [Act.put, List.setIfInBounds_toArray, List.set_cons_succ, List.set_cons_zero]
    go_big_quiet_on
    refine wpQuiet_nil ?_
    refine wpAnyH_ready (rs := [11]) (by kernel_rfl) (by simp) ?_
    refine AllReadyH.cons rfl (fun K hK => ?_) AllReadyH.nil
    rw [if_pos (by rfl)]
    go_simp
    refine (Below_any2 j.n j.g t2 (t1.ps 0) v0 (HR.out.hj.n.kept HV0.out) (HR.out.hj.g.kept HV0.out) (HT.out.2.1.kept HV0.out) ((HT.out.1.kept HV0.out).part (by have := HL.out; omega))).mono ?_
    rintro _ v1 ⟨rfl, hb9⟩
    have HV1 := hid (Below.next HV0.out hb9)
    refine hK.out _ _ HV1.out (fun _ => ?_)
    clear hK K hb9
    generalize hb1 : belB j.n j.g t2 (t1.ps 0) = b1 at *
    have HB1 := hid hb1
    clear hb1
    cases b1
    · refine wpAnyH_ready (rs := [12]) (by kernel_rfl) (by simp) ?_
      refine AllReadyH.cons rfl (fun K hK => ?_) AllReadyH.nil
      rw [if_pos (by rfl)]
      go_simp
      refine hK.out _ _ HV1.out (fun _ => ?_)
      clear hK K
      refine wpAnyH_ready (rs := [13]) (by kernel_rfl) (by simp) ?_
      refine AllReadyH.cons rfl (fun K hK => ?_) AllReadyH.nil
      rw [if_pos (by rfl)]
      go_simp
      refine hK.out _ _ HV1.out (fun _ => ?_)
      clear hK K
      refine wpAnyH_ready (rs := [14]) (by kernel_rfl) (by simp) ?_
      refine AllReadyH.cons rfl (fun K hK => ?_) AllReadyH.nil
      rw [if_pos (by rfl)]
      go_simp
      refine hK.out _ _ HV1.out (fun _ => ?_)
      clear hK K
      refine wpAnyH_readsN [15, 16, 17, 18, 19, 20, 21, 22] (rest := 4) rfl (by kernel_rfl) (by kernel_rfl) HV1.out ?_
      simp only [List.filterMap, List.getElem?_cons_zero, List.getElem?_cons_succ]
      go_big_quiet_step (fail)
      go_big_quiet_step (fail)
      go_big_quiet_step (fail)
      go_big_quiet_step (fail)
      go_big_quiet_step (fail)
      go_big_quiet_step (fail)
      go_big_quiet_step (fail)
      go_big_quiet_step (fail)
      refine wpQuiet_nil ?_
      refine wpAnyH_ready (rs := [23]) (by kernel_rfl) (by simp) ?_
      refine AllReadyH.cons rfl (fun K hK => ?_) AllReadyH.nil
      rw [if_neg (unwanted (by kernel_rfl))]
      refine hK.out _ _ HV1.out (fun _ => ?_)
      clear hK K
      refine wpAnyH_ready (rs := [24]) (by kernel_rfl) (by simp) ?_
      refine AllReadyH.cons rfl (fun K hK => ?_) AllReadyH.nil
      rw [if_neg (unwanted (by kernel_rfl))]
      refine hK.out _ _ HV1.out (fun _ => ?_)
      clear hK K
      refine wpAnyH_ready (rs := [25]) (by kernel_rfl) (by simp) ?_
      refine AllReadyH.cons rfl (fun K hK => ?_) AllReadyH.nil
      rw [if_neg (unwanted (by kernel_rfl))]
      refine hK.out _ _ HV1.out (fun _ => ?_)
      clear hK K
      refine wpAnyH_ready (rs := [26]) (by kernel_rfl) (by simp) ?_
      refine AllReadyH.cons rfl (fun K hK => ?_) AllReadyH.nil
      rw [if_pos (by rfl)]
      go_simp
      refine hK.out _ _ HV1.out (fun _ => ?_)
      clear hK K
      refine wpAnyH_done (by kernel_rfl) ?_ _
      refine ⟨(fun c hc => by cases hc), ?_⟩
      have HF : Hid (j.called nd = (leafT 0 0, -1)) := by show _ = _; rw [HE.out, hq]; rfl
      have HJ := hid (HR.out.kept HV1.out)
      have bZ := HJ.out.Z
      clear HR
      go_wp2_with (refine wpList_store_blk rfl rfl 39 (.tmp 4) (.tmp 46) rfl (w.heap.size + 2) (leafT 0 0).vs (by kernel_rfl) (by kernel_rfl) rfl bZ rfl (by kernel_rfl) ?_; intro w6 W2)
      have z0 := W2.blk.cell 0 (v := .int .i64 0) rfl
      have z1 := W2.blk.cell 1 (v := .int .i64 0) rfl
      have z2 := W2.blk.cell 2 (v := .slice none 0 0) rfl
      have z3 := W2.blk.cell 3 (v := .int .i64 0) rfl
      have z4 := W2.blk.cell 4 (v := .int .i64 0) rfl
      refine bodyPost_ret (v := .tuple #[.agg (leafT 0 0).vs.toArray, .int .i64 (-1)]) (by simp [results, Try.results95, go_sem, z0, z1, z2, z3, z4, Ty.vs, leafT, Ty.k, Ty.l, Ty.ao, Ty.len, Ty.cap, Ty.h, Ty.e]) rfl ?_
      rw [HF.out]
      exact tk_leaf 0 0 rfl (W2.below (by omega) HJ.out.bl)
    · refine wpAnyH_ready (rs := [12]) (by kernel_rfl) (by simp) ?_
      refine AllReadyH.cons rfl (fun K hK => ?_) AllReadyH.nil
      rw [if_pos (by rfl)]
      go_simp
      refine hK.out _ _ HV1.out (fun _ => ?_)
      clear hK K
      refine wpAnyH_ready (rs := [13]) (by kernel_rfl) (by simp) ?_
      refine AllReadyH.cons rfl (fun K hK => ?_) AllReadyH.nil
      rw [if_pos (by rfl)]
      go_simp
      refine hK.out _ _ HV1.out (fun _ => ?_)
      clear hK K
      refine wpAnyH_ready (rs := [14]) (by kernel_rfl) (by simp) ?_
      refine AllReadyH.cons rfl (fun K hK => ?_) AllReadyH.nil
      rw [if_pos (by rfl)]
      go_simp
      refine hK.out _ _ HV1.out (fun _ => ?_)
      clear hK K
      refine wpAnyH_readsN [15, 16, 17, 18, 19, 20, 21, 22] (rest := 4) rfl (by kernel_rfl) (by kernel_rfl) HV1.out ?_
      simp only [List.filterMap, List.getElem?_cons_zero, List.getElem?_cons_succ]
      go_big_quiet_want
      refine quiet_load_row 57 (.tmp 2) rfl _ 0 (by kernel_rfl) j.vs _ hCJ Try.underlying57 rfl (by kernel_rfl) ?_
      simp only [Act.put, List.setIfInBounds_toArray, List.set_cons_succ, List.set_cons_zero]
      go_big_quiet_on
      go_big_quiet_step (fail)
      go_big_quiet_step (fail)
      go_big_quiet_step (fail)
      go_big_quiet_step (fail)
      go_big_quiet_step (fail)
      go_big_quiet_step (fail)
      go_big_quiet_step (fail)
      refine wpQuiet_nil ?_
      refine wpAnyH_ready (rs := [23]) (by kernel_rfl) (by simp) ?_
      refine AllReadyH.cons rfl (fun K hK => ?_) AllReadyH.nil
      rw [if_pos (by rfl)]
      have hrn := run_int2 t1.l j.f.heap v1
      have hb9 := below_alloc v1 (.cells #[.int .i64 t1.l, .int .i64 j.f.heap] 3)
      have HLL := hid (IAt.blk (l := [t1.l, j.f.heap]) (Blk.new v1 [.int .i64 t1.l, .int .i64 j.f.heap] 3) (by simp))
      have HV2 := hid (Below.next HV1.out hb9)
      refine wp_sliceI 44 2 #[(0, .tmp 38), (1, .tmp 41)] rfl #[(0, .int .i64 t1.l), (1, .int .i64 j.f.heap)] (by kernel_rfl) hrn ?_
      refine hK.out _ _ HV2.out (fun _ => ?_)
      clear hK K hb9 hrn
      generalize (v1.alloc (.cells #[.int .i64 t1.l, .int .i64 j.f.heap] 3)) = v2 at *
      refine wpAnyH_ready (rs := [24]) (by kernel_rfl) (by simp) ?_
      refine AllReadyH.cons rfl (fun K hK => ?_) AllReadyH.nil
      rw [if_pos (by rfl)]
      go_simp
      refine (jbelow_any j t1.h [t1.l, j.f.heap] _ v2 (HR.out.hj.n.kept HV2.out) (HR.out.hj.g.kept HV2.out) HLL.out).mono ?_
      rintro _ v3 ⟨rfl, hb9⟩
      have HV3 := hid (Below.next HV2.out hb9)
      refine hK.out _ _ HV3.out (fun _ => ?_)
      clear hK K hb9
      generalize hb2 : ([t1.l, j.f.heap].all fun a => leqB j.n j.g a t1.h) = b2 at *
      have HB2 : Hid ((leqB j.n j.g t1.l t1.h && leqB j.n j.g j.f.heap t1.h) = b2) := by show _ = _; rw [← hb2]; simp
      clear hb2
      cases b2
      · refine wpAnyH_ready (rs := [25]) (by kernel_rfl) (by simp) ?_
        refine AllReadyH.cons rfl (fun K hK => ?_) AllReadyH.nil
        rw [if_pos (by rfl)]
        go_simp
        refine hK.out _ _ HV3.out (fun _ => ?_)
        clear hK K
        refine wpAnyH_ready (rs := [26]) (by kernel_rfl) (by simp) ?_
        refine AllReadyH.cons rfl (fun K hK => ?_) AllReadyH.nil
        rw [if_pos (by rfl)]
        go_simp
        refine hK.out _ _ HV3.out (fun _ => ?_)
        clear hK K
        refine wpAnyH_done (by kernel_rfl) ?_ _
        refine ⟨(fun c hc => by cases hc), ?_⟩
        have HF : Hid (j.called nd = (leafT 0 0, -1)) := by show _ = _; rw [HE.out, hq, HB2.out]; rfl
        have HJ := hid (HR.out.kept HV3.out)
        have bZ := HJ.out.Z
        clear HR
        go_wp2_with (refine wpList_store_blk rfl rfl 39 (.tmp 4) (.tmp 46) rfl (w.heap.size + 2) (leafT 0 0).vs (by kernel_rfl) (by kernel_rfl) rfl bZ rfl (by kernel_rfl) ?_; intro w6 W2)
        have z0 := W2.blk.cell 0 (v := .int .i64 0) rfl
        have z1 := W2.blk.cell 1 (v := .int .i64 0) rfl
        have z2 := W2.blk.cell 2 (v := .slice none 0 0) rfl
        have z3 := W2.blk.cell 3 (v := .int .i64 0) rfl
        have z4 := W2.blk.cell 4 (v := .int .i64 0) rfl
        refine bodyPost_ret (v := .tuple #[.agg (leafT 0 0).vs.toArray, .int .i64 (-1)]) (by simp [results, Try.results95, go_sem, z0, z1, z2, z3, z4, Ty.vs, leafT, Ty.k, Ty.l, Ty.ao, Ty.len, Ty.cap, Ty.h, Ty.e]) rfl ?_
        rw [HF.out]
        exact tk_leaf 0 0 rfl (W2.below (by omega) HJ.out.bl)
      · refine wpAnyH_ready (rs := [25]) (by kernel_rfl) (by simp) ?_
        refine AllReadyH.cons rfl (fun K hK => ?_) AllReadyH.nil
        rw [if_pos (by rfl)]
        go_simp
        refine hK.out _ _ HV3.out (fun _ => ?_)
        clear hK K
        refine wpAnyH_ready (rs := [26]) (by kernel_rfl) (by simp) ?_
        refine AllReadyH.cons rfl (fun K hK => ?_) AllReadyH.nil
        rw [if_pos (by rfl)]
        go_simp
        refine hK.out _ _ HV3.out (fun _ => ?_)
        clear hK K
        refine wpAnyH_done (by kernel_rfl) ?_ _
        refine ⟨(fun c hc => by cases hc), ?_⟩
        have HJ := hid (HR.out.kept HV3.out)
        have HTw := hid (HT.out.1.kept HV3.out)
        have HS1 := hid (show (raiseT j.n j.g (t1.ps 1) t1.l).same (raiseT j.n j.g ((j.read nd nd.h.a).ps 1) t1.l) = true from raise_same (nd_ps HT.out.1.nd (by have := HL.out; omega)) (nd_ps HNA.out.1 (by rw [← same_len HR.out.s1]; have := HL.out; omega)) (same_ps HR.out.s1 (by have := HL.out; omega)))
        clear HR
        have s4 := HJ.out.b1.cell 4 (v := .int .i64 t1.e) rfl
        cases he : (t1.e != -1)
        · have HF : Hid (j.called nd = (raiseT j.n j.g ((j.read nd nd.h.a).ps 1) t1.l, -1)) := by show _ = _; rw [HE.out, hq, HB2.out, if_neg (by simp), if_pos (by simpa using he)]
          go_upto_region 7 with fail
          clear s4 he
          have HS0 : Hid (∀ q, (Below w.heap.size w q ∧ Blk q w.heap.size j.vs 57 ∧ Blk q B1 t1.vs 39 ∧ t1.At q) → True) := fun _ _ => trivial
          have hS : ∀ q, (∃ x : Wd (fun q => Below w.heap.size w q ∧ Blk q w.heap.size j.vs 57 ∧ Blk q B1 t1.vs 39 ∧ t1.At q), q = x.w) → Below w.heap.size w q ∧ Blk q w.heap.size j.vs 57 ∧ Blk q B1 t1.vs 39 ∧ t1.At q := by rintro _ ⟨x, rfl⟩; exact x.2
          have r1 : ∀ x : Wd (fun q => Below w.heap.size w q ∧ Blk q w.heap.size j.vs 57 ∧ Blk q B1 t1.vs 39 ∧ t1.At q), x.w.cell? ⟨B1, 1, none⟩ = some (.int .i64 t1.l) := fun x => x.2.2.2.1.cell 1 rfl
          have r2 : ∀ x : Wd (fun q => Below w.heap.size w q ∧ Blk q w.heap.size j.vs 57 ∧ Blk q B1 t1.vs 39 ∧ t1.At q), x.w.cell? ⟨B1, 2, none⟩ = some (.slice t1.ao t1.len t1.cap) := fun x => x.2.2.2.1.cell 2 rfl
          rw [HTw.out.nil (by have := HL.out; omega)] at r2
          have hlt : (1 : Int) < t1.len := by have := HL.out; omega
          have hdb := (Below.refl v3.heap.size v3).drew
          have HD := hid (show Rk D w j nd t1 t2 B1 B2 v3.drew ∧ t1.At v3.drew from ⟨HJ.out.kept hdb, HTw.out.kept hdb⟩)
          have hNE : Nonempty (Wd (fun q => Below w.heap.size w q ∧ Blk q w.heap.size j.vs 57 ∧ Blk q B1 t1.vs 39 ∧ t1.At q)) := ⟨⟨v3.drew, HD.out.1.bl, HD.out.1.J, HD.out.1.b1, HD.out.2⟩⟩
          clear hdb HS0
          refine wp_region_readsMN (fun q => Below w.heap.size w q ∧ Blk q w.heap.size j.vs 57 ∧ Blk q B1 t1.vs 39 ∧ t1.At q) [0, 1, 2, 3, 4, 5, 6, 8] 3 (by kernel_rfl) rfl (by kernel_rfl) (hj_of (by kernel_rfl)) ⟨HD.out.1.bl, HD.out.1.J, HD.out.1.b1, HD.out.2⟩ ?_
          simp only [List.filterMap, List.getElem?_cons_zero, List.getElem?_cons_succ]
          generalize v3.drew = u7 at *
          go_big_quiet_want
          refine quiet_load_row 57 (.tmp 2) rfl _ 0 (by kernel_rfl) j.vs _ (fun q hq => (hS q hq).2.1.range) Try.underlying57 rfl (by kernel_rfl) ?_
          simp only [Act.put, List.setIfInBounds_toArray, List.set_cons_succ, List.set_cons_zero]
          go_big_quiet_on
          iterate 3 go_big_quiet_step (fail)
          go_big_quiet_want
          refine quiet_load_row 39 (.tmp 59) rfl t1.b (t1.o + 1 * 5) (by kernel_rfl) (t1.ps 1).vs _ (fun q hq => C5.row ((hS q hq).2.2.2.cells (by have := HL.out; omega))) Try.underlying39 rfl (by kernel_rfl) ?_
          simp only [Act.put, List.setIfInBounds_toArray, List.set_cons_succ, List.set_cons_zero]
          go_big_quiet_on
          iterate 3 go_big_quiet_step (fail)
          refine wpQuiet_nil ?_
          clear hS r1 r2 hNE hlt
          refine wpAnyH_ready (rs := [7]) (by kernel_rfl) (by simp) ?_
          refine AllReadyH.cons rfl (fun K hK => ?_) AllReadyH.nil
          rw [if_pos (by rfl)]
          go_simp
          refine (jraise_any D j (t1.ps 1) t1.l u7 HD.out.1.hj.n HD.out.1.hj.g (HD.out.2.part (by have := HL.out; omega)) (by have h1 := HD.out.1.bl.size; have h2 := HH.out.1; omega)).mono ?_
          rintro _ u8 ⟨v, rfl, vA, vB, vS, hb9⟩
          have HV8 := hid (show Rk D w j nd t1 t2 B1 B2 u8 ∧ t1.At u8 ∧ v.At u8 ∧ v.Blk (fun b => b < D ∨ w.heap.size + 3 ≤ b) ∧ v.same (raiseT j.n j.g (t1.ps 1) t1.l) = true from ⟨HD.out.1.kept hb9, HD.out.2.kept hb9, vA, vB.mono (fun b h => by have h1 := HD.out.1.b1.lt; have h2 := HD.out.1.n1; omega), vS⟩)
          refine hK.out _ _ ⟨HV8.out.1.bl, HV8.out.1.J, HV8.out.1.b1, HV8.out.2.1⟩ (fun _ => ?_)
          clear hK K hb9 vA vB vS HD
          refine wpAnyH_ready (rs := [9]) (by kernel_rfl) (by simp) ?_
          refine AllReadyH.cons rfl (fun K hK => ?_) AllReadyH.nil
          rw [if_pos (by rfl)]
          refine wp_store_wrote' 39 (.tmp 4) (.tmp 63) rfl rfl (w.heap.size + 2) v.vs zTv (by kernel_rfl) (by kernel_rfl) v.vs_one HV8.out.1.Z rfl (by kernel_rfl) ?_
          intro w6 W2
          have HV9 := hid (show (Below w.heap.size w w6 ∧ Blk w6 w.heap.size j.vs 57 ∧ Blk w6 B1 t1.vs 39 ∧ t1.At w6) ∧ v.At w6 from ⟨⟨W2.below (by omega) HV8.out.1.bl, W2.keep HV8.out.1.J (by omega), W2.keep HV8.out.1.b1 (by have := HV8.out.1.n1; omega), HV8.out.2.1.wrote HT.out.2.2 W2 (by have := HH.out.1; omega) (by omega)⟩, HV8.out.2.2.1.wrote HV8.out.2.2.2.1 W2 (by have := HH.out.1; omega) (by omega)⟩)
          refine hK.out _ _ HV9.out.1 (fun _ => ?_)
          clear hK K
          refine wpAnyH_ready (rs := [10]) (by kernel_rfl) (by simp) ?_
          refine AllReadyH.cons rfl (fun K hK => ?_) AllReadyH.nil
          rw [if_pos (by rfl)]
          go_simp
          refine hK.out _ _ HV9.out.1 (fun _ => ?_)
          clear hK K
          refine wpAnyH_done (by kernel_rfl) ?_ _
          refine ⟨(fun c hc => by cases hc), ?_⟩
          have z0 := W2.blk.cell 0 (v := .int .i64 v.k) rfl
          have z1 := W2.blk.cell 1 (v := .int .i64 v.l) rfl
          have z2 := W2.blk.cell 2 (v := .slice v.ao v.len v.cap) rfl
          have z3 := W2.blk.cell 3 (v := .int .i64 v.h) rfl
          have z4 := W2.blk.cell 4 (v := .int .i64 v.e) rfl
          go_wp2
          refine bodyPost_ret (v := .tuple #[.agg v.vs.toArray, .int .i64 (-1)]) (by simp [results, Try.results95, go_sem, z0, z1, z2, z3, z4, Ty.vs]) rfl ?_
          rw [HF.out]
          exact tk_mk v HV9.out.2 (HV8.out.2.2.2.1.mono (fun b h => by omega)) (same_trans _ _ _ HV8.out.2.2.2.2 HS1.out) HV9.out.1.1
        · have HF : Hid (j.called nd = (raiseT j.n j.g ((j.read nd nd.h.a).ps 1) t1.l, bothI j.n j.g t1.e t1.l)) := by show _ = _; rw [HE.out, hq, HB2.out, if_neg (by simp), if_neg (by simpa using he)]
          have s1 := HJ.out.b1.cell 1 (v := .int .i64 t1.l) rfl
          have bJ := HJ.out.J
          have hBo := both_any j t1.e t1.l v3 HJ.out.hj.n HJ.out.hj.g
          go_wp2_with (refine wpList_load_mid rfl 57 (.tmp 2) rfl w.heap.size 0 (by kernel_rfl) j.vs _ bJ.range Try.underlying57 rfl (by kernel_rfl) ?_)
          refine Calls.mono hBo ?_
          rintro _ u6 ⟨rfl, hb6⟩
          have HJ6 := hid (HJ.out.kept hb6)
          have HT6 := hid (HTw.out.kept hb6)
          clear hBo s1 s4 bJ HJ HTw hb6
          have HJ := HJ6
          have HTw := HT6
          clear HJ6 HT6
          generalize bothI j.n j.g t1.e t1.l = kk at *
          clear he
          go_upto_region 7 with fail
          have HS0 : Hid (∀ q, (Below w.heap.size w q ∧ Blk q w.heap.size j.vs 57 ∧ Blk q B1 t1.vs 39 ∧ t1.At q) → True) := fun _ _ => trivial
          have hS : ∀ q, (∃ x : Wd (fun q => Below w.heap.size w q ∧ Blk q w.heap.size j.vs 57 ∧ Blk q B1 t1.vs 39 ∧ t1.At q), q = x.w) → Below w.heap.size w q ∧ Blk q w.heap.size j.vs 57 ∧ Blk q B1 t1.vs 39 ∧ t1.At q := by rintro _ ⟨x, rfl⟩; exact x.2
          have r1 : ∀ x : Wd (fun q => Below w.heap.size w q ∧ Blk q w.heap.size j.vs 57 ∧ Blk q B1 t1.vs 39 ∧ t1.At q), x.w.cell? ⟨B1, 1, none⟩ = some (.int .i64 t1.l) := fun x => x.2.2.2.1.cell 1 rfl
          have r2 : ∀ x : Wd (fun q => Below w.heap.size w q ∧ Blk q w.heap.size j.vs 57 ∧ Blk q B1 t1.vs 39 ∧ t1.At q), x.w.cell? ⟨B1, 2, none⟩ = some (.slice t1.ao t1.len t1.cap) := fun x => x.2.2.2.1.cell 2 rfl
          rw [HTw.out.nil (by have := HL.out; omega)] at r2
          have hlt : (1 : Int) < t1.len := by have := HL.out; omega
          have hdb := (Below.refl u6.heap.size u6).drew
          have HD := hid (show Rk D w j nd t1 t2 B1 B2 u6.drew ∧ t1.At u6.drew from ⟨HJ.out.kept hdb, HTw.out.kept hdb⟩)
          have hNE : Nonempty (Wd (fun q => Below w.heap.size w q ∧ Blk q w.heap.size j.vs 57 ∧ Blk q B1 t1.vs 39 ∧ t1.At q)) := ⟨⟨u6.drew, HD.out.1.bl, HD.out.1.J, HD.out.1.b1, HD.out.2⟩⟩
          clear hdb HS0
          refine wp_region_readsMN (fun q => Below w.heap.size w q ∧ Blk q w.heap.size j.vs 57 ∧ Blk q B1 t1.vs 39 ∧ t1.At q) [0, 1, 2, 3, 4, 5, 6, 8] 3 (by kernel_rfl) rfl (by kernel_rfl) (hj_of (by kernel_rfl)) ⟨HD.out.1.bl, HD.out.1.J, HD.out.1.b1, HD.out.2⟩ ?_
          simp only [List.filterMap, List.getElem?_cons_zero, List.getElem?_cons_succ]
          generalize u6.drew = u7 at *
          go_big_quiet_want
          refine quiet_load_row 57 (.tmp 2) rfl _ 0 (by kernel_rfl) j.vs _ (fun q hq => (hS q hq).2.1.range) Try.underlying57 rfl (by kernel_rfl) ?_
          simp only [Act.put, List.setIfInBounds_toArray, List.set_cons_succ, List.set_cons_zero]
          go_big_quiet_on
          iterate 3 go_big_quiet_step (fail)
          go_big_quiet_want
          refine quiet_load_row 39 (.tmp 59) rfl t1.b (t1.o + 1 * 5) (by kernel_rfl) (t1.ps 1).vs _ (fun q hq => C5.row ((hS q hq).2.2.2.cells (by have := HL.out; omega))) Try.underlying39 rfl (by kernel_rfl) ?_
          simp only [Act.put, List.setIfInBounds_toArray, List.set_cons_succ, List.set_cons_zero]
          go_big_quiet_on
          iterate 3 go_big_quiet_step (fail)
          refine wpQuiet_nil ?_
          clear hS r1 r2 hNE hlt
          refine wpAnyH_ready (rs := [7]) (by kernel_rfl) (by simp) ?_
          refine AllReadyH.cons rfl (fun K hK => ?_) AllReadyH.nil
          rw [if_pos (by rfl)]
          go_simp
          refine (jraise_any D j (t1.ps 1) t1.l u7 HD.out.1.hj.n HD.out.1.hj.g (HD.out.2.part (by have := HL.out; omega)) (by have h1 := HD.out.1.bl.size; have h2 := HH.out.1; omega)).mono ?_
          rintro _ u8 ⟨v, rfl, vA, vB, vS, hb9⟩
          have HV8 := hid (show Rk D w j nd t1 t2 B1 B2 u8 ∧ t1.At u8 ∧ v.At u8 ∧ v.Blk (fun b => b < D ∨ w.heap.size + 3 ≤ b) ∧ v.same (raiseT j.n j.g (t1.ps 1) t1.l) = true from ⟨HD.out.1.kept hb9, HD.out.2.kept hb9, vA, vB.mono (fun b h => by have h1 := HD.out.1.b1.lt; have h2 := HD.out.1.n1; omega), vS⟩)
          refine hK.out _ _ ⟨HV8.out.1.bl, HV8.out.1.J, HV8.out.1.b1, HV8.out.2.1⟩ (fun _ => ?_)
          clear hK K hb9 vA vB vS HD
          refine wpAnyH_ready (rs := [9]) (by kernel_rfl) (by simp) ?_
          refine AllReadyH.cons rfl (fun K hK => ?_) AllReadyH.nil
          rw [if_pos (by rfl)]
          refine wp_store_wrote' 39 (.tmp 4) (.tmp 63) rfl rfl (w.heap.size + 2) v.vs zTv (by kernel_rfl) (by kernel_rfl) v.vs_one HV8.out.1.Z rfl (by kernel_rfl) ?_
          intro w6 W2
          have HV9 := hid (show (Below w.heap.size w w6 ∧ Blk w6 w.heap.size j.vs 57 ∧ Blk w6 B1 t1.vs 39 ∧ t1.At w6) ∧ v.At w6 from ⟨⟨W2.below (by omega) HV8.out.1.bl, W2.keep HV8.out.1.J (by omega), W2.keep HV8.out.1.b1 (by have := HV8.out.1.n1; omega), HV8.out.2.1.wrote HT.out.2.2 W2 (by have := HH.out.1; omega) (by omega)⟩, HV8.out.2.2.1.wrote HV8.out.2.2.2.1 W2 (by have := HH.out.1; omega) (by omega)⟩)
          refine hK.out _ _ HV9.out.1 (fun _ => ?_)
          clear hK K
          refine wpAnyH_ready (rs := [10]) (by kernel_rfl) (by simp) ?_
          refine AllReadyH.cons rfl (fun K hK => ?_) AllReadyH.nil
          rw [if_pos (by rfl)]
          go_simp
          refine hK.out _ _ HV9.out.1 (fun _ => ?_)
          clear hK K
          refine wpAnyH_done (by kernel_rfl) ?_ _
          refine ⟨(fun c hc => by cases hc), ?_⟩
          have z0 := W2.blk.cell 0 (v := .int .i64 v.k) rfl
          have z1 := W2.blk.cell 1 (v := .int .i64 v.l) rfl
          have z2 := W2.blk.cell 2 (v := .slice v.ao v.len v.cap) rfl
          have z3 := W2.blk.cell 3 (v := .int .i64 v.h) rfl
          have z4 := W2.blk.cell 4 (v := .int .i64 v.e) rfl
          go_wp2
          refine bodyPost_ret (v := .tuple #[.agg v.vs.toArray, .int .i64 (kk)]) (by simp [results, Try.results95, go_sem, z0, z1, z2, z3, z4, Ty.vs]) rfl ?_
          rw [HF.out]
          exact tk_mk v HV9.out.2 (HV8.out.2.2.2.1.mono (fun b h => by omega)) (same_trans _ _ _ HV8.out.2.2.2.2 HS1.out) HV9.out.1.1
  · go_upto_region 2 with fail
    refine wp_region_readsMN (fun q => Below u.heap.size u q) [0, 1] 25 (by kernel_rfl) rfl (by kernel_rfl) (hj_of (by kernel_rfl)) ((Below.refl _ _).drew) ?_
    simp only [List.filterMap, List.getElem?_cons_zero, List.getElem?_cons_succ]
    go_big_quiet_step (fail)
    go_big_quiet_step (fail)
    refine wpQuiet_nil ?_
    have HV0 := hid (show Below u.heap.size u u.drew from (Below.refl _ _).drew)
    generalize u.drew = v0 at *
    refine wpAnyH_ready (rs := [2]) (by kernel_rfl) (by simp) ?_
    refine AllReadyH.cons rfl (fun K hK => ?_) AllReadyH.nil
    rw [if_pos (by rfl)]
    go_simp
    refine hK.out _ _ HV0.out (fun _ => ?_)
    clear hK K
    refine wpAnyH_ready (rs := [3]) (by kernel_rfl) (by simp) ?_
    refine AllReadyH.cons rfl (fun K hK => ?_) AllReadyH.nil
    rw [if_pos (by rfl)]
    go_simp
    refine hK.out _ _ HV0.out (fun _ => ?_)
    clear hK K
    refine wpAnyH_readsN [4, 5, 6, 7, 8, 9, 10] (rest := 16) rfl (by kernel_rfl) (by kernel_rfl) HV0.out ?_
    simp only [List.filterMap, List.getElem?_cons_zero, List.getElem?_cons_succ]
    go_big_quiet_step (fail)
    go_big_quiet_step (fail)
    go_big_quiet_step (fail)
    go_big_quiet_step (fail)
    go_big_quiet_step (fail)
    go_big_quiet_step (fail)
    go_big_quiet_step (fail)
    refine wpQuiet_nil ?_
    refine wpAnyH_ready (rs := [11]) (by kernel_rfl) (by simp) ?_
    refine AllReadyH.cons rfl (fun K hK => ?_) AllReadyH.nil
    rw [if_neg (unwanted (by kernel_rfl))]
    refine hK.out _ _ HV0.out (fun _ => ?_)
    clear hK K
    refine wpAnyH_ready (rs := [12]) (by kernel_rfl) (by simp) ?_
    refine AllReadyH.cons rfl (fun K hK => ?_) AllReadyH.nil
    rw [if_neg (unwanted (by kernel_rfl))]
    refine hK.out _ _ HV0.out (fun _ => ?_)
    clear hK K
    refine wpAnyH_ready (rs := [13]) (by kernel_rfl) (by simp) ?_
    refine AllReadyH.cons rfl (fun K hK => ?_) AllReadyH.nil
    rw [if_pos (by rfl)]
    go_simp
    refine hK.out _ _ HV0.out (fun _ => ?_)
    clear hK K
    refine wpAnyH_ready (rs := [14]) (by kernel_rfl) (by simp) ?_
    refine AllReadyH.cons rfl (fun K hK => ?_) AllReadyH.nil
    rw [if_pos (by rfl)]
    go_simp
    refine hK.out _ _ HV0.out (fun _ => ?_)
    clear hK K
    refine wpAnyH_readsN [15, 16, 17, 18, 19, 20, 21, 22] (rest := 4) rfl (by kernel_rfl) (by kernel_rfl) HV0.out ?_
    simp only [List.filterMap, List.getElem?_cons_zero, List.getElem?_cons_succ]
    go_big_quiet_step (fail)
    go_big_quiet_step (fail)
    go_big_quiet_step (fail)
    go_big_quiet_step (fail)
    go_big_quiet_step (fail)
    go_big_quiet_step (fail)
    go_big_quiet_step (fail)
    go_big_quiet_step (fail)
    refine wpQuiet_nil ?_
    refine wpAnyH_ready (rs := [23]) (by kernel_rfl) (by simp) ?_
    refine AllReadyH.cons rfl (fun K hK => ?_) AllReadyH.nil
    rw [if_neg (unwanted (by kernel_rfl))]
    refine hK.out _ _ HV0.out (fun _ => ?_)
    clear hK K
    refine wpAnyH_ready (rs := [24]) (by kernel_rfl) (by simp) ?_
    refine AllReadyH.cons rfl (fun K hK => ?_) AllReadyH.nil
    rw [if_neg (unwanted (by kernel_rfl))]
    refine hK.out _ _ HV0.out (fun _ => ?_)
    clear hK K
    refine wpAnyH_ready (rs := [25]) (by kernel_rfl) (by simp) ?_
    refine AllReadyH.cons rfl (fun K hK => ?_) AllReadyH.nil
    rw [if_neg (unwanted (by kernel_rfl))]
    refine hK.out _ _ HV0.out (fun _ => ?_)
    clear hK K
    refine wpAnyH_ready (rs := [26]) (by kernel_rfl) (by simp) ?_
    refine AllReadyH.cons rfl (fun K hK => ?_) AllReadyH.nil
    rw [if_pos (by rfl)]
    go_simp
    refine hK.out _ _ HV0.out (fun _ => ?_)
    clear hK K
    refine wpAnyH_done (by kernel_rfl) ?_ _
    refine ⟨(fun c hc => by cases hc), ?_⟩
    have HF : Hid (j.called nd = (leafT 0 0, -1)) := by show _ = _; rw [HE.out, hq]; rfl
    have HJ := hid (HR.out.kept HV0.out)
    have bZ := HJ.out.Z
    clear HR
    go_wp2_with (refine wpList_store_blk rfl rfl 39 (.tmp 4) (.tmp 46) rfl (w.heap.size + 2) (leafT 0 0).vs (by kernel_rfl) (by kernel_rfl) rfl bZ rfl (by kernel_rfl) ?_; intro w6 W2)
    have z0 := W2.blk.cell 0 (v := .int .i64 0) rfl
    have z1 := W2.blk.cell 1 (v := .int .i64 0) rfl
    have z2 := W2.blk.cell 2 (v := .slice none 0 0) rfl
    have z3 := W2.blk.cell 3 (v := .int .i64 0) rfl
    have z4 := W2.blk.cell 4 (v := .int .i64 0) rfl
    refine bodyPost_ret (v := .tuple #[.agg (leafT 0 0).vs.toArray, .int .i64 (-1)]) (by simp [results, Try.results95, go_sem, z0, z1, z2, z3, z4, Ty.vs, leafT, Ty.k, Ty.l, Ty.ao, Ty.len, Ty.cap, Ty.h, Ty.e]) rfl ?_
    rw [HF.out]
    exact tk_leaf 0 0 rfl (W2.below (by omega) HJ.out.bl)
end Go.Proofs.Ytbdhbgilaeldgaa
