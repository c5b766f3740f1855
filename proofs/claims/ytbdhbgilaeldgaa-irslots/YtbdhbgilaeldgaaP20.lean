/- Layer 10: Sig; count. -/
import Derived.Test.YtbdhbgilaeldgaaP19
namespace Go.Proofs.Ytbdhbgilaeldgaa
open Go Go.RowKit

theorem Try.infoTyI : (Try.prog.info? 39).map (fun i => (i.zero, i.size, i.bytes)) = some (some (.agg zTv.toArray), 5, 56) := by kernel_rfl
theorem fill2_ty (s t : Ty) : Instr.fill (fun i => some (i * 5, 5)) (Array.map (fun x => zTv[x % zTv.length]?.getD default) (Array.range 10)) [(0, Value.agg s.vs.toArray), (1, Value.agg t.vs.toArray)] = some (s.vs ++ t.vs).toArray := by kernel_rfl
theorem run_slice2_ty (s t : Ty) (w : World) : (Instr.buildSlice 37 2 #[(0, .agg s.vs.toArray), (1, .agg t.vs.toArray)]).run Try.prog w = .ok (.slice (some ⟨w.heap.size, 0, none⟩) 2 2) (w.alloc (.cells (s.vs ++ t.vs).toArray 39)) := by
  obtain ⟨i0, hi, hz0, hz1, hz2⟩ := info_parts Try.infoTyI
  simp [Instr.buildSlice, run_underlying Try.underlying37, sizeOf, typeInfo, hi, hz0, hz1, zeroValue, newRow, Value.cells, fill2_ty]
/-- A Fun whose Parts lie in a block of their own. -/
def mkB (k l h e : Int) (B : Nat) (p q : Ty) : Ty := .mk k l h e (some ⟨B, 0, none⟩) B 0 2 2 (fun i => if i = 0 then p else q)
theorem range_C5 {w : World} {b o : Nat} {t : Ty} (h : w.rangeAt b o t.vs) : C5 w b o t := ⟨h 0 _ rfl, h 1 _ rfl, h 2 _ rfl, h 3 _ rfl, h 4 _ rfl⟩
theorem mkB_at {w : World} {k l h e : Int} {B : Nat} {p q : Ty} (hp : p.At w) (hq : q.At w) (hb : Blk w B (p.vs ++ q.vs) 39) : (mkB k l h e B p q).At w := by
  refine ⟨fun _ => rfl, by decide, fun i hi => ?_⟩
  match i, hi with
  | 0, _ => exact ⟨range_C5 (fun j v hv => hb.range j v (by
      replace hv : p.vs[j]? = some v := hv
      rw [List.getElem?_append_left (by rcases Nat.lt_or_ge j p.vs.length with h1 | h1
                                        · exact h1
                                        · rw [List.getElem?_eq_none h1] at hv; cases hv)]
      exact hv)), hp⟩
  | 1, _ => exact ⟨range_C5 (fun j v hv => by
      have := hb.range (5 + j) v (by
        rw [List.getElem?_append_right (by show p.vs.length ≤ 5 + j; simp [Ty.vs])]
        rw [show 5 + j - p.vs.length = j by simp [Ty.vs]]
        exact hv)
      rw [show 0 + 1 * 5 + j = 0 + (5 + j) by omega]
      exact this), hq⟩
theorem mkB_same {k l h e : Int} {B : Nat} {p q : Ty} : (mkB k l h e B p q).same (mk2 k l h e p q) = true := by
  rw [same_iff]
  refine ⟨⟨rfl, rfl, rfl, rfl, rfl⟩, fun i _ => ?_⟩
  show (if i = 0 then p else q).same (if i = 0 then p else q) = true
  exact same_refl _
theorem mk2_nd {k l h e : Int} {p q : Ty} (hp : p.Nd) (hq : q.Nd) : (mk2 k l h e p q).Nd := by
  intro i hi
  show (if i = 0 then p else q).Nd
  split
  · exact hp
  · exact hq
theorem range_of5 {w : World} {B : Nat} {c : List Value} {ty : TypeId} {t : Ty} (h : Blk w B c ty) (o : Nat) (h0 : c[o]? = some (.int .i64 t.k)) (h1 : c[o + 1]? = some (.int .i64 t.l)) (h2 : c[o + 2]? = some (.slice t.ao t.len t.cap)) (h3 : c[o + 3]? = some (.int .i64 t.h)) (h4 : c[o + 4]? = some (.int .i64 t.e)) : w.rangeAt B o t.vs :=
  C5.row ⟨h.cell o h0, h.cell (o + 1) h1, h.cell (o + 2) h2, h.cell (o + 3) h3, h.cell (o + 4) h4⟩
set_option maxRecDepth 100000 in
set_option maxHeartbeats 8000000 in
theorem Sig_any (D : Nat) (n : Strs) (g : Grid) (f : Fc) (w : World) (hn : n.At w) (hg : g.At w) (hf : f.At w) (hD : D ≤ w.heap.size) : Calls Try.prog 63 #[.agg #[.slice n.ao n.len n.cap, .slice g.ao g.len g.cap], .agg f.vs.toArray] w (TyRet D (sigT n g f) w) := by
  have H := allocs_heap [.cells #[.slice n.ao n.len n.cap, .slice g.ao g.len g.cap] 25, .cells f.vs.toArray 43, .cells #[.int .i64 0, .int .i64 0, .slice none 0 0, .int .i64 0, .int .i64 0] 39] w
  have B0 := allocs_below [.cells #[.slice n.ao n.len n.cap, .slice g.ao g.len g.cap] 25, .cells f.vs.toArray 43, .cells #[.int .i64 0, .int .i64 0, .slice none 0 0, .int .i64 0, .int .i64 0] 39] w
  have SZ := allocs_size [.cells #[.slice n.ao n.len n.cap, .slice g.ao g.len g.cap] 25, .cells f.vs.toArray 43, .cells #[.int .i64 0, .int .i64 0, .slice none 0 0, .int .i64 0, .int .i64 0] 39] w
  simp only [List.foldl, List.length] at H B0 SZ
  have HI := hid (show Below w.heap.size w _ ∧ Blk _ w.heap.size [.slice n.ao n.len n.cap, .slice g.ao g.len g.cap] 25 ∧ Blk _ (w.heap.size + 1) f.vs 43 ∧ Blk _ (w.heap.size + 2) zTv 39 ∧ _ = w.heap.size + 3 from ⟨B0, H 0 (by simp), H 1 (by simp), H 2 (by simp), SZ⟩)
  have HH := hid (show n.At w ∧ g.At w ∧ f.At w ∧ D ≤ w.heap.size from ⟨hn, hg, hf, hD⟩)
  clear H B0 SZ hn hg hf hD
  go_enter Try.func63, Try.ntmps63
  go_upto_region 1 with fail
  generalize (((w.alloc (.cells #[.slice n.ao n.len n.cap, .slice g.ao g.len g.cap] 25)).alloc (.cells f.vs.toArray 43)).alloc (.cells #[.int .i64 0, .int .i64 0, .slice none 0 0, .int .i64 0, .int .i64 0] 39)) = w1 at *
  have l0 := HI.out.2.1.cell 0 rfl
  have l1 := HI.out.2.1.cell 1 rfl
  go_wp2_with fail
  refine (Bottom_any n g w1 (HH.out.1.kept HI.out.1) (HH.out.2.1.kept HI.out.1)).mono ?_
  rintro _ w2 ⟨rfl, hb2⟩
  have HI2 := hid (show Below w.heap.size w w2 ∧ Blk w2 w.heap.size [.slice n.ao n.len n.cap, .slice g.ao g.len g.cap] 25 ∧ Blk w2 (w.heap.size + 1) f.vs 43 ∧ Blk w2 (w.heap.size + 2) zTv 39 ∧ w.heap.size + 3 ≤ w2.heap.size from ⟨Below.next HI.out.1 hb2, HI.out.2.1.kept hb2, HI.out.2.2.1.kept hb2, HI.out.2.2.2.1.kept hb2, by have h1 := HI.out.2.2.2.2; have h2 := hb2.size; omega⟩)
  have HG : Hid (sigT n g f = raiseT n g (mk2 4 (botI n g) f.heap f.exc f.param f.result) (botI n g)) := by show _ = _; rfl
  clear HI l0 l1 hb2
  generalize botI n g = bt at *
  have r0 : w2.rangeAt (w.heap.size + 1) 0 f.param.vs := (range_of5 HI2.out.2.2.1 0 rfl rfl rfl rfl rfl)
  have r5 : w2.rangeAt (w.heap.size + 1) 5 f.result.vs := (range_of5 HI2.out.2.2.1 5 rfl rfl rfl rfl rfl)
  have c11 := HI2.out.2.2.1.cell 11 (v := .int .i64 f.heap) rfl
  have c12 := HI2.out.2.2.1.cell 12 (v := .int .i64 f.exc) rfl
  have hsl := run_slice2_ty f.param f.result w2
  have hb3 := below_alloc w2 (.cells (f.param.vs ++ f.result.vs).toArray 39)
  have HB := hid (show Below w2.heap.size w2 (w2.alloc (.cells (f.param.vs ++ f.result.vs).toArray 39)) ∧ Blk (w2.alloc (.cells (f.param.vs ++ f.result.vs).toArray 39)) w2.heap.size (f.param.vs ++ f.result.vs) 39 from ⟨hb3, Blk.new w2 _ _⟩)
  have c11' := up hb3 c11
  have c12' := up hb3 c12
  have hb4 := below_alloc (w2.alloc (.cells (f.param.vs ++ f.result.vs).toArray 39)) (.cells #[.int .i64 4, .int .i64 bt, .slice (some ⟨w2.heap.size, 0, none⟩) 2 2, .int .i64 f.heap, .int .i64 f.exc] 39)
  have HB4 := hid (show Below w2.heap.size w2 ((w2.alloc (.cells (f.param.vs ++ f.result.vs).toArray 39)).alloc (.cells #[.int .i64 4, .int .i64 bt, .slice (some ⟨w2.heap.size, 0, none⟩) 2 2, .int .i64 f.heap, .int .i64 f.exc] 39)) ∧ Blk ((w2.alloc (.cells (f.param.vs ++ f.result.vs).toArray 39)).alloc (.cells #[.int .i64 4, .int .i64 bt, .slice (some ⟨w2.heap.size, 0, none⟩) 2 2, .int .i64 f.heap, .int .i64 f.exc] 39)) w2.heap.size (f.param.vs ++ f.result.vs) 39 ∧ Blk ((w2.alloc (.cells (f.param.vs ++ f.result.vs).toArray 39)).alloc (.cells #[.int .i64 4, .int .i64 bt, .slice (some ⟨w2.heap.size, 0, none⟩) 2 2, .int .i64 f.heap, .int .i64 f.exc] 39)) (w2.heap.size + 1) (mkB 4 bt f.heap f.exc w2.heap.size f.param f.result).vs 39 from ⟨Below.next hb3 hb4, HB.out.2.kept hb4, by
    have := Blk.new (w2.alloc (.cells (f.param.vs ++ f.result.vs).toArray 39)) (mkB 4 bt f.heap f.exc w2.heap.size f.param f.result).vs 39
    rw [alloc_size] at this
    exact this⟩)
  clear hb3 hb4 HB
  go_upto_region 3 with (first | (refine wpList_load_mid rfl 39 (.tmp 10) rfl (w.heap.size + 1) 0 (by kernel_rfl) f.param.vs _ r0 Try.underlying39 rfl (by kernel_rfl) ?_) | (refine wpList_load_mid rfl 39 (.tmp 12) rfl (w.heap.size + 1) 5 (by kernel_rfl) f.result.vs _ r5 Try.underlying39 rfl (by kernel_rfl) ?_) | (refine wpList_slice rfl 37 2 #[(0, .tmp 11), (1, .tmp 13)] rfl #[(0, .agg f.param.vs.toArray), (1, .agg f.result.vs.toArray)] (by kernel_rfl) hsl ?_))
  clear r0 r5 c11 c12 c11' c12' hsl
  generalize ((w2.alloc (.cells (f.param.vs ++ f.result.vs).toArray 39)).alloc (.cells #[.int .i64 4, .int .i64 bt, .slice (some ⟨w2.heap.size, 0, none⟩) 2 2, .int .i64 f.heap, .int .i64 f.exc] 39)) = w4 at *
  generalize w2.heap.size + 1 = B6 at *
  have HT := hid (show (mkB 4 bt f.heap f.exc w2.heap.size f.param f.result).At w4 ∧ (mkB 4 bt f.heap f.exc w2.heap.size f.param f.result).Nd from (fun h => ⟨h, h.nd⟩) (mkB_at ((HH.out.2.2.1.param.kept HI2.out.1).kept HB4.out.1) ((HH.out.2.2.1.result.kept HI2.out.1).kept HB4.out.1) HB4.out.2.1))
  have HS : Hid ((raiseT n g (mkB 4 bt f.heap f.exc w2.heap.size f.param f.result) bt).same (sigT n g f) = true) := by
    show _ = _
    rw [HG.out]
    exact raise_same HT.out.2 (mk2_nd HH.out.2.2.1.param.nd HH.out.2.2.1.result.nd) mkB_same
  have l0 := (HI2.out.2.1.kept HB4.out.1).cell 0 rfl
  have l1 := (HI2.out.2.1.kept HB4.out.1).cell 1 rfl
  have bT := HB4.out.2.2
  have hR := Raise_ret D n g _ bt w4 ((HH.out.1.kept HI2.out.1).kept HB4.out.1) ((HH.out.2.1.kept HI2.out.1).kept HB4.out.1) HT.out.1
  have HI4 := hid (show Below w.heap.size w w4 ∧ Blk w4 (w.heap.size + 2) zTv 39 ∧ w.heap.size + 3 ≤ w4.heap.size from ⟨Below.next HI2.out.1 HB4.out.1, HI2.out.2.2.2.1.kept HB4.out.1, by have h1 := HI2.out.2.2.2.2; have h2 := HB4.out.1.size; omega⟩)
  clear HI2 HB4 HT
  generalize mkB 4 bt f.heap f.exc w2.heap.size f.param f.result = T at *
  go_wp2_with (refine wpList_load_mid rfl 39 (.tmp 6) rfl B6 0 (by kernel_rfl) T.vs _ bT.range Try.underlying39 rfl (by kernel_rfl) ?_)
  refine hR.mono ?_
  rintro _ w5 ⟨u, rfl, uA, uB, uS, hb5⟩
  have bZ := HI4.out.2.1.kept hb5
  have HU := hid (show u.At w5 ∧ u.Blk (fun b => b < D ∨ w.heap.size + 3 ≤ b) ∧ u.same (sigT n g f) = true ∧ Below w.heap.size w w5 from ⟨uA, uB.mono (fun b h => by have := HI4.out.2.2; omega), same_trans _ _ _ uS HS.out, Below.next HI4.out.1 hb5⟩)
  have hD := HH.out.2.2.2
  clear hR l0 l1 bT uA uB uS hb5 HI4
  go_wp2_with (refine wpList_store_blk rfl rfl 39 (.tmp 4) (.tmp 23) rfl (w.heap.size + 2) u.vs (by kernel_rfl) (by kernel_rfl) u.vs_one bZ rfl (by kernel_rfl) ?_; intro w6 W2)
  have z0 := W2.blk.cell 0 (v := .int .i64 u.k) rfl
  have z1 := W2.blk.cell 1 (v := .int .i64 u.l) rfl
  have z2 := W2.blk.cell 2 (v := .slice u.ao u.len u.cap) rfl
  have z3 := W2.blk.cell 3 (v := .int .i64 u.h) rfl
  have z4 := W2.blk.cell 4 (v := .int .i64 u.e) rfl
  exact bodyPost_ret (v := .agg u.vs.toArray) (by simp [results, Try.results63, go_sem, z0, z1, z2, z3, z4, Ty.vs]) rfl ⟨u, rfl, HU.out.1.wrote HU.out.2.1 W2 (by omega) (by omega), HU.out.2.1.mono (fun b h => by omega), HU.out.2.2.1, W2.below (by omega) HU.out.2.2.2⟩
end Go.Proofs.Ytbdhbgilaeldgaa

/- Layer 10: only; a part of what is read, raised: side and held. -/
namespace Go.Proofs.Ytbdhbgilaeldgaa
open Go Go.RowKit

theorem setL_k (t : Ty) (j : Int) : (t.setL j).k = t.k := by cases t <;> rfl
theorem setL_len (t : Ty) (j : Int) : (t.setL j).len = t.len := by cases t <;> rfl
theorem fm_ar {N : Nat} {t : Ty} {d : Nat} (h : t.fm N d = true) : (t.len : Int) = arityI t.k := by
  cases t with
  | dm => cases h
  | mk k l hh e ao b o len cap ps =>
    unfold Ty.fm at h
    simp only [Bool.and_eq_true, beq_iff_eq] at h
    exact h.1.1.1.2
theorem raise_ar {n : Strs} {g : Grid} {t : Ty} {a k : Int} (hk : k ≠ 0) (h : (raiseT n g t a).k = k) : ((raiseT n g t a).len : Int) = arityI k := by
  unfold raiseT at h ⊢
  split at h
  · rename_i hc
    rw [if_pos hc]
    rw [setL_k] at h
    rw [setL_len, ← h]
    simp only [Bool.and_eq_true] at hc
    have h1 := hc.1
    unfold okB Ty.ok at h1
    simp only [Bool.and_eq_true] at h1
    exact fm_ar h1.2.1
  · exact absurd h.symm hk
theorem same_len {u r : Ty} (h : u.same r = true) : u.len = r.len := ((same_iff u r).1 h).1.2.2.2.2
theorem same_h {u r : Ty} (h : u.same r = true) : u.h = r.h := ((same_iff u r).1 h).1.2.2.1
theorem same_e {u r : Ty} (h : u.same r = true) : u.e = r.e := ((same_iff u r).1 h).1.2.2.2.1
theorem same_ps {u r : Ty} (h : u.same r = true) {i : Nat} (hi : i < u.len) : (u.ps i).same (r.ps i) = true := ((same_iff u r).1 h).2 i hi
theorem nd_ps : ∀ {t : Ty}, t.Nd → ∀ {i : Nat}, i < t.len → (t.ps i).Nd
  | .dm, h, _, _ => h.elim
  | .mk _ _ _ _ _ _ _ _ _ _, h, i, hi => h i hi
theorem read_nd {j : Jd} {nd : Nd} {i : Int} {w : World} (hj : j.At w) (h0 : 0 ≤ i) (h1 : i < j.f.slots.len) : (j.read nd i).Nd := by
  unfold Jd.read
  exact raise_nd ((hj.f.slots.part (i := i.toNat) (by omega)).nd)

set_option maxHeartbeats 4000000 in
theorem only_any (k : Int) (t : Ty) (w : World) : Calls Try.prog 92 #[.int .i64 k, .agg t.vs.toArray] w fun e w' => e = .returned (.agg (onlyT k t).vs.toArray) ∧ Below w.heap.size w w' ∧ WroteB ((w.alloc (.cells t.vs.toArray 39)).alloc (.cells zTv.toArray 39)) w' (w.heap.size + 1) (onlyT k t).vs 39 := by
  have H := allocs_heap [.cells t.vs.toArray 39, .cells zTv.toArray 39] w
  have B0 := allocs_below [.cells t.vs.toArray 39, .cells zTv.toArray 39] w
  simp only [List.foldl] at H B0
  have bT : Blk _ w.heap.size t.vs 39 := H 0 (by simp)
  have bZ : Blk _ (w.heap.size + 1) zTv 39 := H 1 (by simp)
  clear H
  unfold zTv at B0 bT bZ ⊢
  have c0 := bT.cell 0 (v := .int .i64 t.k) rfl
  cases hq : (t.k != k)
  · have HG : Hid (onlyT k t = t) := by show _ = _; unfold onlyT; rw [hq]; rfl
    rw [HG.out]
    go_enter Try.func92, Try.ntmps92
    go_wp2_with (first | (refine wpList_load_mid rfl 39 (.tmp 3) rfl w.heap.size 0 (by kernel_rfl) t.vs _ bT.range Try.underlying39 rfl (by kernel_rfl) ?_) | (refine wpList_store_blk rfl rfl 39 (.tmp 4) (.tmp 10) rfl (w.heap.size + 1) t.vs (by kernel_rfl) (by kernel_rfl) t.vs_one bZ rfl (by kernel_rfl) ?_; intro w2 W2))
    have z0 := W2.blk.cell 0 (v := .int .i64 t.k) rfl
    have z1 := W2.blk.cell 1 (v := .int .i64 t.l) rfl
    have z2 := W2.blk.cell 2 (v := .slice t.ao t.len t.cap) rfl
    have z3 := W2.blk.cell 3 (v := .int .i64 t.h) rfl
    have z4 := W2.blk.cell 4 (v := .int .i64 t.e) rfl
    exact bodyPost_ret (v := .agg t.vs.toArray) (by simp [results, Try.results92, go_sem, z0, z1, z2, z3, z4, Ty.vs]) rfl ⟨rfl, W2.below (by omega) B0, W2⟩
  · have HG : Hid (onlyT k t = leafT 0 0) := by show _ = _; unfold onlyT; rw [hq]; rfl
    rw [HG.out]
    go_enter Try.func92, Try.ntmps92
    go_wp2_with (refine wpList_store_blk rfl rfl 39 (.tmp 4) (.tmp 9) rfl (w.heap.size + 1) (leafT 0 0).vs (by kernel_rfl) (by kernel_rfl) rfl bZ rfl (by kernel_rfl) ?_; intro w2 W2)
    have z0 := W2.blk.cell 0 (v := .int .i64 0) rfl
    have z1 := W2.blk.cell 1 (v := .int .i64 0) rfl
    have z2 := W2.blk.cell 2 (v := .slice none 0 0) rfl
    have z3 := W2.blk.cell 3 (v := .int .i64 0) rfl
    have z4 := W2.blk.cell 4 (v := .int .i64 0) rfl
    exact bodyPost_ret (v := .agg (leafT 0 0).vs.toArray) (by simp [results, Try.results92, go_sem, z0, z1, z2, z3, z4, Ty.vs, leafT, Ty.k, Ty.l, Ty.ao, Ty.len, Ty.cap, Ty.h, Ty.e]) rfl ⟨rfl, W2.below (by omega) B0, W2⟩
/-- What only answers is what it was given, or the zero type. -/
theorem only_ret (D : Nat) (k : Int) (t : Ty) (w : World) (m : Nat) (hA : t.At w) (hk : t.Blk (fun b => b < D ∨ m ≤ b)) : Calls Try.prog 92 #[.int .i64 k, .agg t.vs.toArray] w fun e w' => ∃ u : Ty, e = .returned (.agg u.vs.toArray) ∧ u.At w' ∧ u.Blk (fun b => b < D ∨ m ≤ b) ∧ u.same (onlyT k t) = true ∧ Below w.heap.size w w' := by
  refine (only_any k t w).mono ?_
  rintro _ w' ⟨rfl, hb, _⟩
  refine ⟨onlyT k t, rfl, ?_, ?_, same_refl _, hb⟩
  · unfold onlyT; split
    · exact leaf_at _ _ _
    · exact hA.kept hb
  · unfold onlyT; split
    · exact leaf_blk _ _ _
    · exact hk
theorem only_same {k : Int} {u r : Ty} (h : u.same r = true) : (onlyT k u).same (onlyT k r) = true := by
  unfold onlyT
  rw [same_k h]
  split
  · exact same_refl _
  · exact h

set_option maxRecDepth 100000 in
set_option maxHeartbeats 8000000 in
theorem makes_op5 (D : Nat) (j : Jd) (nd : Nd) (w : World) (hj : j.At w) (hD : D ≤ w.heap.size) (hop : nd.h.op = 5) (hc : ∀ u, Below w.heap.size w u → Calls Try.prog 77 #[.agg j.vs.toArray, .agg nd.vs.toArray, .int .i64 nd.h.a] u (TyRet D (j.read nd nd.h.a) u)) : MakeC D j nd w := by
  unfold MakeC
  have HI := hid (mk_new w j nd hj)
  have HG : Hid (j.makes nd = (onlyT 2 (j.read nd nd.h.a), -1)) := by show _ = _; unfold Jd.makes; rw [hop]; rfl
  have c0 := HI.out.N.cell 0 (v := .int .i64 nd.h.op) rfl
  have c2 := HI.out.N.cell 2 (v := .int .i64 nd.h.a) rfl
  have HP : Hid (∀ u, Below w.heap.size w u → Calls Try.prog 77 #[.agg j.vs.toArray, .agg nd.vs.toArray, .int .i64 nd.h.a] u (TyRet D (j.read nd nd.h.a) u)) := hc
  rw [hop] at c0
  unfold mkW at HI c0 c2
  clear hop hc hj
  go_enter Try.func79, Try.ntmps79
  go_upto_region 1 with fail
  generalize (((w.alloc (.cells j.va 57)).alloc (.cells nd.va 46)).alloc (.cells #[.int .i64 0, .int .i64 0, .slice none 0 0, .int .i64 0, .int .i64 0] 39)) = w1 at *
  have bJ := HI.out.J
  have bN := HI.out.N
  go_wp2_with (first | (refine wpList_load_mid rfl 57 (.tmp 2) rfl w.heap.size 0 (by kernel_rfl) j.vs _ bJ.range Try.underlying57 rfl (by kernel_rfl) ?_) | (refine wpList_load_mid rfl 46 (.tmp 3) rfl (w.heap.size + 1) 0 (by kernel_rfl) nd.vs _ bN.range Try.underlying46 rfl (by kernel_rfl) ?_))
  refine (HP.out w1 HI.out.bl).mono ?_
  rintro _ w2 ⟨u0, rfl, uA0, uB0, uS0, hb0⟩
  have HI1 := hid (HI.out.kept hb0)
  have HR := hid (only_ret D 2 u0 w2 (w.heap.size + 3) uA0 (uB0.mono (fun b h => by have := HI.out.sz; omega)))
  have HS := hid (only_same (k := 2) uS0)
  clear HI bJ bN c0 c2 HP hb0 uA0 uB0 uS0
  go_wp2_with fail
  refine HR.out.mono ?_
  rintro _ w3 ⟨u, rfl, uA, uB, uS, hb⟩
  have HI2 := hid (HI1.out.kept hb)
  have HU := hid (show u.At w3 ∧ u.Blk (fun b => b < D ∨ w.heap.size + 3 ≤ b) ∧ u.same (onlyT 2 (j.read nd nd.h.a)) = true from ⟨uA, uB, same_trans _ _ _ uS HS.out⟩)
  have bZ := HI2.out.Z
  clear HI1 hb uA uB uS HR HS
  go_wp2_with (refine wpList_store_blk rfl rfl 39 (.tmp 4) (.tmp 40) rfl (w.heap.size + 2) u.vs (by kernel_rfl) (by kernel_rfl) u.vs_one bZ rfl (by kernel_rfl) ?_; intro w4 W2)
  have z0 := W2.blk.cell 0 (v := .int .i64 u.k) rfl
  have z1 := W2.blk.cell 1 (v := .int .i64 u.l) rfl
  have z2 := W2.blk.cell 2 (v := .slice u.ao u.len u.cap) rfl
  have z3 := W2.blk.cell 3 (v := .int .i64 u.h) rfl
  have z4 := W2.blk.cell 4 (v := .int .i64 u.e) rfl
  refine bodyPost_ret (v := .tuple #[.agg u.vs.toArray, .int .i64 (-1)]) (by simp [results, Try.results79, go_sem, z0, z1, z2, z3, z4, Ty.vs]) rfl ?_
  rw [HG.out]
  exact tk_mk u (HU.out.1.wrote HU.out.2.1 W2 (by omega) (by omega)) (HU.out.2.1.mono (fun b h => by omega)) HU.out.2.2 (W2.below (by omega) HI2.out.bl)
end Go.Proofs.Ytbdhbgilaeldgaa

/- Layer 10: a part of what is read, raised: side and held. -/
namespace Go.Proofs.Ytbdhbgilaeldgaa
open Go Go.RowKit

set_option maxRecDepth 100000 in
set_option maxHeartbeats 8000000 in
theorem side_any (D : Nat) (j : Jd) (nd : Nd) (i : Nat) (hi : i < 2) (w : World) (hj : j.At w) (hD : D ≤ w.heap.size) (ha : 0 ≤ nd.h.a) (ha1 : nd.h.a < j.f.slots.len) :
    Calls Try.prog 93 #[.agg j.va, .agg nd.va, .int .i64 i] w (TyRet D (j.side nd i) w) := by
  have HI := hid (mk_new w j nd hj)
  have HH := hid (show 0 ≤ nd.h.a ∧ nd.h.a < j.f.slots.len ∧ D ≤ w.heap.size from ⟨ha, ha1, hD⟩)
  have HR := hid (read_nd (nd := nd) hj ha ha1)
  have c2 := HI.out.N.cell 2 (v := .int .i64 nd.h.a) rfl
  unfold mkW at HI c2
  clear hj ha ha1 hD
  go_enter Try.func93, Try.ntmps93
  go_upto_region 1 with fail
  generalize (((w.alloc (.cells j.va 57)).alloc (.cells nd.va 46)).alloc (.cells #[.int .i64 0, .int .i64 0, .slice none 0 0, .int .i64 0, .int .i64 0] 39)) = w1 at *
  have bJ := HI.out.J
  have bN := HI.out.N
  go_wp2_with (first | (refine wpList_load_mid rfl 57 (.tmp 3) rfl w.heap.size 0 (by kernel_rfl) j.vs _ bJ.range Try.underlying57 rfl (by kernel_rfl) ?_) | (refine wpList_load_mid rfl 46 (.tmp 4) rfl (w.heap.size + 1) 0 (by kernel_rfl) nd.vs _ bN.range Try.underlying46 rfl (by kernel_rfl) ?_))
  refine (read_any D j nd nd.h.a w1 HI.out.hj (by have h1 := HI.out.bl.size; have h2 := HH.out.2.2; omega) HH.out.1 HH.out.2.1).mono ?_
  rintro _ w2 ⟨u, rfl, uA, uB, uS, hb⟩
  have HI2 := hid (HI.out.kept hb)
  have HU := hid (show u.At w2 ∧ u.Blk (fun b => b < D ∨ w.heap.size + 3 ≤ b) ∧ u.same (j.read nd nd.h.a) = true from ⟨uA, uB.mono (fun b h => by have := HI.out.sz; omega), uS⟩)
  clear HI c2 bJ bN hb uA uB uS
  have hN := below_alloc w2 (.cells u.vs.toArray 39)
  have HB := hid (show Mk w j nd (w2.alloc (.cells u.vs.toArray 39)) ∧ Blk (w2.alloc (.cells u.vs.toArray 39)) w2.heap.size u.vs 39 ∧ u.At (w2.alloc (.cells u.vs.toArray 39)) ∧ w.heap.size + 3 ≤ w2.heap.size from ⟨HI2.out.kept hN, Blk.new w2 _ _, HU.out.1.kept hN, HI2.out.sz⟩)
  clear hN HI2
  go_upto_region 2 with (refine wpList_new_mid rfl rfl 39 rfl (.tmp 7) (.tmp 12) rfl zTv (alloc_ty _) rfl u.vs.toArray (by kernel_rfl) (by kernel_rfl) rfl (by kernel_rfl) (by simpa using u.vs_one) ?_)
  generalize (w2.alloc (.cells u.vs.toArray 39)) = w3 at *
  generalize w2.heap.size = B at *
  have x0 := HB.out.2.1.cell 0 (v := .int .i64 u.k) rfl
  have HK := hid (same_k HU.out.2.2)
  cases hq : (u.k != 3)
  · have HG : Hid (j.side nd i = raiseT j.n j.g ((j.read nd nd.h.a).ps i) (j.read nd nd.h.a).l) := by
      show _ = _
      unfold Jd.side
      rw [← HK.out, hq]
      rfl
    have HL := hid (show i < u.len from by
      have h1 : (j.read nd nd.h.a).k = 3 := by rw [← HK.out]; simpa using hq
      have h2 := raise_ar (n := j.n) (g := j.g) (t := j.f.slots.ps nd.h.a.toNat) (a := nd.h.env) (k := 3) (by decide) h1
      have h3 : arityI 3 = 2 := by decide
      have h4 := same_len HU.out.2.2
      have h5 : (u.len : Int) = 2 := by rw [h4, ← h3]; exact h2
      omega)
    go_upto_region 4 with fail
    have x1 : ∀ x : Gr w3, x.w.cell? ⟨B, 1, none⟩ = some (.int .i64 u.l) := fun x => (HB.out.2.1.kept x.bl).cell 1 rfl
    have x2 : ∀ x : Gr w3, x.w.cell? ⟨B, 2, none⟩ = some (.slice u.ao u.len u.cap) := fun x => (HB.out.2.1.kept x.bl).cell 2 rfl
    have hC0 : ∀ q, (∃ x : Gr w3, q = x.w) → q.rangeAt w.heap.size 0 j.vs := by rintro _ ⟨x, rfl⟩; exact (HB.out.1.J.kept x.bl).range
    have hC1 : ∀ q, (∃ x : Gr w3, q = x.w) → q.rangeAt u.b (u.o + i * 5) (u.ps i).vs := by rintro _ ⟨x, rfl⟩; exact C5.row ((HB.out.2.2.1.kept x.bl).cells HL.out)
    rw [HB.out.2.2.1.nil (Nat.lt_of_le_of_lt (Nat.zero_le _) HL.out)] at x2
    have hNE : Nonempty (Gr w3) := ⟨⟨_, Below.refl _ _⟩⟩
    have hlt : ((i : Nat) : Int) < u.len := by have := HL.out; omega
    clear x0 hq
    refine wp_region_gr_tail 8 (by kernel_rfl) (by kernel_rfl) ?_
    simp only [List.take, List.drop]
    go_big_quiet_want
    refine quiet_load_row 57 (.tmp 3) rfl _ 0 (by kernel_rfl) j.vs _ hC0 Try.underlying57 rfl (by kernel_rfl) ?_
    simp only [Act.put, List.setIfInBounds_toArray, List.set_cons_succ, List.set_cons_zero]
    go_big_quiet_on
    iterate 4 go_big_quiet_step (fail)
    go_big_quiet_want
    refine quiet_load_row 39 (.tmp 21) rfl u.b (u.o + i * 5) (by kernel_rfl) (u.ps i).vs _ hC1 Try.underlying39 rfl (by kernel_rfl) ?_
    simp only [Act.put, List.setIfInBounds_toArray, List.set_cons_succ, List.set_cons_zero]
    go_big_quiet_on
    iterate 2 go_big_quiet_step (fail)
    refine wpQuiet_nil ?_
    rintro w4 ⟨x4, rfl⟩
    have B5 := x4.bl
    generalize x4.w = w4 at B5 ⊢
    have hR := jraise_any D j (u.ps i) u.l w4 (HB.out.1.hj.n.kept B5) (HB.out.1.hj.g.kept B5) ((HB.out.2.2.1.kept B5).part HL.out) (by have h1 := HB.out.1.sz; have h2 := B5.size; have h3 := HH.out.2.2; omega)
    have HS := hid (show (raiseT j.n j.g (u.ps i) u.l).same (j.side nd i) = true from by
      rw [HG.out, same_l HU.out.2.2]
      exact raise_same (nd_ps HU.out.1.nd HL.out) (nd_ps HR.out (by rw [← same_len HU.out.2.2]; exact HL.out)) (same_ps HU.out.2.2 HL.out))
    clear x4 x1 x2 hNE hC0 hC1 hlt
    go_wp2_with fail
    refine hR.mono ?_
    rintro _ w5 ⟨v, rfl, vA, vB, vS, hb1⟩
    have HI5 := hid ((HB.out.1.kept B5).kept hb1)
    have HV : Hid (v.At w5 ∧ v.same (j.side nd i) = true ∧ v.Blk (fun b => b < D ∨ w.heap.size + 3 ≤ b)) := ⟨vA, same_trans _ _ _ vS HS.out, vB.mono (fun b h => by have h1 := HB.out.1.sz; have h2 := B5.size; omega)⟩
    have bZ := HI5.out.Z
    have hD := HH.out.2.2
    clear hR vA vB vS hb1 B5 HB HU
    go_wp2_with (refine wpList_store_blk rfl rfl 39 (.tmp 6) (.tmp 25) rfl (w.heap.size + 2) v.vs (by kernel_rfl) (by kernel_rfl) v.vs_one bZ rfl (by kernel_rfl) ?_; intro w6 W2)
    have z0 := W2.blk.cell 0 (v := .int .i64 v.k) rfl
    have z1 := W2.blk.cell 1 (v := .int .i64 v.l) rfl
    have z2 := W2.blk.cell 2 (v := .slice v.ao v.len v.cap) rfl
    have z3 := W2.blk.cell 3 (v := .int .i64 v.h) rfl
    have z4 := W2.blk.cell 4 (v := .int .i64 v.e) rfl
    exact bodyPost_ret (v := .agg v.vs.toArray) (by simp [results, Try.results93, go_sem, z0, z1, z2, z3, z4, Ty.vs]) rfl ⟨v, rfl, HV.out.1.wrote HV.out.2.2 W2 (by omega) (by omega), HV.out.2.2.mono (fun b h => by omega), HV.out.2.1, W2.below (by omega) HI5.out.bl⟩
  · have HG : Hid (j.side nd i = leafT 0 0) := by
      show _ = _
      unfold Jd.side
      rw [← HK.out, hq]
      rfl
    have bZ := HB.out.1.Z
    go_wp2_with (refine wpList_store_blk rfl rfl 39 (.tmp 6) (.tmp 16) rfl (w.heap.size + 2) (leafT 0 0).vs (by kernel_rfl) (by kernel_rfl) rfl bZ rfl (by kernel_rfl) ?_; intro w6 W2)
    have z0 := W2.blk.cell 0 (v := .int .i64 0) rfl
    have z1 := W2.blk.cell 1 (v := .int .i64 0) rfl
    have z2 := W2.blk.cell 2 (v := .slice none 0 0) rfl
    have z3 := W2.blk.cell 3 (v := .int .i64 0) rfl
    have z4 := W2.blk.cell 4 (v := .int .i64 0) rfl
    exact bodyPost_ret (v := .agg (leafT 0 0).vs.toArray) (by simp [results, Try.results93, go_sem, z0, z1, z2, z3, z4, Ty.vs, leafT, Ty.k, Ty.l, Ty.ao, Ty.len, Ty.cap, Ty.h, Ty.e]) rfl ⟨leafT 0 0, rfl, leaf_at _ _ _, leaf_blk _ _ _, by rw [HG.out]; exact same_refl _, W2.below (by omega) HB.out.1.bl⟩
set_option maxRecDepth 100000 in
set_option maxHeartbeats 8000000 in
theorem held_any (D : Nat) (j : Jd) (nd : Nd) (w : World) (hj : j.At w) (hD : D ≤ w.heap.size) (ha : 0 ≤ nd.h.a) (ha1 : nd.h.a < j.f.slots.len) :
    Calls Try.prog 97 #[.agg j.va, .agg nd.va] w (TyRet D (j.held nd) w) := by
  have HI := hid (mk_new w j nd hj)
  have HH := hid (show 0 ≤ nd.h.a ∧ nd.h.a < j.f.slots.len ∧ D ≤ w.heap.size from ⟨ha, ha1, hD⟩)
  have HR := hid (read_nd (nd := nd) hj ha ha1)
  have c2 := HI.out.N.cell 2 (v := .int .i64 nd.h.a) rfl
  unfold mkW at HI c2
  clear hj ha ha1 hD
  go_enter Try.func97, Try.ntmps97
  go_upto_region 1 with fail
  generalize (((w.alloc (.cells j.va 57)).alloc (.cells nd.va 46)).alloc (.cells #[.int .i64 0, .int .i64 0, .slice none 0 0, .int .i64 0, .int .i64 0] 39)) = w1 at *
  have bJ := HI.out.J
  have bN := HI.out.N
  go_wp2_with (first | (refine wpList_load_mid rfl 57 (.tmp 2) rfl w.heap.size 0 (by kernel_rfl) j.vs _ bJ.range Try.underlying57 rfl (by kernel_rfl) ?_) | (refine wpList_load_mid rfl 46 (.tmp 3) rfl (w.heap.size + 1) 0 (by kernel_rfl) nd.vs _ bN.range Try.underlying46 rfl (by kernel_rfl) ?_))
  refine (read_any D j nd nd.h.a w1 HI.out.hj (by have h1 := HI.out.bl.size; have h2 := HH.out.2.2; omega) HH.out.1 HH.out.2.1).mono ?_
  rintro _ w2 ⟨u, rfl, uA, uB, uS, hb⟩
  have HI2 := hid (HI.out.kept hb)
  have HU := hid (show u.At w2 ∧ u.Blk (fun b => b < D ∨ w.heap.size + 3 ≤ b) ∧ u.same (j.read nd nd.h.a) = true from ⟨uA, uB.mono (fun b h => by have := HI.out.sz; omega), uS⟩)
  clear HI c2 bJ bN hb uA uB uS
  have hN := below_alloc w2 (.cells u.vs.toArray 39)
  have HB := hid (show Mk w j nd (w2.alloc (.cells u.vs.toArray 39)) ∧ Blk (w2.alloc (.cells u.vs.toArray 39)) w2.heap.size u.vs 39 ∧ u.At (w2.alloc (.cells u.vs.toArray 39)) ∧ w.heap.size + 3 ≤ w2.heap.size from ⟨HI2.out.kept hN, Blk.new w2 _ _, HU.out.1.kept hN, HI2.out.sz⟩)
  clear hN HI2
  go_upto_region 2 with (refine wpList_new_mid rfl rfl 39 rfl (.tmp 5) (.tmp 10) rfl zTv (alloc_ty _) rfl u.vs.toArray (by kernel_rfl) (by kernel_rfl) rfl (by kernel_rfl) (by simpa using u.vs_one) ?_)
  generalize (w2.alloc (.cells u.vs.toArray 39)) = w3 at *
  generalize w2.heap.size = B at *
  have x0 := HB.out.2.1.cell 0 (v := .int .i64 u.k) rfl
  have HK := hid (same_k HU.out.2.2)
  cases hq : (u.k != 5)
  · have HG : Hid (j.held nd = raiseT j.n j.g ((j.read nd nd.h.a).ps 0) (j.read nd nd.h.a).l) := by
      show _ = _
      unfold Jd.held
      rw [← HK.out, hq]
      rfl
    have HL := hid (show 0 < u.len from by
      have h1 : (j.read nd nd.h.a).k = 5 := by rw [← HK.out]; simpa using hq
      have h2 := raise_ar (n := j.n) (g := j.g) (t := j.f.slots.ps nd.h.a.toNat) (a := nd.h.env) (k := 5) (by decide) h1
      have h3 : arityI 5 = 1 := by decide
      have h4 := same_len HU.out.2.2
      have h5 : (u.len : Int) = 1 := by rw [h4, ← h3]; exact h2
      omega)
    go_upto_region 4 with fail
    have x1 : ∀ x : Gr w3, x.w.cell? ⟨B, 1, none⟩ = some (.int .i64 u.l) := fun x => (HB.out.2.1.kept x.bl).cell 1 rfl
    have x2 : ∀ x : Gr w3, x.w.cell? ⟨B, 2, none⟩ = some (.slice u.ao u.len u.cap) := fun x => (HB.out.2.1.kept x.bl).cell 2 rfl
    have hC0 : ∀ q, (∃ x : Gr w3, q = x.w) → q.rangeAt w.heap.size 0 j.vs := by rintro _ ⟨x, rfl⟩; exact (HB.out.1.J.kept x.bl).range
    have hC1 : ∀ q, (∃ x : Gr w3, q = x.w) → q.rangeAt u.b (u.o + 0 * 5) (u.ps 0).vs := by rintro _ ⟨x, rfl⟩; exact C5.row ((HB.out.2.2.1.kept x.bl).cells HL.out)
    rw [HB.out.2.2.1.nil (Nat.lt_of_le_of_lt (Nat.zero_le _) HL.out)] at x2
    have hNE : Nonempty (Gr w3) := ⟨⟨_, Below.refl _ _⟩⟩
    have hlt : ((0 : Nat) : Int) < u.len := by have := HL.out; omega
    clear x0 hq
    refine wp_region_gr_tail 7 (by kernel_rfl) (by kernel_rfl) ?_
    simp only [List.take, List.drop]
    go_big_quiet_want
    refine quiet_load_row 57 (.tmp 2) rfl _ 0 (by kernel_rfl) j.vs _ hC0 Try.underlying57 rfl (by kernel_rfl) ?_
    simp only [Act.put, List.setIfInBounds_toArray, List.set_cons_succ, List.set_cons_zero]
    go_big_quiet_on
    iterate 3 go_big_quiet_step (fail)
    go_big_quiet_want
    refine quiet_load_row 39 (.tmp 18) rfl u.b (u.o + 0 * 5) (by kernel_rfl) (u.ps 0).vs _ hC1 Try.underlying39 rfl (by kernel_rfl) ?_
    simp only [Act.put, List.setIfInBounds_toArray, List.set_cons_succ, List.set_cons_zero]
    go_big_quiet_on
    iterate 2 go_big_quiet_step (fail)
    refine wpQuiet_nil ?_
    rintro w4 ⟨x4, rfl⟩
    have B5 := x4.bl
    generalize x4.w = w4 at B5 ⊢
    have hR := jraise_any D j (u.ps 0) u.l w4 (HB.out.1.hj.n.kept B5) (HB.out.1.hj.g.kept B5) ((HB.out.2.2.1.kept B5).part HL.out) (by have h1 := HB.out.1.sz; have h2 := B5.size; have h3 := HH.out.2.2; omega)
    have HS := hid (show (raiseT j.n j.g (u.ps 0) u.l).same (j.held nd) = true from by
      rw [HG.out, same_l HU.out.2.2]
      exact raise_same (nd_ps HU.out.1.nd HL.out) (nd_ps HR.out (by rw [← same_len HU.out.2.2]; exact HL.out)) (same_ps HU.out.2.2 HL.out))
    clear x4 x1 x2 hNE hC0 hC1 hlt
    go_wp2_with fail
    refine hR.mono ?_
    rintro _ w5 ⟨v, rfl, vA, vB, vS, hb1⟩
    have HI5 := hid ((HB.out.1.kept B5).kept hb1)
    have HV : Hid (v.At w5 ∧ v.same (j.held nd) = true ∧ v.Blk (fun b => b < D ∨ w.heap.size + 3 ≤ b)) := ⟨vA, same_trans _ _ _ vS HS.out, vB.mono (fun b h => by have h1 := HB.out.1.sz; have h2 := B5.size; omega)⟩
    have bZ := HI5.out.Z
    have hD := HH.out.2.2
    clear hR vA vB vS hb1 B5 HB HU
    go_wp2_with (refine wpList_store_blk rfl rfl 39 (.tmp 4) (.tmp 22) rfl (w.heap.size + 2) v.vs (by kernel_rfl) (by kernel_rfl) v.vs_one bZ rfl (by kernel_rfl) ?_; intro w6 W2)
    have z0 := W2.blk.cell 0 (v := .int .i64 v.k) rfl
    have z1 := W2.blk.cell 1 (v := .int .i64 v.l) rfl
    have z2 := W2.blk.cell 2 (v := .slice v.ao v.len v.cap) rfl
    have z3 := W2.blk.cell 3 (v := .int .i64 v.h) rfl
    have z4 := W2.blk.cell 4 (v := .int .i64 v.e) rfl
    exact bodyPost_ret (v := .agg v.vs.toArray) (by simp [results, Try.results97, go_sem, z0, z1, z2, z3, z4, Ty.vs]) rfl ⟨v, rfl, HV.out.1.wrote HV.out.2.2 W2 (by omega) (by omega), HV.out.2.2.mono (fun b h => by omega), HV.out.2.1, W2.below (by omega) HI5.out.bl⟩
  · have HG : Hid (j.held nd = leafT 0 0) := by
      show _ = _
      unfold Jd.held
      rw [← HK.out, hq]
      rfl
    have bZ := HB.out.1.Z
    go_wp2_with (refine wpList_store_blk rfl rfl 39 (.tmp 4) (.tmp 14) rfl (w.heap.size + 2) (leafT 0 0).vs (by kernel_rfl) (by kernel_rfl) rfl bZ rfl (by kernel_rfl) ?_; intro w6 W2)
    have z0 := W2.blk.cell 0 (v := .int .i64 0) rfl
    have z1 := W2.blk.cell 1 (v := .int .i64 0) rfl
    have z2 := W2.blk.cell 2 (v := .slice none 0 0) rfl
    have z3 := W2.blk.cell 3 (v := .int .i64 0) rfl
    have z4 := W2.blk.cell 4 (v := .int .i64 0) rfl
    exact bodyPost_ret (v := .agg (leafT 0 0).vs.toArray) (by simp [results, Try.results97, go_sem, z0, z1, z2, z3, z4, Ty.vs, leafT, Ty.k, Ty.l, Ty.ao, Ty.len, Ty.cap, Ty.h, Ty.e]) rfl ⟨leafT 0 0, rfl, leaf_at _ _ _, leaf_blk _ _ _, by rw [HG.out]; exact same_refl _, W2.below (by omega) HB.out.1.bl⟩
end Go.Proofs.Ytbdhbgilaeldgaa

/- Layer 10: cell. -/
namespace Go.Proofs.Ytbdhbgilaeldgaa
open Go Go.RowKit

theorem fill1_ty (s : Ty) : Instr.fill (fun i => some (i * 5, 5)) (Array.map (fun x => zTv[x % zTv.length]?.getD default) (Array.range 5)) [(0, Value.agg s.vs.toArray)] = some s.vs.toArray := by kernel_rfl
theorem run_slice1_ty (s : Ty) (w : World) : (Instr.buildSlice 37 1 #[(0, .agg s.vs.toArray)]).run Try.prog w = .ok (.slice (some ⟨w.heap.size, 0, none⟩) 1 1) (w.alloc (.cells s.vs.toArray 39)) := by
  obtain ⟨i0, hi, hz0, hz1, hz2⟩ := info_parts Try.infoTyI
  simp [Instr.buildSlice, run_underlying Try.underlying37, sizeOf, typeInfo, hi, hz0, hz1, zeroValue, newRow, Value.cells, fill1_ty]
/-- A Ref whose Part lies in a block of its own. -/
def mkA (k l : Int) (B : Nat) (p : Ty) : Ty := .mk k l 0 0 (some ⟨B, 0, none⟩) B 0 1 1 (fun _ => p)
theorem mkA_at {w : World} {k l : Int} {B : Nat} {p : Ty} (hp : p.At w) (hb : Blk w B p.vs 39) : (mkA k l B p).At w := by
  refine ⟨fun _ => rfl, by decide, fun i hi => ?_⟩
  match i, hi with
  | 0, _ => exact ⟨range_C5 hb.range, hp⟩
theorem mkA_same {k l : Int} {B : Nat} {p : Ty} : (mkA k l B p).same (mk1 k l p) = true := by
  rw [same_iff]
  exact ⟨⟨rfl, rfl, rfl, rfl, rfl⟩, fun i _ => same_refl _⟩
theorem mkA_blk {k l : Int} {B : Nat} {p : Ty} {Q : Nat → Prop} (hB : Q B) (hp : p.Blk Q) : (mkA k l B p).Blk Q := ⟨fun _ => hB, fun _ _ => hp⟩

set_option maxRecDepth 100000 in
set_option maxHeartbeats 8000000 in
theorem cell_any (D : Nat) (j : Jd) (nd : Nd) (w : World) (hj : j.At w) (hD : D ≤ w.heap.size) (ha : 0 ≤ nd.h.a) (ha1 : nd.h.a < j.f.slots.len) (hT : nd.h.t.At w) (hTB : nd.h.t.Blk (fun b => b < D)) :
    Calls Try.prog 96 #[.agg j.va, .agg nd.va] w (TyRet D (j.cell nd) w) := by
  have HI := hid (mk_new w j nd hj)
  have HH := hid (show 0 ≤ nd.h.a ∧ nd.h.a < j.f.slots.len ∧ D ≤ w.heap.size ∧ nd.h.t.At w ∧ nd.h.t.Blk (fun b => b < D) from ⟨ha, ha1, hD, hT, hTB⟩)
  have HR := hid (read_nd (nd := nd) hj ha ha1)
  unfold mkW at HI
  clear hj ha ha1 hD hT hTB
  go_enter Try.func96, Try.ntmps96
  go_upto_region 1 with fail
  generalize (((w.alloc (.cells j.va 57)).alloc (.cells nd.va 46)).alloc (.cells #[.int .i64 0, .int .i64 0, .slice none 0 0, .int .i64 0, .int .i64 0] 39)) = w1 at *
  have hC0 : ∀ q, (∃ x : Wd (fun q => Below w1.heap.size w1 q), q = x.w) → q.rangeAt w.heap.size 0 j.vs := by rintro _ ⟨x, rfl⟩; exact (HI.out.J.kept x.2).range
  have hC1 : ∀ q, (∃ x : Wd (fun q => Below w1.heap.size w1 q), q = x.w) → q.rangeAt (w.heap.size + 1) 0 nd.vs := by rintro _ ⟨x, rfl⟩; exact (HI.out.N.kept x.2).range
  have hCT : ∀ q, (∃ x : Wd (fun q => Below w1.heap.size w1 q), q = x.w) → q.rangeAt (w.heap.size + 1) 6 nd.h.t.vs := by rintro _ ⟨x, rfl⟩; exact range_of5 (HI.out.N.kept x.2) 6 rfl rfl rfl rfl rfl
  have p0 : ∀ x : Wd (fun q => Below w1.heap.size w1 q), x.w.cell? ⟨w.heap.size, 0, none⟩ = some (.slice j.n.ao j.n.len j.n.cap) := fun x => (HI.out.J.kept x.2).cell 0 rfl
  have p1 : ∀ x : Wd (fun q => Below w1.heap.size w1 q), x.w.cell? ⟨w.heap.size, 1, none⟩ = some (.slice j.g.ao j.g.len j.g.cap) := fun x => (HI.out.J.kept x.2).cell 1 rfl
  have p2 : ∀ x : Wd (fun q => Below w1.heap.size w1 q), x.w.cell? ⟨w.heap.size + 1, 2, none⟩ = some (.int .i64 nd.h.a) := fun x => (HI.out.N.kept x.2).cell 2 rfl
  have hNE : Nonempty (Wd (fun q => Below w1.heap.size w1 q)) := ⟨⟨_, Below.refl _ _⟩⟩
  refine wp_region_readsMN (fun q => Below w1.heap.size w1 q) [0, 1, 2, 3, 4, 5, 7, 8] 3 (by kernel_rfl) rfl (by kernel_rfl) (hj_of (by kernel_rfl)) ((Below.refl _ _).drew) ?_
  simp only [List.filterMap, List.getElem?_cons_zero, List.getElem?_cons_succ]
  iterate 2 go_big_quiet_step (fail)
  go_big_quiet_want
  refine quiet_load_row 57 (.tmp 2) rfl _ 0 (by kernel_rfl) j.vs _ hC0 Try.underlying57 rfl (by kernel_rfl) ?_
  simp only [Act.put, List.setIfInBounds_toArray, List.set_cons_succ, List.set_cons_zero]
  go_big_quiet_on
  go_big_quiet_want
  refine quiet_load_row 46 (.tmp 3) rfl _ 0 (by kernel_rfl) nd.vs _ hC1 Try.underlying46 rfl (by kernel_rfl) ?_
  simp only [Act.put, List.setIfInBounds_toArray, List.set_cons_succ, List.set_cons_zero]
  go_big_quiet_on
  iterate 3 go_big_quiet_step (fail)
  go_big_quiet_want
  refine quiet_load_row 39 (.tmp 12) rfl _ 6 (by kernel_rfl) nd.h.t.vs _ hCT Try.underlying39 rfl (by kernel_rfl) ?_
  simp only [Act.put, List.setIfInBounds_toArray, List.set_cons_succ, List.set_cons_zero]
  go_big_quiet_on
  refine wpQuiet_nil ?_
  clear hC0 hC1 hCT p0 p1 p2 hNE
  have HV0 := hid (show Below w1.heap.size w1 w1.drew from (Below.refl _ _).drew)
  generalize w1.drew = v0 at *
  refine wpAnyH_ready (rs := [6]) (by kernel_rfl) (by simp) ?_
  refine AllReadyH.cons rfl (fun K hK => ?_) AllReadyH.nil
  rw [if_pos (by rfl)]
  go_simp
  refine (read_any D j nd nd.h.a v0 (HI.out.hj.kept HV0.out) (by have h1 := HI.out.bl.size; have h2 := HH.out.2.2.1; have h3 := HV0.out.size; omega) HH.out.1 HH.out.2.1).mono ?_
  rintro _ v1 ⟨u, rfl, uA, uB, uS, hb9⟩
  have HV1 := hid (Below.next HV0.out hb9)
  have HU := hid (show u.At v1 ∧ u.same (j.read nd nd.h.a) = true from ⟨uA, uS⟩)
  refine hK.out _ _ HV1.out (fun _ => ?_)
  clear hK K hb9 uA uB uS HV0
  refine wpAnyH_ready (rs := [9]) (by kernel_rfl) (by simp) ?_
  refine AllReadyH.cons rfl (fun K hK => ?_) AllReadyH.nil
  rw [if_pos (by rfl)]
  go_simp
  refine (Below_any2 j.n j.g u nd.h.t v1 (HI.out.hj.n.kept HV1.out) (HI.out.hj.g.kept HV1.out) HU.out.1 ((HH.out.2.2.2.1.kept HI.out.bl).kept HV1.out)).mono ?_
  rintro _ v2 ⟨rfl, hb9⟩
  have HV2 := hid (Below.next HV1.out hb9)
  refine hK.out _ _ HV2.out (fun _ => ?_)
  have HG : Hid (j.cell nd = if belB j.n j.g u nd.h.t = true then mk1 5 j.bot nd.h.t else leafT 0 0) := by
    show _ = _
    unfold Jd.cell
    rw [bel_sameL (t := nd.h.t) HU.out.1.nd HR.out HU.out.2]
  clear hK K hb9 HV1 HU
  generalize belB j.n j.g u nd.h.t = bb at *
  refine wpAnyH_ready (rs := [10]) (by kernel_rfl) (by simp) ?_
  refine AllReadyH.cons rfl (fun K hK => ?_) AllReadyH.nil
  rw [if_pos (by rfl)]
  go_simp
  refine hK.out _ _ HV2.out (fun _ => ?_)
  clear hK K
  refine wpAnyH_done (by kernel_rfl) ?_ _
  refine ⟨(fun c hc => by cases hc), ?_⟩
  have HJ := hid (HI.out.kept HV2.out)
  clear HI HV2
  cases bb
  · have bZ := HJ.out.Z
    go_wp2_with (refine wpList_store_blk rfl rfl 39 (.tmp 4) (.tmp 16) rfl (w.heap.size + 2) (leafT 0 0).vs (by kernel_rfl) (by kernel_rfl) rfl bZ rfl (by kernel_rfl) ?_; intro w6 W2)
    have z0 := W2.blk.cell 0 (v := .int .i64 0) rfl
    have z1 := W2.blk.cell 1 (v := .int .i64 0) rfl
    have z2 := W2.blk.cell 2 (v := .slice none 0 0) rfl
    have z3 := W2.blk.cell 3 (v := .int .i64 0) rfl
    have z4 := W2.blk.cell 4 (v := .int .i64 0) rfl
    exact bodyPost_ret (v := .agg (leafT 0 0).vs.toArray) (by simp [results, Try.results96, go_sem, z0, z1, z2, z3, z4, Ty.vs, leafT, Ty.k, Ty.l, Ty.ao, Ty.len, Ty.cap, Ty.h, Ty.e]) rfl ⟨leafT 0 0, rfl, leaf_at _ _ _, leaf_blk _ _ _, by rw [HG.out]; exact same_refl _, W2.below (by omega) HJ.out.bl⟩
  · have c2 := HJ.out.J.cell 2 (v := .int .i64 j.bot) rfl
    have rT : v2.rangeAt (w.heap.size + 1) 6 nd.h.t.vs := range_of5 HJ.out.N 6 rfl rfl rfl rfl rfl
    have hsl := run_slice1_ty nd.h.t v2
    have hb := below_alloc v2 (.cells nd.h.t.vs.toArray 39)
    have HB := hid (show Mk w j nd (v2.alloc (.cells nd.h.t.vs.toArray 39)) ∧ Blk (v2.alloc (.cells nd.h.t.vs.toArray 39)) v2.heap.size nd.h.t.vs 39 ∧ w.heap.size + 3 ≤ v2.heap.size from ⟨HJ.out.kept hb, Blk.new v2 _ _, HJ.out.sz⟩)
    have bZ := HB.out.1.Z
    clear hb HJ
    go_wp2_with (first | (refine wpList_load_mid rfl 39 (.tmp 19) rfl (w.heap.size + 1) 6 (by kernel_rfl) nd.h.t.vs _ rT Try.underlying39 rfl (by kernel_rfl) ?_) | (refine wpList_slice rfl 37 1 #[(0, .tmp 20)] rfl #[(0, .agg nd.h.t.vs.toArray)] (by kernel_rfl) hsl ?_) | (refine wpList_store_blk rfl rfl 39 (.tmp 4) (.tmp 22) rfl (w.heap.size + 2) (mkA 5 j.bot v2.heap.size nd.h.t).vs (by kernel_rfl) (by kernel_rfl) rfl bZ rfl (by kernel_rfl) ?_; intro w6 W2))
    have z0 := W2.blk.cell 0 (v := .int .i64 5) rfl
    have z1 := W2.blk.cell 1 (v := .int .i64 j.bot) rfl
    have z2 := W2.blk.cell 2 (v := .slice (some ⟨v2.heap.size, 0, none⟩) 1 1) rfl
    have z3 := W2.blk.cell 3 (v := .int .i64 0) rfl
    have z4 := W2.blk.cell 4 (v := .int .i64 0) rfl
    have hb6 := W2.below (B0 := w.heap.size) (by omega) HB.out.1.bl
    refine bodyPost_ret (v := .agg (mkA 5 j.bot v2.heap.size nd.h.t).vs.toArray) (by simp [results, Try.results96, go_sem, z0, z1, z2, z3, z4, Ty.vs, mkA, Ty.k, Ty.l, Ty.ao, Ty.len, Ty.cap, Ty.h, Ty.e]) rfl ⟨mkA 5 j.bot v2.heap.size nd.h.t, rfl, ?_, ?_, ?_, hb6⟩
    · exact mkA_at (HH.out.2.2.2.1.kept hb6) (W2.keep HB.out.2.1 (by have := HB.out.2.2; omega))
    · exact mkA_blk (by have := HB.out.2.2; omega) (HH.out.2.2.2.2.mono (fun b h => Or.inl h))
    · rw [HG.out]; exact mkA_same
end Go.Proofs.Ytbdhbgilaeldgaa
