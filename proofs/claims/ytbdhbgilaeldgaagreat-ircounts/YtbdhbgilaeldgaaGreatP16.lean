/- Layer 10: types up to where they lie; raise, read. -/
import Derived.Test.YtbdhbgilaeldgaaGreatP15
import Derived.Deep.QuietTactic
import Derived.BigQuiet
import Derived.Test.YtbdhbgilaeldgaaGreatP13
namespace Go.Proofs.YtbdhbgilaeldgaaGreat
open Go Go.RowKit

theorem bel_sameL {n : Strs} {g : Grid} {u r t : Ty} (hu : u.Nd) (hr : r.Nd) (h : u.same r = true) : belB n g u t = belB n g r t := by
  have e := same_fm_nd (N := n.len) u r hu hr h
  have eo : u.ok n.len = r.ok n.len := by unfold Ty.ok; rw [e.1, e.2]
  unfold belB
  rw [eo]
  cases hF : formedB n g
  · rfl
  cases hr' : r.ok n.len
  · rfl
  cases ht : t.ok n.len
  · rfl
  have P := po_of hF
  have fu : Fd n.len u := fd_ok (eo.trans hr')
  have fr : Fd n.len r := fd_ok hr'
  have ft : Fd n.len t := fd_ok ht
  have sb := same_bel P u r fu fr h
  have key : u.bel g.B true t = true ↔ r.bel g.B true t = true := ⟨fun x => (bel_trans P r u t fr fu ft).1 sb.2 x, fun x => (bel_trans P u r t fu fr ft).1 sb.1 x⟩
  rw [Bool.true_and, Bool.true_and]
  exact Bool.eq_iff_iff.2 key
theorem bel_sameR {n : Strs} {g : Grid} {u r t : Ty} (hu : u.Nd) (hr : r.Nd) (h : u.same r = true) : belB n g t u = belB n g t r := by
  have e := same_fm_nd (N := n.len) u r hu hr h
  have eo : u.ok n.len = r.ok n.len := by unfold Ty.ok; rw [e.1, e.2]
  unfold belB
  rw [eo]
  cases hF : formedB n g
  · rfl
  cases ht : t.ok n.len
  · rfl
  cases hr' : r.ok n.len
  · rfl
  have P := po_of hF
  have fu : Fd n.len u := fd_ok (eo.trans hr')
  have fr : Fd n.len r := fd_ok hr'
  have ft : Fd n.len t := fd_ok ht
  have sb := same_bel P u r fu fr h
  have key : t.bel g.B true u = true ↔ t.bel g.B true r = true := ⟨fun x => (bel_trans P t u r ft fu fr).1 x sb.1, fun x => (bel_trans P t r u ft fr fu).1 x sb.2⟩
  rw [Bool.true_and, Bool.true_and]
  exact Bool.eq_iff_iff.2 key
theorem setL_nd {j : Int} : ∀ {t : Ty}, t.Nd → (t.setL j).Nd
  | .dm, h => h.elim
  | .mk _ _ _ _ _ _ _ _ _ _, h => h
theorem leaf_nd (k l : Int) : (leafT k l).Nd := (leaf_at k l default).nd
theorem raise_nd {n : Strs} {g : Grid} {t : Ty} {a : Int} (h : t.Nd) : (raiseT n g t a).Nd := by
  unfold raiseT; split
  · exact setL_nd h
  · exact leaf_nd _ _
theorem setL_same' {j : Int} : ∀ {s t : Ty}, s.Nd → t.Nd → s.same t = true → (s.setL j).same (t.setL j) = true
  | .dm, _, h, _, _ => h.elim
  | _, .dm, _, h, _ => h.elim
  | .mk _ _ _ _ _ _ _ _ _ _, .mk _ _ _ _ _ _ _ _ _ _, _, _, h => by
    rw [same_iff] at h ⊢
    exact ⟨⟨h.1.1, rfl, h.1.2.2⟩, h.2⟩
theorem raise_same {n : Strs} {g : Grid} {u r : Ty} {a : Int} (hu : u.Nd) (hr : r.Nd) (h : u.same r = true) : (raiseT n g u a).same (raiseT n g r a) = true := by
  have e := same_fm_nd (N := n.len) u r hu hr h
  have eo : okB n g u = okB n g r := by unfold okB Ty.ok; rw [e.1, e.2]
  have el : u.l = r.l := ((same_iff u r).1 h).1.2.1
  unfold raiseT
  rw [eo, el]
  split
  · exact setL_same' hu hr h
  · exact same_refl _

theorem hid {p : Prop} (h : p) : Hid p := h
/-- A type answered: it lies in old memory, below D, and in memory made since. -/
def TyRet (D : Nat) (r : Ty) (w : World) (e : Ending) (w' : World) : Prop := ∃ u : Ty, e = .returned (.agg u.vs.toArray) ∧ u.At w' ∧ u.Blk (fun b => b < D ∨ w.heap.size ≤ b) ∧ u.same r = true ∧ Below w.heap.size w w'
theorem Ty.vs_one (t : Ty) : t.vs.all (·.oneCell') = true := by simp [Ty.vs, Value.oneCell']
def zTv : List Value := [.int .i64 0, .int .i64 0, .slice none 0 0, .int .i64 0, .int .i64 0]
theorem Raise_ret (D : Nat) (n : Strs) (g : Grid) (t : Ty) (a : Int) (w : World) (hn : n.At w) (hg : g.At w) (ht : t.At w) :
    Calls Tryz.prog 28 #[.agg #[.slice n.ao n.len n.cap, .slice g.ao g.len g.cap], .agg t.vs.toArray, .int .i64 a] w (TyRet D (raiseT n g t a) w) :=
  (Raise_any n g t a w hn hg ht).mono fun _ _ ⟨u, h1, h2, h3, h4, h5⟩ => ⟨u, h1, h2, h3.mono (fun _ h => Or.inr h), h4, h5⟩
theorem TyRet.to {D : Nat} {r r' : Ty} {w : World} {e : Ending} {w' : World} (h : TyRet D r w e w') (hs : r.same r' = true) : TyRet D r' w e w' := by
  obtain ⟨u, h1, h2, h3, h4, h5⟩ := h
  exact ⟨u, h1, h2, h3, same_trans _ _ _ h4 hs, h5⟩
/-- A type stays where another block is written. -/
theorem Ty.At.wrote {w w' : World} {B D m : Nat} {c : List Value} {t : TypeId} {u : Ty} (h : u.At w) (hk : u.Blk (fun b => b < D ∨ m ≤ b)) (W : WroteB w w' B c t) (h1 : D ≤ B) (h2 : B < m) : u.At w' :=
  Ty.At.agree (Q := fun b => b < D ∨ m ≤ b) (fun b hb => W.other b (by omega)) h hk

set_option maxRecDepth 100000 in
set_option maxHeartbeats 4000000 in
theorem jraise_any (D : Nat) (j : Jd) (t : Ty) (a : Int) (w : World) (hn : j.n.At w) (hg : j.g.At w) (ht : t.At w) (hD : D ≤ w.heap.size) : Calls Tryz.prog 68 #[.agg j.va, .agg t.vs.toArray, .int .i64 a] w (TyRet D (raiseT j.n j.g t a) w) := by
  have H := allocs_heap [.cells j.va 61, .cells t.vs.toArray 38, .cells zTv.toArray 38] w
  have B0 := allocs_below [.cells j.va 61, .cells t.vs.toArray 38, .cells zTv.toArray 38] w
  have SZ := allocs_size [.cells j.va 61, .cells t.vs.toArray 38, .cells zTv.toArray 38] w
  simp only [List.foldl, List.length] at H B0 SZ
  have bJ : Blk _ w.heap.size j.vs 61 := H 0 (by simp)
  have bT : Blk _ (w.heap.size + 1) t.vs 38 := H 1 (by simp)
  have bZ : Blk _ (w.heap.size + 2) zTv 38 := H 2 (by simp)
  clear H
  have hR := Raise_ret D j.n j.g t a _ (hn.kept B0) (hg.kept B0) (ht.kept B0)
  have a0 := bJ.cell 0 (v := .slice j.n.ao j.n.len j.n.cap) rfl
  have a1 := bJ.cell 1 (v := .slice j.g.ao j.g.len j.g.cap) rfl
  clear hn hg ht bJ
  unfold zTv at hR B0 bT bZ a0 a1 SZ
  have HZ := hid SZ
  clear SZ
  go_enter Tryz.func68, Tryz.ntmps68
  go_wp2_with (refine wpList_load_mid rfl 38 (.tmp 4) rfl (w.heap.size + 1) 0 rfl t.vs _ bT.range Tryz.underlying38 rfl (by kernel_rfl) ?_)
  refine hR.mono ?_
  rintro _ w1 ⟨u, rfl, uA, uB, uS, hb1⟩
  have bZ1 := bZ.kept hb1
  have B1 := Below.next B0 hb1
  have HU : Hid (u.At w1 ∧ u.same (raiseT j.n j.g t a) = true ∧ u.Blk (fun b => b < D ∨ w.heap.size + 3 ≤ b)) := ⟨uA, uS, by rw [HZ.out] at uB; exact uB⟩
  clear hR uA uS uB hb1 B0 bZ bT a0 a1 HZ
  go_wp2_with (refine wpList_store_blk rfl rfl 38 (.tmp 6) (.tmp 11) rfl (w.heap.size + 2) u.vs (by kernel_rfl) (by kernel_rfl) u.vs_one bZ1 rfl (by kernel_rfl) ?_; intro w2 W2)
  have z0 := W2.blk.cell 0 (v := .int .i64 u.k) rfl
  have z1 := W2.blk.cell 1 (v := .int .i64 u.l) rfl
  have z2 := W2.blk.cell 2 (v := .slice u.ao u.len u.cap) rfl
  have z3 := W2.blk.cell 3 (v := .int .i64 u.h) rfl
  have z4 := W2.blk.cell 4 (v := .int .i64 u.e) rfl
  exact bodyPost_ret (v := .agg u.vs.toArray) (by simp [results, Tryz.results68, go_sem, z0, z1, z2, z3, z4, Ty.vs]) rfl ⟨u, rfl, HU.out.1.wrote HU.out.2.2 W2 (by omega) (by omega), HU.out.2.2.mono (fun b h => by omega), HU.out.2.1, W2.below (by omega) B1⟩
end Go.Proofs.YtbdhbgilaeldgaaGreat

/- Layer 10: a slot read. -/
namespace Go.Proofs.YtbdhbgilaeldgaaGreat
open Go Go.RowKit

theorem C5.row {w : World} {b o : Nat} {t : Ty} (h : C5 w b o t) : w.rangeAt b o t.vs := fun j v hv => by
  match j, hv with
  | 0, hv => rw [← Option.some.inj hv]; exact h.c0
  | 1, hv => rw [← Option.some.inj hv]; exact h.c1
  | 2, hv => rw [← Option.some.inj hv]; exact h.c2
  | 3, hv => rw [← Option.some.inj hv]; exact h.c3
  | 4, hv => rw [← Option.some.inj hv]; exact h.c4
  | _ + 5, hv => simp [Ty.vs] at hv
theorem quiet_load_row {C : World → Prop} {K : Act → Prop} {a : Act} {o : Oper} (ty : TypeId) (x : Operand) (ho : o.op = .load ty x) (b oo : Nat) (hx : a.eval x = .pointer (some ⟨b, oo, none⟩)) (cs : List Value) (d : TypeDesc) (hc : ∀ w, C w → w.rangeAt b oo cs)
    (hu : Tryz.prog.underlying ty = some d) (hd : d.isRow = true) (hi : (Tryz.prog.info? ty).map (·.size) = some cs.length) (h : K (a.put o.dst (.agg cs.toArray))) : o.quiet Tryz.prog a C K := by
  refine ⟨.agg cs.toArray, fun w hC => ?_, h⟩
  unfold Oper.quietAt execOp
  simp only [ho, hx, Sem.run_bind, run_loadAt_mid w b oo ty cs d (hc w hC) hu hd hi, Result.andThen_ok, Sem.run_pure]
  exact ⟨rfl, rfl⟩

set_option maxRecDepth 100000 in
set_option maxHeartbeats 4000000 in
theorem read_any (D : Nat) (j : Jd) (nd : Nd) (i : Int) (w : World) (hj : j.At w) (hD : D ≤ w.heap.size) (h0 : 0 ≤ i) (h1 : i < j.f.slots.len) : Calls Tryz.prog 96 #[.agg j.va, .agg nd.va, .int .i64 i] w (TyRet D (j.read nd i) w) := by
  obtain ⟨k, rfl⟩ : ∃ k : Nat, i = k := ⟨i.toNat, by omega⟩
  have hk : k < j.f.slots.len := by omega
  have H := allocs_heap [.cells j.va 61, .cells nd.va 44, .cells zTv.toArray 38] w
  have B0 := allocs_below [.cells j.va 61, .cells nd.va 44, .cells zTv.toArray 38] w
  have SZ := allocs_size [.cells j.va 61, .cells nd.va 44, .cells zTv.toArray 38] w
  simp only [List.foldl, List.length] at H B0 SZ
  have bJ : Blk _ w.heap.size j.vs 61 := H 0 (by simp)
  have bN : Blk _ (w.heap.size + 1) nd.vs 44 := H 1 (by simp)
  have bZ : Blk _ (w.heap.size + 2) zTv 38 := H 2 (by simp)
  have hj1 := hj.kept B0
  clear H
  unfold zTv at hj1 B0 bJ bN bZ SZ
  go_enter Tryz.func96, Tryz.ntmps96
  go_upto_region 1 with fail
  generalize (((w.alloc (.cells j.va 61)).alloc (.cells nd.va 44)).alloc (.cells #[.int .i64 0, .int .i64 0, .slice none 0 0, .int .i64 0, .int .i64 0] 38)) = w1 at *
  have HI : Hid (j.At w1 ∧ Below w.heap.size w w1 ∧ Blk w1 (w.heap.size + 2) [.int .i64 0, .int .i64 0, .slice none 0 0, .int .i64 0, .int .i64 0] 38 ∧ w1.heap.size = w.heap.size + 3) := ⟨hj1, B0, bZ, SZ⟩
  have hao := hj1.f.slots.nil (by omega)
  have c17 := bJ.cell 17 (v := .slice j.f.slots.ao j.f.slots.len j.f.slots.cap) rfl
  have c5 := bN.cell 5 (v := .int .i64 nd.h.env) rfl
  have hC0 : ∀ u, (∃ x : Gr w1, u = x.w) → u.rangeAt w.heap.size 0 j.vs := by rintro _ ⟨x, rfl⟩; exact (bJ.kept x.bl).range
  have hC1 : ∀ u, (∃ x : Gr w1, u = x.w) → u.rangeAt j.f.slots.b (j.f.slots.o + k * 5) (j.f.slots.ps k).vs := by rintro _ ⟨x, rfl⟩; exact C5.row ((hj1.f.slots.kept x.bl).cells hk)
  rw [hao] at c17
  have p17 := fun x => Gr.cell x c17
  have p5 := fun x => Gr.cell x c5
  have hNE : Nonempty (Gr w1) := ⟨⟨_, Below.refl _ _⟩⟩
  have hk' : (k : Int) < j.f.slots.len := h1
  clear SZ hj1 B0 bJ bN bZ c17 c5 hj hao
  refine wp_region_gr_tail 9 (by kernel_rfl) (by kernel_rfl) ?_
  simp only [List.take, List.drop]
  go_big_quiet_want
  refine quiet_load_row 61 (.tmp 3) rfl _ 0 (by kernel_rfl) j.vs _ hC0 Tryz.underlying61 rfl (by kernel_rfl) ?_
  simp only [Act.put, List.setIfInBounds_toArray, List.set_cons_succ, List.set_cons_zero]
  go_big_quiet_on
  iterate 5 go_big_quiet_step (fail)
  go_big_quiet_want
  refine quiet_load_row 38 (.tmp 12) rfl j.f.slots.b (j.f.slots.o + k * 5) (by kernel_rfl) (j.f.slots.ps k).vs _ hC1 Tryz.underlying38 rfl (by kernel_rfl) ?_
  simp only [Act.put, List.setIfInBounds_toArray, List.set_cons_succ, List.set_cons_zero]
  go_big_quiet_on
  iterate 2 go_big_quiet_step (fail)
  refine wpQuiet_nil ?_
  rintro w4 ⟨x4, rfl⟩
  have B5 := x4.bl
  generalize x4.w = w4 at B5 ⊢
  have hR := jraise_any D j (j.f.slots.ps k) nd.h.env w4 (HI.out.1.n.kept B5) (HI.out.1.g.kept B5) ((HI.out.1.f.slots.kept B5).part hk) (by have h1 := HI.out.2.1.size; have h2 := B5.size; omega)
  clear x4 p17 p5 hNE hC0 hC1
  go_wp2_with fail
  refine hR.mono ?_
  rintro _ w5 ⟨u, rfl, uA, uB, uS, hb1⟩
  have HU : Hid (u.At w5 ∧ u.same (j.read nd k) = true ∧ u.Blk (fun b => b < D ∨ w.heap.size + 3 ≤ b) ∧ Below w.heap.size w w5) := ⟨uA, uS, uB.mono (fun b h => by have h1 := HI.out.2.2.2; have h2 := B5.size; omega), Below.next (Below.next HI.out.2.1 B5) hb1⟩
  have bZ1 := (HI.out.2.2.1.kept B5).kept hb1
  clear hR uA uS uB hb1 B5 HI
  go_wp2_with (refine wpList_store_blk rfl rfl 38 (.tmp 6) (.tmp 16) rfl (w.heap.size + 2) u.vs (by kernel_rfl) (by kernel_rfl) u.vs_one bZ1 rfl (by kernel_rfl) ?_; intro w2 W2)
  have z0 := W2.blk.cell 0 (v := .int .i64 u.k) rfl
  have z1 := W2.blk.cell 1 (v := .int .i64 u.l) rfl
  have z2 := W2.blk.cell 2 (v := .slice u.ao u.len u.cap) rfl
  have z3 := W2.blk.cell 3 (v := .int .i64 u.h) rfl
  have z4 := W2.blk.cell 4 (v := .int .i64 u.e) rfl
  exact bodyPost_ret (v := .agg u.vs.toArray) (by simp [results, Tryz.results96, go_sem, z0, z1, z2, z3, z4, Ty.vs]) rfl ⟨u, rfl, HU.out.1.wrote HU.out.2.2.1 W2 (by omega) (by omega), HU.out.2.2.1.mono (fun b h => by omega), HU.out.2.1, W2.below (by omega) HU.out.2.2.2⟩
end Go.Proofs.YtbdhbgilaeldgaaGreat

/- A region that draws its order: all that only reads or moves comes first, wherever it stands; what is left is one behind the other. -/
namespace Go.Proofs.YtbdhbgilaeldgaaGreat
open Go Go.RowKit

section
variable {P : Program} {ops : Array Oper} {Q : Exit → Act → World → Prop}
def isReadM (o : Oper) : Bool := match o.op with
  | .load .. | .fieldAddr .. | .indexAddr .. | .extract .. | .move .. => true
  | _ => false
theorem readM_value {o : Oper} (h : isReadM o = true) (ρ : Operand → Value) (w w' : World) (n : Next) (hr : (execOp ρ o).run P w = .ok n w') : ∃ u, n = .value u := by
  cases ho : o.op
  case load => unfold execOp at hr; rw [ho] at hr; exact run_val hr
  case fieldAddr => unfold execOp at hr; rw [ho] at hr; exact run_val hr
  case indexAddr => unfold execOp at hr; rw [ho] at hr; exact run_val hr
  case extract => unfold execOp at hr; rw [ho] at hr; exact run_val hr
  case move => unfold execOp at hr; rw [ho] at hr; exact ⟨_, (Result.ok.inj hr).1.symm⟩
  all_goals (unfold isReadM at h; rw [ho] at h; cases h)
theorem yieldsIf_of_quietM {S : World → Prop} {o : Oper} {a : Act} {K : Act → Prop} (hr : isReadM o = true) (h : if Region.wanted o (yielded ops a.tmps) then o.quiet P a S K else K (a.put o.dst undef)) : ∃ v, YieldsIf P ops S o v a ∧ K (a.put o.dst v) := by
  by_cases hw : Region.wanted o (yielded ops a.tmps) = true
  · rw [if_pos hw] at h
    obtain ⟨v, h1, h2⟩ := h
    refine ⟨v, Or.inl ⟨hw, fun w hS => ?_⟩, h2⟩
    have h3 := h1 w hS
    unfold Oper.quietAt at h3
    cases hq : (execOp a.eval o).run P w with
    | ok n w' =>
      obtain ⟨u, rfl⟩ := readM_value hr _ _ _ _ hq
      rw [hq] at h3
      simp only [Oper.quietUpon] at h3
      rw [h3.1, h3.2]
    | halt x w' => rw [hq] at h3; simp only [Oper.quietUpon] at h3
  · rw [if_neg hw] at h
    exact ⟨undef, Or.inr ⟨by simpa using hw, rfl⟩, h⟩
def lexM (ops : Array Oper) : List Nat → List Oper → Array Bool → Bool
  | [], [], _ => true
  | i :: js, o :: l, listed => isReadM o && (Region.ready .any ops listed).contains i && Region.free .any ops listed i && lexM ops js l (listed.setIfInBounds i true)
  | _, _, _ => false
theorem wpAnyH_readsM {S : World → Prop} {K : Act → Prop} {rest : Nat} {w : World} (hs : Region.noSelect ops = true) (hQ : ∀ c a d v w, Q (.panic c) (Act.put a d v) w → Q (.panic c) a w) (hS : S w) : ∀ (js : List Nat) (l : List Oper) (listed : Array Bool) (a : Act), (∀ j, j < l.length → ∃ i, js[j]? = some i ∧ ops[i]? = l[j]?) →
    lexM ops js l listed = true → wpQuiet P ops S K l a → (∀ a', K a' → wpAnyH P .any ops Q S rest (listedI js listed) a' w) → wpAnyH P .any ops Q S (js.length + rest) listed a w
  | [], [], _, _, _, _, h, hK => by simpa [listedI] using hK _ h
  | [], _ :: _, _, _, _, hB, _, _ => by simp [lexM] at hB
  | _ :: _, [], _, _, _, hB, _, _ => by simp [lexM] at hB
  | i :: js, o :: l, listed, a, hl, hB, h, hK => by
    have h0 : ops[i]? = some o := by
      obtain ⟨i', h1, h2⟩ := hl 0 (by simp)
      have : i = i' := by simpa using h1
      subst this
      simpa using h2
    simp only [lexM, Bool.and_eq_true] at hB
    obtain ⟨⟨⟨hr, hc⟩, hf⟩, hB'⟩ := hB
    have h' : if Region.wanted o (yielded ops a.tmps) then o.quiet P a S (wpQuiet P ops S K l) else wpQuiet P ops S K l (a.put o.dst undef) := h
    obtain ⟨v, hy, hk⟩ := yieldsIf_of_quietM (ops := ops) hr h'
    rw [show (i :: js).length + rest = (js.length + rest) + 1 by simp; omega]
    exact wpAnyH_take h0 hs hf hc (fun c a w => hQ c a _ _ w) hy hS (wpAnyH_readsM hs hQ hS js l _ _ (fun j hj => by
      obtain ⟨i', h1, h2⟩ := hl (j + 1) (by simp; omega)
      exact ⟨i', by simpa using h1, by simpa using h2⟩) hB' hk hK)
/-- A region that draws: first all that only reads. -/
theorem wp_region_readsM {id : Nat} {a : Act} {w : World} {l : List Oper} (S : World → Prop) (js : List Nat) (rest : Nat) (hm : P.follows .mixedOrders = true) (hlen : l.length = js.length + rest) (hB : (Region.noSelect l.toArray && lexM l.toArray js (js.filterMap (l[·]?)) (Array.replicate l.length false)) = true) (hj : ∀ j, j < (js.filterMap (l[·]?)).length → ∃ i, js[j]? = some i ∧ l.toArray[i]? = (js.filterMap (l[·]?))[j]?)
    (hQ : ∀ c a d v w, Q (.panic c) (Act.put a d v) w → Q (.panic c) a w) (hS : S w.drew)
    (h : wpQuiet P l.toArray (fun u => ∃ x : Wd S, u = x.w) (fun a' => wpAnyH P .any l.toArray Q S rest (listedI js (Array.replicate l.length false)) a' w.drew) (js.filterMap (l[·]?)) a) : (Code.region id l.toArray true).wp P Q a w := by
  simp only [Bool.and_eq_true] at hB
  refine wp_region_held_drew (S := S) hm hS fun hS => ?_
  have e3 : Array.replicate l.toArray.size false = Array.replicate l.length false := by simp
  have e2 : l.toArray.size = js.length + rest := by simpa using hlen
  have eS : (fun u : World => ∃ x : Wd S, u = x.w) = S := by
    funext u; apply propext
    exact ⟨fun ⟨x, hx⟩ => hx ▸ x.2, fun h => ⟨⟨u, h⟩, rfl⟩⟩
  rw [eS] at h
  rw [e3, e2]
  exact wpAnyH_readsM hB.1 hQ hS js _ _ a hj hB.2 h (fun a' h => h)
end
/-- The same where nothing panics. -/
def NoPanM (Q : Exit → Act → World → Prop) (e : Exit) (a : Act) (w : World) : Prop := (∀ c, e ≠ .panic c) ∧ Q e a w
theorem wp_region_readsMN {P : Program} {Q : Exit → Act → World → Prop} {id : Nat} {a : Act} {w : World} {l : List Oper} (S : World → Prop) (js : List Nat) (rest : Nat) (hm : P.follows .mixedOrders = true) (hlen : l.length = js.length + rest) (hB : (Region.noSelect l.toArray && lexM l.toArray js (js.filterMap (l[·]?)) (Array.replicate l.length false)) = true) (hj : ∀ j, j < (js.filterMap (l[·]?)).length → ∃ i, js[j]? = some i ∧ l.toArray[i]? = (js.filterMap (l[·]?))[j]?)
    (hS : S w.drew)
    (h : wpQuiet P l.toArray (fun u => ∃ x : Wd S, u = x.w) (fun a' => wpAnyH P .any l.toArray (NoPanM Q) S rest (listedI js (Array.replicate l.length false)) a' w.drew) (js.filterMap (l[·]?)) a) : (Code.region id l.toArray true).wp P Q a w :=
  Code.wp_mono (fun _ _ _ h => h.2) (wp_region_readsM S js rest hm hlen hB hj (fun c _ _ _ _ h => absurd rfl (h.1 c)) hS h)
end Go.Proofs.YtbdhbgilaeldgaaGreat

/- A region that draws its order: 'x, y := f(..), g(..)', two types answered, each into a new variable, the variables being made at any time. -/
namespace Go.Proofs.YtbdhbgilaeldgaaGreat
open Go Go.RowKit

def putO (a : Act) (d : Nat) (o : Option Value) : Act := match o with | none => a | some v => a.put (some d) v
theorem put_comm (a : Act) {c d : Nat} (h : c ≠ d) (v v' : Value) : (a.put (some c) v).put (some d) v' = (a.put (some d) v').put (some c) v := by
  show ({ a with tmps := (a.tmps.setIfInBounds c v).setIfInBounds d v' } : Act) = { a with tmps := (a.tmps.setIfInBounds d v').setIfInBounds c v }
  rw [Array.setIfInBounds_comm _ _ h]
theorem putO_put (a : Act) {c d : Nat} (h : c ≠ d) (o : Option Value) (v : Value) : (putO a c o).put (some d) v = putO (a.put (some d) v) c o := by
  cases o with
  | none => rfl
  | some u => exact put_comm a h u v
def tyA (t : Ty) : Value := .agg t.vs.toArray
def ptA (B : Nat) : Value := .pointer (some ⟨B, 0, none⟩)
def actS (d1 d2 e1 e2 : Nat) (a : Act) (o1 o2 : Option Ty) (q1 q2 : Option Nat) : Act := putO (putO (putO (putO a d1 (o1.map tyA)) d2 (o2.map tyA)) e1 (q1.map ptA)) e2 (q2.map ptA)
structure Apart (d1 d2 e1 e2 : Nat) : Prop where
  h12 : d2 ≠ d1
  h1e : e1 ≠ d1
  h1f : e2 ≠ d1
  h2e : e1 ≠ d2
  h2f : e2 ≠ d2
  hef : e2 ≠ e1
variable {d1 d2 e1 e2 : Nat}
theorem actS_d1 (A : Apart d1 d2 e1 e2) (a : Act) (o2 : Option Ty) (q1 q2 : Option Nat) (t : Ty) : (actS d1 d2 e1 e2 a none o2 q1 q2).put (some d1) (tyA t) = actS d1 d2 e1 e2 a (some t) o2 q1 q2 := by
  unfold actS
  rw [putO_put _ A.h1f, putO_put _ A.h1e, putO_put _ A.h12]
  rfl
theorem actS_d2 (A : Apart d1 d2 e1 e2) (a : Act) (o1 : Option Ty) (q1 q2 : Option Nat) (t : Ty) : (actS d1 d2 e1 e2 a o1 none q1 q2).put (some d2) (tyA t) = actS d1 d2 e1 e2 a o1 (some t) q1 q2 := by
  unfold actS
  rw [putO_put _ A.h2f, putO_put _ A.h2e]
  rfl
theorem actS_e1 (A : Apart d1 d2 e1 e2) (a : Act) (o1 o2 : Option Ty) (q2 : Option Nat) (B : Nat) : (actS d1 d2 e1 e2 a o1 o2 none q2).put (some e1) (ptA B) = actS d1 d2 e1 e2 a o1 o2 (some B) q2 := by
  unfold actS
  rw [putO_put _ A.hef]
  rfl
theorem actS_e2 (a : Act) (o1 o2 : Option Ty) (q1 : Option Nat) (B : Nat) : (actS d1 d2 e1 e2 a o1 o2 q1 none).put (some e2) (ptA B) = actS d1 d2 e1 e2 a o1 o2 q1 (some B) := rfl

/-- What is known while the region runs. -/
def Av (D : Nat) (w0 : World) (q1 q2 : Option Nat) (b : Nat) : Prop := (b < D ∨ w0.heap.size ≤ b) ∧ q1 ≠ some b ∧ q2 ≠ some b
structure Sx (D : Nat) (w0 : World) (r1 r2 : Ty) (u : World) (o1 o2 : Option Ty) (q1 q2 : Option Nat) : Prop where
  bl : Below w0.heap.size w0 u
  t1 : ∀ t, o1 = some t → t.At u ∧ t.same r1 = true ∧ t.Blk (Av D w0 q1 q2)
  t2 : ∀ t, o2 = some t → t.At u ∧ t.same r2 = true ∧ t.Blk (Av D w0 q1 q2)
  b1 : ∀ B, q1 = some B → w0.heap.size ≤ B ∧ Blk u B zTv 38
  b2 : ∀ B, q2 = some B → w0.heap.size ≤ B ∧ Blk u B zTv 38
  ne : ∀ B, q1 = some B → q2 ≠ some B
variable {D : Nat} {w0 : World} {r1 r2 : Ty} {u u' : World} {o1 o2 : Option Ty} {q1 q2 : Option Nat}
theorem Sx.grow (h : Sx D w0 r1 r2 u o1 o2 q1 q2) (hb : Below u.heap.size u u') : Sx D w0 r1 r2 u' o1 o2 q1 q2 :=
  ⟨Below.next h.bl hb, fun t e => ⟨(h.t1 t e).1.kept hb, (h.t1 t e).2⟩, fun t e => ⟨(h.t2 t e).1.kept hb, (h.t2 t e).2⟩, fun B e => ⟨(h.b1 B e).1, (h.b1 B e).2.kept hb⟩, fun B e => ⟨(h.b2 B e).1, (h.b2 B e).2.kept hb⟩, h.ne⟩
theorem Sx.newT (h : Sx D w0 r1 r2 u o1 o2 q1 q2) (hD : D ≤ w0.heap.size) {t : Ty} (hk : t.Blk (fun b => b < D ∨ u.heap.size ≤ b)) : t.Blk (Av D w0 q1 q2) :=
  hk.mono fun b hb => ⟨by have := h.bl.size; omega, fun e => by have h1 := h.b1 b e; have h2 := h1.2.lt; omega, fun e => by have h1 := h.b2 b e; have h2 := h1.2.lt; omega⟩
theorem Sx.call1 (h : Sx D w0 r1 r2 u none o2 q1 q2) (hD : D ≤ w0.heap.size) (hb : Below u.heap.size u u') {t : Ty} (ht : t.At u') (hk : t.Blk (fun b => b < D ∨ u.heap.size ≤ b)) (hs : t.same r1 = true) : Sx D w0 r1 r2 u' (some t) o2 q1 q2 :=
  { h.grow hb with t1 := fun t' e => by cases e; exact ⟨ht, hs, h.newT hD hk⟩ }
theorem Sx.call2 (h : Sx D w0 r1 r2 u o1 none q1 q2) (hD : D ≤ w0.heap.size) (hb : Below u.heap.size u u') {t : Ty} (ht : t.At u') (hk : t.Blk (fun b => b < D ∨ u.heap.size ≤ b)) (hs : t.same r2 = true) : Sx D w0 r1 r2 u' o1 (some t) q1 q2 :=
  { h.grow hb with t2 := fun t' e => by cases e; exact ⟨ht, hs, h.newT hD hk⟩ }
theorem Sx.alloc1 (h : Sx D w0 r1 r2 u o1 o2 none q2) : Sx D w0 r1 r2 (u.alloc (.cells zTv.toArray 38)) o1 o2 (some u.heap.size) q2 := by
  have hb := below_alloc u (.cells zTv.toArray 38)
  have k := h.grow hb
  refine { k with t1 := fun t e => ⟨(k.t1 t e).1, (k.t1 t e).2.1, ?_⟩, t2 := fun t e => ⟨(k.t2 t e).1, (k.t2 t e).2.1, ?_⟩, b1 := fun B e => by cases e; exact ⟨h.bl.size, Blk.new u _ _⟩, ne := fun B e e2 => by cases e; have := (h.b2 _ e2).2.lt; omega }
  · exact ((h.t1 t e).2.2.and (h.t1 t e).1.lt).mono fun b hb => ⟨hb.1.1, fun e => by cases e; exact Nat.lt_irrefl _ hb.2, hb.1.2.2⟩
  · exact ((h.t2 t e).2.2.and (h.t2 t e).1.lt).mono fun b hb => ⟨hb.1.1, fun e => by cases e; exact Nat.lt_irrefl _ hb.2, hb.1.2.2⟩
theorem Sx.alloc2 (h : Sx D w0 r1 r2 u o1 o2 q1 none) : Sx D w0 r1 r2 (u.alloc (.cells zTv.toArray 38)) o1 o2 q1 (some u.heap.size) := by
  have hb := below_alloc u (.cells zTv.toArray 38)
  have k := h.grow hb
  refine { k with t1 := fun t e => ⟨(k.t1 t e).1, (k.t1 t e).2.1, ?_⟩, t2 := fun t e => ⟨(k.t2 t e).1, (k.t2 t e).2.1, ?_⟩, b2 := fun B e => by cases e; exact ⟨h.bl.size, Blk.new u _ _⟩, ne := fun B e e2 => by cases e2; have := (h.b1 _ e).2.lt; omega }
  · exact ((h.t1 t e).2.2.and (h.t1 t e).1.lt).mono fun b hb => ⟨hb.1.1, hb.1.2.1, fun e => by cases e; exact Nat.lt_irrefl _ hb.2⟩
  · exact ((h.t2 t e).2.2.and (h.t2 t e).1.lt).mono fun b hb => ⟨hb.1.1, hb.1.2.1, fun e => by cases e; exact Nat.lt_irrefl _ hb.2⟩
/-- What is known behind it. -/
structure Sy (D : Nat) (w0 : World) (r1 r2 : Ty) (u : World) (t1 t2 : Ty) (B1 B2 : Nat) : Prop where
  bl : Below w0.heap.size w0 u
  a1 : t1.At u
  a2 : t2.At u
  s1 : t1.same r1 = true
  s2 : t2.same r2 = true
  k1 : t1.Blk (Av D w0 (some B1) (some B2))
  k2 : t2.Blk (Av D w0 (some B1) (some B2))
  n1 : w0.heap.size ≤ B1
  n2 : w0.heap.size ≤ B2
  b1 : Blk u B1 t1.vs 38
  b2 : Blk u B2 t2.vs 38
  ne : B1 ≠ B2
theorem alloc_ty (w : World) : (Instr.alloc 38 true (.tuple #[])).run Tryz.prog w = .ok (.pointer (some ⟨w.heap.size, 0, none⟩)) (w.alloc (.cells zTv.toArray 38)) := by
  have hz : (Tryz.prog.info? 38).map (·.zero) = some (some (.agg zTv.toArray)) := by kernel_rfl
  cases hq : Tryz.prog.info? 38 with
  | none => rw [hq] at hz; simp at hz
  | some i =>
    rw [hq] at hz
    simp at hz
    simp [Instr.alloc, newVar, newRow, zeroValue, typeInfo, hq, hz, Value.cells, zTv]

/-- The six last operations, at 4, 9, 10, 11, 12, 13. -/
structure Six (ops : Array Oper) (L : Bool → Bool → Bool → Bool → Bool → Bool → Array Bool) (f : FuncId) (d1 d2 e1 e2 : Nat) : Prop where
  ap : Apart d1 d2 e1 e2
  h4 : ∃ o, ops[4]? = some o ∧ o.guard = none ∧ o.dst = some d1
  h9 : ∃ o, ops[9]? = some o ∧ o.guard = none ∧ o.dst = some d2
  h10 : ∃ o, ops[10]? = some o ∧ o.guard = none ∧ o.dst = some e1 ∧ o.op = .alloc 38
  h11 : ∃ o, ops[11]? = some o ∧ o.guard = none ∧ o.dst = some e2 ∧ o.op = .alloc 38
  h12 : ∃ o, ops[12]? = some o ∧ o.guard = none ∧ o.dst = none ∧ o.op = .store 38 (.tmp e1) (.tmp d1)
  h13 : ∃ o, ops[13]? = some o ∧ o.guard = none ∧ o.dst = none ∧ o.op = .store 38 (.tmp e2) (.tmp d2)
  lset : ∀ a b c d e g, (L a b c d e g).setIfInBounds 4 true = L true b c d e g ∧ (L a b c d e g).setIfInBounds 9 true = L a true c d e g ∧ (L a b c d e g).setIfInBounds 10 true = L a b true d e g ∧ (L a b c d e g).setIfInBounds 11 true = L a b c true e g ∧ (L a b c d e g).setIfInBounds 12 true = L a b c d true g ∧ (L a b c d e g).setIfInBounds 13 true = L a b c d e true
  r0000 : Region.ready .any ops (L false false false false false false) = [4, 10, 11]
  r0010 : Region.ready .any ops (L false false true false false false) = [4, 11]
  r0001 : Region.ready .any ops (L false false false true false false) = [4, 10]
  r0011 : Region.ready .any ops (L false false true true false false) = [4]
  r1000 : Region.ready .any ops (L true false false false false false) = [9, 10, 11]
  r1010 : Region.ready .any ops (L true false true false false false) = [9, 11]
  r1001 : Region.ready .any ops (L true false false true false false) = [9, 10]
  r1011 : Region.ready .any ops (L true false true true false false) = [9]
  r1100 : Region.ready .any ops (L true true false false false false) = [10, 11]
  r1110 : Region.ready .any ops (L true true true false false false) = [11]
  r1101 : Region.ready .any ops (L true true false true false false) = [10]
  r1111 : Region.ready .any ops (L true true true true false false) = [12]
  rs : Region.ready .any ops (L true true true true true false) = [13]
  re : Region.ready .any ops (L true true true true true true) = []
end Go.Proofs.YtbdhbgilaeldgaaGreat

/- The region 'x, y := f(..), g(..)' walked. -/
namespace Go.Proofs.YtbdhbgilaeldgaaGreat
open Go Go.RowKit

set_option maxHeartbeats 2000000 in
theorem wpAnyH_six {ops : Array Oper} {Q : Exit → Act → World → Prop} {L : Bool → Bool → Bool → Bool → Bool → Bool → Array Bool} {ff : FuncId} {d1 d2 e1 e2 : Nat} (T : Six ops L ff d1 d2 e1 e2) {D : Nat} {w0 : World} {r1 r2 : Ty} (hD : D ≤ w0.heap.size) (a : Act) (args1 args2 : Array Value) (f1 f2 : FuncId)
    (hc1 : ∀ o2 q1 q2 o u, ops[4]? = some o → (execOp (actS d1 d2 e1 e2 a none o2 q1 q2).eval o).run Tryz.prog u = .ok (.enter f1 args1) u)
    (hc2 : ∀ o1 q1 q2 o u, ops[9]? = some o → (execOp (actS d1 d2 e1 e2 a o1 none q1 q2).eval o).run Tryz.prog u = .ok (.enter f2 args2) u)
    (hcall1 : ∀ u, Below w0.heap.size w0 u → Calls Tryz.prog f1 args1 u (TyRet D r1 u)) (hcall2 : ∀ u, Below w0.heap.size w0 u → Calls Tryz.prog f2 args2 u (TyRet D r2 u))
    (hev : ∀ t1 t2 B1 B2, (actS d1 d2 e1 e2 a (some t1) (some t2) (some B1) (some B2)).eval (.tmp e1) = ptA B1 ∧ (actS d1 d2 e1 e2 a (some t1) (some t2) (some B1) (some B2)).eval (.tmp d1) = tyA t1 ∧ (actS d1 d2 e1 e2 a (some t1) (some t2) (some B1) (some B2)).eval (.tmp e2) = ptA B2 ∧ (actS d1 d2 e1 e2 a (some t1) (some t2) (some B1) (some B2)).eval (.tmp d2) = tyA t2)
    (hQ : ∀ t1 t2 B1 B2 u, Sy D w0 r1 r2 u t1 t2 B1 B2 → Q .normal (actS d1 d2 e1 e2 a (some t1) (some t2) (some B1) (some B2)) u)
    (w : World) (hw : Below w0.heap.size w0 w) : wpAnyH Tryz.prog .any ops Q (fun u => Below w0.heap.size w0 u) 6 (L false false false false false false) a w := by
  obtain ⟨c1, hc1o, hc1g, hc1d⟩ := T.h4
  obtain ⟨c2, hc2o, hc2g, hc2d⟩ := T.h9
  obtain ⟨x1, hx1o, hx1g, hx1d, hx1p⟩ := T.h10
  obtain ⟨x2, hx2o, hx2g, hx2d, hx2p⟩ := T.h11
  obtain ⟨s1, hs1o, hs1g, hs1d, hs1p⟩ := T.h12
  obtain ⟨s2, hs2o, hs2g, hs2d, hs2p⟩ := T.h13
  have hi : (Tryz.prog.info? 38).map (·.size) = some 5 := by kernel_rfl
  -- the stores
  have fin : ∀ t1 t2 B1 B2 u, Sx D w0 r1 r2 u (some t1) (some t2) (some B1) (some B2) → wpAnyH Tryz.prog .any ops Q (fun u => Below w0.heap.size w0 u) 2 (L true true true true false false) (actS d1 d2 e1 e2 a (some t1) (some t2) (some B1) (some B2)) u := by
    intro t1 t2 B1 B2 u h
    obtain ⟨v1, v2, v3, v4⟩ := hev t1 t2 B1 B2
    have b1 := h.b1 B1 rfl
    have b2 := h.b2 B2 rfl
    have g1 := h.t1 t1 rfl
    have g2 := h.t2 t2 rfl
    have ne : B1 ≠ B2 := fun e => h.ne B1 rfl (by rw [e])
    refine wpAnyH_ready T.r1111 (by simp) ?_
    refine AllReadyH.cons hs1o (fun K hK => ?_) AllReadyH.nil
    rw [if_pos (if_wanted hs1g)]
    refine wp_store_blk (P := Tryz.prog) 38 (.tmp e1) (.tmp d1) hs1p hs1d B1 t1.vs zTv v1 v2 t1.vs_one b1.2 rfl (by rw [hi]; rfl) ?_
    have W1 := wrote_setCells b1.2 t1.vs rfl
    generalize u.setCells B1 0 t1.vs = u1 at W1 ⊢
    have bl1 : Below w0.heap.size w0 u1 := W1.below b1.1 h.bl
    have k1 : t1.At u1 := Ty.At.agree (Q := Av D w0 (some B1) (some B2)) (fun b hb => W1.other b (fun e => hb.2.1 (by rw [e]))) g1.1 g1.2.2
    have k2 : t2.At u1 := Ty.At.agree (Q := Av D w0 (some B1) (some B2)) (fun b hb => W1.other b (fun e => hb.2.1 (by rw [e]))) g2.1 g2.2.2
    have z2 := W1.keep b2.2 (fun e => ne e.symm)
    refine hK.out _ _ bl1 fun _ => ?_
    rw [(T.lset _ _ _ _ _ _).2.2.2.2.1]
    refine wpAnyH_ready T.rs (by simp) ?_
    refine AllReadyH.cons hs2o (fun K2 hK2 => ?_) AllReadyH.nil
    rw [if_pos (if_wanted hs2g)]
    refine wp_store_blk (P := Tryz.prog) 38 (.tmp e2) (.tmp d2) hs2p hs2d B2 t2.vs zTv v3 v4 t2.vs_one z2 rfl (by rw [hi]; rfl) ?_
    have W2 := wrote_setCells z2 t2.vs rfl
    generalize u1.setCells B2 0 t2.vs = u2 at W2 ⊢
    have bl2 : Below w0.heap.size w0 u2 := W2.below b2.1 bl1
    refine hK2.out _ _ bl2 fun _ => ?_
    rw [(T.lset _ _ _ _ _ _).2.2.2.2.2]
    refine wpAnyH_done T.re ?_ _
    exact hQ t1 t2 B1 B2 u2 ⟨bl2, Ty.At.agree (Q := Av D w0 (some B1) (some B2)) (fun b hb => W2.other b (fun e => hb.2.2 (by rw [e]))) k1 g1.2.2, Ty.At.agree (Q := Av D w0 (some B1) (some B2)) (fun b hb => W2.other b (fun e => hb.2.2 (by rw [e]))) k2 g2.2.2, g1.2.1, g2.2.1, g1.2.2, g2.2.2, b1.1, b2.1, W2.keep W1.blk ne, W2.blk, ne⟩
  -- the variables
  have al1 : ∀ (n : Nat) (p1 p2 p4 : Bool) o1 o2 q2 u K, Sx D w0 r1 r2 u o1 o2 none q2 → Hid (∀ a' w', (fun u => Below w0.heap.size w0 u) w' → ((fun u => Below w0.heap.size w0 u) w' → wpAnyH Tryz.prog .any ops Q (fun u => Below w0.heap.size w0 u) n ((L p1 p2 false p4 false false).setIfInBounds 10 true) a' w') → K a' w') →
      (∀ B u', Sx D w0 r1 r2 u' o1 o2 (some B) q2 → wpAnyH Tryz.prog .any ops Q (fun u => Below w0.heap.size w0 u) n (L p1 p2 true p4 false false) (actS d1 d2 e1 e2 a o1 o2 (some B) q2) u') →
      x1.wp Tryz.prog (actS d1 d2 e1 e2 a o1 o2 none q2) u K Q := by
    intro n p1 p2 p4 o1 o2 q2 u K h hK hn
    unfold Oper.wp execOp
    simp only [hx1p, Sem.run_bind, alloc_ty, Result.andThen_ok, Sem.run_pure]
    have k := h.alloc1
    refine hK.out _ _ k.bl fun _ => ?_
    rw [(T.lset _ _ _ _ _ _).2.2.1, hx1d]
    have := hn u.heap.size _ k
    rw [← actS_e1 T.ap] at this
    exact this
  have al2 : ∀ (n : Nat) (p1 p2 p3 : Bool) o1 o2 q1 u K, Sx D w0 r1 r2 u o1 o2 q1 none → Hid (∀ a' w', (fun u => Below w0.heap.size w0 u) w' → ((fun u => Below w0.heap.size w0 u) w' → wpAnyH Tryz.prog .any ops Q (fun u => Below w0.heap.size w0 u) n ((L p1 p2 p3 false false false).setIfInBounds 11 true) a' w') → K a' w') →
      (∀ B u', Sx D w0 r1 r2 u' o1 o2 q1 (some B) → wpAnyH Tryz.prog .any ops Q (fun u => Below w0.heap.size w0 u) n (L p1 p2 p3 true false false) (actS d1 d2 e1 e2 a o1 o2 q1 (some B)) u') →
      x2.wp Tryz.prog (actS d1 d2 e1 e2 a o1 o2 q1 none) u K Q := by
    intro n p1 p2 p3 o1 o2 q1 u K h hK hn
    unfold Oper.wp execOp
    simp only [hx2p, Sem.run_bind, alloc_ty, Result.andThen_ok, Sem.run_pure]
    have k := h.alloc2
    refine hK.out _ _ k.bl fun _ => ?_
    rw [(T.lset _ _ _ _ _ _).2.2.2.1, hx2d]
    exact hn u.heap.size _ k
  have ca1 : ∀ (n : Nat) (p3 p4 : Bool) o2 q1 q2 u K, Sx D w0 r1 r2 u none o2 q1 q2 → Hid (∀ a' w', (fun u => Below w0.heap.size w0 u) w' → ((fun u => Below w0.heap.size w0 u) w' → wpAnyH Tryz.prog .any ops Q (fun u => Below w0.heap.size w0 u) n ((L false false p3 p4 false false).setIfInBounds 4 true) a' w') → K a' w') →
      (∀ t u', Sx D w0 r1 r2 u' (some t) o2 q1 q2 → wpAnyH Tryz.prog .any ops Q (fun u => Below w0.heap.size w0 u) n (L true false p3 p4 false false) (actS d1 d2 e1 e2 a (some t) o2 q1 q2) u') →
      c1.wp Tryz.prog (actS d1 d2 e1 e2 a none o2 q1 q2) u K Q := by
    intro n p3 p4 o2 q1 q2 u K h hK hn
    unfold Oper.wp
    rw [hc1 o2 q1 q2 c1 u hc1o, Oper.upon_enter]
    refine (hcall1 u h.bl).mono ?_
    rintro e u' ⟨t, rfl, ht, hk, hs, hb⟩
    have k := h.call1 hD hb ht hk hs
    refine hK.out _ _ k.bl fun _ => ?_
    rw [(T.lset _ _ _ _ _ _).1, hc1d]
    have := hn t _ k
    rw [← actS_d1 T.ap] at this
    exact this
  have ca2 : ∀ (n : Nat) (p3 p4 : Bool) o1 q1 q2 u K, Sx D w0 r1 r2 u o1 none q1 q2 → Hid (∀ a' w', (fun u => Below w0.heap.size w0 u) w' → ((fun u => Below w0.heap.size w0 u) w' → wpAnyH Tryz.prog .any ops Q (fun u => Below w0.heap.size w0 u) n ((L true false p3 p4 false false).setIfInBounds 9 true) a' w') → K a' w') →
      (∀ t u', Sx D w0 r1 r2 u' o1 (some t) q1 q2 → wpAnyH Tryz.prog .any ops Q (fun u => Below w0.heap.size w0 u) n (L true true p3 p4 false false) (actS d1 d2 e1 e2 a o1 (some t) q1 q2) u') →
      c2.wp Tryz.prog (actS d1 d2 e1 e2 a o1 none q1 q2) u K Q := by
    intro n p3 p4 o1 q1 q2 u K h hK hn
    unfold Oper.wp
    rw [hc2 o1 q1 q2 c2 u hc2o, Oper.upon_enter]
    refine (hcall2 u h.bl).mono ?_
    rintro e u' ⟨t, rfl, ht, hk, hs, hb⟩
    have k := h.call2 hD hb ht hk hs
    refine hK.out _ _ k.bl fun _ => ?_
    rw [(T.lset _ _ _ _ _ _).2.1, hc2d]
    have := hn t _ k
    rw [← actS_d2 T.ap] at this
    exact this
  have st210 : ∀ t1 t2 B1 u, Sx D w0 r1 r2 u (some t1) (some t2) (some B1) (none) → wpAnyH Tryz.prog .any ops Q (fun u => Below w0.heap.size w0 u) 3 (L true true true false false false) (actS d1 d2 e1 e2 a (some t1) (some t2) (some B1) (none)) u := by
    intro t1 t2 B1 u h
    refine wpAnyH_ready T.r1110 (by simp) ?_
    refine AllReadyH.cons hx2o (fun K hK => ?_) AllReadyH.nil
    · rw [if_pos (if_wanted hx2g)]; exact al2 _ _ _ _ _ _ _ _ _ h hK fun B2 u' h' => fin t1 t2 B1 B2 u' h'
  have st201 : ∀ t1 t2 B2 u, Sx D w0 r1 r2 u (some t1) (some t2) (none) (some B2) → wpAnyH Tryz.prog .any ops Q (fun u => Below w0.heap.size w0 u) 3 (L true true false true false false) (actS d1 d2 e1 e2 a (some t1) (some t2) (none) (some B2)) u := by
    intro t1 t2 B2 u h
    refine wpAnyH_ready T.r1101 (by simp) ?_
    refine AllReadyH.cons hx1o (fun K hK => ?_) AllReadyH.nil
    · rw [if_pos (if_wanted hx1g)]; exact al1 _ _ _ _ _ _ _ _ _ h hK fun B1 u' h' => fin t1 t2 B1 B2 u' h'
  have st200 : ∀ t1 t2 u, Sx D w0 r1 r2 u (some t1) (some t2) (none) (none) → wpAnyH Tryz.prog .any ops Q (fun u => Below w0.heap.size w0 u) 4 (L true true false false false false) (actS d1 d2 e1 e2 a (some t1) (some t2) (none) (none)) u := by
    intro t1 t2 u h
    refine wpAnyH_ready T.r1100 (by simp) ?_
    refine AllReadyH.cons hx1o (fun K hK => ?_) (AllReadyH.cons hx2o (fun K hK => ?_) AllReadyH.nil)
    · rw [if_pos (if_wanted hx1g)]; exact al1 _ _ _ _ _ _ _ _ _ h hK fun B1 u' h' => st210 t1 t2 B1 u' h'
    · rw [if_pos (if_wanted hx2g)]; exact al2 _ _ _ _ _ _ _ _ _ h hK fun B2 u' h' => st201 t1 t2 B2 u' h'
  have st111 : ∀ t1 B1 B2 u, Sx D w0 r1 r2 u (some t1) (none) (some B1) (some B2) → wpAnyH Tryz.prog .any ops Q (fun u => Below w0.heap.size w0 u) 3 (L true false true true false false) (actS d1 d2 e1 e2 a (some t1) (none) (some B1) (some B2)) u := by
    intro t1 B1 B2 u h
    refine wpAnyH_ready T.r1011 (by simp) ?_
    refine AllReadyH.cons hc2o (fun K hK => ?_) AllReadyH.nil
    · rw [if_pos (if_wanted hc2g)]; exact ca2 _ _ _ _ _ _ _ _ h hK fun t2 u' h' => fin t1 t2 B1 B2 u' h'
  have st110 : ∀ t1 B1 u, Sx D w0 r1 r2 u (some t1) (none) (some B1) (none) → wpAnyH Tryz.prog .any ops Q (fun u => Below w0.heap.size w0 u) 4 (L true false true false false false) (actS d1 d2 e1 e2 a (some t1) (none) (some B1) (none)) u := by
    intro t1 B1 u h
    refine wpAnyH_ready T.r1010 (by simp) ?_
    refine AllReadyH.cons hc2o (fun K hK => ?_) (AllReadyH.cons hx2o (fun K hK => ?_) AllReadyH.nil)
    · rw [if_pos (if_wanted hc2g)]; exact ca2 _ _ _ _ _ _ _ _ h hK fun t2 u' h' => st210 t1 t2 B1 u' h'
    · rw [if_pos (if_wanted hx2g)]; exact al2 _ _ _ _ _ _ _ _ _ h hK fun B2 u' h' => st111 t1 B1 B2 u' h'
  have st101 : ∀ t1 B2 u, Sx D w0 r1 r2 u (some t1) (none) (none) (some B2) → wpAnyH Tryz.prog .any ops Q (fun u => Below w0.heap.size w0 u) 4 (L true false false true false false) (actS d1 d2 e1 e2 a (some t1) (none) (none) (some B2)) u := by
    intro t1 B2 u h
    refine wpAnyH_ready T.r1001 (by simp) ?_
    refine AllReadyH.cons hc2o (fun K hK => ?_) (AllReadyH.cons hx1o (fun K hK => ?_) AllReadyH.nil)
    · rw [if_pos (if_wanted hc2g)]; exact ca2 _ _ _ _ _ _ _ _ h hK fun t2 u' h' => st201 t1 t2 B2 u' h'
    · rw [if_pos (if_wanted hx1g)]; exact al1 _ _ _ _ _ _ _ _ _ h hK fun B1 u' h' => st111 t1 B1 B2 u' h'
  have st100 : ∀ t1 u, Sx D w0 r1 r2 u (some t1) (none) (none) (none) → wpAnyH Tryz.prog .any ops Q (fun u => Below w0.heap.size w0 u) 5 (L true false false false false false) (actS d1 d2 e1 e2 a (some t1) (none) (none) (none)) u := by
    intro t1 u h
    refine wpAnyH_ready T.r1000 (by simp) ?_
    refine AllReadyH.cons hc2o (fun K hK => ?_) (AllReadyH.cons hx1o (fun K hK => ?_) (AllReadyH.cons hx2o (fun K hK => ?_) AllReadyH.nil))
    · rw [if_pos (if_wanted hc2g)]; exact ca2 _ _ _ _ _ _ _ _ h hK fun t2 u' h' => st200 t1 t2 u' h'
    · rw [if_pos (if_wanted hx1g)]; exact al1 _ _ _ _ _ _ _ _ _ h hK fun B1 u' h' => st110 t1 B1 u' h'
    · rw [if_pos (if_wanted hx2g)]; exact al2 _ _ _ _ _ _ _ _ _ h hK fun B2 u' h' => st101 t1 B2 u' h'
  have st011 : ∀ B1 B2 u, Sx D w0 r1 r2 u (none) (none) (some B1) (some B2) → wpAnyH Tryz.prog .any ops Q (fun u => Below w0.heap.size w0 u) 4 (L false false true true false false) (actS d1 d2 e1 e2 a (none) (none) (some B1) (some B2)) u := by
    intro B1 B2 u h
    refine wpAnyH_ready T.r0011 (by simp) ?_
    refine AllReadyH.cons hc1o (fun K hK => ?_) AllReadyH.nil
    · rw [if_pos (if_wanted hc1g)]; exact ca1 _ _ _ _ _ _ _ _ h hK fun t1 u' h' => st111 t1 B1 B2 u' h'
  have st010 : ∀ B1 u, Sx D w0 r1 r2 u (none) (none) (some B1) (none) → wpAnyH Tryz.prog .any ops Q (fun u => Below w0.heap.size w0 u) 5 (L false false true false false false) (actS d1 d2 e1 e2 a (none) (none) (some B1) (none)) u := by
    intro B1 u h
    refine wpAnyH_ready T.r0010 (by simp) ?_
    refine AllReadyH.cons hc1o (fun K hK => ?_) (AllReadyH.cons hx2o (fun K hK => ?_) AllReadyH.nil)
    · rw [if_pos (if_wanted hc1g)]; exact ca1 _ _ _ _ _ _ _ _ h hK fun t1 u' h' => st110 t1 B1 u' h'
    · rw [if_pos (if_wanted hx2g)]; exact al2 _ _ _ _ _ _ _ _ _ h hK fun B2 u' h' => st011 B1 B2 u' h'
  have st001 : ∀ B2 u, Sx D w0 r1 r2 u (none) (none) (none) (some B2) → wpAnyH Tryz.prog .any ops Q (fun u => Below w0.heap.size w0 u) 5 (L false false false true false false) (actS d1 d2 e1 e2 a (none) (none) (none) (some B2)) u := by
    intro B2 u h
    refine wpAnyH_ready T.r0001 (by simp) ?_
    refine AllReadyH.cons hc1o (fun K hK => ?_) (AllReadyH.cons hx1o (fun K hK => ?_) AllReadyH.nil)
    · rw [if_pos (if_wanted hc1g)]; exact ca1 _ _ _ _ _ _ _ _ h hK fun t1 u' h' => st101 t1 B2 u' h'
    · rw [if_pos (if_wanted hx1g)]; exact al1 _ _ _ _ _ _ _ _ _ h hK fun B1 u' h' => st011 B1 B2 u' h'
  have st000 : ∀ u, Sx D w0 r1 r2 u (none) (none) (none) (none) → wpAnyH Tryz.prog .any ops Q (fun u => Below w0.heap.size w0 u) 6 (L false false false false false false) (actS d1 d2 e1 e2 a (none) (none) (none) (none)) u := by
    intro u h
    refine wpAnyH_ready T.r0000 (by simp) ?_
    refine AllReadyH.cons hc1o (fun K hK => ?_) (AllReadyH.cons hx1o (fun K hK => ?_) (AllReadyH.cons hx2o (fun K hK => ?_) AllReadyH.nil))
    · rw [if_pos (if_wanted hc1g)]; exact ca1 _ _ _ _ _ _ _ _ h hK fun t1 u' h' => st100 t1 u' h'
    · rw [if_pos (if_wanted hx1g)]; exact al1 _ _ _ _ _ _ _ _ _ h hK fun B1 u' h' => st010 B1 u' h'
    · rw [if_pos (if_wanted hx2g)]; exact al2 _ _ _ _ _ _ _ _ _ h hK fun B2 u' h' => st001 B2 u' h'
  exact st000 w ⟨hw, (fun _ e => by cases e), (fun _ e => by cases e), (fun _ e => by cases e), (fun _ e => by cases e), (fun _ e => by cases e)⟩
end Go.Proofs.YtbdhbgilaeldgaaGreat
