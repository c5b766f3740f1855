/- Layer 16: lean: the function with those handlers alone that take something. -/
import Derived.Test.YtibhcbdofadamaaP17
import Derived.Test.YtibhcbdofadamaaP18
import Derived.Test.YtibhcbdofadamaaP15
import Derived.Deep.CutBlock
import Derived.Test.YtibhcbdofadamaaP16
import Derived.Test.YtibhcbdofadamaaP5
import Derived.Deep.DeepCutAuto
import Derived.BigQuiet
namespace Go.Proofs.Ytibhcbdofadamaa
open Go Go.RowKit

theorem Try.infoHn : (Try.prog.info? 52).map (fun i => (i.zero, i.size, i.bytes)) = some (some (.agg #[.int .i64 0, .int .i64 0, .int .i64 0]), 3, 24) := by kernel_rfl
/-- One handler more. -/
theorem wpList_appH {w : World} {ops : Array Oper} {rest : List Oper} {o : Oper} {a : Act} {Q : Exit → Act → World → Prop} (hgd : o.guard = none) (s x : Operand)
    (hop : o.op = .call { callee := .builtin .append, args := #[s, x], argTypes := #[26, 26] }) (base : Nat) (v : Value) (m : Nat) (F : Nat → Hn) (h0 : Hn) (hs : a.eval s = v) (ho : w.ownsRow base 52 3 v m (flatN (fun i => (F i).vs) m)) (hx : a.eval x = .slice (some ⟨w.heap.size, 0, none⟩) 1 1) (hl : m ≤ 1000000) (hb : base ≤ w.heap.size)
    (h : ∀ v' w', w'.ownsRow base 52 3 v' (m + 1) (flatN (fun i => (updH F m h0 i).vs) (m + 1)) → w.grownBy w' v.ownBlock → wpList Try.prog ops Q rest (a.put o.dst v') w') : wpList Try.prog ops Q (o :: rest) a (w.alloc (.cells h0.vs.toArray 52)) := by
  have hE : (w.alloc (.cells h0.vs.toArray 52)).ownsRow base 52 3 v m (flatN (fun i => (F i).vs) m) := ho.alloc _
  refine wpList_append_any Try.underlying26 Try.infoHn rfl (by decide) hgd s x hop base v m (flatN (fun i => (F i).vs) m) hs hE (some ⟨w.heap.size, 0, none⟩) 1 1 h0.vs hx (fun h => by cases h) rfl (new_row (cs := h0.vs)) (fun u hu => List.all_eq_true.1 h0.vs_one u hu) (by unfold maxLen; omega) (by omega) (by rw [alloc_size]; omega) ?_
  intro v' w' h1 h2
  refine h v' w' ?_ ?_
  · have e : flatN (fun i => (updH F m h0 i).vs) (m + 1) = flatN (fun i => (F i).vs) m ++ h0.vs := by
      show flatN (fun i => (updH F m h0 i).vs) m ++ (updH F m h0 m).vs = _
      have e1 : updH F m h0 m = h0 := by unfold updH; rw [if_neg (by omega)]
      rw [e1]
      congr 1
      have key : ∀ k, k ≤ m → flatN (fun i => (updH F m h0 i).vs) k = flatN (fun i => (F i).vs) k := fun k => by
        induction k with
        | zero => intro _; rfl
        | succ k ih =>
          intro hk
          show flatN _ k ++ (updH F m h0 k).vs = flatN _ k ++ (F k).vs
          have e2 : updH F m h0 k = F k := by unfold updH; rw [if_pos (by omega)]
          rw [ih (by omega), e2]
      exact key m (Nat.le_refl _)
    rw [e]
    exact h1
  · have g0 := World.grownBy_alloc w (.cells h0.vs.toArray 52) v.ownBlock
    refine ⟨h2.os.trans g0.os, h2.tape.trans g0.tape, h2.output.trans g0.output, Nat.le_trans g0.size h2.size, fun k hk hne => ?_⟩
    rw [h2.block k (by rw [alloc_size]; omega) hne]
    exact g0.block k hk hne

/-- The function that is made. -/
def mdC (f : Cf) (r : Rw Hn) : Cf := ⟨leafT 0 0, leafT 0 0, leafT 0 0, 0, 0, 0, f.cd, r, nilRw ⟨.dm, .dm, 0⟩, nilRw ⟨0, 0, nilRw 0⟩⟩
def mdV (f : Cf) (v : Value) : List Value := [.int .i64 0, .int .i64 0, .slice none 0 0, .int .i64 0, .int .i64 0, .int .i64 0, .int .i64 0, .slice none 0 0, .int .i64 0, .int .i64 0, .slice none 0 0, .int .i64 0, .int .i64 0, .int .i64 0, .slice f.cd.ao f.cd.len f.cd.cap, v, .slice none 0 0, .slice none 0 0]
theorem mdC_vs (f : Cf) (r : Rw Hn) : (mdC f r).vs = mdV f (.slice r.ao r.len r.cap) := rfl
theorem mdC_at {f : Cf} {r : Rw Hn} {w : World} (hf : f.At w) (hr : HnsAt w r) : (mdC f r).At w := by
  have z : I64 0 := ⟨by omega, by omega⟩
  exact ⟨leaf_at _ _ _, leaf_at _ _ _, leaf_at _ _ _, z, z, z, hf.cd, hr, nilRw_at _ _ _ _ _, nilRw_at _ _ _ _ _⟩
structure Lw (w0 : World) (f : Cf) (g : Rw Bool) (B i m : Nat) (F : Nat → Hn) (vo vh : Value) (u : World) : Prop where
  bl : Below w0.heap.size w0 u
  bF : Blk u w0.heap.size f.vs 30
  b4 : Blk u (w0.heap.size + 1) z_fn 30
  b6 : Blk u B (mdV f vh) 30
  oi : Oi u (w0.heap.size + 2) vo (trM (f.opn g i) f.cd.len)
  hs : u.ownsRow (w0.heap.size + 2) 52 3 vh m (flatN (fun i => (F i).vs) m)
  ne : w0.heap.size + 1 < B
  ln : LnI f g i m F ∧ m ≤ i ∧ ∀ k, k < m → (F k).At
theorem Lw.kept {w0 : World} {f : Cf} {g : Rw Bool} {B i m : Nat} {F : Nat → Hn} {vo vh : Value} {u u' : World} (h : Lw w0 f g B i m F vo vh u) (hb : Below u.heap.size u u') : Lw w0 f g B i m F vo vh u' :=
  ⟨Below.next h.bl hb, h.bF.kept hb, h.b4.kept hb, h.b6.kept hb, h.oi.kept hb, owk h.hs hb, h.ne, h.ln⟩
theorem Lw.size {w0 : World} {f : Cf} {g : Rw Bool} {B i m : Nat} {F : Nat → Hn} {vo vh : Value} {u : World} (h : Lw w0 f g B i m F vo vh u) : w0.heap.size + 2 ≤ u.heap.size := by have := h.b4.lt; omega
/-- A handler is put behind. -/
theorem Lw.app {w0 : World} {f : Cf} {g : Rw Bool} {B i m : Nat} {F F' : Nat → Hn} {vo vh vh' : Value} {u u1 u2 : World} (h : Lw w0 f g B i m F vo vh u) (hk : u1.ownsRow (w0.heap.size + 2) 52 3 vh' (m + 1) (flatN (fun i => (F' i).vs) (m + 1))) (hg : u.grownBy u1 vh.ownBlock) (W : WroteB u1 u2 B (mdV f vh') 30) :
    (Below w0.heap.size w0 u2 ∧ Blk u2 w0.heap.size f.vs 30 ∧ Blk u2 (w0.heap.size + 1) z_fn 30 ∧ Blk u2 B (mdV f vh') 30) ∧ Oi u2 (w0.heap.size + 2) vo (trM (f.opn g i) f.cd.len) ∧ u2.ownsRow (w0.heap.size + 2) 52 3 vh' (m + 1) (flatN (fun i => (F' i).vs) (m + 1)) := by
  have t1 : (52 : TypeId) ≠ 30 := by decide
  have t2 : (3 : TypeId) ≠ 52 := by decide
  have t3 : (3 : TypeId) ≠ 30 := by decide
  have hl : ∀ k, vh.ownBlock = some k → w0.heap.size ≤ k := fun k e => by have := (owb h.hs e).1; omega
  have o1 : u1.ownsRow (w0.heap.size + 2) 3 1 vo (trM (f.opn g i) f.cd.len).length (ivL (trM (f.opn g i) f.cd.len)) := own_gb h.oi hg (fun k e e2 => own_ne_own h.oi h.hs t2 e e2.symm)
  have bB : Blk u1 B (mdV f vh) 30 := h.b6.gb hg (own_ne_blk h.hs h.b6 t1)
  refine ⟨⟨gb_bel (gb_bel h.bl hg hl) W.gb (fun k e => by have := Option.some.inj e; have := h.ne; omega), ?_, ?_, W.blk⟩, ?_, ?_⟩
  · exact (h.bF.gb hg (own_ne_blk h.hs h.bF t1)).gb W.gb (fun e => by have := Option.some.inj e; have := h.ne; omega)
  · exact (h.b4.gb hg (own_ne_blk h.hs h.b4 t1)).gb W.gb (fun e => by have := Option.some.inj e; have := h.ne; omega)
  · exact own_gb o1 W.gb (fun k e e2 => own_ne_blk o1 bB t3 (by rw [e, e2]))
  · have o2 : Blk u1 B (mdV f vh) 30 := bB
    exact own_gb hk W.gb (fun k e e2 => own_ne_blk hk o2 t1 (by rw [e, e2]))
theorem Lw.cut {w0 : World} {f : Cf} {g : Rw Bool} {B i' m : Nat} {F : Nat → Hn} {vo vo' vh : Value} {l l' : List Int} {u u1 : World} (h1 : (Below w0.heap.size w0 u ∧ Blk u w0.heap.size f.vs 30 ∧ Blk u (w0.heap.size + 1) z_fn 30 ∧ Blk u B (mdV f vh) 30) ∧ Oi u (w0.heap.size + 2) vo l ∧ u.ownsRow (w0.heap.size + 2) 52 3 vh m (flatN (fun i => (F i).vs) m))
    (ho : Oi u1 (w0.heap.size + 2) vo' l') (hg : u.grownBy u1 vo.ownBlock) (hl : l' = trM (f.opn g i') f.cd.len) (hB : w0.heap.size + 1 < B) (hln : LnI f g i' m F ∧ m ≤ i' ∧ ∀ k, k < m → (F k).At) : Lw w0 f g B i' m F vo' vh u1 := by
  have t2 : (52 : TypeId) ≠ 3 := by decide
  have t3 : (3 : TypeId) ≠ 30 := by decide
  obtain ⟨⟨a1, a2, a3, a4⟩, a5, a6⟩ := h1
  subst hl
  exact ⟨gb_bel a1 hg (fun k e => by have := (owb a5 e).1; omega), a2.gb hg (own_ne_blk a5 a2 t3), a3.gb hg (own_ne_blk a5 a3 t3), a4.gb hg (own_ne_blk a5 a4 t3), ho, own_gb a6 hg (fun k e e2 => own_ne_own a6 a5 t2 e e2.symm), hB, hln⟩
theorem Lw.skip {w0 : World} {f : Cf} {g : Rw Bool} {B i m : Nat} {F : Nat → Hn} {vo vh : Value} {u : World} (h : Lw w0 f g B i m F vo vh u) (hs : (∀ p : Nat, p < f.cd.len → f.opn g i p = true → hitH (f.hd.x i) p = false) ∧ trM (f.opn g (i + 1)) f.cd.len = trM (f.opn g i) f.cd.len) : Lw w0 f g B (i + 1) m F vo vh u :=
  ⟨h.bl, h.bF, h.b4, h.b6, by rw [hs.2]; exact h.oi, h.hs, h.ne, h.ln.1.skip hs.1, by have := h.ln.2.1; omega, h.ln.2.2⟩
theorem upd_at {F : Nat → Hn} {m : Nat} {h : Hn} (hF : ∀ k, k < m → (F k).At) (hh : h.At) : ∀ k, k < m + 1 → (updH F m h k).At := fun k _ => by
  unfold updH
  split
  · exact hF k (by assumption)
  · exact hh
/-- What lean answers, in memory of its own. -/
structure LnO (f : Cf) (g : Rw Bool) (base : Nat) (l : Cf) (u : World) : Prop where
  lat : l.At u
  ln : Ln f g l
  own : u.ownsRow base 52 3 (.slice l.hd.ao l.hd.len l.hd.cap) l.hd.len (flatN (fun i => (l.hd.x i).vs) l.hd.len)
  eq : l = mdC f l.hd
  each : ∀ k, k < l.hd.len → (l.hd.x k).At
theorem LnO.kept {f : Cf} {g : Rw Bool} {base : Nat} {l : Cf} {u u' : World} (h : LnO f g base l u) (hb : Below u.heap.size u u') : LnO f g base l u' := ⟨Cf.At.kept hb h.lat, h.ln, owk h.own hb, h.eq, h.each⟩
theorem lnO_of {f : Cf} {g : Rw Bool} {base m : Nat} {F : Nat → Hn} {v : Value} {u : World} (hf : f.At u) (ho : u.ownsRow base 52 3 v m (flatN (fun i => (F i).vs) m)) (hm : m ≤ 9223372036854775807) (hF : ∀ k, k < m → (F k).At) (hl : ∀ l : Cf, l.cd = f.cd → l.hd.len = m → l.hd.x = F → Ln f g l) : ∃ l : Cf, l.vs = mdV f v ∧ LnO f g base l u ∧ l.hd.len = m ∧ l.hd.x = F := by
  obtain ⟨r, h1, h2, h3, h4⟩ := Rw.of_own (vs := Hn.vs) (z := 3) (A := fun _ h => Hn.At h) (fun _ => rfl) ho hm hF
  refine ⟨mdC f r, by rw [mdC_vs, h1], ⟨mdC_at hf h2, hl _ rfl h3 h4, ?_, rfl, ?_⟩, h3, h4⟩
  · show u.ownsRow base 52 3 (.slice r.ao r.len r.cap) r.len (flatN (fun i => (r.x i).vs) r.len)
    rw [← h1, h3, h4]; exact ho
  · intro k hk
    show (r.x k).At
    rw [h4]; exact hF k (by rw [← h3]; exact hk)
/-- Behind a store into another block. -/
theorem LnO.gb {f : Cf} {g : Rw Bool} {base B : Nat} {l : Cf} {u u' : World} {c : List Value} (h : LnO f g base l u) (hg : u.grownBy u' (some B)) (hB : Blk u B c 30) (hf : f.At u') : ∃ l' : Cf, l'.vs = l.vs ∧ LnO f g base l' u' := by
  have ho := own_gb h.own hg (fun k e e2 => own_ne_blk h.own hB (by decide) (by rw [e, e2]))
  obtain ⟨l', h1, h2, _, _⟩ := lnO_of (g := g) hf ho h.lat.hd.bound h.each (fun l' e1 e2 e3 => ⟨e1, fun p hp hr => by rw [han_fnd, e2, e3, ← han_fnd]; exact h.ln.han p hp hr⟩)
  exact ⟨l', by rw [h1, ← mdC_vs, ← h.eq], h2⟩
def LnP (f : Cf) (g : Rw Bool) (w : World) : Ending → World → Prop := fun e w' => ∃ l : Cf, e = .returned (.agg l.vs.toArray) ∧ LnO f g w.heap.size l w' ∧ Below w.heap.size w w'

set_option maxRecDepth 100000 in
set_option maxHeartbeats 16000000 in
theorem lean_any (f : Cf) (g : Rw Bool) (w : World) (hf : f.At w) (hg : BlAt w g) (hn : f.cd.len ≤ 100000) (hh : f.hd.len ≤ 100000) : Calls Try.prog 22 #[.agg f.vs.toArray, .slice g.ao g.len g.cap] w (LnP f g w) := by
  have A0 := allocs_below [.cells f.vs.toArray 30, .cells z_fn.toArray 30] w
  have A1 := allocs_heap [.cells f.vs.toArray 30, .cells z_fn.toArray 30] w
  simp only [List.foldl] at A0 A1
  unfold z_fn at A0 A1
  have H1 := hyd (show Below w.heap.size w _ ∧ Blk _ w.heap.size f.vs 30 ∧ Blk _ (w.heap.size + 1) z_fn 30 from ⟨A0, A1 0 (by simp), A1 1 (by simp)⟩)
  have HD := hyd (show f.At w ∧ BlAt w g ∧ f.hd.len ≤ 100000 from ⟨hf, hg, hh⟩)
  have hbd2 := hf.hd.bound
  have HNH := hyd hf.hd.nil
  clear A0 A1 hf hg hh
  go_enter Try.func22, Try.ntmps22
  go_upto_region 1 with fail
  generalize (w.alloc (.cells f.vs.toArray 30)).alloc (.cells [.int .i64 0, .int .i64 0, .slice none 0 0, .int .i64 0, .int .i64 0, .int .i64 0, .int .i64 0, .slice none 0 0, .int .i64 0, .int .i64 0, .slice none 0 0, .int .i64 0, .int .i64 0, .int .i64 0, .slice none 0 0, .slice none 0 0, .slice none 0 0, .slice none 0 0].toArray 30) = u1 at *
  have rF := H1.out.2.1.range
  have h0 := raising_any f g u1 (Cf.At.kept H1.out.1 HD.out.1) (BlAt.kept HD.out.2.1 H1.out.1) hn
  go_wp2_with (refine wpList_load_mid rfl 30 (.tmp 2) rfl w.heap.size 0 (by kernel_rfl) f.vs _ rF Try.underlying30 rfl (by kernel_rfl) ?_)
  refine h0.mono ?_
  rintro _ u2 ⟨vo, rfl, hO, hb⟩
  have H2 := hyd (show Below w.heap.size w u2 ∧ Blk u2 w.heap.size f.vs 30 ∧ Blk u2 (w.heap.size + 1) z_fn 30 ∧ Oi u2 (w.heap.size + 2) vo (trM (f.opn g 0) f.cd.len) from ⟨Below.next H1.out.1 hb, H1.out.2.1.kept hb, H1.out.2.2.kept hb, by rw [opn_zero]; exact own_mono hO (by have := H1.out.2.2.lt; omega)⟩)
  clear h0 hO hb rF H1
  go_upto_region 2 with fail
  have c14 := H2.out.2.1.cell 14 rfl
  go_upto_region 3 with (first | (refine wpList_new_mid rfl rfl 30 rfl (.tmp 6) (.tmp 18) rfl z_fn (alloc_fn _) rfl (mdV f (.slice none 0 0)).toArray (by kernel_rfl) (by kernel_rfl) rfl (by kernel_rfl) (by simp [mdV, Value.oneCell']) ?_))
  have B3 := below_alloc u2 (.cells (mdV f (.slice none 0 0)).toArray 30)
  have H3 : Hid (Lw w f g u2.heap.size 0 0 (fun _ => ⟨0, 0, 0⟩) vo (.slice none 0 0) (u2.alloc (.cells (mdV f (.slice none 0 0)).toArray 30))) :=
    ⟨Below.next H2.out.1 B3, H2.out.2.1.kept B3, H2.out.2.2.1.kept B3, Blk.new u2 _ _, H2.out.2.2.2.kept B3, World.ownsRow_nil _ _ _ _, H2.out.2.2.1.lt, LnI.start f g _, Nat.le_refl _, fun k hk => absurd hk (Nat.not_lt_zero _)⟩
  clear B3 H2 c14
  generalize u2.alloc (.cells (mdV f (.slice none 0 0)).toArray 30) = u3 at *
  generalize u2.heap.size = B6 at *
  have c15 := H3.out.bF.cell 15 rfl
  go_wp2
  clear c15
  go_loopw [5, 22] (fun v i wr => ∃ (j m : Nat) (F : Nat → Hn) (vh : Value), j ≤ f.hd.len ∧ i = .int .i64 j ∧ Lw w f g B6 j m F v vh wr) (fun _ i _ => f.hd.len - (intOf i).toNat)
  case atStart => exact ⟨0, 0, _, _, Nat.zero_le _, rfl, H3.out⟩
  case round =>
    clear H3
    obtain ⟨j, m, F, vh, hj, rfl, hB⟩ := hrel
    have HB := hyd hB
    clear hB
    by_cases hlt : j < f.hd.len
    · as_aux_lemma =>
      have ij : (j : Int) < f.hd.len := by omega
      have r0 := (Cf.At.kept HB.out.bl HD.out.1).hd.row j hlt
      rw [HNH.out (by omega)]
      have HC1 := hyd (fun h => opn_cut (f := f) (g := g) (i := j) h)
      have HC2 := hyd (fun h => opn_skip (f := f) (g := g) (i := j) h)
      have HKE := hyd (HB.out.ln.1.keep)
      have HXA := hyd (HD.out.1.hd.each j hlt)
      have HSK : Hid (((∀ p : Nat, p < f.cd.len → f.opn g j p = true → hitH (f.hd.x j) p = false) ∧ trM (f.opn g (j + 1)) f.cd.len = trM (f.opn g j) f.cd.len) → ∀ u, Lw w f g B6 j m F u5 vh u → Lw w f g B6 (j + 1) m F u5 vh u) := fun h u hu => hu.skip h
      generalize f.hd.x j = x at *
      go_upto_region 6 with (first | (refine wpList_load_mid rfl 52 (.tmp 24) rfl f.hd.b (f.hd.o + j * 3) (by kernel_rfl) x.vs _ r0 Try.underlying52 rfl (by kernel_rfl) ?_) | (refine wpList_new_mid rfl rfl 52 rfl (.tmp 8) (.tmp 25) rfl z_hn (alloc_hn _) rfl x.vs.toArray (by kernel_rfl) (by kernel_rfl) rfl (by kernel_rfl) (by simpa using x.vs_one) ?_))
      have B1 := below_alloc wr (.cells x.vs.toArray 52)
      have HU := hyd (show Lw w f g B6 j m F u5 vh (wr.alloc (.cells x.vs.toArray 52)) ∧ Blk _ wr.heap.size x.vs 52 ∧ w.heap.size + 2 ≤ wr.heap.size from ⟨HB.out.kept B1, Blk.new wr _ _, HB.out.size⟩)
      clear r0 HB B1
      generalize wr.alloc (.cells x.vs.toArray 52) = U at *
      generalize wr.heap.size = BX at *
      have d0 := HU.out.2.1.cell 0 rfl
      have h0 := bsearch_oi U (w.heap.size + 2) u5 (trM (f.opn g j) f.cd.len) x.fr HU.out.1.oi (trM_rising _ _) (by have := trM_len (f.opn g j) f.cd.len; omega)
      have hlen := trM_len (f.opn g j) f.cd.len
      have hcl := List.countP_le_length (p := fun a : Int => decide (a < x.to)) (l := trM (f.opn g j) f.cd.len)
      have HC3 : Hid (∀ u, Lw w f g B6 j m F u5 vh u → Calls Try.prog 39 #[u5, .int .i64 x.to] u fun e w' => ∃ b : Bool, e = .returned (.tuple #[.int .i64 (((trM (f.opn g j) f.cd.len).countP fun a => decide (a < x.to) : Nat) : Int), .bool b]) ∧ Below u.heap.size u w') := fun u hu => bsearch_oi u (w.heap.size + 2) u5 _ x.to hu.oi (trM_rising _ _) (by omega)
      generalize ((trM (f.opn g j) f.cd.len).countP fun a => decide (a < x.fr)) = c1 at *
      generalize ((trM (f.opn g j) f.cd.len).countP fun a => decide (a < x.to)) = c2 at *
      have HCL := hyd (show c2 ≤ (trM (f.opn g j) f.cd.len).length ∧ (trM (f.opn g j) f.cd.len).length ≤ f.cd.len from ⟨hcl, hlen⟩)
      clear hcl hlen
      go_wp2_with fail
      refine h0.mono ?_
      rintro _ u4 ⟨b4, rfl, hb⟩
      have H4 := hyd (show Lw w f g B6 j m F u5 vh u4 ∧ Blk u4 BX x.vs 52 ∧ w.heap.size + 2 ≤ BX from ⟨HU.out.1.kept hb, HU.out.2.1.kept hb, HU.out.2.2⟩)
      clear h0 hb HU d0
      have d1 := H4.out.2.1.cell 1 rfl
      have h0 := HC3.out u4 H4.out.1
      clear HC3
      go_wp2_with fail
      refine h0.mono ?_
      rintro _ u6 ⟨b6, rfl, hb⟩
      have H6 := hyd (show Lw w f g B6 j m F u5 vh u6 ∧ Blk u6 BX x.vs 52 ∧ w.heap.size + 2 ≤ BX from ⟨H4.out.1.kept hb, H4.out.2.1.kept hb, H4.out.2.2⟩)
      clear h0 hb H4 d1
      by_cases hc : c1 < c2
      · have ic : (c1 : Int) < c2 := by omega
        have HE := hyd (HC1.out hc)
        have HCC := hyd hc
        clear HC1 HC2 hc HSK
        have c15 := H6.out.1.b6.cell 15 rfl
        have rX := H6.out.2.1.range
        go_upto_region 10 with (first
          | (refine wpList_load_mid rfl 52 (.tmp 8) rfl BX 0 (by kernel_rfl) [.int .i64 x.fr, .int .i64 x.to, .int .i64 x.at_] _ rX Try.underlying52 rfl (by kernel_rfl) ?_)
          | (at_builtin; refine wpList_appH rfl _ _ rfl (w.heap.size + 2) vh m F x rfl H6.out.1.hs rfl (by have := H6.out.1.ln.2.1; have := HD.out.2.2; omega) H6.out.1.size ?_; intro v7 w7 h7 g7; obtain ⟨ao7, cap7, rfl⟩ := owform h7; have H7 := hyd (show w7.ownsRow (w.heap.size + 2) 52 3 (.slice ao7 (m + 1) cap7) (m + 1) (flatN (fun i => (updH F m x i).vs) (m + 1)) ∧ u6.grownBy w7 vh.ownBlock ∧ Blk w7 B6 (mdV f vh) 30 from ⟨h7, g7, H6.out.1.b6.gb g7 (own_ne_blk H6.out.1.hs H6.out.1.b6 (by decide))⟩); clear h7 g7 rX c15)
          | (refine wpList_store1 rfl 26 (.tmp 48) (.tmp 47) rfl rfl B6 15 (.slice ao7 (m + 1) cap7) _ _ (by kernel_rfl) (by kernel_rfl) (store_one _ _ (by kernel_rfl) rfl rfl _ _) H7.out.2.2 (by simp [mdV]) ?_; intro w8 W8; have H8 := hyd (H6.out.1.app H7.out.1 H7.out.2.1 W8); clear W8 H7))
        have h0 := delete_oi w8 (w.heap.size + 2) u5 (trM (f.opn g j) f.cd.len) c1 c2 H8.out.2.1 HCC.out HCL.out.1 (by have := HCL.out.2; omega)
        have HNL := hyd (show w.heap.size + 1 < B6 ∧ m + 1 ≤ j + 1 ∧ ∀ k, k < m + 1 → (updH F m x k).At from ⟨H6.out.1.ne, by have := H6.out.1.ln.2.1; omega, upd_at H6.out.1.ln.2.2 HXA.out⟩)
        clear H6 HCC HCL
        go_wp2_with fail
        refine h0.mono ?_
        rintro _ w9 ⟨v9, rfl, hO9, g9⟩
        have H9 : Hid (Lw w f g B6 (j + 1) (m + 1) (updH F m x) v9 (.slice ao7 (m + 1) cap7) w9) := Lw.cut H8.out hO9 g9 HE.out HNL.out.1 ⟨HKE.out, HNL.out.2⟩
        clear h0 hO9 g9 H8 HE HKE HNL
        go_wp2
        go_roundw
        case rel => exact ⟨j + 1, m + 1, _, _, by omega, by go_num, H9.out⟩
        case measure => simp [intOf]; omega
      · have ic : ¬ (c1 : Int) < c2 := by omega
        have H9 := hyd (HSK.out (HC2.out hc) _ H6.out.1)
        clear HC1 HC2 hc HSK H6 HCL HKE
        go_wp2
        go_roundw
        case rel => exact ⟨j + 1, m, _, _, by omega, by go_num, H9.out⟩
        case measure => simp [intOf]; omega
    · have ij : ¬ (j : Int) < f.hd.len := by omega
      have hje : j = f.hd.len := by omega
      subst hje
      obtain ⟨r, rfl, hr, hrl, hrx⟩ := Rw.of_own (vs := Hn.vs) (z := 3) (A := fun _ h => Hn.At h) (fun _ => rfl) HB.out.hs (by have := HB.out.ln.2.1; omega) HB.out.ln.2.2
      have HR := hyd (show HnsAt wr r ∧ r.len = m ∧ r.x = F from ⟨hr, hrl, hrx⟩)
      clear hr hrl hrx
      have r6 := HB.out.b6.range
      go_wp2_with (first
        | (refine wpList_load_mid rfl 30 (.tmp 6) rfl B6 0 (by kernel_rfl) (mdV f (.slice r.ao r.len r.cap)) _ r6 Try.underlying30 rfl (by kernel_rfl) ?_)
        | (refine wpList_store_blk rfl rfl 30 (.tmp 4) (.tmp 54) rfl (w.heap.size + 1) (mdV f (.slice r.ao r.len r.cap)) rfl rfl rfl HB.out.b4 rfl (by kernel_rfl) ?_; intro w4 W4))
      have H4 := hyd (show Below w.heap.size w w4 ∧ wr.grownBy w4 (some (w.heap.size + 1)) from ⟨gb_bel HB.out.bl W4.gb (fun k e => by have := Option.some.inj e; omega), W4.gb⟩)
      have hs4 := own_gb HB.out.hs W4.gb (fun k e e2 => own_ne_blk HB.out.hs HB.out.b4 (by decide) (by rw [e, e2]))
      have rB := W4.blk.range
      obtain ⟨l, hl1, hl2, _, _⟩ := lnO_of (g := g) (Cf.At.kept H4.out.1 HD.out.1) (own_monoG hs4 (show w.heap.size ≤ w.heap.size + 2 by omega)) (by have := HB.out.ln.2.1; omega) HB.out.ln.2.2 (fun l e1 e2 e3 => HB.out.ln.1.done e1 e2 e3)
      refine bodyPost_ret (v := .agg (mdV f (.slice r.ao r.len r.cap)).toArray) (results_rowG (vs := mdV f (.slice r.ao r.len r.cap)) Try.underlying30 rfl (by kernel_rfl) Try.results22 rfl rB) rfl ⟨l, by rw [hl1], hl2, H4.out.1⟩
end Go.Proofs.Ytibhcbdofadamaa

/- Layer 16: the statements' few; the reference's Ahead; how two regions are held together. -/
namespace Go.Proofs.Ytibhcbdofadamaa
open Go Go.RowKit

def Cf.fewR (f : Cf) (g : Rw Bool) : Bool := (decide (f.cd.len ≤ 40) && decide (f.hd.len ≤ 40)) && decide (g.len ≤ 1000)
set_option maxHeartbeats 4000000 in
theorem few16_any (f : Cf) (g : Rw Bool) (w : World) : Calls Try.prog 8 #[.agg f.vs.toArray, .slice g.ao g.len g.cap] w fun e w' => e = .returned (.bool (f.fewR g)) ∧ Below w.heap.size w w' := by
  have B0 := hyd (below_alloc w (.cells f.vs.toArray 30))
  have b := Blk.new w f.vs 30
  have c14 := b.cell 14 rfl
  have c15 := b.cell 15 rfl
  have HF : Hid (f.fewR g = ((decide (f.cd.len ≤ 40) && decide (f.hd.len ≤ 40)) && decide (g.len ≤ 1000))) := rfl
  generalize f.fewR g = F at *
  generalize f.vs.toArray = V at *
  clear b
  by_cases h1 : f.cd.len ≤ 40
  · have i1 : (f.cd.len : Int) ≤ 40 := by omega
    by_cases h2 : f.hd.len ≤ 40
    · have i2 : (f.hd.len : Int) ≤ 40 := by omega
      by_cases h3 : g.len ≤ 1000
      · have i3 : (g.len : Int) ≤ 1000 := by omega
        have HG : Hid (F = true) := by show _ = _; rw [HF.out, decide_eq_true h1, decide_eq_true h2, decide_eq_true h3]; rfl
        clear h1 h2 h3
        go_enter Try.func8, Try.ntmps8
        go_wp2
        go_ret
        exact ⟨ret_bool HG.out.symm, B0.out⟩
      · have i3 : ¬ (g.len : Int) ≤ 1000 := by omega
        have HG : Hid (F = false) := by show _ = _; rw [HF.out, decide_eq_true h1, decide_eq_true h2, decide_eq_false h3]; rfl
        clear h1 h2 h3
        go_enter Try.func8, Try.ntmps8
        go_wp2
        go_ret
        exact ⟨ret_bool HG.out.symm, B0.out⟩
    · have i2 : ¬ (f.hd.len : Int) ≤ 40 := by omega
      have HG : Hid (F = false) := by show _ = _; rw [HF.out, decide_eq_true h1, decide_eq_false h2]; rfl
      clear h1 h2
      go_enter Try.func8, Try.ntmps8
      go_wp2
      go_ret
      exact ⟨ret_bool HG.out.symm, B0.out⟩
  · have i1 : ¬ (f.cd.len : Int) ≤ 40 := by omega
    have HG : Hid (F = false) := by show _ = _; rw [HF.out, decide_eq_false h1]; rfl
    clear h1
    go_enter Try.func8, Try.ntmps8
    go_wp2
    go_ret
    exact ⟨ret_bool HG.out.symm, B0.out⟩

theorem Agd.of_two {f : Cf} (h1 : ∀ i, i < f.cd.len → (f.cd.x i).op = 24 ∨ (f.cd.x i).op = 25 → (i : Int) < (f.cd.x i).a) (h2 : ∀ i, i < f.hd.len → (f.hd.x i).to ≤ (f.hd.x i).at_) (h3 : f.cd.len ≤ 2000) : Agd f := ⟨h1, h2, h3⟩
def AhP (f : Cf) (w : World) : Ending → World → Prop := fun e w' => ∃ b : Bool, e = .returned (.bool b) ∧ (b = true → Agd f) ∧ Below w.heap.size w w'
set_option maxRecDepth 100000 in
set_option maxHeartbeats 8000000 in
theorem rahead_any (f : Cf) (w : World) (hf : f.At w) : Calls Try.prog 9 #[.agg f.vs.toArray] w (AhP f w) := by
  have H2 := hyd (Fx.new w f hf)
  have hbd := hf.cd.bound
  have hbd2 := hf.hd.bound
  have HNC := hyd hf.cd.nil
  have HNH := hyd hf.hd.nil
  clear hf
  generalize hw : w.alloc (.cells f.vs.toArray 30) = u2 at *
  go_enter Try.func9, Try.ntmps9
  go_upto_region 1 with fail
  clear hw
  go_upto_block 0 with fail
  go_cut [3] (fun _ wx => Hid (Fx w f w.heap.size wx ∧ ∀ i, i < f.cd.len → (f.cd.x i).op = 24 ∨ (f.cd.x i).op = 25 → (i : Int) < (f.cd.x i).a))
  case first =>
    go_wp2_with fail
    go_loopw [3] (fun i wr => ∃ (j : Nat), j ≤ f.cd.len ∧ i = .int .i64 j ∧ (Fx w f w.heap.size wr ∧ ∀ i, i < j → (f.cd.x i).op = 24 ∨ (f.cd.x i).op = 25 → (i : Int) < (f.cd.x i).a)) (fun i _ => f.cd.len - (intOf i).toNat)
    case atStart => exact ⟨0, Nat.zero_le _, rfl, H2.out, fun i hi => absurd hi (Nat.not_lt_zero _)⟩
    case round =>
      clear H2
      obtain ⟨j, hj, rfl, hB⟩ := hrel
      have HB := hyd hB
      clear hB
      have c14 := HB.out.1.b.cell 14 rfl
      by_cases hlt : j < f.cd.len
      · have ij : (j : Int) < f.cd.len := by omega
        rw [HNC.out (by omega)] at c14
        have r0 := HB.out.1.f.cd.row j hlt 0 _ rfl
        have r1 := HB.out.1.f.cd.row j hlt 1 _ rfl
        simp only [Nat.add_zero] at r0
        have HJ : Hid ((((f.cd.x j).op = 24 ∨ (f.cd.x j).op = 25) → (j : Int) < (f.cd.x j).a) → ∀ i, i < j + 1 → (f.cd.x i).op = 24 ∨ (f.cd.x i).op = 25 → (i : Int) < (f.cd.x i).a) := fun h i hi => by
          by_cases e : i = j
          · rw [e]; exact h
          · exact HB.out.2 i (by omega)
        generalize (f.cd.x j).op = op at *
        generalize (f.cd.x j).a = xa at *
        have HB1 := hyd HB.out.1
        clear HB
        by_cases k1 : op = 24
        · subst k1
          by_cases k3 : xa ≤ (j : Int)
          · go_wp2
            go_ret
            exact ⟨false, rfl, fun h => (by cases h), HB1.out.bl⟩
          · have HE := hyd (HJ.out (fun _ => by omega))
            clear HJ
            go_wp2
            go_roundw
            case rel => exact ⟨j + 1, by omega, by go_num, HB1.out, HE.out⟩
            case measure => simp [intOf]; omega
        · by_cases k5 : op = 25
          · subst k5
            clear k1
            by_cases k3 : xa ≤ (j : Int)
            · go_wp2
              go_ret
              exact ⟨false, rfl, fun h => (by cases h), HB1.out.bl⟩
            · have HE := hyd (HJ.out (fun _ => by omega))
              clear HJ
              go_wp2
              go_roundw
              case rel => exact ⟨j + 1, by omega, by go_num, HB1.out, HE.out⟩
              case measure => simp [intOf]; omega
          · have e1 : (op == 24) = false := by simpa using k1
            have e2 : (op == 25) = false := by simpa using k5
            have HE := hyd (HJ.out (fun h => by omega))
            clear HJ k1 k5
            go_wp2
            go_roundw
            case rel => exact ⟨j + 1, by omega, by go_num, HB1.out, HE.out⟩
            case measure => simp [intOf]; omega
      · have ij : ¬ (j : Int) < f.cd.len := by omega
        have HE := hyd (show j = f.cd.len by omega)
        go_wp2
        go_meet
        case rel => rw [← HE.out]; exact HB.out
  case rest =>
  have H3 := hyd hcut.out
  clear hcut H2
  go_upto_block 2 with fail
  go_cut [5] (fun _ wx => Hid (Fx w f w.heap.size wx ∧ ∀ i, i < f.hd.len → (f.hd.x i).to ≤ (f.hd.x i).at_))
  case first =>
    go_wp2_with fail
    go_loopw [5] (fun i wr => ∃ (j : Nat), j ≤ f.hd.len ∧ i = .int .i64 j ∧ (Fx w f w.heap.size wr ∧ ∀ i, i < j → (f.hd.x i).to ≤ (f.hd.x i).at_)) (fun i _ => f.hd.len - (intOf i).toNat)
    case atStart => exact ⟨0, Nat.zero_le _, rfl, H3.out.1, fun i hi => absurd hi (Nat.not_lt_zero _)⟩
    case round =>
      clear H3
      obtain ⟨j, hj, rfl, hB⟩ := hrel
      have HB := hyd hB
      clear hB
      have c15 := HB.out.1.b.cell 15 rfl
      by_cases hlt : j < f.hd.len
      · have ij : (j : Int) < f.hd.len := by omega
        rw [HNH.out (by omega)] at c15
        have r1 := HB.out.1.f.hd.row j hlt 1 _ rfl
        have r2 := HB.out.1.f.hd.row j hlt 2 _ rfl
        have HJ : Hid ((f.hd.x j).to ≤ (f.hd.x j).at_ → ∀ i, i < j + 1 → (f.hd.x i).to ≤ (f.hd.x i).at_) := fun h i hi => by
          by_cases e : i = j
          · rw [e]; exact h
          · exact HB.out.2 i (by omega)
        generalize (f.hd.x j).to = xt at *
        generalize (f.hd.x j).at_ = xa at *
        have HB1 := hyd HB.out.1
        clear HB
        go_upto_region 10 with fail
        have x15 : ∀ x : Gr wr, x.w.cell? ⟨w.heap.size, 15, none⟩ = some (.slice (some ⟨f.hd.b, f.hd.o, none⟩) f.hd.len f.hd.cap) := fun x => Gr.cell x c15
        have x1 : ∀ x : Gr wr, x.w.cell? ⟨f.hd.b, f.hd.o + j * 3 + 1, none⟩ = some (.int .i64 xt) := fun x => Gr.cell x r1
        have x2 : ∀ x : Gr wr, x.w.cell? ⟨f.hd.b, f.hd.o + j * 3 + 2, none⟩ = some (.int .i64 xa) := fun x => Gr.cell x r2
        have hNE : Nonempty (Gr wr) := ⟨⟨wr, Below.refl _ _⟩⟩
        clear c15 r1 r2
        refine wp_region_gr (by kernel_rfl) (by kernel_rfl) ?_
        iterate 13 (go_big_quiet_step (fail))
        refine wpQuiet_nil ?_
        rintro y1 ⟨xg, rfl⟩
        have Bg := xg.bl
        generalize xg.w = y1 at Bg ⊢
        have HB2 := hyd (HB1.out.kept Bg)
        clear HB1 Bg x15 x1 x2 hNE
        by_cases k3 : xa < xt
        · go_wp2
          go_ret
          exact ⟨false, rfl, fun h => (by cases h), HB2.out.bl⟩
        · have HE := hyd (HJ.out (by omega))
          clear HJ
          go_wp2
          go_roundw
          case rel => exact ⟨j + 1, by omega, by go_num, HB2.out, HE.out⟩
          case measure => simp [intOf]; omega
      · have ij : ¬ (j : Int) < f.hd.len := by omega
        have HE := hyd (show j = f.hd.len by omega)
        go_wp2
        go_meet
        case rel => rw [← HE.out]; exact HB.out
  case rest =>
  have H4 := hyd (show Fx w f w.heap.size wc ∧ (f.cd.len ≤ 2000 → Agd f) from ⟨hcut.out.1, fun h => ⟨H3.out.2, hcut.out.2, h⟩⟩)
  clear hcut H3
  have c14 := H4.out.1.b.cell 14 rfl
  by_cases k : f.cd.len ≤ 2000
  · have ik : (f.cd.len : Int) ≤ 2000 := by omega
    have HE := hyd (H4.out.2 k)
    clear k
    go_wp2
    go_ret
    exact ⟨true, rfl, fun _ => HE.out, H4.out.1.bl⟩
  · have ik : ¬ (f.cd.len : Int) ≤ 2000 := by omega
    clear k
    go_wp2
    go_ret
    exact ⟨false, rfl, fun h => (by cases h), H4.out.1.bl⟩
end Go.Proofs.Ytibhcbdofadamaa

/- Layer 15: what the statements say of what is come to: the mathematics; rows of numbers appended. -/
namespace Go.Proofs.Ytibhcbdofadamaa
open Go Go.RowKit

def Cf.Rq (f : Cf) (g : Rw Bool) (L : List Int) (stop : Int) (q : Nat) : Prop := Fl.Rch (f.way g) (fun q => (q : Int) ∈ L ∧ q < f.cd.len) stop q
theorem Cf.Rq.lt {f : Cf} {g : Rw Bool} {L : List Int} {stop : Int} {q : Nat} (h : f.Rq g L stop q) : q < f.cd.len := Fl.Rch.lt (fun _ h => h.2) (fun _ _ h => h.1) h
theorem Cf.mem_rch {f : Cf} {g : Rw Bool} {r : Rw Int} {stop a : Int} : a ∈ f.rch g r stop ↔ ∃ q : Nat, a = q ∧ f.Rq g r.ls stop q := by
  unfold Cf.rch
  rw [mem_lstm]
  constructor
  · rintro ⟨q, e, _, h⟩; exact ⟨q, e, h⟩
  · rintro ⟨q, e, h⟩; exact ⟨q, e, Cf.Rq.lt h, h⟩
theorem Cf.rch_more {f : Cf} {g : Rw Bool} {r s : Rw Int} {stop a : Int} (h : ∀ a ∈ r.ls, a ∈ s.ls) (ha : a ∈ f.rch g r stop) : a ∈ f.rch g s stop := by
  obtain ⟨q, e, hq⟩ := Cf.mem_rch.1 ha
  exact Cf.mem_rch.2 ⟨q, e, Fl.Rch.mono (fun p hp => ⟨h _ hp.1, hp.2⟩) hq⟩
theorem Cf.rch_free {f : Cf} {g : Rw Bool} {r : Rw Int} {stop a : Int} (ha : a ∈ f.rch g r stop) : a ∈ f.rch g r (-1) := by
  obtain ⟨q, e, hq⟩ := Cf.mem_rch.1 ha
  exact Cf.mem_rch.2 ⟨q, e, Fl.Rch.free hq⟩
theorem Cf.rch_stop {f : Cf} {g : Rw Bool} {r : Rw Int} {stop : Int} (h : stop ∉ f.rch g r (-1)) : f.rch g r stop = f.rch g r (-1) := by
  unfold Cf.rch
  congr 1
  apply Fl.lst_congr
  intro p _
  exact ⟨Fl.Rch.free, Fl.Rch.unfree (fun q e hq => h (Cf.mem_rch.2 ⟨q, e.symm, hq⟩))⟩
theorem Cf.rch_union {f : Cf} {g : Rw Bool} {r s t : Rw Int} {stop a : Int} (h : t.ls = r.ls ++ s.ls) : a ∈ f.rch g t stop ↔ a ∈ f.rch g r stop ∨ a ∈ f.rch g s stop := by
  have key : ∀ q, f.Rq g t.ls stop q ↔ f.Rq g r.ls stop q ∨ f.Rq g s.ls stop q := fun q => by
    unfold Cf.Rq
    rw [← Fl.Rch.union, h]
    constructor
    · exact Fl.Rch.mono (fun p hp => (List.mem_append.1 hp.1).imp (fun h => ⟨h, hp.2⟩) (fun h => ⟨h, hp.2⟩))
    · exact Fl.Rch.mono (fun p hp => hp.elim (fun h => ⟨List.mem_append.2 (Or.inl h.1), h.2⟩) (fun h => ⟨List.mem_append.2 (Or.inr h.1), h.2⟩))
  rw [Cf.mem_rch, Cf.mem_rch, Cf.mem_rch]
  constructor
  · rintro ⟨q, e, hq⟩
    exact ((key q).1 hq).imp (fun h => ⟨q, e, h⟩) (fun h => ⟨q, e, h⟩)
  · rintro (⟨q, e, hq⟩ | ⟨q, e, hq⟩)
    · exact ⟨q, e, (key q).2 (Or.inl hq)⟩
    · exact ⟨q, e, (key q).2 (Or.inr hq)⟩
theorem Cf.rch_union_len {f : Cf} {g : Rw Bool} {r s t : Rw Int} {stop : Int} (h : t.ls = r.ls ++ s.ls) : (f.rch g t stop).length ≤ (f.rch g r stop).length + (f.rch g s stop).length := by
  unfold Cf.rch
  rw [List.length_map, List.length_map, List.length_map]
  refine Fl.lst_union_len (fun p hp => ?_)
  have := (Cf.rch_union (f := f) (g := g) (stop := stop) (a := (p : Int)) h).1 (Cf.mem_rch.2 ⟨p, rfl, hp⟩)
  rw [Cf.mem_rch, Cf.mem_rch] at this
  rcases this with ⟨q, e, hq⟩ | ⟨q, e, hq⟩
  · have : p = q := by omega
    subst this; exact Or.inl hq
  · have : p = q := by omega
    subst this; exact Or.inr hq
theorem Cf.rch_from {f : Cf} {g : Rw Bool} {r : Rw Int} {stop : Int} {q : Nat} (h1 : (q : Int) ∈ r.ls) (h2 : q < f.cd.len) (h3 : (q : Int) ≠ stop) : (q : Int) ∈ f.rch g r stop := Cf.mem_rch.2 ⟨q, rfl, .base ⟨h1, h2⟩ h3⟩
theorem Cf.rch_way {f : Cf} {g : Rw Bool} {r : Rw Int} {stop : Int} {p : Nat} {a : Int} (h1 : (p : Int) ∈ f.rch g r stop) (h2 : a ∈ f.ws g p) (h3 : a ≠ stop) : a ∈ f.rch g r stop := by
  obtain ⟨p', e, hp⟩ := Cf.mem_rch.1 h1
  have : p = p' := by omega
  subst this
  obtain ⟨q, rfl, _, hq⟩ := mem_lstm.1 h2
  exact Cf.mem_rch.2 ⟨q, rfl, .step hp hq h3⟩
theorem Cf.rch_come {f : Cf} {g : Rw Bool} {r : Rw Int} {stop a : Int} (h : a ∈ f.rch g r stop) : a ∈ r.ls ∨ ∃ p : Nat, (p : Int) ∈ f.rch g r stop ∧ a ∈ f.ws g p := by
  obtain ⟨q, rfl, hq⟩ := Cf.mem_rch.1 h
  rcases Fl.Rch.come hq with h1 | ⟨p, h1, h2⟩
  · exact Or.inl h1.1
  · exact Or.inr ⟨p, Cf.mem_rch.2 ⟨p, rfl, h1⟩, mem_lstm.2 ⟨q, rfl, h2.1, h2⟩⟩
theorem Cf.rch_ne {f : Cf} {g : Rw Bool} {r : Rw Int} {stop a : Int} (h : a ∈ f.rch g r stop) : a ≠ stop := by
  obtain ⟨q, rfl, hq⟩ := Cf.mem_rch.1 h
  exact Fl.Rch.ne hq
theorem Cf.rch_len (f : Cf) (g : Rw Bool) (r : Rw Int) (stop : Int) : (f.rch g r stop).length ≤ f.cd.len := by
  unfold Cf.rch; rw [List.length_map]; exact lst_len _ _
theorem Rw.rising {r : Rw Int} {n : Nat} {P : Nat → Prop} (h : r.ls = (Fl.lst n P).map fun q : Nat => (q : Int)) {i : Nat} (hi : i + 1 < r.len) : r.x i < r.x (i + 1) := by
  have hp := lstm_rising n P
  rw [← h] at hp
  have := List.pairwise_iff_getElem.1 hp i (i + 1) (by rw [r.ls_len]; omega) (by rw [r.ls_len]; omega) (by omega)
  have e1 := r.ls_get i (by omega)
  have e2 := r.ls_get (i + 1) hi
  rw [List.getElem?_eq_getElem (by rw [r.ls_len]; omega)] at e1 e2
  rw [Option.some.inj e1, Option.some.inj e2] at this
  exact this
theorem Rw.has_true {r : Rw Int} {a : Int} (h : a ∈ r.ls) : r.has a = true := decide_eq_true h
/-- A result's list, read. -/
theorem Oi.read {w : World} {base n : Nat} {v : Value} {P : Nat → Prop} (h : Oi w base v ((Fl.lst n P).map fun q : Nat => (q : Int))) (hn : n ≤ 100000) : ∃ r : Rw Int, v = .slice r.ao r.len r.cap ∧ NmAt w r ∧ r.ls = (Fl.lst n P).map (fun q : Nat => (q : Int)) ∧ base ≤ r.b := by
  have hs := lstm_small (n := n) (P := P) hn
  obtain ⟨r, h1, h2, h3, _, h5⟩ := h.rw hs.1 hs.2
  exact ⟨r, h1, h2, h3, h5⟩

theorem Oi.readR {w : World} {base : Nat} {v : Value} {f : Cf} {g : Rw Bool} {r : Rw Int} {stop : Int} (h : Oi w base v (f.rch g r stop)) (hn : f.cd.len ≤ 100000) : ∃ s : Rw Int, v = .slice s.ao s.len s.cap ∧ NmAt w s ∧ s.ls = f.rch g r stop := by
  unfold Cf.rch at *
  obtain ⟨s, h1, h2, h3, _⟩ := h.read hn
  exact ⟨s, h1, h2, h3⟩
theorem Oi.readW {w : World} {base : Nat} {v : Value} {f : Cf} {g : Rw Bool} {p : Nat} (h : Oi w base v (f.ws g p)) (hn : f.cd.len ≤ 100000) : ∃ s : Rw Int, v = .slice s.ao s.len s.cap ∧ NmAt w s ∧ s.ls = f.ws g p := by
  unfold Cf.ws Cf.wsH at *
  obtain ⟨s, h1, h2, h3, _⟩ := h.read hn
  exact ⟨s, h1, h2, h3⟩
/-- Nil is empty. -/
def Nn {α : Type} (r : Rw α) : Prop := r.ao = none → r.len = 0 ∧ r.cap = 0
theorem ivL_ls_cell {w : World} {r : Rw Int} (h : NmAt w r) : ∀ a, r.ao = some a → ∀ j u, (ivL r.ls)[j]? = some u → w.cell? (a.add j) = some u := by
  intro a ha j u hj
  have hlt : j < r.len := by have := (List.getElem?_eq_some_iff.1 hj).1; rwa [ivL_len, r.ls_len] at this
  have e := h.nil (by omega)
  rw [ha] at e
  cases e
  have hu : u = .int .i64 (r.x j) := by
    have := r.ls_get j hlt
    unfold ivL at hj
    rw [List.getElem?_map, this] at hj
    exact (Option.some.inj hj).symm
  subst hu
  rw [adp]
  have := h.row j hlt 0 _ rfl
  simpa using this
/-- A list put behind. -/
theorem wpList_appR {w : World} {ops : Array Oper} {rest : List Oper} {o : Oper} {a : Act} {Q : Exit → Act → World → Prop} (hgd : o.guard = none) (s x : Operand)
    (hop : o.op = .call { callee := .builtin .append, args := #[s, x], argTypes := #[36, 36] }) (base : Nat) (v : Value) (l : List Int) (r : Rw Int) (hs : a.eval s = v) (ho : Oi w base v l) (hx : a.eval x = .slice r.ao r.len r.cap) (hr : NmAt w r) (hn : Nn r) (hl : l.length + r.len ≤ 1000000) (hb : base ≤ w.heap.size)
    (h : ∀ v' w', Oi w' base v' (l ++ r.ls) → w.grownBy w' v.ownBlock → wpList Try.prog ops Q rest (a.put o.dst v') w') : wpList Try.prog ops Q (o :: rest) a w := by
  refine wpList_append_any Try.underlying36 Try.infoI rfl (by decide) hgd s x hop base v l.length (ivL l) hs ho r.ao r.len r.cap (ivL r.ls) hx hn (by rw [ivL_len, r.ls_len]; omega) (ivL_ls_cell hr) (ivL_one _) (by unfold maxLen; omega) (by omega) hb ?_
  intro v' w' h1 h2
  refine h v' w' ?_ h2
  unfold Oi
  rw [List.length_append, ivL, List.map_append, r.ls_len]
  exact h1
/-- The boxes of a statement's f and x. -/
def axV (g : Rw Bool) (r : Rw Int) (stop : Int) : List Value := [.slice g.ao g.len g.cap, .slice r.ao r.len r.cap, .int .i64 stop]
end Go.Proofs.Ytibhcbdofadamaa
