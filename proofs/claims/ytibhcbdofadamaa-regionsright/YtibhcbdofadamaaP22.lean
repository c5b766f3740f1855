/- Layer 16: Make: the regions of all places that branch. -/
import Derived.Test.YtibhcbdofadamaaP20
import Derived.Test.YtibhcbdofadamaaP21
import Derived.Test.YtibhcbdofadamaaP11
import Derived.Test.YtibhcbdofadamaaP5
import Derived.Test.YtibhcbdofadamaaP17
import Derived.Test.YtibhcbdofadamaaP19
namespace Go.Proofs.Ytibhcbdofadamaa
open Go Go.RowKit

/-- The places that branch, up to one. -/
def brL (f : Cf) (g : Rw Bool) (j : Nat) : List Nat := (List.range j).filter (f.br g)
theorem brL_succ (f : Cf) (g : Rw Bool) (j : Nat) : brL f g (j + 1) = brL f g j ++ (if f.br g j = true then [j] else []) := by
  unfold brL
  rw [List.range_succ, List.filter_append]
  cases h : f.br g j <;> simp [h]
theorem brL_len (f : Cf) (g : Rw Bool) (j : Nat) : (brL f g j).length ≤ j := by
  unfold brL
  exact Nat.le_trans (List.length_filter_le _ _) (by simp)
theorem brL_pre (f : Cf) (g : Rw Bool) (j : Nat) : ∀ k, ∃ t, brL f g (j + k) = brL f g j ++ t
  | 0 => ⟨[], by simp⟩
  | k + 1 => by
    obtain ⟨t, h⟩ := brL_pre f g j k
    refine ⟨t ++ (if f.br g (j + k) = true then [j + k] else []), ?_⟩
    rw [← Nat.add_assoc, brL_succ, h, List.append_assoc]
/-- A place that branches stands where those ahead of it end. -/
theorem brL_at {f : Cf} {g : Rw Bool} {j n : Nat} (hj : j < n) (hb : f.br g j = true) : (brL f g j).length < (brL f g n).length ∧ (brL f g n).getD (brL f g j).length 0 = j := by
  obtain ⟨t, h⟩ := brL_pre f g (j + 1) (n - (j + 1))
  rw [show j + 1 + (n - (j + 1)) = n by omega, brL_succ, if_pos hb] at h
  rw [h]
  refine ⟨by simp, ?_⟩
  rw [List.append_assoc, List.getD_eq_getElem?_getD, List.getElem?_append_right (Nat.le_refl _)]
  simp
/-- A region that was made, its places in memory of their own. -/
structure ERg (f : Cf) (g : Rw Bool) (base p : Nat) (x : Rn) (u : World) : Prop where
  md : Md f g p x
  oi : Oi u base (.slice x.ps.ao x.ps.len x.ps.cap) x.ps.ls
  i1 : I64 x.at_
  i2 : I64 x.join
theorem ERg.open_ {f : Cf} {g : Rw Bool} {base p : Nat} {x : Rn} {u : World} (h : ERg f g base p x u) (hn : f.cd.len ≤ 100000) : ∃ x' : Rn, x'.vs = x.vs ∧ x'.At u ∧ Md f g p x' := by
  have hs := lstm_small (n := f.cd.len) (P := Fl.Rch (f.wy g) (f.wy g p) (f.jn g p)) hn
  rw [← h.md.ps] at hs
  obtain ⟨r, h2, h3, h4, _, _⟩ := h.oi.rw hs.1 hs.2
  exact ⟨⟨x.at_, x.join, r⟩, by show [Value.int .i64 x.at_, Value.int .i64 x.join, Value.slice r.ao r.len r.cap] = _; rw [← h2]; rfl, ⟨h.i1, h.i2, h3⟩, ⟨h.md.at_, h.md.join, by rw [← h.md.ps]; exact h4⟩⟩
theorem LnO.gbO {f : Cf} {g : Rw Bool} {base b' z n : Nat} {l : Cf} {u u' : World} {v : Value} {xs : List Value} (h : LnO f g base l u) (hg : u.grownBy u' v.ownBlock) (hv : u.ownsRow b' 38 z v n xs) (hf : f.At u') : ∃ l' : Cf, l'.vs = l.vs ∧ LnO f g base l' u' := by
  have ho := own_gb h.own hg (fun k e e2 => own_ne_own h.own hv (by decide) e e2.symm)
  obtain ⟨l', h1, h2, _, _⟩ := lnO_of (g := g) hf ho h.lat.hd.bound h.each (fun l' e1 e2 e3 => ⟨e1, fun p hp hr => by rw [han_fnd, e2, e3, ← han_fnd]; exact h.ln.han p hp hr⟩)
  exact ⟨l', by rw [h1, ← mdC_vs, ← h.eq], h2⟩
theorem Try.infoRn : (Try.prog.info? 38).map (fun i => (i.zero, i.size, i.bytes)) = some (some (.agg #[.int .i64 0, .int .i64 0, .slice none 0 0]), 3, 40) := by kernel_rfl
def updN (F : Nat → Rn) (m : Nat) (x : Rn) : Nat → Rn := fun i => if i < m then F i else x
/-- One region more. -/
theorem wpList_appN {w : World} {ops : Array Oper} {rest : List Oper} {o : Oper} {a : Act} {Q : Exit → Act → World → Prop} (hgd : o.guard = none) (s x : Operand)
    (hop : o.op = .call { callee := .builtin .append, args := #[s, x], argTypes := #[28, 28] }) (base : Nat) (v : Value) (m : Nat) (F : Nat → Rn) (h0 : Rn) (hs : a.eval s = v) (ho : w.ownsRow base 38 3 v m (flatN (fun i => (F i).vs) m)) (hx : a.eval x = .slice (some ⟨w.heap.size, 0, none⟩) 1 1) (hl : m ≤ 1000000) (hb : base ≤ w.heap.size)
    (h : ∀ v' w', w'.ownsRow base 38 3 v' (m + 1) (flatN (fun i => (updN F m h0 i).vs) (m + 1)) → w.grownBy w' v.ownBlock → wpList Try.prog ops Q rest (a.put o.dst v') w') : wpList Try.prog ops Q (o :: rest) a (w.alloc (.cells h0.vs.toArray 38)) := by
  have hE : (w.alloc (.cells h0.vs.toArray 38)).ownsRow base 38 3 v m (flatN (fun i => (F i).vs) m) := ho.alloc _
  refine wpList_append_any Try.underlying28 Try.infoRn rfl (by decide) hgd s x hop base v m (flatN (fun i => (F i).vs) m) hs hE (some ⟨w.heap.size, 0, none⟩) 1 1 h0.vs hx (fun h => by cases h) rfl (new_row (cs := h0.vs)) (fun u hu => List.all_eq_true.1 h0.vs_one u hu) (by unfold maxLen; omega) (by omega) (by rw [alloc_size]; omega) ?_
  intro v' w' h1 h2
  refine h v' w' ?_ ?_
  · have e : flatN (fun i => (updN F m h0 i).vs) (m + 1) = flatN (fun i => (F i).vs) m ++ h0.vs := by
      show flatN (fun i => (updN F m h0 i).vs) m ++ (updN F m h0 m).vs = _
      have e1 : updN F m h0 m = h0 := by unfold updN; rw [if_neg (by omega)]
      rw [e1]
      congr 1
      have key : ∀ k, k ≤ m → flatN (fun i => (updN F m h0 i).vs) k = flatN (fun i => (F i).vs) k := fun k => by
        induction k with
        | zero => intro _; rfl
        | succ k ih =>
          intro hk
          show flatN _ k ++ (updN F m h0 k).vs = flatN _ k ++ (F k).vs
          have e2 : updN F m h0 k = F k := by unfold updN; rw [if_pos (by omega)]
          rw [ih (by omega), e2]
      exact key m (Nat.le_refl _)
    rw [e]
    exact h1
  · have g0 := World.grownBy_alloc w (.cells h0.vs.toArray 38) v.ownBlock
    refine ⟨h2.os.trans g0.os, h2.tape.trans g0.tape, h2.output.trans g0.output, Nat.le_trans g0.size h2.size, fun k hk hne => ?_⟩
    rw [h2.block k (by rw [alloc_size]; omega) hne]
    exact g0.block k hk hne
structure Mk (w0 : World) (f : Cf) (g : Rw Bool) (lv : List Value) (BJ j : Nat) (F : Nat → Rn) (v : Value) (u : World) : Prop where
  bl : Below w0.heap.size w0 u
  b : Blk u w0.heap.size lv 30
  bJ : Blk u BJ (nvL (f.jn g) f.cd.len) 3
  lo : ∃ l : Cf, l.vs = lv ∧ LnO f g (w0.heap.size + 1) l u
  own : u.ownsRow (w0.heap.size + 1) 38 3 v (brL f g j).length (flatN (fun i => (F i).vs) (brL f g j).length)
  each : ∀ i, i < (brL f g j).length → ERg f g (w0.heap.size + 1) ((brL f g j).getD i 0) (F i) u
  ne : w0.heap.size < BJ
theorem Mk.kept {w0 : World} {f : Cf} {g : Rw Bool} {lv : List Value} {BJ j : Nat} {F : Nat → Rn} {v : Value} {u u' : World} (h : Mk w0 f g lv BJ j F v u) (hb : Below u.heap.size u u') : Mk w0 f g lv BJ j F v u' :=
  ⟨Below.next h.bl hb, h.b.kept hb, h.bJ.kept hb, by obtain ⟨l, h1, h2⟩ := h.lo; exact ⟨l, h1, h2.kept hb⟩, owk h.own hb, fun i hi => ⟨(h.each i hi).md, (h.each i hi).oi.kept hb, (h.each i hi).i1, (h.each i hi).i2⟩, h.ne⟩
theorem Mk.skip {w0 : World} {f : Cf} {g : Rw Bool} {lv : List Value} {BJ j : Nat} {F : Nat → Rn} {v : Value} {u : World} (h : Mk w0 f g lv BJ j F v u) (hb : f.br g j = false) : Mk w0 f g lv BJ (j + 1) F v u := by
  have e : brL f g (j + 1) = brL f g j := by rw [brL_succ, hb]; simp
  exact ⟨h.bl, h.b, h.bJ, h.lo, by rw [e]; exact h.own, by rw [e]; exact h.each, h.ne⟩
theorem Mk.app {w0 : World} {f : Cf} {g : Rw Bool} {lv : List Value} {BJ j : Nat} {F : Nat → Rn} {v v' : Value} {x : Rn} {u u' : World} (h : Mk w0 f g lv BJ j F v u) (hf : f.At w0) (hb : f.br g j = true) (hx : ERg f g (w0.heap.size + 1) j x u)
    (ho : u'.ownsRow (w0.heap.size + 1) 38 3 v' ((brL f g j).length + 1) (flatN (fun i => (updN F (brL f g j).length x i).vs) ((brL f g j).length + 1))) (hg : u.grownBy u' v.ownBlock) : Mk w0 f g lv BJ (j + 1) (updN F (brL f g j).length x) v' u' := by
  have e : brL f g (j + 1) = brL f g j ++ [j] := by rw [brL_succ, hb]; rfl
  have el : (brL f g (j + 1)).length = (brL f g j).length + 1 := by rw [e]; simp
  have hbl : Below w0.heap.size w0 u' := gb_bel h.bl hg (fun k e => by have := (owb h.own e).1; omega)
  have t1 : (38 : TypeId) ≠ 30 := by decide
  have t2 : (38 : TypeId) ≠ 3 := by decide
  have t3 : (3 : TypeId) ≠ 38 := by decide
  have hE : ∀ p y, ERg f g (w0.heap.size + 1) p y u → ERg f g (w0.heap.size + 1) p y u' := fun p y hy => ⟨hy.md, own_gb hy.oi hg (fun k e e2 => own_ne_own hy.oi h.own t3 e e2.symm), hy.i1, hy.i2⟩
  refine ⟨hbl, h.b.gb hg (own_ne_blk h.own h.b t1), h.bJ.gb hg (own_ne_blk h.own h.bJ t2), ?_, by rw [el]; exact ho, fun i hi => ?_, h.ne⟩
  · obtain ⟨l, h1, h2⟩ := h.lo
    obtain ⟨l', h3, h4⟩ := h2.gbO hg h.own (Cf.At.kept hbl hf)
    exact ⟨l', by rw [h3, h1], h4⟩
  · rw [el] at hi
    rw [e]
    by_cases c : i < (brL f g j).length
    · have e1 : updN F (brL f g j).length x i = F i := by unfold updN; rw [if_pos c]
      rw [e1, List.getD_eq_getElem?_getD, List.getElem?_append_left c, ← List.getD_eq_getElem?_getD]
      exact hE _ _ (h.each i c)
    · have ei : i = (brL f g j).length := by omega
      have e1 : updN F (brL f g j).length x i = x := by unfold updN; rw [if_neg c]
      rw [e1, ei, List.getD_eq_getElem?_getD, List.getElem?_append_right (Nat.le_refl _)]
      simpa using hE _ _ hx
def MkP (f : Cf) (g : Rw Bool) (w : World) : Ending → World → Prop := fun e w' => ∃ r : Rw Rn, e = .returned (.slice r.ao r.len r.cap) ∧ RnsAt w' r ∧ r.len = (brL f g f.cd.len).length ∧ (∀ i, i < r.len → Md f g ((brL f g f.cd.len).getD i 0) (r.x i)) ∧ Below w.heap.size w w'
theorem Mk.done {w0 : World} {f : Cf} {g : Rw Bool} {lv : List Value} {BJ : Nat} {F : Nat → Rn} {v : Value} {u : World} (h : Mk w0 f g lv BJ f.cd.len F v u) (hn : f.cd.len ≤ 100000) : MkP f g w0 (.returned v) u := by
  have hc : ∀ i : Nat, ∃ x' : Rn, i < (brL f g f.cd.len).length → (x'.vs = (F i).vs ∧ x'.At u ∧ Md f g ((brL f g f.cd.len).getD i 0) x') := fun i => by
    by_cases c : i < (brL f g f.cd.len).length
    · obtain ⟨x', hx'⟩ := (h.each i c).open_ hn
      exact ⟨x', fun _ => hx'⟩
    · exact ⟨F i, fun h => absurd h c⟩
  obtain ⟨F', hF'⟩ := Classical.axiomOfChoice hc
  have key : ∀ k, k ≤ (brL f g f.cd.len).length → flatN (fun i => (F' i).vs) k = flatN (fun i => (F i).vs) k := fun k => by
    induction k with
    | zero => intro _; rfl
    | succ k ih =>
      intro hk
      show flatN _ k ++ (F' k).vs = flatN _ k ++ (F k).vs
      rw [ih (by omega), (hF' k (by omega)).1]
  have ho := h.own
  rw [← key _ (Nat.le_refl _)] at ho
  obtain ⟨r, h1, h2, h3, h4⟩ := Rw.of_own (vs := Rn.vs) (z := 3) (A := Rn.At) (fun _ => rfl) ho (by have := brL_len f g f.cd.len; omega) (fun i hi => (hF' i hi).2.1)
  exact ⟨r, by rw [h1], h2, h3, fun i hi => by rw [h4]; exact (hF' i (by rw [← h3]; exact hi)).2.2, h.bl⟩

set_option maxRecDepth 100000 in
set_option maxHeartbeats 16000000 in
theorem make16_any (f : Cf) (g : Rw Bool) (w : World) (hf : f.At w) (hg : BlAt w g) (hA : Agd f) (hh : f.hd.len ≤ 100000) : Calls Try.prog 10 #[.agg f.vs.toArray, .slice g.ao g.len g.cap] w (MkP f g w) := by
  have hn : f.cd.len ≤ 100000 := by have := hA.few; omega
  have H1 := hyd (Fb.new w f)
  have HD := hyd (show (f.At w ∧ BlAt w g) ∧ Agd f from ⟨⟨hf, hg⟩, hA⟩)
  clear hf hg hA
  generalize hw : w.alloc (.cells f.vs.toArray 30) = u1 at *
  go_enter Try.func10, Try.ntmps10
  go_upto_region 1 with fail
  clear hw
  have rF := H1.out.b.range
  have h0 := goesAhead_yes f u1 (Cf.At.kept H1.out.bl HD.out.1.1) HD.out.2
  go_wp2_with (refine wpList_load_mid rfl 30 (.tmp 2) rfl w.heap.size 0 (by kernel_rfl) f.vs _ rF Try.underlying30 rfl (by kernel_rfl) ?_)
  refine h0.mono ?_
  rintro _ u2 ⟨rfl, hb⟩
  have H2 := hyd (H1.out.kept hb)
  clear h0 hb H1 rF
  have rF := H2.out.b.range
  have h0 := lean_any f g u2 (Cf.At.kept H2.out.bl HD.out.1.1) (BlAt.kept HD.out.1.2 H2.out.bl) hn hh
  go_wp2_with (refine wpList_load_mid rfl 30 (.tmp 2) rfl w.heap.size 0 (by kernel_rfl) f.vs _ rF Try.underlying30 rfl (by kernel_rfl) ?_)
  refine h0.mono ?_
  rintro _ u3 ⟨l0, rfl, hlO, hb⟩
  have H3 := hyd (show Fb w f w.heap.size u3 ∧ LnO f g u2.heap.size l0 u3 ∧ w.heap.size + 1 ≤ u2.heap.size from ⟨H2.out.kept hb, hlO, by have := H2.out.b.lt; omega⟩)
  clear h0 hlO hb H2 rF
  go_upto_region 4 with (refine wpList_store_blk rfl rfl 30 (.tmp 2) (.tmp 13) rfl w.heap.size l0.vs rfl rfl l0.vs_one H3.out.1.b rfl (by kernel_rfl) ?_; intro w4 W4; have H40 := hyd (show Below w.heap.size w w4 ∧ Blk w4 w.heap.size l0.vs 30 ∧ w.heap.size + 1 ≤ u2.heap.size from ⟨gb_bel H3.out.1.bl W4.gb (fun k e => by have := Option.some.inj e; omega), W4.blk, H3.out.2.2⟩); have HG4 := hyd (H3.out.2.1.gb W4.gb H3.out.1.b (Cf.At.kept H40.out.1 HD.out.1.1)); clear W4 H3)
  obtain ⟨l, hlv, hlO⟩ := HG4.out
  rw [← hlv] at H40 ⊢
  have H4 := hyd (show Below w.heap.size w w4 ∧ Blk w4 w.heap.size l.vs 30 ∧ LnO f g (w.heap.size + 1) l w4 from ⟨H40.out.1, H40.out.2.1, ⟨hlO.lat, hlO.ln, own_monoG hlO.own H40.out.2.2, hlO.eq, hlO.each⟩⟩)
  clear H40 HG4 hlv hlO
  have rF := H4.out.2.1.range
  have h0 := joins_any l g w4 H4.out.2.2.lat (BlAt.kept HD.out.1.2 H4.out.1) (H4.out.2.2.ln.up (HD.out.2.up g)) (by rw [H4.out.2.2.ln.cd]; exact hn)
  have HLC := hyd H4.out.2.2.ln.cd
  have HLJ := hyd (fun p => H4.out.2.2.ln.jn p)
  have HLB := hyd (fun p => H4.out.2.2.ln.br p)
  go_wp2_with (refine wpList_load_mid rfl 30 (.tmp 2) rfl w.heap.size 0 (by kernel_rfl) l.vs _ rF Try.underlying30 rfl (by kernel_rfl) ?_)
  refine h0.mono ?_
  rintro _ u5 ⟨BJ, rfl, hBJn, hBJ, hb⟩
  have H5 : Hid (Mk w f g l.vs BJ 0 (fun _ => ⟨0, 0, nilRw 0⟩) (.slice none 0 0) u5) := ⟨Below.next H4.out.1 hb, H4.out.2.1.kept hb, by
    have e : nvL (l.jn g) l.cd.len = nvL (f.jn g) f.cd.len := by rw [HLC.out]; exact nvL_congr fun p _ => HLJ.out p
    rw [← e]; exact hBJ, ⟨l, rfl, H4.out.2.2.kept hb⟩, World.ownsRow_nil _ _ _ _, fun i hi => absurd hi (Nat.not_lt_zero _), by have := H4.out.2.1.lt; omega⟩
  rw [HLC.out]
  clear h0 hBJn hBJ hb H4 rF HLJ
  go_wp2
  go_loopw [5, 18] (fun v i wr => ∃ (j : Nat) (F : Nat → Rn), j ≤ f.cd.len ∧ i = .int .i64 j ∧ Mk w f g l.vs BJ j F v wr) (fun _ i _ => f.cd.len - (intOf i).toNat)
  case atStart => exact ⟨0, _, Nat.zero_le _, rfl, H5.out⟩
  case round =>
    clear H5
    obtain ⟨j, F, hj, rfl, hB⟩ := hrel
    have HB := hyd hB
    clear hB
    by_cases hlt : j < f.cd.len
    · as_aux_lemma =>
      have ij : (j : Int) < f.cd.len := by omega
      have cJ := HB.out.bJ.cell j (nvL_get (f.jn g) hlt)
      have HJI := hyd (jn_i64 (HD.out.2.up g) hlt hn)
      have HJZ : Hid (∀ x, Rg1 f g j (f.jn g j) x → Md f g j x) := fun x h => h.md
      generalize f.jn g j = z at *
      go_upto_region 8 with fail
      clear cJ
      obtain ⟨l', hlv', hlO'⟩ := HB.out.lo
      have HLO := hyd hlO'
      rw [← hlv'] at HB ⊢
      have HLV := hyd hlv'
      clear hlO' hlv'
      have rF := HB.out.b.range
      have h0 := branches_any l' g j wr HLO.out.lat (BlAt.kept HD.out.1.2 HB.out.bl) (by rw [HLO.out.ln.cd]; exact hlt)
      rw [HLO.out.ln.br] at h0
      have HSK := hyd (fun h => HB.out.skip (hb := h))
      have HBR : Hid (f.br g j = f.br g j) := rfl
      cases hbr : f.br g j
      · rw [hbr] at h0
        go_wp2_with (refine wpList_load_mid rfl 30 (.tmp 2) rfl w.heap.size 0 (by kernel_rfl) l'.vs _ rF Try.underlying30 rfl (by kernel_rfl) ?_)
        refine h0.mono ?_
        rintro _ u6 ⟨rfl, hb⟩
        have H6 := hyd ((HSK.out hbr).kept hb)
        rw [HLV.out] at H6
        clear h0 hb HB rF HSK HBR hbr
        rw [HLV.out]
        go_wp2
        go_roundw
        case rel => exact ⟨j + 1, _, by omega, by go_num, H6.out⟩
        case measure => simp [intOf]; omega
      · rw [hbr] at h0
        go_wp2_with (refine wpList_load_mid rfl 30 (.tmp 2) rfl w.heap.size 0 (by kernel_rfl) l'.vs _ rF Try.underlying30 rfl (by kernel_rfl) ?_)
        refine h0.mono ?_
        rintro _ u6 ⟨rfl, hb⟩
        have H6 := hyd (show Mk w f g l'.vs BJ j F u5 u6 ∧ LnO f g (w.heap.size + 1) l' u6 from ⟨HB.out.kept hb, HLO.out.kept hb⟩)
        have HBY := hyd hbr
        clear h0 hb HB rF HSK HBR hbr HLO
        have rF := H6.out.1.b.range
        have h0 := region_any l' g j z u6 H6.out.2.lat (BlAt.kept HD.out.1.2 H6.out.1.bl) (by rw [H6.out.2.ln.cd]; exact hlt) HJI.out (by rw [H6.out.2.ln.cd]; exact hn)
        go_wp2_with (refine wpList_load_mid rfl 30 (.tmp 2) rfl w.heap.size 0 (by kernel_rfl) l'.vs _ rF Try.underlying30 rfl (by kernel_rfl) ?_)
        refine h0.mono ?_
        rintro _ u7 ⟨x, rfl, hx, hR, hO, hb⟩
        have H7 := hyd (show Mk w f g l'.vs BJ j F u5 u7 ∧ ERg f g (w.heap.size + 1) j x u7 from ⟨H6.out.1.kept hb, ⟨HJZ.out x (H6.out.2.ln.region hR), own_mono hO (by have := H6.out.1.b.lt; omega), hx.at_, hx.join⟩⟩)
        clear h0 hx hR hO hb H6 rF
        rw [show x.vs.toArray = #[Value.int .i64 x.at_, Value.int .i64 x.join, Value.slice x.ps.ao x.ps.len x.ps.cap] from rfl]
        go_wp2_with (at_builtin; refine wpList_appN rfl _ _ rfl (w.heap.size + 1) u5 (brL f g j).length F x rfl H7.out.1.own rfl (by have := brL_len f g j; omega) (by have := H7.out.1.b.lt; omega) ?_; intro v8 w8 h8 g8; have H8 := hyd (H7.out.1.app HD.out.1.1 HBY.out H7.out.2 h8 g8); clear h8 g8 H7)
        rw [HLV.out] at H8 ⊢
        go_roundw
        case rel => exact ⟨j + 1, _, by omega, by go_num, H8.out⟩
        case measure => simp [intOf]; omega
    · have ij : ¬ (j : Int) < f.cd.len := by omega
      have hje : j = f.cd.len := by omega
      subst hje
      have HE := hyd (HB.out.done hn)
      go_wp2
      go_ret
      exact HE.out
end Go.Proofs.Ytibhcbdofadamaa

/- The rest of a drawn region, quiet in all worlds that grew. -/
namespace Go.Proofs.Ytibhcbdofadamaa
open Go Go.RowKit

theorem wpAnyH_quietR {P : Program} {md : Region.Mode} {ops : Array Oper} {C S : World → Prop} {Q : Exit → Act → World → Prop} {Q' : Act → Prop} (hCS : ∀ w, C w → S w) (hQ : ∀ a w, C w → Q' a → Q .normal a w) : ∀ (fuel : Nat) (listed : Array Bool) (a : Act) (w : World), C w → wpAnyQ P md ops C Q' fuel listed a → wpAnyH P md ops Q S fuel listed a w
  | 0, _, _, _, hw, h => ⟨h.1, hQ _ _ hw h.2⟩
  | fuel + 1, _, _, _, hw, h => ⟨fun h0 => hQ _ _ hw (h.1 h0), fun i hi => wpOp_of_qOp hw (fun a' w' hw' h' => ⟨hCS _ hw', wpAnyH_quietR hCS hQ fuel _ a' w' hw' h'⟩) (h.2 i hi)⟩
theorem wpAnyH_grR {P : Program} {L : List Oper} {S : World → Prop} {Q : Exit → Act → World → Prop} {fuel : Nat} {listed : Array Bool} {a : Act} {w : World} (k : Nat) (hf : (L.drop k).length = fuel) (hB : (Region.noSelect L.toArray && Region.lexFrom .any L.toArray (L.drop k).length k listed) = true) (hS : ∀ u, Below w.heap.size w u → S u)
    (h : wpQuiet P L.toArray (fun u => ∃ x : Gr w, u = x.w) (fun a' => ∀ u, (∃ x : Gr w, u = x.w) → Q .normal a' u) (L.drop k) a) : wpAnyH P .any L.toArray Q S fuel listed a w := by
  rw [Bool.and_eq_true] at hB
  subst hf
  refine wpAnyH_quietR (C := fun u => ∃ x : Gr w, u = x.w) (Q' := fun a' => ∀ u, (∃ x : Gr w, u = x.w) → Q .normal a' u) (fun u hu => by obtain ⟨x, rfl⟩ := hu; exact hS _ x.bl) (fun a' u hu h' => h' u hu) _ _ _ _ ⟨⟨_, Below.refl _ _⟩, rfl⟩ ?_
  exact wpAnyQ_lex hB.1 (L.drop k) k listed a (fun j => by simp) hB.2 h
/-- The boxes of a statement's function and region. -/
structure F2 (w0 : World) (f : Cf) (x : Rn) (u : World) : Prop where
  bl : Below w0.heap.size w0 u
  b : Blk u w0.heap.size f.vs 30
  bX : Blk u (w0.heap.size + 1) x.vs 38
theorem F2.kept {w0 : World} {f : Cf} {x : Rn} {u u' : World} (h : F2 w0 f x u) (hb : Below u.heap.size u u') : F2 w0 f x u' := ⟨Below.next h.bl hb, h.b.kept hb, h.bX.kept hb⟩
end Go.Proofs.Ytibhcbdofadamaa

/- What comes into the Flow statements, opened: truths, numbers, what is asked. -/
namespace Go.Proofs.Ytibhcbdofadamaa
open Go.ChangeShapes Go.WideShapes Go.ChangeAt Go.RowKit Go.Deep Go.Joins

theorem Try.kBool : Try.prog.cellsOf 4 = 1 := by kernel_rfl
theorem Try.kBools : Try.prog.cellsOf 31 = 1 := by kernel_rfl
section
variable {H : Type} {enc : TypeId × Value → H} {W : World} {base : Nat}
theorem kopen_bl (fuel : Nat) (cs : List Value) (x : DataW H × List MemPlace) (h : DataW.trod enc Try.prog W base (fun _ => true) true fuel 4 cs = some x) : ∃ a : Bool, cs = blV a ∧ True := by
  obtain ⟨a, q0, _⟩ := DataW.trod_bool Try.underlying4 h
  exact ⟨a, q0, trivial⟩
theorem kopen_bls {fuel : Nat} {v : Value} {x : DataW H × List MemPlace} (h : DataW.trod enc Try.prog W base (fun _ => true) true fuel 31 [v] = some x) : ∃ r : Rw Bool, v = .slice r.ao r.len r.cap ∧ BlAt W r :=
  kopen Try.underlying31 Try.kBool (by decide) blV (fun _ _ => True) false (fun _ => rfl) kopen_bl h
theorem kopen_nms {fuel : Nat} {v : Value} {x : DataW H × List MemPlace} (h : DataW.trod enc Try.prog W base (fun _ => true) true fuel 36 [v] = some x) : ∃ r : Rw Int, v = .slice r.ao r.len r.cap ∧ NmAt W r ∧ Nn r := by
  obtain ⟨r, rfl, hr⟩ := kopen Try.underlying36 Try.cellsInt' (by decide) numV (fun _ a => I64 a) 0 (fun _ => rfl) kopen_num h
  refine ⟨r, rfl, hr, fun hn => ?_⟩
  rcases kslice Try.underlying36 Try.cellsInt' h with e | ⟨a, len, cap, e, _⟩
  · injection e with _ e2 e3; exact ⟨e2, e3⟩
  · injection e with e1; rw [hn] at e1; cases e1
set_option maxRecDepth 100000 in
theorem open_nms {v : Value} {d : DataW H} {p : List MemPlace} {b0 : Nat} (hv : Value.okWide Try.prog W .any b0 36 v) (h : DataW.Trod enc Try.prog W base (fun _ => true) true 36 v d p) : ∃ r : Rw Int, v = .slice r.ao r.len r.cap ∧ NmAt W r ∧ Nn r := by
  obtain ⟨a0, len0, cap0, rfl⟩ := okWide_slice Try.underlying36 hv
  obtain ⟨fuel, hf⟩ := h
  exact kopen_nms (by simpa [Value.cells] using hf)
set_option maxRecDepth 100000 in
theorem open_bls {v : Value} {d : DataW H} {p : List MemPlace} {b0 : Nat} (hv : Value.okWide Try.prog W .any b0 31 v) (h : DataW.Trod enc Try.prog W base (fun _ => true) true 31 v d p) : ∃ r : Rw Bool, v = .slice r.ao r.len r.cap ∧ BlAt W r := by
  obtain ⟨a0, len0, cap0, rfl⟩ := okWide_slice Try.underlying31 hv
  obtain ⟨fuel, hf⟩ := h
  exact kopen_bls (by simpa [Value.cells] using hf)
end
end Go.Proofs.Ytibhcbdofadamaa
