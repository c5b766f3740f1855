/- Layer 15: what raises, where it jumps to, what is in a list. -/
import Derived.Test.YtibhcbdofadamaaP10
import Derived.BigQuiet
import Derived.Test.YtibhcbdofadamaaP1
import Derived.Sort.OwnSortedInts
import Derived.Lib.OwnBridge
import Derived.Test.YtibhcbdofadamaaP7
namespace Go.Proofs.Ytibhcbdofadamaa
open Go Go.RowKit

set_option maxRecDepth 100000 in
set_option maxHeartbeats 8000000 in
theorem raises_any (f : Cf) (g : Rw Bool) (p : Nat) (w : World) (hf : f.At w) (hg : BlAt w g) (hp : p < f.cd.len) : Calls Try.prog 31 #[.agg f.vs.toArray, .slice g.ao g.len g.cap, .int .i64 p] w fun e w' => e = .returned (.bool (f.rs g p)) ∧ Below w.heap.size w w' := by
  have H1 := hyd (Fx.new w f hf)
  have hpl : f.pl p = true := Cf.pl_iff.2 ⟨by omega, by omega⟩
  have HF : Hid (f.rs g p = (rsO (f.cd.x p).op || (decide ((f.cd.x p).op = 19) && rsG g p))) := rfl
  have hbd := hf.cd.bound
  have ip : (p : Int) < f.cd.len := by omega
  have HN14 := hyd (hf.cd.nil (by omega))
  have HGR := hyd hg
  clear hf hg
  generalize f.rs g p = F at *
  have h0 := fplace_any f p (w.alloc (.cells f.vs.toArray 30))
  rw [hpl] at h0
  have rF := H1.out.b.range
  generalize hw : w.alloc (.cells f.vs.toArray 30) = u1 at *
  go_enter Try.func31, Try.ntmps31
  go_wp2_with (refine wpList_load_mid rfl 30 (.tmp 3) rfl w.heap.size 0 (by kernel_rfl) f.vs _ rF Try.underlying30 rfl (by kernel_rfl) ?_)
  refine h0.mono ?_
  rintro _ u2 ⟨rfl, hb⟩
  have H2 := hyd (H1.out.kept hb)
  have HG := hyd (BlAt.kept HGR.out H2.out.bl)
  clear h0 hb H1 rF hpl hw HGR
  have c14 := H2.out.b.cell 14 rfl
  rw [HN14.out] at c14
  have r0 := H2.out.f.cd.row p hp 0 _ rfl
  simp only [Nat.add_zero] at r0
  generalize (f.cd.x p).op = op at *
  have HNG := hyd HG.out.nil
  by_cases o9 : op = 9
  · subst o9
    have HE : Hid (F = true) := HF.out
    go_wp2
    go_ret
    exact ⟨ret_bool HE.out.symm, H2.out.bl⟩
  have n9 : (op == 9) = false := by simpa using o9
  by_cases o10 : op = 10
  · subst o10
    have HE : Hid (F = true) := HF.out
    go_wp2
    go_ret
    exact ⟨ret_bool HE.out.symm, H2.out.bl⟩
  have n10 : (op == 10) = false := by simpa using o10
  by_cases o26 : op = 26
  · subst o26
    have HE : Hid (F = true) := HF.out
    go_wp2
    go_ret
    exact ⟨ret_bool HE.out.symm, H2.out.bl⟩
  have n26 : (op == 26) = false := by simpa using o26
  have HF2 : Hid (F = (decide (op = 19) && rsG g p)) := by show _ = _; rw [HF.out]; unfold rsO; rw [decide_eq_false o9, decide_eq_false o10, decide_eq_false o26]; rfl
  clear o9 o10 o26 HF
  by_cases o19 : op = 19
  · subst o19
    have HF3 : Hid (F = (decide (p < g.len) && g.x p)) := HF2.out
    clear n9 n10 n26
    by_cases gl : p < g.len
    · have il : (p : Int) < g.len := by omega
      have HE : Hid (F = g.x p) := by show _ = _; rw [HF3.out, decide_eq_true gl]; rfl
      rw [HNG.out (by omega)]
      have q0 := HG.out.row p gl 0 _ rfl
      simp only [Nat.add_zero, Nat.mul_one] at q0
      clear gl
      go_wp2
      go_ret
      exact ⟨ret_bool HE.out.symm, H2.out.bl⟩
    · have il : ¬ (p : Int) < g.len := by omega
      have HE : Hid (F = false) := by show _ = _; rw [HF3.out, decide_eq_false gl]; rfl
      clear gl
      go_wp2
      go_ret
      exact ⟨ret_bool HE.out.symm, H2.out.bl⟩
  have n19 : (op == 19) = false := by simpa using o19
  have HE : Hid (F = false) := by show _ = _; rw [HF2.out, decide_eq_false o19]; rfl
  clear o19 HF2
  go_wp2
  go_ret
  exact ⟨ret_bool HE.out.symm, H2.out.bl⟩

set_option maxRecDepth 100000 in
set_option maxHeartbeats 8000000 in
theorem target_any (f : Cf) (p : Nat) (w : World) (hf : f.At w) (hp : p < f.cd.len) : Calls Try.prog 44 #[.agg f.vs.toArray, .int .i64 p] w fun e w' => e = .returned (.int .i64 (f.tg p)) ∧ Below w.heap.size w w' := by
  have H2 := hyd (Fx.new w f hf)
  have HF : Hid (f.tg p = if ((f.cd.x p).op = 24 ∨ (f.cd.x p).op = 25) ∧ (0 ≤ (f.cd.x p).a ∧ (f.cd.x p).a < f.cd.len) then (f.cd.x p).a else -1) := rfl
  have hbd := hf.cd.bound
  have ip : (p : Int) < f.cd.len := by omega
  have HN14 := hyd (hf.cd.nil (by omega))
  clear hf
  generalize f.tg p = F at *
  have c14 := H2.out.b.cell 14 rfl
  rw [HN14.out] at c14
  have r0 := H2.out.f.cd.row p hp
  generalize f.cd.x p = x at *
  generalize hw : w.alloc (.cells f.vs.toArray 30) = u2 at *
  go_enter Try.func44, Try.ntmps44
  go_upto_region 2 with (first | (refine wpList_load_mid rfl 50 (.tmp 10) rfl f.cd.b (f.cd.o + p * 7) (by kernel_rfl) x.vs _ r0 Try.underlying50 rfl (by kernel_rfl) ?_) | (refine wpList_new_mid rfl rfl 50 rfl (.tmp 5) (.tmp 11) rfl z_ins (alloc_ins _) rfl x.vs.toArray (by kernel_rfl) (by kernel_rfl) rfl (by kernel_rfl) (by simpa using x.vs_one) ?_))
  have B1 := below_alloc u2 (.cells x.vs.toArray 50)
  have HS := hyd (show Fx w f w.heap.size _ ∧ Blk _ u2.heap.size x.vs 50 from ⟨H2.out.kept B1, Blk.new u2 _ _⟩)
  clear H2 hw r0 c14 B1
  generalize u2.alloc (.cells x.vs.toArray 50) = u3 at *
  generalize u2.heap.size = BI at *
  have d0 := HS.out.2.cell 0 rfl
  have d1 := HS.out.2.cell 1 rfl
  have c14 := HS.out.1.b.cell 14 rfl
  rw [HN14.out] at c14
  generalize x.op = op at *
  generalize x.a = a at *
  by_cases o1 : op = 24 ∨ op = 25
  · have HF2 : Hid (F = if 0 ≤ a ∧ a < f.cd.len then a else -1) := by
      show _ = _
      rw [HF.out]
      by_cases h : 0 ≤ a ∧ a < f.cd.len
      · rw [if_pos ⟨o1, h⟩, if_pos h]
      · rw [if_neg (fun k => h k.2), if_neg h]
    clear HF
    have key : ∀ q, (0 ≤ a ∧ a < f.cd.len ∧ q = a) ∨ (0 ≤ a ∧ ¬ a < f.cd.len ∧ q = -1) ∨ (¬ 0 ≤ a ∧ q = -1) ↔ q = if 0 ≤ a ∧ a < f.cd.len then a else -1 := by
      intro q
      by_cases h1 : 0 ≤ a <;> by_cases h2 : a < f.cd.len <;> simp [h1, h2]
    have HK := hyd ((key F).2 HF2.out)
    clear key HF2
    by_cases a1 : a < 0
    · have HE : Hid (F = -1) := by rcases HK.out with h | h | h; exact absurd h.1 (by omega); exact absurd h.1 (by omega); exact h.2
      clear HK
      rcases o1 with o1 | o1
      · subst o1
        go_wp2
        go_ret
        exact ⟨ret_num HE.out.symm, HS.out.1.bl⟩
      · subst o1
        go_wp2
        go_ret
        exact ⟨ret_num HE.out.symm, HS.out.1.bl⟩
    · by_cases a2 : (f.cd.len : Int) ≤ a
      · have HE : Hid (F = -1) := by rcases HK.out with h | h | h; exact absurd h.2.1 (by omega); exact h.2.2; exact h.2
        clear HK
        rcases o1 with o1 | o1
        · subst o1
          go_wp2
          go_ret
          exact ⟨ret_num HE.out.symm, HS.out.1.bl⟩
        · subst o1
          go_wp2
          go_ret
          exact ⟨ret_num HE.out.symm, HS.out.1.bl⟩
      · have HE : Hid (F = a) := by rcases HK.out with h | h | h; exact h.2.2; exact absurd h.2.1 (by omega); exact absurd h.1 (by omega)
        clear HK
        rcases o1 with o1 | o1
        · subst o1
          go_wp2
          go_ret
          exact ⟨ret_num HE.out.symm, HS.out.1.bl⟩
        · subst o1
          go_wp2
          go_ret
          exact ⟨ret_num HE.out.symm, HS.out.1.bl⟩
  · have HE : Hid (F = -1) := by show _ = _; rw [HF.out, if_neg (fun h => o1 h.1)]
    have n1 : (op == 24) = false := by simp; omega
    have n2 : (op == 25) = false := by simp; omega
    clear o1 HF
    go_wp2
    go_ret
    exact ⟨ret_num HE.out.symm, HS.out.1.bl⟩

/-- Is it among them? -/
def Rw.has (r : Rw Int) (a : Int) : Bool := decide (a ∈ r.ls)
set_option maxRecDepth 100000 in
set_option maxHeartbeats 8000000 in
theorem in_any (r : Rw Int) (a : Int) (w : World) (hr : NmAt w r) : Calls Try.prog 13 #[.slice r.ao r.len r.cap, .int .i64 a] w fun e w' => e = .returned (.bool (r.has a)) ∧ Below w.heap.size w w' := by
  have HD := hyd hr
  have hbd := hr.bound
  have HY : Hid (∀ i, i < r.len → r.x i = a → r.has a = true) := fun i hi e => decide_eq_true (Rw.mem_ls.2 ⟨i, hi, e⟩)
  have HN : Hid ((∀ i, i < r.len → r.x i ≠ a) → r.has a = false) := fun h => decide_eq_false (fun h1 => by obtain ⟨i, hi, e⟩ := Rw.mem_ls.1 h1; exact h i hi e)
  generalize r.has a = F at *
  have HNIL := hyd hr.nil
  clear hr
  by_cases hz : 0 < r.len
  · rw [HNIL.out hz]
    go_enter Try.func13, Try.ntmps13
    go_wp2
    go_loopw [5] (fun i wr => ∃ (j : Nat), j ≤ r.len ∧ i = .int .i64 j ∧ Below w.heap.size w wr ∧ (∀ i, i < j → r.x i ≠ a)) (fun i _ => r.len - (intOf i).toNat)
    case atStart => exact ⟨0, Nat.zero_le _, rfl, Below.refl _ _, fun i hi => absurd hi (Nat.not_lt_zero _)⟩
    case round =>
      obtain ⟨j, hj, rfl, hBl, hall⟩ := hrel
      have HB := hyd hBl
      have HL := hyd hall
      clear hBl hall
      by_cases hlt : j < r.len
      · have ij : (j : Int) < r.len := by omega
        have r0 := (HD.out.kept HB.out).row j hlt 0 _ rfl
        simp only [Nat.add_zero, Nat.mul_one] at r0
        have HYJ := hyd (HY.out j hlt)
        generalize hz1 : r.x j = z at *
        have HZ := hyd hz1
        clear hz1
        by_cases e : z = a
        · have d : (z == a) = true := by simpa using e
          have HE : Hid (F = true) := HYJ.out e
          clear e
          go_wp2
          go_ret
          exact ⟨ret_bool HE.out.symm, HB.out⟩
        · have d : (z == a) = false := by simpa using e
          have HNE := hyd e
          clear e
          go_wp2
          go_roundw
          case rel => exact ⟨j + 1, by omega, by go_num, HB.out, fun i hi => by
            by_cases e : i = j
            · rw [e, HZ.out]; exact HNE.out
            · exact HL.out i (by omega)⟩
          case measure => simp [intOf]; omega
      · have e2 : ¬ (j : Int) < r.len := by omega
        have HE : Hid (F = false) := HN.out (fun i hi => HL.out i (by omega))
        go_wp2
        go_ret
        exact ⟨ret_bool HE.out.symm, HB.out⟩
  · have i0 : ¬ (0 : Int) < r.len := by omega
    have HE : Hid (F = false) := HN.out (fun i hi => by omega)
    clear hz
    go_enter Try.func13, Try.ntmps13
    go_wp2
    go_loopw [5] (fun i wr => i = .int .i64 0 ∧ Below w.heap.size w wr) (fun _ _ => 0)
    case atStart => exact ⟨rfl, Below.refl _ _⟩
    case round =>
      obtain ⟨rfl, hb⟩ := hrel
      have HB := hyd hb
      clear hb
      go_wp2
      go_ret
      exact ⟨ret_bool HE.out.symm, HB.out⟩

set_option maxRecDepth 100000 in
set_option maxHeartbeats 8000000 in
/-- SameInts, where both are alike. -/
theorem sameR_yes (r s : Rw Int) (w : World) (hr : NmAt w r) (hs : NmAt w s) (hls : r.ls = s.ls) : Calls Try.prog 32 #[.slice r.ao r.len r.cap, .slice s.ao s.len s.cap] w fun e w' => e = .returned (.bool true) ∧ Below w.heap.size w w' := by
  have hl : r.len = s.len := by rw [← r.ls_len, ← s.ls_len, hls]
  have HX : Hid (∀ i, i < r.len → r.x i = s.x i) := fun i hi => by
    have h1 := r.ls_get i hi
    have h2 := s.ls_get i (by omega)
    rw [hls, h2] at h1
    exact (Option.some.inj h1).symm
  have HD := hyd (show NmAt w r ∧ NmAt w s from ⟨hr, hs⟩)
  have hbd := hr.bound
  have HNR := hyd hr.nil
  have HNS := hyd hs.nil
  have HL := hyd hl
  clear hr hs hls
  have bl : ((r.len : Int) != s.len) = false := by simp [hl]
  by_cases hz : 0 < r.len
  · rw [HNR.out hz, HNS.out (by omega)]
    clear hl
    go_enter Try.func32, Try.ntmps32
    go_wp2
    go_loopw [5] (fun i wr => ∃ (j : Nat), j ≤ r.len ∧ i = .int .i64 j ∧ Below w.heap.size w wr) (fun i _ => r.len - (intOf i).toNat)
    case atStart => exact ⟨0, Nat.zero_le _, rfl, Below.refl _ _⟩
    case round =>
      obtain ⟨j, hj, rfl, hBl⟩ := hrel
      have HB := hyd hBl
      clear hBl
      by_cases hlt : j < r.len
      · have i1 : (j : Int) < r.len := by omega
        have i2 : (j : Int) < s.len := by have := HL.out; omega
        have f1 := (HD.out.1.kept HB.out).row j hlt 0 _ rfl
        have f2 := (HD.out.2.kept HB.out).row j (by have := HL.out; omega) 0 _ rfl
        simp only [Nat.add_zero, Nat.mul_one] at f1 f2
        rw [← HX.out j hlt] at f2
        go_wp2
        go_quiet (fail)
        have HS2 := hyd (Below.next HB.out (below_drewN (Below.refl _ _) nq))
        clear HB f1 f2
        generalize wr.drewN nq = u9 at *
        go_wp2
        go_roundw
        case rel => exact ⟨j + 1, by omega, by go_num, HS2.out⟩
        case measure => simp [intOf]; omega
      · have e2 : ¬ (j : Int) < r.len := by omega
        go_wp2
        go_ret
        exact ⟨rfl, HB.out⟩
  · have i0 : ¬ (0 : Int) < r.len := by omega
    clear hz hl
    go_enter Try.func32, Try.ntmps32
    go_wp2
    go_loopw [5] (fun i wr => i = .int .i64 0 ∧ Below w.heap.size w wr) (fun _ _ => 0)
    case atStart => exact ⟨rfl, Below.refl _ _⟩
    case round =>
      obtain ⟨rfl, hb⟩ := hrel
      have HB := hyd hb
      clear hb
      go_wp2
      go_ret
      exact ⟨rfl, HB.out⟩
end Go.Proofs.Ytibhcbdofadamaa

/- Layer 15: numbers of the call's own: one more appended, sorted, compacted. -/
namespace Go.Proofs.Ytibhcbdofadamaa
open Go Go.RowKit

theorem wpList_wantF {P : Program} {ops : Array Oper} {rest : List Oper} {o : Oper} {a : Act} {w : World} {Q : Exit → Act → World → Prop} (hw : Region.wanted o (yielded ops a.tmps) = true) (h : o.wp P a w (wpList P ops Q rest) Q) : wpList P ops Q (o :: rest) a w := by
  unfold wpList; rw [if_pos hw]; exact .inl h
theorem wpList_loadW {P : Program} {ops : Array Oper} {rest : List Oper} {op : Oper} {a : Act} {w : World} {Q : Exit → Act → World → Prop} (hw : Region.wanted op (yielded ops a.tmps) = true) (ty : TypeId) (x : Operand) (ho : op.op = .load ty x)
    (b o : Nat) (hx : a.eval x = .pointer (some ⟨b, o, none⟩)) (cs : List Value) (d : TypeDesc) (hc : w.rangeAt b o cs)
    (hu : P.underlying ty = some d) (hd : d.isRow = true) (hi : (P.info? ty).map (·.size) = some cs.length)
    (h : wpList P ops Q rest (a.put op.dst (.agg cs.toArray)) w) : wpList P ops Q (op :: rest) a w :=
  wpList_wantF hw (wp_load_mid ty x ho b o hx cs d hc hu hd hi h)
theorem ivL_len (l : List Int) : (ivL l).length = l.length := by simp [ivL]
theorem ivL_one (l : List Int) : ∀ u ∈ ivL l, u.oneCell' = true := by
  intro u hu
  obtain ⟨a, _, rfl⟩ := List.mem_map.1 hu
  rfl
theorem Try.infoI : (Try.prog.info? 3).map (fun i => (i.zero, i.size, i.bytes)) = some (some (.int .i64 0), 1, 8) := by kernel_rfl
theorem new_row {w : World} {cs : List Value} {t : TypeId} : ∀ a : Addr, some (⟨w.heap.size, 0, none⟩ : Addr) = some a → ∀ j u, cs[j]? = some u → (w.alloc (.cells cs.toArray t)).cell? (a.add j) = some u := by
  intro a ha j u hj
  cases ha
  rw [adp]
  simp only [Nat.zero_add]
  exact (Blk.new w cs t).cell j hj
/-- One number more. -/
theorem wpList_app1 {w : World} {ops : Array Oper} {rest : List Oper} {o : Oper} {a : Act} {Q : Exit → Act → World → Prop} (hgd : o.guard = none) (s x : Operand)
    (hop : o.op = .call { callee := .builtin .append, args := #[s, x], argTypes := #[36, 36] }) (base : Nat) (v : Value) (l : List Int) (z : Int) (hs : a.eval s = v) (ho : Oi w base v l) (hx : a.eval x = .slice (some ⟨w.heap.size, 0, none⟩) 1 1) (hl : l.length ≤ 1000000) (hb : base ≤ w.heap.size)
    (h : ∀ v' w', Oi w' base v' (l ++ [z]) → w.grownBy w' v.ownBlock → wpList Try.prog ops Q rest (a.put o.dst v') w') : wpList Try.prog ops Q (o :: rest) a (w.alloc (.cells #[.int .i64 z] 3)) := by
  have hE : (w.alloc (.cells #[.int .i64 z] 3)).ownsRow base 3 1 v l.length (ivL l) := ho.alloc _
  refine wpList_append_any Try.underlying36 Try.infoI rfl (by decide) hgd s x hop base v l.length (ivL l) hs hE (some ⟨w.heap.size, 0, none⟩) 1 1 [.int .i64 z] hx (fun h => by cases h) rfl (new_row (cs := [.int .i64 z])) (ivL_one [z]) (by unfold maxLen; omega) (by omega) (by rw [alloc_size]; omega) ?_
  intro v' w' h1 h2
  refine h v' w' ?_ ?_
  · unfold Oi
    rw [List.length_append, ivL, List.map_append]
    exact h1
  · have g0 := World.grownBy_alloc w (.cells #[.int .i64 z] 3) v.ownBlock
    refine ⟨h2.os.trans g0.os, h2.tape.trans g0.tape, h2.output.trans g0.output, Nat.le_trans g0.size h2.size, fun k hk hne => ?_⟩
    rw [h2.block k (by rw [alloc_size]; omega) hne]
    exact g0.block k hk hne
theorem sort_oi (w : World) (base : Nat) (v : Value) (l : List Int) (h : Oi w base v l) (hl : l.length ≤ 1000000) : Calls Try.prog 45 #[v] w fun e w' => e = .returned (.tuple #[]) ∧ Oi w' base v (l.mergeSort fun x y => decide (x ≤ y)) ∧ w.grownBy w' v.ownBlock := by
  have hlen : (l.mergeSort fun x y => decide (x ≤ y)).length = l.length := List.length_mergeSort l
  have h' := h
  obtain ⟨_, ⟨rfl, h0⟩ | ⟨g, cap, cur, rfl, hb, hg, hn, hc, hs, ht⟩⟩ := h
  · have e : l = [] := List.eq_nil_of_length_eq_zero h0
    subst e
    refine (Try.slices_Sort_int_none none 0 w).mono ?_
    rintro e w' ⟨rfl, rfl⟩
    exact ⟨rfl, by rw [List.mergeSort_nil]; exact h', gbr _ _⟩
  · have hH := holds_of_blockI (ss := l) hg (by rw [Nat.mul_one] at ht; exact ht)
    refine (Try.slices_Sort_int g 0 cap l w hH (Array.getElem?_eq_some_iff.1 hg).1 (by omega)).mono ?_
    rintro e w' ⟨rfl, n, os, rfl⟩
    refine ⟨rfl, ?_, grownBy_sortedI _⟩
    have := ownsRow_sortedI (n := n) (os := os) (ts := l.mergeSort fun x y => decide (x ≤ y)) hlen hb hg hn hc hs
    unfold Oi
    rw [hlen]
    exact this
theorem compact_le (l : List Int) : (Lib.compact l).length ≤ l.length := by
  show (List.map _ (List.filter _ _)).length ≤ _
  rw [List.length_map]
  exact Nat.le_trans (List.length_filter_le _ _) (by simp)
theorem compact_oi (w : World) (base : Nat) (v : Value) (l : List Int) (h : Oi w base v l) (hl : l.length ≤ 1000000) : Calls Try.prog 46 #[v] w fun e w' => ∃ v', e = .returned v' ∧ Oi w' base v' (Lib.compact l) ∧ w.grownBy w' v.ownBlock := by
  have h' := h
  obtain ⟨_, ⟨rfl, h0⟩ | ⟨g, cap, cur, rfl, hb, hg, hn, hc, hs, ht⟩⟩ := h
  · have e : l = [] := List.eq_nil_of_length_eq_zero h0
    subst e
    refine (Try.slices_Compact_int_empty none 0 w).mono ?_
    rintro e w' ⟨rfl, rfl⟩
    exact ⟨_, rfl, h', gbr _ _⟩
  · have hH := holds_of_blockI (ss := l) hg (by rw [Nat.mul_one] at ht; exact ht)
    have hcl := compact_le l
    refine (Try.slices_Compact_int g 0 cap l w hH (by omega) hn).mono ?_
    rintro e w' ⟨rfl, q, rfl⟩
    refine ⟨_, rfl, ?_, ?_⟩
    · have := Lib.ownsRow_putRow (enc := Value.int .i64) (q := q) (k := (Lib.compact l).length) (ys := Lib.compact l ++ List.replicate (l.length - (Lib.compact l).length) 0) (zs := l) (cap := cap) (g := g) (w := w) (base := base) (e := 3) (n := l.length) h' (by simp; omega) hcl
      rw [List.take_left] at this
      exact this
    · have := grownBy_sortedI (w := w) (g := g) (n := q) (os := #[]) (Lib.compact l ++ List.replicate (l.length - (Lib.compact l).length) 0).toArray
      rw [Sort.grow_empty] at this
      exact this
end Go.Proofs.Ytibhcbdofadamaa

/- A region that draws its order: all that only reads or moves comes first, wherever it stands; what is left is one behind the other. -/
namespace Go.Proofs.Ytibhcbdofadamaa
open Go Go.RowKit

section
variable {P : Program} {ops : Array Oper} {Q : Exit → Act → World → Prop}
def isReadM (o : Oper) : Bool := match o.op with
  | .load .. | .fieldAddr .. | .indexAddr .. | .extract .. | .move .. => true
  | _ => false
theorem readM_value {o : Oper} (h : isReadM o = true) (ρ : Operand → Value) (w w' : World) (n : Next) (hr : (execOp ρ o).run P w = .ok n w') : ∃ u, n = .value u := by
  cases ho : o.op
  case load => unfold execOp at hr; rw [ho] at hr; exact run_val hr
  case fieldAddr => unfold execOp at hr; rw [ho] at hr; exact run_val hr
  case indexAddr => unfold execOp at hr; rw [ho] at hr; exact run_val hr
  case extract => unfold execOp at hr; rw [ho] at hr; exact run_val hr
  case move => unfold execOp at hr; rw [ho] at hr; exact ⟨_, (Result.ok.inj hr).1.symm⟩
  all_goals (unfold isReadM at h; rw [ho] at h; cases h)
theorem yieldsIf_of_quietM {S : World → Prop} {o : Oper} {a : Act} {K : Act → Prop} (hr : isReadM o = true) (h : if Region.wanted o (yielded ops a.tmps) then o.quiet P a S K else K (a.put o.dst undef)) : ∃ v, YieldsIf P ops S o v a ∧ K (a.put o.dst v) := by
  by_cases hw : Region.wanted o (yielded ops a.tmps) = true
  · rw [if_pos hw] at h
    obtain ⟨v, h1, h2⟩ := h
    refine ⟨v, Or.inl ⟨hw, fun w hS => ?_⟩, h2⟩
    have h3 := h1 w hS
    unfold Oper.quietAt at h3
    cases hq : (execOp a.eval o).run P w with
    | ok n w' =>
      obtain ⟨u, rfl⟩ := readM_value hr _ _ _ _ hq
      rw [hq] at h3
      simp only [Oper.quietUpon] at h3
      rw [h3.1, h3.2]
    | halt x w' => rw [hq] at h3; simp only [Oper.quietUpon] at h3
  · rw [if_neg hw] at h
    exact ⟨undef, Or.inr ⟨by simpa using hw, rfl⟩, h⟩
def lexM (ops : Array Oper) : List Nat → List Oper → Array Bool → Bool
  | [], [], _ => true
  | i :: js, o :: l, listed => isReadM o && (Region.ready .any ops listed).contains i && Region.free .any ops listed i && lexM ops js l (listed.setIfInBounds i true)
  | _, _, _ => false
theorem wpAnyH_readsM {S : World → Prop} {K : Act → Prop} {rest : Nat} {w : World} (hs : Region.noSelect ops = true) (hQ : ∀ c a d v w, Q (.panic c) (Act.put a d v) w → Q (.panic c) a w) (hS : S w) : ∀ (js : List Nat) (l : List Oper) (listed : Array Bool) (a : Act), (∀ j, j < l.length → ∃ i, js[j]? = some i ∧ ops[i]? = l[j]?) →
    lexM ops js l listed = true → wpQuiet P ops S K l a → (∀ a', K a' → wpAnyH P .any ops Q S rest (listedI js listed) a' w) → wpAnyH P .any ops Q S (js.length + rest) listed a w
  | [], [], _, _, _, _, h, hK => by simpa [listedI] using hK _ h
  | [], _ :: _, _, _, _, hB, _, _ => by simp [lexM] at hB
  | _ :: _, [], _, _, _, hB, _, _ => by simp [lexM] at hB
  | i :: js, o :: l, listed, a, hl, hB, h, hK => by
    have h0 : ops[i]? = some o := by
      obtain ⟨i', h1, h2⟩ := hl 0 (by simp)
      have : i = i' := by simpa using h1
      subst this
      simpa using h2
    simp only [lexM, Bool.and_eq_true] at hB
    obtain ⟨⟨⟨hr, hc⟩, hf⟩, hB'⟩ := hB
    have h' : if Region.wanted o (yielded ops a.tmps) then o.quiet P a S (wpQuiet P ops S K l) else wpQuiet P ops S K l (a.put o.dst undef) := h
    obtain ⟨v, hy, hk⟩ := yieldsIf_of_quietM (ops := ops) hr h'
    rw [show (i :: js).length + rest = (js.length + rest) + 1 by simp; omega]
    exact wpAnyH_take h0 hs hf hc (fun c a w => hQ c a _ _ w) hy hS (wpAnyH_readsM hs hQ hS js l _ _ (fun j hj => by
      obtain ⟨i', h1, h2⟩ := hl (j + 1) (by simp; omega)
      exact ⟨i', by simpa using h1, by simpa using h2⟩) hB' hk hK)
/-- A region that draws: first all that only reads. -/
theorem wp_region_readsM {id : Nat} {a : Act} {w : World} {l : List Oper} (S : World → Prop) (js : List Nat) (rest : Nat) (hm : P.follows .mixedOrders = true) (hlen : l.length = js.length + rest) (hB : (Region.noSelect l.toArray && lexM l.toArray js (js.filterMap (l[·]?)) (Array.replicate l.length false)) = true) (hj : ∀ j, j < (js.filterMap (l[·]?)).length → ∃ i, js[j]? = some i ∧ l.toArray[i]? = (js.filterMap (l[·]?))[j]?)
    (hQ : ∀ c a d v w, Q (.panic c) (Act.put a d v) w → Q (.panic c) a w) (hS : S w.drew)
    (h : wpQuiet P l.toArray (fun u => ∃ x : Wd S, u = x.w) (fun a' => wpAnyH P .any l.toArray Q S rest (listedI js (Array.replicate l.length false)) a' w.drew) (js.filterMap (l[·]?)) a) : (Code.region id l.toArray true).wp P Q a w := by
  simp only [Bool.and_eq_true] at hB
  refine wp_region_held_drew (S := S) hm hS fun hS => ?_
  have e3 : Array.replicate l.toArray.size false = Array.replicate l.length false := by simp
  have e2 : l.toArray.size = js.length + rest := by simpa using hlen
  have eS : (fun u : World => ∃ x : Wd S, u = x.w) = S := by
    funext u; apply propext
    exact ⟨fun ⟨x, hx⟩ => hx ▸ x.2, fun h => ⟨⟨u, h⟩, rfl⟩⟩
  rw [eS] at h
  rw [e3, e2]
  exact wpAnyH_readsM hB.1 hQ hS js _ _ a hj hB.2 h (fun a' h => h)
end
/-- The same where nothing panics. -/
def NoPanM (Q : Exit → Act → World → Prop) (e : Exit) (a : Act) (w : World) : Prop := (∀ c, e ≠ .panic c) ∧ Q e a w
theorem wp_region_readsMN {P : Program} {Q : Exit → Act → World → Prop} {id : Nat} {a : Act} {w : World} {l : List Oper} (S : World → Prop) (js : List Nat) (rest : Nat) (hm : P.follows .mixedOrders = true) (hlen : l.length = js.length + rest) (hB : (Region.noSelect l.toArray && lexM l.toArray js (js.filterMap (l[·]?)) (Array.replicate l.length false)) = true) (hj : ∀ j, j < (js.filterMap (l[·]?)).length → ∃ i, js[j]? = some i ∧ l.toArray[i]? = (js.filterMap (l[·]?))[j]?)
    (hS : S w.drew)
    (h : wpQuiet P l.toArray (fun u => ∃ x : Wd S, u = x.w) (fun a' => wpAnyH P .any l.toArray (NoPanM Q) S rest (listedI js (Array.replicate l.length false)) a' w.drew) (js.filterMap (l[·]?)) a) : (Code.region id l.toArray true).wp P Q a w :=
  Code.wp_mono (fun _ _ _ h => h.2) (wp_region_readsM S js rest hm hlen hB hj (fun c _ _ _ _ h => absurd rfl (h.1 c)) hS h)
end Go.Proofs.Ytibhcbdofadamaa

/- A region that draws its order: all that reads, moves, reckons or asks for nil comes first, wherever it stands; what is left is one behind the other. -/
namespace Go.Proofs.Ytibhcbdofadamaa
open Go Go.RowKit

section
variable {P : Program} {ops : Array Oper} {Q : Exit → Act → World → Prop}
theorem bind_val {A : Type} {s : Sem A} {k : A → Sem Next} {w w' : World} {n : Next} (hk : ∀ a u u', (k a).run P u = .ok n u' → ∃ v, n = .value v) (hr : (do k (← s) : Sem Next).run P w = .ok n w') : ∃ u, n = .value u := by
  simp only [Sem.run_bind] at hr
  cases hq : s.run P w with
  | ok a w2 => rw [hq] at hr; simp only [Result.andThen_ok] at hr; exact hk _ _ _ hr
  | halt x w2 => rw [hq] at hr; simp [Result.andThen] at hr
def isReadQ (o : Oper) : Bool := match o.op with
  | .load .. | .fieldAddr .. | .indexAddr .. | .extract .. | .move .. | .binOp .. | .convert .. | .build .. | .slice .. | .nilCheck .. | .unOp .. | .pick .. | .field .. => true
  | _ => false
theorem readQ_value {o : Oper} (h : isReadQ o = true) (ρ : Operand → Value) (w w' : World) (n : Next) (hr : (execOp ρ o).run P w = .ok n w') : ∃ u, n = .value u := by
  cases ho : o.op
  case load => unfold execOp at hr; rw [ho] at hr; exact run_val hr
  case fieldAddr => unfold execOp at hr; rw [ho] at hr; exact run_val hr
  case indexAddr => unfold execOp at hr; rw [ho] at hr; exact run_val hr
  case extract => unfold execOp at hr; rw [ho] at hr; exact run_val hr
  case move => unfold execOp at hr; rw [ho] at hr; exact ⟨_, (Result.ok.inj hr).1.symm⟩
  case binOp => unfold execOp at hr; rw [ho] at hr; exact run_val hr
  case convert => unfold execOp at hr; rw [ho] at hr; exact run_val hr
  case build => unfold execOp at hr; rw [ho] at hr; exact run_val hr
  case slice => unfold execOp at hr; rw [ho] at hr; exact run_val hr
  case unOp => unfold execOp at hr; rw [ho] at hr; exact run_val hr
  case field => unfold execOp at hr; rw [ho] at hr; exact run_val hr
  case pick c x y =>
    unfold execOp at hr; rw [ho] at hr
    simp only [Sem.run_bind] at hr
    cases hq : (asBool (ρ c)).run P w with
    | ok v w2 => rw [hq] at hr; simp only [Result.andThen_ok, Sem.run_pure] at hr; exact ⟨_, (Result.ok.inj hr).1.symm⟩
    | halt x w2 => rw [hq] at hr; simp [Result.andThen] at hr
  case nilCheck x =>
    unfold execOp at hr; rw [ho] at hr
    simp only at hr
    split at hr
    · cases hr
    · cases hr
    · cases hr
    · split at hr
      · cases hr
      · refine bind_val (fun a u u' h1 => ?_) hr
        refine bind_val (fun b v v' h2 => ?_) h1
        split at h2
        · refine bind_val (fun c x x' h3 => ?_) h2
          exact ⟨_, (Result.ok.inj h3).1.symm⟩
        · exact ⟨_, (Result.ok.inj h2).1.symm⟩
      · exact ⟨_, (Result.ok.inj hr).1.symm⟩
    · exact ⟨_, (Result.ok.inj hr).1.symm⟩
  all_goals (unfold isReadQ at h; rw [ho] at h; cases h)
theorem yieldsIf_of_quietQ {S : World → Prop} {o : Oper} {a : Act} {K : Act → Prop} (hr : isReadQ o = true) (h : if Region.wanted o (yielded ops a.tmps) then o.quiet P a S K else K (a.put o.dst undef)) : ∃ v, YieldsIf P ops S o v a ∧ K (a.put o.dst v) := by
  by_cases hw : Region.wanted o (yielded ops a.tmps) = true
  · rw [if_pos hw] at h
    obtain ⟨v, h1, h2⟩ := h
    refine ⟨v, Or.inl ⟨hw, fun w hS => ?_⟩, h2⟩
    have h3 := h1 w hS
    unfold Oper.quietAt at h3
    cases hq : (execOp a.eval o).run P w with
    | ok n w' =>
      obtain ⟨u, rfl⟩ := readQ_value hr _ _ _ _ hq
      rw [hq] at h3
      simp only [Oper.quietUpon] at h3
      rw [h3.1, h3.2]
    | halt x w' => rw [hq] at h3; simp only [Oper.quietUpon] at h3
  · rw [if_neg hw] at h
    exact ⟨undef, Or.inr ⟨by simpa using hw, rfl⟩, h⟩
def lexQ (ops : Array Oper) : List Nat → List Oper → Array Bool → Bool
  | [], [], _ => true
  | i :: js, o :: l, listed => isReadQ o && (Region.ready .any ops listed).contains i && Region.free .any ops listed i && lexQ ops js l (listed.setIfInBounds i true)
  | _, _, _ => false
theorem wpAnyH_readsQ {S : World → Prop} {K : Act → Prop} {rest : Nat} {w : World} (hs : Region.noSelect ops = true) (hQ : ∀ c a d v w, Q (.panic c) (Act.put a d v) w → Q (.panic c) a w) (hS : S w) : ∀ (js : List Nat) (l : List Oper) (listed : Array Bool) (a : Act), (∀ j, j < l.length → ∃ i, js[j]? = some i ∧ ops[i]? = l[j]?) →
    lexQ ops js l listed = true → wpQuiet P ops S K l a → (∀ a', K a' → wpAnyH P .any ops Q S rest (listedI js listed) a' w) → wpAnyH P .any ops Q S (js.length + rest) listed a w
  | [], [], _, _, _, _, h, hK => by simpa [listedI] using hK _ h
  | [], _ :: _, _, _, _, hB, _, _ => by simp [lexQ] at hB
  | _ :: _, [], _, _, _, hB, _, _ => by simp [lexQ] at hB
  | i :: js, o :: l, listed, a, hl, hB, h, hK => by
    have h0 : ops[i]? = some o := by
      obtain ⟨i', h1, h2⟩ := hl 0 (by simp)
      have : i = i' := by simpa using h1
      subst this
      simpa using h2
    simp only [lexQ, Bool.and_eq_true] at hB
    obtain ⟨⟨⟨hr, hc⟩, hf⟩, hB'⟩ := hB
    have h' : if Region.wanted o (yielded ops a.tmps) then o.quiet P a S (wpQuiet P ops S K l) else wpQuiet P ops S K l (a.put o.dst undef) := h
    obtain ⟨v, hy, hk⟩ := yieldsIf_of_quietQ (ops := ops) hr h'
    rw [show (i :: js).length + rest = (js.length + rest) + 1 by simp; omega]
    exact wpAnyH_take h0 hs hf hc (fun c a w => hQ c a _ _ w) hy hS (wpAnyH_readsQ hs hQ hS js l _ _ (fun j hj => by
      obtain ⟨i', h1, h2⟩ := hl (j + 1) (by simp; omega)
      exact ⟨i', by simpa using h1, by simpa using h2⟩) hB' hk hK)
/-- A region that draws: first all that only reads. -/
theorem wp_region_readsQ {id : Nat} {a : Act} {w : World} {l : List Oper} (S : World → Prop) (js : List Nat) (rest : Nat) (hm : P.follows .mixedOrders = true) (hlen : l.length = js.length + rest) (hB : (Region.noSelect l.toArray && lexQ l.toArray js (js.filterMap (l[·]?)) (Array.replicate l.length false)) = true) (hj : ∀ j, j < (js.filterMap (l[·]?)).length → ∃ i, js[j]? = some i ∧ l.toArray[i]? = (js.filterMap (l[·]?))[j]?)
    (hQ : ∀ c a d v w, Q (.panic c) (Act.put a d v) w → Q (.panic c) a w) (hS : S w.drew)
    (h : wpQuiet P l.toArray (fun u => ∃ x : Wd S, u = x.w) (fun a' => wpAnyH P .any l.toArray Q S rest (listedI js (Array.replicate l.length false)) a' w.drew) (js.filterMap (l[·]?)) a) : (Code.region id l.toArray true).wp P Q a w := by
  simp only [Bool.and_eq_true] at hB
  refine wp_region_held_drew (S := S) hm hS fun hS => ?_
  have e3 : Array.replicate l.toArray.size false = Array.replicate l.length false := by simp
  have e2 : l.toArray.size = js.length + rest := by simpa using hlen
  have eS : (fun u : World => ∃ x : Wd S, u = x.w) = S := by
    funext u; apply propext
    exact ⟨fun ⟨x, hx⟩ => hx ▸ x.2, fun h => ⟨⟨u, h⟩, rfl⟩⟩
  rw [eS] at h
  rw [e3, e2]
  exact wpAnyH_readsQ hB.1 hQ hS js _ _ a hj hB.2 h (fun a' h => h)
end
theorem wp_region_readsQN {P : Program} {Q : Exit → Act → World → Prop} {id : Nat} {a : Act} {w : World} {l : List Oper} (S : World → Prop) (js : List Nat) (rest : Nat) (hm : P.follows .mixedOrders = true) (hlen : l.length = js.length + rest) (hB : (Region.noSelect l.toArray && lexQ l.toArray js (js.filterMap (l[·]?)) (Array.replicate l.length false)) = true) (hj : ∀ j, j < (js.filterMap (l[·]?)).length → ∃ i, js[j]? = some i ∧ l.toArray[i]? = (js.filterMap (l[·]?))[j]?)
    (hS : S w.drew)
    (h : wpQuiet P l.toArray (fun u => ∃ x : Wd S, u = x.w) (fun a' => wpAnyH P .any l.toArray (NoPanM Q) S rest (listedI js (Array.replicate l.length false)) a' w.drew) (js.filterMap (l[·]?)) a) : (Code.region id l.toArray true).wp P Q a w :=
  Code.wp_mono (fun _ _ _ h => h.2) (wp_region_readsQ S js rest hm hlen hB hj (fun c _ _ _ _ h => absurd rfl (h.1 c)) hS h)
theorem hj_ofQ {l : List Oper} {js : List Nat} (h : (js.all fun i => decide (i < l.length)) = true) : ∀ j, j < (js.filterMap (l[·]?)).length → ∃ i, js[j]? = some i ∧ l.toArray[i]? = (js.filterMap (l[·]?))[j]? := by
  induction js with
  | nil => intro j hj; simp at hj
  | cons i js ih =>
    simp only [List.all_cons, Bool.and_eq_true, decide_eq_true_eq] at h
    have e : l[i]? = some l[i] := List.getElem?_eq_getElem h.1
    intro j hj
    cases j with
    | zero => exact ⟨i, rfl, by simp [e]⟩
    | succ j =>
      rw [List.filterMap_cons, e] at hj
      obtain ⟨i', h1, h2⟩ := ih h.2 j (by simpa using hj)
      refine ⟨i', by simpa using h1, ?_⟩
      rw [h2, List.filterMap_cons, e]
      simp
/-- In the middle of a region: all that only reads, first. -/
theorem wpAnyH_readsQm {P : Program} {l : List Oper} {Q : Exit → Act → World → Prop} {S : World → Prop} (js : List Nat) {rest fuel : Nat} {listed : Array Bool} {a : Act} {w : World} (hf : fuel = js.length + rest) (hj : (js.all fun i => decide (i < l.length)) = true) (hB : (Region.noSelect l.toArray && lexQ l.toArray js (js.filterMap (l[·]?)) listed) = true) (hS : S w)
    (h : wpQuiet P l.toArray (fun u => ∃ x : Wd S, u = x.w) (fun a' => wpAnyH P .any l.toArray (NoPanM Q) S rest (listedI js listed) a' w) (js.filterMap (l[·]?)) a) : wpAnyH P .any l.toArray (NoPanM Q) S fuel listed a w := by
  simp only [Bool.and_eq_true] at hB
  have eS : (fun u : World => ∃ x : Wd S, u = x.w) = S := by
    funext u; apply propext
    exact ⟨fun ⟨x, hx⟩ => hx ▸ x.2, fun h => ⟨⟨u, h⟩, rfl⟩⟩
  rw [eS] at h
  rw [hf]
  exact wpAnyH_readsQ hB.1 (fun c _ _ _ _ h => absurd rfl (h.1 c)) hS js _ _ a (hj_ofQ hj) hB.2 h (fun a' h => h)
end Go.Proofs.Ytibhcbdofadamaa
