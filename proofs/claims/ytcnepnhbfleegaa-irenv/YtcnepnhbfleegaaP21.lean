/- Layer 10: what a node needs, as data; needed. -/
import Derived.Test.YtcnepnhbfleegaaP20
namespace Go.Proofs.Ytcnepnhbfleegaa
open Go Go.RowKit

/-- What an Op needs beside slots and Env; those within told by x, y. -/
def needB (n : Strs) (g : Grid) (many : Int) (h : Hd) (x y : Bool) : Bool :=
  if h.op = 2 then wthB h.n 2 else if h.op = 4 then (decide (6 ≤ h.n) && decide (h.n ≤ 12)) else if h.op = 9 then wthB h.n many else if h.op = 12 then okB n g h.t else if h.op = 15 then wthB h.n n.len
  else if h.op = 16 ∨ h.op = 17 then (x && y) else (decide (1 ≤ h.op) && decide (h.op ≤ 18))
def shpB (n : Strs) (g : Grid) (many : Int) (m : Nat) (h : Hd) (x y : Bool) : Bool := ((wthB h.env n.len && slotsB m h.rds) && (!h.wrs || slotsB m [h.dst])) && needB n g many h x y
/-- Is a node shaped? -/
def Nd.shp (n : Strs) (g : Grid) (many : Int) (m : Nat) : Nd → Bool
  | .dm => false
  | .mk h _ _ _ bl _ bp _ _ _ el _ ep => shpB n g many m h (decide (∀ i, i < bl → Nd.shp n g many m (bp i) = true)) (decide (∀ i, i < el → Nd.shp n g many m (ep i) = true))
def Ns.shp (n : Strs) (g : Grid) (many : Int) (m : Nat) (b : Ns) : Bool := decide (∀ i, i < b.len → (b.ps i).shp n g many m = true)
theorem Nd.shp_eq {w : World} {n : Strs} {g : Grid} {many : Int} {m : Nat} : ∀ {nd : Nd}, nd.At w → nd.shp n g many m = shpB n g many m nd.h (nd.bd.shp n g many m) (nd.el.shp n g many m)
  | .dm, h => h.elim
  | .mk _ _ _ _ _ _ _ _ _ _ _ _ _, _ => rfl
def NodesC (n : Strs) (g : Grid) (many : Int) (f : Fc) (b : Ns) : Prop := ∀ w : World, n.At w → g.At w → b.At w → Calls Try.prog 46 #[.agg (shV n g many f).toArray, .slice b.ao b.len b.cap] w fun e w' => e = .returned (.bool (b.shp n g many f.slots.len)) ∧ Below w.heap.size w w'
structure Dw (w : World) (n : Strs) (g : Grid) (many : Int) (f : Fc) (nd : Nd) (u : World) : Prop where
  bl : Below w.heap.size w u
  H : Blk u w.heap.size (shV n g many f) 68
  N : Blk u (w.heap.size + 1) nd.vs 46
theorem dw_new (w : World) (n : Strs) (g : Grid) (many : Int) (f : Fc) (nd : Nd) : Dw w n g many f nd ((w.alloc (.cells (shV n g many f).toArray 68)).alloc (.cells nd.va 46)) := by
  have H := allocs_heap [.cells (shV n g many f).toArray 68, .cells nd.va 46] w
  have B0 := allocs_below [.cells (shV n g many f).toArray 68, .cells nd.va 46] w
  simp only [List.foldl] at H B0
  exact ⟨B0, H 0 (by simp), H 1 (by simp)⟩
set_option maxRecDepth 100000 in
set_option maxHeartbeats 8000000 in
theorem needed_any (n : Strs) (g : Grid) (many : Int) (f : Fc) (nd : Nd) (w : World) (hn : n.At w) (hg : g.At w) (hd : nd.At w) (h1 : NodesC n g many f nd.bd) (h2 : NodesC n g many f nd.el) :
    Calls Try.prog 69 #[.agg (shV n g many f).toArray, .agg nd.va] w fun e w' => e = .returned (.bool (needB n g many nd.h (nd.bd.shp n g many f.slots.len) (nd.el.shp n g many f.slots.len))) ∧ Below w.heap.size w w' := by
  have HI := hid (dw_new w n g many f nd)
  have HH := hid (show n.At w ∧ g.At w ∧ nd.At w ∧ NodesC n g many f nd.bd ∧ NodesC n g many f nd.el from ⟨hn, hg, hd, h1, h2⟩)
  obtain ⟨R, hR⟩ : ∃ R, R = needB n g many nd.h (nd.bd.shp n g many f.slots.len) (nd.el.shp n g many f.slots.len) := ⟨_, rfl⟩
  rw [← hR]
  have HR := hid hR
  clear hn hg hd h1 h2 hR
  have c0 := HI.out.N.cell 0 (v := .int .i64 nd.h.op) rfl
  have c4 := HI.out.N.cell 4 (v := .int .i64 nd.h.n) rfl
  go_enter Try.func69, Try.ntmps69
  go_upto_region 1 with fail
  generalize ((w.alloc (.cells (shV n g many f).toArray 68)).alloc (.cells nd.va 46)) = w1 at *
  by_cases o2 : nd.h.op = 2
  · have HF : Hid (R = wthB nd.h.n 2) := by show _ = _; rw [HR.out]; unfold needB; rw [if_pos o2]
    rw [o2] at c0
    have hW := within_any nd.h.n 2 w1
    go_wp2_with fail
    refine hW.mono ?_
    rintro _ w2 ⟨rfl, hb⟩
    rw [← HF.out]
    go_wp2
    go_ret
    exact ⟨rfl, Below.next HI.out.bl hb⟩
  by_cases o4 : nd.h.op = 4
  · have HF : Hid (R = (decide (6 ≤ nd.h.n) && decide (nd.h.n ≤ 12))) := by show _ = _; rw [HR.out]; unfold needB; rw [if_neg o2, if_pos o4]
    rw [o4] at c0
    by_cases h6 : 6 ≤ nd.h.n
    · go_wp2
      go_ret
      exact ⟨ret_bool (by rw [HF.out, decide_eq_true h6]; rfl), HI.out.bl⟩
    · go_wp2
      go_ret
      exact ⟨ret_bool (by rw [HF.out, decide_eq_false (p := 6 ≤ nd.h.n) (by omega)]; rfl), HI.out.bl⟩
  by_cases o9 : nd.h.op = 9
  · have HF : Hid (R = wthB nd.h.n many) := by show _ = _; rw [HR.out]; unfold needB; rw [if_neg o2, if_neg o4, if_pos o9]
    rw [o9] at c0
    have d2 := HI.out.H.cell 2 (v := .int .i64 many) rfl
    have hW := within_any nd.h.n many w1
    go_wp2_with fail
    refine hW.mono ?_
    rintro _ w2 ⟨rfl, hb⟩
    rw [← HF.out]
    go_wp2
    go_ret
    exact ⟨rfl, Below.next HI.out.bl hb⟩
  by_cases o12 : nd.h.op = 12
  · have HF : Hid (R = okB n g nd.h.t) := by show _ = _; rw [HR.out]; unfold needB; rw [if_neg o2, if_neg o4, if_neg o9, if_pos o12]
    rw [o12] at c0
    have d0 := HI.out.H.cell 0 (v := .slice n.ao n.len n.cap) rfl
    have d1 := HI.out.H.cell 1 (v := .slice g.ao g.len g.cap) rfl
    have r6 : w1.rangeAt (w.heap.size + 1) 6 nd.h.t.vs := range_of5 HI.out.N 6 rfl rfl rfl rfl rfl
    have hW := Formed2_any n g nd.h.t w1 (HH.out.1.kept HI.out.bl) (HH.out.2.1.kept HI.out.bl) (HH.out.2.2.1.t.kept HI.out.bl)
    go_wp2_with (refine wpList_load_mid rfl 39 (.tmp 33) rfl (w.heap.size + 1) 6 (by kernel_rfl) nd.h.t.vs _ r6 Try.underlying39 rfl (by kernel_rfl) ?_)
    refine Calls.mono hW ?_
    rintro _ w2 ⟨rfl, hb⟩
    rw [← HF.out]
    go_wp2
    go_ret
    exact ⟨rfl, Below.next HI.out.bl hb⟩
  by_cases o15 : nd.h.op = 15
  · have HF : Hid (R = wthB nd.h.n n.len) := by show _ = _; rw [HR.out]; unfold needB; rw [if_neg o2, if_neg o4, if_neg o9, if_neg o12, if_pos o15]
    rw [o15] at c0
    have d0 := HI.out.H.cell 0 (v := .slice n.ao n.len n.cap) rfl
    have hW := within_any nd.h.n n.len w1
    go_wp2_with fail
    refine hW.mono ?_
    rintro _ w2 ⟨rfl, hb⟩
    rw [← HF.out]
    go_wp2
    go_ret
    exact ⟨rfl, Below.next HI.out.bl hb⟩
  by_cases o16 : nd.h.op = 16 ∨ nd.h.op = 17
  · have HF : Hid (R = (nd.bd.shp n g many f.slots.len && nd.el.shp n g many f.slots.len)) := by show _ = _; rw [HR.out]; unfold needB; rw [if_neg o2, if_neg o4, if_neg o9, if_neg o12, if_neg o15, if_pos o16]
    have c12 := HI.out.N.cell 12 (v := .slice nd.bd.ao nd.bd.len nd.bd.cap) rfl
    have bH := HI.out.H
    have hW := HH.out.2.2.2.1 w1 (HH.out.1.kept HI.out.bl) (HH.out.2.1.kept HI.out.bl) (HH.out.2.2.1.kept HI.out.bl).bd
    clear o2 o4 o9 o12 o15 c4
    generalize nd.h.op = op at *
    rcases o16 with rfl | rfl
    all_goals
      go_wp2_with (refine wpList_load_mid rfl 68 (.tmp 2) rfl w.heap.size 0 (by kernel_rfl) (shV n g many f) _ bH.range Try.underlying68 rfl (by kernel_rfl) ?_)
      refine Calls.mono hW ?_
      rintro _ w2 ⟨rfl, hb⟩
      have HB := hid (show Below w1.heap.size w1 w2 from hb)
      clear hW hb c0 c12 bH
      generalize nd.bd.shp n g many f.slots.len = x at *
      cases x
      · go_wp2
        go_ret
        exact ⟨ret_bool (by rw [HF.out]; rfl), Below.next HI.out.bl HB.out⟩
      · have c13 := (HI.out.N.kept HB.out).cell 13 (v := .slice nd.el.ao nd.el.len nd.el.cap) rfl
        have bH := HI.out.H.kept HB.out
        have hW := HH.out.2.2.2.2 w2 ((HH.out.1.kept HI.out.bl).kept HB.out) ((HH.out.2.1.kept HI.out.bl).kept HB.out) ((HH.out.2.2.1.kept HI.out.bl).kept HB.out).el
        go_wp2_with (refine wpList_load_W (by kernel_rfl) 68 (.tmp 2) rfl w.heap.size 0 (by kernel_rfl) (shV n g many f) _ bH.range Try.underlying68 rfl (by kernel_rfl) ?_)
        refine Calls.mono hW ?_
        rintro _ w3 ⟨rfl, hb⟩
        clear hW c13 bH
        rw [show nd.el.shp n g many f.slots.len = R by rw [HF.out]; rfl]
        go_wp2
        go_ret
        exact ⟨rfl, Below.next (Below.next HI.out.bl HB.out) hb⟩
  · have HF : Hid (R = (decide (1 ≤ nd.h.op) && decide (nd.h.op ≤ 18))) := by show _ = _; rw [HR.out]; unfold needB; rw [if_neg o2, if_neg o4, if_neg o9, if_neg o12, if_neg o15, if_neg o16]
    have e2 := beqI o2
    have e4 := beqI o4
    have e9 := beqI o9
    have e12 := beqI o12
    have e15 := beqI o15
    have e16 := beqI (fun e => o16 (Or.inl e))
    have e17 := beqI (fun e => o16 (Or.inr e))
    clear o2 o4 o9 o12 o15 o16
    by_cases h6 : 1 ≤ nd.h.op
    · go_wp2
      go_ret
      exact ⟨ret_bool (by rw [HF.out, decide_eq_true h6]; rfl), HI.out.bl⟩
    · go_wp2
      go_ret
      exact ⟨ret_bool (by rw [HF.out, decide_eq_false (p := 1 ≤ nd.h.op) (by omega)]; rfl), HI.out.bl⟩
end Go.Proofs.Ytcnepnhbfleegaa
