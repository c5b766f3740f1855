/- Layer 10: all nodes; Check of whatever functions. -/
import Derived.Test.YtbdhbgilaeldgaaP27
import Derived.Test.YtbdhbgilaeldgaaP29
import Derived.Test.YtbdhbgilaeldgaaP3
import Derived.Test.YtbdhbgilaeldgaaP7
import Derived.Deep.AppendLies
import Derived.Laws.AppendOwnNone
namespace Go.Proofs.Ytbdhbgilaeldgaa
open Go Go.RowKit

def stpO (j : Jd) (nd : Nd) (s : Sta) : Option Sta :=
  if nd.h.op = 14 then (if j.sets nd = true then some s else none) else if nd.h.op = 15 then (if j.tells nd = true then some s else none)
  else if nd.h.op = 16 then chO j nd s else if nd.h.op = 17 then atO j nd s else if nd.h.op = 18 then raO j nd s else j.make nd s
theorem run_eq {w : World} {j : Jd} : ∀ {nd : Nd} (_ : nd.At w) (s : Sta), nd.run j s = if j.pre nd s = false then none else stpO j nd s
  | .dm, h, _ => h.elim
  | .mk h bao bb bo bl bc bp eao eb eo el ec ep, _, s => by
    unfold Nd.run
    rfl
theorem need_of {w : World} {n : Strs} {g : Grid} {many : Int} {m : Nat} {nd : Nd} (hA : nd.At w) (h : nd.shp n g many m = true) : needB n g many nd.h (nd.bd.shp n g many m) (nd.el.shp n g many m) = true := by
  rw [Nd.shp_eq hA] at h
  unfold shpB at h
  simp only [Bool.and_eq_true] at h
  exact h.2
theorem need_op {n : Strs} {g : Grid} {many : Int} {h : Hd} {x y : Bool} (hn : needB n g many h x y = true) : 1 ≤ h.op ∧ h.op ≤ 18 := by
  unfold needB at hn
  split at hn
  · omega
  split at hn
  · omega
  split at hn
  · omega
  split at hn
  · omega
  split at hn
  · omega
  split at hn
  · omega
  simpa using hn
theorem need_9 {n : Strs} {g : Grid} {many : Int} {h : Hd} {x y : Bool} (hn : needB n g many h x y = true) (ho : h.op = 9) : 0 ≤ h.n ∧ h.n < many := by
  unfold needB at hn
  rw [if_neg (by omega), if_neg (by omega), if_pos ho] at hn
  unfold wthB at hn
  simpa using hn
theorem need_16 {n : Strs} {g : Grid} {many : Int} {h : Hd} {x y : Bool} (hn : needB n g many h x y = true) (ho : h.op = 16 ∨ h.op = 17) : x = true ∧ y = true := by
  unfold needB at hn
  rw [if_neg (by omega), if_neg (by omega), if_neg (by omega), if_neg (by omega), if_neg (by omega), if_pos ho] at hn
  simpa using hn
theorem raise_part {n : Strs} {g : Grid} {t : Ty} {a : Int} (k : Int) (hk : k ≠ 0) (h : (raiseT n g t a).k = k) (hN : t.Nd) {i : Nat} (hi : (i : Int) < arityI k) {b : Int} : (raiseT n g ((raiseT n g t a).ps i) b).Nd := by
  have h1 := raise_ar (n := n) (g := g) (t := t) (a := a) hk h
  exact raise_nd (nd_ps (raise_nd hN) (by omega))
theorem sig_nd {n : Strs} {g : Grid} {f : Fc} {w : World} (h : f.At w) : (sigT n g f).Nd := by
  unfold sigT
  exact raise_nd (mk2_nd h.param.nd h.result.nd)
theorem makes_nd {j : Jd} {nd : Nd} {w : World} (hj : j.At w) (hn : nd.At w) (hs1 : slotsB j.f.slots.len nd.h.rds = true) (h9 : nd.h.op = 9 → 0 ≤ nd.h.n ∧ nd.h.n < j.fns.len) (ho : 1 ≤ nd.h.op ∧ nd.h.op ≤ 13) : (j.makes nd).1.Nd := by
  have ra : ∀ {i}, i ∈ nd.h.rds → (j.f.slots.ps i.toNat).Nd := fun {i} hi => by
    have := slotsB_mem hs1 hi
    exact (hj.f.slots.part (i := i.toNat) (by omega)).nd
  have R : ∀ r : Ty × Int, j.makes nd = r → r.1.Nd → (j.makes nd).1.Nd := fun r h hr => by rw [h]; exact hr
  by_cases h1 : nd.h.op = 1
  · exact R (leafT 1 j.bot, -1) (by unfold Jd.makes; rw [h1]; rfl) (leaf_nd _ _)
  by_cases h2 : nd.h.op = 2
  · exact R (leafT 2 j.bot, -1) (by unfold Jd.makes; rw [h2]; rfl) (leaf_nd _ _)
  by_cases h3 : nd.h.op = 3
  · exact R (j.read nd nd.h.a, -1) (by unfold Jd.makes; rw [h3]; rfl) (raise_nd (ra (by rw [rds1 (by omega)]; simp)))
  by_cases h4 : nd.h.op = 4
  · refine R (j.reck nd) (by unfold Jd.makes; rw [h4]; rfl) ?_
    unfold Jd.reck
    by_cases hq : (((j.read nd nd.h.a).k != 1) || ((j.read nd nd.h.b).k != 1)) = true
    · rw [if_pos hq]; exact leaf_nd _ _
    · rw [if_neg hq]; exact leaf_nd _ _
  by_cases h5 : nd.h.op = 5
  · refine R (onlyT 2 (j.read nd nd.h.a), -1) (by unfold Jd.makes; rw [h5]; rfl) ?_
    show (onlyT 2 (j.read nd nd.h.a)).Nd
    unfold onlyT
    by_cases hq : ((j.read nd nd.h.a).k != 2) = true
    · rw [if_pos hq]; exact leaf_nd _ _
    · rw [if_neg hq]; exact raise_nd (ra (by rw [rds1 (by omega)]; simp))
  by_cases h6 : nd.h.op = 6
  · exact R (mk2 3 j.bot 0 0 (j.read nd nd.h.a) (j.read nd nd.h.b), -1) (by unfold Jd.makes; rw [h6]; rfl) (mk2_nd (raise_nd (ra (by rw [rds2 (by omega)]; simp))) (raise_nd (ra (by rw [rds2 (by omega)]; simp))))
  have SD : ∀ i : Nat, (i : Int) < arityI 3 → nd.h.a ∈ nd.h.rds → (j.side nd i).Nd := fun i hi ha => by
    unfold Jd.side
    by_cases hq : ((j.read nd nd.h.a).k != 3) = true
    · rw [if_pos hq]; exact leaf_nd _ _
    · rw [if_neg hq]
      have h3 : (j.read nd nd.h.a).k = 3 := by simpa using hq
      exact raise_part 3 (by decide) h3 (ra ha) hi
  by_cases h7 : nd.h.op = 7
  · exact R (j.side nd 0, -1) (by unfold Jd.makes; rw [h7]; rfl) (SD 0 (by decide) (by rw [rds1 (by omega)]; simp))
  by_cases h8 : nd.h.op = 8
  · exact R (j.side nd 1, -1) (by unfold Jd.makes; rw [h8]; rfl) (SD 1 (by decide) (by rw [rds1 (by omega)]; simp))
  by_cases h9' : nd.h.op = 9
  · refine R (j.closed nd, -1) (by unfold Jd.makes; rw [h9']; rfl) ?_
    show (j.closed nd).Nd
    have := h9 h9'
    have hN := sig_nd (n := j.n) (g := j.g) (hj.fns.part nd.h.n.toNat (by omega))
    unfold Jd.closed
    by_cases hq : nd.h.ar.len = (j.fns.ps nd.h.n.toNat).caps.len ∧ ∀ i, i < nd.h.ar.len → belB j.n j.g (j.read nd (nd.h.ar.f i)) ((j.fns.ps nd.h.n.toNat).caps.ps i) = true
    · rw [if_pos hq]; exact hN
    · rw [if_neg hq]; exact leaf_nd _ _
  by_cases h10 : nd.h.op = 10
  · exact R (sigT j.n j.g j.f, -1) (by unfold Jd.makes; rw [h10]; rfl) (sig_nd hj.f)
  by_cases h11 : nd.h.op = 11
  · refine R (j.called nd) (by unfold Jd.makes; rw [h11]; rfl) ?_
    unfold Jd.called
    by_cases hq : ((j.read nd nd.h.a).k != 4 || !(belB j.n j.g (j.read nd nd.h.b) ((j.read nd nd.h.a).ps 0)) || !(leqB j.n j.g (j.read nd nd.h.a).l (j.read nd nd.h.a).h && leqB j.n j.g j.f.heap (j.read nd nd.h.a).h)) = true
    · rw [if_pos hq]; exact leaf_nd _ _
    · rw [if_neg hq]
      have hq4 : (j.read nd nd.h.a).k = 4 := by
        cases h : ((j.read nd nd.h.a).k != 4)
        · simpa using h
        · rw [h] at hq; exact absurd rfl hq
      exact raise_part 4 (by decide) hq4 (ra (by rw [rds2 (by omega)]; simp)) (by decide)
  by_cases h12 : nd.h.op = 12
  · refine R (j.cell nd, -1) (by unfold Jd.makes; rw [h12]; rfl) ?_
    show (j.cell nd).Nd
    unfold Jd.cell
    by_cases hq : belB j.n j.g (j.read nd nd.h.a) nd.h.t = true
    · rw [if_pos hq]; intro i _; exact hn.t.nd
    · rw [if_neg hq]; exact leaf_nd _ _
  have h13 : nd.h.op = 13 := by omega
  refine R (j.held nd, -1) (by unfold Jd.makes; rw [h13]; rfl) ?_
  show (j.held nd).Nd
  unfold Jd.held
  by_cases hq : ((j.read nd nd.h.a).k != 5) = true
  · rw [if_pos hq]; exact leaf_nd _ _
  · rw [if_neg hq]
    have h5' : (j.read nd nd.h.a).k = 5 := by simpa using hq
    exact raise_part 5 (by decide) h5' (ra (by rw [rds1 (by omega)]; simp)) (by decide)
theorem makes_full (D : Nat) (j : Jd) (nd : Nd) (w : World) (hj : j.At w) (hn : nd.At w) (hD : D ≤ w.heap.size) (hT : nd.h.t.Blk (fun b => b < D)) (hs1 : slotsB j.f.slots.len nd.h.rds = true) (h9 : nd.h.op = 9 → 0 ≤ nd.h.n ∧ nd.h.n < j.fns.len) (ho : 1 ≤ nd.h.op ∧ nd.h.op ≤ 13) : MakeC D j nd w := by
  have sl : ∀ {i}, i ∈ nd.h.rds → 0 ≤ i ∧ i < j.f.slots.len := fun hi => slotsB_mem hs1 hi
  have sz : ∀ {u}, Below w.heap.size w u → D ≤ u.heap.size := fun h => Nat.le_trans hD h.size
  by_cases h1 : nd.h.op = 1
  · exact makes_op1 D j nd w hj hD h1 (leafT 1 j.bot) (by unfold Jd.makes; rw [if_pos h1]) (fun u' _ => plain_ret D j 1 u')
  by_cases h2 : nd.h.op = 2
  · exact makes_op2 D j nd w hj hD h2 (leafT 2 j.bot) (by unfold Jd.makes; rw [h2]; rfl) (fun u' _ => plain_ret D j 2 u')
  by_cases h3 : nd.h.op = 3
  · have ha := sl (i := nd.h.a) (by rw [rds1 (by omega)]; simp)
    exact makes_op3 D j nd w hj hD h3 (j.read nd nd.h.a) (by unfold Jd.makes; rw [h3]; rfl) (fun u' hu' => read_any D j nd nd.h.a u' (hj.kept hu') (sz hu') ha.1 ha.2)
  by_cases h4 : nd.h.op = 4
  · have ha := sl (i := nd.h.a) (by rw [rds2 (by omega)]; simp)
    have hb := sl (i := nd.h.b) (by rw [rds2 (by omega)]; simp)
    exact makes_op4 D j nd w hj hD h4 (j.reck nd).1 (j.reck nd).2 (by unfold Jd.makes; rw [h4]; rfl) (fun u' hu' => reck_any D j nd u' (hj.kept hu') (sz hu') ha.1 ha.2 hb.1 hb.2)
  by_cases h5 : nd.h.op = 5
  · have ha := sl (i := nd.h.a) (by rw [rds1 (by omega)]; simp)
    exact makes_op5 D j nd w hj hD h5 (fun u' hu' => read_any D j nd nd.h.a u' (hj.kept hu') (sz hu') ha.1 ha.2)
  by_cases h6 : nd.h.op = 6
  · have ha := sl (i := nd.h.a) (by rw [rds2 (by omega)]; simp)
    have hb := sl (i := nd.h.b) (by rw [rds2 (by omega)]; simp)
    exact makes_op6 D j nd w hj hD h6 ha.1 ha.2 hb.1 hb.2
  by_cases h7 : nd.h.op = 7
  · have ha := sl (i := nd.h.a) (by rw [rds1 (by omega)]; simp)
    exact makes_op7 D j nd w hj hD h7 (j.side nd 0) (by unfold Jd.makes; rw [h7]; rfl) (fun u' hu' => side_any D j nd 0 (by omega) u' (hj.kept hu') (sz hu') ha.1 ha.2)
  by_cases h8 : nd.h.op = 8
  · have ha := sl (i := nd.h.a) (by rw [rds1 (by omega)]; simp)
    exact makes_op8 D j nd w hj hD h8 (j.side nd 1) (by unfold Jd.makes; rw [h8]; rfl) (fun u' hu' => side_any D j nd 1 (by omega) u' (hj.kept hu') (sz hu') ha.1 ha.2)
  by_cases h9' : nd.h.op = 9
  · have hh := h9 h9'
    exact makes_op9 D j nd w hj hD h9' (j.closed nd) (by unfold Jd.makes; rw [h9']; rfl) (fun u' hu' => closed_any D j nd u' (hj.kept hu') (hn.ar.kept hu') (sz hu') hh.1 hh.2 (fun i hi => sl (by rw [rds9 h9']; exact List.mem_map.2 ⟨i, by simpa using hi, rfl⟩)))
  by_cases h10 : nd.h.op = 10
  · exact makes_op10 D j nd w hj hD h10 (sigT j.n j.g j.f) (by unfold Jd.makes; rw [h10]; rfl) (fun u' hu' => Sig_any D j.n j.g j.f u' (hj.n.kept hu') (hj.g.kept hu') (hj.f.kept hu') (sz hu'))
  by_cases h11 : nd.h.op = 11
  · have ha := sl (i := nd.h.a) (by rw [rds2 (by omega)]; simp)
    have hb := sl (i := nd.h.b) (by rw [rds2 (by omega)]; simp)
    exact makes_op11 D j nd w hj hD h11 (j.called nd).1 (j.called nd).2 (by unfold Jd.makes; rw [h11]; rfl) (fun u' hu' => called_any D j nd u' (hj.kept hu') (sz hu') ha.1 ha.2 hb.1 hb.2)
  by_cases h12 : nd.h.op = 12
  · have ha := sl (i := nd.h.a) (by rw [rds1 (by omega)]; simp)
    exact makes_op12 D j nd w hj hD h12 (j.cell nd) (by unfold Jd.makes; rw [h12]; rfl) (fun u' hu' => cell_any D j nd u' (hj.kept hu') (sz hu') ha.1 ha.2 (hn.t.kept hu') hT)
  · have h13 : nd.h.op = 13 := by omega
    have ha := sl (i := nd.h.a) (by rw [rds1 (by omega)]; simp)
    exact makes_op13 D j nd w hj hD h13 (j.held nd) (by unfold Jd.makes; rw [h13]; rfl) (fun u' hu' => held_any D j nd u' (hj.kept hu') (sz hu') ha.1 ha.2)
/-- A node, where its lists are known. -/
theorem node_full (j : Jd) (nd : Nd) (s : Sta) (w : World) (hj : j.At w) (hn : nd.At w) (hs : j.f.slots.len ≤ 250) (hsh : nd.shp j.n j.g j.fns.len j.f.slots.len = true)
    (hbd : nd.h.op = 16 ∨ nd.h.op = 17 → ∀ t u, Below w.heap.size w u → ListC (j.list nd.bd t) j nd.bd t u) (hel : nd.h.op = 16 ∨ nd.h.op = 17 → ∀ t u, Below w.heap.size w u → ListC (j.list nd.el t) j nd.el t u) : NodeC (stpO j nd s) j nd s w := by
  have hp := shp_parts hn hsh
  have hne := need_of hn hsh
  have hop := need_op hne
  unfold stpO
  by_cases h14 : nd.h.op = 14
  · have ha := slotsB_mem hp.1 (x := nd.h.a) (by rw [rds2 (by omega)]; simp)
    have hb := slotsB_mem hp.1 (x := nd.h.b) (by rw [rds2 (by omega)]; simp)
    rw [if_pos h14]
    exact node_op14 j nd s w hj hn h14 (j.sets nd) _ rfl (fun u hu => sets_any j nd u (hj.kept hu) ha.1 ha.2 hb.1 hb.2)
  by_cases h15 : nd.h.op = 15
  · have ha := slotsB_mem hp.1 (x := nd.h.a) (by rw [rds1 (by omega)]; simp)
    rw [if_neg h14, if_pos h15]
    exact node_op15 j nd s w hj hn h15 (j.tells nd) _ rfl (fun u hu => tells_any j nd u (hj.kept hu) ha.1 ha.2)
  by_cases h16 : nd.h.op = 16
  · have ha := slotsB_mem hp.1 (x := nd.h.a) (by rw [rds1 (by omega)]; simp)
    rw [if_neg h14, if_neg h15, if_pos h16]
    exact node_op16 j nd s w hj hn h16 _ (fun u hu => choice_any j nd s u (hj.kept hu) (hn.kept hu) ha.1 ha.2 (fun t u' hu' => hbd (Or.inl h16) t u' (Below.next hu hu')) (fun t u' hu' => hel (Or.inl h16) t u' (Below.next hu hu')))
  by_cases h17 : nd.h.op = 17
  · have hd := hp.2 (by unfold Hd.wrs; rw [h17]; rfl)
    rw [if_neg h14, if_neg h15, if_neg h16, if_pos h17]
    exact node_op17 j nd s w hj hn h17 _ (fun u hu => attempt_any j nd s u (hj.kept hu) (hn.kept hu) hd.1 hd.2 hs (fun t u' hu' => hbd (Or.inr h17) t u' (Below.next hu hu')) (fun t u' hu' => hel (Or.inr h17) t u' (Below.next hu hu')))
  by_cases h18 : nd.h.op = 18
  · have ha := slotsB_mem hp.1 (x := nd.h.a) (by rw [rds1 (by omega)]; simp)
    rw [if_neg h14, if_neg h15, if_neg h16, if_neg h17, if_pos h18]
    exact node_op18 j nd s w hj hn h18 ha.1 ha.2
  rw [if_neg h14, if_neg h15, if_neg h16, if_neg h17, if_neg h18]
  have hd := hp.2 (by unfold Hd.wrs; simp [h14, h15, h16, h18])
  exact node_make w.heap.size j nd s w hj hn (by omega) hd.1 hd.2 hs (Nat.le_refl _) (makes_nd hj hn hp.1 (fun h => need_9 hne h) (by omega)) (fun u hu => makes_full w.heap.size j nd u (hj.kept hu) (hn.kept hu) hu.size hn.t.lt hp.1 (fun h => need_9 hne h) (by omega))
/-- Nodes. -/
theorem list_of (j : Jd) (b : Ns) (w : World) (hj : j.At w) (hb : b.At w) (hs : j.f.slots.len ≤ 250) (hsh : ∀ i, i < b.len → (b.ps i).shp j.n j.g j.fns.len j.f.slots.len = true)
    (ih : ∀ i, i < b.len → (∀ t u, Below w.heap.size w u → (b.ps i).h.op = 16 ∨ (b.ps i).h.op = 17 → ListC (j.list (b.ps i).bd t) j (b.ps i).bd t u) ∧ (∀ t u, Below w.heap.size w u → (b.ps i).h.op = 16 ∨ (b.ps i).h.op = 17 → ListC (j.list (b.ps i).el t) j (b.ps i).el t u)) (s : Sta) : ListC (j.list b s) j b s w := by
  refine list_any j b s w hj hb (fun i hi x hx => ?_) (fun i s => stpO j (b.ps i) s) (fun i hi s => run_eq (hb.part i hi) s) (fun i hi s q hq => ?_)
  · have := slotsB_mem (shp_parts (hb.part i hi) (hsh i hi)).1 hx
    omega
  · exact node_full j (b.ps i) s q (hj.kept hq) ((hb.part i hi).kept hq) hs (hsh i hi) (fun ho t u hu => (ih i hi).1 t u (Below.next hq hu) ho) (fun ho t u hu => (ih i hi).2 t u (Below.next hq hu) ho)
theorem nd_full (j : Jd) (hs : j.f.slots.len ≤ 250) : ∀ nd : Nd, ∀ w, j.At w → nd.At w → nd.shp j.n j.g j.fns.len j.f.slots.len = true → (∀ t u, Below w.heap.size w u → nd.h.op = 16 ∨ nd.h.op = 17 → ListC (j.list nd.bd t) j nd.bd t u) ∧ (∀ t u, Below w.heap.size w u → nd.h.op = 16 ∨ nd.h.op = 17 → ListC (j.list nd.el t) j nd.el t u) := by
  refine Nd.ind fun nd ih1 ih2 w hj hn hsh => ⟨fun t u hu ho => ?_, fun t u hu ho => ?_⟩
  · have hx := (need_16 (need_of hn hsh) ho).1
    unfold Ns.shp at hx
    have hx := of_decide_eq_true hx
    exact list_of j nd.bd u (hj.kept hu) (hn.bd.kept hu) hs hx (fun i hi => ih1 i hi u (hj.kept hu) ((hn.bd.kept hu).part i hi) (hx i hi)) t
  · have hx := (need_16 (need_of hn hsh) ho).2
    unfold Ns.shp at hx
    have hx := of_decide_eq_true hx
    exact list_of j nd.el u (hj.kept hu) (hn.el.kept hu) hs hx (fun i hi => ih2 i hi u (hj.kept hu) ((hn.el.kept hu).part i hi) (hx i hi)) t
theorem list_full (j : Jd) (b : Ns) (w : World) (hj : j.At w) (hb : b.At w) (hs : j.f.slots.len ≤ 250) (hsh : b.shp j.n j.g j.fns.len j.f.slots.len = true) (s : Sta) : ListC (j.list b s) j b s w := by
  unfold Ns.shp at hsh
  have hx := of_decide_eq_true hsh
  exact list_of j b w hj hb hs hx (fun i hi => nd_full j hs (b.ps i) w hj (hb.part i hi) (hx i hi)) s
/-- Check, of whatever functions. -/
theorem Check_full (n : Strs) (g : Grid) (l : Fl) (w : World) (hn : n.At w) (hg : g.At w) (hl : l.At w) (hcl : ∀ i, i < l.len → (l.ps i).caps.len ≤ 1000000) :
    Calls Try.prog 9 #[.agg #[.slice n.ao n.len n.cap, .slice g.ao g.len g.cap], .slice l.ao l.len l.cap] w fun e w' => ∃ a b : Int, e = .returned (.tuple #[.int .i64 a, .int .i64 b]) ∧ ChkR n g l a b ∧ Below w.heap.size w w' := by
  refine Check_any n g l w hn hg hl hcl fun hs i hi s u hu => ?_
  have hp := hld_parts (shd_fn hs hi)
  exact list_full (jdg n g l i) (l.ps i).body u ⟨hn.kept hu, hg.kept hu, hl.kept hu, (hl.part i hi).kept hu⟩ ((hl.part i hi).body.kept hu) hp.2.2.1 hp.1.2.2 s
end Go.Proofs.Ytbdhbgilaeldgaa

/- Layer 10: sized and few, as much of them as is needed: they answer. -/
namespace Go.Proofs.Ytbdhbgilaeldgaa
open Go Go.RowKit

/-- A Boolean answered. -/
def SomeB (w : World) (e : Ending) (w' : World) : Prop := ∃ r : Bool, e = .returned (.bool r) ∧ Below w.heap.size w w'
def SizedC (b : Ns) : Prop := ∀ (deep : Int) (w : World), b.At w → Calls Try.prog 21 #[.slice b.ao b.len b.cap, .int .i64 deep] w (SomeB w)
set_option maxRecDepth 100000 in
set_option maxHeartbeats 16000000 in
theorem sized_list (b : Ns) (ih : ∀ i, i < b.len → SizedC (b.ps i).bd ∧ SizedC (b.ps i).el) : SizedC b := by
  intro deep w hb
  have HH := hid (show (∀ i, i < b.len → SizedC (b.ps i).bd ∧ SizedC (b.ps i).el) ∧ b.At w from ⟨ih, hb⟩)
  have hnil : 0 < b.len → b.ao = some ⟨b.b, b.o, none⟩ := hb.nil
  have hbd : b.len ≤ 9223372036854775807 := hb.bound
  have HI := hid (Below.refl w.heap.size w)
  clear ih hb
  generalize hlen : b.len = len at *
  have HL : Hid (b.len = len) := hlen
  clear hlen
  generalize b.ao = ao at *
  generalize b.cap = cap at *
  go_enter Try.func21, Try.ntmps21
  go_upto_region 1 with fail
  go_cut [17] (fun c wx => ∃ r : Bool, c = .bool r ∧ Hid (Below w.heap.size w wx))
  case first =>
    by_cases h2 : 200 < len
    · have d1 : decide ((200 : Int) < len) = true := by simp; omega
      go_wp2
      go_meet
      case rel => exact ⟨_, rfl, HI.out⟩
    · have d1 : decide ((200 : Int) < len) = false := by simp; omega
      cases d2 : (deep == 0)
      · go_wp2
        go_meet
        case rel => exact ⟨_, rfl, HI.out⟩
      · go_wp2
        go_meet
        case rel => exact ⟨_, rfl, HI.out⟩
  case rest =>
    obtain ⟨r, rfl, hI⟩ := hcut
    clear HI
    have HI := hid hI.out
    clear hI
    cases r
    · go_wp2
      go_loopw [5] (fun i wr => ∃ (k : Nat), k ≤ len ∧ i = .int .i64 k ∧ Below w.heap.size w wr) (fun i _ => len - (intOf i).toNat)
      case atStart => exact ⟨0, Nat.zero_le _, rfl, HI.out⟩
      case round =>
        clear HI
        obtain ⟨k, hk, rfl, hB⟩ := hrel
        have HI := hid hB
        clear hB
        by_cases hlt : k < len
        · have ij : (k : Int) < len := by omega
          have a0 := hnil (by omega)
          subst a0
          have hlt' : k < b.len := by rw [HL.out]; exact hlt
          have HN := hid (show (b.ps k).At wr ∧ wr.rangeAt b.b (b.o + k * 14) (b.ps k).vs ∧ SizedC (b.ps k).bd ∧ SizedC (b.ps k).el from ⟨(HH.out.2.kept HI.out).part k hlt', (HH.out.2.kept HI.out).cells k hlt', HH.out.1 k hlt⟩)
          clear hlt'
          generalize b.ps k = nd at *
          have rT : wr.rangeAt b.b (b.o + k * 14 + 6) nd.h.t.vs := fun i v hv => by
            have := HN.out.2.1 (6 + i) v (by
              match i, hv with
              | 0, hv => exact hv
              | 1, hv => exact hv
              | 2, hv => exact hv
              | 3, hv => exact hv
              | 4, hv => exact hv
              | _ + 5, hv => simp [Ty.vs] at hv)
            rw [← Nat.add_assoc] at this
            exact this
          go_upto_region 6 with fail
          go_cut [61] (fun c wx => ∃ r : Bool, c = .bool r ∧ Hid (Below w.heap.size w wx))
          case first =>
            have hS : Calls Try.prog 17 #[.agg nd.h.t.vs.toArray] wr (fun e w' => e = .returned (.bool (decide (nd.h.t.nodes ≤ 40))) ∧ Below wr.heap.size wr w') := rSmall2_any nd.h.t wr HN.out.1.t
            go_wp2_with (refine wpList_load_mid rfl 39 (.tmp 27) rfl b.b (b.o + k * 14 + 6) (by kernel_rfl) nd.h.t.vs _ rT Try.underlying39 rfl (by kernel_rfl) ?_)
            refine Calls.mono hS ?_
            rintro _ w1 ⟨rfl, hb1⟩
            have HN1 := hid (show nd.At w1 ∧ w1.rangeAt b.b (b.o + k * 14) nd.vs ∧ Below w.heap.size w w1 from ⟨HN.out.1.kept hb1, rangeAt_kept HN.out.2.1 hb1, Below.next HI.out hb1⟩)
            clear hS hb1 rT
            generalize decide (nd.h.t.nodes ≤ 40) = r1 at *
            cases r1
            · go_wp2
              go_meet
              case rel => exact ⟨_, rfl, HN1.out.2.2⟩
            have c11 : w1.cell? ⟨b.b, b.o + k * 14 + 11, none⟩ = some (.slice nd.h.ar.ao nd.h.ar.len nd.h.ar.cap) := HN1.out.2.1 11 _ rfl
            have c12 : w1.cell? ⟨b.b, b.o + k * 14 + 12, none⟩ = some (.slice nd.bd.ao nd.bd.len nd.bd.cap) := HN1.out.2.1 12 _ rfl
            cases d3 : decide ((100 : Int) < nd.h.ar.len)
            · go_wp2_with fail
              refine Calls.mono (HN.out.2.2.1 _ w1 HN1.out.1.bd) ?_
              rintro _ w2 ⟨r2, rfl, hb2⟩
              have HN2 := hid (show nd.At w2 ∧ w2.rangeAt b.b (b.o + k * 14) nd.vs ∧ Below w.heap.size w w2 from ⟨HN1.out.1.kept hb2, rangeAt_kept HN1.out.2.1 hb2, Below.next HN1.out.2.2 hb2⟩)
              clear hb2 c11 c12 d3 HN1
              cases r2
              · go_wp2
                go_meet
                case rel => exact ⟨_, rfl, HN2.out.2.2⟩
              have c13 : w2.cell? ⟨b.b, b.o + k * 14 + 13, none⟩ = some (.slice nd.el.ao nd.el.len nd.el.cap) := HN2.out.2.1 13 _ rfl
              go_wp2_with fail
              refine Calls.mono (HN.out.2.2.2 _ w2 HN2.out.1.el) ?_
              rintro _ w3 ⟨r3, rfl, hb3⟩
              have HB3 := hid (Below.next HN2.out.2.2 hb3)
              clear hb3 c13 HN2
              cases r3
              · go_wp2
                go_meet
                case rel => exact ⟨_, rfl, HB3.out⟩
              · go_wp2
                go_meet
                case rel => exact ⟨_, rfl, HB3.out⟩
            · go_wp2
              go_meet
              case rel => exact ⟨_, rfl, HN1.out.2.2⟩
          case rest =>
            obtain ⟨r, rfl, hI⟩ := hcut
            clear HI
            have HI := hid hI.out
            clear hI
            cases r
            · go_wp2
              go_roundw
              case rel => exact ⟨k + 1, by omega, by go_num, HI.out⟩
              case measure => simp [intOf]; omega
            · go_wp2
              go_ret
              exact ⟨_, rfl, HI.out⟩
        · have e2 : k = len := by omega
          subst e2
          have d : ¬ (k : Int) < k := by omega
          go_wp2
          go_ret
          exact ⟨_, rfl, HI.out⟩
    · go_wp2
      go_ret
      exact ⟨_, rfl, HI.out⟩
theorem sized_nd : ∀ n : Nd, SizedC n.bd ∧ SizedC n.el := by
  intro n
  induction n using Nd.ind with
  | h n ih1 ih2 => exact ⟨sized_list _ ih1, sized_list _ ih2⟩
theorem sized_any (b : Ns) : SizedC b := sized_list b fun i _ => sized_nd (b.ps i)
end Go.Proofs.Ytbdhbgilaeldgaa

/- Layer 10: few. -/
namespace Go.Proofs.Ytbdhbgilaeldgaa
open Go Go.RowKit

theorem small2_ret (t : Ty) (w : World) (h : t.At w) : Calls Try.prog 17 #[.agg t.vs.toArray] w (SomeB w) := Calls.mono (rSmall2_any t w h) fun _ _ h => ⟨_, h.1, h.2⟩
/-- What few answers: where it says yes there are few functions, with few Caps. -/
def FewR (l : Fl) (w : World) (e : Ending) (w' : World) : Prop := ∃ r : Bool, e = .returned (.bool r) ∧ (r = true → l.len ≤ 70 ∧ ∀ i, i < l.len → (l.ps i).caps.len ≤ 30) ∧ Below w.heap.size w w'
structure Fw (w : World) (f : Fc) (B : Nat) (u : World) : Prop where
  bl : Below w.heap.size w u
  F : Blk u B f.vs 43
theorem Fw.kept {w : World} {f : Fc} {B : Nat} {u u' : World} (h : Fw w f B u) (hb : Below u.heap.size u u') : Fw w f B u' := ⟨Below.next h.bl hb, h.F.kept hb⟩
set_option maxRecDepth 100000 in
set_option maxHeartbeats 16000000 in
theorem few_any10 (n : Strs) (g : Grid) (l : Fl) (w : World) (hn : n.At w) (hg : g.At w) (hl : l.At w) : Calls Try.prog 8 #[.agg #[.slice n.ao n.len n.cap, .slice g.ao g.len g.cap], .slice l.ao l.len l.cap] w (FewR l w) := by
  have B0 := below_alloc w (.cells #[.slice n.ao n.len n.cap, .slice g.ao g.len g.cap] 25)
  have HI := hid (show Below w.heap.size w (w.alloc (.cells #[.slice n.ao n.len n.cap, .slice g.ao g.len g.cap] 25)) ∧ Blk (w.alloc (.cells #[.slice n.ao n.len n.cap, .slice g.ao g.len g.cap] 25)) w.heap.size [.slice n.ao n.len n.cap, .slice g.ao g.len g.cap] 25 from ⟨B0, Blk.new w _ _⟩)
  have HH := hid (show n.At w ∧ g.At w ∧ l.At w from ⟨hn, hg, hl⟩)
  have hnil : 0 < l.len → l.ao = some ⟨l.b, l.o, none⟩ := hl.nil
  have hbd : l.len ≤ 9223372036854775807 := hl.bound
  clear hn hg hl B0
  generalize hlen : l.len = len at *
  have HL : Hid (l.len = len) := hlen
  clear hlen
  generalize l.ao = ao at *
  generalize l.cap = cap at *
  go_enter Try.func8, Try.ntmps8
  go_upto_region 1 with fail
  generalize (w.alloc (.cells #[.slice n.ao n.len n.cap, .slice g.ao g.len g.cap] 25)) = w1 at *
  go_cut [16] (fun c wx => ∃ r : Bool, c = .bool r ∧ (r = false → len ≤ 70) ∧ Hid (Below w.heap.size w wx))
  case first =>
    have e0 := HI.out.2.cell 0 rfl
    have e1 := HI.out.2.cell 1 rfl
    have hS := small_any n g w1 (HH.out.1.kept HI.out.1) (HH.out.2.1.kept HI.out.1)
    go_wp2_with fail
    refine Calls.mono hS ?_
    rintro _ w2 ⟨rfl, hb2⟩
    have HB := hid (Below.next HI.out.1 hb2)
    clear hS e0 e1 hb2
    generalize smallB n g = r1 at *
    cases r1
    · go_wp2
      go_meet
      case rel => exact ⟨_, rfl, (fun h => by cases h), HB.out⟩
    · by_cases h70 : 70 < len
      · have d1 : decide ((70 : Int) < len) = true := by simp; omega
        go_wp2
        go_meet
        case rel => exact ⟨_, rfl, (fun h => by cases h), HB.out⟩
      · have d1 : decide ((70 : Int) < len) = false := by simp; omega
        have HLe := hid h70
        clear h70
        go_wp2
        go_meet
        case rel => exact ⟨_, rfl, (fun _ => by have := HLe.out; omega), HB.out⟩
  case rest =>
    obtain ⟨r, rfl, h70, hI⟩ := hcut
    clear HI
    have HI := hid hI.out
    clear hI
    cases r
    · have HLe := hid (h70 rfl)
      clear h70
      go_wp2
      go_loopw [5] (fun i wr => ∃ (k : Nat), k ≤ len ∧ i = .int .i64 k ∧ (∀ i, i < k → (l.ps i).caps.len ≤ 30) ∧ Below w.heap.size w wr) (fun i _ => len - (intOf i).toNat)
      case atStart => exact ⟨0, Nat.zero_le _, rfl, fun i hi => absurd hi (Nat.not_lt_zero _), HI.out⟩
      case round =>
        clear HI
        obtain ⟨k, hk, rfl, hall, hB⟩ := hrel
        have HA := hid hall
        have HI := hid hB
        clear hall hB
        by_cases hlt : k < len
        · have ij : (k : Int) < len := by omega
          have a0 := hnil (by omega)
          subst a0
          have hlt' : k < l.len := by rw [HL.out]; exact hlt
          have rN : wr.rangeAt l.b (l.o + k * 16) (l.ps k).vs := (HH.out.2.2.kept HI.out).cells k hlt'
          have HF := hid (HH.out.2.2.part k hlt')
          have HA1 : Hid ((l.ps k).caps.len ≤ 30 → ∀ i, i < k + 1 → (l.ps i).caps.len ≤ 30) := by
            intro h i hi
            rcases Nat.lt_or_ge i k with h2 | h2
            · exact HA.out i h2
            · have : i = k := by omega
              subst this; exact h
          clear hlt'
          generalize l.ps k = f at *
          have hN := below_alloc wr (.cells f.vs.toArray 43)
          have HB := hid (show Fw w f wr.heap.size (wr.alloc (.cells f.vs.toArray 43)) from ⟨Below.next HI.out hN, Blk.new wr _ _⟩)
          clear hN HI HA
          go_upto_region 7 with (first | (refine wpList_load_mid rfl 43 (.tmp 25) rfl l.b (l.o + k * 16) (by kernel_rfl) f.vs _ rN Try.underlying43 rfl (by kernel_rfl) ?_) | (refine wpList_new_mid rfl rfl 43 rfl (.tmp 6) (.tmp 26) rfl zFv (alloc_fn _) rfl f.vs.toArray (by kernel_rfl) (by kernel_rfl) rfl (by kernel_rfl) (by simpa using f.va_one) ?_))
          clear rN
          generalize (wr.alloc (.cells f.vs.toArray 43)) = w2 at *
          generalize wr.heap.size = BF at *
          simp only [Act.put, List.setIfInBounds_toArray, List.set_cons_succ, List.set_cons_zero]
          go_cut [54] (fun c wx => ∃ r : Bool, c = .bool r ∧ Hid (r = false → f.caps.len ≤ 30) ∧ Hid (Fw w f BF wx))
          case first =>
            have s13 := HB.out.F.cell 13 (v := .slice f.slots.ao f.slots.len f.slots.cap) rfl
            have s10 := HB.out.F.cell 10 (v := .slice f.caps.ao f.caps.len f.caps.cap) rfl
            cases d1 : decide ((300 : Int) < f.slots.len)
            · by_cases h30 : 30 < f.caps.len
              · have d2 : decide ((30 : Int) < f.caps.len) = true := by simp; omega
                clear h30
                go_wp2
                go_meet
                case rel => exact ⟨_, rfl, (fun h => by cases h), HB.out⟩
              · have d2 : decide ((30 : Int) < f.caps.len) = false := by simp; omega
                have H30 : Hid (f.caps.len ≤ 30) := by show _ ≤ _; omega
                clear h30
                have r0 : w2.rangeAt BF 0 f.param.vs := range_of5 HB.out.F 0 rfl rfl rfl rfl rfl
                go_wp2_with (refine wpList_load_W (by kernel_rfl) 39 (.tmp 38) rfl BF 0 (by kernel_rfl) f.param.vs _ r0 Try.underlying39 rfl (by kernel_rfl) ?_)
                refine Calls.mono (small2_ret f.param w2 (HF.out.param.kept HB.out.bl)) ?_
                rintro _ w3 ⟨r1, rfl, hb3⟩
                have HB3 := hid (HB.out.kept hb3)
                clear s13 s10 d1 d2 r0 hb3 HB
                cases r1
                · go_wp2
                  go_meet
                  case rel => exact ⟨_, rfl, (fun h => by cases h), HB3.out⟩
                have r5 : w3.rangeAt BF 5 f.result.vs := range_of5 HB3.out.F 5 rfl rfl rfl rfl rfl
                go_wp2_with (refine wpList_load_W (by kernel_rfl) 39 (.tmp 44) rfl BF 5 (by kernel_rfl) f.result.vs _ r5 Try.underlying39 rfl (by kernel_rfl) ?_)
                refine Calls.mono (small2_ret f.result w3 (HF.out.result.kept HB3.out.bl)) ?_
                rintro _ w4 ⟨r2, rfl, hb4⟩
                have HB4 := hid (HB3.out.kept hb4)
                clear r5 hb4 HB3
                cases r2
                · go_wp2
                  go_meet
                  case rel => exact ⟨_, rfl, (fun h => by cases h), HB4.out⟩
                have s14 := HB4.out.F.cell 14 (v := .slice f.body.ao f.body.len f.body.cap) rfl
                go_wp2_with fail
                refine Calls.mono (sized_any f.body _ w4 (HF.out.body.kept HB4.out.bl)) ?_
                rintro _ w5 ⟨r3, rfl, hb5⟩
                have HB5 := hid (HB4.out.kept hb5)
                clear s14 hb5 HB4
                cases r3
                · go_wp2
                  go_meet
                  case rel => exact ⟨_, rfl, (fun h => by cases h), HB5.out⟩
                · go_wp2
                  go_meet
                  case rel => exact ⟨_, rfl, (fun _ => H30.out), HB5.out⟩
            · go_wp2
              go_meet
              case rel => exact ⟨_, rfl, (fun h => by cases h), HB.out⟩
          case rest =>
            obtain ⟨r, rfl, h30, hI⟩ := hcut
            clear HB
            have HB := hid hI.out
            clear hI
            cases r
            · have HA2 := hid (HA1.out (h30.out rfl))
              clear HA1 h30
              have hsn : 0 < f.slots.len → f.slots.ao = some ⟨f.slots.b, f.slots.o, none⟩ := HF.out.slots.nil
              have hsb : f.slots.len ≤ 9223372036854775807 := HF.out.slots.bound
              have hcn : 0 < f.caps.len → f.caps.ao = some ⟨f.caps.b, f.caps.o, none⟩ := HF.out.caps.nil
              have hcb : f.caps.len ≤ 9223372036854775807 := HF.out.caps.bound
              go_wp2
              go_loopw [7] (fun i wr => ∃ (m : Nat), m ≤ f.slots.len ∧ i = .int .i64 m ∧ Fw w f BF wr) (fun i _ => f.slots.len - (intOf i).toNat)
              case atStart => exact ⟨0, Nat.zero_le _, rfl, HB.out⟩
              case round =>
                clear HB
                obtain ⟨m, hm, rfl, hB⟩ := hrel
                have HB := hid hB
                clear hB
                have s13 := HB.out.F.cell 13 (v := .slice f.slots.ao f.slots.len f.slots.cap) rfl
                by_cases hml : m < f.slots.len
                · have ij2 : (m : Int) < f.slots.len := by omega
                  rw [hsn (by omega)] at s13
                  have rS := C5.row ((HF.out.slots.kept HB.out.bl).cells hml)
                  have HT := hid ((HF.out.slots.kept HB.out.bl).part hml)
                  go_wp2_with (refine wpList_load_mid rfl 39 (.tmp 65) rfl f.slots.b (f.slots.o + m * 5) (by kernel_rfl) (f.slots.ps m).vs _ rS Try.underlying39 rfl (by kernel_rfl) ?_)
                  refine Calls.mono (small2_ret (f.slots.ps m) _ HT.out) ?_
                  rintro _ w3 ⟨r1, rfl, hb3⟩
                  have HB3 := hid (HB.out.kept hb3)
                  clear s13 rS HT hb3 HB
                  cases r1
                  · go_wp2
                    go_ret
                    exact ⟨_, rfl, (fun h => by cases h), HB3.out.bl⟩
                  · go_wp2
                    go_roundw
                    case rel => exact ⟨m + 1, by omega, by go_num, HB3.out⟩
                    case measure => simp [intOf]; omega
                · have e2 : m = f.slots.len := by omega
                  subst e2
                  have d : ¬ (f.slots.len : Int) < f.slots.len := by omega
                  go_wp2
                  clear s13
                  go_loopw [8] (fun i wr => ∃ (m : Nat), m ≤ f.caps.len ∧ i = .int .i64 m ∧ Fw w f BF wr) (fun i _ => f.caps.len - (intOf i).toNat)
                  case atStart => exact ⟨0, Nat.zero_le _, rfl, HB.out⟩
                  case round =>
                    clear HB
                    obtain ⟨m, hm, rfl, hB⟩ := hrel
                    have HB := hid hB
                    clear hB
                    have s10 := HB.out.F.cell 10 (v := .slice f.caps.ao f.caps.len f.caps.cap) rfl
                    by_cases hml : m < f.caps.len
                    · have ij2 : (m : Int) < f.caps.len := by omega
                      rw [hcn (by omega)] at s10
                      have rS := C5.row ((HF.out.caps.kept HB.out.bl).cells hml)
                      have HT := hid ((HF.out.caps.kept HB.out.bl).part hml)
                      go_wp2_with (refine wpList_load_mid rfl 39 (.tmp 79) rfl f.caps.b (f.caps.o + m * 5) (by kernel_rfl) (f.caps.ps m).vs _ rS Try.underlying39 rfl (by kernel_rfl) ?_)
                      refine Calls.mono (small2_ret (f.caps.ps m) _ HT.out) ?_
                      rintro _ w3 ⟨r1, rfl, hb3⟩
                      have HB3 := hid (HB.out.kept hb3)
                      clear s10 rS HT hb3 HB
                      cases r1
                      · go_wp2
                        go_ret
                        exact ⟨_, rfl, (fun h => by cases h), HB3.out.bl⟩
                      · go_wp2
                        go_roundw
                        case rel => exact ⟨m + 1, by omega, by go_num, HB3.out⟩
                        case measure => simp [intOf]; omega
                    · have e2 : m = f.caps.len := by omega
                      subst e2
                      have d : ¬ (f.caps.len : Int) < f.caps.len := by omega
                      go_wp2
                      go_roundw
                      case rel => exact ⟨k + 1, by omega, by go_num, HA2.out, HB.out.bl⟩
                      case measure => simp [intOf]; omega
            · go_wp2
              go_ret
              exact ⟨_, rfl, (fun h => by cases h), HB.out.bl⟩
        · have e2 : k = len := by omega
          subst e2
          have d : ¬ (k : Int) < k := by omega
          go_wp2
          go_ret
          exact ⟨_, rfl, (fun _ => ⟨by rw [HL.out]; exact HLe.out, fun i hi => HA.out i (by rw [HL.out] at hi; exact hi)⟩), HI.out⟩
    · clear h70
      go_wp2
      go_ret
      exact ⟨_, rfl, (fun h => by cases h), HI.out⟩
end Go.Proofs.Ytbdhbgilaeldgaa

/- Rows put one behind the other, of whatever struct. -/
namespace Go.Proofs.Ytbdhbgilaeldgaa
open Go.RowKit

theorem gbr (w : World) (r : Option Nat) : w.grownBy w r := ⟨rfl, rfl, rfl, Nat.le_refl _, fun _ _ _ => rfl⟩
theorem gb_bel {w0 a b : World} {r : Option Nat} (h : Below w0.heap.size w0 a) (hg : a.grownBy b r) (hr : ∀ k, r = some k → w0.heap.size ≤ k) : Below w0.heap.size w0 b := by
  have hs := h.size
  refine ⟨hg.os.trans h.os, hg.tape.trans h.tape, hg.output.trans h.output, Nat.le_trans h.size hg.size, fun k hk => ?_⟩
  rw [hg.block k (by omega) (fun e => by have := hr k e.symm; omega)]
  exact h.block k hk
theorem owb {w : World} {base : Nat} {e : TypeId} {size : Nat} {v : Value} {n : Nat} {xs : List Value} (h : w.ownsRow base e size v n xs) {k : Nat} (hb : v.ownBlock = some k) : base ≤ k ∧ k < w.heap.size := by
  obtain ⟨_, ⟨rfl, _⟩ | ⟨g, cap, cur, rfl, hg, hh, _⟩⟩ := h
  · cases hb
  · have : g = k := by simpa [Value.ownBlock] using hb
    subst this
    exact ⟨hg, (Array.getElem?_eq_some_iff.1 hh).1⟩
theorem owk {w w' : World} {base : Nat} {e : TypeId} {size : Nat} {v : Value} {n : Nat} {xs : List Value} (h : w.ownsRow base e size v n xs) (hb : Below w.heap.size w w') : w'.ownsRow base e size v n xs := by
  have hl := fun k hk => (owb h (k := k) hk).2
  obtain ⟨h0, h⟩ := h
  refine ⟨h0, ?_⟩
  rcases h with ⟨rfl, hn⟩ | ⟨g, cap, cur, rfl, hg, hh, hr⟩
  · exact Or.inl ⟨rfl, hn⟩
  · exact Or.inr ⟨g, cap, cur, rfl, hg, (hb.block g (hl g rfl)).trans hh, hr⟩
theorem owform {w : World} {base : Nat} {e : TypeId} {size : Nat} {v : Value} {n : Nat} {xs : List Value} (h : w.ownsRow base e size v n xs) : ∃ ao cap, v = .slice ao n cap := by
  obtain ⟨_, ⟨rfl, rfl⟩ | ⟨g, cap, cur, rfl, _⟩⟩ := h
  · exact ⟨none, 0, rfl⟩
  · exact ⟨_, cap, rfl⟩

theorem run_append_any {S E : TypeId} {size bytes : Nat} {z : Value} (hu : Try.prog.underlying S = some (.slice E)) (hinf : (Try.prog.info? E).map (fun i => (i.zero, i.size, i.bytes)) = some (some z, size, bytes)) (hzc : z.cells.size = size) (hpos : 0 < size) (w : World) (ty : TypeId) (base : Nat) (v : Value) (n : Nat) (xs : List Value) (ho : w.ownsRow base E size v n xs) (ao : Option Addr) (m c : Nat) (news : List Value) (hnone : ao = none → m = 0 ∧ c = 0) (hl : news.length = m * size) (hn : ∀ a, ao = some a → ∀ j u, news[j]? = some u → w.cell? (a.add j) = some u) (h1 : ∀ u ∈ news, u.oneCell' = true) (h63 : n + m ≤ maxLen) (hbytes : (n + m) * bytes ≤ 140737488355328) (hb : base ≤ w.heap.size) :
    ∃ v' w', (Builtin.append_ #[S, S] ty #[v, .slice ao m c]).run Try.prog w = .ok v' w' ∧ w'.ownsRow base E size v' (n + m) (xs ++ news) ∧ w.grownBy w' v.ownBlock := by
  obtain ⟨i0, hi, hz0, hz1, hz2⟩ := info_parts hinf
  cases ao with
  | none =>
    obtain ⟨rfl, rfl⟩ := hnone rfl
    have hl0 : news = [] := List.eq_nil_of_length_eq_zero (by rw [hl]; omega)
    subst hl0
    refine ⟨v, w, ?_, ?_, gbr _ _⟩
    · exact run_append_owned_none (P := Try.prog) w base S ty E i0 size hu hi v n xs ho
    · rw [List.append_nil]; exact ho
  | some a =>
    obtain ⟨v', w', hr, h2, h3, _⟩ := run_append_own (P := Try.prog) w base S ty E i0 z size bytes hu hi hz0 hz1 hz2 hzc hpos v n xs ho a m c news hl (hn a rfl) h1 h63 hbytes hb
    exact ⟨v', w', hr, h2, h3⟩
theorem wpList_append_any {S E : TypeId} {size bytes : Nat} {z : Value} (hu : Try.prog.underlying S = some (.slice E)) (hinf : (Try.prog.info? E).map (fun i => (i.zero, i.size, i.bytes)) = some (some z, size, bytes)) (hzc : z.cells.size = size) (hpos : 0 < size) {w : World} {ops : Array Oper} {rest : List Oper} {o : Oper} {a : Act} {Q : Exit → Act → World → Prop} (hgd : o.guard = none) (s x : Operand)
    (hop : o.op = .call { callee := .builtin .append, args := #[s, x], argTypes := #[S, S] }) (base : Nat) (v : Value) (n : Nat) (xs : List Value) (hs : a.eval s = v) (ho : w.ownsRow base E size v n xs) (ao : Option Addr) (m c : Nat) (news : List Value) (hx : a.eval x = .slice ao m c) (hnone : ao = none → m = 0 ∧ c = 0) (hl : news.length = m * size) (hn : ∀ a, ao = some a → ∀ j u, news[j]? = some u → w.cell? (a.add j) = some u) (h1 : ∀ u ∈ news, u.oneCell' = true) (h63 : n + m ≤ maxLen) (hbytes : (n + m) * bytes ≤ 140737488355328) (hb : base ≤ w.heap.size)
    (h : ∀ v' w', w'.ownsRow base E size v' (n + m) (xs ++ news) → w.grownBy w' v.ownBlock → wpList Try.prog ops Q rest (a.put o.dst v') w') : wpList Try.prog ops Q (o :: rest) a w := by
  refine wpList_plain hgd fun K hK => ?_
  obtain ⟨v', w', hr, h2, h3⟩ := run_append_any hu hinf hzc hpos w o.type base v n xs ho ao m c news hnone hl hn h1 h63 hbytes hb
  unfold Oper.wp execOp
  simp only [hop, resolve, invoke, builtin, Sem.run_bind, Sem.run_pure, Result.andThen_ok, List.map_toArray, List.map_cons, List.map_nil, hs, hx, hr]
  exact hK _ _ (h v' w' h2 h3)

/-- One behind the other. -/
def flatN (f : Nat → List Value) : Nat → List Value
  | 0 => []
  | k + 1 => flatN f k ++ f k
theorem flatN_len {f : Nat → List Value} {c : Nat} (h : ∀ i, (f i).length = c) : ∀ k, (flatN f k).length = k * c
  | 0 => by simp [flatN]
  | k + 1 => by
    show (flatN f k ++ f k).length = _
    rw [List.length_append, flatN_len h k, h, Nat.add_mul, Nat.one_mul]
theorem flatN_get {f : Nat → List Value} {c : Nat} (h : ∀ i, (f i).length = c) : ∀ k i j, i < k → j < c → (flatN f k)[i * c + j]? = (f i)[j]?
  | 0, i, _, hi, _ => absurd hi (Nat.not_lt_zero _)
  | k + 1, i, j, hi, hj => by
    show (flatN f k ++ f k)[i * c + j]? = _
    have hl := flatN_len h k
    by_cases e : i = k
    · subst e
      rw [List.getElem?_append_right (by rw [hl]; omega), hl]
      congr 1; omega
    · have h2 : i * c + j < k * c := by
        have : (i + 1) * c ≤ k * c := Nat.mul_le_mul_right c (by omega)
        rw [Nat.add_mul, Nat.one_mul] at this
        omega
      rw [List.getElem?_append_left (by rw [hl]; exact h2)]
      exact flatN_get h k i j (by omega) hj
theorem flatN_app (f h : Nat → List Value) (a : Nat) : ∀ b, flatN (fun i => if i < a then f i else h (i - a)) (a + b) = flatN f a ++ flatN h b
  | 0 => by
    rw [Nat.add_zero]
    show _ = flatN f a ++ []
    rw [List.append_nil]
    have key : ∀ k, k ≤ a → flatN (fun i => if i < a then f i else h (i - a)) k = flatN f k := fun k => by
      induction k with
      | zero => intro _; rfl
      | succ k ih =>
        intro hk
        show flatN _ k ++ _ = flatN f k ++ f k
        rw [ih (by omega)]
        simp only [if_pos (show k < a by omega)]
    exact key a (Nat.le_refl _)
  | b + 1 => by
    show flatN _ (a + b) ++ (if a + b < a then f (a + b) else h (a + b - a)) = flatN f a ++ (flatN h b ++ h b)
    rw [flatN_app f h a b, List.append_assoc, if_neg (show ¬ a + b < a by omega), show a + b - a = b by omega]
theorem flatN_mem {f : Nat → List Value} {u : Value} : ∀ k, u ∈ flatN f k → ∃ i, i < k ∧ u ∈ f i
  | 0, h => by cases h
  | k + 1, h => by
    rcases List.mem_append.1 h with h | h
    · obtain ⟨i, hi, hu⟩ := flatN_mem k h
      exact ⟨i, by omega, hu⟩
    · exact ⟨k, by omega, h⟩
theorem adp (b off i : Nat) : (⟨b, off, none⟩ : Addr).add i = ⟨b, off + i, none⟩ := by unfold Addr.add; split <;> simp_all
theorem flatN_cell {f : Nat → List Value} {c : Nat} (h : ∀ i, (f i).length = c) (hc : 0 < c) {w : World} {b o : Nat} {k : Nat} (hr : ∀ i, i < k → w.rangeAt b (o + i * c) (f i)) : ∀ j u, (flatN f k)[j]? = some u → w.cell? ((⟨b, o, none⟩ : Addr).add j) = some u := by
  intro j u hj
  have hlt : j < k * c := by rw [← flatN_len h k]; exact (List.getElem?_eq_some_iff.1 hj).1
  have hi : j / c < k := Nat.div_lt_of_lt_mul (by rw [Nat.mul_comm]; exact hlt)
  have hm : j % c < c := Nat.mod_lt _ hc
  have e : j = j / c * c + j % c := by rw [Nat.mul_comm]; exact (Nat.div_add_mod j c).symm
  rw [e, flatN_get h k _ _ hi hm] at hj
  have := hr (j / c) hi (j % c) u hj
  rw [adp, show o + j = o + j / c * c + j % c by omega]
  exact this
end Go.Proofs.Ytbdhbgilaeldgaa
