/- Layer 2: Join and Meet. -/
import Derived.Test.YtepgdkigncjalaaGreatP22
import Derived.Test.YtepgdkigncjalaaGreatP18
namespace Go.Proofs.YtepgdkigncjalaaGreat
open Go.RowKit

/-- Whether there is a bound of any two types. -/
def bokB (n : Strs) (g : Grid) (s t : Ty) : Bool := (okB n g s && okB n g t) && s.bok t
/-- What Join (up) and Meet answer. -/
def JP (w : World) (n : Strs) (g : Grid) (s t : Ty) (up : Bool) (e : Ending) (w' : World) : Prop :=
  ∃ u : Ty, e = .returned (.tuple #[.agg #[.int .i64 u.k, .int .i64 u.l, .slice u.ao u.len u.cap, .int .i64 u.h, .int .i64 u.e], .bool (bokB n g s t)]) ∧ u.At w' ∧ u.Blk (fun b => w.heap.size ≤ b) ∧ (bokB n g s t = true → u.same (s.bnd n g t up) = true) ∧ (bokB n g s t = false → u = leafT 0 0) ∧ Below w.heap.size w w'
theorem JP.intro {w : World} {n : Strs} {g : Grid} {s t : Ty} {up : Bool} {e : Ending} {w' : World} (u : Ty) (h1 : e = .returned (.tuple #[.agg #[.int .i64 u.k, .int .i64 u.l, .slice u.ao u.len u.cap, .int .i64 u.h, .int .i64 u.e], .bool (bokB n g s t)])) (h2 : u.At w') (h3 : u.Blk (fun b => w.heap.size ≤ b)) (h4 : bokB n g s t = true → u.same (s.bnd n g t up) = true) (h5 : bokB n g s t = false → u = leafT 0 0) (h6 : Below w.heap.size w w') : JP w n g s t up e w' := ⟨u, h1, h2, h3, h4, h5, h6⟩
theorem leaf_blk (k l : Int) (Q : Nat → Prop) : (leafT k l).Blk Q := ⟨fun h => absurd h (Nat.lt_irrefl _), fun _ h => absurd h (Nat.not_lt_zero _)⟩
theorem okB_two (n : Strs) (g : Grid) (s t : Ty) : (formedB n g && (s.ok n.len && t.ok n.len)) = (okB n g s && okB n g t) := by
  unfold okB
  cases formedB n g <;> simp

set_option maxRecDepth 100000 in
set_option maxHeartbeats 4000000 in
theorem Join_any2 (n : Strs) (g : Grid) (s t : Ty) (w : World) (hn : n.At w) (hg : g.At w) (hs : s.At w) (ht : t.At w) :
    Calls Tryz.prog 124 #[.agg #[.slice n.ao n.len n.cap, .slice g.ao g.len g.cap], .agg #[.int .i64 s.k, .int .i64 s.l, .slice s.ao s.len s.cap, .int .i64 s.h, .int .i64 s.e], .agg #[.int .i64 t.k, .int .i64 t.l, .slice t.ao t.len t.cap, .int .i64 t.h, .int .i64 t.e]] w fun e w' => JP w n g s t true e w' := by
  have K0 := bbox_new w n g s t
  have R1 := row2_at _ s t (hs.kept K0.bl) (ht.kept K0.bl)
  have BA := below_alloc ((((w.alloc (latO n g)).alloc (tyO s)).alloc (tyO t)).alloc (.cells #[.int .i64 0, .int .i64 0, .slice none 0 0, .int .i64 0, .int .i64 0] 34)) (row2 s t)
  have hA := allFormed_any n g _ _ _ _ _ _ _ ((hn.kept K0.bl).kept BA) ((hg.kept K0.bl).kept BA) R1
  rw [alloc_size, alloc_size, alloc_size, alloc_size] at hA
  have HE : Hid ((formedB n g && decide (∀ i, i < 2 → Ty.ok n.len ((fun i => if i = 0 then s else t) i) = true)) = (okB n g s && okB n g t)) := by
    show (formedB n g && decide (∀ i, i < 2 → Ty.ok n.len ((fun i => if i = 0 then s else t) i) = true)) = (okB n g s && okB n g t)
    rw [← okB_two]
    congr 1
    rw [Bool.eq_iff_iff, decide_eq_true_eq, Bool.and_eq_true]
    exact ⟨fun h => ⟨h 0 (by omega), h 1 (by omega)⟩, fun h i hi => by
      by_cases e : i = 0
      · subst e; exact h.1
      · have e1 : i = 1 := by omega
        subst e1; exact h.2⟩
  rw [HE.out] at hA
  have K1 := K0.step BA
  have HN : Hid (n.At w ∧ g.At w ∧ s.At w ∧ t.At w) := ⟨hn, hg, hs, ht⟩
  clear HE R1 K0 BA hn hg hs ht
  unfold latO tyO row2 at *
  cases hq : (okB n g s && okB n g t)
  · have HV : Hid (bokB n g s t = false) := by show bokB n g s t = false; unfold bokB; rw [hq]; rfl
    rw [hq] at hA
    clear hq
    go_enter Tryz.func124, Tryz.ntmps124
    go_wp2_with fail
    refine hA.mono ?_
    rintro e w1 ⟨rfl, hb1⟩
    have K2 := K1.step hb1
    have HR : Hid (Bx w1 (w.heap.size + 3) (leafT 0 0) ∧ ∀ i, i < 5 → w1.frozen? ⟨w.heap.size + 3, i, none⟩ = false) := ⟨K2.r, K2.fr⟩
    have HB : Hid (Below w.heap.size w (World.put5 w1 (w.heap.size + 3) (.int .i64 0) (.int .i64 0) (.slice none 0 0) (.int .i64 0) (.int .i64 0))) := put5_below (by omega) K2.bl _ _ _ _ _
    clear K1 K2 hb1 hA
    go_wp2_with (refine wpList_store5 rfl rfl _ _ rfl (w.heap.size + 3) _ _ _ _ _ rfl rfl rfl rfl rfl rfl rfl HR.out.1 HR.out.2 ?_)
    obtain ⟨e0, e1, e2, e3, e4⟩ := put5_cells (.int .i64 0) (.int .i64 0) (.slice none 0 0) (.int .i64 0) (.int .i64 0) HR.out.1 HR.out.2
    exact bodyPost_ret (v := .tuple #[.agg #[.int .i64 0, .int .i64 0, .slice none 0 0, .int .i64 0, .int .i64 0], .bool false]) (by simp [results, Tryz.results124, go_sem, e0, e1, e2, e3, e4]) rfl (JP.intro (leafT 0 0) (by rw [HV.out]; rfl) (leaf_at _ _ _) (leaf_blk _ _ _) (fun h => absurd (HV.out.symm.trans h) (by decide)) (fun _ => rfl) HB.out)
  · have HV : Hid (bokB n g s t = s.bok t) := by show bokB n g s t = s.bok t; unfold bokB; rw [hq]; rfl
    rw [hq] at hA
    rw [Bool.and_eq_true] at hq
    have q1 := hq.1
    have q2 := hq.2
    unfold okB at q1 q2
    rw [Bool.and_eq_true] at q1 q2
    obtain ⟨f1, m1⟩ := ok_parts q1.2
    obtain ⟨f2, _⟩ := ok_parts q2.2
    have hC := fun u (hu : Below w.heap.size w u) => bound_any n g s t true u ⟨1, f1⟩ ⟨1, f2⟩ (by omega) (HN.out.1.kept hu) (HN.out.2.1.kept hu) (HN.out.2.2.1.kept hu) (HN.out.2.2.2.kept hu)
    clear hq q1 q2 f1 f2 m1
    go_enter Tryz.func124, Tryz.ntmps124
    go_wp2_with fail
    refine hA.mono ?_
    rintro e w1 ⟨rfl, hb1⟩
    have K2 := K1.step hb1
    have hD := hC w1 K2.bl
    have l0 := K2.l.c0
    have l1 := K2.l.c1
    have x0 := K2.x.c0
    have x1 := K2.x.c1
    have x2 := K2.x.c2
    have x3 := K2.x.c3
    have x4 := K2.x.c4
    have y0 := K2.y.c0
    have y1 := K2.y.c1
    have y2 := K2.y.c2
    have y3 := K2.y.c3
    have y4 := K2.y.c4
    clear K1 hb1 hA hC
    go_wp2_with fail
    refine hD.mono ?_
    intro e w2 hBP
    obtain ⟨u, rfl, uA, uB, uS, hb2⟩ := hBP
    have K3 := K2.step hb2
    have HR : Hid (Bx w2 (w.heap.size + 3) (leafT 0 0) ∧ ∀ i, i < 5 → w2.frozen? ⟨w.heap.size + 3, i, none⟩ = false) := ⟨K3.r, K3.fr⟩
    have HB : Hid (Below w.heap.size w (World.put5 w2 (w.heap.size + 3) (.int .i64 u.k) (.int .i64 u.l) (.slice u.ao u.len u.cap) (.int .i64 u.h) (.int .i64 u.e))) := put5_below (by omega) K3.bl _ _ _ _ _
    have HU : Hid (u.At (World.put5 w2 (w.heap.size + 3) (.int .i64 u.k) (.int .i64 u.l) (.slice u.ao u.len u.cap) (.int .i64 u.h) (.int .i64 u.e)) ∧ u.Blk (fun b => w.heap.size ≤ b) ∧ ((s.bok t = true → u.same (s.bnd n g t true) = true) ∧ (s.bok t = false → u = leafT 0 0))) := ⟨Ty.At.agree (Q := fun b => w1.heap.size ≤ b) (fun b hq => put5_heap _ _ _ _ _ _ _ (by have := K2.sz; omega)) uA uB, uB.mono (fun b hq => by have := K2.sz; omega), uS⟩
    clear K2 K3 hb2 hD uA uB uS l0 l1 x0 x1 x2 x3 x4 y0 y1 y2 y3 y4
    go_wp2_with (refine wpList_store5 rfl rfl _ _ rfl (w.heap.size + 3) _ _ _ _ _ rfl rfl rfl rfl rfl rfl rfl HR.out.1 HR.out.2 ?_)
    obtain ⟨e0, e1, e2, e3, e4⟩ := put5_cells (.int .i64 u.k) (.int .i64 u.l) (.slice u.ao u.len u.cap) (.int .i64 u.h) (.int .i64 u.e) HR.out.1 HR.out.2
    exact bodyPost_ret (v := .tuple #[.agg #[.int .i64 u.k, .int .i64 u.l, .slice u.ao u.len u.cap, .int .i64 u.h, .int .i64 u.e], .bool (s.bok t)]) (by simp [results, Tryz.results124, go_sem, e0, e1, e2, e3, e4]) rfl (JP.intro u (by rw [HV.out]) HU.out.1 HU.out.2.1 (fun h => HU.out.2.2.1 (HV.out.symm.trans h)) (fun h => HU.out.2.2.2 (HV.out.symm.trans h)) HB.out)

end Go.Proofs.YtepgdkigncjalaaGreat

/- Layer 7: the join of two types without Parts. -/
namespace Go.Proofs.YtepgdkigncjalaaGreat
open Go Go.RowKit

theorem fT_bok {n : Strs} {g : Grid} {k l l' : Int} {ao ao' : Option Addr} {cap cap' : Nat} (hF : formedB n g = true) (hk : k = 1 ∨ k = 2) (hl : inR n.len l = true) (hl' : inR n.len l' = true) : bokB n g (fT k l ao cap) (fT k l' ao' cap') = true := by
  unfold bokB okB
  rw [hF, fT_ok hk hl, fT_ok hk hl']
  rcases hk with rfl | rfl <;> simp [Ty.bok, fT, Ty.k]
theorem fT_bnd {n : Strs} {g : Grid} {k l l' : Int} {ao ao' : Option Addr} {cap cap' : Nat} (hk : k = 1 ∨ k = 2) : (fT k l ao cap).bnd n g (fT k l' ao' cap') true = (fT k 0 none 0).setL (joinI n g l l') := by
  rcases hk with rfl | rfl <;> simp [Ty.bnd, fT, Ty.setL, bndL, Ty.l]

set_option maxRecDepth 100000 in
set_option maxHeartbeats 4000000 in
theorem jeither (n : Strs) (g : Grid) (e : Ex) (k l l' : Int) (ao ao' : Option Addr) (cap cap' : Nat) (w : World) (hn : n.At w) (hg : g.At w) (hF : formedB n g = true) (hk : k = 1 ∨ k = 2) (hl : inR n.len l = true) (hl' : inR n.len l' = true) :
    Calls Tryz.prog 117 #[.agg #[.slice n.ao n.len n.cap, .slice g.ao g.len g.cap], .agg e.va, .agg #[.int .i64 k, .int .i64 l, .slice ao 0 cap, .int .i64 0, .int .i64 0], .agg #[.int .i64 k, .int .i64 l', .slice ao' 0 cap', .int .i64 0, .int .i64 0]] w fun r w' => (∃ ao2 cap2, r = .returned (.agg #[.int .i64 k, .int .i64 (joinI n g l l'), .slice ao2 0 cap2, .int .i64 0, .int .i64 0])) ∧ Below w.heap.size w w' := by
  have H := allocs_heap [.cells #[.slice n.ao n.len n.cap, .slice g.ao g.len g.cap] 92, .cells e.va 37, .cells #[.int .i64 k, .int .i64 l, .slice ao 0 cap, .int .i64 0, .int .i64 0] 34, .cells #[.int .i64 k, .int .i64 l', .slice ao' 0 cap', .int .i64 0, .int .i64 0] 34, .cells #[.int .i64 0, .int .i64 0, .slice none 0 0, .int .i64 0, .int .i64 0] 34] w
  have B0 := allocs_below [.cells #[.slice n.ao n.len n.cap, .slice g.ao g.len g.cap] 92, .cells e.va 37, .cells #[.int .i64 k, .int .i64 l, .slice ao 0 cap, .int .i64 0, .int .i64 0] 34, .cells #[.int .i64 k, .int .i64 l', .slice ao' 0 cap', .int .i64 0, .int .i64 0] 34, .cells #[.int .i64 0, .int .i64 0, .slice none 0 0, .int .i64 0, .int .i64 0] 34] w
  simp only [List.foldl] at H B0
  have bA : Blk _ w.heap.size [.slice n.ao n.len n.cap, .slice g.ao g.len g.cap] 92 := H 0 (by simp)
  have bS : Blk _ (w.heap.size + 2) [.int .i64 k, .int .i64 l, .slice ao 0 cap, .int .i64 0, .int .i64 0] 34 := H 2 (by simp)
  have bT : Blk _ (w.heap.size + 3) [.int .i64 k, .int .i64 l', .slice ao' 0 cap', .int .i64 0, .int .i64 0] 34 := H 3 (by simp)
  have bZ : Blk _ (w.heap.size + 4) [.int .i64 0, .int .i64 0, .slice none 0 0, .int .i64 0, .int .i64 0] 34 := H 4 (by simp)
  clear H
  have hJ := Join_any2 n g (fT k l ao cap) (fT k l' ao' cap') _ (hn.kept B0) (hg.kept B0) (fT_at k l ao cap _) (fT_at k l' ao' cap' _)
  have HB : Hid (bokB n g (fT k l ao cap) (fT k l' ao' cap') = true) := fT_bok hF hk hl hl'
  have HD : Hid ((fT k l ao cap).bnd n g (fT k l' ao' cap') true = (fT k 0 none 0).setL (joinI n g l l')) := fT_bnd hk
  have a0 := bA.cell 0 rfl
  have a1 := bA.cell 1 rfl
  have s0 := bS.cell 0 rfl
  have s1 := bS.cell 1 rfl
  have s2 := bS.cell 2 rfl
  have s3 := bS.cell 3 rfl
  have s4 := bS.cell 4 rfl
  have t0 := bT.cell 0 rfl
  have t1 := bT.cell 1 rfl
  have t2 := bT.cell 2 rfl
  have t3 := bT.cell 3 rfl
  have t4 := bT.cell 4 rfl
  clear hF hk hl hl' bA bS bT hn hg
  change Calls Tryz.prog 124 #[.agg #[.slice n.ao n.len n.cap, .slice g.ao g.len g.cap], .agg #[.int .i64 k, .int .i64 l, .slice ao 0 cap, .int .i64 0, .int .i64 0], .agg #[.int .i64 k, .int .i64 l', .slice ao' 0 cap', .int .i64 0, .int .i64 0]] _ _ at hJ
  go_enter Tryz.func117, Tryz.ntmps117
  go_wp2_with fail
  refine hJ.mono ?_
  rintro _ w1 ⟨u, rfl, uA, _, uS, _, hb1⟩
  have uS2 := uS HB.out
  rw [HD.out] at uS2
  rw [HB.out]
  obtain ⟨e1, e2, e3, e4, e5⟩ := fT_same (k := k) (l := 0) (ao := none) (cap := 0) uS2 ⟨_, uA⟩
  rw [e1, e2, e3, e4, e5]
  have B2 := Below.next hb1 (below_alloc w1 (.cells #[.int .i64 k, .int .i64 (joinI n g l l'), .slice u.ao 0 u.cap, .int .i64 0, .int .i64 0] 34))
  have bZ2 := bZ.kept B2
  clear hJ uA uS uS2 hb1 bZ a0 a1 s0 s1 s2 s3 s4 t0 t1 t2 t3 t4 e1 e2 e3 e4 e5
  generalize u.ao = ao2 at B2 bZ2 ⊢
  generalize u.cap = cap2 at B2 bZ2 ⊢
  go_wp2_with (refine wpList_store_blk rfl rfl 34 (.tmp 8) (.tmp 25) rfl (w.heap.size + 4) [.int .i64 k, .int .i64 (joinI n g l l'), .slice ao2 0 cap2, .int .i64 0, .int .i64 0] rfl rfl rfl bZ2 rfl (by kernel_rfl) ?_; intro w9 W9)
  have c0 := W9.blk.cell 0 rfl
  have c1 := W9.blk.cell 1 rfl
  have c2 := W9.blk.cell 2 rfl
  have c3 := W9.blk.cell 3 rfl
  have c4 := W9.blk.cell 4 rfl
  refine bodyPost_ret (v := .agg #[.int .i64 k, .int .i64 (joinI n g l l'), .slice ao2 0 cap2, .int .i64 0, .int .i64 0]) (by simp [results, Tryz.results117, go_sem, c0, c1, c2, c3, c4]) rfl ⟨⟨ao2, cap2, rfl⟩, W9.below (by omega) (Below.next B0 B2)⟩
end Go.Proofs.YtepgdkigncjalaaGreat
