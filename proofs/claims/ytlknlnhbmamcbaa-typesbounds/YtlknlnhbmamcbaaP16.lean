/- Layer 2: Join and Meet. -/
import Derived.Test.YtlknlnhbmamcbaaP15
namespace Go.Proofs.Ytlknlnhbmamcbaa
open Go.RowKit

/-- Whether there is a bound of any two types. -/
def bokB (n : Strs) (g : Grid) (s t : Ty) : Bool := (okB n g s && okB n g t) && s.bok t
/-- What Join (up) and Meet answer. -/
def JP (w : World) (n : Strs) (g : Grid) (s t : Ty) (up : Bool) (e : Ending) (w' : World) : Prop :=
  ∃ u : Ty, e = .returned (.tuple #[.agg #[.int .i64 u.k, .int .i64 u.l, .slice u.ao u.len u.cap, .int .i64 u.h, .int .i64 u.e], .bool (bokB n g s t)]) ∧ u.At w' ∧ u.Blk (fun b => w.heap.size ≤ b) ∧ (bokB n g s t = true → u.same (s.bnd n g t up) = true) ∧ (bokB n g s t = false → u = leafT 0 0) ∧ Below w.heap.size w w'
theorem JP.intro {w : World} {n : Strs} {g : Grid} {s t : Ty} {up : Bool} {e : Ending} {w' : World} (u : Ty) (h1 : e = .returned (.tuple #[.agg #[.int .i64 u.k, .int .i64 u.l, .slice u.ao u.len u.cap, .int .i64 u.h, .int .i64 u.e], .bool (bokB n g s t)])) (h2 : u.At w') (h3 : u.Blk (fun b => w.heap.size ≤ b)) (h4 : bokB n g s t = true → u.same (s.bnd n g t up) = true) (h5 : bokB n g s t = false → u = leafT 0 0) (h6 : Below w.heap.size w w') : JP w n g s t up e w' := ⟨u, h1, h2, h3, h4, h5, h6⟩
theorem leaf_blk (k l : Int) (Q : Nat → Prop) : (leafT k l).Blk Q := ⟨fun h => absurd h (Nat.lt_irrefl _), fun _ h => absurd h (Nat.not_lt_zero _)⟩
theorem okB_two (n : Strs) (g : Grid) (s t : Ty) : (formedB n g && (s.ok n.len && t.ok n.len)) = (okB n g s && okB n g t) := by
  unfold okB
  cases formedB n g <;> simp

set_option maxRecDepth 100000 in
set_option maxHeartbeats 4000000 in
theorem Join_any2 (n : Strs) (g : Grid) (s t : Ty) (w : World) (hn : n.At w) (hg : g.At w) (hs : s.At w) (ht : t.At w) :
    Calls Try.prog 21 #[.agg #[.slice n.ao n.len n.cap, .slice g.ao g.len g.cap], .agg #[.int .i64 s.k, .int .i64 s.l, .slice s.ao s.len s.cap, .int .i64 s.h, .int .i64 s.e], .agg #[.int .i64 t.k, .int .i64 t.l, .slice t.ao t.len t.cap, .int .i64 t.h, .int .i64 t.e]] w fun e w' => JP w n g s t true e w' := by
  have K0 := bbox_new w n g s t
  have R1 := row2_at _ s t (hs.kept K0.bl) (ht.kept K0.bl)
  have BA := below_alloc ((((w.alloc (latO n g)).alloc (tyO s)).alloc (tyO t)).alloc (.cells #[.int .i64 0, .int .i64 0, .slice none 0 0, .int .i64 0, .int .i64 0] 28)) (row2 s t)
  have hA := allFormed_any n g _ _ _ _ _ _ _ ((hn.kept K0.bl).kept BA) ((hg.kept K0.bl).kept BA) R1
  rw [alloc_size, alloc_size, alloc_size, alloc_size] at hA
  have HE : Hid ((formedB n g && decide (∀ i, i < 2 → Ty.ok n.len ((fun i => if i = 0 then s else t) i) = true)) = (okB n g s && okB n g t)) := by
    show (formedB n g && decide (∀ i, i < 2 → Ty.ok n.len ((fun i => if i = 0 then s else t) i) = true)) = (okB n g s && okB n g t)
    rw [← okB_two]
    congr 1
    rw [Bool.eq_iff_iff, decide_eq_true_eq, Bool.and_eq_true]
    exact ⟨fun h => ⟨h 0 (by omega), h 1 (by omega)⟩, fun h i hi => by
      by_cases e : i = 0
      · subst e; exact h.1
      · have e1 : i = 1 := by omega
        subst e1; exact h.2⟩
  rw [HE.out] at hA
  have K1 := K0.step BA
  have HN : Hid (n.At w ∧ g.At w ∧ s.At w ∧ t.At w) := ⟨hn, hg, hs, ht⟩
  clear HE R1 K0 BA hn hg hs ht
  unfold latO tyO row2 at *
  cases hq : (okB n g s && okB n g t)
  · have HV : Hid (bokB n g s t = false) := by show bokB n g s t = false; unfold bokB; rw [hq]; rfl
    rw [hq] at hA
    clear hq
    go_enter Try.func21, Try.ntmps21
    go_wp2_with fail
    refine hA.mono ?_
    rintro e w1 ⟨rfl, hb1⟩
    have K2 := K1.step hb1
    have HR : Hid (Bx w1 (w.heap.size + 3) (leafT 0 0) ∧ ∀ i, i < 5 → w1.frozen? ⟨w.heap.size + 3, i, none⟩ = false) := ⟨K2.r, K2.fr⟩
    have HB : Hid (Below w.heap.size w (World.put5 w1 (w.heap.size + 3) (.int .i64 0) (.int .i64 0) (.slice none 0 0) (.int .i64 0) (.int .i64 0))) := put5_below (by omega) K2.bl _ _ _ _ _
    clear K1 K2 hb1 hA
    go_wp2_with (refine wpList_store5 rfl rfl _ _ rfl (w.heap.size + 3) _ _ _ _ _ rfl rfl rfl rfl rfl rfl rfl HR.out.1 HR.out.2 ?_)
    obtain ⟨e0, e1, e2, e3, e4⟩ := put5_cells (.int .i64 0) (.int .i64 0) (.slice none 0 0) (.int .i64 0) (.int .i64 0) HR.out.1 HR.out.2
    exact bodyPost_ret (v := .tuple #[.agg #[.int .i64 0, .int .i64 0, .slice none 0 0, .int .i64 0, .int .i64 0], .bool false]) (by simp [results, Try.results21, go_sem, e0, e1, e2, e3, e4]) rfl (JP.intro (leafT 0 0) (by rw [HV.out]; rfl) (leaf_at _ _ _) (leaf_blk _ _ _) (fun h => absurd (HV.out.symm.trans h) (by decide)) (fun _ => rfl) HB.out)
  · have HV : Hid (bokB n g s t = s.bok t) := by show bokB n g s t = s.bok t; unfold bokB; rw [hq]; rfl
    rw [hq] at hA
    rw [Bool.and_eq_true] at hq
    have q1 := hq.1
    have q2 := hq.2
    unfold okB at q1 q2
    rw [Bool.and_eq_true] at q1 q2
    obtain ⟨f1, m1⟩ := ok_parts q1.2
    obtain ⟨f2, _⟩ := ok_parts q2.2
    have hC := fun u (hu : Below w.heap.size w u) => bound_any n g s t true u ⟨1, f1⟩ ⟨1, f2⟩ (by omega) (HN.out.1.kept hu) (HN.out.2.1.kept hu) (HN.out.2.2.1.kept hu) (HN.out.2.2.2.kept hu)
    clear hq q1 q2 f1 f2 m1
    go_enter Try.func21, Try.ntmps21
    go_wp2_with fail
    refine hA.mono ?_
    rintro e w1 ⟨rfl, hb1⟩
    have K2 := K1.step hb1
    have hD := hC w1 K2.bl
    have l0 := K2.l.c0
    have l1 := K2.l.c1
    have x0 := K2.x.c0
    have x1 := K2.x.c1
    have x2 := K2.x.c2
    have x3 := K2.x.c3
    have x4 := K2.x.c4
    have y0 := K2.y.c0
    have y1 := K2.y.c1
    have y2 := K2.y.c2
    have y3 := K2.y.c3
    have y4 := K2.y.c4
    clear K1 hb1 hA hC
    go_wp2_with fail
    refine hD.mono ?_
    intro e w2 hBP
    obtain ⟨u, rfl, uA, uB, uS, hb2⟩ := hBP
    have K3 := K2.step hb2
    have HR : Hid (Bx w2 (w.heap.size + 3) (leafT 0 0) ∧ ∀ i, i < 5 → w2.frozen? ⟨w.heap.size + 3, i, none⟩ = false) := ⟨K3.r, K3.fr⟩
    have HB : Hid (Below w.heap.size w (World.put5 w2 (w.heap.size + 3) (.int .i64 u.k) (.int .i64 u.l) (.slice u.ao u.len u.cap) (.int .i64 u.h) (.int .i64 u.e))) := put5_below (by omega) K3.bl _ _ _ _ _
    have HU : Hid (u.At (World.put5 w2 (w.heap.size + 3) (.int .i64 u.k) (.int .i64 u.l) (.slice u.ao u.len u.cap) (.int .i64 u.h) (.int .i64 u.e)) ∧ u.Blk (fun b => w.heap.size ≤ b) ∧ ((s.bok t = true → u.same (s.bnd n g t true) = true) ∧ (s.bok t = false → u = leafT 0 0))) := ⟨Ty.At.agree (Q := fun b => w1.heap.size ≤ b) (fun b hq => put5_heap _ _ _ _ _ _ _ (by have := K2.sz; omega)) uA uB, uB.mono (fun b hq => by have := K2.sz; omega), uS⟩
    clear K2 K3 hb2 hD uA uB uS l0 l1 x0 x1 x2 x3 x4 y0 y1 y2 y3 y4
    go_wp2_with (refine wpList_store5 rfl rfl _ _ rfl (w.heap.size + 3) _ _ _ _ _ rfl rfl rfl rfl rfl rfl rfl HR.out.1 HR.out.2 ?_)
    obtain ⟨e0, e1, e2, e3, e4⟩ := put5_cells (.int .i64 u.k) (.int .i64 u.l) (.slice u.ao u.len u.cap) (.int .i64 u.h) (.int .i64 u.e) HR.out.1 HR.out.2
    exact bodyPost_ret (v := .tuple #[.agg #[.int .i64 u.k, .int .i64 u.l, .slice u.ao u.len u.cap, .int .i64 u.h, .int .i64 u.e], .bool (s.bok t)]) (by simp [results, Try.results21, go_sem, e0, e1, e2, e3, e4]) rfl (JP.intro u (by rw [HV.out]) HU.out.1 HU.out.2.1 (fun h => HU.out.2.2.1 (HV.out.symm.trans h)) (fun h => HU.out.2.2.2 (HV.out.symm.trans h)) HB.out)

set_option maxRecDepth 100000 in
set_option maxHeartbeats 4000000 in
theorem Meet_any2 (n : Strs) (g : Grid) (s t : Ty) (w : World) (hn : n.At w) (hg : g.At w) (hs : s.At w) (ht : t.At w) :
    Calls Try.prog 23 #[.agg #[.slice n.ao n.len n.cap, .slice g.ao g.len g.cap], .agg #[.int .i64 s.k, .int .i64 s.l, .slice s.ao s.len s.cap, .int .i64 s.h, .int .i64 s.e], .agg #[.int .i64 t.k, .int .i64 t.l, .slice t.ao t.len t.cap, .int .i64 t.h, .int .i64 t.e]] w fun e w' => JP w n g s t false e w' := by
  have K0 := bbox_new w n g s t
  have R1 := row2_at _ s t (hs.kept K0.bl) (ht.kept K0.bl)
  have BA := below_alloc ((((w.alloc (latO n g)).alloc (tyO s)).alloc (tyO t)).alloc (.cells #[.int .i64 0, .int .i64 0, .slice none 0 0, .int .i64 0, .int .i64 0] 28)) (row2 s t)
  have hA := allFormed_any n g _ _ _ _ _ _ _ ((hn.kept K0.bl).kept BA) ((hg.kept K0.bl).kept BA) R1
  rw [alloc_size, alloc_size, alloc_size, alloc_size] at hA
  have HE : Hid ((formedB n g && decide (∀ i, i < 2 → Ty.ok n.len ((fun i => if i = 0 then s else t) i) = true)) = (okB n g s && okB n g t)) := by
    show (formedB n g && decide (∀ i, i < 2 → Ty.ok n.len ((fun i => if i = 0 then s else t) i) = true)) = (okB n g s && okB n g t)
    rw [← okB_two]
    congr 1
    rw [Bool.eq_iff_iff, decide_eq_true_eq, Bool.and_eq_true]
    exact ⟨fun h => ⟨h 0 (by omega), h 1 (by omega)⟩, fun h i hi => by
      by_cases e : i = 0
      · subst e; exact h.1
      · have e1 : i = 1 := by omega
        subst e1; exact h.2⟩
  rw [HE.out] at hA
  have K1 := K0.step BA
  have HN : Hid (n.At w ∧ g.At w ∧ s.At w ∧ t.At w) := ⟨hn, hg, hs, ht⟩
  clear HE R1 K0 BA hn hg hs ht
  unfold latO tyO row2 at *
  cases hq : (okB n g s && okB n g t)
  · have HV : Hid (bokB n g s t = false) := by show bokB n g s t = false; unfold bokB; rw [hq]; rfl
    rw [hq] at hA
    clear hq
    go_enter Try.func23, Try.ntmps23
    go_wp2_with fail
    refine hA.mono ?_
    rintro e w1 ⟨rfl, hb1⟩
    have K2 := K1.step hb1
    have HR : Hid (Bx w1 (w.heap.size + 3) (leafT 0 0) ∧ ∀ i, i < 5 → w1.frozen? ⟨w.heap.size + 3, i, none⟩ = false) := ⟨K2.r, K2.fr⟩
    have HB : Hid (Below w.heap.size w (World.put5 w1 (w.heap.size + 3) (.int .i64 0) (.int .i64 0) (.slice none 0 0) (.int .i64 0) (.int .i64 0))) := put5_below (by omega) K2.bl _ _ _ _ _
    clear K1 K2 hb1 hA
    go_wp2_with (refine wpList_store5 rfl rfl _ _ rfl (w.heap.size + 3) _ _ _ _ _ rfl rfl rfl rfl rfl rfl rfl HR.out.1 HR.out.2 ?_)
    obtain ⟨e0, e1, e2, e3, e4⟩ := put5_cells (.int .i64 0) (.int .i64 0) (.slice none 0 0) (.int .i64 0) (.int .i64 0) HR.out.1 HR.out.2
    exact bodyPost_ret (v := .tuple #[.agg #[.int .i64 0, .int .i64 0, .slice none 0 0, .int .i64 0, .int .i64 0], .bool false]) (by simp [results, Try.results23, go_sem, e0, e1, e2, e3, e4]) rfl (JP.intro (leafT 0 0) (by rw [HV.out]; rfl) (leaf_at _ _ _) (leaf_blk _ _ _) (fun h => absurd (HV.out.symm.trans h) (by decide)) (fun _ => rfl) HB.out)
  · have HV : Hid (bokB n g s t = s.bok t) := by show bokB n g s t = s.bok t; unfold bokB; rw [hq]; rfl
    rw [hq] at hA
    rw [Bool.and_eq_true] at hq
    have q1 := hq.1
    have q2 := hq.2
    unfold okB at q1 q2
    rw [Bool.and_eq_true] at q1 q2
    obtain ⟨f1, m1⟩ := ok_parts q1.2
    obtain ⟨f2, _⟩ := ok_parts q2.2
    have hC := fun u (hu : Below w.heap.size w u) => bound_any n g s t false u ⟨1, f1⟩ ⟨1, f2⟩ (by omega) (HN.out.1.kept hu) (HN.out.2.1.kept hu) (HN.out.2.2.1.kept hu) (HN.out.2.2.2.kept hu)
    clear hq q1 q2 f1 f2 m1
    go_enter Try.func23, Try.ntmps23
    go_wp2_with fail
    refine hA.mono ?_
    rintro e w1 ⟨rfl, hb1⟩
    have K2 := K1.step hb1
    have hD := hC w1 K2.bl
    have l0 := K2.l.c0
    have l1 := K2.l.c1
    have x0 := K2.x.c0
    have x1 := K2.x.c1
    have x2 := K2.x.c2
    have x3 := K2.x.c3
    have x4 := K2.x.c4
    have y0 := K2.y.c0
    have y1 := K2.y.c1
    have y2 := K2.y.c2
    have y3 := K2.y.c3
    have y4 := K2.y.c4
    clear K1 hb1 hA hC
    go_wp2_with fail
    refine hD.mono ?_
    intro e w2 hBP
    obtain ⟨u, rfl, uA, uB, uS, hb2⟩ := hBP
    have K3 := K2.step hb2
    have HR : Hid (Bx w2 (w.heap.size + 3) (leafT 0 0) ∧ ∀ i, i < 5 → w2.frozen? ⟨w.heap.size + 3, i, none⟩ = false) := ⟨K3.r, K3.fr⟩
    have HB : Hid (Below w.heap.size w (World.put5 w2 (w.heap.size + 3) (.int .i64 u.k) (.int .i64 u.l) (.slice u.ao u.len u.cap) (.int .i64 u.h) (.int .i64 u.e))) := put5_below (by omega) K3.bl _ _ _ _ _
    have HU : Hid (u.At (World.put5 w2 (w.heap.size + 3) (.int .i64 u.k) (.int .i64 u.l) (.slice u.ao u.len u.cap) (.int .i64 u.h) (.int .i64 u.e)) ∧ u.Blk (fun b => w.heap.size ≤ b) ∧ ((s.bok t = true → u.same (s.bnd n g t false) = true) ∧ (s.bok t = false → u = leafT 0 0))) := ⟨Ty.At.agree (Q := fun b => w1.heap.size ≤ b) (fun b hq => put5_heap _ _ _ _ _ _ _ (by have := K2.sz; omega)) uA uB, uB.mono (fun b hq => by have := K2.sz; omega), uS⟩
    clear K2 K3 hb2 hD uA uB uS l0 l1 x0 x1 x2 x3 x4 y0 y1 y2 y3 y4
    go_wp2_with (refine wpList_store5 rfl rfl _ _ rfl (w.heap.size + 3) _ _ _ _ _ rfl rfl rfl rfl rfl rfl rfl HR.out.1 HR.out.2 ?_)
    obtain ⟨e0, e1, e2, e3, e4⟩ := put5_cells (.int .i64 u.k) (.int .i64 u.l) (.slice u.ao u.len u.cap) (.int .i64 u.h) (.int .i64 u.e) HR.out.1 HR.out.2
    exact bodyPost_ret (v := .tuple #[.agg #[.int .i64 u.k, .int .i64 u.l, .slice u.ao u.len u.cap, .int .i64 u.h, .int .i64 u.e], .bool (s.bok t)]) (by simp [results, Try.results23, go_sem, e0, e1, e2, e3, e4]) rfl (JP.intro u (by rw [HV.out]) HU.out.1 HU.out.2.1 (fun h => HU.out.2.2.1 (HV.out.symm.trans h)) (fun h => HU.out.2.2.2 (HV.out.symm.trans h)) HB.out)
end Go.Proofs.Ytlknlnhbmamcbaa

/- Layer 2: the reference's bound: its labels, its row, what it answers. -/
namespace Go.Proofs.Ytlknlnhbmamcbaa
open Go.RowKit

set_option maxHeartbeats 1000000 in
theorem rlabel_any (n : Strs) (g : Grid) (a b : Int) (up : Bool) (w : World) (hn : n.At w) (hg : g.At w) :
    Calls Try.prog 60 #[.agg #[.slice n.ao n.len n.cap, .slice g.ao g.len g.cap], .int .i64 a, .int .i64 b, .bool up] w fun e w' => e = .returned (.int .i64 (bndL n g a b up)) ∧ Below w.heap.size w w' := by
  have L0 := Bl.new w n g
  have B0 := below_alloc w (.cells #[.slice n.ao n.len n.cap, .slice g.ao g.len g.cap] 25)
  have l0 := L0.c0
  have l1 := L0.c1
  have H1 := rJoin_any n g a b _ (hn.kept B0) (hg.kept B0)
  have H2 := rMeet_any n g a b _ (hn.kept B0) (hg.kept B0)
  cases up
  · go_enter Try.func60, Try.ntmps60
    go_wp2_with fail
    refine H2.mono ?_
    rintro e w1 ⟨rfl, hb1⟩
    go_wp2
    go_ret
    exact ⟨rfl, Below.next B0 hb1⟩
  · go_enter Try.func60, Try.ntmps60
    go_wp2_with fail
    refine H1.mono ?_
    rintro e w1 ⟨rfl, hb1⟩
    go_wp2
    go_ret
    exact ⟨rfl, Below.next B0 hb1⟩

theorem meet_none {n : Strs} {g : Grid} {a b : Int} (h : a = -1 ∨ b = -1) : meetI n g a b = -1 := by
  have hl : labB n (-1) = false := by simp [labB]
  unfold meetI
  rcases h with h | h <;> subst h <;> simp [hl]

/-- What the reference's bound answers: its Parts lie where s's lie, or in new memory. -/
def RBP (w : World) (n : Strs) (g : Grid) (s t : Ty) (up : Bool) (e : Ending) (w' : World) : Prop :=
  ∃ u : Ty, e = .returned (.tuple #[.agg #[.int .i64 u.k, .int .i64 u.l, .slice u.ao u.len u.cap, .int .i64 u.h, .int .i64 u.e], .bool (s.bok t)]) ∧ u.At w' ∧ (∀ Q : Nat → Prop, s.Blk Q → u.Blk (fun b => Q b ∨ w.heap.size ≤ b)) ∧ (s.bok t = true → u.same (s.bnd n g t up) = true) ∧ Below w.heap.size w w'
theorem RBP.intro {w : World} {n : Strs} {g : Grid} {s t : Ty} {up : Bool} {e : Ending} {w' : World} (u : Ty) (h1 : e = .returned (.tuple #[.agg #[.int .i64 u.k, .int .i64 u.l, .slice u.ao u.len u.cap, .int .i64 u.h, .int .i64 u.e], .bool (s.bok t)])) (h2 : u.At w') (h3 : ∀ Q : Nat → Prop, s.Blk Q → u.Blk (fun b => Q b ∨ w.heap.size ≤ b)) (h4 : s.bok t = true → u.same (s.bnd n g t up) = true) (h5 : Below w.heap.size w w') : RBP w n g s t up e w' := ⟨u, h1, h2, h3, h4, h5⟩
theorem RBP.no {w : World} {n : Strs} {g : Grid} {s t : Ty} {up : Bool} {w' : World} (hk : s.bok t = false) (h5 : Below w.heap.size w w') : RBP w n g s t up (.returned (.tuple #[.agg #[.int .i64 0, .int .i64 0, .slice none 0 0, .int .i64 0, .int .i64 0], .bool false])) w' :=
  ⟨leafT 0 0, by rw [hk]; rfl, leaf_at _ _ _, fun _ _ => leaf_blk _ _ _, fun h => (by rw [hk] at h; cases h), h5⟩

/-- A row of j types that v owns, in blocks from base on; its types' Parts lie there, or below lo. -/
structure GL (lo base : Nat) (x : World) (v : Value) (j : Nat) (ts : Nat → Ty) : Prop where
  own : x.ownsRow base 28 5 v j (flatT ts j)
  at' : ∀ i, i < j → (ts i).At x
  blk : ∀ i, i < j → (ts i).Blk (fun b => (b < lo ∨ base ≤ b) ∧ some b ≠ v.ownBlock)
theorem GL.start (lo base : Nat) (x : World) (ts : Nat → Ty) : GL lo base x (.slice none 0 0) 0 ts :=
  ⟨World.ownsRow_nil _ _ _ _, fun _ h => absurd h (Nat.not_lt_zero _), fun _ h => absurd h (Nat.not_lt_zero _)⟩
theorem GL.agree {lo base : Nat} {x x' : World} {v : Value} {j : Nat} {ts : Nat → Ty} (h : GL lo base x v j ts) (ag : ∀ b, (b < lo ∨ base ≤ b) → b < x.heap.size → x'.heap[b]? = x.heap[b]?) : GL lo base x' v j ts :=
  ⟨own_agree h.own (fun b hb => ag b (Or.inr hb)), fun i hi => Ty.At.agree (Q := fun b => ((b < lo ∨ base ≤ b) ∧ some b ≠ v.ownBlock) ∧ b < x.heap.size) (fun b hq => ag b hq.1.1 hq.2) (h.at' i hi) ((h.blk i hi).and (h.at' i hi).lt), h.blk⟩
theorem GL.push {lo base : Nat} {wr w1 w3 : World} {v : Value} {j : Nat} {ts : Nat → Ty} {t : Ty} {gg cap : Nat} (h : GL lo base wr v j ts) (hlo : lo ≤ base) (hs : base ≤ wr.heap.size) (hb : Below wr.heap.size wr w1) (ht : t.At w1) (hk : t.Blk (fun b => b < lo ∨ wr.heap.size ≤ b))
    (hown : w3.ownsRow base 28 5 (.slice (some ⟨gg, 0, none⟩) (j + 1) cap) (j + 1) (flatT ts j ++ t.vs)) (hgrow : (w1.alloc (tyO t)).grownBy w3 v.ownBlock) (hat : v.ownBlock = some gg ∨ gg = w1.heap.size + 1) :
    GL lo base w3 (.slice (some ⟨gg, 0, none⟩) (j + 1) cap) (j + 1) (fun i => if i < j then ts i else t) ∧ (∀ b, b < base → w3.heap[b]? = wr.heap[b]?) ∧ wr.heap.size ≤ w3.heap.size ∧ (∀ w : World, w.heap.size ≤ base → Below w.heap.size w wr → Below w.heap.size w w3) := by
  have s2 := hb.size
  have ba := below_alloc w1 (tyO t)
  have sz : (w1.alloc (tyO t)).heap.size = w1.heap.size + 1 := alloc_size _ _
  have old1 : ∀ b, b < w1.heap.size → some b ≠ v.ownBlock → w3.heap[b]? = w1.heap[b]? := fun b hb1 hne => (hgrow.block b (by rw [sz]; omega) hne).trans (ba.block b hb1)
  have old : ∀ b, b < wr.heap.size → some b ≠ v.ownBlock → w3.heap[b]? = wr.heap[b]? := fun b hb1 hne => (old1 b (by omega) hne).trans (hb.block b hb1)
  have lt : ∀ b, v.ownBlock = some b → b < wr.heap.size := fun b hb' => own_lt h.own hb'
  have ge : ∀ b, v.ownBlock = some b → base ≤ b := fun b hb' => own_ge h.own hb'
  have nat : t.At w3 := Ty.At.agree (Q := fun b => (b < lo ∨ wr.heap.size ≤ b) ∧ b < w1.heap.size) (fun b hq => old1 b hq.2 (fun e => by have := lt b e.symm; have := ge b e.symm; omega)) ht (hk.and ht.lt)
  have sz3 := hgrow.size
  refine ⟨⟨?_, fun i hi => ?_, fun i hi => ?_⟩, fun b hb1 => old b (by omega) (fun e => by have := ge b e.symm; omega), by omega, fun w hw hbl => ?_⟩
  · have e : flatT (fun i => if i < j then ts i else t) (j + 1) = flatT ts j ++ t.vs := by
      show flatT (fun i => if i < j then ts i else t) j ++ (if j < j then ts j else t).vs = _
      rw [flat_congr j (us := ts) (fun i hi => by simp [hi]), if_neg (Nat.lt_irrefl _)]
    rw [e]; exact hown
  · by_cases hij : i < j
    · simp only [hij, if_true]
      exact Ty.At.agree (Q := fun b => ((b < lo ∨ base ≤ b) ∧ some b ≠ v.ownBlock) ∧ b < wr.heap.size) (fun b hq => old b hq.2 hq.1.2) (h.at' i hij) ((h.blk i hij).and (h.at' i hij).lt)
    · simp only [hij, if_false]
      exact nat
  · have key : ∀ b, (b < wr.heap.size ∧ some b ≠ v.ownBlock) ∨ ((b < lo ∨ wr.heap.size ≤ b) ∧ b < w1.heap.size) → some b ≠ (Value.slice (some ⟨gg, 0, none⟩) (j + 1) cap).ownBlock := fun b hq e => by
      have e' : b = gg := by simpa [Value.ownBlock] using e
      subst e'
      rcases hat with hat | hat
      · rcases hq with hq | hq
        · exact hq.2 hat.symm
        · have := lt b hat; have := ge b hat; omega
      · rcases hq with hq | hq <;> omega
    by_cases hij : i < j
    · simp only [hij, if_true]
      exact ((h.blk i hij).and (h.at' i hij).lt).mono (fun b hq => ⟨hq.1.1, key b (Or.inl ⟨hq.2, hq.1.2⟩)⟩)
    · simp only [hij, if_false]
      exact (hk.and ht.lt).mono (fun b hq => ⟨by omega, key b (Or.inr hq)⟩)
  · refine ⟨hgrow.os.trans (ba.os.trans (hb.os.trans hbl.os)), hgrow.tape.trans (ba.tape.trans (hb.tape.trans hbl.tape)), hgrow.output.trans (ba.output.trans (hb.output.trans hbl.output)), by have := hbl.size; omega, fun b hb1 => ?_⟩
    rw [old b (by omega) (fun e => by have := ge b e.symm; omega)]
    exact hbl.block b hb1
/-- The row's type. -/
theorem GL.ty {lo base : Nat} {wr : World} {v : Value} {j : Nat} {ts : Nat → Ty} (h : GL lo base wr v j ts) (hj : j ≤ 9223372036854775807) : ∃ (ao : Option Addr) (gg cap : Nat), v = .slice ao j cap ∧ (0 < j → base ≤ gg) ∧ ∀ k l hh e, Ty.At wr (.mk k l hh e ao gg 0 j cap ts) ∧ Ty.Blk (fun b => b < lo ∨ base ≤ b) (.mk k l hh e ao gg 0 j cap ts) := by
  by_cases h0 : 0 < j
  · obtain ⟨gg, cap, rfl, hge, _⟩ := h.own.form h0
    refine ⟨_, gg, cap, rfl, fun _ => hge, fun k l hh e => ⟨⟨fun _ => rfl, hj, fun i hi => ⟨?_, h.at' i hi⟩⟩, fun _ => Or.inr hge, fun i hi => (h.blk i hi).mono (fun b hq => hq.1)⟩⟩
    have get : ∀ q, q < 5 → wr.cell? ⟨gg, 0 + i * 5 + q, none⟩ = (ts i).vs[q]? := fun q hq => by
      rw [Nat.zero_add, h.own.cellAt (i * 5 + q) (by omega), flat_get ts j i q hi hq]
    exact ⟨get 0 (by omega), get 1 (by omega), get 2 (by omega), get 3 (by omega), get 4 (by omega)⟩
  · have e : j = 0 := by omega
    subst e
    obtain ⟨_, ⟨rfl, _⟩ | ⟨gb, cap, cur, rfl, hg, _⟩⟩ := h.own
    · exact ⟨none, 0, 0, rfl, fun h => absurd h (Nat.lt_irrefl _), fun k l hh e => ⟨⟨fun h => absurd h (Nat.lt_irrefl _), hj, fun _ h => absurd h (Nat.not_lt_zero _)⟩, fun h => absurd h (Nat.lt_irrefl _), fun _ h => absurd h (Nat.not_lt_zero _)⟩⟩
    · exact ⟨_, gb, cap, rfl, fun h => absurd h (Nat.lt_irrefl _), fun k l hh e => ⟨⟨fun _ => rfl, hj, fun _ h => absurd h (Nat.not_lt_zero _)⟩, fun h => absurd h (Nat.lt_irrefl _), fun _ h => absurd h (Nat.not_lt_zero _)⟩⟩
end Go.Proofs.Ytlknlnhbmamcbaa
