/- Layer 2: Join and Meet. -/
import Derived.Test.YtlknlnhbmamcbaaP15
import Derived.Test.YtlknlnhbmamcbaaP11
import Derived.Test.YtlknlnhbmamcbaaP12
namespace Go.Proofs.Ytlknlnhbmamcbaa
open Go.RowKit

/-- Whether there is a bound of any two types. -/
def bokB (n : Strs) (g : Grid) (s t : Ty) : Bool := (okB n g s && okB n g t) && s.bok t
/-- What Join (up) and Meet answer. -/
def JP (w : World) (n : Strs) (g : Grid) (s t : Ty) (up : Bool) (e : Ending) (w' : World) : Prop :=
  ∃ u : Ty, e = .returned (.tuple #[.agg #[.int .i64 u.k, .int .i64 u.l, .slice u.ao u.len u.cap, .int .i64 u.h, .int .i64 u.e], .bool (bokB n g s t)]) ∧ u.At w' ∧ u.Blk (fun b => w.heap.size ≤ b) ∧ (bokB n g s t = true → u.same (s.bnd n g t up) = true) ∧ (bokB n g s t = false → u = leafT 0 0) ∧ Below w.heap.size w w'
theorem JP.intro {w : World} {n : Strs} {g : Grid} {s t : Ty} {up : Bool} {e : Ending} {w' : World} (u : Ty) (h1 : e = .returned (.tuple #[.agg #[.int .i64 u.k, .int .i64 u.l, .slice u.ao u.len u.cap, .int .i64 u.h, .int .i64 u.e], .bool (bokB n g s t)])) (h2 : u.At w') (h3 : u.Blk (fun b => w.heap.size ≤ b)) (h4 : bokB n g s t = true → u.same (s.bnd n g t up) = true) (h5 : bokB n g s t = false → u = leafT 0 0) (h6 : Below w.heap.size w w') : JP w n g s t up e w' := ⟨u, h1, h2, h3, h4, h5, h6⟩
theorem leaf_blk (k l : Int) (Q : Nat → Prop) : (leafT k l).Blk Q := ⟨fun h => absurd h (Nat.lt_irrefl _), fun _ h => absurd h (Nat.not_lt_zero _)⟩
theorem okB_two (n : Strs) (g : Grid) (s t : Ty) : (formedB n g && (s.ok n.len && t.ok n.len)) = (okB n g s && okB n g t) := by
  unfold okB
  cases formedB n g <;> simp

set_option maxRecDepth 100000 in
set_option maxHeartbeats 4000000 in
theorem Join_any2 (n : Strs) (g : Grid) (s t : Ty) (w : World) (hn : n.At w) (hg : g.At w) (hs : s.At w) (ht : t.At w) :
    Calls Try.prog 21 #[.agg #[.slice n.ao n.len n.cap, .slice g.ao g.len g.cap], .agg #[.int .i64 s.k, .int .i64 s.l, .slice s.ao s.len s.cap, .int .i64 s.h, .int .i64 s.e], .agg #[.int .i64 t.k, .int .i64 t.l, .slice t.ao t.len t.cap, .int .i64 t.h, .int .i64 t.e]] w fun e w' => JP w n g s t true e w' := by
  have K0 := bbox_new w n g s t
  have R1 := row2_at _ s t (hs.kept K0.bl) (ht.kept K0.bl)
  have BA := below_alloc ((((w.alloc (latO n g)).alloc (tyO s)).alloc (tyO t)).alloc (.cells #[.int .i64 0, .int .i64 0, .slice none 0 0, .int .i64 0, .int .i64 0] 28)) (row2 s t)
  have hA := allFormed_any n g _ _ _ _ _ _ _ ((hn.kept K0.bl).kept BA) ((hg.kept K0.bl).kept BA) R1
  rw [alloc_size, alloc_size, alloc_size, alloc_size] at hA
  have HE : Hid ((formedB n g && decide (∀ i, i < 2 → Ty.ok n.len ((fun i => if i = 0 then s else t) i) = true)) = (okB n g s && okB n g t)) := by
    show (formedB n g && decide (∀ i, i < 2 → Ty.ok n.len ((fun i => if i = 0 then s else t) i) = true)) = (okB n g s && okB n g t)
    rw [← okB_two]
    congr 1
    rw [Bool.eq_iff_iff, decide_eq_true_eq, Bool.and_eq_true]
    exact ⟨fun h => ⟨h 0 (by omega), h 1 (by omega)⟩, fun h i hi => by
      by_cases e : i = 0
      · subst e; exact h.1
      · have e1 : i = 1 := by omega
        subst e1; exact h.2⟩
  rw [HE.out] at hA
  have K1 := K0.step BA
  have HN : Hid (n.At w ∧ g.At w ∧ s.At w ∧ t.At w) := ⟨hn, hg, hs, ht⟩
  clear HE R1 K0 BA hn hg hs ht
  unfold latO tyO row2 at *
  cases hq : (okB n g s && okB n g t)
  · have HV : Hid (bokB n g s t = false) := by show bokB n g s t = false; unfold bokB; rw [hq]; rfl
    rw [hq] at hA
    clear hq
    go_enter Try.func21, Try.ntmps21
    go_wp2_with fail
    refine hA.mono ?_
    rintro e w1 ⟨rfl, hb1⟩
    have K2 := K1.step hb1
    have HR : Hid (Bx w1 (w.heap.size + 3) (leafT 0 0) ∧ ∀ i, i < 5 → w1.frozen? ⟨w.heap.size + 3, i, none⟩ = false) := ⟨K2.r, K2.fr⟩
    have HB : Hid (Below w.heap.size w (World.put5 w1 (w.heap.size + 3) (.int .i64 0) (.int .i64 0) (.slice none 0 0) (.int .i64 0) (.int .i64 0))) := put5_below (by omega) K2.bl _ _ _ _ _
    clear K1 K2 hb1 hA
    go_wp2_with (refine wpList_store5 rfl rfl _ _ rfl (w.heap.size + 3) _ _ _ _ _ rfl rfl rfl rfl rfl rfl rfl HR.out.1 HR.out.2 ?_)
    obtain ⟨e0, e1, e2, e3, e4⟩ := put5_cells (.int .i64 0) (.int .i64 0) (.slice none 0 0) (.int .i64 0) (.int .i64 0) HR.out.1 HR.out.2
    exact bodyPost_ret (v := .tuple #[.agg #[.int .i64 0, .int .i64 0, .slice none 0 0, .int .i64 0, .int .i64 0], .bool false]) (by simp [results, Try.results21, go_sem, e0, e1, e2, e3, e4]) rfl (JP.intro (leafT 0 0) (by rw [HV.out]; rfl) (leaf_at _ _ _) (leaf_blk _ _ _) (fun h => absurd (HV.out.symm.trans h) (by decide)) (fun _ => rfl) HB.out)
  · have HV : Hid (bokB n g s t = s.bok t) := by show bokB n g s t = s.bok t; unfold bokB; rw [hq]; rfl
    rw [hq] at hA
    rw [Bool.and_eq_true] at hq
    have q1 := hq.1
    have q2 := hq.2
    unfold okB at q1 q2
    rw [Bool.and_eq_true] at q1 q2
    obtain ⟨f1, m1⟩ := ok_parts q1.2
    obtain ⟨f2, _⟩ := ok_parts q2.2
    have hC := fun u (hu : Below w.heap.size w u) => bound_any n g s t true u ⟨1, f1⟩ ⟨1, f2⟩ (by omega) (HN.out.1.kept hu) (HN.out.2.1.kept hu) (HN.out.2.2.1.kept hu) (HN.out.2.2.2.kept hu)
    clear hq q1 q2 f1 f2 m1
    go_enter Try.func21, Try.ntmps21
    go_wp2_with fail
    refine hA.mono ?_
    rintro e w1 ⟨rfl, hb1⟩
    have K2 := K1.step hb1
    have hD := hC w1 K2.bl
    have l0 := K2.l.c0
    have l1 := K2.l.c1
    have x0 := K2.x.c0
    have x1 := K2.x.c1
    have x2 := K2.x.c2
    have x3 := K2.x.c3
    have x4 := K2.x.c4
    have y0 := K2.y.c0
    have y1 := K2.y.c1
    have y2 := K2.y.c2
    have y3 := K2.y.c3
    have y4 := K2.y.c4
    clear K1 hb1 hA hC
    go_wp2_with fail
    refine hD.mono ?_
    intro e w2 hBP
    obtain ⟨u, rfl, uA, uB, uS, hb2⟩ := hBP
    have K3 := K2.step hb2
    have HR : Hid (Bx w2 (w.heap.size + 3) (leafT 0 0) ∧ ∀ i, i < 5 → w2.frozen? ⟨w.heap.size + 3, i, none⟩ = false) := ⟨K3.r, K3.fr⟩
    have HB : Hid (Below w.heap.size w (World.put5 w2 (w.heap.size + 3) (.int .i64 u.k) (.int .i64 u.l) (.slice u.ao u.len u.cap) (.int .i64 u.h) (.int .i64 u.e))) := put5_below (by omega) K3.bl _ _ _ _ _
    have HU : Hid (u.At (World.put5 w2 (w.heap.size + 3) (.int .i64 u.k) (.int .i64 u.l) (.slice u.ao u.len u.cap) (.int .i64 u.h) (.int .i64 u.e)) ∧ u.Blk (fun b => w.heap.size ≤ b) ∧ ((s.bok t = true → u.same (s.bnd n g t true) = true) ∧ (s.bok t = false → u = leafT 0 0))) := ⟨Ty.At.agree (Q := fun b => w1.heap.size ≤ b) (fun b hq => put5_heap _ _ _ _ _ _ _ (by have := K2.sz; omega)) uA uB, uB.mono (fun b hq => by have := K2.sz; omega), uS⟩
    clear K2 K3 hb2 hD uA uB uS l0 l1 x0 x1 x2 x3 x4 y0 y1 y2 y3 y4
    go_wp2_with (refine wpList_store5 rfl rfl _ _ rfl (w.heap.size + 3) _ _ _ _ _ rfl rfl rfl rfl rfl rfl rfl HR.out.1 HR.out.2 ?_)
    obtain ⟨e0, e1, e2, e3, e4⟩ := put5_cells (.int .i64 u.k) (.int .i64 u.l) (.slice u.ao u.len u.cap) (.int .i64 u.h) (.int .i64 u.e) HR.out.1 HR.out.2
    exact bodyPost_ret (v := .tuple #[.agg #[.int .i64 u.k, .int .i64 u.l, .slice u.ao u.len u.cap, .int .i64 u.h, .int .i64 u.e], .bool (s.bok t)]) (by simp [results, Try.results21, go_sem, e0, e1, e2, e3, e4]) rfl (JP.intro u (by rw [HV.out]) HU.out.1 HU.out.2.1 (fun h => HU.out.2.2.1 (HV.out.symm.trans h)) (fun h => HU.out.2.2.2 (HV.out.symm.trans h)) HB.out)

set_option maxRecDepth 100000 in
set_option maxHeartbeats 4000000 in
theorem Meet_any2 (n : Strs) (g : Grid) (s t : Ty) (w : World) (hn : n.At w) (hg : g.At w) (hs : s.At w) (ht : t.At w) :
    Calls Try.prog 23 #[.agg #[.slice n.ao n.len n.cap, .slice g.ao g.len g.cap], .agg #[.int .i64 s.k, .int .i64 s.l, .slice s.ao s.len s.cap, .int .i64 s.h, .int .i64 s.e], .agg #[.int .i64 t.k, .int .i64 t.l, .slice t.ao t.len t.cap, .int .i64 t.h, .int .i64 t.e]] w fun e w' => JP w n g s t false e w' := by
  have K0 := bbox_new w n g s t
  have R1 := row2_at _ s t (hs.kept K0.bl) (ht.kept K0.bl)
  have BA := below_alloc ((((w.alloc (latO n g)).alloc (tyO s)).alloc (tyO t)).alloc (.cells #[.int .i64 0, .int .i64 0, .slice none 0 0, .int .i64 0, .int .i64 0] 28)) (row2 s t)
  have hA := allFormed_any n g _ _ _ _ _ _ _ ((hn.kept K0.bl).kept BA) ((hg.kept K0.bl).kept BA) R1
  rw [alloc_size, alloc_size, alloc_size, alloc_size] at hA
  have HE : Hid ((formedB n g && decide (∀ i, i < 2 → Ty.ok n.len ((fun i => if i = 0 then s else t) i) = true)) = (okB n g s && okB n g t)) := by
    show (formedB n g && decide (∀ i, i < 2 → Ty.ok n.len ((fun i => if i = 0 then s else t) i) = true)) = (okB n g s && okB n g t)
    rw [← okB_two]
    congr 1
    rw [Bool.eq_iff_iff, decide_eq_true_eq, Bool.and_eq_true]
    exact ⟨fun h => ⟨h 0 (by omega), h 1 (by omega)⟩, fun h i hi => by
      by_cases e : i = 0
      · subst e; exact h.1
      · have e1 : i = 1 := by omega
        subst e1; exact h.2⟩
  rw [HE.out] at hA
  have K1 := K0.step BA
  have HN : Hid (n.At w ∧ g.At w ∧ s.At w ∧ t.At w) := ⟨hn, hg, hs, ht⟩
  clear HE R1 K0 BA hn hg hs ht
  unfold latO tyO row2 at *
  cases hq : (okB n g s && okB n g t)
  · have HV : Hid (bokB n g s t = false) := by show bokB n g s t = false; unfold bokB; rw [hq]; rfl
    rw [hq] at hA
    clear hq
    go_enter Try.func23, Try.ntmps23
    go_wp2_with fail
    refine hA.mono ?_
    rintro e w1 ⟨rfl, hb1⟩
    have K2 := K1.step hb1
    have HR : Hid (Bx w1 (w.heap.size + 3) (leafT 0 0) ∧ ∀ i, i < 5 → w1.frozen? ⟨w.heap.size + 3, i, none⟩ = false) := ⟨K2.r, K2.fr⟩
    have HB : Hid (Below w.heap.size w (World.put5 w1 (w.heap.size + 3) (.int .i64 0) (.int .i64 0) (.slice none 0 0) (.int .i64 0) (.int .i64 0))) := put5_below (by omega) K2.bl _ _ _ _ _
    clear K1 K2 hb1 hA
    go_wp2_with (refine wpList_store5 rfl rfl _ _ rfl (w.heap.size + 3) _ _ _ _ _ rfl rfl rfl rfl rfl rfl rfl HR.out.1 HR.out.2 ?_)
    obtain ⟨e0, e1, e2, e3, e4⟩ := put5_cells (.int .i64 0) (.int .i64 0) (.slice none 0 0) (.int .i64 0) (.int .i64 0) HR.out.1 HR.out.2
    exact bodyPost_ret (v := .tuple #[.agg #[.int .i64 0, .int .i64 0, .slice none 0 0, .int .i64 0, .int .i64 0], .bool false]) (by simp [results, Try.results23, go_sem, e0, e1, e2, e3, e4]) rfl (JP.intro (leafT 0 0) (by rw [HV.out]; rfl) (leaf_at _ _ _) (leaf_blk _ _ _) (fun h => absurd (HV.out.symm.trans h) (by decide)) (fun _ => rfl) HB.out)
  · have HV : Hid (bokB n g s t = s.bok t) := by show bokB n g s t = s.bok t; unfold bokB; rw [hq]; rfl
    rw [hq] at hA
    rw [Bool.and_eq_true] at hq
    have q1 := hq.1
    have q2 := hq.2
    unfold okB at q1 q2
    rw [Bool.and_eq_true] at q1 q2
    obtain ⟨f1, m1⟩ := ok_parts q1.2
    obtain ⟨f2, _⟩ := ok_parts q2.2
    have hC := fun u (hu : Below w.heap.size w u) => bound_any n g s t false u ⟨1, f1⟩ ⟨1, f2⟩ (by omega) (HN.out.1.kept hu) (HN.out.2.1.kept hu) (HN.out.2.2.1.kept hu) (HN.out.2.2.2.kept hu)
    clear hq q1 q2 f1 f2 m1
    go_enter Try.func23, Try.ntmps23
    go_wp2_with fail
    refine hA.mono ?_
    rintro e w1 ⟨rfl, hb1⟩
    have K2 := K1.step hb1
    have hD := hC w1 K2.bl
    have l0 := K2.l.c0
    have l1 := K2.l.c1
    have x0 := K2.x.c0
    have x1 := K2.x.c1
    have x2 := K2.x.c2
    have x3 := K2.x.c3
    have x4 := K2.x.c4
    have y0 := K2.y.c0
    have y1 := K2.y.c1
    have y2 := K2.y.c2
    have y3 := K2.y.c3
    have y4 := K2.y.c4
    clear K1 hb1 hA hC
    go_wp2_with fail
    refine hD.mono ?_
    intro e w2 hBP
    obtain ⟨u, rfl, uA, uB, uS, hb2⟩ := hBP
    have K3 := K2.step hb2
    have HR : Hid (Bx w2 (w.heap.size + 3) (leafT 0 0) ∧ ∀ i, i < 5 → w2.frozen? ⟨w.heap.size + 3, i, none⟩ = false) := ⟨K3.r, K3.fr⟩
    have HB : Hid (Below w.heap.size w (World.put5 w2 (w.heap.size + 3) (.int .i64 u.k) (.int .i64 u.l) (.slice u.ao u.len u.cap) (.int .i64 u.h) (.int .i64 u.e))) := put5_below (by omega) K3.bl _ _ _ _ _
    have HU : Hid (u.At (World.put5 w2 (w.heap.size + 3) (.int .i64 u.k) (.int .i64 u.l) (.slice u.ao u.len u.cap) (.int .i64 u.h) (.int .i64 u.e)) ∧ u.Blk (fun b => w.heap.size ≤ b) ∧ ((s.bok t = true → u.same (s.bnd n g t false) = true) ∧ (s.bok t = false → u = leafT 0 0))) := ⟨Ty.At.agree (Q := fun b => w1.heap.size ≤ b) (fun b hq => put5_heap _ _ _ _ _ _ _ (by have := K2.sz; omega)) uA uB, uB.mono (fun b hq => by have := K2.sz; omega), uS⟩
    clear K2 K3 hb2 hD uA uB uS l0 l1 x0 x1 x2 x3 x4 y0 y1 y2 y3 y4
    go_wp2_with (refine wpList_store5 rfl rfl _ _ rfl (w.heap.size + 3) _ _ _ _ _ rfl rfl rfl rfl rfl rfl rfl HR.out.1 HR.out.2 ?_)
    obtain ⟨e0, e1, e2, e3, e4⟩ := put5_cells (.int .i64 u.k) (.int .i64 u.l) (.slice u.ao u.len u.cap) (.int .i64 u.h) (.int .i64 u.e) HR.out.1 HR.out.2
    exact bodyPost_ret (v := .tuple #[.agg #[.int .i64 u.k, .int .i64 u.l, .slice u.ao u.len u.cap, .int .i64 u.h, .int .i64 u.e], .bool (s.bok t)]) (by simp [results, Try.results23, go_sem, e0, e1, e2, e3, e4]) rfl (JP.intro u (by rw [HV.out]) HU.out.1 HU.out.2.1 (fun h => HU.out.2.2.1 (HV.out.symm.trans h)) (fun h => HU.out.2.2.2 (HV.out.symm.trans h)) HB.out)
end Go.Proofs.Ytlknlnhbmamcbaa

/- The walk of the statement TypesOrder. -/
namespace Go.Proofs.Ytlknlnhbmamcbaa
open Go.RowKit

/-- A variable that holds three types. -/
structure B15 (w : World) (B : Nat) (sp : Nat → Ty) : Prop where
  a0 : w.cell? ⟨B, 0, none⟩ = some (.int .i64 (sp 0).k)
  a1 : w.cell? ⟨B, 1, none⟩ = some (.int .i64 (sp 0).l)
  a2 : w.cell? ⟨B, 2, none⟩ = some (.slice (sp 0).ao (sp 0).len (sp 0).cap)
  a3 : w.cell? ⟨B, 3, none⟩ = some (.int .i64 (sp 0).h)
  a4 : w.cell? ⟨B, 4, none⟩ = some (.int .i64 (sp 0).e)
  b0 : w.cell? ⟨B, 5, none⟩ = some (.int .i64 (sp 1).k)
  b1 : w.cell? ⟨B, 6, none⟩ = some (.int .i64 (sp 1).l)
  b2 : w.cell? ⟨B, 7, none⟩ = some (.slice (sp 1).ao (sp 1).len (sp 1).cap)
  b3 : w.cell? ⟨B, 8, none⟩ = some (.int .i64 (sp 1).h)
  b4 : w.cell? ⟨B, 9, none⟩ = some (.int .i64 (sp 1).e)
  d0 : w.cell? ⟨B, 10, none⟩ = some (.int .i64 (sp 2).k)
  d1 : w.cell? ⟨B, 11, none⟩ = some (.int .i64 (sp 2).l)
  d2 : w.cell? ⟨B, 12, none⟩ = some (.slice (sp 2).ao (sp 2).len (sp 2).cap)
  d3 : w.cell? ⟨B, 13, none⟩ = some (.int .i64 (sp 2).h)
  d4 : w.cell? ⟨B, 14, none⟩ = some (.int .i64 (sp 2).e)
  row : ∀ k, k < 3 → C5 w B (k * 5) (sp k)
theorem B15.kept {w w' : World} {B : Nat} {sp : Nat → Ty} (h : B15 w B sp) (hb : Below w.heap.size w w') : B15 w' B sp := ⟨up hb h.a0, up hb h.a1, up hb h.a2, up hb h.a3, up hb h.a4, up hb h.b0, up hb h.b1, up hb h.b2, up hb h.b3, up hb h.b4, up hb h.d0, up hb h.d1, up hb h.d2, up hb h.d3, up hb h.d4, fun k hk => (h.row k hk).kept hb⟩
def o15 (sp : Nat → Ty) : Obj := .cells #[.int .i64 (sp 0).k, .int .i64 (sp 0).l, .slice (sp 0).ao (sp 0).len (sp 0).cap, .int .i64 (sp 0).h, .int .i64 (sp 0).e, .int .i64 (sp 1).k, .int .i64 (sp 1).l, .slice (sp 1).ao (sp 1).len (sp 1).cap, .int .i64 (sp 1).h, .int .i64 (sp 1).e, .int .i64 (sp 2).k, .int .i64 (sp 2).l, .slice (sp 2).ao (sp 2).len (sp 2).cap, .int .i64 (sp 2).h, .int .i64 (sp 2).e] 39
theorem B15.new (w : World) (sp : Nat → Ty) : B15 (w.alloc (o15 sp)) w.heap.size sp := by
  refine ⟨?_, ?_, ?_, ?_, ?_, ?_, ?_, ?_, ?_, ?_, ?_, ?_, ?_, ?_, ?_, fun k hk => ?_⟩
  case refine_16 =>
    match k, hk with
    | 0, _ => constructor <;> simp [o15]
    | 1, _ => constructor <;> simp [o15]
    | 2, _ => constructor <;> simp [o15]
  all_goals simp [o15]
theorem start_l15 (w : World) (n : Strs) (g : Grid) (sp : Nat → Ty) : Bl ((w.alloc (latO n g)).alloc (o15 sp)) w.heap.size n g ∧ B15 ((w.alloc (latO n g)).alloc (o15 sp)) (w.heap.size + 1) sp ∧ Below w.heap.size w ((w.alloc (latO n g)).alloc (o15 sp)) :=
  ⟨(Bl.new w n g).kept (below_alloc _ _), (alloc_size w (latO n g)) ▸ B15.new (w.alloc (latO n g)) sp, Below.next (below_alloc _ _) (below_alloc _ _)⟩

set_option maxRecDepth 100000 in
set_option maxHeartbeats 8000000 in
theorem typesOrder_any (n : Strs) (g : Grid) (sp : Nat → Ty) (w : World) (hn : n.At w) (hg : g.At w) (hs : ∀ k, k < 3 → (sp k).At w) :
    Calls Try.prog 6 #[.agg #[.slice n.ao n.len n.cap, .slice g.ao g.len g.cap], .agg #[.int .i64 (sp 0).k, .int .i64 (sp 0).l, .slice (sp 0).ao (sp 0).len (sp 0).cap, .int .i64 (sp 0).h, .int .i64 (sp 0).e, .int .i64 (sp 1).k, .int .i64 (sp 1).l, .slice (sp 1).ao (sp 1).len (sp 1).cap, .int .i64 (sp 1).h, .int .i64 (sp 1).e, .int .i64 (sp 2).k, .int .i64 (sp 2).l, .slice (sp 2).ao (sp 2).len (sp 2).cap, .int .i64 (sp 2).h, .int .i64 (sp 2).e]] w fun e w' => e = .returned (.bool true) ∧ Below w.heap.size w w' := by
  obtain ⟨L0, T0, B0⟩ := start_l15 w n g sp
  unfold latO o15 at *
  go_enter Try.func6, Try.ntmps6
  go_wp2_with fail
  refine (awake2_any _).mono ?_
  rintro e w1 ⟨rfl, hb1⟩
  have L1 := L0.kept hb1
  have T1 := T0.kept hb1
  have B1 := Below.next B0 hb1
  clear L0 T0 B0 hb1
  have l0 := L1.c0
  have l1 := L1.c1
  have a0 := T1.a0
  have a1 := T1.a1
  have a2 := T1.a2
  have a3 := T1.a3
  have a4 := T1.a4
  have b0 := T1.b0
  have b1 := T1.b1
  have b2 := T1.b2
  have b3 := T1.b3
  have b4 := T1.b4
  have d0 := T1.d0
  have d1 := T1.d1
  have d2 := T1.d2
  have d3 := T1.d3
  have d4 := T1.d4
  go_wp2_with fail
  refine (few_any n g (sp 0) (sp 1) _ (hn.kept B1) (hg.kept B1) ((hs 0 (by omega)).kept B1) ((hs 1 (by omega)).kept B1)).mono ?_
  rintro e w2 ⟨rfl, hb2⟩
  have L2 := L1.kept hb2
  have T2 := T1.kept hb2
  have B2 := Below.next B1 hb2
  clear L1 T1 B1 hb2 l0 l1 a0 a1 a2 a3 a4 b0 b1 b2 b3 b4 d0 d1 d2 d3 d4
  cases hfew : fewB n g (sp 0) (sp 1)
  · go_wp2_with fail
    refine (awake2_any _).mono ?_
    rintro e w3 ⟨rfl, hb3⟩
    go_wp2
    go_ret
    exact ⟨rfl, Below.next B2 hb3⟩
  clear hfew
  have d0 := T2.d0
  have d1 := T2.d1
  have d2 := T2.d2
  have d3 := T2.d3
  have d4 := T2.d4
  go_wp2_with fail
  refine (rSmall2_any (sp 2) _ ((hs 2 (by omega)).kept B2)).mono ?_
  rintro e w3 ⟨rfl, hb3⟩
  have L3 := L2.kept hb3
  have T3 := T2.kept hb3
  have B3 := Below.next B2 hb3
  clear L2 T2 B2 hb3 d0 d1 d2 d3 d4
  cases hsm : decide ((sp 2).nodes ≤ 40)
  · go_wp2_with fail
    refine (awake2_any _).mono ?_
    rintro e w4 ⟨rfl, hb4⟩
    go_wp2
    go_ret
    exact ⟨rfl, Below.next B3 hb4⟩
  clear hsm
  have HN : Hid (n.At w3 ∧ g.At w3 ∧ ∀ k, k < 3 → (sp k).At w3) := ⟨hn.kept B3, hg.kept B3, fun k hk => (hs k hk).kept B3⟩
  clear hn hg hs
  go_wp2
  go_loopw [5] (fun i wr => ∃ k : Nat, k ≤ 3 ∧ i = .int .i64 k ∧ Below w3.heap.size w3 wr) (fun i _ => 3 - (intOf i).toNat)
  case atStart => exact ⟨0, Nat.zero_le _, rfl, Below.refl _ _⟩
  case round =>
    obtain ⟨k, hk, rfl, hB⟩ := hrel
    have L4 := L3.kept hB
    have T4 := T3.kept hB
    by_cases hlt : k < 3
    · have ik : (k : Int) < 3 := by omega
      have C := T4.row k hlt
      have l0 := fun x => Gr.cell x L4.c0
      have l1 := fun x => Gr.cell x L4.c1
      have p0 := fun x => Gr.cell x C.c0
      have p1 := fun x => Gr.cell x C.c1
      have p2 := fun x => Gr.cell x C.c2
      have p3 := fun x => Gr.cell x C.c3
      have p4 := fun x => Gr.cell x C.c4
      have H1 : ∀ u, Below wr.heap.size wr u → Calls Try.prog 17 #[.agg #[.slice n.ao n.len n.cap, .slice g.ao g.len g.cap], .agg #[.int .i64 (sp k).k, .int .i64 (sp k).l, .slice (sp k).ao (sp k).len (sp k).cap, .int .i64 (sp k).h, .int .i64 (sp k).e], .agg #[.int .i64 (sp k).k, .int .i64 (sp k).l, .slice (sp k).ao (sp k).len (sp k).cap, .int .i64 (sp k).h, .int .i64 (sp k).e]] u fun e w' => e = .returned (.bool (okB n g (sp k))) ∧ Below u.heap.size u w' := fun u hu => by
        have hb := Below.next hB hu
        have := Below_any2 n g (sp k) (sp k) u (HN.out.1.kept hb) (HN.out.2.1.kept hb) ((HN.out.2.2 k hlt).kept hb) ((HN.out.2.2 k hlt).kept hb)
        rwa [belB_refl] at this
      have H2 : ∀ u, Below wr.heap.size wr u → Calls Try.prog 11 #[.agg #[.slice n.ao n.len n.cap, .slice g.ao g.len g.cap], .agg #[.int .i64 (sp k).k, .int .i64 (sp k).l, .slice (sp k).ao (sp k).len (sp k).cap, .int .i64 (sp k).h, .int .i64 (sp k).e]] u fun e w' => e = .returned (.bool (okB n g (sp k))) ∧ Below u.heap.size u w' := fun u hu => by
        have hb := Below.next hB hu
        exact Formed2_any n g (sp k) u (HN.out.1.kept hb) (HN.out.2.1.kept hb) ((HN.out.2.2 k hlt).kept hb)
      generalize okB n g (sp k) = V at H1 H2
      have hNE : Nonempty (Gr wr) := ⟨⟨_, Below.refl _ _⟩⟩
      clear C T4 L4
      go_wp2
      refine wp_region_gr (by kernel_rfl) (by kernel_rfl) ?_
      repeat (first | go_big_quiet_step ((first | (go_at_call 17; exact Calls.gr _ (H1 _ (Gr.bl _))) | (go_at_call 11; exact Calls.gr _ (H2 _ (Gr.bl _))))))
      refine wpQuiet_nil ?_
      rintro w6 ⟨x6w, rfl⟩
      have B6 := x6w.bl
      generalize x6w.w = w6 at B6 ⊢
      clear x6w hNE l0 l1 p0 p1 p2 p3 p4 H1 H2
      go_wp2
      go_roundw
      case rel => exact ⟨k + 1, by omega, by go_num, Below.next hB B6⟩
      case measure => simp [intOf]; omega
    · have e : k = 3 := by omega
      subst e
      have hb3 := Below.next B3 hB
      have dl : ¬ ((3 : Nat) : Int) < 3 := by omega
      have l0 := fun x => Gr.cell x L4.c0
      have l1 := fun x => Gr.cell x L4.c1
      have a0 := fun x => Gr.cell x T4.a0
      have a1 := fun x => Gr.cell x T4.a1
      have a2 := fun x => Gr.cell x T4.a2
      have a3 := fun x => Gr.cell x T4.a3
      have a4 := fun x => Gr.cell x T4.a4
      have b0 := fun x => Gr.cell x T4.b0
      have b1 := fun x => Gr.cell x T4.b1
      have b2 := fun x => Gr.cell x T4.b2
      have b3 := fun x => Gr.cell x T4.b3
      have b4 := fun x => Gr.cell x T4.b4
      have d0 := fun x => Gr.cell x T4.d0
      have d1 := fun x => Gr.cell x T4.d1
      have d2 := fun x => Gr.cell x T4.d2
      have d3 := fun x => Gr.cell x T4.d3
      have d4 := fun x => Gr.cell x T4.d4
      have HC : ∀ (i j : Nat), i < 3 → j < 3 → ∀ u, Below wr.heap.size wr u → Calls Try.prog 17 #[.agg #[.slice n.ao n.len n.cap, .slice g.ao g.len g.cap], .agg #[.int .i64 (sp i).k, .int .i64 (sp i).l, .slice (sp i).ao (sp i).len (sp i).cap, .int .i64 (sp i).h, .int .i64 (sp i).e], .agg #[.int .i64 (sp j).k, .int .i64 (sp j).l, .slice (sp j).ao (sp j).len (sp j).cap, .int .i64 (sp j).h, .int .i64 (sp j).e]] u fun e w' => e = .returned (.bool (belB n g (sp i) (sp j))) ∧ Below u.heap.size u w' := fun i j hi hj u hu => by
        have hb := Below.next hB hu
        exact Below_any2 n g (sp i) (sp j) u (HN.out.1.kept hb) (HN.out.2.1.kept hb) ((HN.out.2.2 i hi).kept hb) ((HN.out.2.2 j hj).kept hb)
      have H1 := HC 0 1 (by omega) (by omega)
      have H2 := HC 1 2 (by omega) (by omega)
      have H3 := HC 1 0 (by omega) (by omega)
      have H4 := HC 0 2 (by omega) (by omega)
      have HS : ∀ u, Below wr.heap.size wr u → Calls Try.prog 20 #[.agg #[.int .i64 (sp 0).k, .int .i64 (sp 0).l, .slice (sp 0).ao (sp 0).len (sp 0).cap, .int .i64 (sp 0).h, .int .i64 (sp 0).e], .agg #[.int .i64 (sp 1).k, .int .i64 (sp 1).l, .slice (sp 1).ao (sp 1).len (sp 1).cap, .int .i64 (sp 1).h, .int .i64 (sp 1).e]] u fun e w' => e = .returned (.bool ((sp 0).same (sp 1))) ∧ Below u.heap.size u w' := fun u hu => by
        have hb := Below.next hB hu
        exact rSame_any2 (sp 0) (sp 1) u ((HN.out.2.2 0 (by omega)).kept hb) ((HN.out.2.2 1 (by omega)).kept hb)
      have HM : Hid ((belB n g (sp 0) (sp 1) = true → belB n g (sp 1) (sp 2) = true → belB n g (sp 0) (sp 2) = true) ∧ (belB n g (sp 0) (sp 1) = true → belB n g (sp 1) (sp 0) = true → (sp 0).same (sp 1) = true)) := ⟨fun h1 h2 => belB_trans h1 h2, fun h1 h2 => belB_anti h1 h2⟩
      generalize belB n g (sp 0) (sp 1) = ab at H1 HM
      generalize belB n g (sp 1) (sp 2) = bc at H2 HM
      generalize belB n g (sp 1) (sp 0) = ba at H3 HM
      generalize belB n g (sp 0) (sp 2) = ac at H4 HM
      generalize (sp 0).same (sp 1) = sm at HS HM
      have hNE : Nonempty (Gr wr) := ⟨⟨_, Below.refl _ _⟩⟩
      clear HC
      go_wp2
      refine wp_region_gr (by kernel_rfl) (by kernel_rfl) ?_
      repeat (first | go_big_quiet_step ((first | (go_at_call 17; with_reducible exact Calls.gr _ (H1 _ (Gr.bl _))) | (go_at_call 17; with_reducible exact Calls.gr _ (H2 _ (Gr.bl _))) | (go_at_call 17; with_reducible exact Calls.gr _ (H3 _ (Gr.bl _))))))
      refine wpQuiet_nil ?_
      rintro w6 ⟨x6w, rfl⟩
      have B6 := x6w.bl
      generalize x6w.w = w6 at B6 ⊢
      clear x6w hNE l0 l1 a0 a1 a2 a3 a4 b0 b1 b2 b3 b4 d0 d1 d2 d3 d4 H1 H2 H3
      have L6 := L4.kept B6
      have T6 := T4.kept B6
      have b6 := Below.next hb3 B6
      have H4' := H4 w6 B6
      clear H4 L4 T4
      have l0 := L6.c0
      have l1 := L6.c1
      have a0 := T6.a0
      have a1 := T6.a1
      have a2 := T6.a2
      have a3 := T6.a3
      have a4 := T6.a4
      have b0 := T6.b0
      have b1 := T6.b1
      have b2 := T6.b2
      have b3 := T6.b3
      have b4 := T6.b4
      have d0 := T6.d0
      have d1 := T6.d1
      have d2 := T6.d2
      have d3 := T6.d3
      have d4 := T6.d4
      cases ab
      · go_wp2
        go_ret
        exact ⟨rfl, b6⟩
      · cases bc
        · have HS' := HS w6 B6
          cases ba
          · go_wp2
            go_ret
            exact ⟨rfl, b6⟩
          · have e := HM.out.2 (by first | rfl | trivial) (by first | rfl | trivial)
            subst e
            go_wp2_with fail
            refine HS'.mono ?_
            rintro e w7 ⟨rfl, hb7⟩
            go_wp2
            go_ret
            exact ⟨rfl, Below.next b6 hb7⟩
        · have e := HM.out.1 rfl rfl
          subst e
          go_wp2_with fail
          refine H4'.mono ?_
          rintro e w7 ⟨rfl, hb7⟩
          have b7 := Below.next b6 hb7
          have HS' := HS w7 (Below.next B6 hb7)
          have T7 := T6.kept hb7
          clear a0 a1 a2 a3 a4 b0 b1 b2 b3 b4 d0 d1 d2 d3 d4 l0 l1
          have a0 := T7.a0
          have a1 := T7.a1
          have a2 := T7.a2
          have a3 := T7.a3
          have a4 := T7.a4
          have b0 := T7.b0
          have b1 := T7.b1
          have b2 := T7.b2
          have b3 := T7.b3
          have b4 := T7.b4
          have d0 := T7.d0
          have d1 := T7.d1
          have d2 := T7.d2
          have d3 := T7.d3
          have d4 := T7.d4
          cases ba
          · go_wp2
            go_ret
            exact ⟨rfl, b7⟩
          · have e := HM.out.2 (by first | rfl | trivial) (by first | rfl | trivial)
            subst e
            go_wp2_with fail
            refine HS'.mono ?_
            rintro e w8 ⟨rfl, hb8⟩
            go_wp2
            go_ret
            exact ⟨rfl, Below.next b7 hb8⟩
end Go.Proofs.Ytlknlnhbmamcbaa
