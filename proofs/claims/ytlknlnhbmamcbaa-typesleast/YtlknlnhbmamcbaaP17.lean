/- The walk of the statement TypesLeast. -/
import Derived.Test.YtlknlnhbmamcbaaP16
namespace Go.Proofs.Ytlknlnhbmamcbaa
open Go.RowKit

/-- The statement's variables: a lattice, three types, and two that were made. -/
structure LLS (w x : World) (n : Strs) (g : Grid) (sp : Nat → Ty) (bj bm : Nat) (j m : Ty) : Prop where
  bl : Below w.heap.size w x
  l : Bl x w.heap.size n g
  t : B15 x (w.heap.size + 1) sp
  jx : Bx x bj j
  mx : Bx x bm m
  hn : n.At x
  hg : g.At x
  hs : ∀ k, k < 3 → (sp k).At x
  hj : j.At x
  hm : m.At x
theorem LLS.kept {w x x' : World} {n : Strs} {g : Grid} {sp : Nat → Ty} {bj bm : Nat} {j m : Ty} (h : LLS w x n g sp bj bm j m) (hb : Below x.heap.size x x') : LLS w x' n g sp bj bm j m :=
  ⟨Below.next h.bl hb, h.l.kept hb, h.t.kept hb, h.jx.kept hb, h.mx.kept hb, h.hn.kept hb, h.hg.kept hb, fun k hk => (h.hs k hk).kept hb, h.hj.kept hb, h.hm.kept hb⟩
theorem LLS.bel {w x : World} {n : Strs} {g : Grid} {sp : Nat → Ty} {bj bm : Nat} {j m : Ty} (h : LLS w x n g sp bj bm j m) (s t : Ty) (hs : s.At x) (ht : t.At x) (r : Bool) (hr : belB n g s t = r) :
    Calls Try.prog 17 #[.agg #[.slice n.ao n.len n.cap, .slice g.ao g.len g.cap], .agg #[.int .i64 s.k, .int .i64 s.l, .slice s.ao s.len s.cap, .int .i64 s.h, .int .i64 s.e], .agg #[.int .i64 t.k, .int .i64 t.l, .slice t.ao t.len t.cap, .int .i64 t.h, .int .i64 t.e]] x fun e w' => e = .returned (.bool r) ∧ LLS w w' n g sp bj bm j m := by
  subst hr
  exact (Below_any2 n g s t x h.hn h.hg hs ht).mono fun _ _ ⟨he, hb⟩ => ⟨he, h.kept hb⟩

set_option maxRecDepth 100000 in
set_option maxHeartbeats 8000000 in
theorem typesLeast_any (n : Strs) (g : Grid) (sp : Nat → Ty) (w : World) (hn : n.At w) (hg : g.At w) (hs : ∀ k, k < 3 → (sp k).At w) :
    Calls Try.prog 7 #[.agg #[.slice n.ao n.len n.cap, .slice g.ao g.len g.cap], .agg #[.int .i64 (sp 0).k, .int .i64 (sp 0).l, .slice (sp 0).ao (sp 0).len (sp 0).cap, .int .i64 (sp 0).h, .int .i64 (sp 0).e, .int .i64 (sp 1).k, .int .i64 (sp 1).l, .slice (sp 1).ao (sp 1).len (sp 1).cap, .int .i64 (sp 1).h, .int .i64 (sp 1).e, .int .i64 (sp 2).k, .int .i64 (sp 2).l, .slice (sp 2).ao (sp 2).len (sp 2).cap, .int .i64 (sp 2).h, .int .i64 (sp 2).e]] w fun e w' => e = .returned (.bool true) ∧ Below w.heap.size w w' := by
  obtain ⟨L0, T0, B0⟩ := start_l15 w n g sp
  unfold latO o15 at *
  go_enter Try.func7, Try.ntmps7
  go_wp2_with fail
  refine (awake2_any _).mono ?_
  rintro e w1 ⟨rfl, hb1⟩
  have L1 := L0.kept hb1
  have T1 := T0.kept hb1
  have B1 := Below.next B0 hb1
  clear L0 T0 B0 hb1
  have l0 := L1.c0
  have l1 := L1.c1
  have a0 := T1.a0
  have a1 := T1.a1
  have a2 := T1.a2
  have a3 := T1.a3
  have a4 := T1.a4
  have b0 := T1.b0
  have b1 := T1.b1
  have b2 := T1.b2
  have b3 := T1.b3
  have b4 := T1.b4
  have d0 := T1.d0
  have d1 := T1.d1
  have d2 := T1.d2
  have d3 := T1.d3
  have d4 := T1.d4
  go_wp2_with fail
  refine (few_any n g (sp 0) (sp 1) _ (hn.kept B1) (hg.kept B1) ((hs 0 (by omega)).kept B1) ((hs 1 (by omega)).kept B1)).mono ?_
  rintro e w2 ⟨rfl, hb2⟩
  have L2 := L1.kept hb2
  have T2 := T1.kept hb2
  have B2 := Below.next B1 hb2
  clear L1 T1 B1 hb2 l0 l1 a0 a1 a2 a3 a4 b0 b1 b2 b3 b4 d0 d1 d2 d3 d4
  cases hfew : fewB n g (sp 0) (sp 1)
  · go_wp2_with fail
    refine (awake2_any _).mono ?_
    rintro e w3 ⟨rfl, hb3⟩
    go_wp2
    go_ret
    exact ⟨rfl, Below.next B2 hb3⟩
  clear hfew
  have d0 := T2.d0
  have d1 := T2.d1
  have d2 := T2.d2
  have d3 := T2.d3
  have d4 := T2.d4
  go_wp2_with fail
  refine (rSmall2_any (sp 2) _ ((hs 2 (by omega)).kept B2)).mono ?_
  rintro e w3 ⟨rfl, hb3⟩
  have L3 := L2.kept hb3
  have T3 := T2.kept hb3
  have B3 := Below.next B2 hb3
  clear L2 T2 B2 hb3 d0 d1 d2 d3 d4
  cases hsm : decide ((sp 2).nodes ≤ 40)
  · go_wp2_with fail
    refine (awake2_any _).mono ?_
    rintro e w4 ⟨rfl, hb4⟩
    go_wp2
    go_ret
    exact ⟨rfl, Below.next B3 hb4⟩
  clear hsm
  have n3 := hn.kept B3
  have g3 := hg.kept B3
  have s3 : ∀ k, k < 3 → (sp k).At w3 := fun k hk => (hs k hk).kept B3
  clear hn hg hs
  have l0 := L3.c0
  have l1 := L3.c1
  have a0 := T3.a0
  have a1 := T3.a1
  have a2 := T3.a2
  have a3 := T3.a3
  have a4 := T3.a4
  have b0 := T3.b0
  have b1 := T3.b1
  have b2 := T3.b2
  have b3 := T3.b3
  have b4 := T3.b4
  have d0 := T3.d0
  have d1 := T3.d1
  have d2 := T3.d2
  have d3 := T3.d3
  have d4 := T3.d4
  have hJ := Join_any2 n g (sp 0) (sp 1) w3 n3 g3 (s3 0 (by omega)) (s3 1 (by omega))
  go_wp2_with fail
  refine hJ.mono ?_
  intro e w4 hJP
  obtain ⟨j, rfl, jA, _, jS, _, hb4⟩ := hJP
  have N4 := Bx.new w4 j
  have Bx4 := below_alloc w4 (.cells #[.int .i64 j.k, .int .i64 j.l, .slice j.ao j.len j.cap, .int .i64 j.h, .int .i64 j.e] 28)
  have L4 := (L3.kept hb4).kept Bx4
  have T4 := (T3.kept hb4).kept Bx4
  have B4 := Below.next (Below.next B3 hb4) Bx4
  have n4 := (n3.kept hb4).kept Bx4
  have g4 := (g3.kept hb4).kept Bx4
  have s4 : ∀ k, k < 3 → (sp k).At _ := fun k hk => ((s3 k hk).kept hb4).kept Bx4
  have jA4 := jA.kept Bx4
  have HJ : Hid (BFacts n g (sp 0) (sp 1) true (bokB n g (sp 0) (sp 1)) j) := bnd_facts true (s3 0 (by omega)) jA jS
  clear hJ jS jA L3 T3 B3 n3 g3 s3 hb4 l0 l1 a0 a1 a2 a3 a4 b0 b1 b2 b3 b4 d0 d1 d2 d3 d4 Bx4
  generalize hB5 : w4.alloc (.cells #[.int .i64 j.k, .int .i64 j.l, .slice j.ao j.len j.cap, .int .i64 j.h, .int .i64 j.e] 28) = w5 at *
  have l0 := L4.c0
  have l1 := L4.c1
  have a0 := T4.a0
  have a1 := T4.a1
  have a2 := T4.a2
  have a3 := T4.a3
  have a4 := T4.a4
  have b0 := T4.b0
  have b1 := T4.b1
  have b2 := T4.b2
  have b3 := T4.b3
  have b4 := T4.b4
  have d0 := T4.d0
  have d1 := T4.d1
  have d2 := T4.d2
  have d3 := T4.d3
  have d4 := T4.d4
  have hM := Meet_any2 n g (sp 0) (sp 1) w5 n4 g4 (s4 0 (by omega)) (s4 1 (by omega))
  go_wp2_with fail
  refine hM.mono ?_
  intro e w6 hJP
  clear hB5
  obtain ⟨m, rfl, mA, _, mS, _, hb6⟩ := hJP
  have N6 := Bx.new w6 m
  have Bx6 := below_alloc w6 (.cells #[.int .i64 m.k, .int .i64 m.l, .slice m.ao m.len m.cap, .int .i64 m.h, .int .i64 m.e] 28)
  have HM : Hid (BFacts n g (sp 0) (sp 1) false (bokB n g (sp 0) (sp 1)) m) := bnd_facts false (s4 0 (by omega)) mA mS
  have S0 : LLS w _ n g sp _ _ j m := ⟨Below.next (Below.next B4 hb6) Bx6, (L4.kept hb6).kept Bx6, (T4.kept hb6).kept Bx6, (N4.kept hb6).kept Bx6, N6, (n4.kept hb6).kept Bx6, (g4.kept hb6).kept Bx6, fun k hk => ((s4 k hk).kept hb6).kept Bx6, (jA4.kept hb6).kept Bx6, mA.kept Bx6⟩
  clear hM mS mA L4 T4 B4 n4 g4 s4 hb6 l0 l1 a0 a1 a2 a3 a4 b0 b1 b2 b3 b4 d0 d1 d2 d3 d4 Bx6 N4 N6 jA4
  generalize hB6 : w6.alloc (.cells #[.int .i64 m.k, .int .i64 m.l, .slice m.ao m.len m.cap, .int .i64 m.h, .int .i64 m.e] 28) = x0 at *
  cases hok : bokB n g (sp 0) (sp 1)
  · rw [hok] at HJ HM
    clear hok
    cases v1 : belB n g (sp 0) (sp 2)
    · have HC : Hid True := trivial
      have l0 := S0.l.c0
      have l1 := S0.l.c1
      have a0 := S0.t.a0
      have a1 := S0.t.a1
      have a2 := S0.t.a2
      have a3 := S0.t.a3
      have a4 := S0.t.a4
      have b0 := S0.t.b0
      have b1 := S0.t.b1
      have b2 := S0.t.b2
      have b3 := S0.t.b3
      have b4 := S0.t.b4
      have d0 := S0.t.d0
      have d1 := S0.t.d1
      have d2 := S0.t.d2
      have d3 := S0.t.d3
      have d4 := S0.t.d4
      have j0 := S0.jx.c0
      have m0 := S0.mx.c0
      have j1 := S0.jx.c1
      have m1 := S0.mx.c1
      have j2 := S0.jx.c2
      have m2 := S0.mx.c2
      have j3 := S0.jx.c3
      have m3 := S0.mx.c3
      have j4 := S0.jx.c4
      have m4 := S0.mx.c4
      have hc := S0.bel (sp 0) (sp 2) (S0.hs 0 (by omega)) (S0.hs 2 (by omega)) false v1
      go_wp2_with fail
      refine hc.mono ?_
      rintro e x1 ⟨rfl, S1⟩
      clear hc S0 l0 l1 a0 a1 a2 a3 a4 b0 b1 b2 b3 b4 d0 d1 d2 d3 d4 j0 m0 j1 m1 j2 m2 j3 m3 j4 m4 hB6
      clear v1
      cases c1 : belB n g (sp 2) (sp 0)
      · have HC : Hid True := trivial
        have l0 := S1.l.c0
        have l1 := S1.l.c1
        have a0 := S1.t.a0
        have a1 := S1.t.a1
        have a2 := S1.t.a2
        have a3 := S1.t.a3
        have a4 := S1.t.a4
        have b0 := S1.t.b0
        have b1 := S1.t.b1
        have b2 := S1.t.b2
        have b3 := S1.t.b3
        have b4 := S1.t.b4
        have d0 := S1.t.d0
        have d1 := S1.t.d1
        have d2 := S1.t.d2
        have d3 := S1.t.d3
        have d4 := S1.t.d4
        have j0 := S1.jx.c0
        have m0 := S1.mx.c0
        have j1 := S1.jx.c1
        have m1 := S1.mx.c1
        have j2 := S1.jx.c2
        have m2 := S1.mx.c2
        have j3 := S1.jx.c3
        have m3 := S1.mx.c3
        have j4 := S1.jx.c4
        have m4 := S1.mx.c4
        have hc := S1.bel (sp 2) (sp 0) (S1.hs 2 (by omega)) (S1.hs 0 (by omega)) false c1
        go_wp2_with fail
        refine hc.mono ?_
        rintro e x2 ⟨rfl, S2⟩
        clear hc S1 l0 l1 a0 a1 a2 a3 a4 b0 b1 b2 b3 b4 d0 d1 d2 d3 d4 j0 m0 j1 m1 j2 m2 j3 m3 j4 m4
        clear c1
        go_wp2
        go_ret
        exact ⟨rfl, S2.bl⟩
      · have HC1 : Hid (belB n g (sp 2) (sp 0) = true) := c1
        have l0 := S1.l.c0
        have l1 := S1.l.c1
        have a0 := S1.t.a0
        have a1 := S1.t.a1
        have a2 := S1.t.a2
        have a3 := S1.t.a3
        have a4 := S1.t.a4
        have b0 := S1.t.b0
        have b1 := S1.t.b1
        have b2 := S1.t.b2
        have b3 := S1.t.b3
        have b4 := S1.t.b4
        have d0 := S1.t.d0
        have d1 := S1.t.d1
        have d2 := S1.t.d2
        have d3 := S1.t.d3
        have d4 := S1.t.d4
        have j0 := S1.jx.c0
        have m0 := S1.mx.c0
        have j1 := S1.jx.c1
        have m1 := S1.mx.c1
        have j2 := S1.jx.c2
        have m2 := S1.mx.c2
        have j3 := S1.jx.c3
        have m3 := S1.mx.c3
        have j4 := S1.jx.c4
        have m4 := S1.mx.c4
        have hc := S1.bel (sp 2) (sp 0) (S1.hs 2 (by omega)) (S1.hs 0 (by omega)) true c1
        go_wp2_with fail
        refine hc.mono ?_
        rintro e x3 ⟨rfl, S3⟩
        clear hc S1 l0 l1 a0 a1 a2 a3 a4 b0 b1 b2 b3 b4 d0 d1 d2 d3 d4 j0 m0 j1 m1 j2 m2 j3 m3 j4 m4
        clear c1
        cases c2 : belB n g (sp 2) (sp 1)
        · have HC : Hid True := trivial
          have l0 := S3.l.c0
          have l1 := S3.l.c1
          have a0 := S3.t.a0
          have a1 := S3.t.a1
          have a2 := S3.t.a2
          have a3 := S3.t.a3
          have a4 := S3.t.a4
          have b0 := S3.t.b0
          have b1 := S3.t.b1
          have b2 := S3.t.b2
          have b3 := S3.t.b3
          have b4 := S3.t.b4
          have d0 := S3.t.d0
          have d1 := S3.t.d1
          have d2 := S3.t.d2
          have d3 := S3.t.d3
          have d4 := S3.t.d4
          have j0 := S3.jx.c0
          have m0 := S3.mx.c0
          have j1 := S3.jx.c1
          have m1 := S3.mx.c1
          have j2 := S3.jx.c2
          have m2 := S3.mx.c2
          have j3 := S3.jx.c3
          have m3 := S3.mx.c3
          have j4 := S3.jx.c4
          have m4 := S3.mx.c4
          have hc := S3.bel (sp 2) (sp 1) (S3.hs 2 (by omega)) (S3.hs 1 (by omega)) false c2
          go_wp2_with fail
          refine hc.mono ?_
          rintro e x4 ⟨rfl, S4⟩
          clear hc S3 l0 l1 a0 a1 a2 a3 a4 b0 b1 b2 b3 b4 d0 d1 d2 d3 d4 j0 m0 j1 m1 j2 m2 j3 m3 j4 m4
          clear c2
          go_wp2
          go_ret
          exact ⟨rfl, S4.bl⟩
        · exact absurd (HM.out.least (sp 2) HC1.out c2).1 (by decide)
    · have HB1 : Hid (belB n g (sp 0) (sp 2) = true) := v1
      have l0 := S0.l.c0
      have l1 := S0.l.c1
      have a0 := S0.t.a0
      have a1 := S0.t.a1
      have a2 := S0.t.a2
      have a3 := S0.t.a3
      have a4 := S0.t.a4
      have b0 := S0.t.b0
      have b1 := S0.t.b1
      have b2 := S0.t.b2
      have b3 := S0.t.b3
      have b4 := S0.t.b4
      have d0 := S0.t.d0
      have d1 := S0.t.d1
      have d2 := S0.t.d2
      have d3 := S0.t.d3
      have d4 := S0.t.d4
      have j0 := S0.jx.c0
      have m0 := S0.mx.c0
      have j1 := S0.jx.c1
      have m1 := S0.mx.c1
      have j2 := S0.jx.c2
      have m2 := S0.mx.c2
      have j3 := S0.jx.c3
      have m3 := S0.mx.c3
      have j4 := S0.jx.c4
      have m4 := S0.mx.c4
      have hc := S0.bel (sp 0) (sp 2) (S0.hs 0 (by omega)) (S0.hs 2 (by omega)) true v1
      go_wp2_with fail
      refine hc.mono ?_
      rintro e x5 ⟨rfl, S5⟩
      clear hc S0 l0 l1 a0 a1 a2 a3 a4 b0 b1 b2 b3 b4 d0 d1 d2 d3 d4 j0 m0 j1 m1 j2 m2 j3 m3 j4 m4 hB6
      clear v1
      cases v2 : belB n g (sp 1) (sp 2)
      · have HC : Hid True := trivial
        have l0 := S5.l.c0
        have l1 := S5.l.c1
        have a0 := S5.t.a0
        have a1 := S5.t.a1
        have a2 := S5.t.a2
        have a3 := S5.t.a3
        have a4 := S5.t.a4
        have b0 := S5.t.b0
        have b1 := S5.t.b1
        have b2 := S5.t.b2
        have b3 := S5.t.b3
        have b4 := S5.t.b4
        have d0 := S5.t.d0
        have d1 := S5.t.d1
        have d2 := S5.t.d2
        have d3 := S5.t.d3
        have d4 := S5.t.d4
        have j0 := S5.jx.c0
        have m0 := S5.mx.c0
        have j1 := S5.jx.c1
        have m1 := S5.mx.c1
        have j2 := S5.jx.c2
        have m2 := S5.mx.c2
        have j3 := S5.jx.c3
        have m3 := S5.mx.c3
        have j4 := S5.jx.c4
        have m4 := S5.mx.c4
        have hc := S5.bel (sp 1) (sp 2) (S5.hs 1 (by omega)) (S5.hs 2 (by omega)) false v2
        go_wp2_with fail
        refine hc.mono ?_
        rintro e x6 ⟨rfl, S6⟩
        clear hc S5 l0 l1 a0 a1 a2 a3 a4 b0 b1 b2 b3 b4 d0 d1 d2 d3 d4 j0 m0 j1 m1 j2 m2 j3 m3 j4 m4
        clear v2
        cases c1 : belB n g (sp 2) (sp 0)
        · have HC : Hid True := trivial
          have l0 := S6.l.c0
          have l1 := S6.l.c1
          have a0 := S6.t.a0
          have a1 := S6.t.a1
          have a2 := S6.t.a2
          have a3 := S6.t.a3
          have a4 := S6.t.a4
          have b0 := S6.t.b0
          have b1 := S6.t.b1
          have b2 := S6.t.b2
          have b3 := S6.t.b3
          have b4 := S6.t.b4
          have d0 := S6.t.d0
          have d1 := S6.t.d1
          have d2 := S6.t.d2
          have d3 := S6.t.d3
          have d4 := S6.t.d4
          have j0 := S6.jx.c0
          have m0 := S6.mx.c0
          have j1 := S6.jx.c1
          have m1 := S6.mx.c1
          have j2 := S6.jx.c2
          have m2 := S6.mx.c2
          have j3 := S6.jx.c3
          have m3 := S6.mx.c3
          have j4 := S6.jx.c4
          have m4 := S6.mx.c4
          have hc := S6.bel (sp 2) (sp 0) (S6.hs 2 (by omega)) (S6.hs 0 (by omega)) false c1
          go_wp2_with fail
          refine hc.mono ?_
          rintro e x7 ⟨rfl, S7⟩
          clear hc S6 l0 l1 a0 a1 a2 a3 a4 b0 b1 b2 b3 b4 d0 d1 d2 d3 d4 j0 m0 j1 m1 j2 m2 j3 m3 j4 m4
          clear c1
          go_wp2
          go_ret
          exact ⟨rfl, S7.bl⟩
        · have HC1 : Hid (belB n g (sp 2) (sp 0) = true) := c1
          have l0 := S6.l.c0
          have l1 := S6.l.c1
          have a0 := S6.t.a0
          have a1 := S6.t.a1
          have a2 := S6.t.a2
          have a3 := S6.t.a3
          have a4 := S6.t.a4
          have b0 := S6.t.b0
          have b1 := S6.t.b1
          have b2 := S6.t.b2
          have b3 := S6.t.b3
          have b4 := S6.t.b4
          have d0 := S6.t.d0
          have d1 := S6.t.d1
          have d2 := S6.t.d2
          have d3 := S6.t.d3
          have d4 := S6.t.d4
          have j0 := S6.jx.c0
          have m0 := S6.mx.c0
          have j1 := S6.jx.c1
          have m1 := S6.mx.c1
          have j2 := S6.jx.c2
          have m2 := S6.mx.c2
          have j3 := S6.jx.c3
          have m3 := S6.mx.c3
          have j4 := S6.jx.c4
          have m4 := S6.mx.c4
          have hc := S6.bel (sp 2) (sp 0) (S6.hs 2 (by omega)) (S6.hs 0 (by omega)) true c1
          go_wp2_with fail
          refine hc.mono ?_
          rintro e x8 ⟨rfl, S8⟩
          clear hc S6 l0 l1 a0 a1 a2 a3 a4 b0 b1 b2 b3 b4 d0 d1 d2 d3 d4 j0 m0 j1 m1 j2 m2 j3 m3 j4 m4
          clear c1
          cases c2 : belB n g (sp 2) (sp 1)
          · have HC : Hid True := trivial
            have l0 := S8.l.c0
            have l1 := S8.l.c1
            have a0 := S8.t.a0
            have a1 := S8.t.a1
            have a2 := S8.t.a2
            have a3 := S8.t.a3
            have a4 := S8.t.a4
            have b0 := S8.t.b0
            have b1 := S8.t.b1
            have b2 := S8.t.b2
            have b3 := S8.t.b3
            have b4 := S8.t.b4
            have d0 := S8.t.d0
            have d1 := S8.t.d1
            have d2 := S8.t.d2
            have d3 := S8.t.d3
            have d4 := S8.t.d4
            have j0 := S8.jx.c0
            have m0 := S8.mx.c0
            have j1 := S8.jx.c1
            have m1 := S8.mx.c1
            have j2 := S8.jx.c2
            have m2 := S8.mx.c2
            have j3 := S8.jx.c3
            have m3 := S8.mx.c3
            have j4 := S8.jx.c4
            have m4 := S8.mx.c4
            have hc := S8.bel (sp 2) (sp 1) (S8.hs 2 (by omega)) (S8.hs 1 (by omega)) false c2
            go_wp2_with fail
            refine hc.mono ?_
            rintro e x9 ⟨rfl, S9⟩
            clear hc S8 l0 l1 a0 a1 a2 a3 a4 b0 b1 b2 b3 b4 d0 d1 d2 d3 d4 j0 m0 j1 m1 j2 m2 j3 m3 j4 m4
            clear c2
            go_wp2
            go_ret
            exact ⟨rfl, S9.bl⟩
          · exact absurd (HM.out.least (sp 2) HC1.out c2).1 (by decide)
      · exact absurd (HJ.out.least (sp 2) HB1.out v2).1 (by decide)
  · rw [hok] at HJ HM
    clear hok
    have l0 := S0.l.c0
    have l1 := S0.l.c1
    have a0 := S0.t.a0
    have a1 := S0.t.a1
    have a2 := S0.t.a2
    have a3 := S0.t.a3
    have a4 := S0.t.a4
    have b0 := S0.t.b0
    have b1 := S0.t.b1
    have b2 := S0.t.b2
    have b3 := S0.t.b3
    have b4 := S0.t.b4
    have d0 := S0.t.d0
    have d1 := S0.t.d1
    have d2 := S0.t.d2
    have d3 := S0.t.d3
    have d4 := S0.t.d4
    have j0 := S0.jx.c0
    have m0 := S0.mx.c0
    have j1 := S0.jx.c1
    have m1 := S0.mx.c1
    have j2 := S0.jx.c2
    have m2 := S0.mx.c2
    have j3 := S0.jx.c3
    have m3 := S0.mx.c3
    have j4 := S0.jx.c4
    have m4 := S0.mx.c4
    have hc := S0.bel (sp 0) j (S0.hs 0 (by omega)) S0.hj true (HJ.out.yes rfl).1
    go_wp2_with fail
    refine hc.mono ?_
    rintro e x10 ⟨rfl, S10⟩
    clear hc S0 l0 l1 a0 a1 a2 a3 a4 b0 b1 b2 b3 b4 d0 d1 d2 d3 d4 j0 m0 j1 m1 j2 m2 j3 m3 j4 m4 hB6
    have l0 := S10.l.c0
    have l1 := S10.l.c1
    have a0 := S10.t.a0
    have a1 := S10.t.a1
    have a2 := S10.t.a2
    have a3 := S10.t.a3
    have a4 := S10.t.a4
    have b0 := S10.t.b0
    have b1 := S10.t.b1
    have b2 := S10.t.b2
    have b3 := S10.t.b3
    have b4 := S10.t.b4
    have d0 := S10.t.d0
    have d1 := S10.t.d1
    have d2 := S10.t.d2
    have d3 := S10.t.d3
    have d4 := S10.t.d4
    have j0 := S10.jx.c0
    have m0 := S10.mx.c0
    have j1 := S10.jx.c1
    have m1 := S10.mx.c1
    have j2 := S10.jx.c2
    have m2 := S10.mx.c2
    have j3 := S10.jx.c3
    have m3 := S10.mx.c3
    have j4 := S10.jx.c4
    have m4 := S10.mx.c4
    have hc := S10.bel (sp 1) j (S10.hs 1 (by omega)) S10.hj true (HJ.out.yes rfl).2
    go_wp2_with fail
    refine hc.mono ?_
    rintro e x11 ⟨rfl, S11⟩
    clear hc S10 l0 l1 a0 a1 a2 a3 a4 b0 b1 b2 b3 b4 d0 d1 d2 d3 d4 j0 m0 j1 m1 j2 m2 j3 m3 j4 m4
    have l0 := S11.l.c0
    have l1 := S11.l.c1
    have a0 := S11.t.a0
    have a1 := S11.t.a1
    have a2 := S11.t.a2
    have a3 := S11.t.a3
    have a4 := S11.t.a4
    have b0 := S11.t.b0
    have b1 := S11.t.b1
    have b2 := S11.t.b2
    have b3 := S11.t.b3
    have b4 := S11.t.b4
    have d0 := S11.t.d0
    have d1 := S11.t.d1
    have d2 := S11.t.d2
    have d3 := S11.t.d3
    have d4 := S11.t.d4
    have j0 := S11.jx.c0
    have m0 := S11.mx.c0
    have j1 := S11.jx.c1
    have m1 := S11.mx.c1
    have j2 := S11.jx.c2
    have m2 := S11.mx.c2
    have j3 := S11.jx.c3
    have m3 := S11.mx.c3
    have j4 := S11.jx.c4
    have m4 := S11.mx.c4
    have hc := S11.bel m (sp 0) S11.hm (S11.hs 0 (by omega)) true (HM.out.yes rfl).1
    go_wp2_with fail
    refine hc.mono ?_
    rintro e x12 ⟨rfl, S12⟩
    clear hc S11 l0 l1 a0 a1 a2 a3 a4 b0 b1 b2 b3 b4 d0 d1 d2 d3 d4 j0 m0 j1 m1 j2 m2 j3 m3 j4 m4
    have l0 := S12.l.c0
    have l1 := S12.l.c1
    have a0 := S12.t.a0
    have a1 := S12.t.a1
    have a2 := S12.t.a2
    have a3 := S12.t.a3
    have a4 := S12.t.a4
    have b0 := S12.t.b0
    have b1 := S12.t.b1
    have b2 := S12.t.b2
    have b3 := S12.t.b3
    have b4 := S12.t.b4
    have d0 := S12.t.d0
    have d1 := S12.t.d1
    have d2 := S12.t.d2
    have d3 := S12.t.d3
    have d4 := S12.t.d4
    have j0 := S12.jx.c0
    have m0 := S12.mx.c0
    have j1 := S12.jx.c1
    have m1 := S12.mx.c1
    have j2 := S12.jx.c2
    have m2 := S12.mx.c2
    have j3 := S12.jx.c3
    have m3 := S12.mx.c3
    have j4 := S12.jx.c4
    have m4 := S12.mx.c4
    have hc := S12.bel m (sp 1) S12.hm (S12.hs 1 (by omega)) true (HM.out.yes rfl).2
    go_wp2_with fail
    refine hc.mono ?_
    rintro e x13 ⟨rfl, S13⟩
    clear hc S12 l0 l1 a0 a1 a2 a3 a4 b0 b1 b2 b3 b4 d0 d1 d2 d3 d4 j0 m0 j1 m1 j2 m2 j3 m3 j4 m4
    cases v1 : belB n g (sp 0) (sp 2)
    · have HC : Hid True := trivial
      have l0 := S13.l.c0
      have l1 := S13.l.c1
      have a0 := S13.t.a0
      have a1 := S13.t.a1
      have a2 := S13.t.a2
      have a3 := S13.t.a3
      have a4 := S13.t.a4
      have b0 := S13.t.b0
      have b1 := S13.t.b1
      have b2 := S13.t.b2
      have b3 := S13.t.b3
      have b4 := S13.t.b4
      have d0 := S13.t.d0
      have d1 := S13.t.d1
      have d2 := S13.t.d2
      have d3 := S13.t.d3
      have d4 := S13.t.d4
      have j0 := S13.jx.c0
      have m0 := S13.mx.c0
      have j1 := S13.jx.c1
      have m1 := S13.mx.c1
      have j2 := S13.jx.c2
      have m2 := S13.mx.c2
      have j3 := S13.jx.c3
      have m3 := S13.mx.c3
      have j4 := S13.jx.c4
      have m4 := S13.mx.c4
      have hc := S13.bel (sp 0) (sp 2) (S13.hs 0 (by omega)) (S13.hs 2 (by omega)) false v1
      go_wp2_with fail
      refine hc.mono ?_
      rintro e x14 ⟨rfl, S14⟩
      clear hc S13 l0 l1 a0 a1 a2 a3 a4 b0 b1 b2 b3 b4 d0 d1 d2 d3 d4 j0 m0 j1 m1 j2 m2 j3 m3 j4 m4
      clear v1
      cases c1 : belB n g (sp 2) (sp 0)
      · have HC : Hid True := trivial
        have l0 := S14.l.c0
        have l1 := S14.l.c1
        have a0 := S14.t.a0
        have a1 := S14.t.a1
        have a2 := S14.t.a2
        have a3 := S14.t.a3
        have a4 := S14.t.a4
        have b0 := S14.t.b0
        have b1 := S14.t.b1
        have b2 := S14.t.b2
        have b3 := S14.t.b3
        have b4 := S14.t.b4
        have d0 := S14.t.d0
        have d1 := S14.t.d1
        have d2 := S14.t.d2
        have d3 := S14.t.d3
        have d4 := S14.t.d4
        have j0 := S14.jx.c0
        have m0 := S14.mx.c0
        have j1 := S14.jx.c1
        have m1 := S14.mx.c1
        have j2 := S14.jx.c2
        have m2 := S14.mx.c2
        have j3 := S14.jx.c3
        have m3 := S14.mx.c3
        have j4 := S14.jx.c4
        have m4 := S14.mx.c4
        have hc := S14.bel (sp 2) (sp 0) (S14.hs 2 (by omega)) (S14.hs 0 (by omega)) false c1
        go_wp2_with fail
        refine hc.mono ?_
        rintro e x15 ⟨rfl, S15⟩
        clear hc S14 l0 l1 a0 a1 a2 a3 a4 b0 b1 b2 b3 b4 d0 d1 d2 d3 d4 j0 m0 j1 m1 j2 m2 j3 m3 j4 m4
        clear c1
        go_wp2
        go_ret
        exact ⟨rfl, S15.bl⟩
      · have HC1 : Hid (belB n g (sp 2) (sp 0) = true) := c1
        have l0 := S14.l.c0
        have l1 := S14.l.c1
        have a0 := S14.t.a0
        have a1 := S14.t.a1
        have a2 := S14.t.a2
        have a3 := S14.t.a3
        have a4 := S14.t.a4
        have b0 := S14.t.b0
        have b1 := S14.t.b1
        have b2 := S14.t.b2
        have b3 := S14.t.b3
        have b4 := S14.t.b4
        have d0 := S14.t.d0
        have d1 := S14.t.d1
        have d2 := S14.t.d2
        have d3 := S14.t.d3
        have d4 := S14.t.d4
        have j0 := S14.jx.c0
        have m0 := S14.mx.c0
        have j1 := S14.jx.c1
        have m1 := S14.mx.c1
        have j2 := S14.jx.c2
        have m2 := S14.mx.c2
        have j3 := S14.jx.c3
        have m3 := S14.mx.c3
        have j4 := S14.jx.c4
        have m4 := S14.mx.c4
        have hc := S14.bel (sp 2) (sp 0) (S14.hs 2 (by omega)) (S14.hs 0 (by omega)) true c1
        go_wp2_with fail
        refine hc.mono ?_
        rintro e x16 ⟨rfl, S16⟩
        clear hc S14 l0 l1 a0 a1 a2 a3 a4 b0 b1 b2 b3 b4 d0 d1 d2 d3 d4 j0 m0 j1 m1 j2 m2 j3 m3 j4 m4
        clear c1
        cases c2 : belB n g (sp 2) (sp 1)
        · have HC : Hid True := trivial
          have l0 := S16.l.c0
          have l1 := S16.l.c1
          have a0 := S16.t.a0
          have a1 := S16.t.a1
          have a2 := S16.t.a2
          have a3 := S16.t.a3
          have a4 := S16.t.a4
          have b0 := S16.t.b0
          have b1 := S16.t.b1
          have b2 := S16.t.b2
          have b3 := S16.t.b3
          have b4 := S16.t.b4
          have d0 := S16.t.d0
          have d1 := S16.t.d1
          have d2 := S16.t.d2
          have d3 := S16.t.d3
          have d4 := S16.t.d4
          have j0 := S16.jx.c0
          have m0 := S16.mx.c0
          have j1 := S16.jx.c1
          have m1 := S16.mx.c1
          have j2 := S16.jx.c2
          have m2 := S16.mx.c2
          have j3 := S16.jx.c3
          have m3 := S16.mx.c3
          have j4 := S16.jx.c4
          have m4 := S16.mx.c4
          have hc := S16.bel (sp 2) (sp 1) (S16.hs 2 (by omega)) (S16.hs 1 (by omega)) false c2
          go_wp2_with fail
          refine hc.mono ?_
          rintro e x17 ⟨rfl, S17⟩
          clear hc S16 l0 l1 a0 a1 a2 a3 a4 b0 b1 b2 b3 b4 d0 d1 d2 d3 d4 j0 m0 j1 m1 j2 m2 j3 m3 j4 m4
          clear c2
          go_wp2
          go_ret
          exact ⟨rfl, S17.bl⟩
        · have HC3 : Hid (belB n g (sp 2) m = true) := (HM.out.least (sp 2) HC1.out c2).2
          have l0 := S16.l.c0
          have l1 := S16.l.c1
          have a0 := S16.t.a0
          have a1 := S16.t.a1
          have a2 := S16.t.a2
          have a3 := S16.t.a3
          have a4 := S16.t.a4
          have b0 := S16.t.b0
          have b1 := S16.t.b1
          have b2 := S16.t.b2
          have b3 := S16.t.b3
          have b4 := S16.t.b4
          have d0 := S16.t.d0
          have d1 := S16.t.d1
          have d2 := S16.t.d2
          have d3 := S16.t.d3
          have d4 := S16.t.d4
          have j0 := S16.jx.c0
          have m0 := S16.mx.c0
          have j1 := S16.jx.c1
          have m1 := S16.mx.c1
          have j2 := S16.jx.c2
          have m2 := S16.mx.c2
          have j3 := S16.jx.c3
          have m3 := S16.mx.c3
          have j4 := S16.jx.c4
          have m4 := S16.mx.c4
          have hc := S16.bel (sp 2) (sp 1) (S16.hs 2 (by omega)) (S16.hs 1 (by omega)) true c2
          go_wp2_with fail
          refine hc.mono ?_
          rintro e x18 ⟨rfl, S18⟩
          clear hc S16 l0 l1 a0 a1 a2 a3 a4 b0 b1 b2 b3 b4 d0 d1 d2 d3 d4 j0 m0 j1 m1 j2 m2 j3 m3 j4 m4
          clear c2
          have l0 := S18.l.c0
          have l1 := S18.l.c1
          have a0 := S18.t.a0
          have a1 := S18.t.a1
          have a2 := S18.t.a2
          have a3 := S18.t.a3
          have a4 := S18.t.a4
          have b0 := S18.t.b0
          have b1 := S18.t.b1
          have b2 := S18.t.b2
          have b3 := S18.t.b3
          have b4 := S18.t.b4
          have d0 := S18.t.d0
          have d1 := S18.t.d1
          have d2 := S18.t.d2
          have d3 := S18.t.d3
          have d4 := S18.t.d4
          have j0 := S18.jx.c0
          have m0 := S18.mx.c0
          have j1 := S18.jx.c1
          have m1 := S18.mx.c1
          have j2 := S18.jx.c2
          have m2 := S18.mx.c2
          have j3 := S18.jx.c3
          have m3 := S18.mx.c3
          have j4 := S18.jx.c4
          have m4 := S18.mx.c4
          have hc := S18.bel (sp 2) m (S18.hs 2 (by omega)) S18.hm true HC3.out
          go_wp2_with fail
          refine hc.mono ?_
          rintro e x19 ⟨rfl, S19⟩
          clear hc S18 l0 l1 a0 a1 a2 a3 a4 b0 b1 b2 b3 b4 d0 d1 d2 d3 d4 j0 m0 j1 m1 j2 m2 j3 m3 j4 m4
          go_wp2
          go_ret
          exact ⟨rfl, S19.bl⟩
    · have HB1 : Hid (belB n g (sp 0) (sp 2) = true) := v1
      have l0 := S13.l.c0
      have l1 := S13.l.c1
      have a0 := S13.t.a0
      have a1 := S13.t.a1
      have a2 := S13.t.a2
      have a3 := S13.t.a3
      have a4 := S13.t.a4
      have b0 := S13.t.b0
      have b1 := S13.t.b1
      have b2 := S13.t.b2
      have b3 := S13.t.b3
      have b4 := S13.t.b4
      have d0 := S13.t.d0
      have d1 := S13.t.d1
      have d2 := S13.t.d2
      have d3 := S13.t.d3
      have d4 := S13.t.d4
      have j0 := S13.jx.c0
      have m0 := S13.mx.c0
      have j1 := S13.jx.c1
      have m1 := S13.mx.c1
      have j2 := S13.jx.c2
      have m2 := S13.mx.c2
      have j3 := S13.jx.c3
      have m3 := S13.mx.c3
      have j4 := S13.jx.c4
      have m4 := S13.mx.c4
      have hc := S13.bel (sp 0) (sp 2) (S13.hs 0 (by omega)) (S13.hs 2 (by omega)) true v1
      go_wp2_with fail
      refine hc.mono ?_
      rintro e x20 ⟨rfl, S20⟩
      clear hc S13 l0 l1 a0 a1 a2 a3 a4 b0 b1 b2 b3 b4 d0 d1 d2 d3 d4 j0 m0 j1 m1 j2 m2 j3 m3 j4 m4
      clear v1
      cases v2 : belB n g (sp 1) (sp 2)
      · have HC : Hid True := trivial
        have l0 := S20.l.c0
        have l1 := S20.l.c1
        have a0 := S20.t.a0
        have a1 := S20.t.a1
        have a2 := S20.t.a2
        have a3 := S20.t.a3
        have a4 := S20.t.a4
        have b0 := S20.t.b0
        have b1 := S20.t.b1
        have b2 := S20.t.b2
        have b3 := S20.t.b3
        have b4 := S20.t.b4
        have d0 := S20.t.d0
        have d1 := S20.t.d1
        have d2 := S20.t.d2
        have d3 := S20.t.d3
        have d4 := S20.t.d4
        have j0 := S20.jx.c0
        have m0 := S20.mx.c0
        have j1 := S20.jx.c1
        have m1 := S20.mx.c1
        have j2 := S20.jx.c2
        have m2 := S20.mx.c2
        have j3 := S20.jx.c3
        have m3 := S20.mx.c3
        have j4 := S20.jx.c4
        have m4 := S20.mx.c4
        have hc := S20.bel (sp 1) (sp 2) (S20.hs 1 (by omega)) (S20.hs 2 (by omega)) false v2
        go_wp2_with fail
        refine hc.mono ?_
        rintro e x21 ⟨rfl, S21⟩
        clear hc S20 l0 l1 a0 a1 a2 a3 a4 b0 b1 b2 b3 b4 d0 d1 d2 d3 d4 j0 m0 j1 m1 j2 m2 j3 m3 j4 m4
        clear v2
        cases c1 : belB n g (sp 2) (sp 0)
        · have HC : Hid True := trivial
          have l0 := S21.l.c0
          have l1 := S21.l.c1
          have a0 := S21.t.a0
          have a1 := S21.t.a1
          have a2 := S21.t.a2
          have a3 := S21.t.a3
          have a4 := S21.t.a4
          have b0 := S21.t.b0
          have b1 := S21.t.b1
          have b2 := S21.t.b2
          have b3 := S21.t.b3
          have b4 := S21.t.b4
          have d0 := S21.t.d0
          have d1 := S21.t.d1
          have d2 := S21.t.d2
          have d3 := S21.t.d3
          have d4 := S21.t.d4
          have j0 := S21.jx.c0
          have m0 := S21.mx.c0
          have j1 := S21.jx.c1
          have m1 := S21.mx.c1
          have j2 := S21.jx.c2
          have m2 := S21.mx.c2
          have j3 := S21.jx.c3
          have m3 := S21.mx.c3
          have j4 := S21.jx.c4
          have m4 := S21.mx.c4
          have hc := S21.bel (sp 2) (sp 0) (S21.hs 2 (by omega)) (S21.hs 0 (by omega)) false c1
          go_wp2_with fail
          refine hc.mono ?_
          rintro e x22 ⟨rfl, S22⟩
          clear hc S21 l0 l1 a0 a1 a2 a3 a4 b0 b1 b2 b3 b4 d0 d1 d2 d3 d4 j0 m0 j1 m1 j2 m2 j3 m3 j4 m4
          clear c1
          go_wp2
          go_ret
          exact ⟨rfl, S22.bl⟩
        · have HC1 : Hid (belB n g (sp 2) (sp 0) = true) := c1
          have l0 := S21.l.c0
          have l1 := S21.l.c1
          have a0 := S21.t.a0
          have a1 := S21.t.a1
          have a2 := S21.t.a2
          have a3 := S21.t.a3
          have a4 := S21.t.a4
          have b0 := S21.t.b0
          have b1 := S21.t.b1
          have b2 := S21.t.b2
          have b3 := S21.t.b3
          have b4 := S21.t.b4
          have d0 := S21.t.d0
          have d1 := S21.t.d1
          have d2 := S21.t.d2
          have d3 := S21.t.d3
          have d4 := S21.t.d4
          have j0 := S21.jx.c0
          have m0 := S21.mx.c0
          have j1 := S21.jx.c1
          have m1 := S21.mx.c1
          have j2 := S21.jx.c2
          have m2 := S21.mx.c2
          have j3 := S21.jx.c3
          have m3 := S21.mx.c3
          have j4 := S21.jx.c4
          have m4 := S21.mx.c4
          have hc := S21.bel (sp 2) (sp 0) (S21.hs 2 (by omega)) (S21.hs 0 (by omega)) true c1
          go_wp2_with fail
          refine hc.mono ?_
          rintro e x23 ⟨rfl, S23⟩
          clear hc S21 l0 l1 a0 a1 a2 a3 a4 b0 b1 b2 b3 b4 d0 d1 d2 d3 d4 j0 m0 j1 m1 j2 m2 j3 m3 j4 m4
          clear c1
          cases c2 : belB n g (sp 2) (sp 1)
          · have HC : Hid True := trivial
            have l0 := S23.l.c0
            have l1 := S23.l.c1
            have a0 := S23.t.a0
            have a1 := S23.t.a1
            have a2 := S23.t.a2
            have a3 := S23.t.a3
            have a4 := S23.t.a4
            have b0 := S23.t.b0
            have b1 := S23.t.b1
            have b2 := S23.t.b2
            have b3 := S23.t.b3
            have b4 := S23.t.b4
            have d0 := S23.t.d0
            have d1 := S23.t.d1
            have d2 := S23.t.d2
            have d3 := S23.t.d3
            have d4 := S23.t.d4
            have j0 := S23.jx.c0
            have m0 := S23.mx.c0
            have j1 := S23.jx.c1
            have m1 := S23.mx.c1
            have j2 := S23.jx.c2
            have m2 := S23.mx.c2
            have j3 := S23.jx.c3
            have m3 := S23.mx.c3
            have j4 := S23.jx.c4
            have m4 := S23.mx.c4
            have hc := S23.bel (sp 2) (sp 1) (S23.hs 2 (by omega)) (S23.hs 1 (by omega)) false c2
            go_wp2_with fail
            refine hc.mono ?_
            rintro e x24 ⟨rfl, S24⟩
            clear hc S23 l0 l1 a0 a1 a2 a3 a4 b0 b1 b2 b3 b4 d0 d1 d2 d3 d4 j0 m0 j1 m1 j2 m2 j3 m3 j4 m4
            clear c2
            go_wp2
            go_ret
            exact ⟨rfl, S24.bl⟩
          · have HC3 : Hid (belB n g (sp 2) m = true) := (HM.out.least (sp 2) HC1.out c2).2
            have l0 := S23.l.c0
            have l1 := S23.l.c1
            have a0 := S23.t.a0
            have a1 := S23.t.a1
            have a2 := S23.t.a2
            have a3 := S23.t.a3
            have a4 := S23.t.a4
            have b0 := S23.t.b0
            have b1 := S23.t.b1
            have b2 := S23.t.b2
            have b3 := S23.t.b3
            have b4 := S23.t.b4
            have d0 := S23.t.d0
            have d1 := S23.t.d1
            have d2 := S23.t.d2
            have d3 := S23.t.d3
            have d4 := S23.t.d4
            have j0 := S23.jx.c0
            have m0 := S23.mx.c0
            have j1 := S23.jx.c1
            have m1 := S23.mx.c1
            have j2 := S23.jx.c2
            have m2 := S23.mx.c2
            have j3 := S23.jx.c3
            have m3 := S23.mx.c3
            have j4 := S23.jx.c4
            have m4 := S23.mx.c4
            have hc := S23.bel (sp 2) (sp 1) (S23.hs 2 (by omega)) (S23.hs 1 (by omega)) true c2
            go_wp2_with fail
            refine hc.mono ?_
            rintro e x25 ⟨rfl, S25⟩
            clear hc S23 l0 l1 a0 a1 a2 a3 a4 b0 b1 b2 b3 b4 d0 d1 d2 d3 d4 j0 m0 j1 m1 j2 m2 j3 m3 j4 m4
            clear c2
            have l0 := S25.l.c0
            have l1 := S25.l.c1
            have a0 := S25.t.a0
            have a1 := S25.t.a1
            have a2 := S25.t.a2
            have a3 := S25.t.a3
            have a4 := S25.t.a4
            have b0 := S25.t.b0
            have b1 := S25.t.b1
            have b2 := S25.t.b2
            have b3 := S25.t.b3
            have b4 := S25.t.b4
            have d0 := S25.t.d0
            have d1 := S25.t.d1
            have d2 := S25.t.d2
            have d3 := S25.t.d3
            have d4 := S25.t.d4
            have j0 := S25.jx.c0
            have m0 := S25.mx.c0
            have j1 := S25.jx.c1
            have m1 := S25.mx.c1
            have j2 := S25.jx.c2
            have m2 := S25.mx.c2
            have j3 := S25.jx.c3
            have m3 := S25.mx.c3
            have j4 := S25.jx.c4
            have m4 := S25.mx.c4
            have hc := S25.bel (sp 2) m (S25.hs 2 (by omega)) S25.hm true HC3.out
            go_wp2_with fail
            refine hc.mono ?_
            rintro e x26 ⟨rfl, S26⟩
            clear hc S25 l0 l1 a0 a1 a2 a3 a4 b0 b1 b2 b3 b4 d0 d1 d2 d3 d4 j0 m0 j1 m1 j2 m2 j3 m3 j4 m4
            go_wp2
            go_ret
            exact ⟨rfl, S26.bl⟩
      · have HB3 : Hid (belB n g j (sp 2) = true) := (HJ.out.least (sp 2) HB1.out v2).2
        have l0 := S20.l.c0
        have l1 := S20.l.c1
        have a0 := S20.t.a0
        have a1 := S20.t.a1
        have a2 := S20.t.a2
        have a3 := S20.t.a3
        have a4 := S20.t.a4
        have b0 := S20.t.b0
        have b1 := S20.t.b1
        have b2 := S20.t.b2
        have b3 := S20.t.b3
        have b4 := S20.t.b4
        have d0 := S20.t.d0
        have d1 := S20.t.d1
        have d2 := S20.t.d2
        have d3 := S20.t.d3
        have d4 := S20.t.d4
        have j0 := S20.jx.c0
        have m0 := S20.mx.c0
        have j1 := S20.jx.c1
        have m1 := S20.mx.c1
        have j2 := S20.jx.c2
        have m2 := S20.mx.c2
        have j3 := S20.jx.c3
        have m3 := S20.mx.c3
        have j4 := S20.jx.c4
        have m4 := S20.mx.c4
        have hc := S20.bel (sp 1) (sp 2) (S20.hs 1 (by omega)) (S20.hs 2 (by omega)) true v2
        go_wp2_with fail
        refine hc.mono ?_
        rintro e x27 ⟨rfl, S27⟩
        clear hc S20 l0 l1 a0 a1 a2 a3 a4 b0 b1 b2 b3 b4 d0 d1 d2 d3 d4 j0 m0 j1 m1 j2 m2 j3 m3 j4 m4
        clear v2
        have l0 := S27.l.c0
        have l1 := S27.l.c1
        have a0 := S27.t.a0
        have a1 := S27.t.a1
        have a2 := S27.t.a2
        have a3 := S27.t.a3
        have a4 := S27.t.a4
        have b0 := S27.t.b0
        have b1 := S27.t.b1
        have b2 := S27.t.b2
        have b3 := S27.t.b3
        have b4 := S27.t.b4
        have d0 := S27.t.d0
        have d1 := S27.t.d1
        have d2 := S27.t.d2
        have d3 := S27.t.d3
        have d4 := S27.t.d4
        have j0 := S27.jx.c0
        have m0 := S27.mx.c0
        have j1 := S27.jx.c1
        have m1 := S27.mx.c1
        have j2 := S27.jx.c2
        have m2 := S27.mx.c2
        have j3 := S27.jx.c3
        have m3 := S27.mx.c3
        have j4 := S27.jx.c4
        have m4 := S27.mx.c4
        have hc := S27.bel j (sp 2) S27.hj (S27.hs 2 (by omega)) true HB3.out
        go_wp2_with fail
        refine hc.mono ?_
        rintro e x28 ⟨rfl, S28⟩
        clear hc S27 l0 l1 a0 a1 a2 a3 a4 b0 b1 b2 b3 b4 d0 d1 d2 d3 d4 j0 m0 j1 m1 j2 m2 j3 m3 j4 m4
        cases c1 : belB n g (sp 2) (sp 0)
        · have HC : Hid True := trivial
          have l0 := S28.l.c0
          have l1 := S28.l.c1
          have a0 := S28.t.a0
          have a1 := S28.t.a1
          have a2 := S28.t.a2
          have a3 := S28.t.a3
          have a4 := S28.t.a4
          have b0 := S28.t.b0
          have b1 := S28.t.b1
          have b2 := S28.t.b2
          have b3 := S28.t.b3
          have b4 := S28.t.b4
          have d0 := S28.t.d0
          have d1 := S28.t.d1
          have d2 := S28.t.d2
          have d3 := S28.t.d3
          have d4 := S28.t.d4
          have j0 := S28.jx.c0
          have m0 := S28.mx.c0
          have j1 := S28.jx.c1
          have m1 := S28.mx.c1
          have j2 := S28.jx.c2
          have m2 := S28.mx.c2
          have j3 := S28.jx.c3
          have m3 := S28.mx.c3
          have j4 := S28.jx.c4
          have m4 := S28.mx.c4
          have hc := S28.bel (sp 2) (sp 0) (S28.hs 2 (by omega)) (S28.hs 0 (by omega)) false c1
          go_wp2_with fail
          refine hc.mono ?_
          rintro e x29 ⟨rfl, S29⟩
          clear hc S28 l0 l1 a0 a1 a2 a3 a4 b0 b1 b2 b3 b4 d0 d1 d2 d3 d4 j0 m0 j1 m1 j2 m2 j3 m3 j4 m4
          clear c1
          go_wp2
          go_ret
          exact ⟨rfl, S29.bl⟩
        · have HC1 : Hid (belB n g (sp 2) (sp 0) = true) := c1
          have l0 := S28.l.c0
          have l1 := S28.l.c1
          have a0 := S28.t.a0
          have a1 := S28.t.a1
          have a2 := S28.t.a2
          have a3 := S28.t.a3
          have a4 := S28.t.a4
          have b0 := S28.t.b0
          have b1 := S28.t.b1
          have b2 := S28.t.b2
          have b3 := S28.t.b3
          have b4 := S28.t.b4
          have d0 := S28.t.d0
          have d1 := S28.t.d1
          have d2 := S28.t.d2
          have d3 := S28.t.d3
          have d4 := S28.t.d4
          have j0 := S28.jx.c0
          have m0 := S28.mx.c0
          have j1 := S28.jx.c1
          have m1 := S28.mx.c1
          have j2 := S28.jx.c2
          have m2 := S28.mx.c2
          have j3 := S28.jx.c3
          have m3 := S28.mx.c3
          have j4 := S28.jx.c4
          have m4 := S28.mx.c4
          have hc := S28.bel (sp 2) (sp 0) (S28.hs 2 (by omega)) (S28.hs 0 (by omega)) true c1
          go_wp2_with fail
          refine hc.mono ?_
          rintro e x30 ⟨rfl, S30⟩
          clear hc S28 l0 l1 a0 a1 a2 a3 a4 b0 b1 b2 b3 b4 d0 d1 d2 d3 d4 j0 m0 j1 m1 j2 m2 j3 m3 j4 m4
          clear c1
          cases c2 : belB n g (sp 2) (sp 1)
          · have HC : Hid True := trivial
            have l0 := S30.l.c0
            have l1 := S30.l.c1
            have a0 := S30.t.a0
            have a1 := S30.t.a1
            have a2 := S30.t.a2
            have a3 := S30.t.a3
            have a4 := S30.t.a4
            have b0 := S30.t.b0
            have b1 := S30.t.b1
            have b2 := S30.t.b2
            have b3 := S30.t.b3
            have b4 := S30.t.b4
            have d0 := S30.t.d0
            have d1 := S30.t.d1
            have d2 := S30.t.d2
            have d3 := S30.t.d3
            have d4 := S30.t.d4
            have j0 := S30.jx.c0
            have m0 := S30.mx.c0
            have j1 := S30.jx.c1
            have m1 := S30.mx.c1
            have j2 := S30.jx.c2
            have m2 := S30.mx.c2
            have j3 := S30.jx.c3
            have m3 := S30.mx.c3
            have j4 := S30.jx.c4
            have m4 := S30.mx.c4
            have hc := S30.bel (sp 2) (sp 1) (S30.hs 2 (by omega)) (S30.hs 1 (by omega)) false c2
            go_wp2_with fail
            refine hc.mono ?_
            rintro e x31 ⟨rfl, S31⟩
            clear hc S30 l0 l1 a0 a1 a2 a3 a4 b0 b1 b2 b3 b4 d0 d1 d2 d3 d4 j0 m0 j1 m1 j2 m2 j3 m3 j4 m4
            clear c2
            go_wp2
            go_ret
            exact ⟨rfl, S31.bl⟩
          · have HC3 : Hid (belB n g (sp 2) m = true) := (HM.out.least (sp 2) HC1.out c2).2
            have l0 := S30.l.c0
            have l1 := S30.l.c1
            have a0 := S30.t.a0
            have a1 := S30.t.a1
            have a2 := S30.t.a2
            have a3 := S30.t.a3
            have a4 := S30.t.a4
            have b0 := S30.t.b0
            have b1 := S30.t.b1
            have b2 := S30.t.b2
            have b3 := S30.t.b3
            have b4 := S30.t.b4
            have d0 := S30.t.d0
            have d1 := S30.t.d1
            have d2 := S30.t.d2
            have d3 := S30.t.d3
            have d4 := S30.t.d4
            have j0 := S30.jx.c0
            have m0 := S30.mx.c0
            have j1 := S30.jx.c1
            have m1 := S30.mx.c1
            have j2 := S30.jx.c2
            have m2 := S30.mx.c2
            have j3 := S30.jx.c3
            have m3 := S30.mx.c3
            have j4 := S30.jx.c4
            have m4 := S30.mx.c4
            have hc := S30.bel (sp 2) (sp 1) (S30.hs 2 (by omega)) (S30.hs 1 (by omega)) true c2
            go_wp2_with fail
            refine hc.mono ?_
            rintro e x32 ⟨rfl, S32⟩
            clear hc S30 l0 l1 a0 a1 a2 a3 a4 b0 b1 b2 b3 b4 d0 d1 d2 d3 d4 j0 m0 j1 m1 j2 m2 j3 m3 j4 m4
            clear c2
            have l0 := S32.l.c0
            have l1 := S32.l.c1
            have a0 := S32.t.a0
            have a1 := S32.t.a1
            have a2 := S32.t.a2
            have a3 := S32.t.a3
            have a4 := S32.t.a4
            have b0 := S32.t.b0
            have b1 := S32.t.b1
            have b2 := S32.t.b2
            have b3 := S32.t.b3
            have b4 := S32.t.b4
            have d0 := S32.t.d0
            have d1 := S32.t.d1
            have d2 := S32.t.d2
            have d3 := S32.t.d3
            have d4 := S32.t.d4
            have j0 := S32.jx.c0
            have m0 := S32.mx.c0
            have j1 := S32.jx.c1
            have m1 := S32.mx.c1
            have j2 := S32.jx.c2
            have m2 := S32.mx.c2
            have j3 := S32.jx.c3
            have m3 := S32.mx.c3
            have j4 := S32.jx.c4
            have m4 := S32.mx.c4
            have hc := S32.bel (sp 2) m (S32.hs 2 (by omega)) S32.hm true HC3.out
            go_wp2_with fail
            refine hc.mono ?_
            rintro e x33 ⟨rfl, S33⟩
            clear hc S32 l0 l1 a0 a1 a2 a3 a4 b0 b1 b2 b3 b4 d0 d1 d2 d3 d4 j0 m0 j1 m1 j2 m2 j3 m3 j4 m4
            go_wp2
            go_ret
            exact ⟨rfl, S33.bl⟩
end Go.Proofs.Ytlknlnhbmamcbaa
