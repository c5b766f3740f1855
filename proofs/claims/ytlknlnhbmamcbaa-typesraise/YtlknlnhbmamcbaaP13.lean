/- The walk of the statement TypesRaise. -/
import Derived.Test.YtlknlnhbmamcbaaP12
import Derived.Deep.RegionHeld3
import Derived.Test.YtlknlnhbmamcbaaP1
import Derived.ProofKit
import Derived.Deep.Grids
import Derived.Lib.SmallJoins
import Derived.Test.YtlknlnhbmamcbaaP8
import Derived.Test.YtlknlnhbmamcbaaP2
namespace Go.Proofs.Ytlknlnhbmamcbaa
open Go.RowKit

structure RFacts (n : Strs) (g : Grid) (t : Ty) (a : Int) (x : Ty) : Prop where
  up : belB n g t x = true
  leq : leqB n g a x.l = true
  again : ∀ y : Ty, y.same (raiseT n g x a) = true → y.same x = true
  more : ∀ b : Int, leqB n g a b = true → ∀ (z : Ty) (w : World), z.At w → z.same (raiseT n g t b) = true → belB n g x z = true
theorem leq_labs {n : Strs} {g : Grid} {a b : Int} (h : leqB n g a b = true) : inR n.len a = true ∧ inR n.len b = true ∧ g.B a.toNat b.toNat = true := by
  unfold leqB at h
  rw [Bool.and_eq_true, Bool.and_eq_true, Bool.and_eq_true] at h
  exact ⟨h.1.1.1, h.1.1.2, h.2⟩
theorem raise_facts {n : Strs} {g : Grid} {t : Ty} {a : Int} {x : Ty} {w w' : World} (hok : okB n g t = true) (ha : inR n.len a = true) (tA : t.At w) (xA : x.At w') (hx : x.same (raiseT n g t a) = true) : RFacts n g t a x := by
  have hok' := hok
  unfold okB at hok'
  rw [Bool.and_eq_true] at hok'
  obtain ⟨hF, ht⟩ := hok'
  have P := po_of hF
  have F := fd_ok ht
  obtain ⟨p, hp, hp1⟩ := F.lab
  obtain ⟨q, hq, hq1⟩ := inR_nat ha
  have J := (jn_is hF hp1 hq1).2
  have ej : joinI n g t.l a = (Jn g p q : Int) := by rw [hp, hq]; exact joinI_nat hF hp1 hq1
  have er : raiseT n g t a = t.setL (Jn g p q : Int) := by unfold raiseT; rw [hok, ha, ej]; rfl
  generalize Jn g p q = j at J ej er
  have rj : inR n.len (j : Int) = true := by have := J.1; unfold inR; simp; omega
  rw [er] at hx
  have sA : (t.setL (j : Int)).At w := setL_at tA
  have sok := setL_ok ht rj
  have xok : x.ok n.len = true := (same_ok xA sA hx).trans sok
  have FXo := fd_ok xok
  have FS := fd_ok sok
  have xl : x.l = (j : Int) := ((same_iff _ _).1 hx).1.2.1.trans (setL_v (j := (j : Int)) tA).2.1
  have sb := same_bel P x (t.setL (j : Int)) FXo FS hx
  have okx : okB n g x = true := by unfold okB; rw [hF, xok]; rfl
  refine ⟨?_, ?_, fun y hy => ?_, fun b hb z wz zA hz => ?_⟩
  · rw [belB_iff]
    refine ⟨hF, ht, xok, (bel_trans P t (t.setL (j : Int)) x F FS FXo).1 ?_ sb.2⟩
    have := setL_bel P ht hp1 J.1 J.2.1
    rw [← hp, setL_self] at this
    exact this
  · rw [xl, hq, leqB_nat hF hq1 J.1]; exact J.2.2.1
  · have e : raiseT n g x a = x := by
      unfold raiseT
      rw [okx, ha]
      have J2 := (jn_is hF J.1 hq1).2
      have e2 : Jn g j q = j := isJoin_uniq hF J2 ⟨J.1, lq_refl hF J.1, J.2.2.1, fun c _ h1 _ => h1⟩
      have e3 : joinI n g x.l a = x.l := by rw [xl, hq, joinI_nat hF J.1 hq1, e2]
      show x.setL (joinI n g x.l a) = x
      rw [e3, setL_self]
    rw [e] at hy; exact hy
  · obtain ⟨_, hb2, hb3⟩ := leq_labs hb
    obtain ⟨r, hr, hr1⟩ := inR_nat hb2
    rw [hq, hr, Int.toNat_natCast, Int.toNat_natCast] at hb3
    have J2 := (jn_is hF hp1 hr1).2
    have er2 : raiseT n g t b = t.setL (Jn g p r : Int) := by unfold raiseT; rw [hok, hb2, hp, hr, joinI_nat hF hp1 hr1]; rfl
    generalize Jn g p r = j2 at J2 er2
    rw [er2] at hz
    have rj2 : inR n.len (j2 : Int) = true := by have := J2.1; unfold inR; simp; omega
    have s2A : (t.setL (j2 : Int)).At w := setL_at tA
    have s2ok := setL_ok ht rj2
    have zok : z.ok n.len = true := (same_ok zA s2A hz).trans s2ok
    have sb2 := same_bel P z (t.setL (j2 : Int)) (fd_ok zok) (fd_ok s2ok) hz
    have hle : g.B j j2 = true := J.2.2.2 j2 J2.1 J2.2.1 (lq_trans hF hq1 hr1 J2.1 hb3 J2.2.2.1)
    have h1 := setL_bel P ht J.1 J2.1 hle
    have h2 := (bel_trans P x (t.setL (j : Int)) (t.setL (j2 : Int)) FXo FS (fd_ok s2ok)).1 sb.1 h1
    rw [belB_iff]
    exact ⟨hF, xok, zok, (bel_trans P x (t.setL (j2 : Int)) z FXo (fd_ok s2ok) (fd_ok zok)).1 h2 sb2.2⟩
theorem raise_zero {n : Strs} {g : Grid} {t : Ty} {a : Int} (h : (okB n g t && inR n.len a) = false) : raiseT n g t a = leafT 0 0 := by unfold raiseT; rw [h]; rfl

theorem sR_of {q : World} {LB TB XB : Nat} {n : Strs} {g : Grid} {t x : Ty} (L : Bl q LB n g) (T : Bx q TB t) (X : Bx q XB x) : q.cell? ⟨LB, 0, none⟩ = some (.slice n.ao n.len n.cap) ∧ q.cell? ⟨LB, 1, none⟩ = some (.slice g.ao g.len g.cap) ∧ q.cell? ⟨TB, 0, none⟩ = some (.int .i64 t.k) ∧ q.cell? ⟨TB, 1, none⟩ = some (.int .i64 t.l) ∧ q.cell? ⟨TB, 2, none⟩ = some (.slice t.ao t.len t.cap) ∧ q.cell? ⟨TB, 3, none⟩ = some (.int .i64 t.h) ∧ q.cell? ⟨TB, 4, none⟩ = some (.int .i64 t.e) ∧ q.cell? ⟨XB, 0, none⟩ = some (.int .i64 x.k) ∧ q.cell? ⟨XB, 1, none⟩ = some (.int .i64 x.l) ∧ q.cell? ⟨XB, 2, none⟩ = some (.slice x.ao x.len x.cap) ∧ q.cell? ⟨XB, 3, none⟩ = some (.int .i64 x.h) ∧ q.cell? ⟨XB, 4, none⟩ = some (.int .i64 x.e) :=
  ⟨L.c0, L.c1, T.c0, T.c1, T.c2, T.c3, T.c4, X.c0, X.c1, X.c2, X.c3, X.c4⟩

set_option maxRecDepth 100000 in
set_option maxHeartbeats 8000000 in
theorem typesRaise_any (n : Strs) (g : Grid) (t : Ty) (a b : Int) (w : World) (hn : n.At w) (hg : g.At w) (ht : t.At w) :
    Calls Try.prog 8 #[.agg #[.slice n.ao n.len n.cap, .slice g.ao g.len g.cap], .agg #[.int .i64 t.k, .int .i64 t.l, .slice t.ao t.len t.cap, .int .i64 t.h, .int .i64 t.e], .agg #[.int .i64 a, .int .i64 b]] w fun e w' => e = .returned (.bool true) ∧ Below w.heap.size w w' := by
  obtain ⟨L0, X0, B0⟩ := start_lt w n g t
  have Ba := below_alloc ((w.alloc (latO n g)).alloc (tyO t)) (.cells #[.int .i64 a, .int .i64 b] 41)
  have L1 := L0.kept Ba
  have X1 := X0.kept Ba
  have B1 := Below.next B0 Ba
  clear L0 X0 B0 Ba
  unfold latO tyO at *
  go_enter Try.func8, Try.ntmps8
  go_wp2
  go_region
  go_wp2_with fail
  refine (awake2_any _).mono ?_
  rintro e w2 ⟨rfl, hb2⟩
  have L2 := (L1.kept ((Below.refl _ _).drew)).kept hb2
  have X2 := (X1.kept ((Below.refl _ _).drew)).kept hb2
  have B2 := Below.next (Below.next B1 ((Below.refl _ _).drew)) hb2
  clear L1 X1 B1 hb2
  have l0 := L2.c0
  have l1 := L2.c1
  have x0 := X2.c0
  have x1 := X2.c1
  have x2 := X2.c2
  have x3 := X2.c3
  have x4 := X2.c4
  go_wp2_with fail
  refine (few_any n g t t _ (hn.kept B2) (hg.kept B2) (ht.kept B2) (ht.kept B2)).mono ?_
  rintro e w3 ⟨rfl, hb3⟩
  have L3 := L2.kept hb3
  have X3 := X2.kept hb3
  have B3 := Below.next B2 hb3
  clear L2 X2 B2 hb3 l0 l1 x0 x1 x2 x3 x4
  cases hfew : fewB n g t t
  · go_wp2_with fail
    refine (awake2_any _).mono ?_
    rintro e w4 ⟨rfl, hb4⟩
    go_wp2
    go_ret
    exact ⟨rfl, Below.next B3 hb4⟩
  clear hfew
  have HN : Hid (n.At w ∧ g.At w ∧ t.At w) := ⟨hn, hg, ht⟩
  clear hn hg ht
  have l0 := L3.c0
  have l1 := L3.c1
  have x0 := X3.c0
  have x1 := X3.c1
  have x2 := X3.c2
  have x3 := X3.c3
  have x4 := X3.c4
  go_wp2_with fail
  refine (Raise_any n g t a _ (HN.out.1.kept B3) (HN.out.2.1.kept B3) (HN.out.2.2.kept B3)).mono ?_
  intro e w4 hRP
  obtain ⟨x, rfl, xA, _, xS, hb4⟩ := hRP
  have N4 := Bx.new w4 x
  have Bx4 := below_alloc w4 (.cells #[.int .i64 x.k, .int .i64 x.l, .slice x.ao x.len x.cap, .int .i64 x.h, .int .i64 x.e] 28)
  have L4 := (L3.kept hb4).kept Bx4
  have X4 := (X3.kept hb4).kept Bx4
  have B4 := Below.next (Below.next B3 hb4) Bx4
  have xA4 := xA.kept Bx4
  clear L3 X3 hb4 l0 l1 x0 x1 x2 x3 x4 B3
  have HX : Hid (x.same (raiseT n g t a) = true) := xS
  clear xS xA Bx4
  generalize hB5 : w4.alloc (.cells #[.int .i64 x.k, .int .i64 x.l, .slice x.ao x.len x.cap, .int .i64 x.h, .int .i64 x.e] 28) = w5 at N4 L4 X4 B4 xA4
  have l0 := L4.c0
  have l1 := L4.c1
  have x0 := X4.c0
  have x1 := X4.c1
  have x2 := X4.c2
  have x3 := X4.c3
  have x4 := X4.c4
  go_wp2_with fail
  refine (Formed2_any n g t _ (HN.out.1.kept B4) (HN.out.2.1.kept B4) (HN.out.2.2.kept B4)).mono ?_
  rintro e w6 ⟨rfl, hb6⟩
  have L6 := L4.kept hb6
  have X6 := X4.kept hb6
  have N6 := N4.kept hb6
  have B6 := Below.next B4 hb6
  have xA6 := xA4.kept hb6
  clear L4 X4 N4 B4 hb6 xA4 hB5 l0 l1 x0 x1 x2 x3 x4
  have l0 := L6.c0
  have l1 := L6.c1
  have y0 := N6.c0
  have y1 := N6.c1
  have y2 := N6.c2
  have y3 := N6.c3
  have y4 := N6.c4
  cases hok : okB n g t
  · have hq : (okB n g t && inR n.len a) = false := by rw [hok]; rfl
    clear hok
    have zS := rSame_any2 x (leafT 0 0) _ xA6 (leaf_at _ _ _)
    rw [show x.same (leafT 0 0) = true by rw [← raise_zero (a := a) hq]; exact HX.out] at zS
    go_wp2_with fail
    refine zS.mono ?_
    rintro e w9 ⟨rfl, hb9⟩
    go_wp2
    go_ret
    exact ⟨rfl, Below.next B6 hb9⟩
  go_wp2_with fail
  refine (label_any n g a _).mono ?_
  rintro e w7 ⟨rfl, hb7⟩
  have L7 := L6.kept hb7
  have X7 := X6.kept hb7
  have N7 := N6.kept hb7
  have B7 := Below.next B6 hb7
  have xA7 := xA6.kept hb7
  clear L6 X6 N6 B6 hb7 xA6 l0 l1 y0 y1 y2 y3 y4
  cases hlab : labB n a
  · have hq : (okB n g t && inR n.len a) = false := by rw [show inR n.len a = labB n a from rfl, hlab, Bool.and_false]
    clear hlab
    have l0 := L7.c0
    have l1 := L7.c1
    have y0 := N7.c0
    have y1 := N7.c1
    have y2 := N7.c2
    have y3 := N7.c3
    have y4 := N7.c4
    have zS := rSame_any2 x (leafT 0 0) _ xA7 (leaf_at _ _ _)
    rw [show x.same (leafT 0 0) = true by rw [← raise_zero (a := a) hq]; exact HX.out] at zS
    go_wp2_with fail
    refine zS.mono ?_
    rintro e w9 ⟨rfl, hb9⟩
    go_wp2
    go_ret
    exact ⟨rfl, Below.next B7 hb9⟩
  have RF := raise_facts hok hlab HN.out.2.2 xA7 HX.out
  clear hok hlab
  have H1 : ∀ u, Below w7.heap.size w7 u → Calls Try.prog 17 #[.agg #[.slice n.ao n.len n.cap, .slice g.ao g.len g.cap], .agg #[.int .i64 t.k, .int .i64 t.l, .slice t.ao t.len t.cap, .int .i64 t.h, .int .i64 t.e], .agg #[.int .i64 x.k, .int .i64 x.l, .slice x.ao x.len x.cap, .int .i64 x.h, .int .i64 x.e]] u fun e w' => e = .returned (.bool true) ∧ Below u.heap.size u w' := fun u hu => by
    have hb := Below.next B7 hu
    have := Below_any2 n g t x u (HN.out.1.kept hb) (HN.out.2.1.kept hb) (HN.out.2.2.kept hb) (xA7.kept hu)
    rwa [RF.up] at this
  have H2 := fun u (hu : Below w7.heap.size w7 u) => Raise_any n g x a u (HN.out.1.kept (Below.next B7 hu)) (HN.out.2.1.kept (Below.next B7 hu)) (xA7.kept hu)
  have H3 : ∀ (y : Ty) u, Below w7.heap.size w7 u → y.At u → y.same (raiseT n g x a) = true → Calls Try.prog 20 #[.agg #[.int .i64 y.k, .int .i64 y.l, .slice y.ao y.len y.cap, .int .i64 y.h, .int .i64 y.e], .agg #[.int .i64 x.k, .int .i64 x.l, .slice x.ao x.len x.cap, .int .i64 x.h, .int .i64 x.e]] u fun e w' => e = .returned (.bool true) ∧ Below u.heap.size u w' := fun y u hu yA yS => by
    have := rSame_any2 y x u yA (xA7.kept hu)
    rwa [RF.again y yS] at this
  have H4 : ∀ u, Below w7.heap.size w7 u → Calls Try.prog 29 #[.agg #[.slice n.ao n.len n.cap, .slice g.ao g.len g.cap], .int .i64 a, .int .i64 x.l] u fun e w' => e = .returned (.bool true) ∧ Below u.heap.size u w' := fun u hu => by
    have hb := Below.next B7 hu
    have := rleq_any n g a x.l u (HN.out.1.kept hb) (HN.out.2.1.kept hb)
    rwa [RF.leq] at this
  have HRF : Hid (RFacts n g t a x) := RF
  clear RF
  have D7 : Below w7.heap.size w7 w7.drew := (Below.refl _ _).drew
  have hS : (fun q : World => q.cell? ⟨w.heap.size, 0, none⟩ = some (.slice n.ao n.len n.cap) ∧ q.cell? ⟨w.heap.size, 1, none⟩ = some (.slice g.ao g.len g.cap) ∧ q.cell? ⟨w.heap.size + 1, 0, none⟩ = some (.int .i64 t.k) ∧ q.cell? ⟨w.heap.size + 1, 1, none⟩ = some (.int .i64 t.l) ∧ q.cell? ⟨w.heap.size + 1, 2, none⟩ = some (.slice t.ao t.len t.cap) ∧ q.cell? ⟨w.heap.size + 1, 3, none⟩ = some (.int .i64 t.h) ∧ q.cell? ⟨w.heap.size + 1, 4, none⟩ = some (.int .i64 t.e) ∧ q.cell? ⟨w4.heap.size, 0, none⟩ = some (.int .i64 x.k) ∧ q.cell? ⟨w4.heap.size, 1, none⟩ = some (.int .i64 x.l) ∧ q.cell? ⟨w4.heap.size, 2, none⟩ = some (.slice x.ao x.len x.cap) ∧ q.cell? ⟨w4.heap.size, 3, none⟩ = some (.int .i64 x.h) ∧ q.cell? ⟨w4.heap.size, 4, none⟩ = some (.int .i64 x.e)) w7.drew := sR_of (L7.kept D7) (X7.kept D7) (N7.kept D7)
  dsimp only at hS
  go_wp2
  go_region_held3 (fun q : World => q.cell? ⟨w.heap.size, 0, none⟩ = some (.slice n.ao n.len n.cap) ∧ q.cell? ⟨w.heap.size, 1, none⟩ = some (.slice g.ao g.len g.cap) ∧ q.cell? ⟨w.heap.size + 1, 0, none⟩ = some (.int .i64 t.k) ∧ q.cell? ⟨w.heap.size + 1, 1, none⟩ = some (.int .i64 t.l) ∧ q.cell? ⟨w.heap.size + 1, 2, none⟩ = some (.slice t.ao t.len t.cap) ∧ q.cell? ⟨w.heap.size + 1, 3, none⟩ = some (.int .i64 t.h) ∧ q.cell? ⟨w.heap.size + 1, 4, none⟩ = some (.int .i64 t.e) ∧ q.cell? ⟨w4.heap.size, 0, none⟩ = some (.int .i64 x.k) ∧ q.cell? ⟨w4.heap.size, 1, none⟩ = some (.int .i64 x.l) ∧ q.cell? ⟨w4.heap.size, 2, none⟩ = some (.slice x.ao x.len x.cap) ∧ q.cell? ⟨w4.heap.size, 3, none⟩ = some (.int .i64 x.h) ∧ q.cell? ⟨w4.heap.size, 4, none⟩ = some (.int .i64 x.e)) (assumption) ((first | (go_at_call 17; refine (H1 _ D7).mono ?_; rintro e w8 ⟨rfl, hb8⟩; have C8 := Below.next D7 hb8; have hS8 : (fun q : World => q.cell? ⟨w.heap.size, 0, none⟩ = some (.slice n.ao n.len n.cap) ∧ q.cell? ⟨w.heap.size, 1, none⟩ = some (.slice g.ao g.len g.cap) ∧ q.cell? ⟨w.heap.size + 1, 0, none⟩ = some (.int .i64 t.k) ∧ q.cell? ⟨w.heap.size + 1, 1, none⟩ = some (.int .i64 t.l) ∧ q.cell? ⟨w.heap.size + 1, 2, none⟩ = some (.slice t.ao t.len t.cap) ∧ q.cell? ⟨w.heap.size + 1, 3, none⟩ = some (.int .i64 t.h) ∧ q.cell? ⟨w.heap.size + 1, 4, none⟩ = some (.int .i64 t.e) ∧ q.cell? ⟨w4.heap.size, 0, none⟩ = some (.int .i64 x.k) ∧ q.cell? ⟨w4.heap.size, 1, none⟩ = some (.int .i64 x.l) ∧ q.cell? ⟨w4.heap.size, 2, none⟩ = some (.slice x.ao x.len x.cap) ∧ q.cell? ⟨w4.heap.size, 3, none⟩ = some (.int .i64 x.h) ∧ q.cell? ⟨w4.heap.size, 4, none⟩ = some (.int .i64 x.e)) w8 := sR_of (L7.kept C8) (X7.kept C8) (N7.kept C8); dsimp only at hS8) | (go_at_call 25; refine (H2 _ C8).mono ?_; intro e w9 hRP; obtain ⟨y, rfl, yA, _, yS, hb9⟩ := hRP; have C9 := Below.next C8 hb9; have hS9 : (fun q : World => q.cell? ⟨w.heap.size, 0, none⟩ = some (.slice n.ao n.len n.cap) ∧ q.cell? ⟨w.heap.size, 1, none⟩ = some (.slice g.ao g.len g.cap) ∧ q.cell? ⟨w.heap.size + 1, 0, none⟩ = some (.int .i64 t.k) ∧ q.cell? ⟨w.heap.size + 1, 1, none⟩ = some (.int .i64 t.l) ∧ q.cell? ⟨w.heap.size + 1, 2, none⟩ = some (.slice t.ao t.len t.cap) ∧ q.cell? ⟨w.heap.size + 1, 3, none⟩ = some (.int .i64 t.h) ∧ q.cell? ⟨w.heap.size + 1, 4, none⟩ = some (.int .i64 t.e) ∧ q.cell? ⟨w4.heap.size, 0, none⟩ = some (.int .i64 x.k) ∧ q.cell? ⟨w4.heap.size, 1, none⟩ = some (.int .i64 x.l) ∧ q.cell? ⟨w4.heap.size, 2, none⟩ = some (.slice x.ao x.len x.cap) ∧ q.cell? ⟨w4.heap.size, 3, none⟩ = some (.int .i64 x.h) ∧ q.cell? ⟨w4.heap.size, 4, none⟩ = some (.int .i64 x.e)) w9 := sR_of (L7.kept C9) (X7.kept C9) (N7.kept C9); have HY : Hid (y.same (raiseT n g x a) = true) := yS; clear yS; dsimp only at hS9) | (go_at_call 20; refine (H3 y _ C9 yA HY.out).mono ?_; rintro e w10 ⟨rfl, hb10⟩; have C10 := Below.next C9 hb10; have hS10 : (fun q : World => q.cell? ⟨w.heap.size, 0, none⟩ = some (.slice n.ao n.len n.cap) ∧ q.cell? ⟨w.heap.size, 1, none⟩ = some (.slice g.ao g.len g.cap) ∧ q.cell? ⟨w.heap.size + 1, 0, none⟩ = some (.int .i64 t.k) ∧ q.cell? ⟨w.heap.size + 1, 1, none⟩ = some (.int .i64 t.l) ∧ q.cell? ⟨w.heap.size + 1, 2, none⟩ = some (.slice t.ao t.len t.cap) ∧ q.cell? ⟨w.heap.size + 1, 3, none⟩ = some (.int .i64 t.h) ∧ q.cell? ⟨w.heap.size + 1, 4, none⟩ = some (.int .i64 t.e) ∧ q.cell? ⟨w4.heap.size, 0, none⟩ = some (.int .i64 x.k) ∧ q.cell? ⟨w4.heap.size, 1, none⟩ = some (.int .i64 x.l) ∧ q.cell? ⟨w4.heap.size, 2, none⟩ = some (.slice x.ao x.len x.cap) ∧ q.cell? ⟨w4.heap.size, 3, none⟩ = some (.int .i64 x.h) ∧ q.cell? ⟨w4.heap.size, 4, none⟩ = some (.int .i64 x.e)) w10 := sR_of (L7.kept C10) (X7.kept C10) (N7.kept C10); dsimp only at hS10) | (go_at_call 29; refine (H4 _ C10).mono ?_; rintro e w11 ⟨rfl, hb11⟩; have C11 := Below.next C10 hb11; have hS11 : (fun q : World => q.cell? ⟨w.heap.size, 0, none⟩ = some (.slice n.ao n.len n.cap) ∧ q.cell? ⟨w.heap.size, 1, none⟩ = some (.slice g.ao g.len g.cap) ∧ q.cell? ⟨w.heap.size + 1, 0, none⟩ = some (.int .i64 t.k) ∧ q.cell? ⟨w.heap.size + 1, 1, none⟩ = some (.int .i64 t.l) ∧ q.cell? ⟨w.heap.size + 1, 2, none⟩ = some (.slice t.ao t.len t.cap) ∧ q.cell? ⟨w.heap.size + 1, 3, none⟩ = some (.int .i64 t.h) ∧ q.cell? ⟨w.heap.size + 1, 4, none⟩ = some (.int .i64 t.e) ∧ q.cell? ⟨w4.heap.size, 0, none⟩ = some (.int .i64 x.k) ∧ q.cell? ⟨w4.heap.size, 1, none⟩ = some (.int .i64 x.l) ∧ q.cell? ⟨w4.heap.size, 2, none⟩ = some (.slice x.ao x.len x.cap) ∧ q.cell? ⟨w4.heap.size, 3, none⟩ = some (.int .i64 x.h) ∧ q.cell? ⟨w4.heap.size, 4, none⟩ = some (.int .i64 x.e)) w11 := sR_of (L7.kept C11) (X7.kept C11) (N7.kept C11); dsimp only at hS11)))
  have L12 := L7.kept C11
  have X12 := X7.kept C11
  have N12 := N7.kept C11
  have B12 := Below.next B7 C11
  have xA12 := xA7.kept C11
  clear hS H1 H2 H3 H4 L7 X7 N7 B7 xA7 C8 C9 C10 C11 D7 yA HY hb8 hb9 hb10 hb11
  cases hl : leqB n g a b
  · have l0 := fun q => Gr.cell q L12.c0
    have l1 := fun q => Gr.cell q L12.c1
    have H1 : ∀ u, Below w11.heap.size w11 u → Calls Try.prog 29 #[.agg #[.slice n.ao n.len n.cap, .slice g.ao g.len g.cap], .int .i64 a, .int .i64 b] u fun e w' => e = .returned (.bool false) ∧ Below u.heap.size u w' := fun u hu => by
      have hb := Below.next B12 hu
      have := rleq_any n g a b u (HN.out.1.kept hb) (HN.out.2.1.kept hb)
      rwa [hl] at this
    have hNE : Nonempty (Gr w11) := ⟨⟨_, Below.refl _ _⟩⟩
    clear hl
    go_wp2
    refine wp_region_gr (by kernel_rfl) (by kernel_rfl) ?_
    repeat (first | go_big_quiet_step ((go_at_call 29; exact Calls.gr _ (H1 _ (Gr.bl _)))))
    refine wpQuiet_nil ?_
    rintro w13 ⟨q13, rfl⟩
    have B13 := q13.bl
    generalize q13.w = w13 at B13 ⊢
    clear q13 hNE l0 l1 H1
    go_wp2
    go_ret
    exact ⟨rfl, Below.next B12 B13⟩
  · have H1 : ∀ u, Below w11.heap.size w11 u → Calls Try.prog 29 #[.agg #[.slice n.ao n.len n.cap, .slice g.ao g.len g.cap], .int .i64 a, .int .i64 b] u fun e w' => e = .returned (.bool true) ∧ Below u.heap.size u w' := fun u hu => by
      have hb := Below.next B12 hu
      have := rleq_any n g a b u (HN.out.1.kept hb) (HN.out.2.1.kept hb)
      rwa [hl] at this
    have H2 := fun u (hu : Below w11.heap.size w11 u) => Raise_any n g t b u (HN.out.1.kept (Below.next B12 hu)) (HN.out.2.1.kept (Below.next B12 hu)) (HN.out.2.2.kept (Below.next B12 hu))
    have H3 : ∀ (z : Ty) u, Below w11.heap.size w11 u → z.At u → z.same (raiseT n g t b) = true → Calls Try.prog 17 #[.agg #[.slice n.ao n.len n.cap, .slice g.ao g.len g.cap], .agg #[.int .i64 x.k, .int .i64 x.l, .slice x.ao x.len x.cap, .int .i64 x.h, .int .i64 x.e], .agg #[.int .i64 z.k, .int .i64 z.l, .slice z.ao z.len z.cap, .int .i64 z.h, .int .i64 z.e]] u fun e w' => e = .returned (.bool true) ∧ Below u.heap.size u w' := fun z u hu zA zS => by
      have hb := Below.next B12 hu
      have := Below_any2 n g x z u (HN.out.1.kept hb) (HN.out.2.1.kept hb) (xA12.kept hu) zA
      rwa [HRF.out.more b hl z u zA zS] at this
    have D12 : Below w11.heap.size w11 w11.drew := (Below.refl _ _).drew
    have hS : (fun q : World => q.cell? ⟨w.heap.size, 0, none⟩ = some (.slice n.ao n.len n.cap) ∧ q.cell? ⟨w.heap.size, 1, none⟩ = some (.slice g.ao g.len g.cap) ∧ q.cell? ⟨w.heap.size + 1, 0, none⟩ = some (.int .i64 t.k) ∧ q.cell? ⟨w.heap.size + 1, 1, none⟩ = some (.int .i64 t.l) ∧ q.cell? ⟨w.heap.size + 1, 2, none⟩ = some (.slice t.ao t.len t.cap) ∧ q.cell? ⟨w.heap.size + 1, 3, none⟩ = some (.int .i64 t.h) ∧ q.cell? ⟨w.heap.size + 1, 4, none⟩ = some (.int .i64 t.e) ∧ q.cell? ⟨w4.heap.size, 0, none⟩ = some (.int .i64 x.k) ∧ q.cell? ⟨w4.heap.size, 1, none⟩ = some (.int .i64 x.l) ∧ q.cell? ⟨w4.heap.size, 2, none⟩ = some (.slice x.ao x.len x.cap) ∧ q.cell? ⟨w4.heap.size, 3, none⟩ = some (.int .i64 x.h) ∧ q.cell? ⟨w4.heap.size, 4, none⟩ = some (.int .i64 x.e)) w11.drew := sR_of (L12.kept D12) (X12.kept D12) (N12.kept D12)
    dsimp only at hS
    clear hl
    go_wp2
    go_region_held3 (fun q : World => q.cell? ⟨w.heap.size, 0, none⟩ = some (.slice n.ao n.len n.cap) ∧ q.cell? ⟨w.heap.size, 1, none⟩ = some (.slice g.ao g.len g.cap) ∧ q.cell? ⟨w.heap.size + 1, 0, none⟩ = some (.int .i64 t.k) ∧ q.cell? ⟨w.heap.size + 1, 1, none⟩ = some (.int .i64 t.l) ∧ q.cell? ⟨w.heap.size + 1, 2, none⟩ = some (.slice t.ao t.len t.cap) ∧ q.cell? ⟨w.heap.size + 1, 3, none⟩ = some (.int .i64 t.h) ∧ q.cell? ⟨w.heap.size + 1, 4, none⟩ = some (.int .i64 t.e) ∧ q.cell? ⟨w4.heap.size, 0, none⟩ = some (.int .i64 x.k) ∧ q.cell? ⟨w4.heap.size, 1, none⟩ = some (.int .i64 x.l) ∧ q.cell? ⟨w4.heap.size, 2, none⟩ = some (.slice x.ao x.len x.cap) ∧ q.cell? ⟨w4.heap.size, 3, none⟩ = some (.int .i64 x.h) ∧ q.cell? ⟨w4.heap.size, 4, none⟩ = some (.int .i64 x.e)) (assumption) ((first | (go_at_call 29; refine (H1 _ D12).mono ?_; rintro e w13 ⟨rfl, hb13⟩; have C13 := Below.next D12 hb13; have hS13 : (fun q : World => q.cell? ⟨w.heap.size, 0, none⟩ = some (.slice n.ao n.len n.cap) ∧ q.cell? ⟨w.heap.size, 1, none⟩ = some (.slice g.ao g.len g.cap) ∧ q.cell? ⟨w.heap.size + 1, 0, none⟩ = some (.int .i64 t.k) ∧ q.cell? ⟨w.heap.size + 1, 1, none⟩ = some (.int .i64 t.l) ∧ q.cell? ⟨w.heap.size + 1, 2, none⟩ = some (.slice t.ao t.len t.cap) ∧ q.cell? ⟨w.heap.size + 1, 3, none⟩ = some (.int .i64 t.h) ∧ q.cell? ⟨w.heap.size + 1, 4, none⟩ = some (.int .i64 t.e) ∧ q.cell? ⟨w4.heap.size, 0, none⟩ = some (.int .i64 x.k) ∧ q.cell? ⟨w4.heap.size, 1, none⟩ = some (.int .i64 x.l) ∧ q.cell? ⟨w4.heap.size, 2, none⟩ = some (.slice x.ao x.len x.cap) ∧ q.cell? ⟨w4.heap.size, 3, none⟩ = some (.int .i64 x.h) ∧ q.cell? ⟨w4.heap.size, 4, none⟩ = some (.int .i64 x.e)) w13 := sR_of (L12.kept C13) (X12.kept C13) (N12.kept C13); dsimp only at hS13) | (go_at_call 25; refine (H2 _ C13).mono ?_; intro e w14 hRP; obtain ⟨z, rfl, zA, _, zS, hb14⟩ := hRP; have C14 := Below.next C13 hb14; have hS14 : (fun q : World => q.cell? ⟨w.heap.size, 0, none⟩ = some (.slice n.ao n.len n.cap) ∧ q.cell? ⟨w.heap.size, 1, none⟩ = some (.slice g.ao g.len g.cap) ∧ q.cell? ⟨w.heap.size + 1, 0, none⟩ = some (.int .i64 t.k) ∧ q.cell? ⟨w.heap.size + 1, 1, none⟩ = some (.int .i64 t.l) ∧ q.cell? ⟨w.heap.size + 1, 2, none⟩ = some (.slice t.ao t.len t.cap) ∧ q.cell? ⟨w.heap.size + 1, 3, none⟩ = some (.int .i64 t.h) ∧ q.cell? ⟨w.heap.size + 1, 4, none⟩ = some (.int .i64 t.e) ∧ q.cell? ⟨w4.heap.size, 0, none⟩ = some (.int .i64 x.k) ∧ q.cell? ⟨w4.heap.size, 1, none⟩ = some (.int .i64 x.l) ∧ q.cell? ⟨w4.heap.size, 2, none⟩ = some (.slice x.ao x.len x.cap) ∧ q.cell? ⟨w4.heap.size, 3, none⟩ = some (.int .i64 x.h) ∧ q.cell? ⟨w4.heap.size, 4, none⟩ = some (.int .i64 x.e)) w14 := sR_of (L12.kept C14) (X12.kept C14) (N12.kept C14); have HZ : Hid (z.same (raiseT n g t b) = true) := zS; clear zS; dsimp only at hS14) | (go_at_call 17; refine (H3 z _ C14 zA HZ.out).mono ?_; rintro e w15 ⟨rfl, hb15⟩; have C15 := Below.next C14 hb15; have hS15 : (fun q : World => q.cell? ⟨w.heap.size, 0, none⟩ = some (.slice n.ao n.len n.cap) ∧ q.cell? ⟨w.heap.size, 1, none⟩ = some (.slice g.ao g.len g.cap) ∧ q.cell? ⟨w.heap.size + 1, 0, none⟩ = some (.int .i64 t.k) ∧ q.cell? ⟨w.heap.size + 1, 1, none⟩ = some (.int .i64 t.l) ∧ q.cell? ⟨w.heap.size + 1, 2, none⟩ = some (.slice t.ao t.len t.cap) ∧ q.cell? ⟨w.heap.size + 1, 3, none⟩ = some (.int .i64 t.h) ∧ q.cell? ⟨w.heap.size + 1, 4, none⟩ = some (.int .i64 t.e) ∧ q.cell? ⟨w4.heap.size, 0, none⟩ = some (.int .i64 x.k) ∧ q.cell? ⟨w4.heap.size, 1, none⟩ = some (.int .i64 x.l) ∧ q.cell? ⟨w4.heap.size, 2, none⟩ = some (.slice x.ao x.len x.cap) ∧ q.cell? ⟨w4.heap.size, 3, none⟩ = some (.int .i64 x.h) ∧ q.cell? ⟨w4.heap.size, 4, none⟩ = some (.int .i64 x.e)) w15 := sR_of (L12.kept C15) (X12.kept C15) (N12.kept C15); dsimp only at hS15)))
    go_wp2
    go_ret
    exact ⟨rfl, Below.next B12 C15⟩
end Go.Proofs.Ytlknlnhbmamcbaa

/- A lattice that comes in, opened into its names and its table. -/
namespace Go.Proofs.Ytlknlnhbmamcbaa
open Go.ChangeShapes Go.WideShapes Go.ChangeAt Go.RowKit Go.Deep Go.Joins

theorem Try.own : ownKnob Try.prog.godebug = none := by kernel_rfl
theorem Try.laidOut : laidOutB Try.prog = true := by kernel_rfl
theorem Try.cellsString : Try.prog.cellsOf 9 = 1 := by kernel_rfl
theorem Try.cellsBool : Try.prog.cellsOf 4 = 1 := by kernel_rfl
theorem Try.cellsRow : Try.prog.cellsOf 54 = 1 := by kernel_rfl
theorem Try.cellsLat : Try.prog.cellsOf 25 = 2 := by kernel_rfl
theorem addr_plain (b off i : Nat) : (⟨b, off, none⟩ : Addr).add i = ⟨b, off + i, none⟩ := by unfold Addr.add; split <;> simp_all

section
variable {H : Type} {enc : TypeId × Value → H} {W : World} {base : Nat}

theorem open_strs {fuel : Nat} {v : Value} {x : DataW H × List MemPlace} (h : DataW.trod enc Try.prog W base (fun _ => true) true fuel 22 [v] = some x) :
    ∃ n : Strs, v = .slice n.ao n.len n.cap ∧ n.At W := by
  rcases open_strings Try.underlying22 Try.underlying9 Try.cellsString h with ⟨hcs, _⟩ | ⟨a, len, cap, ss, hcs, _, hl, hm, hz, _, hcell, hws⟩
  · exact ⟨⟨none, 0, 0, 0, 0, fun _ => ByteArray.empty⟩, by simpa using hcs, ⟨Nat.le_refl _, fun h => absurd h (Nat.lt_irrefl _), Nat.zero_le _, fun _ h => absurd h (Nat.not_lt_zero _), fun _ h => absurd h (Nat.not_lt_zero _)⟩⟩
  · have hv : v = .slice (some a) len cap := by simpa using hcs
    simp only [if_true] at hz
    unfold maxLen at hm hws
    refine ⟨⟨some a, a.block, a.off, len, cap, fun i => ss.getD i ByteArray.empty⟩, hv, ⟨hl, fun hp => ?_, Nat.le_trans hl hm, fun i hi => ?_, fun i hi => ?_⟩⟩
    · have hp' : 0 < len := hp
      have hs := World.cell?_spot (hcell 0 (by omega))
      obtain ⟨ab, ao, asp⟩ := a
      have : asp = none := by simpa [Addr.add] using hs
      subst this; rfl
    · have hi' : i < len := hi
      have hs := World.cell?_spot (hcell 0 (by omega))
      obtain ⟨ab, ao, asp⟩ := a
      have : asp = none := by simpa [Addr.add] using hs
      subst this
      have := hcell i (by omega)
      rw [addr_plain] at this
      exact this
    · have hi' : i < len := hi
      have hmem : ss.getD i ByteArray.empty ∈ ss := by
        rw [List.getD_eq_getElem?_getD, List.getElem?_eq_getElem (by omega)]
        exact List.getElem_mem _
      exact hws _ hmem

theorem open_grid {fuel : Nat} {v : Value} {x : DataW H × List MemPlace} (h : DataW.trod enc Try.prog W base (fun _ => true) true fuel 23 [v] = some x) :
    ∃ g : Grid, v = .slice g.ao g.len g.cap ∧ g.At W := by
  rcases open_bool_rows Try.underlying23 Try.underlying54 Try.underlying4 Try.cellsRow Try.cellsBool h with ⟨hcs, _⟩ | ⟨a, len, cap, A, L, C, B, hcs, _, hl, hm, _, hrows⟩
  · exact ⟨⟨none, 0, 0, 0, 0, fun _ => none, fun _ => 0, fun _ => 0, fun _ => 0, fun _ => 0, fun _ _ => false⟩, by simpa using hcs,
      ⟨Nat.le_refl _, fun h => absurd h (Nat.lt_irrefl _), Nat.zero_le _, fun _ h => absurd h (Nat.not_lt_zero _), fun _ h => absurd h (Nat.not_lt_zero _), fun _ h => absurd h (Nat.not_lt_zero _), fun _ h => absurd h (Nat.not_lt_zero _)⟩⟩
  · have hv : v = .slice (some a) len cap := by simpa using hcs
    unfold maxLen at hm
    have hadr : ∀ r, r < len → 0 < L r → A r = some ⟨((A r).getD default).block, ((A r).getD default).off, none⟩ ∧ ∀ c, c < L r → W.cell? ⟨((A r).getD default).block, ((A r).getD default).off + c, none⟩ = some (.bool (B r c)) := fun r hr hp => by
      obtain ⟨_, h1, _, h3, h4⟩ := hrows r (by omega)
      cases hA : A r with
      | none => have := h3 hA; omega
      | some a' =>
        obtain ⟨ab, ao, asp⟩ := a'
        obtain ⟨_, hcell⟩ := h4 _ hA
        have has : asp = none := by simpa [Addr.add] using World.cell?_spot (hcell 0 (by omega))
        subst has
        exact ⟨rfl, fun c hc => by have := hcell c (by omega); rwa [addr_plain] at this⟩
    have hspot : 0 < len → a = ⟨a.block, a.off, none⟩ := fun hp => by
      have hs := World.cell?_spot (hrows 0 (by omega)).1
      obtain ⟨ab, ao, asp⟩ := a
      have : asp = none := by simpa [Addr.add] using hs
      subst this; rfl
    refine ⟨⟨some a, a.block, a.off, len, cap, A, L, C, fun r => ((A r).getD default).block, fun r => ((A r).getD default).off, B⟩, hv, ⟨hl, fun hp => congrArg some (hspot hp), Nat.le_trans hl hm, fun r hr => ?_, fun r hr => ?_, fun r hr hp => (hadr r hr hp).1, fun r hr c hc => (hadr r hr (Nat.lt_of_le_of_lt (Nat.zero_le _) hc)).2 c hc⟩⟩
    · have hr' : r < len := hr
      obtain ⟨_, h1, h2, _⟩ := hrows r (by omega)
      unfold maxLen at h2
      exact Nat.le_trans h1 h2
    · have hr' : r < len := hr
      have := (hrows r (by omega)).1
      rw [hspot (by omega), addr_plain] at this
      exact this

theorem open_lat {v : Value} {d : DataW H} {p : List MemPlace} {b0 : Nat} (hv : Value.okWide Try.prog W .any b0 25 v) (h : DataW.Trod enc Try.prog W base (fun _ => true) true 25 v d p) :
    ∃ (n : Strs) (g : Grid), v = .agg #[.slice n.ao n.len n.cap, .slice g.ao g.len g.cap] ∧ n.At W ∧ g.At W := by
  obtain ⟨c0, c1, y0, y1, m, rfl, _, _, hy0, hy1⟩ := open_agg2 Try.underlying25 (by kernel_rfl) Try.cellsLat hv h
  obtain ⟨n, rfl, hn⟩ := open_strs hy0
  obtain ⟨g, rfl, hg⟩ := open_grid hy1
  exact ⟨n, g, rfl, hn, hg⟩
end
end Go.Proofs.Ytlknlnhbmamcbaa

/- A type that comes in, opened. -/
namespace Go.Proofs.Ytlknlnhbmamcbaa
open Go.ChangeShapes Go.WideShapes Go.ChangeAt Go.RowKit Go.Deep Go.Joins

theorem Try.cellsInt' : Try.prog.cellsOf 3 = 1 := by kernel_rfl
theorem Try.cellsTys : Try.prog.cellsOf 26 = 1 := by kernel_rfl
theorem Try.cellsTy : Try.prog.cellsOf 28 = 5 := by kernel_rfl

section
variable {H : Type} {enc : TypeId × Value → H} {W : World} {base : Nat}

def Ty.cs (t : Ty) : List Value := [.int .i64 t.k, .int .i64 t.l, .slice t.ao t.len t.cap, .int .i64 t.h, .int .i64 t.e]

theorem open_ty : ∀ (fuel : Nat) (cs : List Value) (x : DataW H × List MemPlace), DataW.trod enc Try.prog W base (fun _ => true) true fuel 28 cs = some x → ∃ t : Ty, cs = t.cs ∧ t.At W := by
  intro fuel
  induction fuel using Nat.strongRecOn with
  | _ fuel ih =>
    intro cs x h
    obtain ⟨xs, n, rfl, _, hl, hlen, hf⟩ := DataW.trod_struct Try.underlying28 h
    rw [Try.cellsTy] at hl
    match cs, hl with
    | [c0, c1, c2, c3, c4], _ =>
      have hlen5 : xs.length = 5 := hlen
      match xs, hlen5 with
      | [y0, y1, y2, y3, y4], _ =>
        have f0 : DataW.trod enc Try.prog W base (fun _ => true) true n 3 [c0] = some y0 := by simpa [Try.cellsInt'] using hf 0 _ rfl
        have f1 : DataW.trod enc Try.prog W base (fun _ => true) true n 3 [c1] = some y1 := by simpa [Try.cellsInt'] using hf 1 _ rfl
        have f2 : DataW.trod enc Try.prog W base (fun _ => true) true n 26 [c2] = some y2 := by simpa [Try.cellsTys] using hf 2 _ rfl
        have f3 : DataW.trod enc Try.prog W base (fun _ => true) true n 3 [c3] = some y3 := by simpa [Try.cellsInt'] using hf 3 _ rfl
        have f4 : DataW.trod enc Try.prog W base (fun _ => true) true n 3 [c4] = some y4 := by simpa [Try.cellsInt'] using hf 4 _ rfl
        obtain ⟨k, q0, _⟩ := DataW.trod_int Try.underlying3 f0
        obtain ⟨l, q1, _⟩ := DataW.trod_int Try.underlying3 f1
        obtain ⟨hh, q3, _⟩ := DataW.trod_int Try.underlying3 f3
        obtain ⟨e, q4, _⟩ := DataW.trod_int Try.underlying3 f4
        simp only [List.cons.injEq, and_true] at q0 q1 q3 q4
        subst q0 q1 q3 q4
        rcases DataW.trod_slice Try.underlying26 f2 with ⟨hcs, _⟩ | ⟨a, len, cap, elems, rest, m, hm, hcs, _, _, hlc, hmx, hel, hx, _, _⟩
        · simp only [List.cons.injEq, and_true] at hcs
          subst hcs
          exact ⟨.mk k l hh e none 0 0 0 0 (fun _ => .dm), rfl, ⟨fun h => absurd h (Nat.lt_irrefl _), Nat.zero_le _, fun _ h => absurd h (Nat.not_lt_zero _)⟩⟩
        · simp only [List.cons.injEq, and_true] at hcs
          subst hcs hm
          unfold maxLen at hmx
          have each : ∀ i, i < len → ∃ t : Ty, (∀ j, j < 5 → W.cell? (a.add (i * 5 + j)) = t.cs[j]?) ∧ t.At W := by
            intro i hi
            have h1 := hx i hi
            rw [Try.cellsTy] at h1
            cases hc : W.cells? base (a.add (i * 5)) 5 with
            | none => rw [hc] at h1; simp at h1; omega
            | some cs' =>
              rw [hc] at h1
              have h2 : DataW.trod enc Try.prog W base (fun _ => true) true m 28 cs' = some elems[i] := by
                rw [List.getElem?_eq_getElem (by omega)] at h1
                simpa using h1
              obtain ⟨t, rfl, hA⟩ := ih m (by omega) cs' _ h2
              obtain ⟨_, _, hcell⟩ := World.cells?_some hc
              exact ⟨t, fun j hj => by rw [← hcell j hj, add_add], hA⟩
          have hspot : 0 < len → a = ⟨a.block, a.off, none⟩ := fun hp => by
            obtain ⟨t, ht, _⟩ := each 0 hp
            have hs := World.cell?_spot (a := a.add (0 * 5 + 0)) (v := .int .i64 t.k) (by rw [ht 0 (by omega)]; rfl)
            obtain ⟨ab, ao, asp⟩ := a
            have : asp = none := by simpa [Addr.add] using hs
            subst this; rfl
          refine ⟨.mk k l hh e (some a) a.block a.off len cap (fun i => if h : i < len then Classical.choose (each i h) else .dm), rfl, ⟨fun hp => congrArg some (hspot hp), by omega, fun i hi => ?_⟩⟩
          simp only [dif_pos hi]
          obtain ⟨ht, hA⟩ := Classical.choose_spec (each i hi)
          generalize Classical.choose (each i hi) = t at ht hA
          have ea := hspot (by omega)
          have get : ∀ j, j < 5 → W.cell? ⟨a.block, a.off + i * 5 + j, none⟩ = t.cs[j]? := fun j hj => by
            have := ht j hj
            rw [ea, addr_plain, ← Nat.add_assoc] at this
            exact this
          exact ⟨⟨get 0 (by omega), get 1 (by omega), get 2 (by omega), get 3 (by omega), get 4 (by omega)⟩, hA⟩
theorem open_type {v : Value} {d : DataW H} {p : List MemPlace} {b0 : Nat} (hv : Value.okWide Try.prog W .any b0 28 v) (h : DataW.Trod enc Try.prog W base (fun _ => true) true 28 v d p) :
    ∃ t : Ty, v = .agg #[.int .i64 t.k, .int .i64 t.l, .slice t.ao t.len t.cap, .int .i64 t.h, .int .i64 t.e] ∧ t.At W := by
  obtain ⟨cs, rfl, _⟩ := okWide_struct Try.underlying28 hv
  obtain ⟨fuel, hf⟩ := h
  obtain ⟨t, ht, hA⟩ := open_ty fuel _ _ hf
  refine ⟨t, ?_, hA⟩
  have : cs.toList = t.cs := by simpa [Value.cells] using ht
  obtain ⟨l⟩ := cs
  have e : l = t.cs := this
  rw [e]; rfl

theorem Try.cellsTy3 : Try.prog.cellsOf 39 = 15 := by kernel_rfl
theorem open_ty3 {v : Value} {d : DataW H} {p : List MemPlace} {b0 : Nat} (hv : Value.okWide Try.prog W .any b0 39 v) (h : DataW.Trod enc Try.prog W base (fun _ => true) true 39 v d p) :
    ∃ sp : Nat → Ty, v = .agg #[.int .i64 (sp 0).k, .int .i64 (sp 0).l, .slice (sp 0).ao (sp 0).len (sp 0).cap, .int .i64 (sp 0).h, .int .i64 (sp 0).e, .int .i64 (sp 1).k, .int .i64 (sp 1).l, .slice (sp 1).ao (sp 1).len (sp 1).cap, .int .i64 (sp 1).h, .int .i64 (sp 1).e, .int .i64 (sp 2).k, .int .i64 (sp 2).l, .slice (sp 2).ao (sp 2).len (sp 2).cap, .int .i64 (sp 2).h, .int .i64 (sp 2).e] ∧ ∀ k, k < 3 → (sp k).At W := by
  simp only [Value.okWide, Try.underlying39] at hv
  obtain ⟨⟨cs⟩, rfl, _, _⟩ := hv
  obtain ⟨fuel, hf⟩ := h
  cases fuel with
  | zero => simp [DataW.trod] at hf
  | succ n =>
    unfold DataW.trod at hf
    rw [Try.underlying39] at hf
    have r3 : List.range 3 = [0, 1, 2] := rfl
    simp [r3, Try.cellsTy, Try.cellsTy3, Value.cells] at hf
    obtain ⟨hlen, hf⟩ := hf
    cases h0 : DataW.trod enc Try.prog W base (fun _ => true) true n 28 (List.take 5 cs) with
    | none => simp [h0] at hf
    | some y0 =>
      cases h1 : DataW.trod enc Try.prog W base (fun _ => true) true n 28 (List.take 5 (List.drop 5 cs)) with
      | none => simp [h0, h1] at hf
      | some y1 =>
        cases h2 : DataW.trod enc Try.prog W base (fun _ => true) true n 28 (List.take 5 (List.drop 10 cs)) with
        | none => simp [h0, h1, h2] at hf
        | some y2 =>
          obtain ⟨t0, e0, A0⟩ := open_ty n _ _ h0
          obtain ⟨t1, e1, A1⟩ := open_ty n _ _ h1
          obtain ⟨t2, e2, A2⟩ := open_ty n _ _ h2
          have ec : cs = t0.cs ++ (t1.cs ++ t2.cs) := by
            have q1 := List.take_append_drop 5 cs
            have q2 := List.take_append_drop 5 (List.drop 5 cs)
            have q3 : List.take 5 (List.drop 10 cs) = List.drop 10 cs := List.take_of_length_le (by simp [hlen])
            rw [List.drop_drop] at q2
            rw [← e0, ← e1, ← e2, q3, q2, q1]
          refine ⟨fun k => if k = 0 then t0 else if k = 1 then t1 else t2, ?_, fun k hk => ?_⟩
          · subst ec; rfl
          · match k, hk with
            | 0, _ => exact A0
            | 1, _ => exact A1
            | 2, _ => exact A2
end
end Go.Proofs.Ytlknlnhbmamcbaa

/- A list of pairs of numbers that comes in, opened. -/
namespace Go.Proofs.Ytlknlnhbmamcbaa
open Go.ChangeShapes Go.WideShapes Go.ChangeAt Go.RowKit Go.Deep Go.Joins

theorem Try.cellsInt : Try.prog.cellsOf 3 = 1 := by kernel_rfl
theorem Try.cellsPair : Try.prog.cellsOf 41 = 2 := by kernel_rfl

section
variable {H : Type} {enc : TypeId × Value → H} {W : World} {base : Nat}

theorem trod_array2 {P : Program} {spare : Nat → Bool} {held : Bool} {t e : TypeId} {fuel : Nat} {c0 c1 : Value} {x : DataW H × List MemPlace} (ht : P.underlying t = some (.array 2 e)) (hce : P.cellsOf e = 1)
    (h : DataW.trod enc P W base spare held fuel t [c0, c1] = some x) :
    ∃ y0 y1 n, DataW.trod enc P W base spare held n e [c0] = some y0 ∧ DataW.trod enc P W base spare held n e [c1] = some y1 := by
  cases fuel with
  | zero => simp [DataW.trod] at h
  | succ n =>
    unfold DataW.trod at h
    rw [ht] at h
    have r2 : List.range 2 = [0, 1] := rfl
    simp [r2, hce] at h
    obtain ⟨_, h⟩ := h
    cases h0 : DataW.trod enc P W base spare held n e [c0] with
    | none => simp [h0] at h
    | some y0 =>
      cases h1 : DataW.trod enc P W base spare held n e [c1] with
      | none => simp [h0, h1] at h
      | some y1 => exact ⟨y0, y1, n, h0, h1⟩

theorem open_prs {v : Value} {d : DataW H} {p : List MemPlace} {b0 : Nat} (hv : Value.okWide Try.prog W .any b0 58 v) (h : DataW.Trod enc Try.prog W base (fun _ => true) true 58 v d p) :
    ∃ g : Prs, v = .slice g.ao g.len g.cap ∧ g.At W := by
  obtain ⟨a0, len0, cap0, rfl⟩ := okWide_slice Try.underlying58 hv
  obtain ⟨fuel, hf⟩ := h
  rcases open_slice Try.underlying58 hf with ⟨hcs, _⟩ | ⟨a, len, cap, m, n, D, Pl, hcs, _, hl, hm, hmm, _, hx⟩
  · simp [Value.cells] at hcs
    obtain ⟨rfl, rfl, rfl⟩ := hcs
    exact ⟨⟨none, 0, 0, 0, 0, fun _ => 0, fun _ => 0⟩, rfl, ⟨Nat.le_refl _, fun h => absurd h (Nat.lt_irrefl _), Nat.zero_le _, fun _ h => absurd h (Nat.not_lt_zero _), fun _ h => absurd h (Nat.not_lt_zero _)⟩⟩
  · simp [Value.cells] at hcs
    obtain ⟨rfl, rfl, rfl⟩ := hcs
    simp only [if_true] at hmm
    unfold maxLen at hm
    have each : ∀ i, i < m → ∃ q : Int × Int, W.cell? (a.add (i * 2)) = some (.int .i64 q.1) ∧ W.cell? (a.add (i * 2 + 1)) = some (.int .i64 q.2) := by
      intro i hi
      obtain ⟨cs', h1, h2⟩ := hx i hi
      rw [Try.cellsPair] at h1
      obtain ⟨_, hlen, hcell⟩ := World.cells?_some h1
      match cs', hlen with
      | [v0, v1], _ =>
        have e0 := hcell 0 (by omega)
        have e1 := hcell 1 (by omega)
        rw [add_add] at e0 e1
        obtain ⟨y0, y1, k, g0, g1⟩ := trod_array2 Try.underlying41 Try.cellsInt h2
        obtain ⟨x, q0, _⟩ := DataW.trod_int Try.underlying3 g0
        obtain ⟨y, q1, _⟩ := DataW.trod_int Try.underlying3 g1
        simp at q0 q1
        subst q0 q1
        exact ⟨(x, y), by simpa using e0, by simpa using e1⟩
    obtain ⟨q, hq⟩ := choose_lt each
    have hspot : 0 < m → a = ⟨a.block, a.off, none⟩ := fun hp => by
      have hs := World.cell?_spot (hq 0 hp).1
      obtain ⟨ab, ao, asp⟩ := a
      have : asp = none := by simpa [Addr.add] using hs
      subst this; rfl
    refine ⟨⟨some a, a.block, a.off, len0, cap0, fun i => (q i).1, fun i => (q i).2⟩, rfl, ⟨hl, fun hp => congrArg some (hspot (by have : 0 < len0 := hp; omega)), Nat.le_trans hl hm, fun i hi => ?_, fun i hi => ?_⟩⟩
    · have hi' : i < len0 := hi
      have := (hq i (by omega)).1
      rw [hspot (by omega), addr_plain] at this
      exact this
    · have hi' : i < len0 := hi
      have := (hq i (by omega)).2
      rw [hspot (by omega), addr_plain, ← Nat.add_assoc] at this
      exact this
end
end Go.Proofs.Ytlknlnhbmamcbaa

/- A pair of numbers that comes in, opened. -/
namespace Go.Proofs.Ytlknlnhbmamcbaa
open Go.ChangeShapes Go.WideShapes Go.ChangeAt Go.RowKit Go.Deep Go.Joins

section
variable {H : Type} {enc : TypeId × Value → H} {W : World} {base : Nat}
theorem open_pair {v : Value} {d : DataW H} {p : List MemPlace} {b0 : Nat} (hv : Value.okWide Try.prog W .any b0 41 v) (h : DataW.Trod enc Try.prog W base (fun _ => true) true 41 v d p) :
    ∃ a b : Int, v = .agg #[.int .i64 a, .int .i64 b] := by
  simp only [Value.okWide, Try.underlying41] at hv
  obtain ⟨⟨cs⟩, rfl, hsz, _⟩ := hv
  rw [Try.cellsPair] at hsz
  have hl : cs.length = 2 := hsz
  match cs, hl with
  | [c0, c1], _ =>
    obtain ⟨fuel, hf⟩ := h
    have hf' : DataW.trod enc Try.prog W base (fun _ => true) true fuel 41 [c0, c1] = some (d, p) := by simpa [Value.cells] using hf
    obtain ⟨y0, y1, k, g0, g1⟩ := trod_array2 Try.underlying41 Try.cellsInt hf'
    obtain ⟨x, q0, _⟩ := DataW.trod_int Try.underlying3 g0
    obtain ⟨y, q1, _⟩ := DataW.trod_int Try.underlying3 g1
    simp at q0 q1
    subst q0 q1
    exact ⟨x, y, rfl⟩
end
end Go.Proofs.Ytlknlnhbmamcbaa
