/- Layer 6: the reference's Same. -/
import Derived.Test.YtcoeefckldkbeaaGreatDoorP13
import Derived.Test.YtcoeefckldkbeaaGreatDoorP10
import Derived.Test.YtcoeefckldkbeaaGreatDoorP4
import Derived.Test.YtcoeefckldkbeaaGreatDoorP9
import Derived.Test.YtcoeefckldkbeaaGreatDoorP7
namespace Go.Proofs.YtcoeefckldkbeaaGreatDoor
open Go Go.RowKit

theorem lk_cases9 (s t : Ex) : ((s.k == t.k) = false ∧ s.lk t = false) ∨ ((s.k == t.k) = true ∧ (s.n == t.n) = false ∧ s.lk t = false) ∨ ((s.k == t.k) = true ∧ (s.n == t.n) = true ∧ (s.m == t.m) = false ∧ s.lk t = false) ∨ ((s.k == t.k) = true ∧ (s.n == t.n) = true ∧ (s.m == t.m) = true ∧ (s.tx.toList == t.tx.toList) = false ∧ s.lk t = false) ∨ ((s.k == t.k) = true ∧ (s.n == t.n) = true ∧ (s.m == t.m) = true ∧ (s.tx.toList == t.tx.toList) = true ∧ (s.ar.toList == t.ar.toList) = false ∧ s.lk t = false) ∨ ((s.k == t.k) = true ∧ (s.n == t.n) = true ∧ (s.m == t.m) = true ∧ (s.tx.toList == t.tx.toList) = true ∧ (s.ar.toList == t.ar.toList) = true ∧ s.ty.same t.ty = false ∧ s.lk t = false) ∨ ((s.k == t.k) = true ∧ (s.n == t.n) = true ∧ (s.m == t.m) = true ∧ (s.tx.toList == t.tx.toList) = true ∧ (s.ar.toList == t.ar.toList) = true ∧ s.ty.same t.ty = true ∧ s.gv.same t.gv = false ∧ s.lk t = false) ∨ ((s.k == t.k) = true ∧ (s.n == t.n) = true ∧ (s.m == t.m) = true ∧ (s.tx.toList == t.tx.toList) = true ∧ (s.ar.toList == t.ar.toList) = true ∧ s.ty.same t.ty = true ∧ s.gv.same t.gv = true ∧ ((s.len : Int) == t.len) = false ∧ s.lk t = false) ∨ ((s.k == t.k) = true ∧ (s.n == t.n) = true ∧ (s.m == t.m) = true ∧ (s.tx.toList == t.tx.toList) = true ∧ (s.ar.toList == t.ar.toList) = true ∧ s.ty.same t.ty = true ∧ s.gv.same t.gv = true ∧ ((s.len : Int) == t.len) = true ∧ s.lk t = true) := by
  unfold Ex.lk
  cases (s.k == t.k) <;> cases (s.n == t.n) <;> cases (s.m == t.m) <;> cases (s.tx.toList == t.tx.toList) <;> cases (s.ar.toList == t.ar.toList) <;> cases s.ty.same t.ty <;> cases s.gv.same t.gv <;> cases ((s.len : Int) == t.len) <;> simp
set_option maxRecDepth 100000 in
set_option maxHeartbeats 8000000 in
theorem ersame_any : ∀ (s t : Ex) (w : World), s.At w → t.At w → Calls Tryz.prog 7 #[.agg s.va, .agg t.va] w fun e w' => e = .returned (.bool (s.alk t)) ∧ Below w.heap.size w w' := by
  intro s
  induction s using Ex.ind with
  | h s ih =>
  intro t w hs ht
  have HIH : Hid (∀ i, i < s.len → ∀ (t : Ex) (w : World), (s.ps i).At w → t.At w → Calls Tryz.prog 7 #[.agg (s.ps i).va, .agg t.va] w fun e w' => e = .returned (.bool ((s.ps i).alk t)) ∧ Below w.heap.size w w') := ih
  clear ih
  obtain ⟨X0, Y0, B0⟩ := start_ee w s t
  have b1 := hs.bound
  have b2 := ht.bound
  have H1 := fun u (hu : Below w.heap.size w u) => rSame_any2 s.ty t.ty u (hs.kept hu).ty (ht.kept hu).ty
  have H2 := fun u (hu : Below w.heap.size w u) => rSame_any2 s.gv t.gv u (hs.kept hu).gv (ht.kept hu).gv
  have HA : Hid (s.At w ∧ t.At w) := ⟨hs, ht⟩
  have HQ : Hid (s.alk t = (s.lk t && decide (∀ i, i < s.len → (s.ps i).alk (t.ps i) = true))) := alk_eq s t
  clear hs ht
  go_enter Tryz.func7, Tryz.ntmps7
  go_upto_region 1 with fail
  generalize (w.alloc (.cells s.va 27)).alloc (.cells t.va 27) = w2 at *
  generalize s.va = V at *
  generalize t.va = U at *
  rcases lk_cases9 s t with ⟨f0, hE⟩ | ⟨f0, f1, hE⟩ | ⟨f0, f1, f2, hE⟩ | ⟨f0, f1, f2, f3, hE⟩ | ⟨f0, f1, f2, f3, f4, hE⟩ | ⟨f0, f1, f2, f3, f4, f5, hE⟩ | ⟨f0, f1, f2, f3, f4, f5, f6, hE⟩ | ⟨f0, f1, f2, f3, f4, f5, f6, f7, hE⟩ | ⟨f0, f1, f2, f3, f4, f5, f6, f7, hE⟩
  · have HE : Hid (s.alk t = false) := by show s.alk t = false; rw [HQ.out, hE]; rfl
    clear hE
    have g0 : (s.k != t.k) = true := by simp only [bne, f0]; rfl
    clear H1 H2
    have x0 := X0.c0
    have y0 := Y0.c0
    clear X0 Y0
    go_wp2
    go_ret
    exact ⟨ret_bool HE.out.symm, B0⟩
  · have HE : Hid (s.alk t = false) := by show s.alk t = false; rw [HQ.out, hE]; rfl
    clear hE
    have g0 : (s.k != t.k) = false := by simp only [bne, f0]; rfl
    have g1 : (s.n != t.n) = true := by simp only [bne, f1]; rfl
    clear H1 H2
    have x0 := X0.c0
    have y0 := Y0.c0
    have x1 := X0.c1
    have y1 := Y0.c1
    clear X0 Y0
    go_wp2
    go_ret
    exact ⟨ret_bool HE.out.symm, B0⟩
  · have HE : Hid (s.alk t = false) := by show s.alk t = false; rw [HQ.out, hE]; rfl
    clear hE
    have g0 : (s.k != t.k) = false := by simp only [bne, f0]; rfl
    have g1 : (s.n != t.n) = false := by simp only [bne, f1]; rfl
    have g2 : (s.m != t.m) = true := by simp only [bne, f2]; rfl
    clear H1 H2
    have x0 := X0.c0
    have y0 := Y0.c0
    have x1 := X0.c1
    have y1 := Y0.c1
    have x2 := X0.c2
    have y2 := Y0.c2
    clear X0 Y0
    go_wp2
    go_ret
    exact ⟨ret_bool HE.out.symm, B0⟩
  · have HE : Hid (s.alk t = false) := by show s.alk t = false; rw [HQ.out, hE]; rfl
    clear hE
    have g0 : (s.k != t.k) = false := by simp only [bne, f0]; rfl
    have g1 : (s.n != t.n) = false := by simp only [bne, f1]; rfl
    have g2 : (s.m != t.m) = false := by simp only [bne, f2]; rfl
    have g3 : (s.tx.toList != t.tx.toList) = true := by simp only [bne, f3]; rfl
    clear H1 H2
    have x0 := X0.c0
    have y0 := Y0.c0
    have x1 := X0.c1
    have y1 := Y0.c1
    have x2 := X0.c2
    have y2 := Y0.c2
    have x3 := X0.c3
    have y3 := Y0.c3
    clear X0 Y0
    go_wp2
    go_ret
    exact ⟨ret_bool HE.out.symm, B0⟩
  · have HE : Hid (s.alk t = false) := by show s.alk t = false; rw [HQ.out, hE]; rfl
    clear hE
    have g0 : (s.k != t.k) = false := by simp only [bne, f0]; rfl
    have g1 : (s.n != t.n) = false := by simp only [bne, f1]; rfl
    have g2 : (s.m != t.m) = false := by simp only [bne, f2]; rfl
    have g3 : (s.tx.toList != t.tx.toList) = false := by simp only [bne, f3]; rfl
    have g4 : (s.ar.toList != t.ar.toList) = true := by simp only [bne, f4]; rfl
    clear H1 H2
    have x0 := X0.c0
    have y0 := Y0.c0
    have x1 := X0.c1
    have y1 := Y0.c1
    have x2 := X0.c2
    have y2 := Y0.c2
    have x3 := X0.c3
    have y3 := Y0.c3
    have x4 := X0.c4
    have y4 := Y0.c4
    clear X0 Y0
    go_wp2
    go_ret
    exact ⟨ret_bool HE.out.symm, B0⟩
  · have HE : Hid (s.alk t = false) := by show s.alk t = false; rw [HQ.out, hE]; rfl
    clear hE
    have g0 : (s.k != t.k) = false := by simp only [bne, f0]; rfl
    have g1 : (s.n != t.n) = false := by simp only [bne, f1]; rfl
    have g2 : (s.m != t.m) = false := by simp only [bne, f2]; rfl
    have g3 : (s.tx.toList != t.tx.toList) = false := by simp only [bne, f3]; rfl
    have g4 : (s.ar.toList != t.ar.toList) = false := by simp only [bne, f4]; rfl
    clear H2
    have x0 := X0.c0
    have y0 := Y0.c0
    have x1 := X0.c1
    have y1 := Y0.c1
    have x2 := X0.c2
    have y2 := Y0.c2
    have x3 := X0.c3
    have y3 := Y0.c3
    have x4 := X0.c4
    have y4 := Y0.c4
    have x5 := X0.c5
    have y5 := Y0.c5
    have x6 := X0.c6
    have y6 := Y0.c6
    have x7 := X0.c7
    have y7 := Y0.c7
    have x8 := X0.c8
    have y8 := Y0.c8
    have x9 := X0.c9
    have y9 := Y0.c9
    go_wp2_with fail
    refine (H1 _ B0).mono ?_
    rintro _ u1 ⟨rfl, c1⟩
    have B1 := Below.next B0 c1
    rw [f5]
    go_wp2
    go_ret
    exact ⟨ret_bool HE.out.symm, B1⟩
  · have HE : Hid (s.alk t = false) := by show s.alk t = false; rw [HQ.out, hE]; rfl
    clear hE
    have g0 : (s.k != t.k) = false := by simp only [bne, f0]; rfl
    have g1 : (s.n != t.n) = false := by simp only [bne, f1]; rfl
    have g2 : (s.m != t.m) = false := by simp only [bne, f2]; rfl
    have g3 : (s.tx.toList != t.tx.toList) = false := by simp only [bne, f3]; rfl
    have g4 : (s.ar.toList != t.ar.toList) = false := by simp only [bne, f4]; rfl
    have x0 := X0.c0
    have y0 := Y0.c0
    have x1 := X0.c1
    have y1 := Y0.c1
    have x2 := X0.c2
    have y2 := Y0.c2
    have x3 := X0.c3
    have y3 := Y0.c3
    have x4 := X0.c4
    have y4 := Y0.c4
    have x5 := X0.c5
    have y5 := Y0.c5
    have x6 := X0.c6
    have y6 := Y0.c6
    have x7 := X0.c7
    have y7 := Y0.c7
    have x8 := X0.c8
    have y8 := Y0.c8
    have x9 := X0.c9
    have y9 := Y0.c9
    go_wp2_with fail
    refine (H1 _ B0).mono ?_
    rintro _ u1 ⟨rfl, c1⟩
    have B1 := Below.next B0 c1
    clear x0 y0 x1 y1 x2 y2 x3 y3 x4 y4 x5 y5 x6 y6 x7 y7 x8 y8 x9 y9
    rw [f5]
    have X1 := X0.kept c1
    have Y1 := Y0.kept c1
    have x10 := X1.c10
    have y10 := Y1.c10
    have x11 := X1.c11
    have y11 := Y1.c11
    have x12 := X1.c12
    have y12 := Y1.c12
    have x13 := X1.c13
    have y13 := Y1.c13
    have x14 := X1.c14
    have y14 := Y1.c14
    go_wp2_with fail
    refine (H2 _ B1).mono ?_
    rintro _ u2 ⟨rfl, c2⟩
    have B2 := Below.next B1 c2
    rw [f6]
    go_wp2
    go_ret
    exact ⟨ret_bool HE.out.symm, B2⟩
  · have HE : Hid (s.alk t = false) := by show s.alk t = false; rw [HQ.out, hE]; rfl
    clear hE
    have g0 : (s.k != t.k) = false := by simp only [bne, f0]; rfl
    have g1 : (s.n != t.n) = false := by simp only [bne, f1]; rfl
    have g2 : (s.m != t.m) = false := by simp only [bne, f2]; rfl
    have g3 : (s.tx.toList != t.tx.toList) = false := by simp only [bne, f3]; rfl
    have g4 : (s.ar.toList != t.ar.toList) = false := by simp only [bne, f4]; rfl
    have g7 : ((s.len : Int) != t.len) = true := by simp only [bne, f7]; rfl
    have x0 := X0.c0
    have y0 := Y0.c0
    have x1 := X0.c1
    have y1 := Y0.c1
    have x2 := X0.c2
    have y2 := Y0.c2
    have x3 := X0.c3
    have y3 := Y0.c3
    have x4 := X0.c4
    have y4 := Y0.c4
    have x5 := X0.c5
    have y5 := Y0.c5
    have x6 := X0.c6
    have y6 := Y0.c6
    have x7 := X0.c7
    have y7 := Y0.c7
    have x8 := X0.c8
    have y8 := Y0.c8
    have x9 := X0.c9
    have y9 := Y0.c9
    go_wp2_with fail
    refine (H1 _ B0).mono ?_
    rintro _ u1 ⟨rfl, c1⟩
    have B1 := Below.next B0 c1
    clear x0 y0 x1 y1 x2 y2 x3 y3 x4 y4 x5 y5 x6 y6 x7 y7 x8 y8 x9 y9
    rw [f5]
    have X1 := X0.kept c1
    have Y1 := Y0.kept c1
    have x10 := X1.c10
    have y10 := Y1.c10
    have x11 := X1.c11
    have y11 := Y1.c11
    have x12 := X1.c12
    have y12 := Y1.c12
    have x13 := X1.c13
    have y13 := Y1.c13
    have x14 := X1.c14
    have y14 := Y1.c14
    go_wp2_with fail
    refine (H2 _ B1).mono ?_
    rintro _ u2 ⟨rfl, c2⟩
    have B2 := Below.next B1 c2
    rw [f6]
    have x15 := (X1.kept c2).c15
    have y15 := (Y1.kept c2).c15
    go_wp2
    go_ret
    exact ⟨ret_bool HE.out.symm, B2⟩
  · have HE : Hid (s.alk t = decide (∀ i, i < s.len → (s.ps i).alk (t.ps i) = true)) := by show s.alk t = _; rw [HQ.out, hE]; rfl
    have HLN : Hid (s.len = t.len) := lk_len hE
    clear hE
    have g0 : (s.k != t.k) = false := by simp only [bne, f0]; rfl
    have g1 : (s.n != t.n) = false := by simp only [bne, f1]; rfl
    have g2 : (s.m != t.m) = false := by simp only [bne, f2]; rfl
    have g3 : (s.tx.toList != t.tx.toList) = false := by simp only [bne, f3]; rfl
    have g4 : (s.ar.toList != t.ar.toList) = false := by simp only [bne, f4]; rfl
    have g7 : ((s.len : Int) != t.len) = false := by simp only [bne, f7]; rfl
    have x0 := X0.c0
    have y0 := Y0.c0
    have x1 := X0.c1
    have y1 := Y0.c1
    have x2 := X0.c2
    have y2 := Y0.c2
    have x3 := X0.c3
    have y3 := Y0.c3
    have x4 := X0.c4
    have y4 := Y0.c4
    have x5 := X0.c5
    have y5 := Y0.c5
    have x6 := X0.c6
    have y6 := Y0.c6
    have x7 := X0.c7
    have y7 := Y0.c7
    have x8 := X0.c8
    have y8 := Y0.c8
    have x9 := X0.c9
    have y9 := Y0.c9
    go_wp2_with fail
    refine (H1 _ B0).mono ?_
    rintro _ u1 ⟨rfl, c1⟩
    have B1 := Below.next B0 c1
    clear x0 y0 x1 y1 x2 y2 x3 y3 x4 y4 x5 y5 x6 y6 x7 y7 x8 y8 x9 y9
    rw [f5]
    have X1 := X0.kept c1
    have Y1 := Y0.kept c1
    have x10 := X1.c10
    have y10 := Y1.c10
    have x11 := X1.c11
    have y11 := Y1.c11
    have x12 := X1.c12
    have y12 := Y1.c12
    have x13 := X1.c13
    have y13 := Y1.c13
    have x14 := X1.c14
    have y14 := Y1.c14
    go_wp2_with fail
    refine (H2 _ B1).mono ?_
    rintro _ u2 ⟨rfl, c2⟩
    have B2 := Below.next B1 c2
    rw [f6]
    have X2 := X1.kept c2
    have Y2 := Y1.kept c2
    have x15 := X2.c15
    have y15 := Y2.c15
    clear x10 y10 x11 y11 x12 y12 x13 y13 x14 y14 X1 Y1 X0 Y0 c1 c2 B0 B1 H1 H2 HQ f0 f1 f2 f3 f4 f5 f6 g0 g1 g2 g3 g4
    go_wp2
    clear x15 y15 f7 g7
    have HB2 : Hid (Below w.heap.size w u2 ∧ Bex u2 w.heap.size s ∧ Bex u2 (w.heap.size + 1) t) := ⟨B2, X2, Y2⟩
    clear B2 X2 Y2
    go_loopw [5] (fun i wr => ∃ q : Nat, q ≤ s.len ∧ i = .int .i64 q ∧ (∀ i, i < q → (s.ps i).alk (t.ps i) = true) ∧ Below u2.heap.size u2 wr) (fun i _ => s.len - (intOf i).toNat)
    case atStart => exact ⟨0, Nat.zero_le _, rfl, fun i hi => absurd hi (Nat.not_lt_zero _), Below.refl _ _⟩
    case round =>
      obtain ⟨q, hq, rfl, hdone, hw⟩ := hrel
      have HD : Hid (∀ i, i < q → (s.ps i).alk (t.ps i) = true) := hdone
      have HW : Hid (Below u2.heap.size u2 wr) := hw
      have BW := Below.next HB2.out.1 hw
      have X3 := HB2.out.2.1.kept hw
      have Y3 := HB2.out.2.2.kept hw
      have x15 := X3.c15
      have y15 := Y3.c15
      clear hdone hw
      by_cases hlt : q < s.len
      · have ij : (q : Int) < s.len := by omega
        have hjt : q < t.len := by rw [← HLN.out]; exact hlt
        have ijt : (q : Int) < t.len := by omega
        have a1 := HA.out.1.nil (by omega)
        have a2 := HA.out.2.nil (by omega)
        have C : C17 wr s.b (s.o + q * 17) (s.ps q) := (HA.out.1.kept BW).cells hlt
        have D : C17 wr t.b (t.o + q * 17) (t.ps q) := (HA.out.2.kept BW).cells hjt
        have P : (s.ps q).At wr := (HA.out.1.kept BW).part hlt
        have R : (t.ps q).At wr := (HA.out.2.kept BW).part hjt
        rw [a1] at x15
        rw [a2] at y15
        have H1 : ∀ u, Below wr.heap.size wr u → Calls Tryz.prog 7 #[.agg (s.ps q).va, .agg (t.ps q).va] u fun e w' => e = .returned (.bool ((s.ps q).alk (t.ps q))) ∧ Below u.heap.size u w' := fun u hu => HIH.out q hlt _ u (P.kept hu) (R.kept hu)
        go_wp2
        have m1 := fun z => Gr.cell z x15
        have m2 := fun z => Gr.cell z y15
        have hC : ∀ u, (∃ x : Gr wr, u = x.w) → C17 u s.b (s.o + q * 17) (s.ps q) := fun u ⟨x, hx⟩ => by rw [hx]; exact C.kept x.bl
        have hD : ∀ u, (∃ x : Gr wr, u = x.w) → C17 u t.b (t.o + q * 17) (t.ps q) := fun u ⟨x, hx⟩ => by rw [hx]; exact D.kept x.bl
        have hNE : Nonempty (Gr wr) := ⟨⟨_, Below.refl _ _⟩⟩
        clear C D P R a1 a2
        obtain ⟨x, hx⟩ : ∃ x, x = s.ps q := ⟨_, rfl⟩
        obtain ⟨y, hy⟩ : ∃ y, y = t.ps q := ⟨_, rfl⟩
        rw [← hx] at hC
        rw [← hy] at hD
        rw [← hx, ← hy] at H1
        have HX : Hid (s.ps q = x ∧ t.ps q = y) := ⟨hx.symm, hy.symm⟩
        clear hx hy
        cases hr : x.alk y
        all_goals
          have HR : Hid (x.alk y = _) := hr
          rw [hr] at H1
          clear hr
          refine wp_region_gr (by kernel_rfl) (by kernel_rfl) ?_
          iterate 4 go_big_quiet_step (fail)
          go_big_quiet_want
          refine quiet_load_ex (.tmp 74) rfl _ _ (by kernel_rfl) x hC ?_
          simp only [Act.put, List.setIfInBounds_toArray, List.set_cons_succ, List.set_cons_zero]
          go_big_quiet_on
          iterate 4 go_big_quiet_step (fail)
          go_big_quiet_want
          refine quiet_load_ex (.tmp 79) rfl _ _ (by kernel_rfl) y hD ?_
          simp only [Act.put, List.setIfInBounds_toArray, List.set_cons_succ, List.set_cons_zero]
          go_big_quiet_on
          repeat (first | go_big_quiet_step ((go_at_call 7; exact Calls.gr _ (H1 _ (Gr.bl _)))))
          refine wpQuiet_nil ?_
          rintro w4 ⟨x4, rfl⟩
          have B4 := x4.bl
          generalize x4.w = w4 at B4 ⊢
          clear x4 m1 m2 hNE hC hD H1 x15 y15 X3 Y3
        · go_wp2
          go_ret
          exact ⟨ret_bool (by rw [HE.out]; exact (decide_eq_false (fun hh => absurd (hh q hlt) (by rw [HX.out.1, HX.out.2, HR.out]; decide))).symm), Below.next BW B4⟩
        · go_wp2
          go_roundw
          case rel => exact ⟨q + 1, by omega, by go_num, fun i hi => (by
              by_cases e : i = q
              · subst e; rw [HX.out.1, HX.out.2]; exact HR.out
              · exact HD.out i (by omega)), Below.next HW.out B4⟩
          case measure => simp [intOf]; omega
      · have e : s.len = q := by omega
        have dl : ¬ (q : Int) < s.len := by omega
        go_wp2
        go_ret
        exact ⟨ret_bool (by rw [HE.out]; exact (decide_eq_true (fun i hi => HD.out i (by omega))).symm), BW⟩
end Go.Proofs.YtcoeefckldkbeaaGreatDoor

/- Layer 2: the order looked up; exception labels. -/
namespace Go.Proofs.YtcoeefckldkbeaaGreatDoor
open Go.RowKit

/-- A formed lattice's table, where it lies. -/
def fgrid (N gb go gcap : Nat) (gA : Nat → Option Addr) (gL gC gAB gAO : Nat → Nat) (gB : Nat → Nat → Bool) : Grid := ⟨some ⟨gb, go, none⟩, gb, go, N, gcap, gA, gL, gC, gAB, gAO, gB⟩
theorem ord_cells {n : Strs} {gb go gcap : Nat} {gA : Nat → Option Addr} {gL gC gAB gAO : Nat → Nat} {gB : Nat → Nat → Bool} (hF : formedB n (fgrid n.len gb go gcap gA gL gC gAB gAO gB) = true) {w : World} (hg : (fgrid n.len gb go gcap gA gL gC gAB gAO gB).At w) {x y : Nat} (hx : x < n.len) (hy : y < n.len) :
    w.cell? ⟨gb, go + x, none⟩ = some (.slice (some ⟨gAB x, gAO x, none⟩) n.len (gC x)) ∧ w.cell? ⟨gAB x, gAO x + y, none⟩ = some (.bool (gB x y)) := by
  unfold formedB at hF
  rw [Bool.and_eq_true, Bool.and_eq_true] at hF
  obtain ⟨e1, e2⟩ := squareB_len hF.1.2
  have hL : gL x = n.len := e2 x hx
  have h1 := hg.row x hx
  have h2 : gA x = some ⟨gAB x, gAO x, none⟩ := hg.adr x hx (by show 0 < gL x; omega)
  have h3 := hg.cell x hx y (by show y < gL x; omega)
  refine ⟨?_, h3⟩
  have h1' : w.cell? ⟨gb, go + x, none⟩ = some (.slice (gA x) (gL x) (gC x)) := h1
  rw [h1', h2, hL]

end Go.Proofs.YtcoeefckldkbeaaGreatDoor

/- Layer 2: one step of Below. -/
namespace Go.Proofs.YtcoeefckldkbeaaGreatDoor
open Go.RowKit

/-- A node that is formed, whatever its Parts are. -/
structure Gd (N : Nat) (t : Ty) : Prop where
  ar : (t.len : Int) = arityI t.k
  lab : inR N t.l = true
  bnd : bndI N t.k t.h t.e = true
def stepB (le : Nat → Nat → Bool) (s t : Ty) (p0 p1 : Bool) : Bool := ((s.k == t.k) && le s.l.toNat t.l.toNat) && (if s.k = 3 then p0 && p1 else if s.k = 4 then ((p0 && p1) && le t.h.toNat s.h.toNat) && excB le s.e t.e else if s.k = 5 then (s.ps 0).same (t.ps 0) else true)
theorem bnd4 {N : Nat} {h e : Int} (hb : bndI N 4 h e = true) : inR N h = true ∧ (e = -1 ∨ inR N e = true) := by
  unfold bndI at hb
  rw [if_pos rfl, Bool.and_eq_true, Bool.or_eq_true] at hb
  exact ⟨hb.1, hb.2.imp (fun h => by simpa using h) (fun h => h)⟩

end Go.Proofs.YtcoeefckldkbeaaGreatDoor

/- Layer 2: Below. -/
namespace Go.Proofs.YtcoeefckldkbeaaGreatDoor
open Go.RowKit

theorem fm_gd {N d : Nat} {t : Ty} (h : t.fm N d = true) : Gd N t ∧ d ≤ 6 ∧ ∀ i, i < t.len → (t.ps i).fm N (d + 1) = true := by
  rcases t with _ | ⟨k, l, h', e, ao, b, o, len, cap, ps⟩
  · cases h
  rw [fm_eq] at h
  simp only [Bool.and_eq_true, decide_eq_true_eq, beq_iff_eq] at h
  exact ⟨⟨h.1.1.1.2, h.1.1.2, h.1.2⟩, h.1.1.1.1, h.2⟩
theorem nodes_part {t : Ty} {i : Nat} (h : i < t.len) : (t.ps i).nodes < t.nodes := by
  rw [pn_nodes t]
  have := sumTo_le (fun i => (t.ps i).nodes) h
  unfold Ty.pn
  omega
theorem arity_two {k : Int} (h : k = 3 ∨ k = 4) : arityI k = 2 := by rcases h with h | h <;> subst h <;> rfl
theorem bel_up (le : Nat → Nat → Bool) (s t : Ty) (hs : s ≠ .dm) : s.bel le true t = stepB le s t (if s.k = 4 then (s.ps 0).bel le false (t.ps 0) else (s.ps 0).bel le true (t.ps 0)) ((s.ps 1).bel le true (t.ps 1)) := by
  rcases s with _ | ⟨k, l, h, e, ao, b, o, len, cap, ps⟩
  · exact absurd rfl hs
  clear hs
  show (((k == t.k) && le l.toNat t.l.toNat) && (if k = 3 then (ps 0).bel le true (t.ps 0) && (ps 1).bel le true (t.ps 1) else if k = 4 then (((ps 0).bel le false (t.ps 0) && (ps 1).bel le true (t.ps 1)) && le t.h.toNat h.toNat) && excB le e t.e else if k = 5 then (ps 0).same (t.ps 0) else true)) = (((k == t.k) && le l.toNat t.l.toNat) && (if k = 3 then (if k = 4 then (ps 0).bel le false (t.ps 0) else (ps 0).bel le true (t.ps 0)) && (ps 1).bel le true (t.ps 1) else if k = 4 then (((if k = 4 then (ps 0).bel le false (t.ps 0) else (ps 0).bel le true (t.ps 0)) && (ps 1).bel le true (t.ps 1)) && le t.h.toNat h.toNat) && excB le e t.e else if k = 5 then (ps 0).same (t.ps 0) else true))
  by_cases h3 : k = 3
  · subst h3; rfl
  · by_cases h4 : k = 4
    · subst h4; rfl
    · simp only [if_neg h3, if_neg h4]
theorem bel_dn (le : Nat → Nat → Bool) (s t : Ty) (hs : s ≠ .dm) : s.bel le false t = stepB le t s (if t.k = 4 then (s.ps 0).bel le true (t.ps 0) else (s.ps 0).bel le false (t.ps 0)) ((s.ps 1).bel le false (t.ps 1)) := by
  rcases s with _ | ⟨k, l, h, e, ao, b, o, len, cap, ps⟩
  · exact absurd rfl hs
  clear hs
  show (((t.k == k) && le t.l.toNat l.toNat) && (if t.k = 3 then (ps 0).bel le false (t.ps 0) && (ps 1).bel le false (t.ps 1) else if t.k = 4 then (((ps 0).bel le true (t.ps 0) && (ps 1).bel le false (t.ps 1)) && le h.toNat t.h.toNat) && excB le t.e e else if t.k = 5 then (t.ps 0).same (ps 0) else true)) = (((t.k == k) && le t.l.toNat l.toNat) && (if t.k = 3 then (if t.k = 4 then (ps 0).bel le true (t.ps 0) else (ps 0).bel le false (t.ps 0)) && (ps 1).bel le false (t.ps 1) else if t.k = 4 then (((if t.k = 4 then (ps 0).bel le true (t.ps 0) else (ps 0).bel le false (t.ps 0)) && (ps 1).bel le false (t.ps 1)) && le h.toNat t.h.toNat) && excB le t.e e else if t.k = 5 then (t.ps 0).same (ps 0) else true))
  by_cases h3 : t.k = 3
  · simp only [if_pos h3, if_neg (show ¬ t.k = 4 by omega)]
  · by_cases h4 : t.k = 4
    · simp only [if_pos h4, if_neg h3]
    · simp only [if_neg h3, if_neg h4]

/-- What Below tells. -/
def belB (n : Strs) (g : Grid) (s t : Ty) : Bool := (formedB n g && (s.ok n.len && t.ok n.len)) && s.bel g.B true t
theorem ok_parts {N : Nat} {t : Ty} (h : t.ok N = true) : t.fm N 1 = true ∧ t.nodes ≤ 40 := by
  unfold Ty.ok at h
  rw [Bool.and_eq_true, decide_eq_true_eq] at h
  exact h

end Go.Proofs.YtcoeefckldkbeaaGreatDoor

/- The law's own small lattice, and what is asked of it first; few. -/
namespace Go.Proofs.YtcoeefckldkbeaaGreatDoor
open Go.RowKit

theorem formed_gen {n : Strs} {ao : Option Addr} {gg len cap : Nat} {s : Nat → ByteArray} {R : Nat → Nat} {M : Nat → Nat → Bool} (h1 : n.len = len) (h2 : n.s = s) : formedB n (gridR ao gg len cap R M) = formedM len s M := by
  obtain ⟨ao, b, o, l, c, s'⟩ := n
  simp only at h1 h2
  subst h1 h2
  rfl
theorem grid_set_nil {g : Grid} {w : World} (h : g.At w) {a : Addr} (ha : w.cell? a = some (.slice none 0 0)) (hA : ∀ r, r < g.len → g.A r ≠ none) (v : Value) : g.At (w.setCell a v) where
  lc := h.lc
  nil := h.nil
  bound := h.bound
  lbound := h.lbound
  row := fun r hr => by
    have hc := h.row r hr
    rw [World.cell?_setCell_other _ _ _ _ (fun e => by rw [← e, ha] at hc; injection hc with hc; injection hc with h1 _ _; exact hA r hr h1.symm)]
    exact hc
  adr := h.adr
  cell := fun r hr c hc => by
    have hc := h.cell r hr c hc
    rw [World.cell?_setCell_other _ _ _ _ (fun e => by rw [← e, ha] at hc; cases hc)]
    exact hc
/-- The lattice of two. -/
structure Lt2 (n : Strs) (g : Grid) (w : World) : Prop where
  nat : n.At w
  gat : g.At w
  fd : formedB n g = true
  two : n.len = 2
  le : g.B 0 1 = true
  rows : ∀ r, r < g.len → g.A r ≠ none

/-- A type without Parts. -/
def leafT (k l : Int) : Ty := .mk k l 0 0 none 0 0 0 0 (fun _ => .dm)
theorem leaf_at (k l : Int) (w : World) : (leafT k l).At w := ⟨fun h => absurd h (Nat.lt_irrefl _), Nat.zero_le _, fun _ h => absurd h (Nat.not_lt_zero _)⟩
theorem leaf_ok (l : Int) (N : Nat) (h : inR N l = true) : (leafT 1 l).ok N = true := by
  unfold Ty.ok leafT
  rw [fm_eq, h]
  rfl
theorem two_bel {n : Strs} {g : Grid} {w : World} (h : Lt2 n g w) : belB n g (leafT 1 0) (leafT 1 1) = true := by
  unfold belB
  rw [h.fd, leaf_ok 0 _ (by rw [h.two]; rfl), leaf_ok 1 _ (by rw [h.two]; rfl)]
  show (((1 : Int) == 1) && g.B 0 1 && true) = true
  rw [h.le]; rfl

/-- What few answers. -/
def fewB (n : Strs) (g : Grid) (s t : Ty) : Bool := (smallB n g && decide (s.nodes ≤ 40)) && decide (t.nodes ≤ 40)

end Go.Proofs.YtcoeefckldkbeaaGreatDoor

/- Layer 6: the statements' small and fewer. -/
namespace Go.Proofs.YtcoeefckldkbeaaGreatDoor
open Go.RowKit

theorem sm_mk (k n m : Int) (tx ar : ByteArray) (ty gv : Ty) (ao : Option Addr) (b o len cap : Nat) (ps : Nat → Ex) (pl : Int) : (Ex.mk k n m tx ar ty gv ao b o len cap ps pl).sm = ((((decide (ty.nodes ≤ 40) && decide (gv.nodes ≤ 40)) && decide (tx.size ≤ 1000)) && decide (ar.size ≤ 1000)) && decide (∀ i, i < len → Ex.sm (ps i) = true)) := rfl

/-- Where small's loop stands. -/
structure SmI (w wr : World) (e : Ex) : Prop where
  x : wr.cell? ⟨w.heap.size, 15, none⟩ = some (.slice e.ao e.len e.cap)
  a : e.At wr
  bl : Below w.heap.size w wr
theorem SmI.step {w wr w' : World} {e : Ex} (h : SmI w wr e) (hb : Below wr.heap.size wr w') : SmI w w' e := ⟨up hb h.x, h.a.kept hb, Below.next h.bl hb⟩

set_option maxRecDepth 100000 in
set_option maxHeartbeats 4000000 in
theorem esmall_any : ∀ (t : Ex) (w : World), t.At w → Calls Tryz.prog 10 #[.agg #[.int .i64 t.k, .int .i64 t.n, .int .i64 t.m, .string t.tx, .string t.ar, .int .i64 t.ty.k, .int .i64 t.ty.l, .slice t.ty.ao t.ty.len t.ty.cap, .int .i64 t.ty.h, .int .i64 t.ty.e, .int .i64 t.gv.k, .int .i64 t.gv.l, .slice t.gv.ao t.gv.len t.gv.cap, .int .i64 t.gv.h, .int .i64 t.gv.e, .slice t.ao t.len t.cap, .int .i64 t.pl]] w fun e w' => e = .returned (.bool t.sm) ∧ Below w.heap.size w w' := by
  intro t
  induction t with
  | dm => intro w hAt; exact hAt.elim
  | mk k n m tx ar ty gv ao b o len cap ps pl ih =>
    intro w hAt
    have HE : Hid ((Ex.mk k n m tx ar ty gv ao b o len cap ps pl).sm = ((((decide (ty.nodes ≤ 40) && decide (gv.nodes ≤ 40)) && decide (tx.size ≤ 1000)) && decide (ar.size ≤ 1000)) && decide (∀ i, i < len → Ex.sm (ps i) = true))) := rfl
    show Calls Tryz.prog 10 #[.agg #[.int .i64 k, .int .i64 n, .int .i64 m, .string tx, .string ar, .int .i64 ty.k, .int .i64 ty.l, .slice ty.ao ty.len ty.cap, .int .i64 ty.h, .int .i64 ty.e, .int .i64 gv.k, .int .i64 gv.l, .slice gv.ao gv.len gv.cap, .int .i64 gv.h, .int .i64 gv.e, .slice ao len cap, .int .i64 pl]] w fun r w' => r = .returned (.bool (Ex.mk k n m tx ar ty gv ao b o len cap ps pl).sm) ∧ Below w.heap.size w w'
    generalize hV : (Ex.mk k n m tx ar ty gv ao b o len cap ps pl).sm = V at HE
    clear hV
    have X0 := Bex.new w (.mk k n m tx ar ty gv ao b o len cap ps pl)
    have hb : len ≤ 9223372036854775807 := hAt.bound
    have ht : tx.size ≤ 9223372036854775807 := hAt.tx
    have ha : ar.size ≤ 9223372036854775807 := hAt.ar
    have hnil : 0 < len → ao = some ⟨b, o, none⟩ := hAt.nil
    have B0 := below_alloc w (exO (.mk k n m tx ar ty gv ao b o len cap ps pl))
    have hA1 := hAt.kept B0
    have T1 : ty.At _ := hA1.ty
    clear hAt
    unfold exO at *
    simp only [Ex.k, Ex.n, Ex.m, Ex.tx, Ex.ar, Ex.ty, Ex.gv, Ex.ao, Ex.len, Ex.cap, Ex.pl] at X0 B0 hA1 T1
    have x5 : _ = some (Value.int .i64 ty.k) := X0.c5
    have x6 : _ = some (Value.int .i64 ty.l) := X0.c6
    have x7 : _ = some (Value.slice ty.ao ty.len ty.cap) := X0.c7
    have x8 : _ = some (Value.int .i64 ty.h) := X0.c8
    have x9 : _ = some (Value.int .i64 ty.e) := X0.c9
    go_enter Tryz.func10, Tryz.ntmps10
    go_wp2_with fail
    refine (rSmall2_any ty _ T1).mono ?_
    rintro r w1 ⟨rfl, hb1⟩
    have X1 := X0.kept hb1
    have A1 := hA1.kept hb1
    have B1 := Below.next B0 hb1
    clear x5 x6 x7 x8 x9 X0 hA1 B0 T1 hb1
    by_cases c1 : ty.nodes ≤ 40
    rotate_left
    · rw [decide_eq_false c1] at HE ⊢
      go_wp2
      go_ret
      exact ⟨ret_bool (by have := HE.out; simpa using this.symm), B1⟩
    rw [decide_eq_true c1] at HE ⊢
    clear c1
    have x5 : _ = some (Value.int .i64 gv.k) := X1.c10
    have x6 : _ = some (Value.int .i64 gv.l) := X1.c11
    have x7 : _ = some (Value.slice gv.ao gv.len gv.cap) := X1.c12
    have x8 : _ = some (Value.int .i64 gv.h) := X1.c13
    have x9 : _ = some (Value.int .i64 gv.e) := X1.c14
    have T1 : gv.At _ := A1.gv
    go_wp2_with fail
    refine (rSmall2_any gv _ T1).mono ?_
    rintro r w2 ⟨rfl, hb2⟩
    have X2 := X1.kept hb2
    have A2 := A1.kept hb2
    have B2 := Below.next B1 hb2
    clear x5 x6 x7 x8 x9 X1 A1 B1 T1 hb2
    by_cases c1 : gv.nodes ≤ 40
    rotate_left
    · rw [decide_eq_false c1] at HE ⊢
      go_wp2
      go_ret
      exact ⟨ret_bool (by have := HE.out; simpa using this.symm), B2⟩
    rw [decide_eq_true c1] at HE ⊢
    clear c1
    have x5 : _ = some (Value.string tx) := X2.c3
    have x6 : _ = some (Value.string ar) := X2.c4
    have x7 : w2.cell? ⟨w.heap.size, 15, none⟩ = some (.slice ao len cap) := X2.c15
    have HS : Hid (SmI w w2 (.mk k n m tx ar ty gv ao b o len cap ps pl)) := ⟨x7, A2, B2⟩
    clear X2 A2 B2
    by_cases c1 : tx.size ≤ 1000
    rotate_left
    · rw [decide_eq_false c1] at HE
      have d1 : (1000 : Int) < tx.size := by omega
      go_wp2
      go_ret
      exact ⟨ret_bool (by have := HE.out; simpa using this.symm), HS.out.bl⟩
    rw [decide_eq_true c1] at HE
    have d1 : ¬ (1000 : Int) < tx.size := by omega
    by_cases c2 : ar.size ≤ 1000
    rotate_left
    · rw [decide_eq_false c2] at HE
      have d2 : (1000 : Int) < ar.size := by omega
      go_wp2
      go_ret
      exact ⟨ret_bool (by have := HE.out; simpa using this.symm), HS.out.bl⟩
    rw [decide_eq_true c2] at HE
    have d2 : ¬ (1000 : Int) < ar.size := by omega
    go_wp2
    clear x5 x6 x7
    go_loopw [3] (fun i wr => ∃ j : Nat, j ≤ len ∧ i = .int .i64 j ∧ (∀ q, q < j → Ex.sm (ps q) = true) ∧ Hid (SmI w wr (.mk k n m tx ar ty gv ao b o len cap ps pl))) (fun i _ => len - (intOf i).toNat)
    case atStart => exact ⟨0, Nat.zero_le _, rfl, fun _ h => absurd h (Nat.not_lt_zero _), HS.out⟩
    case round =>
      obtain ⟨j, hj, rfl, hall, HW⟩ := hrel
      clear HS
      have HL : Hid (∀ q, q < j → Ex.sm (ps q) = true) := hall
      clear hall
      have x7 : wr.cell? ⟨w.heap.size, 15, none⟩ = some (.slice ao len cap) := HW.out.x
      by_cases hlt : j < len
      · have ij : (j : Int) < len := by omega
        have j0 : (0 : Int) ≤ j := by omega
        have a0 := hnil (by omega)
        subst a0
        have C : C17 wr b (o + j * 17) (ps j) := HW.out.a.cells hlt
        have P : (ps j).At wr := HW.out.a.part hlt
        obtain ⟨y0, y1, y2, y3, y4, y5, y6, y7, y8, y9, y10, y11, y12, y13, y14, y15, y16⟩ := C
        go_wp2_with fail
        refine (ih j _ P).mono ?_
        rintro r w3 ⟨rfl, hb3⟩
        clear y0 y1 y2 y3 y4 y5 y6 y7 y8 y9 y10 y11 y12 y13 y14 y15 y16 x7 P
        have HW3 : Hid (SmI w w3 (.mk k n m tx ar ty gv (some ⟨b, o, none⟩) b o len cap ps pl)) := HW.out.step hb3
        clear HW hb3
        cases hs : (ps j).sm
        · have HN : Hid (V = false) := by
            show V = false
            rw [HE.out]
            have : ¬ ∀ i, i < len → (ps i).sm = true := fun h => by have := h j hlt; rw [hs] at this; exact Bool.noConfusion this
            simp [this]
          go_wp2
          go_ret
          exact ⟨ret_bool HN.out.symm, HW3.out.bl⟩
        · go_wp2
          go_roundw
          case rel => exact ⟨j + 1, by omega, by go_num, fun q hq => by
            by_cases e : q = j
            · subst e; exact hs
            · exact HL.out q (by omega), HW3.out⟩
          case measure => simp [intOf]; omega
      · have ij : ¬ (j : Int) < len := by omega
        have HN : Hid (V = true) := by
          show V = true
          rw [HE.out]
          have e : j = len := by omega
          subst e
          simp only [decide_eq_true HL.out, Bool.and_self]
        go_wp2
        go_ret
        exact ⟨ret_bool HN.out.symm, HW.out.bl⟩

set_option maxHeartbeats 2000000 in
theorem fewer_any (t : Ex) (w : World) (hA : t.At w) : Calls Tryz.prog 5 #[.agg #[.int .i64 t.k, .int .i64 t.n, .int .i64 t.m, .string t.tx, .string t.ar, .int .i64 t.ty.k, .int .i64 t.ty.l, .slice t.ty.ao t.ty.len t.ty.cap, .int .i64 t.ty.h, .int .i64 t.ty.e, .int .i64 t.gv.k, .int .i64 t.gv.l, .slice t.gv.ao t.gv.len t.gv.cap, .int .i64 t.gv.h, .int .i64 t.gv.e, .slice t.ao t.len t.cap, .int .i64 t.pl]] w fun e w' => e = .returned (.bool (decide (t.nodes ≤ 600) && t.sm)) ∧ Below w.heap.size w w' := by
  have X0 := Bex.new w t
  have B0 := below_alloc w (exO t)
  unfold exO at X0 B0
  obtain ⟨y0, y1, y2, y3, y4, y5, y6, y7, y8, y9, y10, y11, y12, y13, y14, y15, y16⟩ := X0
  have H1 := rexNodes_any t _ (hA.kept B0)
  have H2 := fun w' (h : Below w.heap.size w w') => esmall_any t w' (hA.kept h)
  have HD : Hid (decide (((min t.nodes 2001 : Nat) : Int) ≤ 600) = decide (t.nodes ≤ 600)) := decide_eq_decide.2 (by omega)
  generalize min t.nodes 2001 = q at H1 HD
  generalize decide (t.nodes ≤ 600) = D at HD
  generalize t.sm = S at H2
  go_enter Tryz.func5, Tryz.ntmps5
  go_wp2_with fail
  refine H1.mono ?_
  rintro r w1 ⟨rfl, hb1⟩
  have Z := Bex.kept (e := t) ⟨y0, y1, y2, y3, y4, y5, y6, y7, y8, y9, y10, y11, y12, y13, y14, y15, y16⟩ hb1
  have B1 := Below.next B0 hb1
  clear y0 y1 y2 y3 y4 y5 y6 y7 y8 y9 y10 y11 y12 y13 y14 y15 y16 hb1 H1
  obtain ⟨y0, y1, y2, y3, y4, y5, y6, y7, y8, y9, y10, y11, y12, y13, y14, y15, y16⟩ := Z
  cases D
  · have d : ¬ (q : Int) ≤ 600 := of_decide_eq_false HD.out
    go_wp2
    go_ret
    exact ⟨rfl, B1⟩
  · have d : (q : Int) ≤ 600 := of_decide_eq_true HD.out
    go_wp2_with fail
    refine (H2 _ B1).mono ?_
    rintro r w2 ⟨rfl, hb2⟩
    clear y0 y1 y2 y3 y4 y5 y6 y7 y8 y9 y10 y11 y12 y13 y14 y15 y16
    go_wp2
    go_ret
    exact ⟨ret_bool (by simp), Below.next B1 hb2⟩
end Go.Proofs.YtcoeefckldkbeaaGreatDoor

/- Layer 8: rows of names; slices.Index, slices.Contains. -/
namespace Go.Proofs.YtcoeefckldkbeaaGreatDoor
open Go.RowKit

/-- A slice of these names. -/
def SAt (w : World) (v : Value) (l : List ByteArray) : Prop := ∃ ao b o cap, v = .slice ao l.length cap ∧ (0 < l.length → ao = some ⟨b, o, none⟩) ∧ (ao = none → cap = 0) ∧ l.length ≤ 1000000 ∧ ∀ i s, l[i]? = some s → w.cell? ⟨b, o + i, none⟩ = some (.string s)
theorem SAt.kept {w w' : World} {v : Value} {l : List ByteArray} (h : SAt w v l) (hb : Below w.heap.size w w') : SAt w' v l := by
  obtain ⟨ao, b, o, cap, h1, h2, h3, h4, h5⟩ := h
  exact ⟨ao, b, o, cap, h1, h2, h3, h4, fun i s hs => up hb (h5 i s hs)⟩
/-- One of these, letter by letter. -/
def inL (s : ByteArray) (l : List ByteArray) : Bool := l.any fun x => s.toList == x.toList
theorem SAt.nil (w : World) : SAt w (.slice none 0 0) [] := ⟨none, 0, 0, 0, rfl, fun h => absurd h (Nat.lt_irrefl 0), fun _ => rfl, Nat.zero_le _, by simp⟩

set_option maxRecDepth 100000 in
set_option maxHeartbeats 2000000 in
theorem sIndex_any (l : List ByteArray) (v : Value) (s : ByteArray) (w : World) (hL : SAt w v l) : Calls Tryz.prog 87 #[v, .string s] w fun e w' => ∃ r : Int, e = .returned (.int .i64 r) ∧ (0 ≤ r ↔ inL s l = true) ∧ Below w.heap.size w w' := by
  obtain ⟨ao, b, o, cap, rfl, hnil, _, hlen, hc⟩ := hL
  have HC : Hid (∀ i s, l[i]? = some s → w.cell? ⟨b, o + i, none⟩ = some (.string s)) := hc
  clear hc
  generalize hle : l.length = len at *
  have HL : Hid (l.length = len) := hle
  clear hle
  go_enter Tryz.func87, Tryz.ntmps87
  go_wp2
  go_loopw [8] (fun i wr => ∃ (j : Nat), j ≤ len ∧ i = .int .i64 j ∧ wr = w ∧ inL s (l.take j) = false) (fun i _ => len - (intOf i).toNat)
  case atStart => exact ⟨0, Nat.zero_le _, rfl, rfl, rfl⟩
  case round =>
    obtain ⟨j, hj, rfl, rfl, hn⟩ := hrel
    have HN : Hid (inL s (l.take j) = false) := hn
    clear hn
    by_cases hlt : j < len
    · have ij : (j : Int) < len := by omega
      have a0 := hnil (by omega)
      subst a0
      obtain ⟨x, hx⟩ : ∃ x, l[j]? = some x := ⟨_, List.getElem?_eq_getElem (by rw [HL.out]; exact hlt)⟩
      have c := HC.out j x hx
      have HX : Hid (l[j]? = some x) := hx
      clear hx
      have HT : Hid (inL s (l.take (j + 1)) = (inL s (l.take j) || s.toList == x.toList)) := by
        show _ = _
        rw [List.take_add_one, HX.out]
        unfold inL
        rw [List.any_append]; simp
      cases he : (s.toList == x.toList)
      · have HE : Hid ((s.toList == x.toList) = false) := he
        go_wp2
        go_roundw
        case rel =>
          refine ⟨j + 1, by omega, by go_num, trivial, ?_⟩
          rw [HT.out, HN.out, HE.out]; rfl
        case measure => simp [intOf]; omega
      · have HE : Hid ((s.toList == x.toList) = true) := he
        go_wp2
        go_ret
        refine ⟨j, rfl, ⟨fun _ => ?_, fun _ => by omega⟩, Below.refl _ _⟩
        unfold inL
        rw [List.any_eq_true]
        exact ⟨x, List.mem_of_getElem? HX.out, HE.out⟩
    · have e : j = len := by omega
      subst e
      have d : ¬ (j : Int) < j := by omega
      go_wp2
      go_ret
      refine ⟨-1, rfl, ⟨fun h => by omega, fun h => ?_⟩, Below.refl _ _⟩
      have := HN.out
      rw [← HL.out, List.take_length] at this
      rw [this] at h; cases h
set_option maxHeartbeats 1000000 in
theorem sContains_any (l : List ByteArray) (v : Value) (s : ByteArray) (w : World) (hL : SAt w v l) : Calls Tryz.prog 64 #[v, .string s] w fun e w' => e = .returned (.bool (inL s l)) ∧ Below w.heap.size w w' := by
  have h := sIndex_any l v s w hL
  go_enter Tryz.func64, Tryz.ntmps64
  go_wp2_with fail
  refine h.mono ?_
  rintro _ w1 ⟨r, rfl, hr, hb⟩
  go_wp2
  go_ret
  exact ⟨ret_bool (by cases h0 : inL s l <;> simp [h0] at hr <;> simp <;> omega), hb⟩
end Go.Proofs.YtcoeefckldkbeaaGreatDoor
