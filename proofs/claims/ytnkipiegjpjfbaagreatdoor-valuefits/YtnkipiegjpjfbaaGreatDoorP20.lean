/- Layer 3: the reference's Holds. -/
import Derived.Test.YtnkipiegjpjfbaaGreatDoorP17
import Derived.Test.YtnkipiegjpjfbaaGreatDoorP16
import Derived.Test.YtnkipiegjpjfbaaGreatDoorP19
import Derived.Deep.RegionHeld3
import Derived.Deep.DeepCutAuto
namespace Go.Proofs.YtnkipiegjpjfbaaGreatDoor
open Go.RowKit

/-- What Holds answers, of a formed value. -/
def holdB (n : Strs) (g : Grid) (fs : Fs) (cs : Cs) (t : Ty) (v : Vl) : Bool := okB n g t && v.fit n g fs cs t
/-- Its contract. -/
def RHC (n : Strs) (g : Grid) (fs : Fs) (cs : Cs) (v : Vl) : Prop := ∀ (t : Ty) (w : World), Wo w n g fs cs → v.fm = true → t.At w → v.At w →
  Calls Tryz.prog 27 #[.agg #[.slice n.ao n.len n.cap, .slice g.ao g.len g.cap], .slice fs.ao fs.len fs.cap, .slice cs.ao cs.len cs.cap, .agg #[.int .i64 t.k, .int .i64 t.l, .slice t.ao t.len t.cap, .int .i64 t.h, .int .i64 t.e], .agg #[.int .i64 v.k, .int .i64 v.m, .slice v.ao v.len v.cap]] w fun e w' => e = .returned (.bool (holdB n g fs cs t v)) ∧ Below w.heap.size w w'
/-- The call's variables. -/
structure HB (w z : World) (n : Strs) (g : Grid) (fs : Fs) (cs : Cs) (t : Ty) (v : Vl) : Prop where
  bl : Below w.heap.size w z
  l : Bl z w.heap.size n g
  x : Bx z (w.heap.size + 1) t
  y : Bv z (w.heap.size + 2) v
  wo : Wo z n g fs cs
  ht : t.At z
  hv : v.At z
theorem HB.step {w z z' : World} {n : Strs} {g : Grid} {fs : Fs} {cs : Cs} {t : Ty} {v : Vl} (h : HB w z n g fs cs t v) (hb : Below z.heap.size z z') : HB w z' n g fs cs t v :=
  ⟨Below.next h.bl hb, h.l.kept hb, h.x.kept hb, h.y.kept hb, h.wo.kept hb, h.ht.kept hb, h.hv.kept hb⟩
theorem HB.new {w : World} {n : Strs} {g : Grid} {fs : Fs} {cs : Cs} {t : Ty} {v : Vl} (hw : Wo w n g fs cs) (ht : t.At w) (hv : v.At w) : HB w (((w.alloc (latO n g)).alloc (tyO t)).alloc (vlO v)) n g fs cs t v := by
  have b1 := below_alloc w (latO n g)
  have b2 := below_alloc (w.alloc (latO n g)) (tyO t)
  have b3 := below_alloc ((w.alloc (latO n g)).alloc (tyO t)) (vlO v)
  have e1 : (w.alloc (latO n g)).heap.size = w.heap.size + 1 := alloc_size _ _
  have e2 : ((w.alloc (latO n g)).alloc (tyO t)).heap.size = w.heap.size + 2 := by rw [alloc_size, e1]
  have X0 := (Bx.new (w.alloc (latO n g)) t).kept b3
  have Y0 := Bv.new ((w.alloc (latO n g)).alloc (tyO t)) v
  rw [e1] at X0
  rw [e2] at Y0
  have B0 := Below.next (Below.next b1 b2) b3
  exact ⟨B0, (Bl.new w n g).kept (Below.next b2 b3), X0, Y0, hw.kept B0, ht.kept B0, hv.kept B0⟩
theorem okB_len2 {n : Strs} {g : Grid} {t : Ty} (h : okB n g t = true) : (t.len : Int) = arityI t.k := by
  unfold okB at h
  rw [Bool.and_eq_true] at h
  exact (fm_arity (ok_parts h.2).1).1
theorem hold_pair {n : Strs} {g : Grid} {fs : Fs} {cs : Cs} {m : Int} {ao : Option Addr} {b o cap : Nat} {ps : Nat → Vl} {t : Ty} (hok : okB n g t = true) (hk : t.k = 3) (hl : t.len = 2) : holdB n g fs cs t (.mk 3 m ao b o 2 cap ps) = decide (∀ i : Nat, i < 2 → holdB n g fs cs (t.ps i) (ps i) = true) := by
  have e : holdB n g fs cs t (.mk 3 m ao b o 2 cap ps) = (Vl.fit n g fs cs (ps 0) (t.ps 0) && Vl.fit n g fs cs (ps 1) (t.ps 1)) := by
    unfold holdB
    rw [hok, Vl.fit, hk]; rfl
  rw [e, Bool.eq_iff_iff, Bool.and_eq_true, decide_eq_true_eq]
  constructor
  · intro h i hi
    unfold holdB
    rw [okB_part hok (by omega), Bool.true_and]
    match i, hi with
    | 0, _ => exact h.1
    | 1, _ => exact h.2
  · intro h
    have h0 := h 0 (by omega)
    have h1 := h 1 (by omega)
    unfold holdB at h0 h1
    rw [Bool.and_eq_true] at h0 h1
    exact ⟨h0.2, h1.2⟩

set_option maxRecDepth 100000 in
set_option maxHeartbeats 8000000 in
theorem rHolds_any (n : Strs) (g : Grid) (fs : Fs) (cs : Cs) (hTO : ∀ (f : Fn) (u : World), n.At u → g.At u → f.At u → Calls Tryz.prog 8 #[.agg #[.slice n.ao n.len n.cap, .slice g.ao g.len g.cap], .agg f.vs.toArray] u fun e w' => TP u (typeT n g f) e w') : ∀ v : Vl, RHC n g fs cs v := by
  have HTO : Hid (∀ (f : Fn) (u : World), n.At u → g.At u → f.At u → Calls Tryz.prog 8 #[.agg #[.slice n.ao n.len n.cap, .slice g.ao g.len g.cap], .agg f.vs.toArray] u fun e w' => TP u (typeT n g f) e w') := hTO
  clear hTO
  intro v
  induction v with
  | dm => intro t w _ hf; cases hf
  | mk k m ao b o len cap ps ih =>
    intro t w hw hf ht hv
    show Calls Tryz.prog 27 #[.agg #[.slice n.ao n.len n.cap, .slice g.ao g.len g.cap], .slice fs.ao fs.len fs.cap, .slice cs.ao cs.len cs.cap, .agg #[.int .i64 t.k, .int .i64 t.l, .slice t.ao t.len t.cap, .int .i64 t.h, .int .i64 t.e], .agg #[.int .i64 k, .int .i64 m, .slice ao len cap]] w fun e w' => e = .returned (.bool (holdB n g fs cs t (.mk k m ao b o len cap ps))) ∧ Below w.heap.size w w'
    have K0 := HB.new hw ht hv
    obtain ⟨nd, hp⟩ := vfm_parts hf
    have HP : Hid (∀ i, i < len → (ps i).fm = true) := hp
    have HIH : Hid (∀ i, RHC n g fs cs (ps i)) := ih
    have HND : Hid (ndB k m len = true) := nd
    unfold latO tyO vlO at K0
    simp only [Vl.k, Vl.m, Vl.ao, Vl.len, Vl.cap] at K0
    clear nd hp ih hw hf ht hv
    generalize hRV : holdB n g fs cs t (.mk k m ao b o len cap ps) = RV
    have HRV : Hid (holdB n g fs cs t (.mk k m ao b o len cap ps) = RV) := hRV
    clear hRV
    have hC := rFormed2_any n g t _ K0.wo.hn K0.wo.hg K0.ht
    have l0 := K0.l.c0
    have l1 := K0.l.c1
    have x0 := K0.x.c0
    have x1 := K0.x.c1
    have x2 := K0.x.c2
    have x3 := K0.x.c3
    have x4 := K0.x.c4
    go_enter Tryz.func27, Tryz.ntmps27
    go_wp2_with fail
    refine hC.mono ?_
    rintro e w1 ⟨rfl, hb1⟩
    have K1 := K0.step hb1
    clear K0 hb1 hC l0 l1 x0 x1 x2 x3 x4
    cases hok : okB n g t
    · have HX : Hid (RV = false) := by show RV = false; rw [← HRV.out]; unfold holdB; rw [hok]; rfl
      clear hok
      go_wp2
      go_ret
      exact ⟨ret_bool HX.out.symm, K1.bl⟩
    have HOK : Hid (okB n g t = true) := hok
    clear hok
    have x0 := K1.x.c0
    have v0 : w1.cell? ⟨w.heap.size + 2, 0, none⟩ = some (.int .i64 k) := K1.y.c0
    by_cases hk : t.k = k
    case neg =>
      have hbk : (t.k != k) = true := by simp [hk]
      have HX : Hid (RV = false) := by show RV = false; rw [← HRV.out]; unfold holdB; rw [fit_kind hk, Bool.and_false]
      clear hk
      go_wp2
      go_ret
      exact ⟨ret_bool HX.out.symm, K1.bl⟩
    have hbk : (t.k != k) = false := by simp [hk]
    have HTK : Hid (t.k = k) := hk
    rw [hk] at x0
    have HKL : Hid (HB w w1 n g fs cs t (.mk k m ao b o len cap ps)) := K1
    clear K1
    rcases nd_kind HND.out with rfl | rfl | rfl | rfl | rfl
    · have l2 : len = 0 := by have := HND.out; simp [ndB] at this; exact this
      subst l2
      have HX : Hid (RV = true) := by show RV = true; rw [← HRV.out]; unfold holdB; rw [HOK.out, Vl.fit, HTK.out]; rfl
      have y2 : w1.cell? ⟨w.heap.size + 2, 2, none⟩ = some (.slice ao 0 cap) := HKL.out.y.c2
      clear hk
      go_wp2
      go_loopw [12] (fun i wr => i = .int .i64 0 ∧ wr = w1) (fun _ _ => 0)
      case atStart => exact ⟨rfl, rfl⟩
      case round =>
        obtain ⟨rfl, rfl⟩ := hrel
        go_wp2
        go_ret
        exact ⟨ret_bool HX.out.symm, HKL.out.bl⟩
    · have l2 : len = 0 := by have := HND.out; simp [ndB] at this; exact this.1
      subst l2
      have HX : Hid (RV = true) := by show RV = true; rw [← HRV.out]; unfold holdB; rw [HOK.out, Vl.fit, HTK.out]; rfl
      have y2 : w1.cell? ⟨w.heap.size + 2, 2, none⟩ = some (.slice ao 0 cap) := HKL.out.y.c2
      clear hk
      go_wp2
      go_loopw [12] (fun i wr => i = .int .i64 0 ∧ wr = w1) (fun _ _ => 0)
      case atStart => exact ⟨rfl, rfl⟩
      case round =>
        obtain ⟨rfl, rfl⟩ := hrel
        go_wp2
        go_ret
        exact ⟨ret_bool HX.out.symm, HKL.out.bl⟩
    · have l2 : len = 2 := nd_pair HND.out
      subst l2
      have HTL : Hid (t.len = 2) := by show t.len = 2; have := okB_len2 HOK.out; rw [HTK.out] at this; have e : arityI 3 = 2 := rfl; omega
      have HX : Hid (RV = decide (∀ i : Nat, i < 2 → holdB n g fs cs (t.ps i) (ps i) = true)) := by show RV = _; rw [← HRV.out]; exact hold_pair HOK.out HTK.out HTL.out
      have a1 : ao = some ⟨b, o, none⟩ := HKL.out.hv.nil (by show 0 < 2; omega)
      subst a1
      have tx2 : w1.cell? ⟨w.heap.size + 1, 2, none⟩ = some (.slice (some ⟨t.b, t.o, none⟩) 2 t.cap) := by rw [HKL.out.x.c2, HKL.out.ht.nil (by have := HTL.out; omega), HTL.out]
      have y2 : w1.cell? ⟨w.heap.size + 2, 2, none⟩ = some (.slice (some ⟨b, o, none⟩) 2 cap) := HKL.out.y.c2
      clear hk
      go_wp2
      go_loopw [12] (fun i wr => ∃ j : Nat, j ≤ 2 ∧ i = .int .i64 j ∧ Hid ((∀ i, i < j → holdB n g fs cs (t.ps i) (ps i) = true) ∧ HB w wr n g fs cs t (.mk 3 m (some ⟨b, o, none⟩) b o 2 cap ps))) (fun i _ => 2 - (intOf i).toNat)
      case atStart => exact ⟨0, Nat.zero_le _, rfl, fun _ h => absurd h (Nat.not_lt_zero _), HKL.out⟩
      case round =>
        obtain ⟨j, hj, rfl, HW⟩ := hrel
        clear HKL
        by_cases hlt : j < 2
        · have ij : (j : Int) < 2 := by omega
          have j0 : (0 : Int) ≤ j := by omega
          have HC : Hid (C5 wr t.b (t.o + j * 5) (t.ps j) ∧ (t.ps j).At wr) := ⟨HW.out.2.ht.cells (by have := HTL.out; omega), HW.out.2.ht.part (by have := HTL.out; omega)⟩
          have D : C3 wr b (o + j * 3) (ps j) := HW.out.2.hv.cells hlt
          have l0 := fun z => Gr.cell z HW.out.2.l.c0
          have l1 := fun z => Gr.cell z HW.out.2.l.c1
          have c0 := fun z => Gr.cell z HC.out.1.c0
          have c1 := fun z => Gr.cell z HC.out.1.c1
          have c2 := fun z => Gr.cell z HC.out.1.c2
          have c3 := fun z => Gr.cell z HC.out.1.c3
          have c4 := fun z => Gr.cell z HC.out.1.c4
          have d0 := fun z => Gr.cell z D.c0
          have d1 := fun z => Gr.cell z D.c1
          have d2 := fun z => Gr.cell z D.c2
          have y2 : wr.cell? ⟨w.heap.size + 2, 2, none⟩ = some (.slice (some ⟨b, o, none⟩) 2 cap) := HW.out.2.y.c2
          have z2 := fun z => Gr.cell z y2
          have H1 := fun u (hu : Below wr.heap.size wr u) => HIH.out j (t.ps j) u (HW.out.2.wo.kept hu) (HP.out j hlt) (HC.out.2.kept hu) ((HW.out.2.hv.part hlt).kept hu)
          have hNE : Nonempty (Gr wr) := ⟨⟨_, Below.refl _ _⟩⟩
          clear D y2
          cases hf : holdB n g fs cs (t.ps j) (ps j)
          · rw [hf] at H1
            have HX : Hid (RV = false) := by show RV = false; rw [HX.out]; exact decide_eq_false (fun hh => absurd (hf.symm.trans (hh j hlt)) (by decide))
            clear hf
            go_wp2
            refine wp_region_gr (by kernel_rfl) (by kernel_rfl) ?_
            repeat (first | go_big_quiet_step ((go_at_call 27; exact Calls.gr _ (H1 _ (Gr.bl _)))))
            refine wpQuiet_nil ?_
            rintro w8 ⟨q8, rfl⟩
            have B8 := q8.bl
            generalize q8.w = w8 at B8 ⊢
            clear q8 hNE l0 l1 c0 c1 c2 c3 c4 d0 d1 d2 z2 H1
            go_wp2
            go_ret
            exact ⟨ret_bool HX.out.symm, (HW.out.2.step B8).bl⟩
          · rw [hf] at H1
            have HX : Hid (holdB n g fs cs (t.ps j) (ps j) = true) := hf
            clear hf
            go_wp2
            refine wp_region_gr (by kernel_rfl) (by kernel_rfl) ?_
            repeat (first | go_big_quiet_step ((go_at_call 27; exact Calls.gr _ (H1 _ (Gr.bl _)))))
            refine wpQuiet_nil ?_
            rintro w8 ⟨q8, rfl⟩
            have B8 := q8.bl
            generalize q8.w = w8 at B8 ⊢
            clear q8 hNE l0 l1 c0 c1 c2 c3 c4 d0 d1 d2 z2 H1
            have HK8 : Hid (HB w w8 n g fs cs t (.mk 3 m (some ⟨b, o, none⟩) b o 2 cap ps)) := HW.out.2.step B8
            clear B8 HC
            go_wp2
            go_roundw
            case rel => exact ⟨j + 1, by omega, by go_num, fun i hi => (by
                by_cases e : i = j
                · subst e; exact HX.out
                · exact HW.out.1 i (by omega)), HK8.out⟩
            case measure => simp [intOf]; omega
        · have ij : ¬ (j : Int) < 2 := by omega
          have HX : Hid (RV = true) := by show RV = true; rw [HX.out]; exact decide_eq_true (fun i hi => HW.out.1 i (by omega))
          go_wp2
          go_ret
          exact ⟨ret_bool HX.out.symm, HW.out.2.bl⟩

    · obtain ⟨m0, _⟩ := nd_fun HND.out
      obtain ⟨q, hq⟩ : ∃ q : Nat, m = (q : Nat) := ⟨m.toNat, by omega⟩
      subst hq
      have v1 : w1.cell? ⟨w.heap.size + 2, 1, none⟩ = some (.int .i64 (q : Nat)) := HKL.out.y.c1
      have hfb := HKL.out.wo.hf.bound
      have HEF : Hid (RV = funB n g fs cs (q : Nat) len ps t) := by show RV = _; rw [← HRV.out]; unfold holdB; rw [HOK.out, Vl.fit, HTK.out]; rfl
      clear hk
      by_cases hm : q < fs.len
      case neg =>
        have iq : ¬ (q : Int) < fs.len := by omega
        have HX : Hid (RV = false) := by
          show RV = false
          rw [HEF.out]
          unfold funB
          rw [decide_eq_false iq]
          rfl
        go_upto_region 10 with fail
        have g1 := fun z => Gr.cell z v1
        have hNE : Nonempty (Gr w1) := ⟨⟨_, Below.refl _ _⟩⟩
        refine wp_region_gr (by kernel_rfl) (by kernel_rfl) ?_
        repeat (first | go_big_quiet_step (fail))
        refine wpQuiet_nil ?_
        rintro w8 ⟨q8, rfl⟩
        have B8 := q8.bl
        generalize q8.w = w8 at B8 ⊢
        clear q8 hNE g1
        go_wp2
        go_ret
        exact ⟨ret_bool HX.out.symm, (HKL.out.step B8).bl⟩
      have iq : (q : Int) < fs.len := by omega
      have i0 : (0 : Int) ≤ q := by omega
      have HA2 : Hid (fs.ao = some ⟨fs.b, fs.o, none⟩) := HKL.out.wo.hf.nil (by omega)
      go_upto_region 10 with fail
      clear x0 v0 v1
      go_cut [69] (fun c wx => c = .bool (!belB n g (typeT n g (fs.f q)) t) ∧ Hid (HB w wx n g fs cs t (.mk 4 (q : Nat) ao b o len cap ps)))
      case first =>
          have D1 : Below w1.heap.size w1 w1.drew := (Below.refl _ _).drew
          have key := fun a (ha : Below w1.heap.size w1 a) => (⟨(HKL.out.step ha).l.c0, (HKL.out.step ha).l.c1, (HKL.out.step ha).y.c1, ((HKL.out.step ha).wo.hf.cells q hm).range, (HKL.out.step ha).x.c0, (HKL.out.step ha).x.c1, (HKL.out.step ha).x.c2, (HKL.out.step ha).x.c3, (HKL.out.step ha).x.c4⟩ : (fun q0 : World => q0.cell? ⟨w.heap.size, 0, none⟩ = some (.slice n.ao n.len n.cap) ∧ q0.cell? ⟨w.heap.size, 1, none⟩ = some (.slice g.ao g.len g.cap) ∧ q0.cell? ⟨w.heap.size + 2, 1, none⟩ = some (.int .i64 (q : Nat)) ∧ q0.rangeAt fs.b (fs.o + q * 18) (fs.f q).vs ∧ q0.cell? ⟨w.heap.size + 1, 0, none⟩ = some (.int .i64 t.k) ∧ q0.cell? ⟨w.heap.size + 1, 1, none⟩ = some (.int .i64 t.l) ∧ q0.cell? ⟨w.heap.size + 1, 2, none⟩ = some (.slice t.ao t.len t.cap) ∧ q0.cell? ⟨w.heap.size + 1, 3, none⟩ = some (.int .i64 t.h) ∧ q0.cell? ⟨w.heap.size + 1, 4, none⟩ = some (.int .i64 t.e)) a)
          have hS := key _ D1
          refine wp_region_held_drew (S := (fun q0 : World => q0.cell? ⟨w.heap.size, 0, none⟩ = some (.slice n.ao n.len n.cap) ∧ q0.cell? ⟨w.heap.size, 1, none⟩ = some (.slice g.ao g.len g.cap) ∧ q0.cell? ⟨w.heap.size + 2, 1, none⟩ = some (.int .i64 (q : Nat)) ∧ q0.rangeAt fs.b (fs.o + q * 18) (fs.f q).vs ∧ q0.cell? ⟨w.heap.size + 1, 0, none⟩ = some (.int .i64 t.k) ∧ q0.cell? ⟨w.heap.size + 1, 1, none⟩ = some (.int .i64 t.l) ∧ q0.cell? ⟨w.heap.size + 1, 2, none⟩ = some (.slice t.ao t.len t.cap) ∧ q0.cell? ⟨w.heap.size + 1, 3, none⟩ = some (.int .i64 t.h) ∧ q0.cell? ⟨w.heap.size + 1, 4, none⟩ = some (.int .i64 t.e))) (by kernel_rfl) hS (fun _ => ?_)
          refine wpAnyH_take (i := 0) (v := .pointer (some ⟨w.heap.size + 2, 1, none⟩)) rfl (by kernel_rfl) (by kernel_rfl) (by kernel_rfl) (fun _ _ _ h => h) (Or.inl ⟨by kernel_rfl, ?_⟩) hS ?_
          · intro u hSu
            obtain ⟨r0, r1, r2, _, r3, r4, r5, r6, r7⟩ := hSu
            go_simp
          try simp only [Act.put]
          refine wpAnyH_take (i := 1) (v := .int .i64 (q : Nat)) rfl (by kernel_rfl) (by kernel_rfl) (by kernel_rfl) (fun _ _ _ h => h) (Or.inl ⟨by kernel_rfl, ?_⟩) hS ?_
          · intro u hSu
            obtain ⟨r0, r1, r2, _, r3, r4, r5, r6, r7⟩ := hSu
            go_simp
          try simp only [Act.put]
          refine wpAnyH_take (i := 2) (v := .slice fs.ao fs.len fs.cap) rfl (by kernel_rfl) (by kernel_rfl) (by kernel_rfl) (fun _ _ _ h => h) (Or.inl ⟨by kernel_rfl, ?_⟩) hS ?_
          · intro u hSu
            obtain ⟨r0, r1, r2, _, r3, r4, r5, r6, r7⟩ := hSu
            go_simp
          try simp only [Act.put]
          refine wpAnyH_take (i := 3) (v := .int .i64 fs.len) rfl (by kernel_rfl) (by kernel_rfl) (by kernel_rfl) (fun _ _ _ h => h) (Or.inl ⟨by kernel_rfl, ?_⟩) hS ?_
          · intro u hSu
            obtain ⟨r0, r1, r2, _, r3, r4, r5, r6, r7⟩ := hSu
            go_simp
          try simp only [Act.put]
          refine wpAnyH_take (i := 4) (v := .bool false) rfl (by kernel_rfl) (by kernel_rfl) (by kernel_rfl) (fun _ _ _ h => h) (Or.inl ⟨by kernel_rfl, ?_⟩) hS ?_
          · intro u hSu
            obtain ⟨r0, r1, r2, _, r3, r4, r5, r6, r7⟩ := hSu
            go_simp
          try simp only [Act.put]
          refine wpAnyH_take (i := 5) (v := .bool false) rfl (by kernel_rfl) (by kernel_rfl) (by kernel_rfl) (fun _ _ _ h => h) (Or.inl ⟨by kernel_rfl, ?_⟩) hS ?_
          · intro u hSu
            obtain ⟨r0, r1, r2, _, r3, r4, r5, r6, r7⟩ := hSu
            go_simp
          try simp only [Act.put]
          refine wpAnyH_take (i := 6) (v := .agg #[.slice n.ao n.len n.cap, .slice g.ao g.len g.cap]) rfl (by kernel_rfl) (by kernel_rfl) (by kernel_rfl) (fun _ _ _ h => h) (Or.inl ⟨by kernel_rfl, ?_⟩) hS ?_
          · intro u hSu
            obtain ⟨r0, r1, r2, _, r3, r4, r5, r6, r7⟩ := hSu
            go_simp
          try simp only [Act.put]
          refine wpAnyH_take (i := 7) (v := .agg #[.slice n.ao n.len n.cap, .slice g.ao g.len g.cap]) rfl (by kernel_rfl) (by kernel_rfl) (by kernel_rfl) (fun _ _ _ h => h) (Or.inl ⟨by kernel_rfl, ?_⟩) hS ?_
          · intro u hSu
            obtain ⟨r0, r1, r2, _, r3, r4, r5, r6, r7⟩ := hSu
            go_simp
          try simp only [Act.put]
          refine wpAnyH_take (i := 8) (v := .slice fs.ao fs.len fs.cap) rfl (by kernel_rfl) (by kernel_rfl) (by kernel_rfl) (fun _ _ _ h => h) (Or.inl ⟨by kernel_rfl, ?_⟩) hS ?_
          · intro u hSu
            obtain ⟨r0, r1, r2, _, r3, r4, r5, r6, r7⟩ := hSu
            go_simp
          try simp only [Act.put]
          refine wpAnyH_take (i := 9) (v := .pointer (some ⟨w.heap.size + 2, 1, none⟩)) rfl (by kernel_rfl) (by kernel_rfl) (by kernel_rfl) (fun _ _ _ h => h) (Or.inl ⟨by kernel_rfl, ?_⟩) hS ?_
          · intro u hSu
            obtain ⟨r0, r1, r2, _, r3, r4, r5, r6, r7⟩ := hSu
            go_simp
          try simp only [Act.put]
          refine wpAnyH_take (i := 10) (v := .int .i64 (q : Nat)) rfl (by kernel_rfl) (by kernel_rfl) (by kernel_rfl) (fun _ _ _ h => h) (Or.inl ⟨by kernel_rfl, ?_⟩) hS ?_
          · intro u hSu
            obtain ⟨r0, r1, r2, _, r3, r4, r5, r6, r7⟩ := hSu
            go_simp
          try simp only [Act.put]
          refine wpAnyH_take (i := 11) (v := .pointer (some ⟨fs.b, fs.o + q * 18, none⟩)) rfl (by kernel_rfl) (by kernel_rfl) (by kernel_rfl) (fun _ _ _ h => h) (Or.inl ⟨by kernel_rfl, ?_⟩) hS ?_
          · intro u hSu
            obtain ⟨r0, r1, r2, _, r3, r4, r5, r6, r7⟩ := hSu
            have a2 := HA2.out
            go_simp
          try simp only [Act.put]
          refine wpAnyH_take (i := 12) (v := .agg (fs.f q).vs.toArray) rfl (by kernel_rfl) (by kernel_rfl) (by kernel_rfl) (fun _ _ _ h => h) (yieldsIf_load_mid (by kernel_rfl) 45 (.tmp 63) rfl fs.b (fs.o + q * 18) (by kernel_rfl) (fs.f q).vs _ (fun _ h => h.2.2.2.1) Tryz.underlying45 rfl (by kernel_rfl)) hS ?_
          try simp only [Act.put]
          refine wpAnyH_take (i := 14) (v := .agg #[.int .i64 t.k, .int .i64 t.l, .slice t.ao t.len t.cap, .int .i64 t.h, .int .i64 t.e]) rfl (by kernel_rfl) (by kernel_rfl) (by kernel_rfl) (fun _ _ _ h => h) (Or.inl ⟨by kernel_rfl, ?_⟩) hS ?_
          · intro u hSu
            obtain ⟨r0, r1, r2, _, r3, r4, r5, r6, r7⟩ := hSu
            go_simp
          try simp only [Act.put]
          refine wpAnyH_ready (rs := [13]) (by kernel_rfl) (by simp) ?_
          refine AllReadyH.cons rfl (fun K hK => ?_) AllReadyH.nil
          go_simp
          refine (HTO.out (fs.f q) _ (HKL.out.step D1).wo.hn (HKL.out.step D1).wo.hg ((HKL.out.step D1).wo.hf.part q hm)).mono ?_
          intro e w5 hTP
          obtain ⟨y, rfl, yA, yS, hb5⟩ := hTP
          have C5 := Below.next D1 hb5
          have hBl : Calls Tryz.prog 47 #[.agg #[.slice n.ao n.len n.cap, .slice g.ao g.len g.cap], .agg #[.int .i64 y.k, .int .i64 y.l, .slice y.ao y.len y.cap, .int .i64 y.h, .int .i64 y.e], .agg #[.int .i64 t.k, .int .i64 t.l, .slice t.ao t.len t.cap, .int .i64 t.h, .int .i64 t.e]] w5 fun e w' => e = .returned (.bool (belB n g (typeT n g (fs.f q)) t)) ∧ Below w5.heap.size w5 w' := by
            have := rBelow2_any n g y t w5 (HKL.out.step C5).wo.hn (HKL.out.step C5).wo.hg yA (HKL.out.step C5).ht
            rwa [bel_same yA.nd (type_nd ((HKL.out.step C5).wo.hf.part q hm)) yS] at this
          clear yS
          go_wp2_with fail
          refine hK.out _ _ (key _ C5) (fun hS5 => ?_)
          clear hK K
          try simp only [Act.put]
          refine wpAnyH_ready (rs := [15]) (by kernel_rfl) (by simp) ?_
          refine AllReadyH.cons rfl (fun K hK => ?_) AllReadyH.nil
          go_simp
          refine hBl.mono ?_
          rintro e w6 ⟨rfl, hb6⟩
          have C6 := Below.next C5 hb6
          go_wp2_with fail
          refine hK.out _ _ (key _ C6) (fun hS6 => ?_)
          clear hK K
          try simp only [Act.put]
          refine wpAnyH_ready (rs := [16]) (by kernel_rfl) (by simp) ?_
          refine AllReadyH.cons rfl (fun K hK => ?_) AllReadyH.nil
          go_simp
          refine hK.out _ _ (key _ C6) (fun hS7 => ?_)
          clear hK K
          try simp only [Act.put]
          refine wpAnyH_ready (rs := [17]) (by kernel_rfl) (by simp) ?_
          refine AllReadyH.cons rfl (fun K hK => ?_) AllReadyH.nil
          go_simp
          refine hK.out _ _ (key _ C6) (fun hS8 => ?_)
          clear hK K
          try simp only [Act.put]
          refine wpAnyH_done (by kernel_rfl) ?_ _
          go_wp2
          go_meet
          case rel => exact ⟨rfl, HKL.out.step C6⟩
      case rest =>
        obtain ⟨hc, HK9⟩ := hcut
        clear HKL
        cases hb9 : belB n g (typeT n g (fs.f q)) t
        · rw [hb9] at hc
          subst hc
          have HX : Hid (RV = false) := by
            show RV = false
            rw [HEF.out]
            unfold funB
            rw [show ((q : Nat) : Int).toNat = q from Int.toNat_natCast q, hb9, Bool.and_false, Bool.and_false]
            rfl
          clear hb9
          go_wp2
          go_ret
          exact ⟨ret_bool HX.out.symm, HK9.out.bl⟩
        rw [hb9] at hc
        subst hc
        have HEG : Hid (RV = ((len == (fs.f q).c.len) && decide (∀ i, i < len → holdB n g fs cs ((fs.f q).c.ps i) (ps i) = true))) := by
          show RV = _
          rw [HEF.out]
          unfold funB holdB
          rw [show ((q : Nat) : Int).toNat = q from Int.toNat_natCast q, hb9, decide_eq_true iq, Bool.and_true, Bool.true_and]
        clear hb9 HEF
        have cb := (HK9.out.wo.hf.part q hm).c.bound
        have F18 := HK9.out.wo.hf.cells q hm
        have c10 := F18.c10
        have y1 : _ = some (Value.int .i64 (q : Nat)) := HK9.out.y.c1
        have y2 : _ = some (Value.slice ao len cap) := HK9.out.y.c2
        have vb : len ≤ 9223372036854775807 := HK9.out.hv.bound
        clear F18
        rw [HA2.out]
        by_cases hl : len = (fs.f q).c.len
        case neg =>
          have bl : (((fs.f q).c.len : Int) != len) = true := by rw [bne_iff_ne]; omega
          have HX : Hid (RV = false) := by show RV = false; rw [HEG.out, beq_eq_false_iff_ne.2 hl]; rfl
          go_wp2
          go_ret
          exact ⟨ret_bool HX.out.symm, HK9.out.bl⟩
        have HLE : Hid (len = (fs.f q).c.len) := hl
        have HX : Hid (RV = decide (∀ i, i < len → holdB n g fs cs ((fs.f q).c.ps i) (ps i) = true)) := by show RV = _; rw [HEG.out, beq_iff_eq.2 hl, Bool.true_and]
        clear HEG cb
        rw [← hl] at c10
        clear hl
        by_cases h0 : len = 0
        · subst h0
          have HXX : Hid (RV = true) := by show RV = true; rw [HX.out]; exact decide_eq_true (fun i hi => absurd hi (Nat.not_lt_zero _))
          go_wp2
          go_loopw [12] (fun i wr => i = .int .i64 0 ∧ Hid (HB w wr n g fs cs t (.mk 4 (q : Nat) ao b o 0 cap ps))) (fun _ _ => 0)
          case atStart => exact ⟨rfl, HK9.out⟩
          case round =>
            obtain ⟨rfl, HV⟩ := hrel
            go_wp2
            go_ret
            exact ⟨ret_bool HXX.out.symm, HV.out.bl⟩
        have a1 : ao = some ⟨b, o, none⟩ := HK9.out.hv.nil (by show 0 < len; omega)
        subst a1
        have a4 := (HK9.out.wo.hf.part q hm).c.nil (by have := HLE.out; omega)
        rw [a4] at c10
        clear a4
        have HKL : Hid (HB w _ n g fs cs t (.mk 4 (q : Nat) (some ⟨b, o, none⟩) b o len cap ps)) := HK9.out
        clear HK9
        go_wp2
        go_loopw [12] (fun i wr => ∃ j : Nat, j ≤ len ∧ i = .int .i64 j ∧ Hid ((∀ i, i < j → holdB n g fs cs ((fs.f q).c.ps i) (ps i) = true) ∧ HB w wr n g fs cs t (.mk 4 (q : Nat) (some ⟨b, o, none⟩) b o len cap ps))) (fun i _ => len - (intOf i).toNat)
        case atStart => exact ⟨0, Nat.zero_le _, rfl, fun _ h => absurd h (Nat.not_lt_zero _), HKL.out⟩
        case round =>
          obtain ⟨j, hj, rfl, HW⟩ := hrel
          clear HKL
          by_cases hlt : j < len
          · have ij : (j : Int) < len := by omega
            have j0 : (0 : Int) ≤ j := by omega
            have HC : Hid (C5 wr (fs.f q).c.b ((fs.f q).c.o + j * 5) ((fs.f q).c.ps j) ∧ ((fs.f q).c.ps j).At wr) := ⟨(HW.out.2.wo.hf.part q hm).c.cells (by rw [← HLE.out]; exact hlt), (HW.out.2.wo.hf.part q hm).c.part (by rw [← HLE.out]; exact hlt)⟩
            have D : C3 wr b (o + j * 3) (ps j) := HW.out.2.hv.cells hlt
            have l0 := fun z => Gr.cell z HW.out.2.l.c0
            have l1 := fun z => Gr.cell z HW.out.2.l.c1
            have c0 := fun z => Gr.cell z HC.out.1.c0
            have c1 := fun z => Gr.cell z HC.out.1.c1
            have c2 := fun z => Gr.cell z HC.out.1.c2
            have c3 := fun z => Gr.cell z HC.out.1.c3
            have c4 := fun z => Gr.cell z HC.out.1.c4
            have d0 := fun z => Gr.cell z D.c0
            have d1 := fun z => Gr.cell z D.c1
            have d2 := fun z => Gr.cell z D.c2
            have y2 : wr.cell? ⟨w.heap.size + 2, 2, none⟩ = some (.slice (some ⟨b, o, none⟩) len cap) := HW.out.2.y.c2
            have z2 := fun z => Gr.cell z y2
            have H1 := fun u (hu : Below wr.heap.size wr u) => HIH.out j ((fs.f q).c.ps j) u (HW.out.2.wo.kept hu) (HP.out j hlt) (HC.out.2.kept hu) ((HW.out.2.hv.part hlt).kept hu)
            rw [HA2.out] at H1
            have hNE : Nonempty (Gr wr) := ⟨⟨_, Below.refl _ _⟩⟩
            clear D y2
            cases hf : holdB n g fs cs ((fs.f q).c.ps j) (ps j)
            · rw [hf] at H1
              have HX : Hid (RV = false) := by show RV = false; rw [HX.out]; exact decide_eq_false (fun hh => absurd (hf.symm.trans (hh j hlt)) (by decide))
              clear hf
              go_wp2
              refine wp_region_gr (by kernel_rfl) (by kernel_rfl) ?_
              repeat (first | go_big_quiet_step ((go_at_call 27; exact Calls.gr _ (H1 _ (Gr.bl _)))))
              refine wpQuiet_nil ?_
              rintro w8 ⟨q8, rfl⟩
              have B8 := q8.bl
              generalize q8.w = w8 at B8 ⊢
              clear q8 hNE l0 l1 c0 c1 c2 c3 c4 d0 d1 d2 z2 H1
              go_wp2
              go_ret
              exact ⟨ret_bool HX.out.symm, (HW.out.2.step B8).bl⟩
            · rw [hf] at H1
              have HX : Hid (holdB n g fs cs ((fs.f q).c.ps j) (ps j) = true) := hf
              clear hf
              go_wp2
              refine wp_region_gr (by kernel_rfl) (by kernel_rfl) ?_
              repeat (first | go_big_quiet_step ((go_at_call 27; exact Calls.gr _ (H1 _ (Gr.bl _)))))
              refine wpQuiet_nil ?_
              rintro w8 ⟨q8, rfl⟩
              have B8 := q8.bl
              generalize q8.w = w8 at B8 ⊢
              clear q8 hNE l0 l1 c0 c1 c2 c3 c4 d0 d1 d2 z2 H1
              have HK8 : Hid (HB w w8 n g fs cs t (.mk 4 (q : Nat) (some ⟨b, o, none⟩) b o len cap ps)) := HW.out.2.step B8
              clear B8 HC
              go_wp2
              go_roundw
              case rel => exact ⟨j + 1, by omega, by go_num, fun i hi => (by
                  by_cases e : i = j
                  · subst e; exact HX.out
                  · exact HW.out.1 i (by omega)), HK8.out⟩
              case measure => simp [intOf]; omega
          · have ij : ¬ (j : Int) < len := by omega
            have HX : Hid (RV = true) := by show RV = true; rw [HX.out]; exact decide_eq_true (fun i hi => HW.out.1 i (by omega))
            go_wp2
            go_ret
            exact ⟨ret_bool HX.out.symm, HW.out.2.bl⟩

    · have m0 := nd_ref HND.out
      obtain ⟨q, hq⟩ : ∃ q : Nat, m = (q : Nat) := ⟨m.toNat, by omega⟩
      subst hq
      have v1 : w1.cell? ⟨w.heap.size + 2, 1, none⟩ = some (.int .i64 (q : Nat)) := HKL.out.y.c1
      have hcb := HKL.out.wo.hc.bound
      have HTL : Hid (t.len = 1) := by show t.len = 1; have := okB_len2 HOK.out; rw [HTK.out] at this; have e : arityI 5 = 1 := rfl; omega
      have HE : Hid (RV = (decide ((q : Int) < cs.len) && (cs.t q).same (t.ps 0))) := by show RV = _; rw [← HRV.out]; unfold holdB; rw [HOK.out, Vl.fit, HTK.out]; rfl
      clear hk
      go_upto_region 6 with fail
      clear x0 v0
      have g0 := fun z => Gr.cell z v1
      have hNE : Nonempty (Gr w1) := ⟨⟨_, Below.refl _ _⟩⟩
      by_cases hqc : q < cs.len
      · have iq : (q : Int) < cs.len := by omega
        have i0 : (0 : Int) ≤ q := by omega
        have HX : Hid (RV = (cs.t q).same (t.ps 0)) := by show RV = _; rw [HE.out, decide_eq_true iq, Bool.true_and]
        have a3 := HKL.out.wo.hc.nil (by omega)
        have tx2 : w1.cell? ⟨w.heap.size + 1, 2, none⟩ = some (.slice (some ⟨t.b, t.o, none⟩) 1 t.cap) := by rw [HKL.out.x.c2, HKL.out.ht.nil (by have := HTL.out; omega), HTL.out]
        have T0 : C5 w1 t.b (t.o + 0 * 5) (t.ps 0) := HKL.out.ht.cells (by have := HTL.out; omega)
        have Q0 : C5 w1 cs.b (cs.o + q * 8) (cs.t q) := HKL.out.wo.hc.ct q hqc
        simp only [Nat.zero_mul, Nat.add_zero] at T0
        have g2 := fun z => Gr.cell z tx2
        have t00 := fun z => Gr.cell z T0.c0
        have t01 := fun z => Gr.cell z T0.c1
        have t02 := fun z => Gr.cell z T0.c2
        have t03 := fun z => Gr.cell z T0.c3
        have t04 := fun z => Gr.cell z T0.c4
        have q00 := fun z => Gr.cell z Q0.c0
        have q01 := fun z => Gr.cell z Q0.c1
        have q02 := fun z => Gr.cell z Q0.c2
        have q03 := fun z => Gr.cell z Q0.c3
        have q04 := fun z => Gr.cell z Q0.c4
        have H1 := fun u (hu : Below w1.heap.size w1 u) => rSame_any2 (cs.t q) (t.ps 0) u ((HKL.out.wo.hc.pt q hqc).kept hu) ((HKL.out.ht.part (i := 0) (by have := HTL.out; omega)).kept hu)
        clear T0 Q0 tx2 v1
        refine wp_region_gr (by kernel_rfl) (by kernel_rfl) ?_
        repeat (first | go_big_quiet_step ((go_at_call 6; exact Calls.gr _ (H1 _ (Gr.bl _)))))
        refine wpQuiet_nil ?_
        rintro w8 ⟨q8, rfl⟩
        have B8 := q8.bl
        generalize q8.w = w8 at B8 ⊢
        clear q8 hNE g0 g2 t00 t01 t02 t03 t04 q00 q01 q02 q03 q04 H1
        go_wp2
        go_ret
        exact ⟨ret_bool HX.out.symm, (HKL.out.step B8).bl⟩
      · have iq : ¬ (q : Int) < cs.len := by omega
        have HX : Hid (RV = false) := by show RV = _; rw [HE.out, decide_eq_false iq, Bool.false_and]
        clear v1
        refine wp_region_gr (by kernel_rfl) (by kernel_rfl) ?_
        repeat (first | go_big_quiet_step (fail))
        refine wpQuiet_nil ?_
        rintro w8 ⟨q8, rfl⟩
        have B8 := q8.bl
        generalize q8.w = w8 at B8 ⊢
        clear q8 hNE g0
        go_wp2
        go_ret
        exact ⟨ret_bool HX.out.symm, (HKL.out.step B8).bl⟩
end Go.Proofs.YtnkipiegjpjfbaaGreatDoor
