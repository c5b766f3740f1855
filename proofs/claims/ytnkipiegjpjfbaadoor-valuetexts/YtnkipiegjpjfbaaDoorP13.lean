/- Layer 3: the walks of the reference's Same and of the statement ValueTexts. -/
import Derived.Test.YtnkipiegjpjfbaaDoorP12
import Derived.Test.YtnkipiegjpjfbaaDoorP11
import Derived.ProofKit
import Derived.Deep.Grids
import Derived.Lib.SmallJoins
namespace Go.Proofs.YtnkipiegjpjfbaaDoor
open Go.RowKit

theorem toList_mk (l : List UInt8) : (⟨l.toArray⟩ : ByteArray).toList = l := by
  simp

theorem vsame_mk (k m : Int) (ao : Option Addr) (b o len cap : Nat) (ps : Nat → Vl) (u : Vl) : (Vl.mk k m ao b o len cap ps).same u = ((((k == u.k) && (m == u.m)) && (len == u.len)) && decide (∀ i, i < len → (ps i).same (u.ps i) = true)) := rfl

set_option maxRecDepth 100000 in
set_option maxHeartbeats 8000000 in
theorem rvSame_any : ∀ (v u : Vl) (w : World), v.At w → u.At w →
    Calls Tryd.prog 11 #[.agg #[.int .i64 v.k, .int .i64 v.m, .slice v.ao v.len v.cap], .agg #[.int .i64 u.k, .int .i64 u.m, .slice u.ao u.len u.cap]] w fun e w' => e = .returned (.bool (v.same u)) ∧ Below w.heap.size w w'
  | .dm, _, _, h, _ => h.elim
  | .mk k m ao b o len cap ps, u, w, hv, hu => by
    have HIH : Hid (∀ (i : Nat) (u : Vl) (w : World) (r : Bool), (ps i).At w → u.At w → (ps i).same u = r → Calls Tryd.prog 11 #[.agg #[.int .i64 (ps i).k, .int .i64 (ps i).m, .slice (ps i).ao (ps i).len (ps i).cap], .agg #[.int .i64 u.k, .int .i64 u.m, .slice u.ao u.len u.cap]] w fun e w' => e = .returned (.bool r) ∧ Below w.heap.size w w') := fun i u w r h1 h2 h3 => by
      rw [← h3]; exact rvSame_any (ps i) u w h1 h2
    cases u with
    | dm => exact hu.elim
    | mk k' m' ao' b' o' len' cap' ps' =>
      show Calls Tryd.prog 11 #[.agg #[.int .i64 k, .int .i64 m, .slice ao len cap], .agg #[.int .i64 k', .int .i64 m', .slice ao' len' cap']] w _
      rw [vsame_mk]
      show Calls Tryd.prog 11 #[.agg #[.int .i64 k, .int .i64 m, .slice ao len cap], .agg #[.int .i64 k', .int .i64 m', .slice ao' len' cap']] w fun e w' => e = .returned (.bool ((((k == k') && (m == m')) && (len == len')) && decide (∀ i, i < len → (ps i).same (ps' i) = true))) ∧ Below w.heap.size w w'
      have HB0 : Hid (Below w.heap.size w ((w.alloc (.cells #[.int .i64 k, .int .i64 m, .slice ao len cap] 24)).alloc (.cells #[.int .i64 k', .int .i64 m', .slice ao' len' cap'] 24))) := ((Below.refl _ _).alloc (Nat.le_refl _) _).alloc (by simp) _
      have hb1 := hv.2.1
      have hb2 := hu.2.1
      have HV : Hid (Vl.At w (.mk k m ao b o len cap ps)) := hv
      have HU : Hid (Vl.At w (.mk k' m' ao' b' o' len' cap' ps')) := hu
      clear hv hu
      by_cases hk : k = k'
      · subst hk
        by_cases hm : m = m'
        · subst hm
          by_cases hl : len = len'
          · subst hl
            have HEq : Hid (((((k == k) && (m == m)) && (len == len)) && decide (∀ i, i < len → (ps i).same (ps' i) = true)) = decide (∀ i, i < len → (ps i).same (ps' i) = true)) := by show _ = _; simp
            rw [HEq.out]
            have HX0 : Hid (Bv ((w.alloc (.cells #[.int .i64 k, .int .i64 m, .slice ao len cap] 24)).alloc (.cells #[.int .i64 k, .int .i64 m, .slice ao' len cap'] 24)) w.heap.size (.mk k m ao b o len cap ps) ∧ Bv ((w.alloc (.cells #[.int .i64 k, .int .i64 m, .slice ao len cap] 24)).alloc (.cells #[.int .i64 k, .int .i64 m, .slice ao' len cap'] 24)) (w.heap.size + 1) (.mk k m ao' b' o' len cap' ps')) := by
              refine ⟨(Bv.new w (.mk k m ao b o len cap ps)).kept ((Below.refl _ _).alloc (Nat.le_refl _) _), ?_⟩
              have h := Bv.new (w.alloc (.cells #[.int .i64 k, .int .i64 m, .slice ao len cap] 24)) (.mk k m ao' b' o' len cap' ps')
              rw [show (w.alloc (.cells #[.int .i64 k, .int .i64 m, .slice ao len cap] 24)).heap.size = w.heap.size + 1 by simp] at h
              exact h
            go_enter Tryd.func11, Tryd.ntmps11
            go_upto_region 1 with fail
            generalize (w.alloc (.cells #[.int .i64 k, .int .i64 m, .slice ao len cap] 24)).alloc (.cells #[.int .i64 k, .int .i64 m, .slice ao' len cap'] 24) = wv at *
            have hs0 := HB0.out.size
            have c0 := HX0.out.1.c0
            have c1 := HX0.out.1.c1
            have c2 := HX0.out.1.c2
            have d0 := HX0.out.2.c0
            have d1 := HX0.out.2.c1
            have d2 := HX0.out.2.c2
            dsimp only [Vl.k, Vl.m, Vl.ao, Vl.len, Vl.cap] at c0 c1 c2 d0 d1 d2
            go_wp2
            clear c0 c1 c2 d0 d1 d2
            go_loopw [5] (fun i wr => ∃ q : Nat, q ≤ len ∧ i = .int .i64 q ∧ (∀ i, i < q → (ps i).same (ps' i) = true) ∧ Below wv.heap.size wv wr) (fun i _ => len - (intOf i).toNat)
            case atStart => exact ⟨0, Nat.zero_le _, rfl, fun i hi => absurd hi (Nat.not_lt_zero _), Below.refl _ _⟩
            case round =>
              obtain ⟨q, hq, rfl, hdone, hw⟩ := hrel
              have HD : Hid (∀ i, i < q → (ps i).same (ps' i) = true) := hdone
              have HW : Hid (Below wv.heap.size wv wr) := hw
              have HX : Hid (Bv wr w.heap.size (.mk k m ao b o len cap ps) ∧ Bv wr (w.heap.size + 1) (.mk k m ao' b' o' len cap' ps')) := ⟨HX0.out.1.kept hw, HX0.out.2.kept hw⟩
              have HBw : Hid (Below w.heap.size w wr) := HB0.out.trans (hw.mono hs0)
              clear hdone hw
              have c2 := HX.out.1.c2
              have d2 := HX.out.2.c2
              dsimp only [Vl.ao, Vl.len, Vl.cap] at c2 d2
              by_cases hlt : q < len
              · have hao := HV.out.1 (by omega)
                have hao' := HU.out.1 (by omega)
                subst hao hao'
                have HCv : Hid (C3 wr b (o + q * 3) (ps q)) := ((HV.out.2.2 q hlt).1).kept HBw.out
                have HCu : Hid (C3 wr b' (o' + q * 3) (ps' q)) := ((HU.out.2.2 q hlt).1).kept HBw.out
                have HAv : Hid ((ps q).At wr ∧ (ps' q).At wr) := ⟨(HV.out.2.2 q hlt).2.kept HBw.out, (HU.out.2.2 q hlt).2.kept HBw.out⟩
                obtain ⟨r, hr⟩ : ∃ r, (ps q).same (ps' q) = r := ⟨_, rfl⟩
                have HSr : Hid ((ps q).same (ps' q) = r) := hr
                clear hr
                have hNE : Nonempty (Gr wr) := ⟨⟨_, Below.refl _ _⟩⟩
                have gc2 := fun x : Gr wr => x.cell c2
                have gd2 := fun x : Gr wr => x.cell d2
                have ga0 := fun x : Gr wr => x.cell HCv.out.c0
                have ga1 := fun x : Gr wr => x.cell HCv.out.c1
                have ga2 := fun x : Gr wr => x.cell HCv.out.c2
                have gb0 := fun x : Gr wr => x.cell HCu.out.c0
                have gb1 := fun x : Gr wr => x.cell HCu.out.c1
                have gb2 := fun x : Gr wr => x.cell HCu.out.c2
                go_wp2
                refine wp_region_gr (by kernel_rfl) (by kernel_rfl) ?_
                repeat (first | go_big_quiet_step ((go_at_call 11; exact Calls.gr _ (HIH.out q (ps' q) _ r (HAv.out.1.kept (Gr.bl _)) (HAv.out.2.kept (Gr.bl _)) HSr.out))))
                refine wpQuiet_nil ?_
                rintro w4 ⟨x4, rfl⟩
                have B4 := x4.bl
                generalize x4.w = w4 at B4 ⊢
                clear x4 hNE gc2 gd2 ga0 ga1 ga2 gb0 gb1 gb2
                have HB4 : Hid (Below wv.heap.size wv w4) := HW.out.trans (B4.mono HW.out.size)
                clear B4 c2 d2
                cases r
                · have HF : Hid (decide (∀ i, i < len → (ps i).same (ps' i) = true) = false) := decide_eq_false (fun h => by have := h q hlt; rw [HSr.out] at this; cases this)
                  go_wp2
                  go_ret
                  exact ⟨ret_bool HF.out.symm, HB0.out.trans (HB4.out.mono hs0)⟩
                · go_wp2
                  go_roundw
                  case rel =>
                    refine ⟨q + 1, by omega, by go_num, fun i hi => ?_, HB4.out⟩
                    rcases Nat.lt_succ_iff_lt_or_eq.1 hi with h | h
                    · exact HD.out i h
                    · subst h; exact HSr.out
                  case measure => simp [intOf]; omega
              · have HF : Hid (decide (∀ i, i < len → (ps i).same (ps' i) = true) = true) := decide_eq_true (fun i hi => HD.out i (by omega))
                go_wp2
                go_ret
                exact ⟨ret_bool HF.out.symm, HBw.out⟩
          · have y3 : ((len : Int) == (len' : Int)) = false := beq_eq_false_iff_ne.2 (by omega)
            have HE : Hid (((((k == k) && (m == m)) && (len == len')) && decide (∀ i, i < len → (ps i).same (ps' i) = true)) = false) := by show _ = _; rw [show (len == len') = false from beq_eq_false_iff_ne.2 hl]; simp
            rw [HE.out]
            clear hl
            go_enter Tryd.func11, Tryd.ntmps11
            go_wp2
            go_ret
            exact ⟨rfl, HB0.out⟩
        · have y2 : (m == m') = false := beq_eq_false_iff_ne.2 hm
          have HE : Hid (((((k == k) && (m == m')) && (len == len')) && decide (∀ i, i < len → (ps i).same (ps' i) = true)) = false) := by show _ = _; rw [y2]; simp
          rw [HE.out]
          clear hm
          go_enter Tryd.func11, Tryd.ntmps11
          go_wp2
          go_ret
          exact ⟨rfl, HB0.out⟩
      · have y1 : (k == k') = false := beq_eq_false_iff_ne.2 hk
        have HE : Hid (((((k == k') && (m == m')) && (len == len')) && decide (∀ i, i < len → (ps i).same (ps' i) = true)) = false) := by show _ = _; rw [y1]; simp
        rw [HE.out]
        have HK : Hid (¬ k = k') := hk
        clear hk
        have y1b : (k != k') = true := bne_iff_ne.2 HK.out
        go_enter Tryd.func11, Tryd.ntmps11
        go_wp2
        all_goals first | exact absurd (by assumption) HK.out | (go_ret; exact ⟨rfl, HB0.out⟩)

set_option maxRecDepth 100000 in
set_option maxHeartbeats 8000000 in
theorem valueTexts_any (v u : Vl) (w : World) (hv : v.At w) (hu : u.At w) (hT : Tab w) (hr : v.rng) (hs : u.rng) :
    Calls Tryd.prog 6 #[.agg #[.int .i64 v.k, .int .i64 v.m, .slice v.ao v.len v.cap], .agg #[.int .i64 u.k, .int .i64 u.m, .slice u.ao u.len u.cap]] w fun e w' => e = .returned (.bool true) ∧ Below w.heap.size w w' := by
  have HV : Hid (v.At w) := hv
  have HU : Hid (u.At w) := hu
  have HT : Hid (Tab w) := hT
  have HR : Hid (v.rng ∧ u.rng) := ⟨hr, hs⟩
  have HB0 : Hid (Below w.heap.size w ((w.alloc (.cells #[.int .i64 v.k, .int .i64 v.m, .slice v.ao v.len v.cap] 24)).alloc (.cells #[.int .i64 u.k, .int .i64 u.m, .slice u.ao u.len u.cap] 24))) := ((Below.refl _ _).alloc (Nat.le_refl _) _).alloc (by simp) _
  have HX0 : Hid (Bv ((w.alloc (.cells #[.int .i64 v.k, .int .i64 v.m, .slice v.ao v.len v.cap] 24)).alloc (.cells #[.int .i64 u.k, .int .i64 u.m, .slice u.ao u.len u.cap] 24)) w.heap.size v ∧ Bv ((w.alloc (.cells #[.int .i64 v.k, .int .i64 v.m, .slice v.ao v.len v.cap] 24)).alloc (.cells #[.int .i64 u.k, .int .i64 u.m, .slice u.ao u.len u.cap] 24)) (w.heap.size + 1) u) := by
    refine ⟨(Bv.new w v).kept ((Below.refl _ _).alloc (Nat.le_refl _) _), ?_⟩
    have h := Bv.new (w.alloc (.cells #[.int .i64 v.k, .int .i64 v.m, .slice v.ao v.len v.cap] 24)) u
    rw [show (w.alloc (.cells #[.int .i64 v.k, .int .i64 v.m, .slice v.ao v.len v.cap] 24)).heap.size = w.heap.size + 1 by simp] at h
    exact h
  clear hv hu hT hr hs
  go_enter Tryd.func6, Tryd.ntmps6
  go_upto_region 1 with fail
  generalize (w.alloc (.cells #[.int .i64 v.k, .int .i64 v.m, .slice v.ao v.len v.cap] 24)).alloc (.cells #[.int .i64 u.k, .int .i64 u.m, .slice u.ao u.len u.cap] 24) = wv at *
  have hs0 := HB0.out.size
  go_wp2_with fail
  refine (vawake_any wv (HT.out.kept HB0.out)).mono ?_
  rintro e w1 ⟨rfl, hb1⟩
  have HX1 : Hid (Bv w1 w.heap.size v ∧ Bv w1 (w.heap.size + 1) u) := ⟨HX0.out.1.kept hb1, HX0.out.2.kept hb1⟩
  have HB1 : Hid (Below w.heap.size w w1) := HB0.out.trans (hb1.mono hs0)
  have hs1 := HB1.out.size
  clear hb1 HX0 HB0 hs0
  have c0 := HX1.out.1.c0
  have c1 := HX1.out.1.c1
  have c2 := HX1.out.1.c2
  by_cases hnv : v.nodes ≤ 2000
  · have e1 : decide (v.nodes ≤ 2000) = true := decide_eq_true hnv
    have HE1 : Hid (decide (v.nodes ≤ 2000) = true) := e1
    clear e1
    go_wp2_with fail
    refine (rvSmall_any v w1 (HV.out.kept HB1.out)).mono ?_
    rw [HE1.out]
    rintro e w2 ⟨rfl, hb2⟩
    have HX2 : Hid (Bv w2 w.heap.size v ∧ Bv w2 (w.heap.size + 1) u) := ⟨HX1.out.1.kept hb2, HX1.out.2.kept hb2⟩
    have HB2 : Hid (Below w.heap.size w w2) := HB1.out.trans (hb2.mono hs1)
    have hs2 := HB2.out.size
    clear hb2 HX1 HB1 c0 c1 c2
    have c0 := HX2.out.1.c0
    have c1 := HX2.out.1.c1
    have c2 := HX2.out.1.c2
    have d0 := HX2.out.2.c0
    have d1 := HX2.out.2.c1
    have d2 := HX2.out.2.c2
    by_cases hnu : u.nodes ≤ 2000
    · have HE2 : Hid (decide (u.nodes ≤ 2000) = true) := decide_eq_true hnu
      go_wp2_with fail
      refine (rvSmall_any u w2 (HU.out.kept HB2.out)).mono ?_
      rw [HE2.out]
      rintro e w3 ⟨rfl, hb3⟩
      have HX3 : Hid (Bv w3 w.heap.size v ∧ Bv w3 (w.heap.size + 1) u) := ⟨HX2.out.1.kept hb3, HX2.out.2.kept hb3⟩
      have HB3 : Hid (Below w.heap.size w w3) := HB2.out.trans (hb3.mono hs2)
      have hs3 := HB3.out.size
      clear hb3 HX2 HB2 c0 c1 c2 d0 d1 d2
      have c0 := HX3.out.1.c0
      have c1 := HX3.out.1.c1
      have c2 := HX3.out.1.c2
      go_wp2_with fail
      refine (text_any v w3 (HV.out.kept HB3.out) (HT.out.kept HB3.out) HR.out.1).mono ?_
      rintro e w4 ⟨rfl, hb4⟩
      have HX4 : Hid (Bv w4 w.heap.size v ∧ Bv w4 (w.heap.size + 1) u) := ⟨HX3.out.1.kept hb4, HX3.out.2.kept hb4⟩
      have HB4 : Hid (Below w.heap.size w w4) := HB3.out.trans (hb4.mono hs3)
      have hs4 := HB4.out.size
      clear hb4 HX3 HB3 c0 c1 c2
      have d0 := HX4.out.2.c0
      have d1 := HX4.out.2.c1
      have d2 := HX4.out.2.c2
      go_wp2_with fail
      refine (text_any u w4 (HU.out.kept HB4.out) (HT.out.kept HB4.out) HR.out.2).mono ?_
      rintro e w5 ⟨rfl, hb5⟩
      have HX5 : Hid (Bv w5 w.heap.size v ∧ Bv w5 (w.heap.size + 1) u) := ⟨HX4.out.1.kept hb5, HX4.out.2.kept hb5⟩
      have HB5 : Hid (Below w.heap.size w w5) := HB4.out.trans (hb5.mono hs4)
      clear hb5 HX4 HB4 d0 d1 d2
      have c0 := HX5.out.1.c0
      have c1 := HX5.out.1.c1
      have c2 := HX5.out.1.c2
      have d0 := HX5.out.2.c0
      have d1 := HX5.out.2.c1
      have d2 := HX5.out.2.c2
      obtain ⟨s, hs⟩ : ∃ s, v.tx = s := ⟨_, rfl⟩
      obtain ⟨t, ht⟩ : ∃ t, u.tx = t := ⟨_, rfl⟩
      rw [hs, ht]
      have HST : Hid (v.tx = s ∧ u.tx = t) := ⟨hs, ht⟩
      clear hs ht
      cases hov : v.ok with
      | false =>
        have HS0 : Hid (s = ⟨#[]⟩) := by show s = _; rw [← HST.out.1]; unfold Vl.tx; rw [hov]; rfl
        have hte : v.te = 9 := by unfold Vl.te; rw [hov]; rfl
        have hse : s = ByteArray.empty := HS0.out
        rw [hte, hse]
        clear hse hte hov
        go_wp2
        go_ret
        exact ⟨rfl, HB5.out⟩
      | true =>
        have hte : v.te = 0 := by unfold Vl.te; rw [hov]; rfl
        have HSv : Hid (s = ⟨v.txt.toArray⟩) := by show s = _; rw [← HST.out.1]; unfold Vl.tx; rw [hov]; rfl
        have HOv : Hid (v.ok = true) := hov
        rw [hte]
        clear hte hov
        cases hou : u.ok with
        | false =>
          have htu : u.te = 9 := by unfold Vl.te; rw [hou]; rfl
          rw [htu]
          clear htu hou
          have HNe : Hid (s.toList ≠ []) := by
            show s.toList ≠ _
            rw [HSv.out, toList_mk]
            exact txt_ne v (vok_parts HOv.out).2
          go_wp2
          all_goals first | exact absurd (by assumption) HNe.out | (go_ret; exact ⟨rfl, HB5.out⟩)
        | true =>
          have htu : u.te = 0 := by unfold Vl.te; rw [hou]; rfl
          have HSu : Hid (t = ⟨u.txt.toArray⟩) := by show t = _; rw [← HST.out.2]; unfold Vl.tx; rw [hou]; rfl
          have HOu : Hid (u.ok = true) := hou
          rw [htu]
          clear htu hou
          go_wp2_with fail
          refine (rvSame_any v u w5 (HV.out.kept HB5.out) (HU.out.kept HB5.out)).mono ?_
          rintro e w6 ⟨rfl, hb6⟩
          have HB6 : Hid (Below w.heap.size w w6) := HB5.out.trans (hb6.mono HB5.out.size)
          clear hb6
          have HF : Hid ((s.toList == t.toList) = v.same u) := by
            show _ = _
            rw [HSv.out, HSu.out, ← txt_same v u (vok_parts HOv.out).2 (vok_parts HOu.out).2, toList_mk, toList_mk, Bool.eq_iff_iff, beq_iff_eq, decide_eq_true_eq]
          go_wp2
          go_ret
          exact ⟨ret_bool (by rw [HF.out]; simp), HB6.out⟩
    · have HE2 : Hid (decide (u.nodes ≤ 2000) = false) := decide_eq_false hnu
      go_wp2_with fail
      refine (rvSmall_any u w2 (HU.out.kept HB2.out)).mono ?_
      rw [HE2.out]
      rintro e w3 ⟨rfl, hb3⟩
      have HB3 : Hid (Below w.heap.size w w3) := HB2.out.trans (hb3.mono hs2)
      clear hb3
      go_wp2_with fail
      refine (vawake_any w3 (HT.out.kept HB3.out)).mono ?_
      rintro e w4 ⟨rfl, hb4⟩
      go_wp2
      go_ret
      exact ⟨rfl, HB3.out.trans (hb4.mono HB3.out.size)⟩
  · have HE1 : Hid (decide (v.nodes ≤ 2000) = false) := decide_eq_false hnv
    go_wp2_with fail
    refine (rvSmall_any v w1 (HV.out.kept HB1.out)).mono ?_
    rw [HE1.out]
    rintro e w2 ⟨rfl, hb2⟩
    have HB2 : Hid (Below w.heap.size w w2) := HB1.out.trans (hb2.mono hs1)
    clear hb2
    go_wp2_with fail
    refine (vawake_any w2 (HT.out.kept HB2.out)).mono ?_
    rintro e w3 ⟨rfl, hb3⟩
    go_wp2
    go_ret
    exact ⟨rfl, HB2.out.trans (hb3.mono HB2.out.size)⟩
end Go.Proofs.YtnkipiegjpjfbaaDoor

/- A value that comes in, opened. -/
namespace Go.Proofs.YtnkipiegjpjfbaaDoor
open Go.ChangeShapes Go.WideShapes Go.ChangeAt Go.RowKit Go.Deep Go.Joins

theorem Tryd.cInt : Tryd.prog.cellsOf 3 = 1 := by kernel_rfl
theorem Tryd.cInt64 : Tryd.prog.cellsOf 2 = 1 := by kernel_rfl
theorem Tryd.cVls : Tryd.prog.cellsOf 22 = 1 := by kernel_rfl
theorem Tryd.cVl : Tryd.prog.cellsOf 24 = 3 := by kernel_rfl
theorem addr_vl (b off i : Nat) : (⟨b, off, none⟩ : Addr).add i = ⟨b, off + i, none⟩ := by unfold Addr.add; split <;> simp_all
theorem wf_i64v {n : Int} (h : (Lit.int .i64 n).wf = true) : -9223372036854775808 ≤ n ∧ n ≤ 9223372036854775807 := by
  have h' : IntKind.i64.min ≤ n ∧ n ≤ IntKind.i64.max := by simpa [Lit.wf] using h
  have e1 : IntKind.i64.min = -9223372036854775808 := by decide
  have e2 : IntKind.i64.max = 9223372036854775807 := by decide
  omega

section
variable {H : Type} {enc : TypeId × Value → H} {W : World} {base : Nat}

def Vl.cs (t : Vl) : List Value := [.int .i64 t.k, .int .i64 t.m, .slice t.ao t.len t.cap]

set_option maxRecDepth 100000 in
theorem open_vl : ∀ (fuel : Nat) (cs : List Value) (x : DataW H × List MemPlace), DataW.trod enc Tryd.prog W base (fun _ => true) true fuel 24 cs = some x → ∃ t : Vl, cs = t.cs ∧ t.At W ∧ t.rng := by
  intro fuel
  induction fuel using Nat.strongRecOn with
  | _ fuel ih =>
    intro cs x h
    obtain ⟨xs, n, rfl, _, hl, hlen, hf⟩ := DataW.trod_struct Tryd.underlying24 h
    rw [Tryd.cVl] at hl
    match cs, hl with
    | [c0, c1, c2], _ =>
      have hlen3 : xs.length = 3 := hlen
      match xs, hlen3 with
      | [y0, y1, y2], _ =>
        have f0 : DataW.trod enc Tryd.prog W base (fun _ => true) true n 3 [c0] = some y0 := by simpa [Tryd.cInt] using hf 0 _ rfl
        have f1 : DataW.trod enc Tryd.prog W base (fun _ => true) true n 2 [c1] = some y1 := by simpa [Tryd.cInt64] using hf 1 _ rfl
        have f2 : DataW.trod enc Tryd.prog W base (fun _ => true) true n 22 [c2] = some y2 := by simpa [Tryd.cVls] using hf 2 _ rfl
        obtain ⟨k, q0, _⟩ := DataW.trod_int Tryd.underlying3 f0
        obtain ⟨m0, q1, _, wm⟩ := DataW.trod_int Tryd.underlying2 f1
        simp only [List.cons.injEq, and_true] at q0 q1
        subst q0 q1
        rcases DataW.trod_slice Tryd.underlying22 f2 with ⟨hcs, _⟩ | ⟨a, len, cap, elems, rest, m, hm, hcs, _, _, hlc, hmx, hel, hx, _, _⟩
        · simp only [List.cons.injEq, and_true] at hcs
          subst hcs
          exact ⟨.mk k m0 none 0 0 0 0 (fun _ => .dm), rfl, ⟨fun h => absurd h (Nat.lt_irrefl _), Nat.zero_le _, fun _ h => absurd h (Nat.not_lt_zero _)⟩, ⟨wf_i64v wm, fun _ h => absurd h (Nat.not_lt_zero _)⟩⟩
        · simp only [List.cons.injEq, and_true] at hcs
          subst hcs hm
          unfold maxLen at hmx
          have each : ∀ i, i < len → ∃ t : Vl, (∀ j, j < 3 → W.cell? (a.add (i * 3 + j)) = t.cs[j]?) ∧ t.At W ∧ t.rng := by
            intro i hi
            have h1 := hx i hi
            rw [Tryd.cVl] at h1
            cases hc : W.cells? base (a.add (i * 3)) 3 with
            | none => rw [hc] at h1; simp at h1; omega
            | some cs' =>
              rw [hc] at h1
              have h2 : DataW.trod enc Tryd.prog W base (fun _ => true) true m 24 cs' = some elems[i] := by
                rw [List.getElem?_eq_getElem (by omega)] at h1
                simpa using h1
              obtain ⟨t, rfl, hA⟩ := ih m (by omega) cs' _ h2
              obtain ⟨_, _, hcell⟩ := World.cells?_some hc
              exact ⟨t, fun j hj => by rw [← hcell j hj, add_add], hA⟩
          have hspot : 0 < len → a = ⟨a.block, a.off, none⟩ := fun hp => by
            obtain ⟨t, ht, _⟩ := each 0 hp
            have hs := World.cell?_spot (a := a.add (0 * 3 + 0)) (v := .int .i64 t.k) (by rw [ht 0 (by omega)]; rfl)
            obtain ⟨ab, ao, asp⟩ := a
            have : asp = none := by simpa [Addr.add] using hs
            subst this; rfl
          refine ⟨.mk k m0 (some a) a.block a.off len cap (fun i => if h : i < len then Classical.choose (each i h) else .dm), rfl, ⟨fun hp => congrArg some (hspot hp), by omega, fun i hi => ?_⟩, ⟨wf_i64v wm, fun i hi => ?_⟩⟩
          · simp only [dif_pos hi]
            obtain ⟨ht, hA, _⟩ := Classical.choose_spec (each i hi)
            generalize Classical.choose (each i hi) = t at ht hA
            have ea := hspot (by omega)
            have get : ∀ j, j < 3 → W.cell? ⟨a.block, a.off + i * 3 + j, none⟩ = t.cs[j]? := fun j hj => by
              have := ht j hj
              rw [ea, addr_vl, ← Nat.add_assoc] at this
              exact this
            exact ⟨⟨get 0 (by omega), get 1 (by omega), get 2 (by omega)⟩, hA⟩
          · simp only [dif_pos hi]
            exact (Classical.choose_spec (each i hi)).2.2
set_option maxRecDepth 100000 in
theorem open_value {v : Value} {d : DataW H} {p : List MemPlace} {b0 : Nat} (hv : Value.okWide Tryd.prog W .any b0 24 v) (h : DataW.Trod enc Tryd.prog W base (fun _ => true) true 24 v d p) :
    ∃ t : Vl, v = .agg #[.int .i64 t.k, .int .i64 t.m, .slice t.ao t.len t.cap] ∧ t.At W ∧ t.rng := by
  obtain ⟨cs, rfl, _⟩ := okWide_struct Tryd.underlying24 hv
  obtain ⟨fuel, hf⟩ := h
  obtain ⟨t, ht, hA⟩ := open_vl fuel _ _ hf
  refine ⟨t, ?_, hA⟩
  have : cs.toList = t.cs := by simpa [Value.cells] using ht
  obtain ⟨l⟩ := cs
  have e : l = t.cs := this
  rw [e]; rfl
end
end Go.Proofs.YtnkipiegjpjfbaaDoor
