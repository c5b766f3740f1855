/- Layer 4: the walk of the statement BytesWrites. -/
import Derived.Test.YtboehlfdfpiodaaBtRefL
import Derived.Test.YtboehlfdfpiodaaBtFlds
import Derived.Test.YtboehlfdfpiodaaLawBCuts
import Derived.Deep.RegionHeld3
namespace Go.Proofs.Ytboehlfdfpiodaa
open Go.RowKit

set_option maxRecDepth 100000 in
set_option maxHeartbeats 8000000 in
theorem bytesWrites_any (B : Bys) (n : Int) (N : Int) (S : ByteArray) (w : World) (hB : B.At w) (_hn : -9223372036854775808 ≤ n ∧ n ≤ 9223372036854775807) (hN : -9223372036854775808 ≤ N ∧ N ≤ 9223372036854775807) (hS : S.size ≤ 9223372036854775807) :
    Calls Try.prog 3 #[.slice B.ao B.len B.cap, .int .i64 n, .agg #[.int .i64 N, .string S]] w fun e w' => e = .returned (.bool true) ∧ Below w.heap.size w w' := by
  have HN : Hid (-9223372036854775808 ≤ N ∧ N ≤ 9223372036854775807) := hN
  have HB : Hid (B.At w) := hB
  have hbb := hB.bound
  have hbl := hB.lc
  have B0 := FBox.start w N S 24
  clear hN hB
  go_enter Try.func3, Try.ntmps3
  go_wp2_with fail
  refine (awake_any _).mono ?_
  rintro e w1 ⟨rfl, hb1⟩
  have HX1 : Hid (FBox w w1 N S) := B0.step hb1
  clear hb1 B0
  have c1 := HX1.out.c1
  by_cases hs : 5000 < B.len
  · go_wp2_with fail
    refine (awake_any _).mono ?_
    rintro e w3 ⟨rfl, hb3⟩
    go_wp2
    go_ret
    exact ⟨rfl, (HX1.out.step hb3).bl⟩
  by_cases hm : 70000 < S.size
  · go_wp2_with fail
    refine (awake_any _).mono ?_
    rintro e w3 ⟨rfl, hb3⟩
    go_wp2
    go_ret
    exact ⟨rfl, (HX1.out.step hb3).bl⟩
  have hs' : B.len ≤ 5000 := by omega
  have hm' : S.size ≤ 70000 := by omega
  have hlt1 := HX1.out.lt
  clear hs hm
  obtain ⟨l, hl⟩ : ∃ l, l = B.l := ⟨_, rfl⟩
  have HL : Hid (B.l = l) := hl.symm
  have hll : l.length = B.len := by rw [hl, B.len_l]
  obtain ⟨P1, hP1⟩ : ∃ P1, P1 = (shortR l n).1 := ⟨_, rfl⟩
  obtain ⟨C1, hC1⟩ : ∃ C1, C1 = (shortR l n).2 := ⟨_, rfl⟩
  obtain ⟨P2, hP2⟩ : ∃ P2, P2 = (textR l S).1 := ⟨_, rfl⟩
  obtain ⟨C2, hC2⟩ : ∃ C2, C2 = (textR l S).2 := ⟨_, rfl⟩
  have H1 : Hid ((shortR l n).1 = P1 ∧ (shortR l n).2 = C1) := ⟨hP1.symm, hC1.symm⟩
  have H2 : Hid ((textR l S).1 = P2 ∧ (textR l S).2 = C2) := ⟨hP2.symm, hC2.symm⟩
  have HLL : Hid (l.length = B.len) := hll
  clear hl hll hP1 hC1 hP2 hC2
  go_upto_region 9 with (first
    | (refine wpList_append_bys rfl (.tmp 30) (.tmp 31) rfl w1.heap.size _ [] rfl (Own.nil _ _) B rfl (HB.out.kept HX1.out.bl) (by show 0 + B.len ≤ _; omega) (Nat.le_refl _) ?_; intro v w2 HO hg2; obtain ⟨I, rfl, hI, hIl, _⟩ := HO.out.bys; have hb2 : Below w1.heap.size w1 w2 := (Below.refl _ _).grown hg2 (Nat.le_refl _) (fun k hk => by cases hk); have HI : Hid (I.At w2 ∧ I.l = l) := ⟨hI, by rw [hIl, List.nil_append]; exact HL.out⟩; have HX2 : Hid (FBox w w2 N S) := HX1.out.step hb2; have hIn : I.len ≤ 5000 := (by rw [← I.len_l, HI.out.2, HLL.out]; exact hs'); have k1 := HX2.out.c1; have ib := hI.bound; have il := hI.lc; clear hg2 hI hIl HO hb2)
    | (go_at_call 10; refine (wshort_r I n w2 HI.out.1 (by omega)).mono ?_; rw [HI.out.2, H1.out.1, H1.out.2]; rintro e w3 ⟨E1, rfl, hE, hEl, hb3⟩; have HE1 : Hid (E1.At w3 ∧ E1.l = P1) := ⟨hE, hEl⟩; have HX3 : Hid (FBox w w3 N S) := HX2.out.step hb3; have HI3 : Hid (I.At w3) := HI.out.1.kept hb3; have k2 := HX3.out.c1; clear hE hEl hb3)
    | (go_at_call 11; refine (xwshort_r B n w3 (HB.out.kept HX3.out.bl) (by omega)).mono ?_; rw [HL.out, H1.out.1, H1.out.2]; rintro e w4 ⟨E2, rfl, hE, hEl, hb4⟩; have HE2 : Hid (E2.At w4 ∧ E2.l = P1) := ⟨hE, hEl⟩; have HX4 : Hid (FBox w w4 N S) := HX3.out.step hb4; have HI4 : Hid (I.At w4 ∧ E1.At w4) := ⟨HI3.out.kept hb4, HE1.out.1.kept hb4⟩; have k3 := HX4.out.c1; clear hE hEl hb4)
    | (go_at_call 12; refine (wtext_r I S w4 HI4.out.1 (by omega) hS).mono ?_; rw [HI.out.2, H2.out.1, H2.out.2]; rintro e w5 ⟨E3, rfl, hE, hEl, hb5⟩; have HE3 : Hid (E3.At w5 ∧ E3.l = P2) := ⟨hE, hEl⟩; have HX5 : Hid (FBox w w5 N S) := HX4.out.step hb5; have HI5 : Hid (I.At w5 ∧ E1.At w5 ∧ E2.At w5) := ⟨HI4.out.1.kept hb5, HI4.out.2.kept hb5, HE2.out.1.kept hb5⟩; have k4 := HX5.out.c1; clear hE hEl hb5)
    | (go_at_call 13; refine (xwtext_r B S w5 (HB.out.kept HX5.out.bl) (by omega) hS).mono ?_; rw [HL.out, H2.out.1, H2.out.2]; rintro e w6 ⟨E4, rfl, hE, hEl, hb6⟩; have HE4 : Hid (E4.At w6 ∧ E4.l = P2) := ⟨hE, hEl⟩; have HX6 : Hid (FBox w w6 N S) := HX5.out.step hb6; have HI6 : Hid (I.At w6 ∧ E1.At w6 ∧ E2.At w6 ∧ E3.At w6) := ⟨HI5.out.1.kept hb6, HI5.out.2.1.kept hb6, HI5.out.2.2.kept hb6, HE3.out.1.kept hb6⟩; clear hE hEl hb6))
  have HD : Hid (FBox w w6.drew N S) := HX6.out.step ((Below.refl _ _).drew)
  have KEY : Hid (∀ u : World, Below w6.heap.size w6 u → (fun u : World => u.cell? ⟨w.heap.size, 0, none⟩ = some (.int .i64 N)) u) := fun u hu => (HX6.out.step hu).c0
  have HK : Hid (∀ (X : Bys) (u : World), X.At w6 → Below w6.heap.size w6 u → X.At u) := fun X u h hu => h.kept hu
  have D0 : Below w6.heap.size w6 w6.drew := (Below.refl _ _).drew
  have HBw : Hid (B.At w6) := HB.out.kept HX6.out.bl
  have HT : Hid (∀ u v : World, Below w6.heap.size w6 u → Below u.heap.size u v → Below w6.heap.size w6 v) := fun u v h1 h2 => h1.trans (h2.mono h1.size)
  have hS0 := KEY.out _ D0
  clear c1 k1 k2 k3 k4
  go_region_held3 (fun u : World => u.cell? ⟨w.heap.size, 0, none⟩ = some (.int .i64 N)) (first | with_reducible assumption | fail) (first
    | (go_at_call 14; first
      | (with_reducible refine (xsame_any E1 E2 w6.drew (HK.out _ _ HI6.out.2.1 D0) (HK.out _ _ HI6.out.2.2.1 D0) (HE1.out.2.trans HE2.out.2.symm)).mono ?_; rintro e wa ⟨rfl, hb⟩; have Da : Below w6.heap.size w6 wa := HT.out _ _ D0 hb; have hSa := KEY.out _ Da; clear hb)
      | (with_reducible refine (xsame_any E3 E4 wa (HK.out _ _ HI6.out.2.2.2 Da) (HK.out _ _ HE4.out.1 Da) (HE3.out.2.trans HE4.out.2.symm)).mono ?_; rintro e wb ⟨rfl, hb⟩; have Db : Below w6.heap.size w6 wb := HT.out _ _ Da hb; have hSb := KEY.out _ Db; clear hb)
      | (with_reducible refine (xsame_any E5 E6 we HE56.out.1 HE56.out.2.1 HE56.out.2.2).mono ?_; rintro e wf ⟨rfl, hb⟩; have Df : Below w6.heap.size w6 wf := HT.out _ _ De hb; have hSf := KEY.out _ Df; clear hb)
      | (with_reducible refine (xsame_any I B wf (HK.out _ _ HI6.out.1 Df) (HK.out _ _ HBw.out Df) (HI.out.2.trans HL.out.symm)).mono ?_; rintro e wg ⟨rfl, hb⟩; have Dg : Below w6.heap.size w6 wg := HT.out _ _ Df hb; have hSg := KEY.out _ Dg; clear hb))
    | (go_at_call 15; refine (wlong_b I N wb (HK.out _ _ HI6.out.1 Db) (by omega)).mono ?_; rw [HI.out.2]; rintro e wd ⟨E5, rfl, hE, hEl, hb⟩; have Dd : Below w6.heap.size w6 wd := HT.out _ _ Db hb; have hSd := KEY.out _ Dd; have HE5 : Hid (E5.At wd ∧ E5.l = l ++ be 8 (uns N)) := ⟨hE, hEl⟩; clear hE hEl hb)
    | (go_at_call 16; refine (xwlong_any B N wd (HK.out _ _ HBw.out Dd) (by omega) HN.out).mono ?_; rw [HL.out]; rintro e we ⟨E6, rfl, hE, hEl, hb⟩; have De : Below w6.heap.size w6 we := HT.out _ _ Dd hb; have hSe := KEY.out _ De; have HE56 : Hid (E5.At we ∧ E6.At we ∧ E5.l = E6.l) := ⟨HE5.out.1.kept hb, hE, HE5.out.2.trans hEl.symm⟩; clear hE hEl hb))
  go_wp2
  go_ret
  exact ⟨rfl, (HX6.out.step Dg).bl⟩
end Go.Proofs.Ytboehlfdfpiodaa
