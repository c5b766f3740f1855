/- Layer 4: the walk of the statement BytesBack. -/
import Derived.Test.YtboehlfdfpiodaaBtFlds
import Derived.Deep.RegionHeld3
import Derived.Deep.Cut
import Derived.Deep.CutRange
import Derived.Deep.DeepCutAuto
namespace Go.Proofs.Ytboehlfdfpiodaa
open Go.RowKit

/-- What the reader has at a field: the field is read as it was. -/
theorem field_back (F : Flds) (j : Nat) (hj : j < F.len) (n : Int) (S : ByteArray) (hn : F.N j = n) (hS : F.S j = S) (hr : -9223372036854775808 ≤ n ∧ n ≤ 9223372036854775807) (hs : S.size ≤ 300) :
    ∃ L0 L1 L2 L3 : List Nat, fE F j (F.len - j) = L0 ∧ fE F (j + 1) (F.len - (j + 1)) = L3 ∧ doneB (some L0) = false ∧ (longV (some L0) = n ∧ tkS 8 (some L0) = some L1) ∧ (textV (some L1) = S ∧ textS (some L1) = some L2) ∧ (belowV 65536 (some L2) = low n ∧ belowS 65536 (some L2) = some L3) := by
  refine ⟨fE F j (F.len - j), be 2 S.size ++ (sL S ++ (be 2 (low n) ++ fE F (j + 1) (F.len - (j + 1)))), be 2 (low n) ++ fE F (j + 1) (F.len - (j + 1)), fE F (j + 1) (F.len - (j + 1)), rfl, rfl, ?_, ?_, text_back S (by omega) _, below_back (low n) (low_lt n) _⟩
  · rw [fE_step F j hj]
    show (true && ((be 8 (uns (F.N j)) ++ _).length == 0)) = false
    rw [List.length_append, be_len, Bool.true_and]
    exact beq_eq_false_iff_ne.2 (by omega)
  · rw [fE_step F j hj, hn, hS]; exact long_back n hr _

/-- What is written so far. -/
structure Wri (w0 w : World) (F : Flds) (k : Nat) (D : Bys) : Prop where
  at' : D.At w
  l : D.l = fE F 0 k
  len : D.len ≤ 312 * k
  sm : ∀ j, j < k → (F.S j).size ≤ 300
  bl : Below w0.heap.size w0 w
theorem Wri.next {w0 w : World} {F : Flds} {k : Nat} {D D3 : Bys} {w3 : World} (h : Wri w0 w F k D) (hs : (F.S k).size ≤ 300) (h3 : D3.At w3) (hl : D3.l = ((D.l ++ be 8 (uns (F.N k))) ++ (be 2 (F.S k).size ++ sL (F.S k))) ++ be 2 (low (F.N k))) (hb : Below w.heap.size w w3) : Wri w0 w3 F (k + 1) D3 := by
  have e : D3.l = fE F 0 (k + 1) := by
    rw [hl, h.l, fE_snoc, Nat.zero_add]
    unfold encF
    simp only [List.append_assoc]
  refine ⟨h3, e, ?_, fun j hj => (by rcases Nat.lt_succ_iff_lt_or_eq.1 hj with h' | h'; exact h.sm j h'; rw [h']; exact hs), h.bl.trans (hb.mono h.bl.size)⟩
  rw [← D3.len_l, e, fE_snoc, List.length_append, ← h.l, D.len_l, encF_len, Nat.zero_add]
  have := h.len
  omega

set_option maxRecDepth 100000 in
set_option maxHeartbeats 8000000 in
theorem bytesBack_any (F : Flds) (w : World) (hF : F.At w) :
    Calls Try.prog 5 #[.slice F.ao F.len F.cap] w fun e w' => e = .returned (.bool true) ∧ Below w.heap.size w w' := by
  have HF : Hid (F.At w) := hF
  have hfb := hF.bound
  have hfl := hF.lc
  clear hF
  go_enter Try.func5, Try.ntmps5
  go_wp2_with fail
  refine (awake_any _).mono ?_
  rintro e w1 ⟨rfl, hb1⟩
  by_cases hs : 200 < F.len
  · go_wp2_with fail
    refine (awake_any _).mono ?_
    rintro e w3 ⟨rfl, hb3⟩
    go_wp2
    go_ret
    exact ⟨rfl, hb1.trans (hb3.mono hb1.size)⟩
  have hs' : F.len ≤ 200 := by omega
  have HW1 : Hid (Wri w w1 F 0 ⟨none, 0, 0, 0, 0, fun _ => 0⟩) := ⟨nil_at w1, rfl, Nat.zero_le _, fun j hj => absurd hj (Nat.not_lt_zero _), hb1⟩
  clear hb1 hs
  go_wp2
  go_loopw [3, 4] (fun v i wr => ∃ (k : Nat) (D : Bys), k ≤ F.len ∧ i = .int .i64 k ∧ v = .slice D.ao D.len D.cap ∧ Wri w wr F k D) (fun _ i _ => F.len - (intOf i).toNat)
  case atStart => exact ⟨0, _, Nat.zero_le _, rfl, rfl, HW1.out⟩
  case round =>
    obtain ⟨k, D, hk, rfl, rfl, hw⟩ := hrel
    have HW : Hid (Wri w wr F k D) := hw
    have hDb := hw.at'.bound
    have hDl := hw.at'.lc
    have hDn := hw.len
    clear hw HW1
    by_cases hlt : k < F.len
    · have hao := HF.out.nil (by omega)
      rw [hao]
      obtain ⟨n, hn⟩ : ∃ n, n = F.N k := ⟨_, rfl⟩
      obtain ⟨S, hS⟩ : ∃ S, S = F.S k := ⟨_, rfl⟩
      have HNS : Hid (F.N k = n ∧ F.S k = S) := ⟨hn.symm, hS.symm⟩
      have HC : Hid (∀ u, Below wr.heap.size wr u → u.cell? ⟨F.b, F.o + k * 2, none⟩ = some (.int .i64 n) ∧ u.cell? ⟨F.b, F.o + k * 2 + 1, none⟩ = some (.string S)) := fun u hu => by
        have h := HF.out.kept (HW.out.bl.trans (hu.mono HW.out.bl.size))
        rw [hn, hS]
        exact ⟨h.c0 k hlt, h.c1 k hlt⟩
      have hSz : S.size ≤ 9223372036854775807 := by rw [hS]; exact HF.out.s k hlt
      have d0 := (HC.out wr (Below.refl _ _)).1
      have d1 := (HC.out wr (Below.refl _ _)).2
      clear hn hS
      by_cases h300 : 300 < S.size
      · go_wp2
        go_ret
        exact ⟨rfl, HW.out.bl⟩
      · have h300' : S.size ≤ 300 := by omega
        have i6 : IntKind.u16.wrap n = (low n : Int) := by rw [IntKind.wrap_u16]; unfold low; omega
        have hlow := low_lt n
        go_wp2_with (first
          | (go_at_call 15; refine (wlong_b D n wr HW.out.at' (by omega)).mono ?_; rintro e wa ⟨D1, rfl, hA, hl, hba⟩; have H1 : Hid (D1.At wa ∧ D1.l = D.l ++ be 8 (uns n)) := ⟨hA, hl⟩; have b1 := hA.bound; have l1 := hA.lc; have n1 : D1.len ≤ D.len + 8 := Nat.le_of_eq (by rw [← D1.len_l, hl, List.length_append, D.len_l, be_len]); have HBa : Hid (Below wr.heap.size wr wa) := hba; have d2 := (HC.out wa hba).1; have d3 := (HC.out wa hba).2; clear hA hl hba)
          | (go_at_call 12; refine (wtext_b D1 S wa H1.out.1 (by omega) (by omega)).mono ?_; rintro e wb ⟨D2, rfl, hA, hl, hbb⟩; have H2 : Hid (D2.At wb ∧ D2.l = D1.l ++ (be 2 S.size ++ sL S)) := ⟨hA, hl⟩; have b2 := hA.bound; have l2 := hA.lc; have n2 : D2.len ≤ D1.len + (2 + S.size) := Nat.le_of_eq (by rw [← D2.len_l, hl, List.length_append, D1.len_l, List.length_append, be_len, sL_len]); have HBb : Hid (Below wr.heap.size wr wb) := HBa.out.trans (hbb.mono HBa.out.size); have d4 := (HC.out wb HBb.out).1; have d5 := (HC.out wb HBb.out).2; clear hA hl hbb)
          | (go_at_call 10; refine (wshort_b D2 (low n) wb H2.out.1 (by omega) (by omega)).mono ?_; rintro e wd ⟨D3, rfl, hA, hl, hbd⟩; have H3 : Hid (D3.At wd ∧ D3.l = D2.l ++ be 2 (low n)) := ⟨hA, hl⟩; have b3 := hA.bound; have l3 := hA.lc; have HBd : Hid (Below wr.heap.size wr wd) := HBb.out.trans (hbd.mono HBb.out.size); clear hA hl hbd))
        go_roundw
        case rel =>
          refine ⟨k + 1, D3, by omega, by go_num, rfl, HW.out.next (by rw [HNS.out.2]; exact h300') H3.out.1 ?_ HBd.out⟩
          rw [HNS.out.1, HNS.out.2, H3.out.2, H2.out.2, H1.out.2]
        case measure => simp [intOf]; omega
    · have HK : Hid (k = F.len) := by show k = F.len; omega
      have HSm : Hid (∀ j, j < F.len → (F.S j).size ≤ 300) := by have h := HW.out.sm; rw [HK.out] at h; exact h
      go_wp2_with (go_at_call 17; refine (read_any D wr HW.out.at' (by omega)).mono ?_; rintro e w2 ⟨p, rfl, hR, hgp, hb2⟩; rw [HW.out.l, HK.out] at hR; have HR2 : Hid (Rd w2 p wr.heap.size (some (fE F 0 F.len))) := hR; have HB2 : Hid (Below wr.heap.size wr w2) := hb2; clear hR hb2)
      have hbr := HW.out.bl.size
      have HBr : Hid (Below w.heap.size w wr) := HW.out.bl
      obtain ⟨g, hg⟩ : ∃ g, g = wr.heap.size := ⟨_, rfl⟩
      have hgp2 : g ≠ p := by omega
      have hpw : w.heap.size ≤ p := by omega
      have HB3 : Hid (Below w.heap.size w w2) := HBr.out.trans (HB2.out.mono hbr)
      rw [← hg] at HR2
      clear hg HB2 HW HBr
      go_loopw [10] (fun i wr => ∃ k : Nat, k ≤ F.len ∧ i = .int .i64 k ∧ Rd wr p g (some (fE F k (F.len - k))) ∧ Below w.heap.size w wr) (fun i _ => F.len - (intOf i).toNat)
      case atStart => exact ⟨0, Nat.zero_le _, rfl, HR2.out, HB3.out⟩
      case round =>
        obtain ⟨j, hj, rfl, hr, hw⟩ := hrel
        have HR : Hid (Rd wr p g (some (fE F j (F.len - j)))) := hr
        have HW : Hid (Below w.heap.size w wr) := hw
        clear hr hw HR2 HB3
        have HGr : Hid (∀ u v : World, Below w.heap.size w u → u.grownBy v (some p) → Below w.heap.size w v) := fun u v hu hg => hu.grown hg hu.size (fun k hk => by injection hk with hk; omega)
        by_cases hlt : j < F.len
        · have hao := HF.out.nil (by omega)
          rw [hao]
          obtain ⟨n, hn⟩ : ∃ n, n = F.N j := ⟨_, rfl⟩
          obtain ⟨S, hS⟩ : ∃ S, S = F.S j := ⟨_, rfl⟩
          have KEY : Hid (∀ u, Below w.heap.size w u → (fun u : World => u.cell? ⟨F.b, F.o + j * 2, none⟩ = some (.int .i64 n) ∧ u.cell? ⟨F.b, F.o + j * 2 + 1, none⟩ = some (.string S)) u) := fun u hu => by
            have h := HF.out.kept hu
            rw [hn, hS]
            exact ⟨h.c0 j hlt, h.c1 j hlt⟩
          obtain ⟨L0, L1, L2, L3, hL0, hL3, hd, hE1, hE2, hE3⟩ := field_back F j hlt n S hn.symm hS.symm (by rw [hn]; exact HF.out.n j hlt) (by rw [hS]; exact HSm.out j hlt)
          have HR0 : Hid (Rd wr p g (some L0)) := by have h := HR.out; rw [hL0] at h; exact h
          have HL3 : Hid (fE F (j + 1) (F.len - (j + 1)) = L3) := hL3
          have HE0 : Hid (doneB (some L0) = false) := hd
          have HE1 : Hid (longV (some L0) = n ∧ tkS 8 (some L0) = some L1) := hE1
          have HE2 : Hid (textV (some L1) = S ∧ textS (some L1) = some L2) := hE2
          have HE3 : Hid (belowV 65536 (some L2) = low n ∧ belowS 65536 (some L2) = some L3) := hE3
          clear hL0 hL3 hd hE1 hE2 hE3 hn hS HR
          have i6 : IntKind.u16.wrap n = (low n : Int) := by rw [IntKind.wrap_u16]; unfold low; omega
          have hlow := low_lt n
          go_upto_region 19 with fail
          go_cut [109] from 70 to 109 (fun c wx => c = .bool false ∧ Rd wx p g (some L3) ∧ Below w.heap.size w wx)
          case first =>
            have HW0 : Hid (Below w.heap.size w wr.drew) := HW.out.drew
            have HR1 : Hid (Rd wr.drew p g (some L0)) := HR0.out.bel ((Below.refl _ _).drew)
            have hS0 := KEY.out _ HW0.out
            have i1 : (0 : Int) ≤ (j : Int) := by omega
            have i2 : (j : Int) < (F.len : Int) := by omega
            have i7 : IntKind.i64.wrap (low n : Int) = (low n : Int) := by rw [IntKind.wrap_i64]; omega
            go_region_held3 (fun u : World => u.cell? ⟨F.b, F.o + j * 2, none⟩ = some (.int .i64 n) ∧ u.cell? ⟨F.b, F.o + j * 2 + 1, none⟩ = some (.string S)) (first | with_reducible assumption | fail) (first
              | (go_at_call 29; refine (done_any p g (some L0) wr.drew HR1.out).mono ?_; rw [HE0.out]; rintro e wq ⟨rfl, rfl⟩)
              | (go_at_call 20; refine (rlong_any p g (some L0) wr.drew hgp2 HR1.out).mono ?_; rw [HE1.out.1, HE1.out.2]; rintro e wa ⟨rfl, hR, hg⟩; have HRa : Hid (Rd wa p g (some L1)) := hR; have HWa : Hid (Below w.heap.size w wa) := HGr.out _ _ HW0.out hg; have hSa := KEY.out _ HWa.out; clear hR hg)
              | (go_at_call 22; refine (rtext_any p g (some L1) wa hgp2 HRa.out).mono ?_; rw [HE2.out.1, HE2.out.2]; rintro e wb ⟨rfl, hR, hg⟩; have HRb : Hid (Rd wb p g (some L2)) := hR; have HWb : Hid (Below w.heap.size w wb) := HGr.out _ _ HWa.out hg; have hSb := KEY.out _ HWb.out; clear hR hg)
              | (go_at_call 24; refine (below_any p g 65536 (some L2) wb hgp2 HRb.out).mono ?_; rw [HE3.out.1, HE3.out.2]; rintro e wd ⟨rfl, hR, hg⟩; have HRd : Hid (Rd wd p g (some L3)) := hR; have HWd : Hid (Below w.heap.size w wd) := HGr.out _ _ HWb.out hg; have hSd := KEY.out _ HWd.out; clear hR hg))
            go_wp2
            go_meet
            case rel => exact ⟨rfl, HRd.out, HWd.out⟩
          case rest =>
            obtain ⟨rfl, hr3, hw3⟩ := hcut
            have HR3 : Hid (Rd wc p g (some (fE F (j + 1) (F.len - (j + 1))))) := by show Rd _ _ _ _; rw [HL3.out]; exact hr3
            have HW3 : Hid (Below w.heap.size w wc) := hw3
            clear hr3 hw3
            go_wp2
            go_roundw
            case rel => exact ⟨j + 1, by omega, by go_num, HR3.out, HW3.out⟩
            case measure => simp [intOf]; omega
        · have HJ : Hid (fE F j (F.len - j) = []) := by show _ = _; rw [show F.len - j = 0 by omega]; rfl
          have HR0 : Hid (Rd wr p g (some [])) := by have h := HR.out; rw [HJ.out] at h; exact h
          clear HR HJ
          go_wp2_with (first
            | (go_at_call 29; refine (done_any p g (some []) wr HR0.out).mono ?_; rw [show doneB (some []) = true from rfl]; rintro e wa ⟨rfl, rfl⟩)
            | (go_at_call 26; refine (left_any p g (some []) _ HR0.out).mono ?_; rw [show leftV (some []) = 0 from rfl]; rintro e wa ⟨rfl, rfl⟩)
            | (go_at_call 18; refine (rshort_any p g (some []) _ hgp2 HR0.out).mono ?_; rw [show shortV (some []) = 0 from rfl, show tkS 2 (some []) = none from rfl]; rintro e wb ⟨rfl, hR, hg⟩; have HRb : Hid (Rd wb p g none) := hR; have HWb : Hid (Below w.heap.size w wb) := HGr.out _ _ HW.out hg; clear hR hg)
            | (go_at_call 28; refine (failed_any p g none wb HRb.out).mono ?_; rintro e wd ⟨rfl, rfl⟩))
          go_ret
          exact ⟨rfl, HWb.out⟩
end Go.Proofs.Ytboehlfdfpiodaa
