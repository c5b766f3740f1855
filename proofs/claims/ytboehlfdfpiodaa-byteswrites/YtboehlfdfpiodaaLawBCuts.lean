/- Layer 4: the walk of the statement BytesCuts. -/
import Derived.Test.YtboehlfdfpiodaaBtAwake
import Derived.Test.YtboehlfdfpiodaaBtMath
import Derived.Deep.RegionWith
import Derived.Deep.Cut
import Derived.Deep.CutRange
import Derived.Deep.DeepCutAuto
namespace Go.Proofs.Ytboehlfdfpiodaa
open Go.RowKit

theorem wlong0 (N : Int) (w : World) (g : Nat) (hg : w.heap.size = g) :
    Calls Try.prog 15 #[.slice none 0 0, .int .i64 N] w fun e w' => e = .returned (.slice (some ⟨g, 0, none⟩) 8 8) ∧ (mkB g 8 (beF 8 (uns N))).At w' ∧ Below w.heap.size w w' := by
  subst hg
  refine (wlong_any ⟨none, 0, 0, 0, 0, fun _ => 0⟩ N w (nil_at w) (by show (0 : Nat) ≤ _; omega)).mono ?_
  rintro e w' ⟨rfl, h, hb⟩
  refine ⟨rfl, ?_, hb⟩
  have e : numG ⟨none, 0, 0, 0, 0, fun _ => 0⟩ 8 (uns N) = beF 8 (uns N) := by
    funext j
    unfold numG
    rw [if_neg (Nat.not_lt_zero _)]
    rfl
  rw [e] at h
  exact h
theorem wtext8 (N : Int) (S : ByteArray) (w : World) (g h : Nat) (hB : (mkB g 8 (beF 8 (uns N))).At w) (hs : S.size ≤ 65535) (hh : w.heap.size = h) :
    Calls Try.prog 12 #[.slice (some ⟨g, 0, none⟩) 8 8, .string S] w fun e w' => e = .returned (.tuple #[.slice (some ⟨h, 0, none⟩) (8 + (2 + S.size) : Nat) (8 + (2 + S.size) : Nat), .int .i64 0]) ∧ (∃ f, (mkB h (8 + (2 + S.size)) f).At w' ∧ (mkB h (8 + (2 + S.size)) f).l = cutL N S) ∧ Below w.heap.size w w' := by
  subst hh
  refine (wtext_yes (mkB g 8 (beF 8 (uns N))) S w hB (by show (8 : Nat) ≤ _; omega) hs).mono ?_
  rintro e w' ⟨rfl, h, hb⟩
  exact ⟨rfl, ⟨_, h, txtG_l (mkB g 8 (beF 8 (uns N))) w.heap.size S⟩, hb⟩

theorem read_cut (g n k : Nat) (f : Nat → Nat) (w : World) (hB : (mkB g n f).At w) (hk : k ≤ n) (hn : n ≤ 1000000) :
    Calls Try.prog 17 #[.slice (some ⟨g, 0, none⟩) k n] w fun e w' => ∃ p, e = .returned (.pointer (some ⟨p, 0, none⟩)) ∧ Rd w' p w.heap.size (some ((mkB g n f).l.take k)) ∧ w.heap.size < p ∧ Below w.heap.size w w' := by
  have h := read_any ⟨some ⟨g, 0, none⟩, g, 0, k, n, f⟩ w ⟨hk, fun _ => rfl, fun h => (by cases h), hB.bound, fun i hi => hB.cell i (Nat.lt_of_lt_of_le hi hk), fun i hi => hB.lt i (Nat.lt_of_lt_of_le hi hk)⟩ (by show k ≤ _; omega)
  rw [show (⟨some ⟨g, 0, none⟩, g, 0, k, n, f⟩ : Bys).l = (mkB g n f).l.take k from take_l (mkB g n f) k _ _ hk] at h
  exact h

/-- What is read of a long and a text that are cut off at k. -/
theorem cut_all (N : Int) (hN : -9223372036854775808 ≤ N ∧ N ≤ 9223372036854775807) (S : ByteArray) (hS : S.size ≤ 3000) (k : Nat) (hk : k < 8 + (2 + S.size)) :
    ∃ (L : Int) (st : Option (List Nat)), longV (some ((cutL N S).take k)) = L ∧ tkS 8 (some ((cutL N S).take k)) = st ∧ ((k < 8 ∧ L = 0 ∧ st = none) ∨ (8 ≤ k ∧ L = N ∧ ∃ l, st = some l)) ∧ textV st = ⟨#[]⟩ ∧ textS st = none := by
  refine ⟨_, _, rfl, rfl, ?_⟩
  by_cases h : k < 8
  · obtain ⟨h1, h2⟩ := cut_low N S k h
    rw [h1, h2]
    exact ⟨Or.inl ⟨h, rfl, rfl⟩, none_text⟩
  · obtain ⟨h1, h2⟩ := cut_high N hN S k (by omega)
    rw [h1, h2]
    exact ⟨Or.inr ⟨by omega, rfl, _, rfl⟩, cut_text S (by omega) (k - 8) (by omega)⟩

/-- The variable of a number and a text. -/
structure FBox (w0 w : World) (N : Int) (S : ByteArray) : Prop where
  bl : Below w0.heap.size w0 w
  lt : w0.heap.size < w.heap.size
  c0 : w.cell? ⟨w0.heap.size, 0, none⟩ = some (.int .i64 N)
  c1 : w.cell? ⟨w0.heap.size, 1, none⟩ = some (.string S)
theorem FBox.start (w : World) (N : Int) (S : ByteArray) (T : TypeId) : FBox w (w.alloc (.cells #[.int .i64 N, .string S] T)) N S :=
  ⟨(Below.refl _ _).alloc (Nat.le_refl _) _, by simp, by simp, by simp⟩
theorem FBox.step {w0 w w' : World} {N : Int} {S : ByteArray} (h : FBox w0 w N S) (hb : Below w.heap.size w w') : FBox w0 w' N S :=
  ⟨h.bl.trans (hb.mono h.bl.size), Nat.lt_of_lt_of_le h.lt hb.size, (hb.cell (p := ⟨w0.heap.size, 0, none⟩) h.lt).trans h.c0, (hb.cell (p := ⟨w0.heap.size, 1, none⟩) h.lt).trans h.c1⟩

set_option maxRecDepth 100000 in
set_option maxHeartbeats 8000000 in
theorem bytesCuts_any (N : Int) (S : ByteArray) (cut : Nat) (B : Bys) (w : World) (hN : -9223372036854775808 ≤ N ∧ N ≤ 9223372036854775807) (hS : S.size ≤ 9223372036854775807) (hcut : cut < 65536) (hB : B.At w) :
    Calls Try.prog 6 #[.agg #[.int .i64 N, .string S], .int .u16 cut, .slice B.ao B.len B.cap] w fun e w' => e = .returned (.bool true) ∧ Below w.heap.size w w' := by
  have HN : Hid (-9223372036854775808 ≤ N ∧ N ≤ 9223372036854775807) := hN
  have HB : Hid (B.At w) := hB
  have hbb := hB.bound
  have hbl := hB.lc
  have B0 := FBox.start w N S 24
  clear hN hB
  go_enter Try.func6, Try.ntmps6
  go_wp2_with fail
  refine (awake_any _).mono ?_
  rintro e w1 ⟨rfl, hb1⟩
  have B1 := B0.step hb1
  clear hb1 B0
  have c0 := B1.c0
  have c1 := B1.c1
  by_cases hs : 3000 < S.size
  · go_wp2_with fail
    refine (awake_any _).mono ?_
    rintro e w3 ⟨rfl, hb3⟩
    go_wp2
    go_ret
    exact ⟨rfl, (B1.step hb3).bl⟩
  by_cases hm : 100 < B.len
  · go_wp2_with fail
    refine (awake_any _).mono ?_
    rintro e w3 ⟨rfl, hb3⟩
    go_wp2
    go_ret
    exact ⟨rfl, (B1.step hb3).bl⟩
  go_upto_region 3 with fail
  have HB1 : Hid (FBox w w1 N S) := B1
  clear B1
  go_cut [7, 8] (fun b e wx => ∃ g f, b = .slice (some ⟨g, 0, none⟩) (8 + (2 + S.size) : Nat) (8 + (2 + S.size) : Nat) ∧ e = .int .i64 0 ∧ (mkB g (8 + (2 + S.size)) f).At wx ∧ (mkB g (8 + (2 + S.size)) f).l = cutL N S ∧ FBox w wx N S)
  case first =>
    have F0 := HB1.out.c0
    have F1 := HB1.out.c1
    go_region_with (first
      | (go_at_call 15; refine (wlong0 N w1.drew w1.heap.size rfl).mono ?_; rintro e wl ⟨rfl, hl, hbl⟩; have HL : Hid ((mkB w1.heap.size 8 (beF 8 (uns N))).At wl) := hl; have HF : Hid (FBox w wl N S) := HB1.out.step (((Below.refl _ _).drew).trans hbl); have F2 := HF.out.c1; clear hl)
      | (go_at_call 12; refine (wtext8 N S wl w1.heap.size wl.heap.size HL.out (by omega) rfl).mono ?_; rintro e wt ⟨rfl, ht, hbt⟩; have HT : Hid (∃ f, (mkB wl.heap.size (8 + (2 + S.size)) f).At wt ∧ (mkB wl.heap.size (8 + (2 + S.size)) f).l = cutL N S) := ht; have HG : Hid (FBox w wt N S) := HF.out.step hbt; clear ht))
    all_goals
      go_wp2_with fail
      go_meet
      case rel =>
        obtain ⟨f, h1, h2⟩ := HT.out
        exact ⟨_, f, rfl, rfl, h1, h2, HG.out⟩
  case rest =>
    obtain ⟨g, f, rfl, rfl, hb, hl, hF⟩ := hcut
    obtain ⟨W0, hW0⟩ : ∃ W0, W0 = wc := ⟨_, rfl⟩
    subst hW0
    have HBB : Hid ((mkB g (8 + (2 + S.size)) f).At W0) := hb
    have HL : Hid ((mkB g (8 + (2 + S.size)) f).l = cutL N S) := hl
    have HF : Hid (FBox w W0 N S) := hF
    have hs' : S.size ≤ 3000 := by omega
    have hm' : B.len ≤ 100 := by omega
    clear hb hl hF hs hm HB1 c0 c1 hS
    obtain ⟨n, hn⟩ : ∃ n, n = 8 + (2 + S.size) := ⟨_, rfl⟩
    have HZ : Hid (n = 8 + (2 + S.size)) := hn
    rw [← hn] at HBB HL
    have hn1 : 10 ≤ n := by omega
    have hn2 : n ≤ 3010 := by omega
    rw [← hn]
    clear hn
    obtain ⟨k, hk⟩ : ∃ k, k = cut % n := ⟨_, rfl⟩
    have hkn : k < n := by rw [hk]; exact Nat.mod_lt _ (by omega)
    have hrem : (cut : Int).tmod (n : Int) = (k : Int) := by rw [hk]; exact Int.ofNat_tmod cut n
    clear hk
    go_wp2_with fail
    refine (read_cut g n k f W0 HBB.out (by omega) (by omega)).mono ?_
    rintro e w2 ⟨p, rfl, hR, hp, hb2⟩
    rw [HL.out] at hR
    have HR2 : Hid (Rd w2 p W0.heap.size (some ((cutL N S).take k))) := hR
    have hp2 : W0.heap.size ≠ p := by omega
    clear hR
    obtain ⟨L, st, hL, hst, hcase, htext⟩ := cut_all N HN.out S hs' k (by have := HZ.out; omega)
    have HLL : Hid (longV (some ((cutL N S).take k)) = L ∧ tkS 8 (some ((cutL N S).take k)) = st) := ⟨hL, hst⟩
    have HC : Hid ((k < 8 ∧ L = 0 ∧ st = none) ∨ (8 ≤ k ∧ L = N ∧ ∃ l, st = some l)) := hcase
    have HT : Hid (textV st = ⟨#[]⟩ ∧ textS st = none) := htext
    clear hL hst hcase htext
    go_wp2_with fail
    refine (rlong_any p W0.heap.size _ w2 hp2 HR2.out).mono ?_
    rw [HLL.out.1, HLL.out.2]
    rintro e w3 ⟨rfl, hR, hg3⟩
    have HR3 : Hid (Rd w3 p W0.heap.size st) := hR
    have HW3 : Hid (Below W0.heap.size W0 w3) := hb2.grown hg3 hb2.size (fun k hk => by injection hk with hk; omega)
    clear hR hg3 hb2 HR2
    go_upto_region 9 with fail
    go_cut [73] (fun c wx => c = .bool false ∧ wx = w3)
    case first =>
      rcases HC.out with ⟨h1, rfl, rfl⟩ | ⟨h1, rfl, l, rfl⟩
      · go_wp2_with (go_at_call 28; refine (failed_any p W0.heap.size none w3 HR3.out).mono ?_; rintro e w4 ⟨rfl, rfl⟩)
        go_meet
        case rel => exact ⟨rfl, rfl⟩
      · have d0 := (HF.out.step HW3.out).c0
        go_wp2_with (go_at_call 28; refine (failed_any p W0.heap.size (some l) w3 HR3.out).mono ?_; rintro e w4 ⟨rfl, rfl⟩)
        go_meet
        case rel => exact ⟨rfl, rfl⟩
    case rest =>
      obtain ⟨rfl, rfl⟩ := hcut
      go_wp2_with (first
        | (go_at_call 22; refine (rtext_any p W0.heap.size st _ hp2 HR3.out).mono ?_; rw [HT.out.1, HT.out.2]; rintro e w5 ⟨rfl, hR, hg5⟩; have HR5 : Hid (Rd w5 p W0.heap.size none) := hR; have HW5 : Hid (Below W0.heap.size W0 w5) := HW3.out.grown hg5 HW3.out.size (fun k hk => by injection hk with hk; omega); clear hR hg5)
        | (go_at_call 28; refine (failed_any p W0.heap.size none _ HR5.out).mono ?_; rintro e w6 ⟨rfl, rfl⟩)
        | (go_at_call 29; refine (done_any p W0.heap.size none _ HR5.out).mono ?_; rintro e w6 ⟨rfl, rfl⟩)
        | (go_at_call 26; refine (left_any p W0.heap.size none _ HR5.out).mono ?_; rintro e w6 ⟨rfl, rfl⟩))
      have hW5 := HW5.out.size
      clear HR3 HW3 HT HC HLL HL HBB hrem
      go_loopw [12] (fun i wr => ∃ j : Nat, j ≤ B.len ∧ i = .int .i64 j ∧ Rd wr p W0.heap.size none ∧ Below W0.heap.size W0 wr) (fun i _ => B.len - (intOf i).toNat)
      case atStart => exact ⟨0, Nat.zero_le _, rfl, HR5.out, HW5.out⟩
      case round =>
        obtain ⟨j, hj, rfl, hr, hw⟩ := hrel
        have HR : Hid (Rd wr p W0.heap.size none) := hr
        have HW : Hid (Below W0.heap.size W0 wr) := hw
        clear hr hw HR5 HW5
        by_cases hlt : j < B.len
        · have hao := HB.out.nil (by omega)
          have hl8 := HB.out.lt j hlt
          have HCe : Hid (∀ u, Below W0.heap.size W0 u → u.cell? ⟨B.b, B.o + j, none⟩ = some (.int .u8 (B.f j))) := fun u hu => (HB.out.kept (HF.out.step hu).bl).cell j hlt
          have HGr : Hid (∀ u v : World, Below W0.heap.size W0 u → u.grownBy v (some p) → Below W0.heap.size W0 v) := fun u v hu hg => hu.grown hg hu.size (fun k hk => by injection hk with hk; omega)
          rw [hao]
          go_wp2_with (first
            | (go_at_call 18; refine (rshort_any p W0.heap.size none wr hp2 HR.out).mono ?_; rw [none_short.1, none_short.2]; rintro e wa ⟨rfl, hR, hg⟩; have HRa : Hid (Rd wa p W0.heap.size none) := hR; have HWa : Hid (Below W0.heap.size W0 wa) := HGr.out _ _ HW.out hg; clear hR hg)
            | (go_at_call 20; refine (rlong_any p W0.heap.size none wa hp2 HRa.out).mono ?_; rw [none_long.1, none_long.2]; rintro e wb ⟨rfl, hR, hg⟩; have HRb : Hid (Rd wb p W0.heap.size none) := hR; have HWb : Hid (Below W0.heap.size W0 wb) := HGr.out _ _ HWa.out hg; clear hR hg)
            | (go_at_call 22; refine (rtext_any p W0.heap.size none wb hp2 HRb.out).mono ?_; rw [none_text.1, none_text.2]; rintro e wd ⟨rfl, hR, hg⟩; have HRd : Hid (Rd wd p W0.heap.size none) := hR; have HWd : Hid (Below W0.heap.size W0 wd) := HGr.out _ _ HWb.out hg; have cj := HCe.out _ HWd.out; clear hR hg)
            | (go_at_call 24; refine (below_any p W0.heap.size (B.f j) none wd hp2 HRd.out).mono ?_; rw [(none_below _).1, (none_below _).2]; rintro e we ⟨rfl, hR, hg⟩; have HRe : Hid (Rd we p W0.heap.size none) := hR; have HWe : Hid (Below W0.heap.size W0 we) := HGr.out _ _ HWd.out hg; clear hR hg)
            | (go_at_call 28; refine (failed_any p W0.heap.size none we HRe.out).mono ?_; rintro e wf ⟨rfl, rfl⟩))
          go_roundw
          case rel =>
            repeat apply Exists.intro
            exact ⟨⟨j + 1, by omega, by go_num, HRe.out, HWe.out⟩, rfl⟩
          case measure => simp [intOf]; omega
        · go_wp2
          go_ret
          exact ⟨rfl, (HF.out.step HW.out).bl⟩
end Go.Proofs.Ytboehlfdfpiodaa
