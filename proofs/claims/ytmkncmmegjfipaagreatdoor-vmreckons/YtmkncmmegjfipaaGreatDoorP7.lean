/- The walk of the reference's Make. -/
import Derived.Test.YtmkncmmegjfipaaGreatDoorP6
import Derived.Deep.LoopGhost
import Derived.Test.YtmkncmmegjfipaaGreatDoorP5
import Derived.Test.YtmkncmmegjfipaaGreatDoorP3
namespace Go.Proofs.YtmkncmmegjfipaaGreatDoor
open Go.RowKit

set_option maxRecDepth 100000 in
set_option maxHeartbeats 4000000 in
theorem rmake_core (n : Strs) (pao : Option Addr) (pb po plen pcap : Nat) (px py : Nat → Int) (w : World) (hn : n.At w) (hp : Prs.At ⟨pao, pb, po, plen, pcap, px, py⟩ w) (h8 : n.len ≤ 8) (h64 : plen ≤ 64) (had : (n.ao = none ∧ n.cap = 0) ∨ n.ao = some ⟨n.b, n.o, none⟩) :
    Calls Tryz.prog 17 #[.slice n.ao n.len n.cap, .slice pao plen pcap] w fun e w' => ∃ (er : Int) (n' : Strs) (g' : Grid), e = .returned (.tuple #[.agg #[.slice n'.ao n'.len n'.cap, .slice g'.ao g'.len g'.cap], .int .i64 er]) ∧ RMade n ⟨pao, pb, po, plen, pcap, px, py⟩ er n' g' w' ∧ Below w.heap.size w w' := by
  have d8 : decide ((8 : Int) < n.len) = false := by simp; omega
  have d64 : decide ((64 : Int) < plen) = false := by simp; omega
  have T0 := Two.start w (.slice none 0 0) (.slice none 0 0) (.slice none 0 0) (.slice none 0 0) 25 25
  have hn0 := hn.kept T0.bl
  have HA : Hid ((n.ao = none ∧ n.cap = 0) ∨ n.ao = some ⟨n.b, n.o, none⟩) := had
  clear had
  go_enter Tryz.func17, Tryz.ntmps17
  go_wp2_with ((at_builtin; refine wpList_append_names rfl _ _ rfl (w.heap.size + 2) rfl n HA.out hn0 h8 rfl (by simp) ?_; intro v' w1 hown' hgrow; have hbl1 := grown_none hgrow; have hfz := two_free w _ _ _ _ _ _ hbl1; have T1 := T0.step hbl1; obtain ⟨ao', b', c', hv, hn1, hge⟩ := names_app h8 hn.sz hown'; subst hv; have e0 := T1.c2; have e1 := hfz.2.1; clear hown' hgrow hbl1))
  have HD := head_of T1 hfz hn1 hge
  clear T1 hfz hn1 hge e0 e1 hn0 T0 d8 d64
  generalize w1.setCell ⟨w.heap.size + 1, 0, none⟩ (.slice ao' n.len c') = W1 at HD ⊢
  clear w1
  obtain ⟨i0, hi, hz0, hz1, hz2⟩ := info_parts Tryz.infoRow
  go_loopw [8] (fun i wr => ∃ (k : Nat) (v : Value) (R : Nat → Nat), k ≤ n.len ∧ i = .int .i64 k ∧ RG W1 wr (w.heap.size + 1) n.len k v R (fun r c => c == r)) (fun i _ => n.len - (intOf i).toNat)
  case atStart => exact ⟨0, _, _, Nat.zero_le _, rfl, RG.start HD⟩
  case round =>
    obtain ⟨k, v, R, hk, rfl, hR⟩ := hrel
    by_cases hlt : k < n.len
    · have hmk := run_make_row' (P := Tryz.prog) 99 4 (.bool false) 1 Tryz.underlying99 Tryz.infoBool rfl .i64 .i64 n.len (by omega) (by omega)
      have l1 := hR.l1
      have f1 := hR.st.f1
      have hown := hR.own
      have hsz := hR.st.size
      have hlt7 := HD.lt
      have hne : v.ownBlock ≠ some (w.heap.size + 1) := fun h => by have := own_ge hown h; omega
      have lA : ∀ o o', ((wr.alloc o).alloc o').drew.cell? ⟨w.heap.size + 1, 1, none⟩ = some v := fun o o' => by
        have hb : Below wr.heap.size wr ((wr.alloc o).alloc o') := ((Below.refl _ _).alloc (Nat.le_refl _) _).alloc (by simp) _
        exact (hb.cell (p := ⟨w.heap.size + 1, 1, none⟩) (by show w.heap.size + 1 < _; omega)).trans l1
      have lA1 : ∀ o, (wr.alloc o).cell? ⟨w.heap.size + 1, 1, none⟩ = some v := fun o => (((Below.refl wr.heap.size wr).alloc (Nat.le_refl _) o).cell (p := ⟨w.heap.size + 1, 1, none⟩) (by show w.heap.size + 1 < _; omega)).trans l1
      have lA2 : ∀ o o', ((wr.alloc o).alloc o').cell? ⟨w.heap.size + 1, 1, none⟩ = some v := fun o o' => lA o o'
      have lF : ∀ o o', ((wr.alloc o).alloc o').drew.frozen? ⟨w.heap.size + 1, 1, none⟩ = false := fun o o' => by
        have hb : Below wr.heap.size wr ((wr.alloc o).alloc o') := ((Below.refl _ _).alloc (Nat.le_refl _) _).alloc (by simp) _
        exact (hb.frozen (p := ⟨w.heap.size + 1, 1, none⟩) (by show w.heap.size + 1 < _; omega)).trans f1
      have ik : (k : Int) < k + 1 := by omega
      have ik2 : (k : Int) < n.len := by omega
      go_wp2
      go_region_law ((refine step_append_lies _ (by rfl) _ _ _ (by rfl) W1.heap.size 99 i0 _ 1 24 Tryz.underlying23 hi hz0 hz1 hz2 rfl (by omega) v k (rowCells R n.len k) (by rfl) (((hown.alloc _).alloc _).drew) ⟨wr.heap.size + 1, 0, none⟩ 1 1 [.slice (some ⟨wr.heap.size, 0, none⟩) n.len n.len] (by rfl) (by rfl) (World.news_of_block (cs := #[.slice (some ⟨wr.heap.size, 0, none⟩) n.len n.len]) (t := 99) (fr := (0, 0)) (two_new wr _ _)) (by simp [Value.oneCell']) (by omega) (by unfold maxLen; omega) (by omega) (by simp; omega) (wr.heap.size + 2) (by simp) ?_; intro gg cap w2 hown2 hgrow hat hltg; have m1 := (hgrow.cell_far ⟨w.heap.size + 1, 1, none⟩ (by simp; omega) (Ne.symm hne)).trans (lA _ _); have m2 := (hgrow.frozen_far ⟨w.heap.size + 1, 1, none⟩ (by simp; omega) (Ne.symm hne)).trans (lF _ _); have hR2 := hR.grow hlt7 hown2 hgrow; generalize (fun j => if j < k then R j else wr.heap.size) = R2 at hR2; have q0 := hR2.l1; have q1 := hR2.cellAt (j := k) (by omega); have q2 := (hR2.rows k (by omega)).cell hlt; have q3 := (hR2.rows k (by omega)).frozen k; have HR : Hid (RG W1 (w2.setCell ⟨w.heap.size + 1, 1, none⟩ (.slice (some ⟨gg, 0, none⟩) (k + 1) cap)) (w.heap.size + 1) n.len (k + 1) (.slice (some ⟨gg, 0, none⟩) (k + 1) cap) R2 (fun r c => if r < k then (c == r) else false)) := hR2; clear hR2 hown2 hgrow hat hltg))
      all_goals
        clear hR hown lA lA1 lA2 lF hmk l1 f1 hne m1 m2
        go_wp2
        go_roundw
        case rel => exact ⟨k + 1, _, _, by omega, by go_num, (HR.out.set hlt7 (a := k) (c := k) (by omega)).diag⟩
        case measure => simp [intOf]; omega
    · have e : k = n.len := by omega
      subst e
      obtain ⟨ao, gg, cap, rfl, hcap, hao⟩ := hR.any
      have HR : Hid (RG W1 wr (w.heap.size + 1) n.len n.len (.slice ao n.len cap) R (prsM ⟨pao, pb, po, plen, pcap, px, py⟩ 0)) := hR.congr (fun r c _ _ => by simp [prsM])
      have hlt7 := HD.lt
      clear hR hi hz0 hz1 hz2
      go_wp2
      go_loopw [9] (fun i wr => ∃ m : Nat, m ≤ plen ∧ i = .int .i64 m ∧ RG W1 wr (w.heap.size + 1) n.len n.len (.slice ao n.len cap) R (prsM ⟨pao, pb, po, plen, pcap, px, py⟩ m) ∧ ∀ i, i < m → (inR n.len (px i) && inR n.len (py i)) = true) (fun i _ => plen - (intOf i).toNat)
      case atStart => exact ⟨0, Nat.zero_le _, rfl, HR.out, fun _ h => absurd h (Nat.not_lt_zero _)⟩
      case round =>
        obtain ⟨m, hm, rfl, hR, hin⟩ := hrel
        clear HR
        by_cases hlt2 : m < plen
        · have hp1 := hp.kept (hR.below HD)
          have r1 : wr.cell? ⟨pb, po + m * 2, none⟩ = some (.int .i64 (px m)) := hp1.fst m hlt2
          have r2 : wr.cell? ⟨pb, po + m * 2 + 1, none⟩ = some (.int .i64 (py m)) := hp1.snd m hlt2
          have r0 : pao = some ⟨pb, po, none⟩ := hp1.nil (by show 0 < plen; omega)
          subst r0
          have HI : Hid (∀ i, i < m → (inR n.len (px i) && inR n.len (py i)) = true) := hin
          clear hin hp1
          cases hb : (inR n.len (px m) && inR n.len (py m))
          · have HE : Hid (makeE n ⟨some ⟨pb, po, none⟩, pb, po, plen, pcap, px, py⟩ = 10) := makeE_10 (show ¬ (8 < n.len ∨ 64 < plen) by omega) (prs_no hlt2 hb)
            have hcase := out_cases hb
            obtain ⟨c0, c1, f0, f1⟩ := hR.zero HD
            have HB : Hid (Below w.heap.size w wr) := hR.below HD
            clear hb hR HI
            generalize px m = x at r1 hcase
            generalize py m = y at r2 hcase
            rcases hcase with h1 | ⟨h1, h2⟩ | ⟨h1, h2, h3⟩ | ⟨h1, h2, h3, h4⟩
            · have d1 : decide (x < 0) = true := decide_eq_true h1
              go_wp2
              go_region
              go_wp2
              exact bodyPost_ret (v := .tuple #[.agg #[.slice none 0 0, .slice none 0 0], .int .i64 10]) (by simp [results, Tryz.results17, go_sem, c0, c1]) rfl ⟨10, noStrs, noGrid, rfl, rmade_no _ HE.out (by decide), (below_set2 HB.out _ _).drew⟩
            · have d1 : decide (x < 0) = false := decide_eq_false (by omega)
              have d2 : decide (y < 0) = true := decide_eq_true h2
              go_wp2
              go_region
              go_wp2
              exact bodyPost_ret (v := .tuple #[.agg #[.slice none 0 0, .slice none 0 0], .int .i64 10]) (by simp [results, Tryz.results17, go_sem, c0, c1]) rfl ⟨10, noStrs, noGrid, rfl, rmade_no _ HE.out (by decide), (below_set2 HB.out _ _).drew⟩
            · have d1 : decide (x < 0) = false := decide_eq_false (by omega)
              have d2 : decide (y < 0) = false := decide_eq_false (by omega)
              have d3 : decide ((n.len : Int) ≤ x) = true := decide_eq_true h3
              go_wp2
              go_region
              go_wp2
              exact bodyPost_ret (v := .tuple #[.agg #[.slice none 0 0, .slice none 0 0], .int .i64 10]) (by simp [results, Tryz.results17, go_sem, c0, c1]) rfl ⟨10, noStrs, noGrid, rfl, rmade_no _ HE.out (by decide), (below_set2 HB.out _ _).drew⟩
            · have d1 : decide (x < 0) = false := decide_eq_false (by omega)
              have d2 : decide (y < 0) = false := decide_eq_false (by omega)
              have d3 : decide ((n.len : Int) ≤ x) = false := decide_eq_false (by omega)
              have d4 : decide ((n.len : Int) ≤ y) = true := decide_eq_true h4
              go_wp2
              go_region
              go_wp2
              exact bodyPost_ret (v := .tuple #[.agg #[.slice none 0 0, .slice none 0 0], .int .i64 10]) (by simp [results, Tryz.results17, go_sem, c0, c1]) rfl ⟨10, noStrs, noGrid, rfl, rmade_no _ HE.out (by decide), (below_set2 HB.out _ _).drew⟩
          · obtain ⟨⟨x, hx, hx1⟩, y, hy, hy1⟩ := in_cases hb
            have hao1 := hao (by omega)
            subst hao1
            have q0 := hR.l1
            have q1 := hR.cellAt hx1
            have q2 := (hR.rows x hx1).cell hy1
            have q3 := (hR.rows x hx1).frozen y
            have ix : (x : Int) < n.len := by omega
            have iy : (y : Int) < n.len := by omega
            have d1 : decide ((x : Int) < 0) = false := decide_eq_false (by omega)
            have d2 : decide ((y : Int) < 0) = false := decide_eq_false (by omega)
            have d3 : decide ((n.len : Int) ≤ x) = false := decide_eq_false (by omega)
            have d4 : decide ((n.len : Int) ≤ y) = false := decide_eq_false (by omega)
            have HR : Hid (RG W1 wr (w.heap.size + 1) n.len n.len (.slice (some ⟨gg, 0, none⟩) n.len cap) R (prsM ⟨some ⟨pb, po, none⟩, pb, po, plen, pcap, px, py⟩ m)) := hR
            have HX : Hid ((px m = x ∧ py m = y) ∧ (inR n.len (px m) && inR n.len (py m)) = true) := ⟨⟨hx, hy⟩, hb⟩
            rw [hx] at r1
            rw [hy] at r2
            clear hR hb hx hy
            go_wp2
            go_region
            go_wp2
            go_roundw
            case rel => exact ⟨m + 1, by omega, by go_num, ((HR.out.drew).set hlt7 hx1).congr (fun r c _ _ => prsM_succ ⟨some ⟨pb, po, none⟩, pb, po, plen, pcap, px, py⟩ m x y HX.out.1.1 HX.out.1.2 r c), fun i hi => by
                by_cases e : i = m
                · subst e; exact HX.out.2
                · exact HI.out i (by omega)⟩
            case measure => simp [intOf]; omega
        · have e : plen = m := by omega
          subst e
          have HP : Hid (prsB ⟨pao, pb, po, plen, pcap, px, py⟩ n.len = true) := prsB_yes hin
          have HR : Hid (RG W1 wr (w.heap.size + 1) n.len n.len (.slice ao n.len cap) R (prsM ⟨pao, pb, po, plen, pcap, px, py⟩ plen)) := hR
          clear hR hin
          go_wp2
          go_loopg [12] (cnt2 (prsM ⟨pao, pb, po, plen, pcap, px, py⟩ plen) n.len n.len + 1) (fun k mo wr => ∃ (M : Nat → Nat → Bool) (b : Bool), mo = .bool b ∧ RG W1 wr (w.heap.size + 1) n.len n.len (.slice ao n.len cap) R M ∧ Within n.len (prsM ⟨pao, pb, po, plen, pcap, px, py⟩ plen) M ∧ Within n.len M (leastM ⟨pao, pb, po, plen, pcap, px, py⟩ n.len) ∧ (b = false → ∀ x y z, x < n.len → y < n.len → z < n.len → (M x y && M y z && !M x z) = false) ∧ cnt2 M n.len n.len + (if b then 1 else 0) ≤ k)
          case atStart => exact ⟨_, true, rfl, HR.out, fun _ _ _ _ h => h, within_war n.len _ n.len, fun h => Bool.noConfusion h, Nat.le_refl _⟩
          case round =>
            obtain ⟨M, b, rfl, hR, hM1, hM2, hcl, hgk⟩ := hrel
            clear HR
            cases b
            · have HL : Hid (∀ r c, r < n.len → c < n.len → M r c = leastM ⟨pao, pb, po, plen, pcap, px, py⟩ n.len r c) := closed_least n.len (prsM ⟨pao, pb, po, plen, pcap, px, py⟩ plen) M hM1 hM2 (hcl rfl)
              have hR3 := hR.congr HL.out
              have hn3 := hR.names HD
              have hg3 := hR3.grid (gg := gg) hcap hao h8
              have x0 := hR.st.l0.trans HD.l0
              have x1 := hR3.l1
              have hz := hR.zero HD
              have hb3 := hR.below HD
              have HGE : Hid ((0 < n.len → w.heap.size < gg) ∧ ∀ j, j < n.len → w.heap.size < R j) := hR.high hao hlt7
              have hlt4 : w.heap.size + 1 < wr.heap.size := Nat.lt_of_lt_of_le HD.lt hR.st.size
              clear hR hR3 hM1 hM2 hcl hgk HL
              go_wp2_with fail
              refine (rformed_any ⟨ao', b', 0, n.len, c', n.s⟩ (gridR ao gg n.len cap R (leastM ⟨pao, pb, po, plen, pcap, px, py⟩ n.len)) _ hn3 hg3).mono ?_
              rintro e w4 ⟨rfl, hb4⟩
              rw [formed_canonR]
              have hn4 := hn3.kept hb4
              have hg4 := hg3.kept hb4
              have x0 := (hb4.cell (p := ⟨w.heap.size + 1, 0, none⟩) hlt4).trans x0
              have x1 := (hb4.cell (p := ⟨w.heap.size + 1, 1, none⟩) hlt4).trans x1
              have c0 := (hb4.cell (p := ⟨w.heap.size, 0, none⟩) (by show w.heap.size < _; omega)).trans hz.1
              have c1 := (hb4.cell (p := ⟨w.heap.size, 1, none⟩) (by show w.heap.size < _; omega)).trans hz.2.1
              have f0 := (hb4.frozen (p := ⟨w.heap.size, 0, none⟩) (by show w.heap.size < _; omega)).trans hz.2.2.1
              have f1 := (hb4.frozen (p := ⟨w.heap.size, 1, none⟩) (by show w.heap.size < _; omega)).trans hz.2.2.2
              have HB : Hid (Below w.heap.size w w4) := hb3.trans (hb4.mono (by omega))
              clear hn3 hg3 hz hb3 hb4
              cases h3 : formedM n.len n.s (leastM ⟨pao, pb, po, plen, pcap, px, py⟩ n.len)
              · have HE : Hid (makeE n ⟨pao, pb, po, plen, pcap, px, py⟩ = 4) := makeE_4 (show ¬ (8 < n.len ∨ 64 < plen) by omega) HP.out h3
                go_wp2
                exact bodyPost_ret (v := .tuple #[.agg #[.slice none 0 0, .slice none 0 0], .int .i64 4]) (by simp [results, Tryz.results17, go_sem, c0, c1]) rfl ⟨4, noStrs, noGrid, rfl, rmade_no _ HE.out (by decide), below_set2 HB.out _ _⟩
              · have HE : Hid (makeE n ⟨pao, pb, po, plen, pcap, px, py⟩ = 0) := makeE_0 (show ¬ (8 < n.len ∨ 64 < plen) by omega) HP.out h3
                have HG : Hid (Strs.At ⟨ao', b', 0, n.len, c', n.s⟩ w4 ∧ (gridR ao gg n.len cap R (leastM ⟨pao, pb, po, plen, pcap, px, py⟩ n.len)).At w4) := ⟨hn4, hg4⟩
                clear hn4 hg4
                go_wp2
                have c1' : (w4.setCell ⟨w.heap.size, 0, none⟩ (.slice ao' n.len c')).cell? ⟨w.heap.size, 1, none⟩ = some (.slice none 0 0) := by
                  rw [World.cell?_setCell_other _ _ _ _ (by simp)]; exact c1
                refine bodyPost_ret (v := .tuple #[.agg #[.slice ao' n.len c', .slice ao n.len cap], .int .i64 0]) (by simp [results, Tryz.results17, go_sem, c0, c1]) rfl ⟨0, ⟨ao', b', 0, n.len, c', n.s⟩, gridR ao gg n.len cap R (leastM ⟨pao, pb, po, plen, pcap, px, py⟩ n.len), rfl, ?_, below_set2 HB.out _ _⟩
                exact ⟨HE.out.symm, (HG.out.1.set c0 _).set c1' _, gridR_set (gridR_set HG.out.2 HGE.out.1 HGE.out.2 _) HGE.out.1 HGE.out.2 _, fun _ => ⟨rfl, rfl, _, _, _, _, rfl⟩, fun h => absurd rfl h⟩
            · have HM : Hid (RG W1 wr (w.heap.size + 1) n.len n.len (.slice ao n.len cap) R M ∧ Within n.len (prsM ⟨pao, pb, po, plen, pcap, px, py⟩ plen) M ∧ Within n.len M (leastM ⟨pao, pb, po, plen, pcap, px, py⟩ n.len) ∧ cnt2 M n.len n.len + 1 ≤ gk) := ⟨hR, hM1, hM2, hgk⟩
              clear hR hM1 hM2 hcl hgk
              go_wp2
              go_loopw [12, 13] (fun mo i wr => ∃ (a : Nat) (more : Bool) (M' : Nat → Nat → Bool), a ≤ n.len ∧ i = .int .i64 a ∧ mo = .bool more ∧ RG W1 wr (w.heap.size + 1) n.len n.len (.slice ao n.len cap) R M' ∧ Pass n.len (prsM ⟨pao, pb, po, plen, pcap, px, py⟩ plen) M M' more a 0 0) (fun _ i _ => n.len - (intOf i).toNat)
              case atStart => exact ⟨0, false, M, Nat.zero_le _, rfl, rfl, HM.out.1, Pass.start HM.out.2.2.1⟩
              case round =>
                obtain ⟨a, more, M', ha, rfl, rfl, hR, hPs⟩ := hrel
                by_cases hlta : a < n.len
                · have HS : Hid (RG W1 wr (w.heap.size + 1) n.len n.len (.slice ao n.len cap) R M' ∧ Pass n.len (prsM ⟨pao, pb, po, plen, pcap, px, py⟩ plen) M M' more a 0 0) := ⟨hR, hPs⟩
                  clear hR hPs
                  go_wp2
                  go_loopw [12, 14] (fun mo i wr => ∃ (b : Nat) (more : Bool) (M' : Nat → Nat → Bool), b ≤ n.len ∧ i = .int .i64 b ∧ mo = .bool more ∧ RG W1 wr (w.heap.size + 1) n.len n.len (.slice ao n.len cap) R M' ∧ Pass n.len (prsM ⟨pao, pb, po, plen, pcap, px, py⟩ plen) M M' more a b 0) (fun _ i _ => n.len - (intOf i).toNat)
                  case atStart => exact ⟨0, more, M', Nat.zero_le _, rfl, rfl, HS.out.1, HS.out.2⟩
                  case round =>
                    clear HS
                    obtain ⟨b, more, M', hb, rfl, rfl, hR, hPs⟩ := hrel
                    by_cases hltb : b < n.len
                    · have HS : Hid (RG W1 wr (w.heap.size + 1) n.len n.len (.slice ao n.len cap) R M' ∧ Pass n.len (prsM ⟨pao, pb, po, plen, pcap, px, py⟩ plen) M M' more a b 0) := ⟨hR, hPs⟩
                      clear hR hPs
                      go_wp2
                      go_loopw [12, 15] (fun mo i wr => ∃ (c : Nat) (more : Bool) (M' : Nat → Nat → Bool), c ≤ n.len ∧ i = .int .i64 c ∧ mo = .bool more ∧ RG W1 wr (w.heap.size + 1) n.len n.len (.slice ao n.len cap) R M' ∧ Pass n.len (prsM ⟨pao, pb, po, plen, pcap, px, py⟩ plen) M M' more a b c) (fun _ i _ => n.len - (intOf i).toNat)
                      case atStart => exact ⟨0, more, M', Nat.zero_le _, rfl, rfl, HS.out.1, HS.out.2⟩
                      case round =>
                        clear HS
                        obtain ⟨c, more, M', hc, rfl, rfl, hR, hPs⟩ := hrel
                        by_cases hltc : c < n.len
                        · have hao1 := hao (by omega)
                          subst hao1
                          have q0 := hR.l1
                          have qa := hR.cellAt hlta
                          have qb := hR.cellAt hltb
                          have e1 : wr.cell? ⟨R a, b, none⟩ = some (.bool (M' a b)) := (hR.rows a hlta).cell hltb
                          have e2 : wr.cell? ⟨R b, c, none⟩ = some (.bool (M' b c)) := (hR.rows b hltb).cell hltc
                          have e3 : wr.cell? ⟨R a, c, none⟩ = some (.bool (M' a c)) := (hR.rows a hlta).cell hltc
                          have f3 := (hR.rows a hlta).frozen c
                          have ia : (a : Int) < n.len := by omega
                          have ib : (b : Int) < n.len := by omega
                          have ic : (c : Int) < n.len := by omega
                          have HS : Hid (RG W1 wr (w.heap.size + 1) n.len n.len (.slice (some ⟨gg, 0, none⟩) n.len cap) R M' ∧ Pass n.len (prsM ⟨pao, pb, po, plen, pcap, px, py⟩ plen) M M' more a b c) := ⟨hR, hPs⟩
                          clear hR hPs
                          cases h1 : M' a b
                          · rw [h1] at e1
                            go_wp2
                            go_roundw
                            case rel => exact ⟨c + 1, more, M', by omega, by go_num, rfl, HS.out.1, HS.out.2.skip (by simp [h1])⟩
                            case measure => simp [intOf]; omega
                          · rw [h1] at e1
                            cases h2 : M' b c
                            · rw [h2] at e2
                              go_wp2
                              go_roundw
                              case rel => exact ⟨c + 1, more, M', by omega, by go_num, rfl, HS.out.1, HS.out.2.skip (by simp [h2])⟩
                              case measure => simp [intOf]; omega
                            · rw [h2] at e2
                              cases h3 : M' a c
                              · rw [h3] at e3
                                have HT : Hid ((M' a b = true ∧ M' b c = true) ∧ M' a c = false) := ⟨⟨h1, h2⟩, h3⟩
                                clear h1 h2 h3
                                go_wp2
                                go_roundw
                                case rel => exact ⟨c + 1, true, setM M' a c, by omega, by go_num, rfl, HS.out.1.set hlt7 hlta, HS.out.2.add hlta hltb hltc HT.out.1.1 HT.out.1.2 HT.out.2⟩
                                case measure => simp [intOf]; omega
                              · rw [h3] at e3
                                go_wp2
                                go_roundw
                                case rel => exact ⟨c + 1, more, M', by omega, by go_num, rfl, HS.out.1, HS.out.2.skip (by simp [h3])⟩
                                case measure => simp [intOf]; omega
                        · have e : c = n.len := by omega
                          subst e
                          have HS : Hid (RG W1 wr (w.heap.size + 1) n.len n.len (.slice ao n.len cap) R M' ∧ Pass n.len (prsM ⟨pao, pb, po, plen, pcap, px, py⟩ plen) M M' more a b n.len) := ⟨hR, hPs⟩
                          clear hR hPs
                          go_wp2
                          go_roundw
                          case rel => exact ⟨b + 1, more, M', by omega, by go_num, rfl, HS.out.1, HS.out.2.nextB⟩
                          case measure => simp [intOf]; omega
                    · have e : b = n.len := by omega
                      subst e
                      have HS : Hid (RG W1 wr (w.heap.size + 1) n.len n.len (.slice ao n.len cap) R M' ∧ Pass n.len (prsM ⟨pao, pb, po, plen, pcap, px, py⟩ plen) M M' more a n.len 0) := ⟨hR, hPs⟩
                      clear hR hPs
                      go_wp2
                      go_roundw
                      case rel => exact ⟨a + 1, more, M', by omega, by go_num, rfl, HS.out.1, HS.out.2.nextA⟩
                      case measure => simp [intOf]; omega
                · have e : a = n.len := by omega
                  subst e
                  have HS : Hid (RG W1 wr (w.heap.size + 1) n.len n.len (.slice ao n.len cap) R M' ∧ Pass n.len (prsM ⟨pao, pb, po, plen, pcap, px, py⟩ plen) M M' more n.len 0 0) := ⟨hR, hPs⟩
                  clear hR hPs
                  go_wp2
                  go_roundg (cnt2 M' n.len n.len + if more then 1 else 0)
                  case measure => exact Pass.less HS.out.2 HM.out.2.2.2
                  case rel => exact ⟨M', more, rfl, HS.out.1, fun r c hr hc h => HS.out.2.up r c hr hc (HM.out.2.1 r c hr hc h), HS.out.2.inn, HS.out.2.closed, Nat.le_refl _⟩

theorem rmake_any (n : Strs) (p : Prs) (w : World) (hn : n.At w) (hp : p.At w) (had : (n.ao = none ∧ n.cap = 0) ∨ n.ao = some ⟨n.b, n.o, none⟩) :
    Calls Tryz.prog 17 #[.slice n.ao n.len n.cap, .slice p.ao p.len p.cap] w fun e w' => ∃ (er : Int) (n' : Strs) (g' : Grid), e = .returned (.tuple #[.agg #[.slice n'.ao n'.len n'.cap, .slice g'.ao g'.len g'.cap], .int .i64 er]) ∧ RMade n p er n' g' w' ∧ Below w.heap.size w w' := by
  by_cases h8 : 8 < n.len
  · have HE : Hid (makeE n p = 1) := makeE_1 (Or.inl h8)
    have B0 := Box2.start w (.slice none 0 0) (.slice none 0 0) 25
    have d8 : decide ((8 : Int) < n.len) = true := by simp; omega
    go_enter Tryz.func17, Tryz.ntmps17
    go_wp2
    exact bodyPost_ret (v := .tuple #[.agg #[.slice none 0 0, .slice none 0 0], .int .i64 1]) (by simp [results, Tryz.results17, go_sem]) rfl ⟨1, noStrs, noGrid, rfl, rmade_no _ HE.out (by decide), B0.bl⟩
  · by_cases h64 : 64 < p.len
    · have HE : Hid (makeE n p = 1) := makeE_1 (Or.inr h64)
      have B0 := Box2.start w (.slice none 0 0) (.slice none 0 0) 25
      have d8 : decide ((8 : Int) < n.len) = false := by simp; omega
      have d64 : decide ((64 : Int) < p.len) = true := by simp; omega
      have hpb := hp.bound
      go_enter Tryz.func17, Tryz.ntmps17
      go_wp2
      exact bodyPost_ret (v := .tuple #[.agg #[.slice none 0 0, .slice none 0 0], .int .i64 1]) (by simp [results, Tryz.results17, go_sem]) rfl ⟨1, noStrs, noGrid, rfl, rmade_no _ HE.out (by decide), B0.bl⟩
    · exact rmake_core n p.ao p.b p.o p.len p.cap p.x p.y w hn hp (by omega) (by omega) had
end Go.Proofs.YtmkncmmegjfipaaGreatDoor

/- The walks of the reference's Label, Leq, Join, Meet, Both: they tell just what the program's tell. -/
namespace Go.Proofs.YtmkncmmegjfipaaGreatDoor
open Go.RowKit

set_option maxHeartbeats 400000 in
theorem label_any (n : Strs) (g : Grid) (a : Int) (w : World) :
    Calls Tryz.prog 79 #[.agg #[.slice n.ao n.len n.cap, .slice g.ao g.len g.cap], .int .i64 a] w fun e w' => e = .returned (.bool (labB n a)) ∧ Below w.heap.size w w' := by
  have B0 := Box2.start w (.slice n.ao n.len n.cap) (.slice g.ao g.len g.cap) 25
  by_cases h : 0 ≤ a
  · have HE : Hid (labB n a = decide (a < n.len)) := by show labB n a = _; unfold labB; rw [decide_eq_true h]; rfl
    go_enter Tryz.func79, Tryz.ntmps79
    go_wp2
    go_ret
    exact ⟨ret_bool HE.out.symm, B0.bl⟩
  · have HE : Hid (labB n a = false) := by show labB n a = _; unfold labB; rw [decide_eq_false h]; rfl
    go_enter Tryz.func79, Tryz.ntmps79
    go_wp2
    go_ret
    exact ⟨ret_bool HE.out.symm, B0.bl⟩

theorem labelB {n : Strs} {g : Grid} {w wr : World} (hB : Box2 w wr (.slice n.ao n.len n.cap) (.slice g.ao g.len g.cap)) (a : Int) (r : Bool) (h : labB n a = r) :
    Calls Tryz.prog 79 #[.agg #[.slice n.ao n.len n.cap, .slice g.ao g.len g.cap], .int .i64 a] wr fun e w' => e = .returned (.bool r) ∧ Box2 w w' (.slice n.ao n.len n.cap) (.slice g.ao g.len g.cap) := by
  subst h
  exact (label_any n g a wr).mono fun _ _ ⟨he, hb⟩ => ⟨he, hB.step hb⟩
theorem rformedB' {n : Strs} {g : Grid} {w wr : World} (hn : n.At w) (hg : g.At w) (hB : Box2 w wr (.slice n.ao n.len n.cap) (.slice g.ao g.len g.cap)) (r : Bool) (h : formedB n g = r) :
    Calls Tryz.prog 35 #[.agg #[.slice n.ao n.len n.cap, .slice g.ao g.len g.cap]] wr fun e w' => e = .returned (.bool r) ∧ Box2 w w' (.slice n.ao n.len n.cap) (.slice g.ao g.len g.cap) := by
  subst h
  exact (rformed_any n g wr (hn.kept hB.bl) (hg.kept hB.bl)).mono fun _ _ ⟨he, hb⟩ => ⟨he, hB.step hb⟩

theorem sqat_of {n : Strs} {g : Grid} {w : World} (hF : formedB n g = true) (hn : n.At w) (hg : g.At w) : SqAt n g w := by
  obtain ⟨p1, p2, p3, p4⟩ := formed_parts hF
  exact ⟨hn, hg, p2, p3, p1, fun r hr => p4 r (by omega)⟩

theorem rjoin_eq {n : Strs} {g : Grid} (hF : formedB n g = true) {a b : Nat} (ha : a < n.len) (hb : b < n.len) : findI (abvB n g a b) n.len 0 = near2 g.len g.U a b := by
  obtain ⟨h1, h2, h3, h4, h5⟩ := jn_is hF ha hb
  rw [h1]
  refine findI_one _ h2 ((abv_iff n g a b _).2 ⟨h3, h4, h5⟩) (fun i hi hp => ?_)
  obtain ⟨q1, q2, q3⟩ := (abv_iff n g a b i).1 hp
  exact isJoin_uniq hF ⟨hi, q1, q2, q3⟩ ⟨h2, h3, h4, h5⟩
theorem rmeet_eq {n : Strs} {g : Grid} (hF : formedB n g = true) {a b : Nat} (ha : a < n.len) (hb : b < n.len) : findI (blwB n g a b) n.len 0 = near2 g.len g.D a b := by
  obtain ⟨h1, h2, h3, h4, h5⟩ := mt_is hF ha hb
  rw [h1]
  refine findI_one _ h2 ((blw_iff n g a b _).2 ⟨h3, h4, h5⟩) (fun i hi hp => ?_)
  obtain ⟨q1, q2, q3⟩ := (blw_iff n g a b i).1 hp
  exact isMeet_uniq hF ⟨hi, q1, q2, q3⟩ ⟨h2, h3, h4, h5⟩

end Go.Proofs.YtmkncmmegjfipaaGreatDoor

/- Layer 2: types, as they lie in memory; what is told of them. -/
namespace Go.Proofs.YtmkncmmegjfipaaGreatDoor
open Go.RowKit

/-- The worlds grown from w0 by new memory. -/
def Gr (w0 : World) : Type := { w' : World // Below w0.heap.size w0 w' }
def Gr.w {w0 : World} (x : Gr w0) : World := x.1
theorem Gr.bl {w0 : World} (x : Gr w0) : Below w0.heap.size w0 x.w := x.2
theorem up {w w' : World} (hb : Below w.heap.size w w') {a : Addr} {v : Value} (h : w.cell? a = some v) : w'.cell? a = some v := (hb.cell (p := a) (World.block_lt_of_cell? w a h)).trans h
theorem Gr.cell {w0 : World} (x : Gr w0) {a : Addr} {v : Value} (h : w0.cell? a = some v) : x.w.cell? a = some v := up x.bl h
theorem wp_region_gr {P : Program} {id : Nat} {Q : Exit → Act → World → Prop} {a : Act} {w : World} {l : List Oper} (hm : P.follows .mixedOrders = true) (hB : Region.lexB .any l.toArray = true)
    (h : wpQuiet P l.toArray (fun w' => ∃ x : Gr w, w' = x.w) (fun a' => ∀ w', (∃ x : Gr w, w' = x.w) → Q .normal a' w') l a) : (Code.region id l.toArray true).wp P Q a w :=
  wp_region_quiet (C := fun w' => ∃ x : Gr w, w' = x.w) hm hB ⟨⟨_, (Below.refl _ _).drew⟩, rfl⟩ (by simpa using h)
theorem Below.next {w0 w1 w2 : World} (h : Below w0.heap.size w0 w1) (k : Below w1.heap.size w1 w2) : Below w0.heap.size w0 w2 := h.trans (k.mono h.size)
theorem Calls.gr {P : Program} {f : FuncId} {args : Array Value} {w0 : World} {r : Value} (x : Gr w0)
    (h : Calls P f args x.w fun e w' => e = .returned r ∧ Below x.w.heap.size x.w w') : Calls P f args x.w fun e w'' => e = .returned r ∧ ∃ y : Gr w0, w'' = y.w :=
  h.mono fun _ _ ⟨he, hb⟩ => ⟨he, ⟨_, Below.next x.bl hb⟩, rfl⟩

/-- A type: its numbers, where its Parts lie, and they ('dm': none; it lies nowhere). -/
inductive Ty where
  | dm : Ty
  | mk (k l h e : Int) (ao : Option Addr) (b o len cap : Nat) (ps : Nat → Ty) : Ty
def Ty.k : Ty → Int | .dm => 0 | .mk k _ _ _ _ _ _ _ _ _ => k
def Ty.l : Ty → Int | .dm => 0 | .mk _ l _ _ _ _ _ _ _ _ => l
def Ty.h : Ty → Int | .dm => 0 | .mk _ _ h _ _ _ _ _ _ _ => h
def Ty.e : Ty → Int | .dm => 0 | .mk _ _ _ e _ _ _ _ _ _ => e
def Ty.ao : Ty → Option Addr | .dm => none | .mk _ _ _ _ ao _ _ _ _ _ => ao
def Ty.b : Ty → Nat | .dm => 0 | .mk _ _ _ _ _ b _ _ _ _ => b
def Ty.o : Ty → Nat | .dm => 0 | .mk _ _ _ _ _ _ o _ _ _ => o
def Ty.len : Ty → Nat | .dm => 0 | .mk _ _ _ _ _ _ _ len _ _ => len
def Ty.cap : Ty → Nat | .dm => 0 | .mk _ _ _ _ _ _ _ _ cap _ => cap
def Ty.ps : Ty → Nat → Ty | .dm => fun _ => .dm | .mk _ _ _ _ _ _ _ _ _ ps => ps
def Ty.v (t : Ty) : Value := .agg #[.int .i64 t.k, .int .i64 t.l, .slice t.ao t.len t.cap, .int .i64 t.h, .int .i64 t.e]

/-- Five cells that hold a type. -/
structure C5 (w : World) (b o : Nat) (t : Ty) : Prop where
  c0 : w.cell? ⟨b, o, none⟩ = some (.int .i64 t.k)
  c1 : w.cell? ⟨b, o + 1, none⟩ = some (.int .i64 t.l)
  c2 : w.cell? ⟨b, o + 2, none⟩ = some (.slice t.ao t.len t.cap)
  c3 : w.cell? ⟨b, o + 3, none⟩ = some (.int .i64 t.h)
  c4 : w.cell? ⟨b, o + 4, none⟩ = some (.int .i64 t.e)
theorem C5.kept {w w' : World} {b o : Nat} {t : Ty} (h : C5 w b o t) (hb : Below w.heap.size w w') : C5 w' b o t := ⟨up hb h.c0, up hb h.c1, up hb h.c2, up hb h.c3, up hb h.c4⟩

def Ty.At (w : World) : Ty → Prop
  | .dm => False
  | .mk _ _ _ _ ao b o len _ ps => (0 < len → ao = some ⟨b, o, none⟩) ∧ len ≤ 9223372036854775807 ∧ ∀ i, i < len → C5 w b (o + i * 5) (ps i) ∧ Ty.At w (ps i)
theorem Ty.At.kept {w w' : World} (hb : Below w.heap.size w w') : ∀ {t : Ty}, t.At w → t.At w'
  | .dm, h => h.elim
  | .mk _ _ _ _ _ _ _ _ _ _, h => ⟨h.1, h.2.1, fun i hi => ⟨(h.2.2 i hi).1.kept hb, Ty.At.kept hb (h.2.2 i hi).2⟩⟩
theorem Ty.At.nil {w : World} : ∀ {t : Ty}, t.At w → 0 < t.len → t.ao = some ⟨t.b, t.o, none⟩
  | .dm, h => h.elim
  | .mk _ _ _ _ _ _ _ _ _ _, h => h.1
theorem Ty.At.bound {w : World} : ∀ {t : Ty}, t.At w → t.len ≤ 9223372036854775807
  | .dm, h => h.elim
  | .mk _ _ _ _ _ _ _ _ _ _, h => h.2.1
theorem Ty.At.cells {w : World} : ∀ {t : Ty}, t.At w → ∀ {i}, i < t.len → C5 w t.b (t.o + i * 5) (t.ps i)
  | .dm, h, _, _ => h.elim
  | .mk _ _ _ _ _ _ _ _ _ _, h, i, hi => (h.2.2 i hi).1
theorem Ty.At.part {w : World} : ∀ {t : Ty}, t.At w → ∀ {i}, i < t.len → (t.ps i).At w
  | .dm, h, _, _ => h.elim
  | .mk _ _ _ _ _ _ _ _ _ _, h, i, hi => (h.2.2 i hi).2

/-- A variable that holds a type, at a block's beginning. -/
structure Bx (w : World) (B : Nat) (t : Ty) : Prop where
  c0 : w.cell? ⟨B, 0, none⟩ = some (.int .i64 t.k)
  c1 : w.cell? ⟨B, 1, none⟩ = some (.int .i64 t.l)
  c2 : w.cell? ⟨B, 2, none⟩ = some (.slice t.ao t.len t.cap)
  c3 : w.cell? ⟨B, 3, none⟩ = some (.int .i64 t.h)
  c4 : w.cell? ⟨B, 4, none⟩ = some (.int .i64 t.e)
theorem Bx.kept {w w' : World} {B : Nat} {t : Ty} (h : Bx w B t) (hb : Below w.heap.size w w') : Bx w' B t := ⟨up hb h.c0, up hb h.c1, up hb h.c2, up hb h.c3, up hb h.c4⟩
theorem Bx.new (w : World) (t : Ty) : Bx (w.alloc (.cells #[.int .i64 t.k, .int .i64 t.l, .slice t.ao t.len t.cap, .int .i64 t.h, .int .i64 t.e] 53)) w.heap.size t := by
  constructor <;> simp
/-- A variable that holds a lattice. -/
structure Bl (w : World) (B : Nat) (n : Strs) (g : Grid) : Prop where
  c0 : w.cell? ⟨B, 0, none⟩ = some (.slice n.ao n.len n.cap)
  c1 : w.cell? ⟨B, 1, none⟩ = some (.slice g.ao g.len g.cap)
theorem Bl.kept {w w' : World} {B : Nat} {n : Strs} {g : Grid} (h : Bl w B n g) (hb : Below w.heap.size w w') : Bl w' B n g := ⟨up hb h.c0, up hb h.c1⟩
theorem Bl.new (w : World) (n : Strs) (g : Grid) : Bl (w.alloc (.cells #[.slice n.ao n.len n.cap, .slice g.ao g.len g.cap] 25)) w.heap.size n g := by
  constructor <;> simp
theorem below_alloc (w : World) (o : Obj) : Below w.heap.size w (w.alloc o) := (Below.refl _ _).alloc (Nat.le_refl _) _

def latO (n : Strs) (g : Grid) : Obj := .cells #[.slice n.ao n.len n.cap, .slice g.ao g.len g.cap] 25
def tyO (t : Ty) : Obj := .cells #[.int .i64 t.k, .int .i64 t.l, .slice t.ao t.len t.cap, .int .i64 t.h, .int .i64 t.e] 53
theorem alloc_size (w : World) (o : Obj) : (w.alloc o).heap.size = w.heap.size + 1 := by simp
theorem start_lt (w : World) (n : Strs) (g : Grid) (t : Ty) : Bl ((w.alloc (latO n g)).alloc (tyO t)) w.heap.size n g ∧ Bx ((w.alloc (latO n g)).alloc (tyO t)) (w.heap.size + 1) t ∧ Below w.heap.size w ((w.alloc (latO n g)).alloc (tyO t)) :=
  ⟨(Bl.new w n g).kept (below_alloc _ _), (alloc_size w (latO n g)) ▸ Bx.new (w.alloc (latO n g)) t, Below.next (below_alloc _ _) (below_alloc _ _)⟩
theorem start_ltt (w : World) (n : Strs) (g : Grid) (s t : Ty) : Bl (((w.alloc (latO n g)).alloc (tyO s)).alloc (tyO t)) w.heap.size n g ∧ Bx (((w.alloc (latO n g)).alloc (tyO s)).alloc (tyO t)) (w.heap.size + 1) s ∧ Bx (((w.alloc (latO n g)).alloc (tyO s)).alloc (tyO t)) (w.heap.size + 2) t ∧ Below w.heap.size w (((w.alloc (latO n g)).alloc (tyO s)).alloc (tyO t)) := by
  obtain ⟨h1, h2, h3⟩ := start_lt w n g s
  have h4 := Bx.new ((w.alloc (latO n g)).alloc (tyO s)) t
  rw [alloc_size, alloc_size] at h4
  exact ⟨h1.kept (below_alloc _ _), h2.kept (below_alloc _ _), h4, Below.next h3 (below_alloc _ _)⟩
theorem start_tt (w : World) (s t : Ty) : Bx ((w.alloc (tyO s)).alloc (tyO t)) w.heap.size s ∧ Bx ((w.alloc (tyO s)).alloc (tyO t)) (w.heap.size + 1) t ∧ Below w.heap.size w ((w.alloc (tyO s)).alloc (tyO t)) := by
  have h4 := Bx.new (w.alloc (tyO s)) t
  rw [alloc_size] at h4
  exact ⟨(Bx.new w s).kept (below_alloc _ _), h4, Below.next (below_alloc _ _) (below_alloc _ _)⟩

def sumTo (f : Nat → Nat) : Nat → Nat
  | 0 => 0
  | k + 1 => sumTo f k + f k
theorem sumTo_mono (f : Nat → Nat) {a b : Nat} (h : a ≤ b) : sumTo f a ≤ sumTo f b := by
  induction h with
  | refl => exact Nat.le_refl _
  | step _ ih => exact Nat.le_trans ih (Nat.le_add_right _ _)
theorem sumTo_le (f : Nat → Nat) {i n : Nat} (h : i < n) : sumTo f i + f i ≤ sumTo f n := sumTo_mono f (show i + 1 ≤ n from h)
/-- How many nodes. -/
def Ty.nodes : Ty → Nat
  | .dm => 1
  | .mk _ _ _ _ _ _ _ len _ ps => 1 + sumTo (fun i => Ty.nodes (ps i)) len
/-- How many Parts a Kind has. -/
def arityI (k : Int) : Int := if k = 1 then 0 else if k = 2 then 0 else if k = 5 then 1 else if k = 3 then 2 else if k = 4 then 2 else -1
def bndI (N : Nat) (k h e : Int) : Bool := if k = 4 then inR N h && ((e == -1) || inR N e) else (h == 0) && (e == 0)
/-- Formed, but for the number of nodes, where it stands so deep. -/
def Ty.fm (N : Nat) : Ty → Nat → Bool
  | .dm, _ => false
  | .mk k l h e _ _ _ len _ ps, d => (((decide (d ≤ 6) && ((len : Int) == arityI k)) && inR N l) && bndI N k h e) && decide (∀ i, i < len → Ty.fm N (ps i) (d + 1) = true)
/-- All alike. -/
def Ty.same : Ty → Ty → Bool
  | .dm, t => ((((0 == t.k) && (0 == t.l)) && ((0 == t.h) && (0 == t.e))) && (0 == t.len))
  | .mk k l h e _ _ _ len _ ps, t => ((((k == t.k) && (l == t.l)) && ((h == t.h) && (e == t.e))) && (len == t.len)) && decide (∀ i, i < len → Ty.same (ps i) (t.ps i) = true)
def excB (le : Nat → Nat → Bool) (a b : Int) : Bool := (a == -1) || ((b != -1) && le a.toNat b.toNat)
/-- Below: the first the second, if up, else the second the first. -/
def Ty.bel (le : Nat → Nat → Bool) : Ty → Bool → Ty → Bool
  | .dm, _, _ => false
  | .mk k l h e _ _ _ _ _ ps, true, t => ((k == t.k) && le l.toNat t.l.toNat) && (if k = 3 then Ty.bel le (ps 0) true (t.ps 0) && Ty.bel le (ps 1) true (t.ps 1) else if k = 4 then ((Ty.bel le (ps 0) false (t.ps 0) && Ty.bel le (ps 1) true (t.ps 1)) && le t.h.toNat h.toNat) && excB le e t.e else if k = 5 then Ty.same (ps 0) (t.ps 0) else true)
  | .mk k l h e _ _ _ _ _ ps, false, t => ((t.k == k) && le t.l.toNat l.toNat) && (if t.k = 3 then Ty.bel le (ps 0) false (t.ps 0) && Ty.bel le (ps 1) false (t.ps 1) else if t.k = 4 then ((Ty.bel le (ps 0) true (t.ps 0) && Ty.bel le (ps 1) false (t.ps 1)) && le h.toNat t.h.toNat) && excB le t.e e else if t.k = 5 then Ty.same (t.ps 0) (ps 0) else true)
end Go.Proofs.YtmkncmmegjfipaaGreatDoor
