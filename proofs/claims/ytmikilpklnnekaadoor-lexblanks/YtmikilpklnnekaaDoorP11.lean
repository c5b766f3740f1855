/- Layer 5: the walk of the statement LexAgain. -/
import Derived.Test.YtmikilpklnnekaaDoorP10
import Derived.Test.YtmikilpklnnekaaDoorP8
import Derived.Test.YtmikilpklnnekaaDoorRows
import Derived.Stop.LaidErr
import Derived.Stop.Joined
import Derived.Lib.LaidTab
import Derived.LaidMore
import Derived.OpenShut
namespace Go.Proofs.YtmikilpklnnekaaDoor
open Go.RowKit

theorem str_app (a b : List UInt8) : str a ++ str b = str (a ++ b) := by
  rw [← str_bs (str a ++ str b), bs_cat, bs_str, bs_str]
theorem str_size (a : List UInt8) : (str a).size = a.length := by rw [sz_bs, bs_str]

set_option maxRecDepth 100000 in
set_option maxHeartbeats 8000000 in
theorem lexAgain_any (s : ByteArray) (w : World) (hv : Vs w) (hs0 : s.size ≤ 9223372036854775807) :
    Calls Tryd.prog 6 #[.string s] w fun e w' => e = .returned (.bool true) ∧ Below w.heap.size w w' := by
  go_enter Tryd.func6, Tryd.ntmps6
  go_wp2_with fail
  refine (lawake_any _ hv).mono ?_
  rintro e w1 ⟨rfl, b1⟩
  have V1 := hv.kept b1
  by_cases hs : s.size ≤ 20000
  · have hs' : (s.size : Int) ≤ 20000 := by omega
    go_wp2_with fail
    refine (read_any s _ V1).mono ?_
    rintro e w2 ⟨hR, hb⟩
    have b2 := nxt b1 hb
    have V2 := V1.kept hb
    clear hb V1 b1
    cases hq : readV (bs s) with
    | bad a c =>
      rw [hq] at hR
      have hR' : e = .returned (.tuple #[.slice none 0 0, .int .i64 a, .int .i64 c]) := hR
      subst hR'
      have hc : c ≠ 0 := by
        unfold readV at hq
        split at hq
        · cases hq; omega
        · exact R_bad_ne _ _ _ hq
      have c2 : ((c : Int) != 0) = true := by rw [bne_iff_ne]; omega
      clear hq hR
      go_wp2
      go_ret
      exact ⟨rfl, b2⟩
    | ok ts =>
      rw [hq] at hR
      obtain ⟨v, rfl, hK⟩ := hR
      have hr : R (bs s) 0 [] = .ok ts := by
        unfold readV at hq
        split at hq
        · cases hq
        · exact hq
      obtain ⟨hl, hjl, us, hu, hA⟩ := again hr
      rw [bs_len] at hjl
      have HK : Hid (KAt w2 v ts) := hK
      have HU : Hid (R (joinW ts) 0 [] = .ok us ∧ Alike true ts us) := ⟨hu, hA⟩
      obtain ⟨ao, b, cap, rfl, hc, hn, hcell⟩ := hK
      have HC : Hid (∀ i (h : i < ts.length) q, q < 4 → w2.cell? ⟨b, i * 4 + q, none⟩ = (tv ts[i])[q]?) := hcell
      clear hcell hq hr hu hA
      go_wp2
      go_loop [6, 7] (fun t i => ∃ j : Nat, j ≤ ts.length ∧ i = .int .i64 j ∧ t = .string (str (joinW (ts.take j)))) (fun _ i => ts.length - (intOf i).toNat)
      case atStart => exact ⟨0, Nat.zero_le _, rfl, rfl⟩
      case round =>
        obtain ⟨j, hj, rfl, rfl⟩ := hrel
        by_cases hlt : j < ts.length
        · have ij : (j : Int) < ts.length := by omega
          have j0 : (0 : Int) ≤ j := by omega
          have a0 := hn (by omega)
          subst a0
          have c1 : w2.cell? ⟨b, j * 4 + 1, none⟩ = some (.string (str ts[j].t)) := HC.out j hlt 1 (by omega)
          have HT : Hid (str (joinW (ts.take j)) ++ (str ts[j].t ++ ⟨#[32]⟩) = str (joinW (ts.take (j + 1)))) := by
            show str (joinW (ts.take j)) ++ (str ts[j].t ++ str [32]) = _
            rw [str_app, str_app, take_succ hlt, join_snoc]
          have g1 : (str (joinW (ts.take j))).size ≤ 22000 := by rw [str_size]; have := join_take ts j; omega
          have g2 : (str ts[j].t).size ≤ 22000 := by rw [str_size]; have := join_word ts j hlt; omega
          generalize str (joinW (ts.take j)) = t1 at g1 HT ⊢
          generalize str ts[j].t = t2 at g2 c1 HT
          go_wp2
          go_round
          case rel => exact ⟨j + 1, by omega, by go_num, by rw [← HT.out]⟩
          case measure => simp [intOf]; omega
        · have e : j = ts.length := by omega
          subst e
          have dl : ¬ (ts.length : Int) < ts.length := by omega
          rw [List.take_length]
          have HZ : Hid ((str (joinW ts)).size = (joinW ts).length) := str_size _
          go_wp2_with fail
          refine (read_any _ _ V2).mono ?_
          rintro e w3 ⟨hR3, hb3⟩
          rw [bs_str] at hR3
          have b3 := nxt b2 hb3
          by_cases hz : (joinW ts).length ≤ 8192
          · have hr3 : readV (joinW ts) = .ok us := by unfold readV; rw [if_neg (by omega)]; exact HU.out.1
            rw [hr3] at hR3
            obtain ⟨v3, rfl, hK3⟩ := hR3
            have hz' : ((str (joinW ts)).size : Int) ≤ 8192 := by rw [HZ.out]; omega
            have K2 := HK.out.kept hb3
            clear hr3 hb3 HC
            generalize str (joinW ts) = tx at hz' ⊢
            go_wp2_with fail
            refine (plain_any _ ts _ K2 hl).mono ?_
            rintro e w4 ⟨⟨u1, rfl, hu1⟩, hb4⟩
            have b4 := nxt b3 hb4
            go_wp2_with fail
            refine (plain_any _ us _ (hK3.kept hb4) (by rw [← HU.out.2.1]; exact hl)).mono ?_
            rintro e w5 ⟨⟨u2, rfl, hu2⟩, hb5⟩
            have b5 := nxt b4 hb5
            go_wp2_with fail
            refine (same_yes _ _ ts us true _ (hu1.kept hb5) hu2 HU.out.2 hl).mono ?_
            rintro e w6 ⟨rfl, hb6⟩
            have b6 := nxt b5 hb6
            clear hb6 hb5 hb4 hu1 hu2 hK3 K2
            go_wp2
            go_ret
            exact ⟨rfl, b6⟩
          · have hr3 : readV (joinW ts) = .bad 0 1 := by unfold readV; rw [if_pos (by omega)]
            rw [hr3] at hR3
            have hR' : e = .returned (.tuple #[.slice none 0 0, .int .i64 0, .int .i64 1]) := hR3
            subst hR'
            have hz' : (8192 : Int) < (str (joinW ts)).size := by rw [HZ.out]; omega
            clear hR3 hr3 hb3 HC
            generalize str (joinW ts) = tx at hz' ⊢
            go_wp2
            go_ret
            exact ⟨rfl, b3⟩
  · have hs' : (20000 : Int) < s.size := by omega
    go_wp2_with fail
    refine (lawake_any _ V1).mono ?_
    rintro e w2 ⟨rfl, hb⟩
    go_wp2
    go_ret
    exact ⟨rfl, nxt b1 hb⟩
end Go.Proofs.YtmikilpklnnekaaDoor

/- Layer 5: the walk of the statement LexBlanks. -/
namespace Go.Proofs.YtmikilpklnnekaaDoor
open Go.RowKit

/-- No byte is a new line. -/
def NoNl (l : List UInt8) : Prop := ∀ x ∈ l, x.toNat ≠ 10

set_option maxRecDepth 100000 in
set_option maxHeartbeats 8000000 in
theorem blanks_rest (s rem : ByteArray) (hs : s.size ≤ 4000) (hm : rem.size ≤ 1000) (hnl : NoNl (bs rem)) (ts : List Tk) (hr : R (bs s) 0 [] = .ok ts) :
    ts.length ≤ 2000 ∧ (∃ us, readV (bs (s.extract 0 s.size ++ ⟨#[10, 35]⟩ ++ rem ++ ⟨#[10, 9]⟩ ++ s.extract s.size s.size)) = .ok us ∧ Alike true ts us) ∧ ∀ i (hi : i < ts.length), ts[i].a ≤ s.size ∧ ∃ us, readV (bs (s.extract 0 ts[i].a ++ ⟨#[10, 35]⟩ ++ rem ++ ⟨#[10, 9]⟩ ++ s.extract ts[i].a s.size)) = .ok us ∧ Alike true ts us := by
  have key : ∀ a, a ≤ s.size → bs (s.extract 0 a ++ ⟨#[10, 35]⟩ ++ rem ++ ⟨#[10, 9]⟩ ++ s.extract a s.size) = (bs s).take a ++ (insB (bs rem) ++ (bs s).drop a) := fun a _ => by
    rw [bs_cat, bs_cat, bs_cat, bs_cat, bs_take, bs_rest]
    show (((bs s).take a ++ [10, 35]) ++ bs rem ++ [10, 9]) ++ (bs s).drop a = _
    unfold insB
    simp
  have len : ∀ a, a ≤ s.size → ((bs s).take a ++ (insB (bs rem) ++ (bs s).drop a)).length ≤ 8192 := fun a ha => by
    have h1 := bs_len s
    have h2 := bs_len rem
    unfold insB
    simp only [List.length_append, List.length_take, List.length_drop, List.length_cons, List.length_nil]
    omega
  obtain ⟨hl, ⟨us, hu, hA⟩, hall⟩ := blanks hr (bs rem) hnl
  refine ⟨hl, ⟨us, ?_, hA⟩, fun i hi => ?_⟩
  · rw [key s.size (Nat.le_refl _)]
    unfold readV
    rw [if_neg (by have := len s.size (Nat.le_refl _); omega), List.take_of_length_le (by rw [bs_len]; exact Nat.le_refl _), List.drop_eq_nil_of_le (by rw [bs_len]; exact Nat.le_refl _), List.append_nil]
    exact hu
  · obtain ⟨ha, us, hu, hA⟩ := hall i hi
    rw [bs_len] at ha
    refine ⟨ha, us, ?_, hA⟩
    rw [key _ ha]
    unfold readV
    rw [if_neg (by have := len _ ha; omega)]
    exact hu

theorem ins_end (s rem : ByteArray) : bs (s ++ ⟨#[10, 35]⟩ ++ rem ++ ⟨#[10, 9]⟩) = bs (s.extract 0 s.size ++ ⟨#[10, 35]⟩ ++ rem ++ ⟨#[10, 9]⟩ ++ s.extract s.size s.size) := by
  rw [bs_cat, bs_cat, bs_cat, bs_cat, bs_cat, bs_cat, bs_cat, bs_take, bs_rest, List.take_of_length_le (by rw [bs_len]; exact Nat.le_refl _), List.drop_eq_nil_of_le (by rw [bs_len]; exact Nat.le_refl _), List.append_nil]

set_option maxRecDepth 100000 in
set_option maxHeartbeats 8000000 in
theorem lexBlanks_any (s : ByteArray) (x : Int) (rem : ByteArray) (w : World) (hv : Vs w) (hs0 : s.size ≤ 9223372036854775807) (hx : 0 ≤ x ∧ x < 65536) (hm0 : rem.size ≤ 9223372036854775807) :
    Calls Tryd.prog 7 #[.string s, .int .u16 x, .string rem] w fun e w' => e = .returned (.bool true) ∧ Below w.heap.size w w' := by
  go_enter Tryd.func7, Tryd.ntmps7
  go_wp2_with fail
  refine (lawake_any _ hv).mono ?_
  rintro e w1 ⟨rfl, b1⟩
  have V1 := hv.kept b1
  by_cases hs : s.size ≤ 4000
  · by_cases hm : rem.size ≤ 1000
    · have hs' : (s.size : Int) ≤ 4000 := by omega
      have hm' : (rem.size : Int) ≤ 1000 := by omega
      go_wp2
      go_loop [7] (fun i => ∃ j : Nat, j ≤ rem.size ∧ i = .int .i64 j ∧ Hid (∀ q (h : q < rem.size), q < j → (rem[q]'h).toNat ≠ 10)) (fun i => rem.size - (intOf i).toNat)
      case atStart => exact ⟨0, Nat.zero_le _, rfl, fun q _ h => absurd h (Nat.not_lt_zero _)⟩
      case round =>
        obtain ⟨j, hj, rfl, HQ⟩ := hrel
        by_cases hlt : j < rem.size
        · have ij : (j : Int) < rem.size := by omega
          have j0 : (0 : Int) ≤ j := by omega
          by_cases h10 : (rem[j]'hlt).toNat = 10
          · have hb : (((rem[j]'hlt).toNat : Int) == 10) = true := by rw [beq_iff_eq]; omega
            go_wp2
            go_ret
            exact ⟨rfl, b1⟩
          · have hb : (((rem[j]'hlt).toNat : Int) == 10) = false := by rw [beq_eq_false_iff_ne]; omega
            go_wp2
            go_round
            case rel => exact ⟨j + 1, by omega, by go_num, fun q hq hqj => by
                by_cases e : q = j
                · subst e; exact h10
                · exact HQ.out q hq (by omega)⟩
            case measure => simp [intOf]; omega
        · have e : j = rem.size := by omega
          subst e
          have dl : ¬ (rem.size : Int) < rem.size := by omega
          have HNL : Hid (NoNl (bs rem)) := by
            show NoNl (bs rem)
            intro y hy
            obtain ⟨q, hq, e⟩ := List.getElem_of_mem hy
            have hq' : q < rem.size := by rwa [bs_len] at hq
            rw [← e, bs_get rem q hq']
            exact HQ.out q hq' hq'
          clear HQ
          go_wp2_with fail
          refine (read_any s _ V1).mono ?_
          rintro e w2 ⟨hR, hb⟩
          have b2 := nxt b1 hb
          have V2 := V1.kept hb
          clear hb V1 b1
          cases hq : readV (bs s) with
          | bad a c =>
            rw [hq] at hR
            have hR' : e = .returned (.tuple #[.slice none 0 0, .int .i64 a, .int .i64 c]) := hR
            subst hR'
            have hc : c ≠ 0 := by
              unfold readV at hq
              split at hq
              · cases hq; omega
              · exact R_bad_ne _ _ _ hq
            have c2 : ((c : Int) != 0) = true := by rw [bne_iff_ne]; omega
            clear hq hR
            go_wp2
            go_ret
            exact ⟨rfl, b2⟩
          | ok ts =>
            rw [hq] at hR
            obtain ⟨v, rfl, hK⟩ := hR
            have hr : R (bs s) 0 [] = .ok ts := by
              unfold readV at hq
              split at hq
              · cases hq
              · exact hq
            obtain ⟨hl, hE, hI⟩ := blanks_rest s rem hs hm HNL.out ts hr
            have HK : Hid (KAt w2 v ts) := hK
            have HE : Hid (∃ us, readV (bs (s.extract 0 s.size ++ ⟨#[10, 35]⟩ ++ rem ++ ⟨#[10, 9]⟩ ++ s.extract s.size s.size)) = .ok us ∧ Alike true ts us) := hE
            have HI : Hid (∀ i (hi : i < ts.length), ts[i].a ≤ s.size ∧ ∃ us, readV (bs (s.extract 0 ts[i].a ++ ⟨#[10, 35]⟩ ++ rem ++ ⟨#[10, 9]⟩ ++ s.extract ts[i].a s.size)) = .ok us ∧ Alike true ts us) := hI
            obtain ⟨ao, b, cap, rfl, hc, hn, hcell⟩ := hK
            have HC : Hid (∀ i (h : i < ts.length) q, q < 4 → w2.cell? ⟨b, i * 4 + q, none⟩ = (tv ts[i])[q]?) := hcell
            clear hcell hq hr hE hI HNL
            have q0 : ((ts.length : Int) + 1 == 0) = false := by rw [beq_eq_false_iff_ne]; omega
            have i1 : ∃ idx : Nat, x.tmod ((ts.length : Int) + 1) = idx ∧ idx ≤ ts.length := by
              refine ⟨x.toNat % (ts.length + 1), ?_, ?_⟩
              · obtain ⟨y, hy⟩ : ∃ y : Nat, x = y := ⟨x.toNat, by omega⟩
                subst hy
                rw [Int.toNat_natCast]
                exact (Int.ofNat_tmod y (ts.length + 1)).symm
              · have := Nat.mod_lt x.toNat (show 0 < ts.length + 1 by omega); omega
            obtain ⟨idx, hidx, hle⟩ := i1
            by_cases hlen : 0 < ts.length
            · have hl0 : (0 : Int) < ts.length := by omega
              have a0 := hn hlen
              subst a0
              by_cases hlt2 : idx < ts.length
              · have h2 : (idx : Int) < ts.length := by omega
                have h20 : (0 : Int) ≤ idx := by omega
                have c3 : w2.cell? ⟨b, idx * 4 + 3, none⟩ = some (.int .i64 (ts[idx].a : Nat)) := HC.out idx hlt2 3 (by omega)
                obtain ⟨ha, us, hu, hA⟩ := HI.out idx hlt2
                generalize ts[idx].a = K at c3 ha hu
                have HU : Hid (readV (bs (s.extract 0 K ++ ⟨#[10, 35]⟩ ++ rem ++ ⟨#[10, 9]⟩ ++ s.extract K s.size)) = .ok us ∧ Alike true ts us) := ⟨hu, hA⟩
                clear hu hA HI HE HC
                have n0 : (0 : Int) ≤ K := by omega
                have n1 : (K : Int) ≤ s.size := by omega
                go_upto_region 14 with fail
                have V2d := V2.kept (Below.refl _ _).drew
                refine wp_region_held_drew (S := fun _ : World => True) (by kernel_rfl) trivial (fun hS => ?_)
                refine wpAnyH_take (i := 0) (v := .string s) rfl (by kernel_rfl) (by kernel_rfl) (by kernel_rfl) (fun _ _ _ h => h) (Or.inl ⟨by kernel_rfl, ?_⟩) hS ?_
                · intro u _; go_simp
                try simp only [Act.put]
                refine wpAnyH_take (i := 1) (v := .int .i64 (K : Nat)) rfl (by kernel_rfl) (by kernel_rfl) (by kernel_rfl) (fun _ _ _ h => h) (Or.inl ⟨by kernel_rfl, ?_⟩) hS ?_
                · intro u _; go_simp
                try simp only [Act.put]
                refine wpAnyH_take (i := 2) (v := .string (s.extract 0 K)) rfl (by kernel_rfl) (by kernel_rfl) (by kernel_rfl) (fun _ _ _ h => h) (Or.inl ⟨by kernel_rfl, ?_⟩) hS ?_
                · intro u _; go_simp
                try simp only [Act.put]
                have z1 : (s.extract 0 K).size ≤ 4000 := by rw [sz_bs, bs_take, List.length_take, bs_len]; omega
                have z2 : (s.extract K s.size).size ≤ 4000 := by rw [sz_bs, bs_rest, List.length_drop, bs_len]; omega
                have z3 : (s.extract 0 K).size + (⟨#[10, 35]⟩ : ByteArray).size ≤ 9223372036854775807 := by show _ + 2 ≤ _; omega
                have z5 : (s.extract 0 K ++ ⟨#[10, 35]⟩).size + rem.size ≤ 9223372036854775807 := by rw [ByteArray.size_append]; show _ + 2 + _ ≤ _; omega
                have z6 : (s.extract 0 K ++ ⟨#[10, 35]⟩ ++ rem).size + (⟨#[10, 9]⟩ : ByteArray).size ≤ 9223372036854775807 := by rw [ByteArray.size_append, ByteArray.size_append]; show _ + 2 + _ + 2 ≤ _; omega
                have z10 : (s.extract 0 K ++ ⟨#[10, 35]⟩ ++ rem ++ ⟨#[10, 9]⟩).size + (s.extract K s.size).size ≤ 9223372036854775807 := by rw [ByteArray.size_append, ByteArray.size_append, ByteArray.size_append]; show _ + 2 + _ + 2 + _ ≤ _; omega
                refine wpAnyH_take (i := 3) (v := .string (s.extract 0 K ++ ⟨#[10, 35]⟩)) rfl (by kernel_rfl) (by kernel_rfl) (by kernel_rfl) (fun _ _ _ h => h) (Or.inl ⟨by kernel_rfl, ?_⟩) hS ?_
                · intro u _; go_simp; omega
                try simp only [Act.put]
                refine wpAnyH_take (i := 4) (v := .string rem) rfl (by kernel_rfl) (by kernel_rfl) (by kernel_rfl) (fun _ _ _ h => h) (Or.inl ⟨by kernel_rfl, ?_⟩) hS ?_
                · intro u _; go_simp
                try simp only [Act.put]
                refine wpAnyH_take (i := 5) (v := .string (s.extract 0 K ++ ⟨#[10, 35]⟩ ++ rem)) rfl (by kernel_rfl) (by kernel_rfl) (by kernel_rfl) (fun _ _ _ h => h) (Or.inl ⟨by kernel_rfl, ?_⟩) hS ?_
                · intro u _; go_simp; omega
                try simp only [Act.put]
                refine wpAnyH_take (i := 6) (v := .string (s.extract 0 K ++ ⟨#[10, 35]⟩ ++ rem ++ ⟨#[10, 9]⟩)) rfl (by kernel_rfl) (by kernel_rfl) (by kernel_rfl) (fun _ _ _ h => h) (Or.inl ⟨by kernel_rfl, ?_⟩) hS ?_
                · intro u _; go_simp; omega
                try simp only [Act.put]
                refine wpAnyH_take (i := 7) (v := .string s) rfl (by kernel_rfl) (by kernel_rfl) (by kernel_rfl) (fun _ _ _ h => h) (Or.inl ⟨by kernel_rfl, ?_⟩) hS ?_
                · intro u _; go_simp
                try simp only [Act.put]
                refine wpAnyH_take (i := 8) (v := .int .i64 (K : Nat)) rfl (by kernel_rfl) (by kernel_rfl) (by kernel_rfl) (fun _ _ _ h => h) (Or.inl ⟨by kernel_rfl, ?_⟩) hS ?_
                · intro u _; go_simp
                try simp only [Act.put]
                refine wpAnyH_take (i := 9) (v := .string (s.extract K s.size)) rfl (by kernel_rfl) (by kernel_rfl) (by kernel_rfl) (fun _ _ _ h => h) (Or.inl ⟨by kernel_rfl, ?_⟩) hS ?_
                · intro u _; go_simp
                try simp only [Act.put]
                refine wpAnyH_take (i := 10) (v := .string (s.extract 0 K ++ ⟨#[10, 35]⟩ ++ rem ++ ⟨#[10, 9]⟩ ++ s.extract K s.size)) rfl (by kernel_rfl) (by kernel_rfl) (by kernel_rfl) (fun _ _ _ h => h) (Or.inl ⟨by kernel_rfl, ?_⟩) hS ?_
                · intro u _; go_simp; omega
                try simp only [Act.put]
                refine wpAnyH_ready (rs := [11]) (by kernel_rfl) (by simp) ?_
                refine AllReadyH.cons rfl (fun K hK => ?_) AllReadyH.nil
                go_simp
                refine (read_any _ _ V2d).mono ?_
                rintro e w3 ⟨hR3, hb3⟩
                rw [HU.out.1] at hR3
                obtain ⟨v3, rfl, hK3⟩ := hR3
                go_wp2_with fail
                refine hK.out _ _ trivial (fun hS => ?_)
                clear hK K z1 z2 z3 z5 z6 z10
                try simp only [Act.put]
                refine wpAnyH_take (i := 12) (v := .tuple #[v3, .int .i64 0, .int .i64 0]) rfl (by kernel_rfl) (by kernel_rfl) (by kernel_rfl) (fun _ _ _ h => h) (Or.inl ⟨by kernel_rfl, ?_⟩) hS ?_
                · intro u _; go_simp
                try simp only [Act.put]
                refine wpAnyH_take (i := 13) (v := v3) rfl (by kernel_rfl) (by kernel_rfl) (by kernel_rfl) (fun _ _ _ h => h) (Or.inl ⟨by kernel_rfl, ?_⟩) hS ?_
                · intro u _; go_simp
                try simp only [Act.put]
                refine wpAnyH_take (i := 14) (v := .int .i64 0) rfl (by kernel_rfl) (by kernel_rfl) (by kernel_rfl) (fun _ _ _ h => h) (Or.inl ⟨by kernel_rfl, ?_⟩) hS ?_
                · intro u _; go_simp
                try simp only [Act.put]
                refine wpAnyH_take (i := 15) (v := .int .i64 0) rfl (by kernel_rfl) (by kernel_rfl) (by kernel_rfl) (fun _ _ _ h => h) (Or.inl ⟨by kernel_rfl, ?_⟩) hS ?_
                · intro u _; go_simp
                try simp only [Act.put]
                refine wpAnyH_ready (rs := [16]) (by kernel_rfl) (by simp) ?_
                refine AllReadyH.cons rfl (fun K hK => ?_) AllReadyH.nil
                go_simp
                refine hK.out _ _ trivial (fun hS => ?_)
                clear hK K
                try simp only [Act.put]
                refine wpAnyH_ready (rs := [17]) (by kernel_rfl) (by simp) ?_
                refine AllReadyH.cons rfl (fun K hK => ?_) AllReadyH.nil
                go_simp
                refine hK.out _ _ trivial (fun hS => ?_)
                clear hK K
                try simp only [Act.put]
                refine wpAnyH_ready (rs := [18]) (by kernel_rfl) (by simp) ?_
                refine AllReadyH.cons rfl (fun K hK => ?_) AllReadyH.nil
                go_simp
                refine hK.out _ _ trivial (fun hS => ?_)
                clear hK K
                try simp only [Act.put]
                refine wpAnyH_done (by kernel_rfl) ?_ _
                have hb3' : Below w2.heap.size w2 w3 := (Below.refl _ _).drew.trans hb3
                have b3 := nxt b2 hb3'
                have K2 := HK.out.kept hb3'
                clear hb3 hb3' V2d
                go_wp2_with fail
                refine (plain_any _ ts _ K2 hl).mono ?_
                rintro e w4 ⟨⟨u1, rfl, hu1⟩, hb4⟩
                have b4 := nxt b3 hb4
                go_wp2_with fail
                refine (plain_any _ us _ (hK3.kept hb4) (by rw [← HU.out.2.1]; exact hl)).mono ?_
                rintro e w5 ⟨⟨u2, rfl, hu2⟩, hb5⟩
                have b5 := nxt b4 hb5
                go_wp2_with fail
                refine (same_yes _ _ ts us true _ (hu1.kept hb5) hu2 HU.out.2 hl).mono ?_
                rintro e w6 ⟨rfl, hb6⟩
                have b6 := nxt b5 hb6
                clear hb6 hb5 hb4 hu1 hu2 hK3 K2
                go_wp2
                go_ret
                exact ⟨rfl, b6⟩
              · have h2 : ¬ (idx : Int) < ts.length := by omega
                obtain ⟨us, hu, hA⟩ := HE.out
                have HU : Hid (readV (bs (s ++ ⟨#[10, 35]⟩ ++ rem ++ ⟨#[10, 9]⟩)) = .ok us ∧ Alike true ts us) := ⟨by rw [ins_end]; exact hu, hA⟩
                clear hu hA HI HE HC
                have n0 : (0 : Int) ≤ s.size := by omega
                go_upto_region 14 with fail
                have V2d := V2.kept (Below.refl _ _).drew
                refine wp_region_held_drew (S := fun _ : World => True) (by kernel_rfl) trivial (fun hS => ?_)
                refine wpAnyH_take (i := 0) (v := .string s) rfl (by kernel_rfl) (by kernel_rfl) (by kernel_rfl) (fun _ _ _ h => h) (Or.inl ⟨by kernel_rfl, ?_⟩) hS ?_
                · intro u _; go_simp
                try simp only [Act.put]
                refine wpAnyH_take (i := 1) (v := .int .i64 (s.size : Nat)) rfl (by kernel_rfl) (by kernel_rfl) (by kernel_rfl) (fun _ _ _ h => h) (Or.inl ⟨by kernel_rfl, ?_⟩) hS ?_
                · intro u _; go_simp
                try simp only [Act.put]
                refine wpAnyH_take (i := 2) (v := .string (s.extract 0 s.size)) rfl (by kernel_rfl) (by kernel_rfl) (by kernel_rfl) (fun _ _ _ h => h) (Or.inl ⟨by kernel_rfl, ?_⟩) hS ?_
                · intro u _; go_simp
                try simp only [Act.put]
                have z1 : (s.extract 0 s.size).size ≤ 4000 := by rw [sz_bs, bs_take, List.length_take, bs_len]; omega
                have z2 : (s.extract s.size s.size).size ≤ 4000 := by rw [sz_bs, bs_rest, List.length_drop, bs_len]; omega
                have z3 : (s.extract 0 s.size).size + (⟨#[10, 35]⟩ : ByteArray).size ≤ 9223372036854775807 := by show _ + 2 ≤ _; omega
                have z5 : (s.extract 0 s.size ++ ⟨#[10, 35]⟩).size + rem.size ≤ 9223372036854775807 := by rw [ByteArray.size_append]; show _ + 2 + _ ≤ _; omega
                have z6 : (s.extract 0 s.size ++ ⟨#[10, 35]⟩ ++ rem).size + (⟨#[10, 9]⟩ : ByteArray).size ≤ 9223372036854775807 := by rw [ByteArray.size_append, ByteArray.size_append]; show _ + 2 + _ + 2 ≤ _; omega
                have z10 : (s.extract 0 s.size ++ ⟨#[10, 35]⟩ ++ rem ++ ⟨#[10, 9]⟩).size + (s.extract s.size s.size).size ≤ 9223372036854775807 := by rw [ByteArray.size_append, ByteArray.size_append, ByteArray.size_append]; show _ + 2 + _ + 2 + _ ≤ _; omega
                refine wpAnyH_take (i := 3) (v := .string (s.extract 0 s.size ++ ⟨#[10, 35]⟩)) rfl (by kernel_rfl) (by kernel_rfl) (by kernel_rfl) (fun _ _ _ h => h) (Or.inl ⟨by kernel_rfl, ?_⟩) hS ?_
                · intro u _; go_simp; omega
                try simp only [Act.put]
                refine wpAnyH_take (i := 4) (v := .string rem) rfl (by kernel_rfl) (by kernel_rfl) (by kernel_rfl) (fun _ _ _ h => h) (Or.inl ⟨by kernel_rfl, ?_⟩) hS ?_
                · intro u _; go_simp
                try simp only [Act.put]
                refine wpAnyH_take (i := 5) (v := .string (s.extract 0 s.size ++ ⟨#[10, 35]⟩ ++ rem)) rfl (by kernel_rfl) (by kernel_rfl) (by kernel_rfl) (fun _ _ _ h => h) (Or.inl ⟨by kernel_rfl, ?_⟩) hS ?_
                · intro u _; go_simp; omega
                try simp only [Act.put]
                refine wpAnyH_take (i := 6) (v := .string (s.extract 0 s.size ++ ⟨#[10, 35]⟩ ++ rem ++ ⟨#[10, 9]⟩)) rfl (by kernel_rfl) (by kernel_rfl) (by kernel_rfl) (fun _ _ _ h => h) (Or.inl ⟨by kernel_rfl, ?_⟩) hS ?_
                · intro u _; go_simp; omega
                try simp only [Act.put]
                refine wpAnyH_take (i := 7) (v := .string s) rfl (by kernel_rfl) (by kernel_rfl) (by kernel_rfl) (fun _ _ _ h => h) (Or.inl ⟨by kernel_rfl, ?_⟩) hS ?_
                · intro u _; go_simp
                try simp only [Act.put]
                refine wpAnyH_take (i := 8) (v := .int .i64 (s.size : Nat)) rfl (by kernel_rfl) (by kernel_rfl) (by kernel_rfl) (fun _ _ _ h => h) (Or.inl ⟨by kernel_rfl, ?_⟩) hS ?_
                · intro u _; go_simp
                try simp only [Act.put]
                refine wpAnyH_take (i := 9) (v := .string (s.extract s.size s.size)) rfl (by kernel_rfl) (by kernel_rfl) (by kernel_rfl) (fun _ _ _ h => h) (Or.inl ⟨by kernel_rfl, ?_⟩) hS ?_
                · intro u _; go_simp
                try simp only [Act.put]
                refine wpAnyH_take (i := 10) (v := .string (s.extract 0 s.size ++ ⟨#[10, 35]⟩ ++ rem ++ ⟨#[10, 9]⟩ ++ s.extract s.size s.size)) rfl (by kernel_rfl) (by kernel_rfl) (by kernel_rfl) (fun _ _ _ h => h) (Or.inl ⟨by kernel_rfl, ?_⟩) hS ?_
                · intro u _; go_simp; omega
                try simp only [Act.put]
                refine wpAnyH_ready (rs := [11]) (by kernel_rfl) (by simp) ?_
                refine AllReadyH.cons rfl (fun K hK => ?_) AllReadyH.nil
                go_simp
                refine (read_any _ _ V2d).mono ?_
                rintro e w3 ⟨hR3, hb3⟩
                rw [HU.out.1] at hR3
                obtain ⟨v3, rfl, hK3⟩ := hR3
                go_wp2_with fail
                refine hK.out _ _ trivial (fun hS => ?_)
                clear hK K z1 z2 z3 z5 z6 z10
                try simp only [Act.put]
                refine wpAnyH_take (i := 12) (v := .tuple #[v3, .int .i64 0, .int .i64 0]) rfl (by kernel_rfl) (by kernel_rfl) (by kernel_rfl) (fun _ _ _ h => h) (Or.inl ⟨by kernel_rfl, ?_⟩) hS ?_
                · intro u _; go_simp
                try simp only [Act.put]
                refine wpAnyH_take (i := 13) (v := v3) rfl (by kernel_rfl) (by kernel_rfl) (by kernel_rfl) (fun _ _ _ h => h) (Or.inl ⟨by kernel_rfl, ?_⟩) hS ?_
                · intro u _; go_simp
                try simp only [Act.put]
                refine wpAnyH_take (i := 14) (v := .int .i64 0) rfl (by kernel_rfl) (by kernel_rfl) (by kernel_rfl) (fun _ _ _ h => h) (Or.inl ⟨by kernel_rfl, ?_⟩) hS ?_
                · intro u _; go_simp
                try simp only [Act.put]
                refine wpAnyH_take (i := 15) (v := .int .i64 0) rfl (by kernel_rfl) (by kernel_rfl) (by kernel_rfl) (fun _ _ _ h => h) (Or.inl ⟨by kernel_rfl, ?_⟩) hS ?_
                · intro u _; go_simp
                try simp only [Act.put]
                refine wpAnyH_ready (rs := [16]) (by kernel_rfl) (by simp) ?_
                refine AllReadyH.cons rfl (fun K hK => ?_) AllReadyH.nil
                go_simp
                refine hK.out _ _ trivial (fun hS => ?_)
                clear hK K
                try simp only [Act.put]
                refine wpAnyH_ready (rs := [17]) (by kernel_rfl) (by simp) ?_
                refine AllReadyH.cons rfl (fun K hK => ?_) AllReadyH.nil
                go_simp
                refine hK.out _ _ trivial (fun hS => ?_)
                clear hK K
                try simp only [Act.put]
                refine wpAnyH_ready (rs := [18]) (by kernel_rfl) (by simp) ?_
                refine AllReadyH.cons rfl (fun K hK => ?_) AllReadyH.nil
                go_simp
                refine hK.out _ _ trivial (fun hS => ?_)
                clear hK K
                try simp only [Act.put]
                refine wpAnyH_done (by kernel_rfl) ?_ _
                have hb3' : Below w2.heap.size w2 w3 := (Below.refl _ _).drew.trans hb3
                have b3 := nxt b2 hb3'
                have K2 := HK.out.kept hb3'
                clear hb3 hb3' V2d
                go_wp2_with fail
                refine (plain_any _ ts _ K2 hl).mono ?_
                rintro e w4 ⟨⟨u1, rfl, hu1⟩, hb4⟩
                have b4 := nxt b3 hb4
                go_wp2_with fail
                refine (plain_any _ us _ (hK3.kept hb4) (by rw [← HU.out.2.1]; exact hl)).mono ?_
                rintro e w5 ⟨⟨u2, rfl, hu2⟩, hb5⟩
                have b5 := nxt b4 hb5
                go_wp2_with fail
                refine (same_yes _ _ ts us true _ (hu1.kept hb5) hu2 HU.out.2 hl).mono ?_
                rintro e w6 ⟨rfl, hb6⟩
                have b6 := nxt b5 hb6
                clear hb6 hb5 hb4 hu1 hu2 hK3 K2
                go_wp2
                go_ret
                exact ⟨rfl, b6⟩
            · have hl0 : ¬ (0 : Int) < ts.length := by omega
              obtain ⟨us, hu, hA⟩ := HE.out
              have HU : Hid (readV (bs (s ++ ⟨#[10, 35]⟩ ++ rem ++ ⟨#[10, 9]⟩)) = .ok us ∧ Alike true ts us) := ⟨by rw [ins_end]; exact hu, hA⟩
              clear hu hA HI HE HC
              have n0 : (0 : Int) ≤ s.size := by omega
              go_upto_region 14 with fail
              have V2d := V2.kept (Below.refl _ _).drew
              refine wp_region_held_drew (S := fun _ : World => True) (by kernel_rfl) trivial (fun hS => ?_)
              refine wpAnyH_take (i := 0) (v := .string s) rfl (by kernel_rfl) (by kernel_rfl) (by kernel_rfl) (fun _ _ _ h => h) (Or.inl ⟨by kernel_rfl, ?_⟩) hS ?_
              · intro u _; go_simp
              try simp only [Act.put]
              refine wpAnyH_take (i := 1) (v := .int .i64 (s.size : Nat)) rfl (by kernel_rfl) (by kernel_rfl) (by kernel_rfl) (fun _ _ _ h => h) (Or.inl ⟨by kernel_rfl, ?_⟩) hS ?_
              · intro u _; go_simp
              try simp only [Act.put]
              refine wpAnyH_take (i := 2) (v := .string (s.extract 0 s.size)) rfl (by kernel_rfl) (by kernel_rfl) (by kernel_rfl) (fun _ _ _ h => h) (Or.inl ⟨by kernel_rfl, ?_⟩) hS ?_
              · intro u _; go_simp
              try simp only [Act.put]
              have z1 : (s.extract 0 s.size).size ≤ 4000 := by rw [sz_bs, bs_take, List.length_take, bs_len]; omega
              have z2 : (s.extract s.size s.size).size ≤ 4000 := by rw [sz_bs, bs_rest, List.length_drop, bs_len]; omega
              have z3 : (s.extract 0 s.size).size + (⟨#[10, 35]⟩ : ByteArray).size ≤ 9223372036854775807 := by show _ + 2 ≤ _; omega
              have z5 : (s.extract 0 s.size ++ ⟨#[10, 35]⟩).size + rem.size ≤ 9223372036854775807 := by rw [ByteArray.size_append]; show _ + 2 + _ ≤ _; omega
              have z6 : (s.extract 0 s.size ++ ⟨#[10, 35]⟩ ++ rem).size + (⟨#[10, 9]⟩ : ByteArray).size ≤ 9223372036854775807 := by rw [ByteArray.size_append, ByteArray.size_append]; show _ + 2 + _ + 2 ≤ _; omega
              have z10 : (s.extract 0 s.size ++ ⟨#[10, 35]⟩ ++ rem ++ ⟨#[10, 9]⟩).size + (s.extract s.size s.size).size ≤ 9223372036854775807 := by rw [ByteArray.size_append, ByteArray.size_append, ByteArray.size_append]; show _ + 2 + _ + 2 + _ ≤ _; omega
              refine wpAnyH_take (i := 3) (v := .string (s.extract 0 s.size ++ ⟨#[10, 35]⟩)) rfl (by kernel_rfl) (by kernel_rfl) (by kernel_rfl) (fun _ _ _ h => h) (Or.inl ⟨by kernel_rfl, ?_⟩) hS ?_
              · intro u _; go_simp; omega
              try simp only [Act.put]
              refine wpAnyH_take (i := 4) (v := .string rem) rfl (by kernel_rfl) (by kernel_rfl) (by kernel_rfl) (fun _ _ _ h => h) (Or.inl ⟨by kernel_rfl, ?_⟩) hS ?_
              · intro u _; go_simp
              try simp only [Act.put]
              refine wpAnyH_take (i := 5) (v := .string (s.extract 0 s.size ++ ⟨#[10, 35]⟩ ++ rem)) rfl (by kernel_rfl) (by kernel_rfl) (by kernel_rfl) (fun _ _ _ h => h) (Or.inl ⟨by kernel_rfl, ?_⟩) hS ?_
              · intro u _; go_simp; omega
              try simp only [Act.put]
              refine wpAnyH_take (i := 6) (v := .string (s.extract 0 s.size ++ ⟨#[10, 35]⟩ ++ rem ++ ⟨#[10, 9]⟩)) rfl (by kernel_rfl) (by kernel_rfl) (by kernel_rfl) (fun _ _ _ h => h) (Or.inl ⟨by kernel_rfl, ?_⟩) hS ?_
              · intro u _; go_simp; omega
              try simp only [Act.put]
              refine wpAnyH_take (i := 7) (v := .string s) rfl (by kernel_rfl) (by kernel_rfl) (by kernel_rfl) (fun _ _ _ h => h) (Or.inl ⟨by kernel_rfl, ?_⟩) hS ?_
              · intro u _; go_simp
              try simp only [Act.put]
              refine wpAnyH_take (i := 8) (v := .int .i64 (s.size : Nat)) rfl (by kernel_rfl) (by kernel_rfl) (by kernel_rfl) (fun _ _ _ h => h) (Or.inl ⟨by kernel_rfl, ?_⟩) hS ?_
              · intro u _; go_simp
              try simp only [Act.put]
              refine wpAnyH_take (i := 9) (v := .string (s.extract s.size s.size)) rfl (by kernel_rfl) (by kernel_rfl) (by kernel_rfl) (fun _ _ _ h => h) (Or.inl ⟨by kernel_rfl, ?_⟩) hS ?_
              · intro u _; go_simp
              try simp only [Act.put]
              refine wpAnyH_take (i := 10) (v := .string (s.extract 0 s.size ++ ⟨#[10, 35]⟩ ++ rem ++ ⟨#[10, 9]⟩ ++ s.extract s.size s.size)) rfl (by kernel_rfl) (by kernel_rfl) (by kernel_rfl) (fun _ _ _ h => h) (Or.inl ⟨by kernel_rfl, ?_⟩) hS ?_
              · intro u _; go_simp; omega
              try simp only [Act.put]
              refine wpAnyH_ready (rs := [11]) (by kernel_rfl) (by simp) ?_
              refine AllReadyH.cons rfl (fun K hK => ?_) AllReadyH.nil
              go_simp
              refine (read_any _ _ V2d).mono ?_
              rintro e w3 ⟨hR3, hb3⟩
              rw [HU.out.1] at hR3
              obtain ⟨v3, rfl, hK3⟩ := hR3
              go_wp2_with fail
              refine hK.out _ _ trivial (fun hS => ?_)
              clear hK K z1 z2 z3 z5 z6 z10
              try simp only [Act.put]
              refine wpAnyH_take (i := 12) (v := .tuple #[v3, .int .i64 0, .int .i64 0]) rfl (by kernel_rfl) (by kernel_rfl) (by kernel_rfl) (fun _ _ _ h => h) (Or.inl ⟨by kernel_rfl, ?_⟩) hS ?_
              · intro u _; go_simp
              try simp only [Act.put]
              refine wpAnyH_take (i := 13) (v := v3) rfl (by kernel_rfl) (by kernel_rfl) (by kernel_rfl) (fun _ _ _ h => h) (Or.inl ⟨by kernel_rfl, ?_⟩) hS ?_
              · intro u _; go_simp
              try simp only [Act.put]
              refine wpAnyH_take (i := 14) (v := .int .i64 0) rfl (by kernel_rfl) (by kernel_rfl) (by kernel_rfl) (fun _ _ _ h => h) (Or.inl ⟨by kernel_rfl, ?_⟩) hS ?_
              · intro u _; go_simp
              try simp only [Act.put]
              refine wpAnyH_take (i := 15) (v := .int .i64 0) rfl (by kernel_rfl) (by kernel_rfl) (by kernel_rfl) (fun _ _ _ h => h) (Or.inl ⟨by kernel_rfl, ?_⟩) hS ?_
              · intro u _; go_simp
              try simp only [Act.put]
              refine wpAnyH_ready (rs := [16]) (by kernel_rfl) (by simp) ?_
              refine AllReadyH.cons rfl (fun K hK => ?_) AllReadyH.nil
              go_simp
              refine hK.out _ _ trivial (fun hS => ?_)
              clear hK K
              try simp only [Act.put]
              refine wpAnyH_ready (rs := [17]) (by kernel_rfl) (by simp) ?_
              refine AllReadyH.cons rfl (fun K hK => ?_) AllReadyH.nil
              go_simp
              refine hK.out _ _ trivial (fun hS => ?_)
              clear hK K
              try simp only [Act.put]
              refine wpAnyH_ready (rs := [18]) (by kernel_rfl) (by simp) ?_
              refine AllReadyH.cons rfl (fun K hK => ?_) AllReadyH.nil
              go_simp
              refine hK.out _ _ trivial (fun hS => ?_)
              clear hK K
              try simp only [Act.put]
              refine wpAnyH_done (by kernel_rfl) ?_ _
              have hb3' : Below w2.heap.size w2 w3 := (Below.refl _ _).drew.trans hb3
              have b3 := nxt b2 hb3'
              have K2 := HK.out.kept hb3'
              clear hb3 hb3' V2d
              go_wp2_with fail
              refine (plain_any _ ts _ K2 hl).mono ?_
              rintro e w4 ⟨⟨u1, rfl, hu1⟩, hb4⟩
              have b4 := nxt b3 hb4
              go_wp2_with fail
              refine (plain_any _ us _ (hK3.kept hb4) (by rw [← HU.out.2.1]; exact hl)).mono ?_
              rintro e w5 ⟨⟨u2, rfl, hu2⟩, hb5⟩
              have b5 := nxt b4 hb5
              go_wp2_with fail
              refine (same_yes _ _ ts us true _ (hu1.kept hb5) hu2 HU.out.2 hl).mono ?_
              rintro e w6 ⟨rfl, hb6⟩
              have b6 := nxt b5 hb6
              clear hb6 hb5 hb4 hu1 hu2 hK3 K2
              go_wp2
              go_ret
              exact ⟨rfl, b6⟩
    · have hs' : (s.size : Int) ≤ 4000 := by omega
      have hm' : (1000 : Int) < rem.size := by omega
      go_wp2_with fail
      refine (lawake_any _ V1).mono ?_
      rintro e w2 ⟨rfl, hb⟩
      go_wp2
      go_ret
      exact ⟨rfl, nxt b1 hb⟩
  · have hs' : (4000 : Int) < s.size := by omega
    go_wp2_with fail
    refine (lawake_any _ V1).mono ?_
    rintro e w2 ⟨rfl, hb⟩
    go_wp2
    go_ret
    exact ⟨rfl, nxt b1 hb⟩
end Go.Proofs.YtmikilpklnnekaaDoor

/- Layer 5: what the row says of the variables, as the walks want it. -/
namespace Go.Proofs.YtmikilpklnnekaaDoor
open Go.RowKit

theorem strs_of_tab {H : Type} {enc : TypeId × Value → H} {P : Program} {w : World} {base : Nat} {sp : Nat → Bool} {held : Bool} {fuel : Nat} {t e : TypeId} {n : Nat} {cs : List Value} {zs : List (List UInt8)} {p : List MemPlace}
    (ht : P.underlying t = some (.array n e)) (he : P.underlying e = some .string) (hce : P.cellsOf e = 1) (hct : P.cellsOf t = n)
    (h : DataW.trod enc P w base sp held fuel t cs = some (.agg (zs.map fun z => .lit (.string z)), p)) : cs = zs.map fun z => Value.string (str z) := by
  cases fuel with
  | zero => simp [DataW.trod] at h
  | succ fuel =>
    simp only [DataW.trod, ht, hce, hct, Nat.mul_one] at h
    split at h
    · rename_i hl
      obtain ⟨xs, hm, hx⟩ := Option.map_eq_some_iff.1 h
      have hxs : xs.map (·.1) = zs.map fun z => (DataW.lit (.string z) : DataW H) := by
        have := congrArg Prod.fst hx
        simpa using this
      have hxl : xs.length = n := by simpa using Lib.mapM_length hm
      have hzl : zs.length = n := by
        have := congrArg List.length hxs
        simp at this
        omega
      apply List.ext_getElem?
      intro i
      by_cases hi : i < n
      · obtain ⟨b, hb, hf⟩ := Lib.mapM_at hm i i (by simp [hi])
        obtain ⟨z, hc, rfl, _⟩ := DataW.trod_string he hf
        have h1 : cs[i]? = some (.string z) := by
          have := congrArg (·[0]?) hc
          simpa [List.getElem?_take, List.getElem?_drop] using this
        have h2 : (xs.map (·.1))[i]? = some (DataW.lit (.string z.data.toList) : DataW H) := by simp [hb]
        rw [hxs] at h2
        simp only [List.getElem?_map, Option.map_eq_some_iff, DataW.lit.injEq, Lit.string.injEq] at h2
        obtain ⟨z', hz', rfl⟩ := h2
        have : str z.data.toList = z := str_bs z
        simp [h1, hz', this]
      · rw [List.getElem?_eq_none (by omega), List.getElem?_eq_none (by simp; omega)]
    · cases h

theorem Tryd.starE : "*" ++ "errors.errorString" = "*errors.errorString" := by decide
theorem Tryd.rowE (u : TypeId) (h : Tryd.prog.typeName? 3 u = some "*errors.errorString") : u = 78 :=
  typeName_ptr_named (nm := "errors.errorString") (by rw [Tryd.starE]; kernel_rfl) (by kernel_rfl) (by decide) u (by rw [Tryd.starE]; exact h)
theorem Tryd.gETy : (Tryd.prog.globals[2]?).map (·.type) = some 56 := by kernel_rfl
theorem Tryd.gLN : Tryd.prog.globalNamed "palisade/lex.longSigns" = some 0 := by kernel_rfl
theorem Tryd.gLTy : (Tryd.prog.globals[0]?).map (·.type) = some 59 := by kernel_rfl
theorem sign_data : (Rows.laid_palisade_lex_longSigns : DataW Unit) = .agg ([[61, 61], [61, 62], [45, 62], [58, 61]].map fun z => .lit (.string z)) := rfl

theorem vs_of_laid {W : World} (h0 : laidMetH Tryd.prog Rows.lexFaultRow.laid W) : Vs W := by
  rw [MakeChecks.laidMetH_plain _ _ _ (by kernel_rfl)] at h0
  have h : laidMet Tryd.prog [("math/bits.deBruijn32tab", Rows.laid_math_bits_deBruijn32tab), ("math/bits.deBruijn64tab", Rows.laid_math_bits_deBruijn64tab), ("internal/strconv.uint64pow10", Rows.laid_internal_strconv_uint64pow10), ("strconv.ErrRange", Rows.laid_strconv_ErrRange), ("strconv.ErrSyntax", Rows.laid_strconv_ErrSyntax), ("palisade/lex.longSigns", Rows.laid_palisade_lex_longSigns)] W := h0
  have h3 := h.tail.tail.tail
  obtain ⟨a1, s1, hv1, -, -, -⟩ := laid_sentinel (n := "strconv.ErrRange") h3 Tryd.errNamed Tryd.gETy Tryd.underlying56 Tryd.rowE Tryd.underlying78 Tryd.underlying80 rfl rfl Tryd.underlying9 (by kernel_rfl) (by kernel_rfl)
  have h5 := h3.tail.tail
  obtain ⟨ps, ⟨g0, t0, cs0, f0, p0, q0, hg0, ht0, hv0, hd0, _, _⟩, _⟩ := h5
  obtain rfl := Option.some.inj (Tryd.gLN.symm.trans hg0)
  obtain rfl := Option.some.inj (Tryd.gLTy.symm.trans ht0)
  rw [sign_data] at hd0
  have hcs := strs_of_tab Tryd.underlying59 Tryd.underlying9 (by kernel_rfl) (by kernel_rfl) hd0
  have hcell : ∀ j, W.cell? ⟨0, j, none⟩ = cs0[j]? := fun j => World.var?_cell Tryd.gLN hv0 j
  have hget : ∀ j, cs0[j]? = ([[61, 61], [61, 62], [45, 62], [58, 61]].map fun z => Value.string (str z))[j]? := fun j => by
    rw [← hcs, Array.getElem?_toList]
  exact ⟨⟨_, _, hv1⟩, (hcell 0).trans (hget 0), (hcell 1).trans (hget 1), (hcell 2).trans (hget 2), (hcell 3).trans (hget 3)⟩
end Go.Proofs.YtmikilpklnnekaaDoor
