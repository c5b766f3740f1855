/- The walk of the reference's Same: it tells just what the program's Same tells. -/
import Derived.Test.YtomjippaokakcaaSame2
namespace Go.Proofs.Ytomjippaokakcaa
open Go.RowKit

theorem same_lens {n : Strs} {g : Grid} {n2 : Strs} {g2 : Grid} (h : n.len ≠ n2.len ∨ g.len ≠ g2.len) : sameB n g n2 g2 = false := by
  unfold sameB eqSB eqGB
  rcases h with h | h
  · rw [beq_eq_false_iff_ne.2 h]; rfl
  · rw [beq_eq_false_iff_ne.2 h]; simp

set_option maxRecDepth 100000 in
set_option maxHeartbeats 4000000 in
theorem rsame_any (n : Strs) (g : Grid) (n2 : Strs) (g2 : Grid) (w : World) (hn : n.At w) (hg : g.At w) (hn2 : n2.At w) (hg2 : g2.At w) :
    Calls Try.prog 32 #[.agg #[.slice n.ao n.len n.cap, .slice g.ao g.len g.cap], .agg #[.slice n2.ao n2.len n2.cap, .slice g2.ao g2.len g2.cap]] w fun e w' => e = .returned (.bool (sameB n g n2 g2)) ∧ Below w.heap.size w w' := by
  have T0 := Two.start w (.slice n.ao n.len n.cap) (.slice g.ao g.len g.cap) (.slice n2.ao n2.len n2.cap) (.slice g2.ao g2.len g2.cap) 25 25
  have b1 := hn.bound
  have b2 := hn2.bound
  have b3 := hg.bound
  have b4 := hg2.bound
  by_cases hl : n.len = n2.len
  · by_cases hl2 : g.len = g2.len
    · have e1 : ((n.len : Int) != n2.len) = false := by simp [hl]
      have e2 : ((g.len : Int) != g2.len) = false := by simp [hl2]
      have HL : Hid (n.len = n2.len ∧ g.len = g2.len) := ⟨hl, hl2⟩
      clear hl hl2
      go_enter Try.func32, Try.ntmps32
      go_wp2
      clear e1 e2
      go_loopw [5] (fun i wr => ∃ k : Nat, k ≤ n.len ∧ i = .int .i64 k ∧ (∀ x, x < k → ((n.s x).toList == (n2.s x).toList) = true) ∧ Two w wr (.slice n.ao n.len n.cap) (.slice g.ao g.len g.cap) (.slice n2.ao n2.len n2.cap) (.slice g2.ao g2.len g2.cap)) (fun i _ => n.len - (intOf i).toNat)
      case atStart => exact ⟨0, Nat.zero_le _, rfl, fun _ h => absurd h (Nat.not_lt_zero _), T0⟩
      case round =>
        obtain ⟨k, hk, rfl, hdone, hT⟩ := hrel
        clear T0
        have HD : Hid (∀ x, x < k → ((n.s x).toList == (n2.s x).toList) = true) := hdone
        clear hdone
        have c0 := hT.c0
        have c1 := hT.c1
        have c2 := hT.c2
        have c3 := hT.c3
        by_cases hlt : k < n.len
        · have f1 := (hn.kept hT.bl).cell k hlt
          have f2 := (hn2.kept hT.bl).cell k (by have := HL.out; omega)
          have i1 : (k : Int) < n.len := by omega
          have i2 : (k : Int) < n2.len := by have := HL.out; omega
          have r1 := hn.nil (by omega)
          have r2 := hn2.nil (by have := HL.out; omega)
          cases hv : ((n.s k).toList == (n2.s k).toList)
          · have hv2 : ((n.s k).toList != (n2.s k).toList) = true := by rw [bne, hv]; rfl
            have HN : Hid (sameB n g n2 g2 = false) := by show sameB n g n2 g2 = false; unfold sameB; rw [eqS_no hlt hv]; rfl
            go_wp2
            go_quiet (fail)
            clear r1 r2
            go_wp2
            go_ret
            exact ⟨ret_bool HN.out.symm, (hT.step (below_drewN (Below.refl _ _) _)).bl⟩
          · have hv2 : ((n.s k).toList != (n2.s k).toList) = false := by rw [bne, hv]; rfl
            go_wp2
            go_quiet (fail)
            clear r1 r2 f1 f2 c0 c1 c2 c3
            go_wp2
            go_roundw
            case rel =>
              refine ⟨k + 1, by omega, by go_num, fun x hx => ?_, hT.step (below_drewN (Below.refl _ _) _)⟩
              rcases Nat.lt_succ_iff_lt_or_eq.1 hx with h | h
              · exact HD.out x h
              · subst h; exact hv
            case measure => simp [intOf]; omega
        · have HS : Hid (eqSB n n2 = true) := by
            show eqSB n n2 = true
            unfold eqSB
            rw [HL.out.1, beq_self_eq_true, Bool.true_and, decide_eq_true_eq]
            exact fun x hx => HD.out x (by have := HL.out.1; omega)
          clear HD
          go_wp2
          clear c0 c1 c2 c3
          go_loopw [6] (fun i wr => ∃ r : Nat, r ≤ g.len ∧ i = .int .i64 r ∧ (∀ x, x < r → eqRB (g.row x) (g2.row x) = true) ∧ Two w wr (.slice n.ao n.len n.cap) (.slice g.ao g.len g.cap) (.slice n2.ao n2.len n2.cap) (.slice g2.ao g2.len g2.cap)) (fun i _ => g.len - (intOf i).toNat)
          case atStart => exact ⟨0, Nat.zero_le _, rfl, fun _ h => absurd h (Nat.not_lt_zero _), hT⟩
          case round =>
            obtain ⟨r, hr, rfl, hdone, hT1⟩ := hrel
            clear hT
            have HD : Hid (∀ x, x < r → eqRB (g.row x) (g2.row x) = true) := hdone
            clear hdone
            have c0 := hT1.c0
            have c1 := hT1.c1
            have c2 := hT1.c2
            have c3 := hT1.c3
            by_cases hltr : r < g.len
            · have hr2 : r < g2.len := by have := HL.out; omega
              have f1 := (hg.kept hT1.bl).row r hltr
              have f2 := (hg2.kept hT1.bl).row r hr2
              have i1 : (r : Int) < g.len := by omega
              have i2 : (r : Int) < g2.len := by omega
              have r1 := hg.nil (by omega)
              have r2 := hg2.nil (by omega)
              have lb1 := hg.lbound r hltr
              have lb2 := hg2.lbound r hr2
              have HNO : Hid (eqRB (g.row r) (g2.row r) = false → sameB n g n2 g2 = false) := fun h => by unfold sameB; rw [eqG_no hltr h]; simp
              by_cases hL : g.L r = g2.L r
              · have eL : ((g.L r : Int) != g2.L r) = false := by simp [hL]
                have HLr : Hid (g.L r = g2.L r) := hL
                clear hL
                go_wp2
                go_quiet (fail)
                clear r1 r2 f1 f2
                have hT1' := hT1.step (below_drewN (Below.refl _ _) nq)
                clear hT1
                generalize wr.drewN nq = w3 at hT1' ⊢
                clear c0 c1 c2 c3
                go_wp2
                go_loopw [7] (fun i wr => ∃ c : Nat, c ≤ g.L r ∧ i = .int .i64 c ∧ (∀ x, x < c → g.B r x = g2.B r x) ∧ Two w wr (.slice n.ao n.len n.cap) (.slice g.ao g.len g.cap) (.slice n2.ao n2.len n2.cap) (.slice g2.ao g2.len g2.cap)) (fun i _ => g.L r - (intOf i).toNat)
                case atStart => exact ⟨0, Nat.zero_le _, rfl, fun _ h => absurd h (Nat.not_lt_zero _), hT1'⟩
                case round =>
                  obtain ⟨c, hc, rfl, hdone, hT2⟩ := hrel
                  clear hT1'
                  have HD2 : Hid (∀ x, x < c → g.B r x = g2.B r x) := hdone
                  clear hdone
                  have c0 := hT2.c0
                  have c1 := hT2.c1
                  have c2 := hT2.c2
                  have c3 := hT2.c3
                  have f1 := (hg.kept hT2.bl).row r hltr
                  have f2 := (hg2.kept hT2.bl).row r hr2
                  have r1 := hg.nil (by omega)
                  have r2 := hg2.nil (by omega)
                  by_cases hltc : c < g.L r
                  · have hc2 : c < g2.L r := by have := HLr.out; omega
                    have f3 := (hg.kept hT2.bl).cell r hltr c hltc
                    have f4 := (hg2.kept hT2.bl).cell r hr2 c hc2
                    have r3 := hg.adr r hltr (by omega)
                    have r4 := hg2.adr r hr2 (by omega)
                    have i3 : (c : Int) < g.L r := by omega
                    have i4 : (c : Int) < g2.L r := by omega
                    have HN : Hid (g.B r c = g2.B r c → ∀ x, x < c + 1 → g.B r x = g2.B r x) := fun hh x hx => by
                      rcases Nat.lt_succ_iff_lt_or_eq.1 hx with h | h
                      · exact HD2.out x h
                      · subst h; exact hh
                    have HO : Hid (g.B r c ≠ g2.B r c → sameB n g n2 g2 = false) := fun h => HNO.out (eqR_no (p := g.row r) (q := g2.row r) hltc h)
                    cases v1 : g.B r c
                    all_goals cases v2 : g2.B r c
                    all_goals
                      rw [v1] at f3
                      rw [v2] at f4
                      go_wp2
                      go_quiet (fail)
                      clear r1 r2 r3 r4 f1 f2 f3 f4 c0 c1 c2 c3
                      go_wp2
                      first
                        | (go_roundw
                           case rel => exact ⟨c + 1, by omega, by go_num, HN.out (by rw [v1, v2]), hT2.step (below_drewN (Below.refl _ _) _)⟩
                           case measure => simp [intOf]; omega)
                        | (go_ret
                           exact ⟨ret_bool (HO.out (by rw [v1, v2]; simp)).symm, (hT2.step (below_drewN (Below.refl _ _) _)).bl⟩)
                  · have HR : Hid (eqRB (g.row r) (g2.row r) = true) := by
                      show eqRB (g.row r) (g2.row r) = true
                      unfold eqRB
                      rw [Bool.and_eq_true, beq_iff_eq, decide_eq_true_eq]
                      exact ⟨HLr.out, fun x hx => HD2.out x (by have hx' : x < g.L r := hx; omega)⟩
                    go_wp2
                    clear r1 r2
                    go_roundw
                    case rel =>
                      refine ⟨r + 1, by omega, by go_num, fun x hx => ?_, hT2⟩
                      rcases Nat.lt_succ_iff_lt_or_eq.1 hx with h | h
                      · exact HD.out x h
                      · subst h; exact HR.out
                    case measure => simp [intOf]; omega
              · have eL : ((g.L r : Int) != g2.L r) = true := by rw [bne_iff_ne]; omega
                have HF : Hid (sameB n g n2 g2 = false) := HNO.out (by unfold eqRB; rw [beq_eq_false_iff_ne.2 (show (g.row r).len ≠ (g2.row r).len from hL)]; rfl)
                go_wp2
                go_quiet (fail)
                clear r1 r2
                go_wp2
                go_ret
                exact ⟨ret_bool HF.out.symm, (hT1.step (below_drewN (Below.refl _ _) _)).bl⟩
            · have HE : Hid (sameB n g n2 g2 = true) := by
                show sameB n g n2 g2 = true
                unfold sameB eqGB
                rw [HS.out, HL.out.2, beq_self_eq_true, Bool.true_and, Bool.true_and, decide_eq_true_eq]
                exact fun x hx => HD.out x (by have := HL.out.2; omega)
              go_wp2
              go_ret
              exact ⟨ret_bool HE.out.symm, hT1.bl⟩
    · have e1 : ((n.len : Int) != n2.len) = false := by simp [hl]
      have e2 : ((g.len : Int) != g2.len) = true := by rw [bne_iff_ne]; omega
      have HF : Hid (sameB n g n2 g2 = false) := same_lens (Or.inr hl2)
      clear hl
      go_enter Try.func32, Try.ntmps32
      go_wp2
      go_ret
      exact ⟨ret_bool HF.out.symm, T0.bl⟩
  · have e1 : ((n.len : Int) != n2.len) = true := by rw [bne_iff_ne]; omega
    have HF : Hid (sameB n g n2 g2 = false) := same_lens (Or.inl hl)
    go_enter Try.func32, Try.ntmps32
    go_wp2
    go_ret
    exact ⟨ret_bool HF.out.symm, T0.bl⟩
end Go.Proofs.Ytomjippaokakcaa
