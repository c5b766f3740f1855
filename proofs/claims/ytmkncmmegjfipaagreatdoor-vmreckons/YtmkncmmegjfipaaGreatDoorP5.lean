/- The walk of the reference's Formed: it tells just what the program's Formed tells. -/
import Derived.Test.YtmkncmmegjfipaaGreatDoorP4
import Derived.Test.YtmkncmmegjfipaaGreatDoorP3
namespace Go.Proofs.YtmkncmmegjfipaaGreatDoor
open Go.RowKit

theorem findI_neg (p : Nat → Bool) (N : Nat) (h : findI p N 0 ≠ -1) : 0 ≤ findI p N 0 := by
  rcases findI_spec p N 0 with h0 | ⟨j, _, _, h3, _⟩
  · exact absurd h0 h
  · rw [h3]; omega

theorem rf_no {n : Strs} {g : Grid} {a b : Nat} (ha : a < n.len) (hb : b < n.len) (h : abOk n g a b = false) : formedB n g = false := by
  rw [← rformed_eq]
  unfold rformedB
  rw [Bool.and_eq_false_iff, decide_eq_false_iff_not]
  right
  intro hh
  rw [hh a ha b hb] at h
  exact Bool.noConfusion h

set_option maxRecDepth 100000 in
set_option maxHeartbeats 8000000 in
theorem rformed_any (n : Strs) (g : Grid) (w : World) (hn : n.At w) (hg : g.At w) :
    Calls Tryz.prog 35 #[.agg #[.slice n.ao n.len n.cap, .slice g.ao g.len g.cap]] w fun e w' => e = .returned (.bool (formedB n g)) ∧ Below w.heap.size w w' := by
  by_cases hS : (namesB n && squareB g n.len) = true
  · have s := sq_of hS
    have hq : SqAt n g w := ⟨hn, hg, s.pos, s.le8, s.len, fun r hr => s.L r (by have := s.len; omega)⟩
    have B0 := Box2.start w (.slice n.ao n.len n.cap) (.slice g.ao g.len g.cap) 25
    have hsh := shaped_any n g _ (hn.kept B0.bl) (hg.kept B0.bl)
    have hjn := fun (wr : World) (hB : Box2 w wr (.slice n.ao n.len n.cap) (.slice g.ao g.len g.cap)) (a b : Nat) (ha : a < n.len) (hb : b < n.len) => rjoin_any n g wr a b (hq.kept hB.bl) ha hb
    have hmt := fun (wr : World) (hB : Box2 w wr (.slice n.ao n.len n.cap) (.slice g.ao g.len g.cap)) (a b : Nat) (ha : a < n.len) (hb : b < n.len) => rmeet_any n g wr a b (hq.kept hB.bl) ha hb
    rw [hS] at hsh
    rw [hq.ao, hq.len] at hsh B0 hjn hmt ⊢
    have HSH := hsh
    have HJ : Hid (∀ (wr : World) (hB : Box2 w wr (.slice n.ao n.len n.cap) (.slice (some ⟨g.gb, g.go, none⟩) n.len g.cap)) (a b : Nat) (ha : a < n.len) (hb : b < n.len), Calls Tryz.prog 62 #[.agg #[.slice n.ao n.len n.cap, .slice (some ⟨g.gb, g.go, none⟩) n.len g.cap], .int .i64 a, .int .i64 b] wr fun e w' => e = .returned (.int .i64 (findI (abvB n g a b) n.len 0)) ∧ Below wr.heap.size wr w') := hjn
    have HM : Hid (∀ (wr : World) (hB : Box2 w wr (.slice n.ao n.len n.cap) (.slice (some ⟨g.gb, g.go, none⟩) n.len g.cap)) (a b : Nat) (ha : a < n.len) (hb : b < n.len), Calls Tryz.prog 63 #[.agg #[.slice n.ao n.len n.cap, .slice (some ⟨g.gb, g.go, none⟩) n.len g.cap], .int .i64 a, .int .i64 b] wr fun e w' => e = .returned (.int .i64 (findI (blwB n g a b) n.len 0)) ∧ Below wr.heap.size wr w') := hmt
    have HS : Hid ((namesB n && squareB g n.len) = true) := hS
    have l8 := s.le8
    clear hjn hmt hS s hsh
    have H0 : Hid (Calls Tryz.prog 61 #[.agg #[.slice n.ao n.len n.cap, .slice (some ⟨g.gb, g.go, none⟩) n.len g.cap]] (w.alloc (.cells #[.slice n.ao n.len n.cap, .slice (some ⟨g.gb, g.go, none⟩) n.len g.cap] 25)) fun e w' => e = .returned (.bool true) ∧ Below (w.alloc (.cells #[.slice n.ao n.len n.cap, .slice (some ⟨g.gb, g.go, none⟩) n.len g.cap] 25)).heap.size (w.alloc (.cells #[.slice n.ao n.len n.cap, .slice (some ⟨g.gb, g.go, none⟩) n.len g.cap] 25)) w') := HSH
    clear HSH
    go_enter Tryz.func35, Tryz.ntmps35
    go_wp2_with fail
    refine H0.out.mono ?_
    rintro e w1 ⟨rfl, hb1⟩
    have B1 := B0.step hb1
    clear hb1 B0 H0
    have c0 := B1.c0
    have c1 := B1.c1
    go_wp2
    clear c0 c1
    go_loopw [4] (fun i wr => ∃ a : Nat, a ≤ n.len ∧ i = .int .i64 a ∧ (∀ x, x < a → ∀ y, y < n.len → abOk n g x y = true) ∧ Box2 w wr (.slice n.ao n.len n.cap) (.slice (some ⟨g.gb, g.go, none⟩) n.len g.cap)) (fun i _ => n.len - (intOf i).toNat)
    case atStart => exact ⟨0, Nat.zero_le _, rfl, fun _ h => absurd h (Nat.not_lt_zero _), B1⟩
    case round =>
      obtain ⟨a, ha, rfl, hdone, hB⟩ := hrel
      clear B1
      have HD : Hid (∀ x, x < a → ∀ y, y < n.len → abOk n g x y = true) := hdone
      clear hdone
      by_cases hlt : a < n.len
      · go_wp2
        go_loopw [5] (fun i wr => ∃ b : Nat, b ≤ n.len ∧ i = .int .i64 b ∧ (∀ y, y < b → abOk n g a y = true) ∧ Box2 w wr (.slice n.ao n.len n.cap) (.slice (some ⟨g.gb, g.go, none⟩) n.len g.cap)) (fun i _ => n.len - (intOf i).toNat)
        case atStart => exact ⟨0, Nat.zero_le _, rfl, fun _ h => absurd h (Nat.not_lt_zero _), hB⟩
        case round =>
          obtain ⟨b, hb, rfl, hdone2, hB2⟩ := hrel
          clear hB
          have HD2 : Hid (∀ y, y < b → abOk n g a y = true) := hdone2
          clear hdone2
          by_cases hltb : b < n.len
          · have q2 := hq.kept hB2.bl
            have c0 := hB2.c0
            have c1 := hB2.c1
            have ra := q2.row hlt
            have rb := q2.row hltb
            have fab := q2.cell hlt hltb
            have fba := q2.cell hltb hlt
            have ia : (a : Int) < n.len := by omega
            have ib : (b : Int) < n.len := by omega
            have HNO : Hid (abOk n g a b = false → formedB n g = false) := fun h => rf_no hlt hltb h
            clear q2
            -- the first question
            by_cases t1 : (if a = b then g.B a b else !(g.B a b && g.B b a)) = true
            · have T1 : Hid ((if a = b then g.B a b else !(g.B a b && g.B b a)) = true) := t1
              have ways : (a = b ∧ g.B a b = true) ∨ (a ≠ b ∧ g.B a b = false) ∨ (a ≠ b ∧ g.B a b = true ∧ g.B b a = false) := by
                by_cases e : a = b
                · rw [if_pos e] at t1; exact Or.inl ⟨e, t1⟩
                · rw [if_neg e] at t1
                  cases u1 : g.B a b
                  · exact Or.inr (Or.inl ⟨e, rfl⟩)
                  · rw [u1] at t1
                    exact Or.inr (Or.inr ⟨e, rfl, by simpa using t1⟩)
              clear t1
              rcases ways with ⟨e, hab⟩ | ⟨e, hab⟩ | ⟨e, hab, hba⟩
              · have e1 : ((a : Int) == b) = true := by rw [beq_iff_eq]; omega
                have e2 : ((a : Int) != b) = false := by rw [bne_eq_false_iff_eq]; omega
                rw [hab] at fab
                clear e
                go_wp2
                clear e1 e2
                clear c0 c1 ra rb fab fba
                go_loopw [6] (fun i wr => ∃ c : Nat, c ≤ n.len ∧ i = .int .i64 c ∧ (∀ z, z < c → (g.B a b && g.B b z && !g.B a z) = false) ∧ Box2 w wr (.slice n.ao n.len n.cap) (.slice (some ⟨g.gb, g.go, none⟩) n.len g.cap)) (fun i _ => n.len - (intOf i).toNat)
                case atStart => exact ⟨0, Nat.zero_le _, rfl, fun _ h => absurd h (Nat.not_lt_zero _), hB2⟩
                case round =>
                  obtain ⟨c, hc, rfl, hdone3, hB3⟩ := hrel
                  clear hB2
                  have HD3 : Hid (∀ z, z < c → (g.B a b && g.B b z && !g.B a z) = false) := hdone3
                  clear hdone3
                  have q3 := hq.kept hB3.bl
                  have c0 := hB3.c0
                  have c1 := hB3.c1
                  by_cases hltc : c < n.len
                  · have ra := q3.row hlt
                    have rb := q3.row hltb
                    have fab := q3.cell hlt hltb
                    have fbc := q3.cell hltb hltc
                    have fac := q3.cell hlt hltc
                    have ic : (c : Int) < n.len := by omega
                    rw [hab] at fab
                    clear q3
                    have HN : Hid ((g.B a b && g.B b c && !g.B a c) = false → ∀ z, z < c + 1 → (g.B a b && g.B b z && !g.B a z) = false) := fun hh z hz => by
                      rcases Nat.lt_succ_iff_lt_or_eq.1 hz with h | h
                      · exact HD3.out z h
                      · subst h; exact hh
                    have HQ : Hid ((g.B a b && g.B b c && !g.B a c) = true → formedB n g = false) := fun hh => HNO.out (by
                      unfold abOk
                      rw [Bool.and_eq_false_iff, Bool.and_eq_false_iff]
                      refine Or.inl (Or.inr (decide_eq_false_iff_not.2 fun hk => ?_))
                      rw [hk c hltc] at hh
                      exact Bool.noConfusion hh)
                    cases v2 : g.B b c
                    all_goals cases v3 : g.B a c
                    all_goals
                      rw [v2] at fbc
                      rw [v3] at fac
                      go_wp2
                      first
                        | (go_roundw
                           case rel => exact ⟨c + 1, by omega, by go_num, HN.out (by rw [hab, v2, v3]; rfl), hB3⟩
                           case measure => simp [intOf]; omega)
                        | (go_ret
                           exact ⟨ret_bool (HQ.out (by rw [hab, v2, v3]; rfl)).symm, hB3.bl⟩)
                  · clear q3
                    go_wp2_with fail
                    refine (HJ.out _ hB3 a b hlt hltb).mono ?_
                    rintro e w4 ⟨rfl, hb4⟩
                    have B4 := hB3.step hb4
                    clear hb4 c0 c1
                    have c0 := B4.c0
                    have c1 := B4.c1
                    by_cases hj : findI (abvB n g a b) n.len 0 = -1
                    · have HF : Hid (formedB n g = false) := HNO.out (by unfold abOk; rw [hj]; simp)
                      have dj : decide (findI (abvB n g a b) n.len 0 < 0) = true := by rw [hj]; decide
                      clear hj
                      generalize findI (abvB n g a b) n.len 0 = fj at *
                      go_wp2
                      all_goals (go_ret; exact ⟨ret_bool HF.out.symm, B4.bl⟩)
                    · have pj := findI_neg _ _ hj
                      have HJ1 : Hid (findI (abvB n g a b) n.len 0 ≠ -1) := hj
                      clear hj
                      have dj : decide (findI (abvB n g a b) n.len 0 < 0) = false := by rw [decide_eq_false_iff_not]; omega
                      generalize hfj : findI (abvB n g a b) n.len 0 = fj at pj dj ⊢
                      have HFJ : Hid (findI (abvB n g a b) n.len 0 = fj) := hfj
                      clear hfj
                      go_wp2_with fail
                      refine (HM.out _ B4 a b hlt hltb).mono ?_
                      rintro e w5 ⟨rfl, hb5⟩
                      have B5 := B4.step hb5
                      clear hb5 c0 c1
                      by_cases hm : findI (blwB n g a b) n.len 0 = -1
                      · have HF : Hid (formedB n g = false) := HNO.out (by unfold abOk; rw [hm]; simp)
                        have dm : decide (findI (blwB n g a b) n.len 0 < 0) = true := by rw [hm]; decide
                        clear hm
                        generalize findI (blwB n g a b) n.len 0 = fm at *
                        go_wp2
                        all_goals (go_ret; exact ⟨ret_bool HF.out.symm, B5.bl⟩)
                      · have pm := findI_neg _ _ hm
                        have HOK : Hid (abOk n g a b = true) := by
                          show abOk n g a b = true
                          unfold abOk
                          rw [T1.out, decide_eq_true (fun z hz => HD3.out z (by omega)), bne_iff_ne.2 HJ1.out, bne_iff_ne.2 hm]; rfl
                        have dm : decide (findI (blwB n g a b) n.len 0 < 0) = false := by rw [decide_eq_false_iff_not]; omega
                        clear hm
                        generalize findI (blwB n g a b) n.len 0 = fm at *
                        go_wp2
                        go_roundw
                        case rel =>
                          refine ⟨b + 1, by omega, by go_num, fun y hy => ?_, B5⟩
                          rcases Nat.lt_succ_iff_lt_or_eq.1 hy with h | h
                          · exact HD2.out y h
                          · subst h; exact HOK.out
                        case measure => simp [intOf]; omega
              · have e1 : ((a : Int) == b) = false := by rw [beq_eq_false_iff_ne]; omega
                have e2 : ((a : Int) != b) = true := by rw [bne_iff_ne]; omega
                rw [hab] at fab
                clear e
                go_wp2
                clear e1 e2
                clear c0 c1 ra rb fab fba
                go_loopw [6] (fun i wr => ∃ c : Nat, c ≤ n.len ∧ i = .int .i64 c ∧ (∀ z, z < c → (g.B a b && g.B b z && !g.B a z) = false) ∧ Box2 w wr (.slice n.ao n.len n.cap) (.slice (some ⟨g.gb, g.go, none⟩) n.len g.cap)) (fun i _ => n.len - (intOf i).toNat)
                case atStart => exact ⟨0, Nat.zero_le _, rfl, fun _ h => absurd h (Nat.not_lt_zero _), hB2⟩
                case round =>
                  obtain ⟨c, hc, rfl, hdone3, hB3⟩ := hrel
                  clear hB2
                  have HD3 : Hid (∀ z, z < c → (g.B a b && g.B b z && !g.B a z) = false) := hdone3
                  clear hdone3
                  have q3 := hq.kept hB3.bl
                  have c0 := hB3.c0
                  have c1 := hB3.c1
                  by_cases hltc : c < n.len
                  · have ra := q3.row hlt
                    have rb := q3.row hltb
                    have fab := q3.cell hlt hltb
                    have fbc := q3.cell hltb hltc
                    have fac := q3.cell hlt hltc
                    have ic : (c : Int) < n.len := by omega
                    rw [hab] at fab
                    clear q3
                    have HN : Hid ((g.B a b && g.B b c && !g.B a c) = false → ∀ z, z < c + 1 → (g.B a b && g.B b z && !g.B a z) = false) := fun hh z hz => by
                      rcases Nat.lt_succ_iff_lt_or_eq.1 hz with h | h
                      · exact HD3.out z h
                      · subst h; exact hh
                    have HQ : Hid ((g.B a b && g.B b c && !g.B a c) = true → formedB n g = false) := fun hh => HNO.out (by
                      unfold abOk
                      rw [Bool.and_eq_false_iff, Bool.and_eq_false_iff]
                      refine Or.inl (Or.inr (decide_eq_false_iff_not.2 fun hk => ?_))
                      rw [hk c hltc] at hh
                      exact Bool.noConfusion hh)
                    cases v2 : g.B b c
                    all_goals cases v3 : g.B a c
                    all_goals
                      rw [v2] at fbc
                      rw [v3] at fac
                      go_wp2
                      first
                        | (go_roundw
                           case rel => exact ⟨c + 1, by omega, by go_num, HN.out (by rw [hab, v2, v3]; rfl), hB3⟩
                           case measure => simp [intOf]; omega)
                        | (go_ret
                           exact ⟨ret_bool (HQ.out (by rw [hab, v2, v3]; rfl)).symm, hB3.bl⟩)
                  · clear q3
                    go_wp2_with fail
                    refine (HJ.out _ hB3 a b hlt hltb).mono ?_
                    rintro e w4 ⟨rfl, hb4⟩
                    have B4 := hB3.step hb4
                    clear hb4 c0 c1
                    have c0 := B4.c0
                    have c1 := B4.c1
                    by_cases hj : findI (abvB n g a b) n.len 0 = -1
                    · have HF : Hid (formedB n g = false) := HNO.out (by unfold abOk; rw [hj]; simp)
                      have dj : decide (findI (abvB n g a b) n.len 0 < 0) = true := by rw [hj]; decide
                      clear hj
                      generalize findI (abvB n g a b) n.len 0 = fj at *
                      go_wp2
                      all_goals (go_ret; exact ⟨ret_bool HF.out.symm, B4.bl⟩)
                    · have pj := findI_neg _ _ hj
                      have HJ1 : Hid (findI (abvB n g a b) n.len 0 ≠ -1) := hj
                      clear hj
                      have dj : decide (findI (abvB n g a b) n.len 0 < 0) = false := by rw [decide_eq_false_iff_not]; omega
                      generalize hfj : findI (abvB n g a b) n.len 0 = fj at pj dj ⊢
                      have HFJ : Hid (findI (abvB n g a b) n.len 0 = fj) := hfj
                      clear hfj
                      go_wp2_with fail
                      refine (HM.out _ B4 a b hlt hltb).mono ?_
                      rintro e w5 ⟨rfl, hb5⟩
                      have B5 := B4.step hb5
                      clear hb5 c0 c1
                      by_cases hm : findI (blwB n g a b) n.len 0 = -1
                      · have HF : Hid (formedB n g = false) := HNO.out (by unfold abOk; rw [hm]; simp)
                        have dm : decide (findI (blwB n g a b) n.len 0 < 0) = true := by rw [hm]; decide
                        clear hm
                        generalize findI (blwB n g a b) n.len 0 = fm at *
                        go_wp2
                        all_goals (go_ret; exact ⟨ret_bool HF.out.symm, B5.bl⟩)
                      · have pm := findI_neg _ _ hm
                        have HOK : Hid (abOk n g a b = true) := by
                          show abOk n g a b = true
                          unfold abOk
                          rw [T1.out, decide_eq_true (fun z hz => HD3.out z (by omega)), bne_iff_ne.2 HJ1.out, bne_iff_ne.2 hm]; rfl
                        have dm : decide (findI (blwB n g a b) n.len 0 < 0) = false := by rw [decide_eq_false_iff_not]; omega
                        clear hm
                        generalize findI (blwB n g a b) n.len 0 = fm at *
                        go_wp2
                        go_roundw
                        case rel =>
                          refine ⟨b + 1, by omega, by go_num, fun y hy => ?_, B5⟩
                          rcases Nat.lt_succ_iff_lt_or_eq.1 hy with h | h
                          · exact HD2.out y h
                          · subst h; exact HOK.out
                        case measure => simp [intOf]; omega
              · have e1 : ((a : Int) == b) = false := by rw [beq_eq_false_iff_ne]; omega
                have e2 : ((a : Int) != b) = true := by rw [bne_iff_ne]; omega
                rw [hab] at fab
                rw [hba] at fba
                clear e
                go_wp2
                clear e1 e2
                clear c0 c1 ra rb fab fba
                go_loopw [6] (fun i wr => ∃ c : Nat, c ≤ n.len ∧ i = .int .i64 c ∧ (∀ z, z < c → (g.B a b && g.B b z && !g.B a z) = false) ∧ Box2 w wr (.slice n.ao n.len n.cap) (.slice (some ⟨g.gb, g.go, none⟩) n.len g.cap)) (fun i _ => n.len - (intOf i).toNat)
                case atStart => exact ⟨0, Nat.zero_le _, rfl, fun _ h => absurd h (Nat.not_lt_zero _), hB2⟩
                case round =>
                  obtain ⟨c, hc, rfl, hdone3, hB3⟩ := hrel
                  clear hB2
                  have HD3 : Hid (∀ z, z < c → (g.B a b && g.B b z && !g.B a z) = false) := hdone3
                  clear hdone3
                  have q3 := hq.kept hB3.bl
                  have c0 := hB3.c0
                  have c1 := hB3.c1
                  by_cases hltc : c < n.len
                  · have ra := q3.row hlt
                    have rb := q3.row hltb
                    have fab := q3.cell hlt hltb
                    have fbc := q3.cell hltb hltc
                    have fac := q3.cell hlt hltc
                    have ic : (c : Int) < n.len := by omega
                    rw [hab] at fab
                    clear q3
                    have HN : Hid ((g.B a b && g.B b c && !g.B a c) = false → ∀ z, z < c + 1 → (g.B a b && g.B b z && !g.B a z) = false) := fun hh z hz => by
                      rcases Nat.lt_succ_iff_lt_or_eq.1 hz with h | h
                      · exact HD3.out z h
                      · subst h; exact hh
                    have HQ : Hid ((g.B a b && g.B b c && !g.B a c) = true → formedB n g = false) := fun hh => HNO.out (by
                      unfold abOk
                      rw [Bool.and_eq_false_iff, Bool.and_eq_false_iff]
                      refine Or.inl (Or.inr (decide_eq_false_iff_not.2 fun hk => ?_))
                      rw [hk c hltc] at hh
                      exact Bool.noConfusion hh)
                    cases v2 : g.B b c
                    all_goals cases v3 : g.B a c
                    all_goals
                      rw [v2] at fbc
                      rw [v3] at fac
                      go_wp2
                      first
                        | (go_roundw
                           case rel => exact ⟨c + 1, by omega, by go_num, HN.out (by rw [hab, v2, v3]; rfl), hB3⟩
                           case measure => simp [intOf]; omega)
                        | (go_ret
                           exact ⟨ret_bool (HQ.out (by rw [hab, v2, v3]; rfl)).symm, hB3.bl⟩)
                  · clear q3
                    go_wp2_with fail
                    refine (HJ.out _ hB3 a b hlt hltb).mono ?_
                    rintro e w4 ⟨rfl, hb4⟩
                    have B4 := hB3.step hb4
                    clear hb4 c0 c1
                    have c0 := B4.c0
                    have c1 := B4.c1
                    by_cases hj : findI (abvB n g a b) n.len 0 = -1
                    · have HF : Hid (formedB n g = false) := HNO.out (by unfold abOk; rw [hj]; simp)
                      have dj : decide (findI (abvB n g a b) n.len 0 < 0) = true := by rw [hj]; decide
                      clear hj
                      generalize findI (abvB n g a b) n.len 0 = fj at *
                      go_wp2
                      all_goals (go_ret; exact ⟨ret_bool HF.out.symm, B4.bl⟩)
                    · have pj := findI_neg _ _ hj
                      have HJ1 : Hid (findI (abvB n g a b) n.len 0 ≠ -1) := hj
                      clear hj
                      have dj : decide (findI (abvB n g a b) n.len 0 < 0) = false := by rw [decide_eq_false_iff_not]; omega
                      generalize hfj : findI (abvB n g a b) n.len 0 = fj at pj dj ⊢
                      have HFJ : Hid (findI (abvB n g a b) n.len 0 = fj) := hfj
                      clear hfj
                      go_wp2_with fail
                      refine (HM.out _ B4 a b hlt hltb).mono ?_
                      rintro e w5 ⟨rfl, hb5⟩
                      have B5 := B4.step hb5
                      clear hb5 c0 c1
                      by_cases hm : findI (blwB n g a b) n.len 0 = -1
                      · have HF : Hid (formedB n g = false) := HNO.out (by unfold abOk; rw [hm]; simp)
                        have dm : decide (findI (blwB n g a b) n.len 0 < 0) = true := by rw [hm]; decide
                        clear hm
                        generalize findI (blwB n g a b) n.len 0 = fm at *
                        go_wp2
                        all_goals (go_ret; exact ⟨ret_bool HF.out.symm, B5.bl⟩)
                      · have pm := findI_neg _ _ hm
                        have HOK : Hid (abOk n g a b = true) := by
                          show abOk n g a b = true
                          unfold abOk
                          rw [T1.out, decide_eq_true (fun z hz => HD3.out z (by omega)), bne_iff_ne.2 HJ1.out, bne_iff_ne.2 hm]; rfl
                        have dm : decide (findI (blwB n g a b) n.len 0 < 0) = false := by rw [decide_eq_false_iff_not]; omega
                        clear hm
                        generalize findI (blwB n g a b) n.len 0 = fm at *
                        go_wp2
                        go_roundw
                        case rel =>
                          refine ⟨b + 1, by omega, by go_num, fun y hy => ?_, B5⟩
                          rcases Nat.lt_succ_iff_lt_or_eq.1 hy with h | h
                          · exact HD2.out y h
                          · subst h; exact HOK.out
                        case measure => simp [intOf]; omega
            · have HN : Hid (formedB n g = false) := HNO.out (by unfold abOk; rw [Bool.not_eq_true] at t1; rw [t1]; rfl)
              by_cases e : a = b
              · rw [if_pos e, Bool.not_eq_true] at t1
                have e1 : ((a : Int) == b) = true := by rw [beq_iff_eq]; omega
                rw [t1] at fab
                clear e t1
                go_wp2
                go_ret
                exact ⟨ret_bool HN.out.symm, hB2.bl⟩
              · rw [if_neg e, Bool.not_eq_true, Bool.not_eq_false', Bool.and_eq_true] at t1
                have e1 : ((a : Int) == b) = false := by rw [beq_eq_false_iff_ne]; omega
                have e2 : ((a : Int) != b) = true := by rw [bne_iff_ne]; omega
                rw [t1.1] at fab
                rw [t1.2] at fba
                clear e t1
                go_wp2
                go_ret
                exact ⟨ret_bool HN.out.symm, hB2.bl⟩
          · go_wp2
            go_roundw
            case rel =>
              refine ⟨a + 1, by omega, by go_num, fun x hx y hy => ?_, hB2⟩
              rcases Nat.lt_succ_iff_lt_or_eq.1 hx with h | h
              · exact HD.out x h y hy
              · subst h; exact HD2.out y (by omega)
            case measure => simp [intOf]; omega
      · have HY : Hid (formedB n g = true) := by
          show formedB n g = true
          rw [← rformed_eq]
          unfold rformedB
          rw [HS.out, decide_eq_true (fun x hx y hy => HD.out x (by omega) y hy)]; rfl
        go_wp2
        go_ret
        exact ⟨ret_bool HY.out.symm, hB.bl⟩
  · have HN : Hid (formedB n g = false) := by
      show formedB n g = false
      unfold formedB
      rw [Bool.not_eq_true] at hS
      rw [hS]; rfl
    have B0 := Box2.start w (.slice n.ao n.len n.cap) (.slice g.ao g.len g.cap) 25
    have hsh := shaped_any n g _ (hn.kept B0.bl) (hg.kept B0.bl)
    rw [Bool.not_eq_true] at hS
    rw [hS] at hsh
    have H0 : Hid (Calls Tryz.prog 61 #[.agg #[.slice n.ao n.len n.cap, .slice g.ao g.len g.cap]] (w.alloc (.cells #[.slice n.ao n.len n.cap, .slice g.ao g.len g.cap] 25)) fun e w' => e = .returned (.bool false) ∧ Below (w.alloc (.cells #[.slice n.ao n.len n.cap, .slice g.ao g.len g.cap] 25)).heap.size (w.alloc (.cells #[.slice n.ao n.len n.cap, .slice g.ao g.len g.cap] 25)) w') := hsh
    clear hsh hS
    go_enter Tryz.func35, Tryz.ntmps35
    go_wp2_with fail
    refine H0.out.mono ?_
    rintro e w1 ⟨rfl, hb1⟩
    have B1 := B0.step hb1
    go_wp2
    go_ret
    exact ⟨ret_bool HN.out.symm, B1.bl⟩
end Go.Proofs.YtmkncmmegjfipaaGreatDoor

/- The walks of layer 1's Same, with slices.Equal and slices.EqualFunc. -/
namespace Go.Proofs.YtmkncmmegjfipaaGreatDoor
open Go.RowKit

def eqSB (p q : Strs) : Bool := (p.len == q.len) && decide (∀ i, i < p.len → ((p.s i).toList == (q.s i).toList) = true)
theorem eqS_no {p q : Strs} {k : Nat} (hk : k < p.len) (h : ((p.s k).toList == (q.s k).toList) = false) : eqSB p q = false := by
  unfold eqSB
  rw [Bool.and_eq_false_iff, decide_eq_false_iff_not]
  right
  intro hh
  rw [hh k hk] at h
  exact Bool.noConfusion h

/-- A []bool in memory. -/
structure Row where
  ao : Option Addr
  b : Nat
  o : Nat
  len : Nat
  cap : Nat
  f : Nat → Bool
structure Row.At (g : Row) (w : World) : Prop where
  nil : 0 < g.len → g.ao = some ⟨g.b, g.o, none⟩
  bound : g.len ≤ 9223372036854775807
  cell : ∀ i, i < g.len → w.cell? ⟨g.b, g.o + i, none⟩ = some (.bool (g.f i))
theorem Row.At.kept {g : Row} {w w' : World} (h : g.At w) (hb : Below w.heap.size w w') : g.At w' :=
  ⟨h.nil, h.bound, fun i hi => (hb.cell (p := ⟨g.b, g.o + i, none⟩) (cell_lt (h.cell i hi))).trans (h.cell i hi)⟩

def eqRB (p q : Row) : Bool := (p.len == q.len) && decide (∀ i, i < p.len → p.f i = q.f i)
theorem eqR_no {p q : Row} {k : Nat} (hk : k < p.len) (h : p.f k ≠ q.f k) : eqRB p q = false := by
  unfold eqRB
  rw [Bool.and_eq_false_iff, decide_eq_false_iff_not]
  right
  intro hh
  exact h (hh k hk)

end Go.Proofs.YtmkncmmegjfipaaGreatDoor

/- The walks of slices.EqualFunc and layer 1's Same. -/
namespace Go.Proofs.YtmkncmmegjfipaaGreatDoor
open Go.RowKit

def Grid.row (g : Grid) (r : Nat) : Row := ⟨g.A r, g.AB r, g.AO r, g.L r, g.C r, g.B r⟩
theorem Grid.row_at {g : Grid} {w : World} (h : g.At w) {r : Nat} (hr : r < g.len) : (g.row r).At w := ⟨h.adr r hr, h.lbound r hr, h.cell r hr⟩
def eqGB (p q : Grid) : Bool := (p.len == q.len) && decide (∀ r, r < p.len → eqRB (p.row r) (q.row r) = true)
theorem eqG_no {p q : Grid} {k : Nat} (hk : k < p.len) (h : eqRB (p.row k) (q.row k) = false) : eqGB p q = false := by
  unfold eqGB
  rw [Bool.and_eq_false_iff, decide_eq_false_iff_not]
  right
  intro hh
  rw [hh k hk] at h
  exact Bool.noConfusion h

def sameB (n : Strs) (g : Grid) (n2 : Strs) (g2 : Grid) : Bool := eqSB n n2 && eqGB g g2

/-- w1 is w, and behind it two variables of two cells each, and what came since. -/
structure Two (w w1 : World) (u v u2 v2 : Value) : Prop where
  bl : Below w.heap.size w w1
  lt : w.heap.size + 1 < w1.heap.size
  c0 : w1.cell? ⟨w.heap.size, 0, none⟩ = some u
  c1 : w1.cell? ⟨w.heap.size, 1, none⟩ = some v
  c2 : w1.cell? ⟨w.heap.size + 1, 0, none⟩ = some u2
  c3 : w1.cell? ⟨w.heap.size + 1, 1, none⟩ = some v2
theorem Two.start (w : World) (u v u2 v2 : Value) (t t2 : TypeId) : Two w ((w.alloc (.cells #[u, v] t)).alloc (.cells #[u2, v2] t2)) u v u2 v2 :=
  ⟨((Below.refl _ _).alloc (Nat.le_refl _) _).alloc (by simp) _, by simp, by simp, by simp, (cells2' w _ u2 v2 t2).1, (cells2' w _ u2 v2 t2).2⟩
theorem Two.step {w w1 w2 : World} {u v u2 v2 : Value} (h : Two w w1 u v u2 v2) (k : Below w1.heap.size w1 w2) : Two w w2 u v u2 v2 :=
  ⟨h.bl.trans (k.mono h.bl.size), Nat.lt_of_lt_of_le h.lt k.size, (k.cell (p := ⟨w.heap.size, 0, none⟩) (by have := h.lt; show w.heap.size < _; omega)).trans h.c0, (k.cell (p := ⟨w.heap.size, 1, none⟩) (by have := h.lt; show w.heap.size < _; omega)).trans h.c1,
    (k.cell (p := ⟨w.heap.size + 1, 0, none⟩) h.lt).trans h.c2, (k.cell (p := ⟨w.heap.size + 1, 1, none⟩) h.lt).trans h.c3⟩

/-- The worlds behind w in which both variables still hold what they held. -/
def Cls2 (w : World) (u v u2 v2 : Value) : Type := { w' : World // Two w w' u v u2 v2 }
def Cls2.w {w : World} {u v u2 v2 : Value} (x : Cls2 w u v u2 v2) : World := x.1
theorem Cls2.box {w : World} {u v u2 v2 : Value} (x : Cls2 w u v u2 v2) : Two w x.w u v u2 v2 := x.2
theorem wp_region_cls2 {P : Program} {w0 : World} {u v u2 v2 : Value} {id : Nat} {Q : Exit → Act → World → Prop} {a : Act} {w : World} {l : List Oper} (hb : Two w0 w u v u2 v2) (hm : P.follows .mixedOrders = true) (hB : Region.lexB .any l.toArray = true)
    (h : wpQuiet P l.toArray (fun w' => ∃ x : Cls2 w0 u v u2 v2, w' = x.w) (fun a' => ∀ w', (∃ x : Cls2 w0 u v u2 v2, w' = x.w) → Q .normal a' w') l a) : (Code.region id l.toArray true).wp P Q a w :=
  wp_region_quiet (C := fun w' => ∃ x : Cls2 w0 u v u2 v2, w' = x.w) hm hB ⟨⟨_, hb.step ((Below.refl _ _).drew)⟩, rfl⟩ (by simpa using h)
theorem Calls.cls2 {P : Program} {f : FuncId} {args : Array Value} {w0 : World} {u v u2 v2 r : Value} (x : Cls2 w0 u v u2 v2)
    (h : Calls P f args x.w fun e w' => e = .returned r ∧ Below x.w.heap.size x.w w') : Calls P f args x.w fun e w'' => e = .returned r ∧ ∃ y : Cls2 w0 u v u2 v2, w'' = y.w :=
  h.mono fun _ _ ⟨he, hb⟩ => ⟨he, ⟨_, x.box.step hb⟩, rfl⟩

/-- What Find answers. -/
def findN (n : Strs) (g : Grid) (s : ByteArray) : Int := if formedB n g = true then idxFrom n.s s n.len 0 else -1

end Go.Proofs.YtmkncmmegjfipaaGreatDoor

/- The walk of the reference's Same: it tells just what the program's Same tells. -/
namespace Go.Proofs.YtmkncmmegjfipaaGreatDoor
open Go.RowKit

theorem same_lens {n : Strs} {g : Grid} {n2 : Strs} {g2 : Grid} (h : n.len ≠ n2.len ∨ g.len ≠ g2.len) : sameB n g n2 g2 = false := by
  unfold sameB eqSB eqGB
  rcases h with h | h
  · rw [beq_eq_false_iff_ne.2 h]; rfl
  · rw [beq_eq_false_iff_ne.2 h]; simp

end Go.Proofs.YtmkncmmegjfipaaGreatDoor

/- The walk of layer 1's Below. -/
namespace Go.Proofs.YtmkncmmegjfipaaGreatDoor
open Go.RowKit

/-- A []int in memory. -/
structure Ints where
  ao : Option Addr
  b : Nat
  o : Nat
  len : Nat
  cap : Nat
  x : Nat → Int
structure Ints.At (g : Ints) (w : World) : Prop where
  nil : 0 < g.len → g.ao = some ⟨g.b, g.o, none⟩
  le8 : g.len ≤ 8
  cell : ∀ i, i < g.len → w.cell? ⟨g.b, g.o + i, none⟩ = some (.int .i64 (g.x i))
theorem Ints.At.kept {g : Ints} {w w' : World} (h : g.At w) (hb : Below w.heap.size w w') : g.At w' :=
  ⟨h.nil, h.le8, fun i hi => (hb.cell (p := ⟨g.b, g.o + i, none⟩) (cell_lt (h.cell i hi))).trans (h.cell i hi)⟩

theorem Tryz.infoInt : (Tryz.prog.info? 3).map (fun i => (i.zero, i.size, i.bytes)) = some (some (.int .i64 0), 1, 8) := by kernel_rfl

theorem own_ge {w : World} {base : Nat} {e : TypeId} {size : Nat} {v : Value} {n : Nat} {xs : List Value} (h : w.ownsRow base e size v n xs) {b : Nat} (hb : v.ownBlock = some b) : base ≤ b := by
  obtain ⟨_, ⟨rfl, _⟩ | ⟨gb, cap, cur, rfl, hg, _⟩⟩ := h
  · simp [Value.ownBlock] at hb
  · have : gb = b := by simpa [Value.ownBlock] using hb
    omega

def intCells (l : List Nat) : List Value := l.map fun (b : Nat) => Value.int .i64 (b : Int)
theorem ints_of_own {w : World} {base : Nat} {v : Value} {l : List Nat} (h : w.ownsRow base 3 1 v l.length (intCells l)) (h8 : l.length ≤ 8) :
    ∃ q : Ints, v = .slice q.ao q.len q.cap ∧ q.At w ∧ q.len = l.length ∧ ∀ i, q.x i = (l.getD i 0 : Nat) := by
  have h' := h
  obtain ⟨_, ⟨rfl, h0⟩ | ⟨gb, cap, cur, rfl, _, _, hc, _⟩⟩ := h'
  · refine ⟨⟨none, 0, 0, 0, 0, fun i => (l.getD i 0 : Nat)⟩, rfl, ⟨fun h => absurd h (Nat.lt_irrefl _), Nat.zero_le _, fun _ h => absurd h (Nat.not_lt_zero _)⟩, h0.symm, fun _ => rfl⟩
  · refine ⟨⟨some ⟨gb, 0, none⟩, gb, 0, l.length, cap, fun i => (l.getD i 0 : Nat)⟩, rfl, ⟨fun _ => rfl, h8, fun i hi => ?_⟩, rfl, fun _ => rfl⟩
    have hi' : i < l.length := hi
    show w.cell? ⟨gb, 0 + i, none⟩ = _
    rw [Nat.zero_add, h.cellAt i (by simpa using hi')]
    simp [intCells, hi', List.getD]

/-- The labels below a, among the first k. -/
def belTo (g : Grid) (a k : Nat) : List Nat := (List.range k).filter (fun b => g.B b a)
theorem belTo_len (g : Grid) (a k : Nat) : (belTo g a k).length ≤ k := by
  have := List.length_filter_le (fun b => g.B b a) (List.range k)
  simpa [belTo] using this
theorem belTo_yes (g : Grid) (a k : Nat) (h : g.B k a = true) : belTo g a (k + 1) = belTo g a k ++ [k] := by
  simp [belTo, List.range_succ, List.filter_append, h]
theorem belTo_no (g : Grid) (a k : Nat) (h : g.B k a = false) : belTo g a (k + 1) = belTo g a k := by
  simp [belTo, List.range_succ, List.filter_append, h]

/-- What Below answers. -/
def belL (n : Strs) (g : Grid) (a : Int) : List Nat := if (labB n a && formedB n g) = true then belTo g a.toNat n.len else []

end Go.Proofs.YtmkncmmegjfipaaGreatDoor
