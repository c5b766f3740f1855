/- The walk of the reference's shaped: it tells just what the program's two questions tell. -/
import Derived.Test.YtgbillimanpmnaaRefName
import Derived.Test.YtgbillimanpmnaaRefAbove
import Derived.Test.YtgbillimanpmnaaCls
namespace Go.Proofs.Ytgbillimanpmnaa
open Go.RowKit

def shpRow (n : Strs) (g : Grid) (i : Nat) : Bool := (nameB (n.s i) && (g.L i == n.len)) && !holdsB n.s i (n.s i)
theorem shp_no {n : Strs} {g : Grid} {k : Nat} (hk : k < n.len) (hg : g.len = n.len) (h : shpRow n g k = false) : (namesB n && squareB g n.len) = false := by
  cases h1 : (namesB n && squareB g n.len)
  · rfl
  · exfalso
    rw [Bool.and_eq_true] at h1
    have h2 := (squareB_len h1.2).2 k (by omega)
    have h3 := h1.1
    unfold namesB at h3
    rw [Bool.and_eq_true, decide_eq_true_eq, decide_eq_true_eq] at h3
    have h4 := h3.2 k hk
    rw [Bool.and_eq_true] at h4
    unfold shpRow at h
    rw [h4.1, h4.2, h2] at h
    simp at h
theorem shp_yes {n : Strs} {g : Grid} (h0 : 0 < n.len) (h8 : n.len ≤ 8) (hg : g.len = n.len) (h : ∀ k, k < n.len → shpRow n g k = true) : (namesB n && squareB g n.len) = true := by
  rw [Bool.and_eq_true]
  constructor
  · unfold namesB
    rw [Bool.and_eq_true, decide_eq_true_eq, decide_eq_true_eq]
    refine ⟨⟨h0, h8⟩, fun i hi => ?_⟩
    have := h i hi
    unfold shpRow at this
    rw [Bool.and_eq_true, Bool.and_eq_true] at this
    rw [this.1.1, this.2]; rfl
  · unfold squareB
    rw [Bool.and_eq_true, decide_eq_true_eq, beq_iff_eq]
    refine ⟨hg, fun r hr => ?_⟩
    have := h r (by omega)
    unfold shpRow at this
    rw [Bool.and_eq_true, Bool.and_eq_true, beq_iff_eq] at this
    exact this.1.2

theorem holds_no {s : Nat → ByteArray} {k : Nat} (h : ∀ x, x < k → ((s x).toList == (s k).toList) = false) : holdsB s k (s k) = false := by
  unfold holdsB
  rw [decide_eq_false_iff_not]
  rintro ⟨i, hi, h1⟩
  have := h i hi
  rw [beq_eq_false_iff_ne] at this
  exact this (by simpa using (beq_iff_eq.1 h1).symm)
theorem holds_yes {s : Nat → ByteArray} {k x : Nat} (hx : x < k) (h : ((s x).toList == (s k).toList) = true) : holdsB s k (s k) = true := by
  unfold holdsB
  rw [decide_eq_true_eq]
  exact ⟨x, hx, by rw [beq_iff_eq] at h ⊢; exact h.symm⟩

set_option maxRecDepth 100000 in
set_option maxHeartbeats 2000000 in
theorem shaped_any (n : Strs) (g : Grid) (w : World) (hn : n.At w) (hg : g.At w) :
    Calls Try.prog 51 #[.agg #[.slice n.ao n.len n.cap, .slice g.ao g.len g.cap]] w fun e w' => e = .returned (.bool (namesB n && squareB g n.len)) ∧ Below w.heap.size w w' := by
  have hnb := hn.bound
  have hgb := hg.bound
  by_cases h0 : n.len < 1
  · have B0 := Box2.start w (.slice n.ao n.len n.cap) (.slice g.ao g.len g.cap) 25
    have HF : Hid ((namesB n && squareB g n.len) = false) := by show (namesB n && squareB g n.len) = false; simp [namesB, show ¬ 0 < n.len by omega]
    go_enter Try.func51, Try.ntmps51
    go_wp2
    go_ret
    exact ⟨ret_bool HF.out.symm, B0.bl⟩
  by_cases h8 : 8 < n.len
  · have B0 := Box2.start w (.slice n.ao n.len n.cap) (.slice g.ao g.len g.cap) 25
    have HF : Hid ((namesB n && squareB g n.len) = false) := by show (namesB n && squareB g n.len) = false; simp [namesB, show ¬ n.len ≤ 8 by omega]
    go_enter Try.func51, Try.ntmps51
    go_wp2
    go_ret
    exact ⟨ret_bool HF.out.symm, B0.bl⟩
  by_cases hl : g.len = n.len
  · have bl : ((n.len : Int) != n.len) = false := by simp
    rw [hg.nil (by omega), hn.nil (by omega), hl]
    have B0 := Box2.start w (.slice (some ⟨n.b, n.o, none⟩) n.len n.cap) (.slice (some ⟨g.gb, g.go, none⟩) n.len g.cap) 25
    have HL : Hid (g.len = n.len) := hl
    clear hl
    go_enter Try.func51, Try.ntmps51
    go_wp2
    go_loopw [4] (fun i wr => ∃ k : Nat, k ≤ n.len ∧ i = .int .i64 k ∧ (∀ x, x < k → shpRow n g x = true) ∧ Box2 w wr (.slice (some ⟨n.b, n.o, none⟩) n.len n.cap) (.slice (some ⟨g.gb, g.go, none⟩) n.len g.cap)) (fun i _ => n.len - (intOf i).toNat)
    case atStart => exact ⟨0, Nat.zero_le _, rfl, fun _ h => absurd h (Nat.not_lt_zero _), B0⟩
    case round =>
      obtain ⟨k, hk, rfl, hdone, hB⟩ := hrel
      clear B0
      have HD : Hid (∀ x, x < k → shpRow n g x = true) := hdone
      clear hdone
      have c0 := hB.c0
      have c1 := hB.c1
      by_cases hlt : k < n.len
      · have r1 := (hn.kept hB.bl).cell k hlt
        have ik : (k : Int) < n.len := by omega
        have HNO : Hid (shpRow n g k = false → (namesB n && squareB g n.len) = false) := fun h => shp_no hlt HL.out h
        go_wp2_with fail
        refine (rname_any (n.s k) _ (hn.sz k hlt)).mono ?_
        rintro e w1 ⟨rfl, rfl⟩
        cases hnm : nameB (n.s k)
        · go_wp2
          go_ret
          exact ⟨ret_bool (HNO.out (by simp [shpRow, hnm])).symm, hB.bl⟩
        · have r2 := (hg.kept hB.bl).row k (by have := HL.out; omega)
          have lb := hg.lbound k (by have := HL.out; omega)
          by_cases hL : g.L k = n.len
          · have bL : ((g.L k : Int) != n.len) = false := by simp [hL]
            have HLk : Hid (g.L k = n.len) := hL
            clear hL
            go_wp2
            clear c0 c1 r1 r2 bL
            go_loopw [5] (fun i wr => ∃ j : Nat, j ≤ k ∧ i = .int .i64 j ∧ (∀ x, x < j → ((n.s x).toList == (n.s k).toList) = false) ∧ Box2 w wr (.slice (some ⟨n.b, n.o, none⟩) n.len n.cap) (.slice (some ⟨g.gb, g.go, none⟩) n.len g.cap)) (fun i _ => k - (intOf i).toNat)
            case atStart => exact ⟨0, Nat.zero_le _, rfl, fun _ h => absurd h (Nat.not_lt_zero _), hB⟩
            case round =>
              obtain ⟨j, hj, rfl, hdone2, hB2⟩ := hrel
              clear hB
              have HD2 : Hid (∀ x, x < j → ((n.s x).toList == (n.s k).toList) = false) := hdone2
              clear hdone2
              by_cases hjk : j < k
              · have ne : Nonempty (Cls w (.slice (some ⟨n.b, n.o, none⟩) n.len n.cap) (.slice (some ⟨g.gb, g.go, none⟩) n.len g.cap)) := ⟨⟨_, hB2⟩⟩
                have d0 := fun x : Cls w (.slice (some ⟨n.b, n.o, none⟩) n.len n.cap) (.slice (some ⟨g.gb, g.go, none⟩) n.len g.cap) => x.box.c0
                have d1 := fun x : Cls w (.slice (some ⟨n.b, n.o, none⟩) n.len n.cap) (.slice (some ⟨g.gb, g.go, none⟩) n.len g.cap) => x.box.c1
                have d2 := fun x : Cls w (.slice (some ⟨n.b, n.o, none⟩) n.len n.cap) (.slice (some ⟨g.gb, g.go, none⟩) n.len g.cap) => (hn.kept x.box.bl).cell j (by omega)
                have d3 := fun x : Cls w (.slice (some ⟨n.b, n.o, none⟩) n.len n.cap) (.slice (some ⟨g.gb, g.go, none⟩) n.len g.cap) => (hn.kept x.box.bl).cell k hlt
                have ij : (j : Int) < n.len := by omega
                cases hv : ((n.s j).toList == (n.s k).toList)
                · go_wp2
                  refine wp_region_cls hB2 (by kernel_rfl) (by kernel_rfl) ?_
                  repeat (first | go_big_quiet_step (fail))
                  refine wpQuiet_nil ?_
                  rintro w4 ⟨x4, rfl⟩
                  have B4 := x4.box
                  generalize x4.w = w4 at B4 ⊢
                  clear x4 d0 d1 d2 d3
                  go_wp2
                  go_roundw
                  case rel =>
                    refine ⟨j + 1, by omega, by go_num, fun x hx => ?_, B4⟩
                    rcases Nat.lt_succ_iff_lt_or_eq.1 hx with h | h
                    · exact HD2.out x h
                    · subst h; exact hv
                  case measure => simp [intOf]; omega
                · have HY := holds_yes hjk hv
                  have HH : Hid (shpRow n g k = false) := by show shpRow n g k = false; simp [shpRow, HY]
                  clear HY
                  go_wp2
                  refine wp_region_cls hB2 (by kernel_rfl) (by kernel_rfl) ?_
                  repeat (first | go_big_quiet_step (fail))
                  refine wpQuiet_nil ?_
                  rintro w4 ⟨x4, rfl⟩
                  have B4 := x4.box
                  generalize x4.w = w4 at B4 ⊢
                  clear x4 d0 d1 d2 d3
                  go_wp2
                  go_ret
                  exact ⟨ret_bool (HNO.out HH.out).symm, B4.bl⟩
              · have e : j = k := by omega
                subst e
                have HH : Hid (shpRow n g j = true) := by
                  show shpRow n g j = true
                  unfold shpRow
                  rw [hnm, holds_no HD2.out, HLk.out]; simp
                go_wp2
                go_roundw
                case rel =>
                  refine ⟨j + 1, by omega, by go_num, fun x hx => ?_, hB2⟩
                  rcases Nat.lt_succ_iff_lt_or_eq.1 hx with h | h
                  · exact HD.out x h
                  · subst h; exact HH.out
                case measure => simp [intOf]; omega
          · have bL : ((g.L k : Int) != n.len) = true := by rw [bne_iff_ne]; omega
            go_wp2
            go_ret
            exact ⟨ret_bool (HNO.out (by simp [shpRow, beq_eq_false_iff_ne.2 hL])).symm, hB.bl⟩
      · have HY : Hid ((namesB n && squareB g n.len) = true) := shp_yes (by omega) (by omega) HL.out (fun x hx => HD.out x (by omega))
        go_wp2
        go_ret
        exact ⟨ret_bool HY.out.symm, hB.bl⟩
  · have B0 := Box2.start w (.slice n.ao n.len n.cap) (.slice g.ao g.len g.cap) 25
    have bl : ((g.len : Int) != n.len) = true := by rw [bne_iff_ne]; omega
    have HF : Hid ((namesB n && squareB g n.len) = false) := by show (namesB n && squareB g n.len) = false; simp [squareB, beq_eq_false_iff_ne.2 hl]
    go_enter Try.func51, Try.ntmps51
    go_wp2
    go_ret
    exact ⟨ret_bool HF.out.symm, B0.bl⟩
end Go.Proofs.Ytgbillimanpmnaa
