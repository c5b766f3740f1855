/- The walks of layer 1's square, namesFormed (with slices.Contains, slices.Index) and Formed. -/
import Derived.Test.YtgbillimanpmnaaName
import Derived.Test.YtgbillimanpmnaaOrderOf
import Derived.Test.YtgbillimanpmnaaBounded
namespace Go.Proofs.Ytgbillimanpmnaa
open Go.RowKit

def squareB (g : Grid) (n : Nat) : Bool := (g.len == n) && decide (∀ r, r < g.len → g.L r = n)
/-- Index: the first place from i on, or -1. -/
def idxFrom (s : Nat → ByteArray) (v : ByteArray) : Nat → Nat → Int
  | 0, _ => -1
  | k + 1, i => if v.toList == (s i).toList then i else idxFrom s v k (i + 1)
def holdsB (s : Nat → ByteArray) (n : Nat) (v : ByteArray) : Bool := decide (∃ i, i < n ∧ (v.toList == (s i).toList) = true)
def namesB (g : Strs) : Bool := decide (0 < g.len ∧ g.len ≤ 8) && decide (∀ i, i < g.len → (nameB (g.s i) && !holdsB g.s i (g.s i)) = true)

set_option maxHeartbeats 400000 in
theorem square_any (g : Grid) (n : Nat) (w : World) (hg : g.At w) :
    Calls Try.prog 65 #[.slice g.ao g.len g.cap, .int .i64 n] w fun e w' => e = .returned (.bool (squareB g n)) ∧ w' = w := by
  have hb := hg.bound
  go_enter Try.func65, Try.ntmps65
  by_cases hl : g.len = n
  · have hbne : ((g.len : Int) != n) = false := by simp [hl]
    have HL : Hid (g.len = n) := hl
    clear hl
    go_wp2
    go_loop [13] (fun i => ∃ k : Nat, k ≤ g.len ∧ i = .int .i64 k ∧ ∀ r, r < k → g.L r = n) (fun i => g.len - (intOf i).toNat)
    case atStart => exact ⟨0, Nat.zero_le _, rfl, fun _ h => absurd h (Nat.not_lt_zero _)⟩
    case round =>
      obtain ⟨k, hk, rfl, hdone⟩ := hrel
      have HD : Hid (∀ r, r < k → g.L r = n) := hdone
      clear hdone
      by_cases hlt : k < g.len
      · have r1 := hg.row k hlt
        have r2 := hg.nil (by omega)
        have r3 := hg.lbound k hlt
        go_wp2
        · have t : ((g.L k : Int) != n) = true := by assumption
          go_ret
          refine ⟨ret_bool (Eq.symm ?_), rfl⟩
          unfold squareB
          rw [Bool.and_eq_false_iff]
          right
          rw [decide_eq_false_iff_not]
          intro hh
          rw [hh k hlt] at t
          simp at t
        · have t : ((g.L k : Int) != n) = false := by assumption
          go_round
          case rel =>
            refine ⟨k + 1, by omega, by go_num, fun r hr => ?_⟩
            rcases Nat.lt_succ_iff_lt_or_eq.1 hr with h | h
            · exact HD.out r h
            · subst h
              have t' : ((g.L r : Int)) = n := by simpa using t
              omega
          case measure => simp [intOf]; omega
      · have e : k = g.len := by omega
        have HE : Hid (k = g.len) := e
        clear e
        go_wp2
        go_ret
        refine ⟨ret_bool (Eq.symm ?_), rfl⟩
        unfold squareB
        rw [HL.out]
        simp
        intro r hr
        exact HD.out r (by have := HE.out; have := HL.out; omega)
  · have hbne : ((g.len : Int) != n) = true := by rw [bne_iff_ne]; omega
    go_wp2
    go_ret
    exact ⟨ret_bool (by simp [squareB, beq_eq_false_iff_ne.2 hl]), rfl⟩

set_option maxHeartbeats 400000 in
theorem index_any (g : Strs) (n cap : Nat) (v : ByteArray) (w : World) (hg : g.At w) (hn : n ≤ g.len) (ao : Option Addr) (hao : 0 < n → ao = some ⟨g.b, g.o, none⟩) :
    Calls Try.prog 87 #[.slice ao n cap, .string v] w fun e w' => e = .returned (.int .i64 (idxFrom g.s v n 0)) ∧ w' = w := by
  have hb := hg.bound
  go_enter Try.func87, Try.ntmps87
  go_wp2
  go_loop [8] (fun i => ∃ k : Nat, k ≤ n ∧ i = .int .i64 k ∧ idxFrom g.s v n 0 = idxFrom g.s v (n - k) k) (fun i => n - (intOf i).toNat)
  case atStart => exact ⟨0, Nat.zero_le _, rfl, rfl⟩
  case round =>
    obtain ⟨k, hk, rfl, hdone⟩ := hrel
    have HD : Hid (idxFrom g.s v n 0 = idxFrom g.s v (n - k) k) := hdone
    clear hdone
    by_cases hlt : k < n
    · have r1 := hg.cell k (by omega)
      have r2 := hao (by omega)
      go_wp2
      · have t : (v.toList == (g.s k).toList) = true := by assumption
        go_ret
        refine ⟨ret_int ?_, rfl⟩
        rw [HD.out]
        obtain ⟨m, hm⟩ : ∃ m, n - k = m + 1 := ⟨n - k - 1, by omega⟩
        rw [hm, idxFrom, t]; rfl
      · have t : (v.toList == (g.s k).toList) = false := by assumption
        go_round
        case rel =>
          refine ⟨k + 1, by omega, by go_num, ?_⟩
          rw [HD.out]
          obtain ⟨m, hm⟩ : ∃ m, n - k = m + 1 := ⟨n - k - 1, by omega⟩
          rw [hm, idxFrom, t, show n - (k + 1) = m by omega]; rfl
        case measure => simp [intOf]; omega
    · have e : n - k = 0 := by omega
      have HE : Hid (n - k = 0) := e
      clear e
      go_wp2
      go_ret
      exact ⟨ret_int (by rw [HD.out, HE.out]; rfl), rfl⟩

theorem idx_nonneg (s : Nat → ByteArray) (v : ByteArray) : ∀ (k i : Nat), 0 ≤ idxFrom s v k i ↔ ∃ j, i ≤ j ∧ j < i + k ∧ (v.toList == (s j).toList) = true
  | 0, i => by
    simp only [idxFrom]
    constructor
    · intro h; omega
    · rintro ⟨j, h1, h2, _⟩; omega
  | k + 1, i => by
    simp only [idxFrom]
    by_cases h : (v.toList == (s i).toList) = true
    · rw [if_pos h]
      constructor
      · intro _; exact ⟨i, by omega, by omega, h⟩
      · intro _; omega
    · rw [if_neg h, idx_nonneg s v k (i + 1)]
      constructor
      · rintro ⟨j, h1, h2, h3⟩; exact ⟨j, by omega, by omega, h3⟩
      · rintro ⟨j, h1, h2, h3⟩
        by_cases e : j = i
        · subst e; exact absurd h3 h
        · exact ⟨j, by omega, by omega, h3⟩

theorem holds_idx (s : Nat → ByteArray) (n : Nat) (v : ByteArray) : decide (0 ≤ idxFrom s v n 0) = holdsB s n v := by
  unfold holdsB
  rw [decide_eq_decide, idx_nonneg]
  constructor
  · rintro ⟨j, _, h2, h3⟩; exact ⟨j, by omega, h3⟩
  · rintro ⟨j, h2, h3⟩; exact ⟨j, by omega, by omega, h3⟩

set_option maxHeartbeats 400000 in
theorem contains_any (g : Strs) (n cap : Nat) (v : ByteArray) (w : World) (hg : g.At w) (hn : n ≤ g.len) (ao : Option Addr) (hao : 0 < n → ao = some ⟨g.b, g.o, none⟩) :
    Calls Try.prog 81 #[.slice ao n cap, .string v] w fun e w' => e = .returned (.bool (holdsB g.s n v)) ∧ w' = w := by
  have H : Hid (decide (0 ≤ idxFrom g.s v n 0) = holdsB g.s n v) := holds_idx g.s n v
  go_enter Try.func81, Try.ntmps81
  go_wp2_with (go_at_call 87; refine (index_any g n cap v _ hg hn ao hao).mono ?_; rintro e w' ⟨rfl, rfl⟩)
  go_ret
  exact ⟨ret_bool H.out, rfl⟩

set_option maxHeartbeats 1000000 in
theorem namesFormed_any (g : Strs) (w : World) (hg : g.At w) :
    Calls Try.prog 64 #[.slice g.ao g.len g.cap] w fun e w' => e = .returned (.bool (namesB g)) ∧ Below w.heap.size w w' := by
  have hb := hg.bound
  by_cases h0 : g.len = 0
  · have e1 : ((g.len : Int) == 0) = true := by simp [h0]
    have HF : Hid (namesB g = false) := by show namesB g = false; simp [namesB, h0]
    clear h0
    go_enter Try.func64, Try.ntmps64
    go_wp2
    go_ret
    exact ⟨ret_bool HF.out.symm, Below.refl _ _⟩
  have e1 : ((g.len : Int) == 0) = false := beq_eq_false_iff_ne.2 (by omega)
  by_cases h8 : g.len ≤ 8
  · rw [hg.nil (by omega)]
    go_enter Try.func64, Try.ntmps64
    go_wp2
    go_loopw [15] (fun i wr => ∃ k : Nat, k ≤ g.len ∧ i = .int .i64 k ∧ (∀ i, i < k → (nameB (g.s i) && !holdsB g.s i (g.s i)) = true) ∧ Below w.heap.size w wr) (fun i _ => g.len - (intOf i).toNat)
    case atStart => exact ⟨0, Nat.zero_le _, rfl, fun _ h => absurd h (Nat.not_lt_zero _), Below.refl _ _⟩
    case round =>
      obtain ⟨k, hk, rfl, hdone, hbl⟩ := hrel
      have HD : Hid (∀ i, i < k → (nameB (g.s i) && !holdsB g.s i (g.s i)) = true) := hdone
      clear hdone
      have hg1 := hg.kept hbl
      by_cases hlt : k < g.len
      · have r1 := hg1.cell k hlt
        go_wp2_with fail
        refine (name_any _ _).mono ?_
        rintro e w1 ⟨rfl, hb1⟩
        have hbl1 : Below w.heap.size w w1 := hbl.trans (hb1.mono hbl.size)
        have hg2 := hg.kept hbl1
        clear hb1 r1
        cases hnm : nameB (g.s k)
        · go_wp2
          go_ret
          refine ⟨ret_bool (Eq.symm ?_), hbl1⟩
          unfold namesB
          rw [Bool.and_eq_false_iff]
          right
          rw [decide_eq_false_iff_not]
          intro hh
          have := hh k hlt
          simp [hnm] at this
        · have hkc : k ≤ g.cap := by have := hg.lc; omega
          go_wp2_with fail
          refine (contains_any g k g.cap (g.s k) _ hg2 (by omega) _ (fun _ => rfl)).mono ?_
          rintro e w2 ⟨rfl, rfl⟩
          cases hh : holdsB g.s k (g.s k)
          · go_wp2
            go_roundw
            case rel =>
              refine ⟨k + 1, by omega, by go_num, fun i hi => ?_, hbl1⟩
              rcases Nat.lt_succ_iff_lt_or_eq.1 hi with h | h
              · exact HD.out i h
              · subst h; rw [hnm, hh]; rfl
            case measure => simp [intOf]; omega
          · go_wp2
            go_ret
            refine ⟨ret_bool (Eq.symm ?_), hbl1⟩
            unfold namesB
            rw [Bool.and_eq_false_iff]
            right
            rw [decide_eq_false_iff_not]
            intro hq
            have := hq k hlt
            simp [hnm, hh] at this
      · have e : k = g.len := by omega
        have HE : Hid (k = g.len) := e
        clear e
        go_wp2
        go_ret
        refine ⟨ret_bool (Eq.symm ?_), hbl⟩
        unfold namesB
        rw [Bool.and_eq_true, decide_eq_true_eq, decide_eq_true_eq]
        exact ⟨⟨by omega, h8⟩, fun i hi => HD.out i (by have := HE.out; omega)⟩
  · have e2 : decide (8 < (g.len : Int)) = true := by simp; omega
    go_enter Try.func64, Try.ntmps64
    go_wp2
    go_ret
    exact ⟨ret_bool (by simp [namesB, h8]), Below.refl _ _⟩
end Go.Proofs.Ytgbillimanpmnaa
