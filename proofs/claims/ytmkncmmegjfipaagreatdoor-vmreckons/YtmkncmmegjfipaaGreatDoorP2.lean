/- The walk of layer 1's bounded. -/
import Derived.Test.YtmkncmmegjfipaaGreatDoorP1
import Derived.Deep.OwnRows
import Derived.Deep.RegionWith
namespace Go.Proofs.YtmkncmmegjfipaaGreatDoor
open Go.RowKit

set_option maxHeartbeats 1000000 in
theorem bounded_any (B n : Nat) (U D : Nat → Nat) (w : World) (hn : n ≤ 8) (ho : OrdAt w B n U D) (hU : ∀ i, i < 8 → U i < 256) (hD : ∀ i, i < 8 → D i < 256) :
    Calls Tryz.prog 96 #[.pointer (some ⟨B, 0, none⟩)] w fun e w' => e = .returned (.bool (bddB n U D)) ∧ Below w.heap.size w w' := by
  have c0 := ho.size
  go_enter Tryz.func96, Tryz.ntmps96
  go_wp2
  go_loopw [9] (fun i wr => ∃ k : Nat, k ≤ n ∧ i = .int .i64 k ∧ (∀ a, a < k → ∀ b, b < a → okPair n U D a b = true) ∧ Below w.heap.size w wr) (fun i _ => n - (intOf i).toNat)
  case atStart => exact ⟨0, Nat.zero_le _, rfl, fun _ h => absurd h (Nat.not_lt_zero _), Below.refl _ _⟩
  case round =>
    obtain ⟨k, hk, rfl, hdone, hbl⟩ := hrel
    have HD : Hid (∀ a, a < k → ∀ b, b < a → okPair n U D a b = true) := hdone
    clear hdone c0
    by_cases hlt : k < n
    · go_wp2
      go_loopw [13] (fun i w2 => ∃ j : Nat, j ≤ k ∧ i = .int .i64 j ∧ (∀ b, b < j → okPair n U D k b = true) ∧ Below w.heap.size w w2) (fun i _ => k - (intOf i).toNat)
      case atStart => exact ⟨0, Nat.zero_le _, rfl, fun _ h => absurd h (Nat.not_lt_zero _), hbl⟩
      case round =>
        obtain ⟨j, hj, rfl, hdone2, hbl2⟩ := hrel
        have HD2 : Hid (∀ b, b < j → okPair n U D k b = true) := hdone2
        clear hdone2
        have ho2 := ho.kept hbl2
        by_cases hjk : j < k
        · have A1 : OrdAt (wr.alloc (.cells #[.int .i64 k, .int .i64 j] 3)) B n U D := ho2.kept ((Below.refl _ _).alloc (Nat.le_refl _) _)
          have C1 := cells2 wr (.int .i64 k) (.int .i64 j) 3
          cases h1 : (near2 n U k j == -1)
          · go_wp2_with fail
            refine (join2_any B n U D _ k j _ hn A1 hU (by omega) (by omega) C1.1 C1.2).mono ?_
            rintro e w3 ⟨rfl, hdr3⟩
            have hbl3 : Below w.heap.size w w3 := (hbl2.alloc hbl2.size _).trans (hdr3.below _)
            have ho3 := ho.kept hbl3
            clear hdr3 A1 C1
            have A2 : OrdAt (w3.alloc (.cells #[.int .i64 k, .int .i64 j] 3)) B n U D := ho3.kept ((Below.refl _ _).alloc (Nat.le_refl _) _)
            have C2 := cells2 w3 (.int .i64 k) (.int .i64 j) 3
            go_wp2_with fail
            refine (meet2_any B n U D _ k j _ hn A2 hD (by omega) (by omega) C2.1 C2.2).mono ?_
            rintro e w4 ⟨rfl, hdr4⟩
            have hbl4 : Below w.heap.size w w4 := (hbl3.alloc hbl3.size _).trans (hdr4.below _)
            clear hdr4 A2 C2
            cases h2 : (near2 n D k j == -1)
            · go_wp2
              go_roundw
              case rel =>
                refine ⟨j + 1, by omega, by go_num, fun b hb => ?_, hbl4⟩
                rcases Nat.lt_succ_iff_lt_or_eq.1 hb with h | h
                · exact HD2.out b h
                · subst h; simp [okPair, bne, h1, h2]
              case measure => simp [intOf]; omega
            · go_wp2
              go_ret
              exact ⟨ret_bool (bdd_no hlt hjk (by simp [okPair, bne, h2])).symm, hbl4⟩
          · go_wp2_with fail
            refine (join2_any B n U D _ k j _ hn A1 hU (by omega) (by omega) C1.1 C1.2).mono ?_
            rintro e w3 ⟨rfl, hdr3⟩
            have hbl3 : Below w.heap.size w w3 := (hbl2.alloc hbl2.size _).trans (hdr3.below _)
            clear hdr3 A1 C1
            go_wp2
            go_ret
            exact ⟨ret_bool (bdd_no hlt hjk (by simp [okPair, bne, h1])).symm, hbl3⟩
        · have e : j = k := by omega
          subst e
          go_wp2
          go_roundw
          case rel =>
            refine ⟨j + 1, by omega, by go_num, fun a ha b hb => ?_, hbl2⟩
            rcases Nat.lt_succ_iff_lt_or_eq.1 ha with h | h
            · exact HD.out a h b hb
            · subst h; exact HD2.out b hb
          case measure => simp [intOf]; omega
    · have e : k = n := by omega
      subst e
      go_wp2
      go_ret
      exact ⟨ret_bool (bdd_yes HD.out).symm, hbl⟩
end Go.Proofs.YtmkncmmegjfipaaGreatDoor

/- The walks of layer 1's square, namesFormed (with slices.Contains, slices.Index) and Formed. -/
namespace Go.Proofs.YtmkncmmegjfipaaGreatDoor
open Go.RowKit

def squareB (g : Grid) (n : Nat) : Bool := (g.len == n) && decide (∀ r, r < g.len → g.L r = n)
/-- Index: the first place from i on, or -1. -/
def idxFrom (s : Nat → ByteArray) (v : ByteArray) : Nat → Nat → Int
  | 0, _ => -1
  | k + 1, i => if v.toList == (s i).toList then i else idxFrom s v k (i + 1)
def holdsB (s : Nat → ByteArray) (n : Nat) (v : ByteArray) : Bool := decide (∃ i, i < n ∧ (v.toList == (s i).toList) = true)
def namesB (g : Strs) : Bool := decide (0 < g.len ∧ g.len ≤ 8) && decide (∀ i, i < g.len → (nameB (g.s i) && !holdsB g.s i (g.s i)) = true)

set_option maxHeartbeats 400000 in
theorem square_any (g : Grid) (n : Nat) (w : World) (hg : g.At w) :
    Calls Tryz.prog 93 #[.slice g.ao g.len g.cap, .int .i64 n] w fun e w' => e = .returned (.bool (squareB g n)) ∧ w' = w := by
  have hb := hg.bound
  go_enter Tryz.func93, Tryz.ntmps93
  by_cases hl : g.len = n
  · have hbne : ((g.len : Int) != n) = false := by simp [hl]
    have HL : Hid (g.len = n) := hl
    clear hl
    go_wp2
    go_loop [13] (fun i => ∃ k : Nat, k ≤ g.len ∧ i = .int .i64 k ∧ ∀ r, r < k → g.L r = n) (fun i => g.len - (intOf i).toNat)
    case atStart => exact ⟨0, Nat.zero_le _, rfl, fun _ h => absurd h (Nat.not_lt_zero _)⟩
    case round =>
      obtain ⟨k, hk, rfl, hdone⟩ := hrel
      have HD : Hid (∀ r, r < k → g.L r = n) := hdone
      clear hdone
      by_cases hlt : k < g.len
      · have r1 := hg.row k hlt
        have r2 := hg.nil (by omega)
        have r3 := hg.lbound k hlt
        go_wp2
        · have t : ((g.L k : Int) != n) = true := by assumption
          go_ret
          refine ⟨ret_bool (Eq.symm ?_), rfl⟩
          unfold squareB
          rw [Bool.and_eq_false_iff]
          right
          rw [decide_eq_false_iff_not]
          intro hh
          rw [hh k hlt] at t
          simp at t
        · have t : ((g.L k : Int) != n) = false := by assumption
          go_round
          case rel =>
            refine ⟨k + 1, by omega, by go_num, fun r hr => ?_⟩
            rcases Nat.lt_succ_iff_lt_or_eq.1 hr with h | h
            · exact HD.out r h
            · subst h
              have t' : ((g.L r : Int)) = n := by simpa using t
              omega
          case measure => simp [intOf]; omega
      · have e : k = g.len := by omega
        have HE : Hid (k = g.len) := e
        clear e
        go_wp2
        go_ret
        refine ⟨ret_bool (Eq.symm ?_), rfl⟩
        unfold squareB
        rw [HL.out]
        simp
        intro r hr
        exact HD.out r (by have := HE.out; have := HL.out; omega)
  · have hbne : ((g.len : Int) != n) = true := by rw [bne_iff_ne]; omega
    go_wp2
    go_ret
    exact ⟨ret_bool (by simp [squareB, beq_eq_false_iff_ne.2 hl]), rfl⟩

set_option maxHeartbeats 400000 in
theorem index_any (g : Strs) (n cap : Nat) (v : ByteArray) (w : World) (hg : g.At w) (hn : n ≤ g.len) (ao : Option Addr) (hao : 0 < n → ao = some ⟨g.b, g.o, none⟩) :
    Calls Tryz.prog 165 #[.slice ao n cap, .string v] w fun e w' => e = .returned (.int .i64 (idxFrom g.s v n 0)) ∧ w' = w := by
  have hb := hg.bound
  go_enter Tryz.func165, Tryz.ntmps165
  go_wp2
  go_loop [8] (fun i => ∃ k : Nat, k ≤ n ∧ i = .int .i64 k ∧ idxFrom g.s v n 0 = idxFrom g.s v (n - k) k) (fun i => n - (intOf i).toNat)
  case atStart => exact ⟨0, Nat.zero_le _, rfl, rfl⟩
  case round =>
    obtain ⟨k, hk, rfl, hdone⟩ := hrel
    have HD : Hid (idxFrom g.s v n 0 = idxFrom g.s v (n - k) k) := hdone
    clear hdone
    by_cases hlt : k < n
    · have r1 := hg.cell k (by omega)
      have r2 := hao (by omega)
      go_wp2
      · have t : (v.toList == (g.s k).toList) = true := by assumption
        go_ret
        refine ⟨ret_int ?_, rfl⟩
        rw [HD.out]
        obtain ⟨m, hm⟩ : ∃ m, n - k = m + 1 := ⟨n - k - 1, by omega⟩
        rw [hm, idxFrom, t]; rfl
      · have t : (v.toList == (g.s k).toList) = false := by assumption
        go_round
        case rel =>
          refine ⟨k + 1, by omega, by go_num, ?_⟩
          rw [HD.out]
          obtain ⟨m, hm⟩ : ∃ m, n - k = m + 1 := ⟨n - k - 1, by omega⟩
          rw [hm, idxFrom, t, show n - (k + 1) = m by omega]; rfl
        case measure => simp [intOf]; omega
    · have e : n - k = 0 := by omega
      have HE : Hid (n - k = 0) := e
      clear e
      go_wp2
      go_ret
      exact ⟨ret_int (by rw [HD.out, HE.out]; rfl), rfl⟩

theorem idx_nonneg (s : Nat → ByteArray) (v : ByteArray) : ∀ (k i : Nat), 0 ≤ idxFrom s v k i ↔ ∃ j, i ≤ j ∧ j < i + k ∧ (v.toList == (s j).toList) = true
  | 0, i => by
    simp only [idxFrom]
    constructor
    · intro h; omega
    · rintro ⟨j, h1, h2, _⟩; omega
  | k + 1, i => by
    simp only [idxFrom]
    by_cases h : (v.toList == (s i).toList) = true
    · rw [if_pos h]
      constructor
      · intro _; exact ⟨i, by omega, by omega, h⟩
      · intro _; omega
    · rw [if_neg h, idx_nonneg s v k (i + 1)]
      constructor
      · rintro ⟨j, h1, h2, h3⟩; exact ⟨j, by omega, by omega, h3⟩
      · rintro ⟨j, h1, h2, h3⟩
        by_cases e : j = i
        · subst e; exact absurd h3 h
        · exact ⟨j, by omega, by omega, h3⟩

theorem holds_idx (s : Nat → ByteArray) (n : Nat) (v : ByteArray) : decide (0 ≤ idxFrom s v n 0) = holdsB s n v := by
  unfold holdsB
  rw [decide_eq_decide, idx_nonneg]
  constructor
  · rintro ⟨j, _, h2, h3⟩; exact ⟨j, by omega, h3⟩
  · rintro ⟨j, h2, h3⟩; exact ⟨j, by omega, by omega, h3⟩

set_option maxHeartbeats 400000 in
theorem contains_any (g : Strs) (n cap : Nat) (v : ByteArray) (w : World) (hg : g.At w) (hn : n ≤ g.len) (ao : Option Addr) (hao : 0 < n → ao = some ⟨g.b, g.o, none⟩) :
    Calls Tryz.prog 132 #[.slice ao n cap, .string v] w fun e w' => e = .returned (.bool (holdsB g.s n v)) ∧ w' = w := by
  have H : Hid (decide (0 ≤ idxFrom g.s v n 0) = holdsB g.s n v) := holds_idx g.s n v
  go_enter Tryz.func132, Tryz.ntmps132
  go_wp2_with (go_at_call 165; refine (index_any g n cap v _ hg hn ao hao).mono ?_; rintro e w' ⟨rfl, rfl⟩)
  go_ret
  exact ⟨ret_bool H.out, rfl⟩

set_option maxHeartbeats 1000000 in
theorem namesFormed_any (g : Strs) (w : World) (hg : g.At w) :
    Calls Tryz.prog 92 #[.slice g.ao g.len g.cap] w fun e w' => e = .returned (.bool (namesB g)) ∧ Below w.heap.size w w' := by
  have hb := hg.bound
  by_cases h0 : g.len = 0
  · have e1 : ((g.len : Int) == 0) = true := by simp [h0]
    have HF : Hid (namesB g = false) := by show namesB g = false; simp [namesB, h0]
    clear h0
    go_enter Tryz.func92, Tryz.ntmps92
    go_wp2
    go_ret
    exact ⟨ret_bool HF.out.symm, Below.refl _ _⟩
  have e1 : ((g.len : Int) == 0) = false := beq_eq_false_iff_ne.2 (by omega)
  by_cases h8 : g.len ≤ 8
  · rw [hg.nil (by omega)]
    go_enter Tryz.func92, Tryz.ntmps92
    go_wp2
    go_loopw [15] (fun i wr => ∃ k : Nat, k ≤ g.len ∧ i = .int .i64 k ∧ (∀ i, i < k → (nameB (g.s i) && !holdsB g.s i (g.s i)) = true) ∧ Below w.heap.size w wr) (fun i _ => g.len - (intOf i).toNat)
    case atStart => exact ⟨0, Nat.zero_le _, rfl, fun _ h => absurd h (Nat.not_lt_zero _), Below.refl _ _⟩
    case round =>
      obtain ⟨k, hk, rfl, hdone, hbl⟩ := hrel
      have HD : Hid (∀ i, i < k → (nameB (g.s i) && !holdsB g.s i (g.s i)) = true) := hdone
      clear hdone
      have hg1 := hg.kept hbl
      by_cases hlt : k < g.len
      · have r1 := hg1.cell k hlt
        go_wp2_with fail
        refine (name_any _ _).mono ?_
        rintro e w1 ⟨rfl, hb1⟩
        have hbl1 : Below w.heap.size w w1 := hbl.trans (hb1.mono hbl.size)
        have hg2 := hg.kept hbl1
        clear hb1 r1
        cases hnm : nameB (g.s k)
        · go_wp2
          go_ret
          refine ⟨ret_bool (Eq.symm ?_), hbl1⟩
          unfold namesB
          rw [Bool.and_eq_false_iff]
          right
          rw [decide_eq_false_iff_not]
          intro hh
          have := hh k hlt
          simp [hnm] at this
        · have hkc : k ≤ g.cap := by have := hg.lc; omega
          go_wp2_with fail
          refine (contains_any g k g.cap (g.s k) _ hg2 (by omega) _ (fun _ => rfl)).mono ?_
          rintro e w2 ⟨rfl, rfl⟩
          cases hh : holdsB g.s k (g.s k)
          · go_wp2
            go_roundw
            case rel =>
              refine ⟨k + 1, by omega, by go_num, fun i hi => ?_, hbl1⟩
              rcases Nat.lt_succ_iff_lt_or_eq.1 hi with h | h
              · exact HD.out i h
              · subst h; rw [hnm, hh]; rfl
            case measure => simp [intOf]; omega
          · go_wp2
            go_ret
            refine ⟨ret_bool (Eq.symm ?_), hbl1⟩
            unfold namesB
            rw [Bool.and_eq_false_iff]
            right
            rw [decide_eq_false_iff_not]
            intro hq
            have := hq k hlt
            simp [hnm, hh] at this
      · have e : k = g.len := by omega
        have HE : Hid (k = g.len) := e
        clear e
        go_wp2
        go_ret
        refine ⟨ret_bool (Eq.symm ?_), hbl⟩
        unfold namesB
        rw [Bool.and_eq_true, decide_eq_true_eq, decide_eq_true_eq]
        exact ⟨⟨by omega, h8⟩, fun i hi => HD.out i (by have := HE.out; omega)⟩
  · have e2 : decide (8 < (g.len : Int)) = true := by simp; omega
    go_enter Tryz.func92, Tryz.ntmps92
    go_wp2
    go_ret
    exact ⟨ret_bool (by simp [namesB, h8]), Below.refl _ _⟩
end Go.Proofs.YtmkncmmegjfipaaGreatDoor

/- The walk of layer 1's Formed. -/
namespace Go.Proofs.YtmkncmmegjfipaaGreatDoor
open Go.RowKit

def Grid.U (g : Grid) : Nat → Nat := upTo g g.len 0
def Grid.D (g : Grid) : Nat → Nat := dnTo g g.len 0
theorem Grid.U_lt (g : Grid) (i : Nat) : g.U i < 256 := upTo_lt _ _ _ _
theorem Grid.D_lt (g : Grid) (i : Nat) : g.D i < 256 := dnTo_lt _ _ _ _
def formedB (n : Strs) (g : Grid) : Bool := (namesB n && squareB g n.len) && (partB g.len g.U g.D && bddB g.len g.U g.D)

theorem namesB_len {n : Strs} (h : namesB n = true) : 0 < n.len ∧ n.len ≤ 8 := by
  unfold namesB at h
  rw [Bool.and_eq_true, decide_eq_true_eq] at h
  exact h.1
theorem squareB_len {g : Grid} {n : Nat} (h : squareB g n = true) : g.len = n ∧ ∀ r, r < g.len → g.L r = n := by
  unfold squareB at h
  rw [Bool.and_eq_true, decide_eq_true_eq, beq_iff_eq] at h
  exact h

theorem grid_orderOf (g : Grid) (w : World) (hg : g.At w) (h8 : g.len ≤ 8) (hL : ∀ r, r < g.len → g.L r ≤ 8) :
    Calls Tryz.prog 94 #[.slice g.ao g.len g.cap] w fun e w' => e = .returned (.pointer (some ⟨w.heap.size, 0, none⟩)) ∧ OrdAt w' w.heap.size g.len g.U g.D ∧ Below w.heap.size w w' := orderOf_any g w hg h8 hL

/-- w1 is w, and behind it a variable of two cells, and what came since. -/
structure Box2 (w w1 : World) (u v : Value) : Prop where
  bl : Below w.heap.size w w1
  lt : w.heap.size < w1.heap.size
  c0 : w1.cell? ⟨w.heap.size, 0, none⟩ = some u
  c1 : w1.cell? ⟨w.heap.size, 1, none⟩ = some v
  f0 : w1.frozen? ⟨w.heap.size, 0, none⟩ = false
  f1 : w1.frozen? ⟨w.heap.size, 1, none⟩ = false
theorem Box2.start (w : World) (u v : Value) (t : TypeId) : Box2 w (w.alloc (.cells #[u, v] t)) u v :=
  ⟨(Below.refl _ _).alloc (Nat.le_refl _) _, by simp, (cells2 w u v t).1, (cells2 w u v t).2, by simp, by simp⟩
theorem Box2.step {w w1 w2 : World} {u v : Value} (h : Box2 w w1 u v) (k : Below w1.heap.size w1 w2) : Box2 w w2 u v :=
  ⟨h.bl.trans (k.mono h.bl.size), Nat.lt_of_lt_of_le h.lt k.size, (k.cell (p := ⟨w.heap.size, 0, none⟩) h.lt).trans h.c0, (k.cell (p := ⟨w.heap.size, 1, none⟩) h.lt).trans h.c1,
    (k.frozen (p := ⟨w.heap.size, 0, none⟩) h.lt).trans h.f0, (k.frozen (p := ⟨w.heap.size, 1, none⟩) h.lt).trans h.f1⟩

set_option maxHeartbeats 1000000 in
theorem formed_any (n : Strs) (g : Grid) (w : World) (hn : n.At w) (hg : g.At w) :
    Calls Tryz.prog 67 #[.agg #[.slice n.ao n.len n.cap, .slice g.ao g.len g.cap]] w fun e w' => e = .returned (.bool (formedB n g)) ∧ Below w.heap.size w w' := by
  have hnb := hn.bound
  have B0 := Box2.start w (.slice n.ao n.len n.cap) (.slice g.ao g.len g.cap) 25
  go_enter Tryz.func67, Tryz.ntmps67
  go_wp2_with fail
  refine (namesFormed_any n _ (hn.kept B0.bl)).mono ?_
  rintro e w1 ⟨rfl, hb1⟩
  have B1 := B0.step hb1
  clear hb1 B0
  have c0 := B1.c0
  have c1 := B1.c1
  cases h1 : namesB n
  · go_wp2
    go_ret
    exact ⟨ret_bool (by simp [formedB, h1]), B1.bl⟩
  go_wp2_with fail
  refine (square_any g n.len _ (hg.kept B1.bl)).mono ?_
  rintro e w2 ⟨rfl, rfl⟩
  cases h2 : squareB g n.len
  · go_wp2
    go_ret
    exact ⟨ret_bool (by simp [formedB, h2]), B1.bl⟩
  have l1 := namesB_len h1
  have l2 := squareB_len h2
  have L2 : Hid (g.len = n.len ∧ ∀ r, r < g.len → g.L r = n.len) := l2
  clear l2
  go_wp2_with fail
  refine (grid_orderOf g _ (hg.kept B1.bl) (by have := L2.out.1; omega) (fun r hr => by rw [L2.out.2 r hr]; exact l1.2)).mono ?_
  rintro e w3 ⟨rfl, ho, hb3⟩
  have B2 := B1.step hb3
  clear hb3 c0 c1
  go_wp2_with fail
  refine (partial_any _ g.len g.U g.D _ (by have := L2.out.1; omega) ho (fun i _ => g.U_lt i) (fun i _ => g.D_lt i)).mono ?_
  rintro e w4 ⟨rfl, hdr⟩
  have B3 := B2.step (hdr.below _)
  have ho4 := ho.dr hdr
  clear hdr
  cases h3 : partB g.len g.U g.D
  · go_wp2
    go_ret
    exact ⟨ret_bool (by simp [formedB, h3]), B3.bl⟩
  go_wp2_with fail
  refine (bounded_any _ g.len g.U g.D _ (by have := L2.out.1; omega) ho4 (fun i _ => g.U_lt i) (fun i _ => g.D_lt i)).mono ?_
  rintro e w5 ⟨rfl, hb5⟩
  have B4 := B3.step hb5
  go_wp2
  go_ret
  exact ⟨ret_bool (by simp [formedB, h1, h2, h3]), B4.bl⟩
end Go.Proofs.YtmkncmmegjfipaaGreatDoor

/- The walks of layer 1's hasLabels, Leq, Join, Meet, Both, Bottom, Top. -/
namespace Go.Proofs.YtmkncmmegjfipaaGreatDoor
open Go.RowKit

def labB (n : Strs) (a : Int) : Bool := decide (0 ≤ a) && decide (a < n.len)
def labsB (n : Strs) (ls : Nat → Int) (ll : Nat) : Bool := decide (∀ j, j < ll → labB n (ls j) = true)

theorem labs_no {n : Strs} {ls : Nat → Int} {ll j : Nat} (hj : j < ll) (h : labB n (ls j) = false) : labsB n ls ll = false := by
  unfold labsB
  rw [decide_eq_false_iff_not]
  intro hh
  rw [hh j hj] at h
  exact Bool.noConfusion h

def two (a b : Int) : Nat → Int := fun j => if j = 0 then a else b
theorem labs_two (n : Strs) (a b : Int) : labsB n (two a b) 2 = (labB n a && labB n b) := by
  unfold labsB
  rw [Bool.eq_iff_iff, decide_eq_true_eq, Bool.and_eq_true]
  constructor
  · intro h; exact ⟨h 0 (by omega), h 1 (by omega)⟩
  · rintro ⟨h1, h2⟩ j hj
    match j, hj with
    | 0, _ => exact h1
    | 1, _ => exact h2

/-- What Leq answers. -/
def leqB (n : Strs) (g : Grid) (a b : Int) : Bool := ((labB n a && labB n b) && formedB n g) && g.B a.toNat b.toNat
def joinI (n : Strs) (g : Grid) (a b : Int) : Int := if ((labB n a && labB n b) && formedB n g) = true then near2 g.len g.U a.toNat b.toNat else -1
def meetI (n : Strs) (g : Grid) (a b : Int) : Int := if ((labB n a && labB n b) && formedB n g) = true then near2 g.len g.D a.toNat b.toNat else -1
def botI (n : Strs) (g : Grid) : Int := if formedB n g = true then near g.U (2 ^ g.len - 1) else -1
def topI (n : Strs) (g : Grid) : Int := if formedB n g = true then near g.D (2 ^ g.len - 1) else -1

theorem formed_parts {n : Strs} {g : Grid} (h : formedB n g = true) : g.len = n.len ∧ 0 < n.len ∧ n.len ≤ 8 ∧ ∀ r, r < g.len → g.L r = n.len := by
  unfold formedB at h
  rw [Bool.and_eq_true, Bool.and_eq_true] at h
  have h1 := namesB_len h.1.1
  have h2 := squareB_len h.1.2
  exact ⟨h2.1, h1.1, h1.2, h2.2⟩
theorem lab_nat {n : Strs} {a : Int} (h : labB n a = true) : ∃ k : Nat, a = k ∧ k < n.len := by
  unfold labB at h
  rw [Bool.and_eq_true, decide_eq_true_eq, decide_eq_true_eq] at h
  exact ⟨a.toNat, by omega, by omega⟩

theorem cells2' (w : World) (o : Obj) (u v : Value) (t : TypeId) : ((w.alloc o).alloc (.cells #[u, v] t)).cell? ⟨w.heap.size + 1, 0, none⟩ = some u ∧ ((w.alloc o).alloc (.cells #[u, v] t)).cell? ⟨w.heap.size + 1, 1, none⟩ = some v := by
  simp

def bothI (n : Strs) (g : Grid) (a b : Int) : Int := joinI n g (if a = -1 then b else a) (if b = -1 then a else b)

end Go.Proofs.YtmkncmmegjfipaaGreatDoor

/- The walk of layer 1's pairsInRange. -/
namespace Go.Proofs.YtmkncmmegjfipaaGreatDoor
open Go.RowKit

/-- A [][2]int in memory. -/
structure Prs where
  ao : Option Addr
  b : Nat
  o : Nat
  len : Nat
  cap : Nat
  x : Nat → Int
  y : Nat → Int

structure Prs.At (g : Prs) (w : World) : Prop where
  lc : g.len ≤ g.cap
  nil : 0 < g.len → g.ao = some ⟨g.b, g.o, none⟩
  bound : g.len ≤ 9223372036854775807
  fst : ∀ i, i < g.len → w.cell? ⟨g.b, g.o + i * 2, none⟩ = some (.int .i64 (g.x i))
  snd : ∀ i, i < g.len → w.cell? ⟨g.b, g.o + i * 2 + 1, none⟩ = some (.int .i64 (g.y i))

theorem Prs.At.kept {g : Prs} {w w' : World} (h : g.At w) (hb : Below w.heap.size w w') : g.At w' :=
  ⟨h.lc, h.nil, h.bound, fun i hi => (hb.cell (p := ⟨g.b, g.o + i * 2, none⟩) (cell_lt (h.fst i hi))).trans (h.fst i hi), fun i hi => (hb.cell (p := ⟨g.b, g.o + i * 2 + 1, none⟩) (cell_lt (h.snd i hi))).trans (h.snd i hi)⟩

def inR (n : Nat) (a : Int) : Bool := decide (0 ≤ a) && decide (a < n)
def prsB (g : Prs) (n : Nat) : Bool := decide (∀ i, i < g.len → (inR n (g.x i) && inR n (g.y i)) = true)

theorem prs_no {g : Prs} {n k : Nat} (hk : k < g.len) (h : (inR n (g.x k) && inR n (g.y k)) = false) : prsB g n = false := by
  unfold prsB
  rw [decide_eq_false_iff_not]
  intro hh
  rw [hh k hk] at h
  exact Bool.noConfusion h
theorem inR_no {n : Nat} {a : Int} (h : a < 0 ∨ (n : Int) ≤ a) : inR n a = false := by
  unfold inR
  rw [Bool.and_eq_false_iff, decide_eq_false_iff_not, decide_eq_false_iff_not]
  omega

theorem idx2_0 (x y : Value) (w : World) : (Instr.index 100 (.agg #[x, y]) (.int .i64 0)).run Tryz.prog w = .ok x w := by kernel_rfl
theorem idx2_1 (x y : Value) (w : World) : (Instr.index 100 (.agg #[x, y]) (.int .i64 1)).run Tryz.prog w = .ok y w := by kernel_rfl

end Go.Proofs.YtmkncmmegjfipaaGreatDoor

/- The walks of slices.Clone and layer 1's addAll. -/
namespace Go.Proofs.YtmkncmmegjfipaaGreatDoor
open Go.RowKit

/-- Nothing but block p has turned. -/
structure Wrote (w w' : World) (p : Nat) : Prop where
  os : w'.os = w.os
  tape : w'.tape = w.tape
  output : w'.output = w.output
  size : w'.heap.size = w.heap.size
  block : ∀ k, k ≠ p → w'.heap[k]? = w.heap[k]?
theorem Wrote.refl (w : World) (p : Nat) : Wrote w w p := ⟨rfl, rfl, rfl, rfl, fun _ _ => rfl⟩
theorem Wrote.setCell {w w' : World} {p : Nat} (h : Wrote w w' p) (o : Nat) (v : Value) : Wrote w (w'.setCell ⟨p, o, none⟩ v) p :=
  ⟨h.os, h.tape, h.output, by rw [← h.size]; simp [World.setCell], fun k hk => (Below.heap_setCell _ _ _ _ hk).trans (h.block k hk)⟩

theorem run_eql_slice_nil {P : Program} (w : World) (t e : TypeId) (a : Option Addr) (l c : Nat) (h : P.underlying t = some (.slice e)) : (binOp .eql t (.slice a l c) (.slice none 0 0)).run P w = .ok (.bool a.isNone) w := by
  simp only [binOp, Sem.run_bind, run_equal_slice_nil w t e a l c h, Result.andThen]; rfl

theorem Tryz.infoString : (Tryz.prog.info? 9).map (fun i => (i.zero, i.size, i.bytes)) = some (some (.string ⟨#[]⟩), 1, 16) := by kernel_rfl

/-- What the names' cells hold. -/
def strCells (g : Strs) : List Value := (List.range g.len).map fun i => .string (g.s i)
theorem strCells_at (g : Strs) (i : Nat) (hi : i < g.len) : (strCells g)[i]? = some (.string (g.s i)) := by simp [strCells, hi]

theorem addr_add (b o i : Nat) : (⟨b, o, none⟩ : Addr).add i = ⟨b, o + i, none⟩ := by unfold Addr.add; split <;> simp_all

theorem strCells_news (g : Strs) (w : World) (hg : g.At w) (o : Obj) (j : Nat) (u : Value) (h : (strCells g)[j]? = some u) : (w.alloc o).cell? ((⟨g.b, g.o, none⟩ : Addr).add j) = some u := by
  have hj : j < g.len := by
    have := (List.getElem?_eq_some_iff.1 h).1
    simpa [strCells] using this
  rw [strCells_at g j hj] at h
  have hc := hg.cell j hj
  rw [← h]
  have := (((Below.refl _ _).alloc (Nat.le_refl _) o).cell (p := ⟨g.b, g.o + j, none⟩) (cell_lt hc)).trans hc
  rw [addr_add]; exact this

theorem strs_of_own {w : World} {base : Nat} {v : Value} {g : Strs} (h : w.ownsRow base 9 1 v (0 + g.len) ([] ++ strCells g)) (hv : v ≠ .slice none 0 0) (h8 : g.len ≤ 8) (hsz : ∀ i, i < g.len → (g.s i).size ≤ 9223372036854775807) :
    ∃ g' : Strs, v = .slice g'.ao g'.len g'.cap ∧ g'.At w ∧ g'.len = g.len ∧ g'.s = g.s := by
  rw [Nat.zero_add, List.nil_append] at h
  have h' := h
  obtain ⟨_, h0 | ⟨gb, cap, cur, rfl, _, _, hc, _⟩⟩ := h'
  · exact absurd h0.1 hv
  · refine ⟨⟨some ⟨gb, 0, none⟩, gb, 0, g.len, cap, g.s⟩, rfl, ⟨hc, fun _ => rfl, Nat.le_trans h8 (by omega), fun i hi => ?_, hsz⟩, rfl, rfl⟩
    show w.cell? ⟨gb, 0 + i, none⟩ = _
    rw [Nat.zero_add, h.cellAt i (by simpa using hi)]
    exact strCells_at g i hi

end Go.Proofs.YtmkncmmegjfipaaGreatDoor

/- The walk of layer 1's leastOrder. -/
namespace Go.Proofs.YtmkncmmegjfipaaGreatDoor
open Go.RowKit

theorem Tryz.infoBool : (Tryz.prog.info? 4).map (fun i => (i.zero, i.size, i.bytes)) = some (some (.bool false), 1, 1) := by kernel_rfl
theorem Tryz.infoRow : (Tryz.prog.info? 99).map (fun i => (i.zero, i.size, i.bytes)) = some (some (.slice none 0 0), 1, 24) := by kernel_rfl

/-- The table that the call itself makes. -/
structure OwnG (w0 wr : World) (n : Nat) (M : Nat → Nat → Bool) : Prop where
  bl : Below w0.heap.size w0 wr
  top : wr.rowIs w0.heap.size 99 n (fun j => .slice (some ⟨w0.heap.size + 1 + j, 0, none⟩) n n)
  rows : ∀ j, j < n → wr.rowIs (w0.heap.size + 1 + j) 4 n (fun c => .bool (M j c))

def topTo (T n k : Nat) : Nat → Value := fun j => if j < k then .slice (some ⟨T + 1 + j, 0, none⟩) n n else .slice none 0 0
/-- .. when k of its rows are made. -/
structure MkG (w0 wr : World) (n k : Nat) : Prop where
  bl : Below w0.heap.size w0 wr
  size : wr.heap.size = w0.heap.size + 1 + k
  top : wr.rowIs w0.heap.size 99 n (topTo w0.heap.size n k)
  rows : ∀ j, j < k → wr.rowIs (w0.heap.size + 1 + j) 4 n (fun c => .bool (c == j))

theorem MkG.start (w : World) (n : Nat) : MkG w (w.alloc (.cells (madeCells #[.slice none 0 0] n) 99)) n 0 :=
  ⟨(Below.refl _ _).alloc (Nat.le_refl _) _, by simp, (World.rowIs_made w _ n 99).congr (fun j _ => by simp [topTo]), fun j hj => absurd hj (Nat.not_lt_zero _)⟩

theorem MkG.done {w wr : World} {n : Nat} (h : MkG w wr n n) : OwnG w wr n (fun r c => c == r) :=
  ⟨h.bl, h.top.congr (fun j hj => by simp [topTo, hj]), h.rows⟩

theorem MkG.step {w wr : World} {n k : Nat} (h : MkG w wr n k) (hk : k < n) :
    MkG w (((wr.alloc (.cells (madeCells #[.bool false] n) 4)).setCell ⟨w.heap.size, k, none⟩ (.slice (some ⟨wr.heap.size, 0, none⟩) n n)).setCell ⟨wr.heap.size, k, none⟩ (.bool true)) n (k + 1) := by
  have hs := h.size
  have hnew : ((wr.alloc (.cells (madeCells #[.bool false] n) 4)).setCell ⟨w.heap.size, k, none⟩ (.slice (some ⟨wr.heap.size, 0, none⟩) n n)).rowIs wr.heap.size 4 n (fun _ => .bool false) := (World.rowIs_made wr (.bool false) n 4).setOther (by show wr.heap.size ≠ w.heap.size; omega) _
  refine ⟨((h.bl.alloc h.bl.size _).setCell (Nat.le_refl _) _).setCell (by show w.heap.size ≤ wr.heap.size; omega) _, by simp [hs]; omega, ?_, fun j hj => ?_⟩
  · refine (((h.top.alloc _).set k _).setOther (by show w.heap.size ≠ wr.heap.size; omega) _).congr (fun j _ => ?_)
    simp only [topTo]
    by_cases e : j = k
    · subst e; simp [hs]
    · rw [if_neg e]
      by_cases hlt : j < k
      · rw [if_pos hlt, if_pos (by omega)]
      · rw [if_neg hlt, if_neg (by omega)]
  · by_cases e : j = k
    · subst e
      have h2 := hnew.set j (.bool true)
      rw [hs] at h2 ⊢
      refine h2.congr (fun c _ => ?_)
      by_cases e : c = j
      · subst e; simp
      · rw [if_neg e, beq_eq_false_iff_ne.2 e]
    · exact (((h.rows j (by omega)).alloc _).setOther (by show w.heap.size + 1 + j ≠ w.heap.size; omega) _).setOther (by show w.heap.size + 1 + j ≠ wr.heap.size; omega) _

theorem inR_nat {n : Nat} {a : Int} (h : inR n a = true) : ∃ k : Nat, a = k ∧ k < n := by
  unfold inR at h
  rw [Bool.and_eq_true, decide_eq_true_eq, decide_eq_true_eq] at h
  exact ⟨a.toNat, by omega, by omega⟩
theorem prs_in {g : Prs} {n m : Nat} (h : prsB g n = true) (hm : m < g.len) : (∃ x : Nat, g.x m = x ∧ x < n) ∧ ∃ y : Nat, g.y m = y ∧ y < n := by
  unfold prsB at h
  rw [decide_eq_true_eq] at h
  have := h m hm
  rw [Bool.and_eq_true] at this
  exact ⟨inR_nat this.1, inR_nat this.2⟩

def warStep (M : Nat → Nat → Bool) (b : Nat) : Nat → Nat → Bool := fun r c => M r c || (M r b && M b c)
def warPart (M : Nat → Nat → Bool) (b a : Nat) : Nat → Nat → Bool := fun r c => if r < a then warStep M b r c else M r c
def war (M : Nat → Nat → Bool) : Nat → Nat → Nat → Bool
  | 0 => M
  | k + 1 => warStep (war M k) k
def prsM (g : Prs) (k : Nat) : Nat → Nat → Bool := fun r c => (c == r) || decide (∃ i, i < k ∧ g.x i = r ∧ g.y i = c)
def leastM (g : Prs) (n : Nat) : Nat → Nat → Bool := war (prsM g g.len) n

theorem row_same (M : Nat → Nat → Bool) (b c : Nat) : warStep M b b c = M b c := by
  unfold warStep; cases M b c <;> simp

theorem OwnG.congr {w wr : World} {n : Nat} {M M' : Nat → Nat → Bool} (h : OwnG w wr n M) (e : ∀ r c, r < n → c < n → M r c = M' r c) : OwnG w wr n M' :=
  ⟨h.bl, h.top, fun j hj => (h.rows j hj).congr (fun c hc => by rw [e j c hj hc])⟩

theorem OwnG.pair {g : Prs} {w wr : World} {n m x y : Nat} (h : OwnG w wr n (prsM g m)) (hx : x < n) (e : g.x m = x ∧ g.y m = y) (o : Obj) :
    OwnG w ((wr.alloc o).setCell ⟨w.heap.size + 1 + x, y, none⟩ (.bool true)).drew n (prsM g (m + 1)) := by
  refine ⟨((h.bl.alloc h.bl.size _).setCell (by show w.heap.size ≤ w.heap.size + 1 + x; omega) _).drew, ((h.top.alloc _).setOther (by show w.heap.size ≠ w.heap.size + 1 + x; omega) _).drew, fun j hj => ?_⟩
  have hE : ∀ r c : Nat, prsM g (m + 1) r c = (prsM g m r c || (r == x && c == y)) := by
    intro r c
    unfold prsM
    rw [Bool.eq_iff_iff]
    simp only [Bool.or_eq_true, Bool.and_eq_true, decide_eq_true_eq, beq_iff_eq]
    constructor
    · rintro (h | ⟨i, hi, h1, h2⟩)
      · exact Or.inl (Or.inl h)
      · by_cases hi2 : i = m
        · subst hi2
          refine Or.inr ⟨?_, ?_⟩
          · have := e.1; omega
          · have := e.2; omega
        · exact Or.inl (Or.inr ⟨i, by omega, h1, h2⟩)
    · rintro ((h | ⟨i, hi, h1, h2⟩) | ⟨h1, h2⟩)
      · exact Or.inl h
      · exact Or.inr ⟨i, by omega, h1, h2⟩
      · exact Or.inr ⟨m, by omega, by rw [e.1, h1], by rw [e.2, h2]⟩
  by_cases ej : j = x
  · subst ej
    refine ((((h.rows j hj).alloc _).set y (.bool true)).congr (fun c _ => ?_)).drew
    rw [hE]
    by_cases ec : c = y
    · subst ec; simp
    · rw [if_neg ec, beq_eq_false_iff_ne.2 ec]; simp
  · refine ((((h.rows j hj).alloc _).setOther (by show w.heap.size + 1 + j ≠ w.heap.size + 1 + x; omega) _).congr (fun c _ => ?_)).drew
    rw [hE, beq_eq_false_iff_ne.2 ej]; simp

theorem warPart_other (M : Nat → Nat → Bool) (b a r c : Nat) (e : ¬ r = a) : warPart M b (a + 1) r c = warPart M b a r c := by
  unfold warPart
  by_cases h : r < a
  · rw [if_pos h, if_pos (by omega)]
  · rw [if_neg h, if_neg (by omega)]

theorem OwnG.add {w wr w' : World} {n a b : Nat} {M : Nat → Nat → Bool} (h : OwnG w wr n (warPart M b a)) (ha : a < n) (hM : M a b = true)
    (hrow : w'.rowIs (w.heap.size + 1 + a) 4 n (fun c => .bool (M a c || M b c))) (hw : Wrote wr w' (w.heap.size + 1 + a)) : OwnG w w' n (warPart M b (a + 1)) := by
  refine ⟨h.bl.trans ⟨hw.os, hw.tape, hw.output, Nat.le_of_eq hw.size.symm, fun k hk => hw.block k (by omega)⟩, h.top.of_block (hw.block _ (by omega)), fun j hj => ?_⟩
  by_cases e : j = a
  · subst e
    exact hrow.congr (fun c _ => by simp [warPart, warStep, hM])
  · exact ((h.rows j hj).of_block (hw.block _ (by omega))).congr (fun c _ => by rw [warPart_other M b a j c e])

theorem OwnG.skip {w wr : World} {n a b : Nat} {M : Nat → Nat → Bool} (h : OwnG w wr n (warPart M b a)) (hM : M a b = false) : OwnG w wr n (warPart M b (a + 1)) :=
  h.congr (fun r c _ _ => by
    by_cases e : r = a
    · subst e; simp [warPart, warStep, hM]
    · rw [warPart_other M b a r c e])

theorem warPart_row (M : Nat → Nat → Bool) (b a c : Nat) : warPart M b a b c = M b c := by
  unfold warPart; split
  · exact row_same M b c
  · rfl

theorem warPart_now (M : Nat → Nat → Bool) (b a c : Nat) : warPart M b a a c = M a c := by
  unfold warPart; rw [if_neg (Nat.lt_irrefl _)]

end Go.Proofs.YtmkncmmegjfipaaGreatDoor

/- The walk of layer 1's Make. -/
namespace Go.Proofs.YtmkncmmegjfipaaGreatDoor
open Go.RowKit

/-- A table at block T, its rows behind. -/
def gridOf (T n : Nat) (M : Nat → Nat → Bool) : Grid := ⟨some ⟨T, 0, none⟩, T, 0, n, n, fun j => some ⟨T + 1 + j, 0, none⟩, fun _ => n, fun _ => n, fun j => T + 1 + j, fun _ => 0, M⟩
theorem OwnG.at' {w wr : World} {n : Nat} {M : Nat → Nat → Bool} (h : OwnG w wr n M) (h8 : n ≤ 8) : (gridOf w.heap.size n M).At wr where
  lc := Nat.le_refl _
  nil := fun _ => rfl
  bound := by show n ≤ _; omega
  lbound := fun _ _ => by show n ≤ _; omega
  row := fun r hr => by
    show wr.cell? ⟨w.heap.size, 0 + r, none⟩ = _
    rw [Nat.zero_add]; exact h.top.cell hr
  adr := fun _ _ _ => rfl
  cell := fun r hr c hc => by
    show wr.cell? ⟨w.heap.size + 1 + r, 0 + c, none⟩ = _
    rw [Nat.zero_add]; exact (h.rows r hr).cell hc

/-- Formed, of names and truths alone. -/
def formedM (len : Nat) (s : Nat → ByteArray) (M : Nat → Nat → Bool) : Bool := formedB ⟨none, 0, 0, len, len, s⟩ (gridOf 0 len M)
theorem formed_canon {n : Strs} {T len : Nat} {s : Nat → ByteArray} {M : Nat → Nat → Bool} (h1 : n.len = len) (h2 : n.s = s) : formedB n (gridOf T len M) = formedM len s M := by
  obtain ⟨ao, b, o, l, c, s'⟩ := n
  simp only at h1 h2
  subst h1 h2
  rfl

/-- What Make answers: an error, or names and a table. -/
def makeE (n : Strs) (p : Prs) : Int := if 8 < n.len ∨ 64 < p.len then 1 else if prsB p n.len = false then 10 else if formedM n.len n.s (leastM p n.len) = false then 4 else 0

structure Made (n : Strs) (p : Prs) (e : Int) (n' : Strs) (g' : Grid) (w' : World) : Prop where
  er : e = makeE n p
  nat : n'.At w'
  gat : g'.At w'
  yes : e = 0 → n'.len = n.len ∧ n'.s = n.s ∧ ∃ T, g' = gridOf T n.len (leastM p n.len)
  no : e ≠ 0 → n'.len = 0 ∧ g'.len = 0

def noStrs : Strs := ⟨none, 0, 0, 0, 0, fun _ => ByteArray.empty⟩
def noGrid : Grid := ⟨none, 0, 0, 0, 0, fun _ => none, fun _ => 0, fun _ => 0, fun _ => 0, fun _ => 0, fun _ _ => false⟩
theorem noStrs_at (w : World) : noStrs.At w := ⟨Nat.le_refl _, fun h => absurd h (Nat.lt_irrefl _), Nat.zero_le _, fun _ h => absurd h (Nat.not_lt_zero _), fun _ h => absurd h (Nat.not_lt_zero _)⟩
theorem noGrid_at (w : World) : noGrid.At w := ⟨Nat.le_refl _, fun h => absurd h (Nat.lt_irrefl _), Nat.zero_le _, fun _ h => absurd h (Nat.not_lt_zero _), fun _ h => absurd h (Nat.not_lt_zero _), fun _ h => absurd h (Nat.not_lt_zero _), fun _ h => absurd h (Nat.not_lt_zero _)⟩

theorem makeE_1 {n : Strs} {p : Prs} (h : 8 < n.len ∨ 64 < p.len) : makeE n p = 1 := by unfold makeE; rw [if_pos h]
theorem makeE_10 {n : Strs} {p : Prs} (h : ¬ (8 < n.len ∨ 64 < p.len)) (h2 : prsB p n.len = false) : makeE n p = 10 := by unfold makeE; rw [if_neg h, if_pos h2]
theorem makeE_4 {n : Strs} {p : Prs} (h : ¬ (8 < n.len ∨ 64 < p.len)) (h2 : prsB p n.len = true) (h3 : formedM n.len n.s (leastM p n.len) = false) : makeE n p = 4 := by unfold makeE; rw [if_neg h, if_neg (by rw [h2]; simp), if_pos h3]
theorem makeE_0 {n : Strs} {p : Prs} (h : ¬ (8 < n.len ∨ 64 < p.len)) (h2 : prsB p n.len = true) (h3 : formedM n.len n.s (leastM p n.len) = true) : makeE n p = 0 := by unfold makeE; rw [if_neg h, if_neg (by rw [h2]; simp), if_neg (by rw [h3]; simp)]
theorem made_no {n : Strs} {p : Prs} {e : Int} (w : World) (h : makeE n p = e) (h0 : e ≠ 0) : Made n p e noStrs noGrid w := ⟨h.symm, noStrs_at w, noGrid_at w, fun h => absurd h h0, fun _ => ⟨rfl, rfl⟩⟩

theorem Strs.At.set {g : Strs} {w : World} (h : g.At w) {a : Addr} {p : Option Addr} {l c : Nat} (ha : w.cell? a = some (.slice p l c)) (v : Value) : g.At (w.setCell a v) :=
  ⟨h.lc, h.nil, h.bound, fun i hi => by
    have hc := h.cell i hi
    rw [World.cell?_setCell_other _ _ _ _ (fun e => by rw [← e, ha] at hc; cases hc)]
    exact hc, h.sz⟩
theorem gridOf_set {T n : Nat} {M : Nat → Nat → Bool} {w : World} (h : (gridOf T n M).At w) {a : Addr} (ha : a.block < T) (v : Value) : (gridOf T n M).At (w.setCell a v) where
  lc := h.lc
  nil := h.nil
  bound := h.bound
  lbound := h.lbound
  row := fun r hr => by
    rw [World.cell?_setCell_other _ _ _ _ (fun e => by have := congrArg Addr.block e; simp [gridOf] at this; omega)]
    exact h.row r hr
  adr := h.adr
  cell := fun r hr c hc => by
    rw [World.cell?_setCell_other _ _ _ _ (fun e => by have := congrArg Addr.block e; simp [gridOf] at this; omega)]
    exact h.cell r hr c hc
theorem below_set2 {w w1 : World} (h : Below w.heap.size w w1) (u v : Value) : Below w.heap.size w ((w1.setCell ⟨w.heap.size, 0, none⟩ u).setCell ⟨w.heap.size, 1, none⟩ v) :=
  (h.setCell (Nat.le_refl _) _).setCell (Nat.le_refl _) _

end Go.Proofs.YtmkncmmegjfipaaGreatDoor

/- The walks of the statements' awake and of the reference's Small. -/
namespace Go.Proofs.YtmkncmmegjfipaaGreatDoor
open Go.RowKit

def awkS : Nat → ByteArray := fun i => if i = 0 then ⟨#[108, 111, 119]⟩ else ⟨#[104, 105, 103, 104]⟩
def awkN (b : Nat) : Strs := ⟨some ⟨b, 0, none⟩, b, 0, 2, 2, awkS⟩
def awkP (b : Nat) : Prs := ⟨some ⟨b, 0, none⟩, b, 0, 1, 1, fun _ => 0, fun _ => 1⟩
theorem awk_e (b c : Nat) : makeE (awkN b) (awkP c) = 0 := by kernel_rfl
theorem awk_leq1 (ao : Option Addr) (b o c T q : Nat) : leqB ⟨ao, b, o, 2, c, awkS⟩ (gridOf T 2 (leastM (awkP q) 2)) 0 1 = true := by kernel_rfl
theorem awk_leq2 (ao : Option Addr) (b o c T q : Nat) : leqB ⟨ao, b, o, 2, c, awkS⟩ (gridOf T 2 (leastM (awkP q) 2)) 1 0 = false := by kernel_rfl
theorem awk_top (ao : Option Addr) (b o c T q : Nat) : topI ⟨ao, b, o, 2, c, awkS⟩ (gridOf T 2 (leastM (awkP q) 2)) = 1 := by kernel_rfl

def awkW (w : World) : World := (w.alloc (.cells #[.string ⟨#[108, 111, 119]⟩, .string ⟨#[104, 105, 103, 104]⟩] 9)).alloc (.cells #[.int .i64 0, .int .i64 1] 100)
theorem awkW_below (w : World) : Below w.heap.size w (awkW w) := ((Below.refl _ _).alloc (Nat.le_refl _) _).alloc (by simp) _
theorem awkN_at (w : World) : (awkN w.heap.size).At (awkW w) := by
  refine ⟨Nat.le_refl _, fun _ => rfl, by show (2 : Nat) ≤ _; omega, fun i hi => ?_, fun i hi => ?_⟩
  · match i, hi with
    | 0, _ => simp [awkW, awkN, awkS]
    | 1, _ => simp [awkW, awkN, awkS]
  · match i, hi with
    | 0, _ => show (3 : Nat) ≤ _; omega
    | 1, _ => show (4 : Nat) ≤ _; omega
theorem awkP_at (w : World) : (awkP (w.heap.size + 1)).At (awkW w) := by
  refine ⟨Nat.le_refl _, fun _ => rfl, by show (1 : Nat) ≤ _; omega, fun i hi => ?_, fun i hi => ?_⟩
  · match i, hi with
    | 0, _ => simp [awkW, awkP]
  · match i, hi with
    | 0, _ => simp [awkW, awkP]

/-- What Small answers. -/
def smallB (n : Strs) (g : Grid) : Bool := decide (g.len ≤ 100 ∧ ∀ r, r < g.len → g.L r ≤ 100) && decide (n.len ≤ 100)

theorem small_no1 {n : Strs} {g : Grid} {k : Nat} (hk : k < g.len) (h : 100 ≤ k ∨ 100 < g.L k) : smallB n g = false := by
  unfold smallB
  rw [Bool.and_eq_false_iff, decide_eq_false_iff_not]
  left
  rintro ⟨h1, h2⟩
  have := h2 k hk
  omega

set_option maxHeartbeats 1000000 in
theorem small_any (n : Strs) (g : Grid) (w : World) (hn : n.At w) (hg : g.At w) :
    Calls Tryz.prog 38 #[.agg #[.slice n.ao n.len n.cap, .slice g.ao g.len g.cap]] w fun e w' => e = .returned (.bool (smallB n g)) ∧ Below w.heap.size w w' := by
  have hnb := hn.bound
  have hgb := hg.bound
  by_cases hz : g.len = 0
  · have B0 := Box2.start w (.slice n.ao n.len n.cap) (.slice g.ao 0 g.cap) 25
    have HF : Hid (smallB n g = decide (n.len ≤ 100)) := by show smallB n g = _; simp [smallB, hz]
    rw [hz]
    go_enter Tryz.func38, Tryz.ntmps38
    go_wp2
    go_loop [3] (fun i => i = .int .i64 0) (fun _ => 0)
    case atStart => rfl
    case round =>
      subst hrel
      go_wp2
      go_ret
      exact ⟨ret_bool (by rw [HF.out]; exact decide_eq_decide.2 (by omega)), B0.bl⟩
  rw [hg.nil (by omega)]
  have B0 := Box2.start w (.slice n.ao n.len n.cap) (.slice (some ⟨g.gb, g.go, none⟩) g.len g.cap) 25
  have hg1 := hg.kept B0.bl
  go_enter Tryz.func38, Tryz.ntmps38
  go_wp2
  generalize w.alloc (.cells #[.slice n.ao n.len n.cap, .slice (some ⟨g.gb, g.go, none⟩) g.len g.cap] 25) = W0 at *
  have c0 := B0.c0
  have c1 := B0.c1
  go_loop [3] (fun i => ∃ k : Nat, k ≤ g.len ∧ k ≤ 100 ∧ i = .int .i64 k ∧ ∀ r, r < k → g.L r ≤ 100) (fun i => g.len - (intOf i).toNat)
  case atStart => exact ⟨0, Nat.zero_le _, by omega, rfl, fun _ h => absurd h (Nat.not_lt_zero _)⟩
  case round =>
    obtain ⟨k, hk, hk1, rfl, hdone⟩ := hrel
    have HD : Hid (∀ r, r < k → g.L r ≤ 100) := hdone
    clear hdone
    by_cases hlt : k < g.len
    · have r1 := hg1.row k hlt
      by_cases h100 : k < 100
      · go_wp2
        · have t : (100 : Int) ≤ k ∨ (100 : Int) < g.L k := by assumption
          go_ret
          exact ⟨ret_bool (small_no1 hlt (by omega)).symm, B0.bl⟩
        · have t : (k : Int) < 100 ∧ (g.L k : Int) ≤ 100 := by assumption
          go_round
          case rel =>
            refine ⟨k + 1, by omega, by omega, by go_num, fun r hr => ?_⟩
            rcases Nat.lt_succ_iff_lt_or_eq.1 hr with h | h
            · exact HD.out r h
            · subst h; omega
          case measure => simp [intOf]; omega
      · go_wp2
        go_ret
        exact ⟨ret_bool (small_no1 hlt (Or.inl (by omega))).symm, B0.bl⟩
    · have HE : Hid (smallB n g = decide (n.len ≤ 100)) := by
        show smallB n g = _
        unfold smallB
        rw [decide_eq_true (show g.len ≤ 100 ∧ ∀ r, r < g.len → g.L r ≤ 100 from ⟨by omega, fun r hr => HD.out r (by omega)⟩)]
        rfl
      go_wp2
      go_ret
      exact ⟨ret_bool (by rw [HE.out]; exact decide_eq_decide.2 (by omega)), B0.bl⟩
end Go.Proofs.YtmkncmmegjfipaaGreatDoor
