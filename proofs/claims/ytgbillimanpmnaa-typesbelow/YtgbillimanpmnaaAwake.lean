/- The walks of the statements' awake and of the reference's Small. -/
import Derived.Test.YtgbillimanpmnaaMake
namespace Go.Proofs.Ytgbillimanpmnaa
open Go.RowKit

def awkS : Nat → ByteArray := fun i => if i = 0 then ⟨#[108, 111, 119]⟩ else ⟨#[104, 105, 103, 104]⟩
def awkN (b : Nat) : Strs := ⟨some ⟨b, 0, none⟩, b, 0, 2, 2, awkS⟩
def awkP (b : Nat) : Prs := ⟨some ⟨b, 0, none⟩, b, 0, 1, 1, fun _ => 0, fun _ => 1⟩
theorem awk_e (b c : Nat) : makeE (awkN b) (awkP c) = 0 := by kernel_rfl
theorem awk_leq1 (ao : Option Addr) (b o c T q : Nat) : leqB ⟨ao, b, o, 2, c, awkS⟩ (gridOf T 2 (leastM (awkP q) 2)) 0 1 = true := by kernel_rfl
theorem awk_leq2 (ao : Option Addr) (b o c T q : Nat) : leqB ⟨ao, b, o, 2, c, awkS⟩ (gridOf T 2 (leastM (awkP q) 2)) 1 0 = false := by kernel_rfl
theorem awk_top (ao : Option Addr) (b o c T q : Nat) : topI ⟨ao, b, o, 2, c, awkS⟩ (gridOf T 2 (leastM (awkP q) 2)) = 1 := by kernel_rfl

def awkW (w : World) : World := (w.alloc (.cells #[.string ⟨#[108, 111, 119]⟩, .string ⟨#[104, 105, 103, 104]⟩] 9)).alloc (.cells #[.int .i64 0, .int .i64 1] 41)
theorem awkW_below (w : World) : Below w.heap.size w (awkW w) := ((Below.refl _ _).alloc (Nat.le_refl _) _).alloc (by simp) _
theorem awkN_at (w : World) : (awkN w.heap.size).At (awkW w) := by
  refine ⟨Nat.le_refl _, fun _ => rfl, by show (2 : Nat) ≤ _; omega, fun i hi => ?_, fun i hi => ?_⟩
  · match i, hi with
    | 0, _ => simp [awkW, awkN, awkS]
    | 1, _ => simp [awkW, awkN, awkS]
  · match i, hi with
    | 0, _ => show (3 : Nat) ≤ _; omega
    | 1, _ => show (4 : Nat) ≤ _; omega
theorem awkP_at (w : World) : (awkP (w.heap.size + 1)).At (awkW w) := by
  refine ⟨Nat.le_refl _, fun _ => rfl, by show (1 : Nat) ≤ _; omega, fun i hi => ?_, fun i hi => ?_⟩
  · match i, hi with
    | 0, _ => simp [awkW, awkP]
  · match i, hi with
    | 0, _ => simp [awkW, awkP]

/-- What Small answers. -/
def smallB (n : Strs) (g : Grid) : Bool := decide (g.len ≤ 100 ∧ ∀ r, r < g.len → g.L r ≤ 100) && decide (n.len ≤ 100)

theorem small_no1 {n : Strs} {g : Grid} {k : Nat} (hk : k < g.len) (h : 100 ≤ k ∨ 100 < g.L k) : smallB n g = false := by
  unfold smallB
  rw [Bool.and_eq_false_iff, decide_eq_false_iff_not]
  left
  rintro ⟨h1, h2⟩
  have := h2 k hk
  omega

set_option maxHeartbeats 1000000 in
theorem small_any (n : Strs) (g : Grid) (w : World) (hn : n.At w) (hg : g.At w) :
    Calls Try.prog 31 #[.agg #[.slice n.ao n.len n.cap, .slice g.ao g.len g.cap]] w fun e w' => e = .returned (.bool (smallB n g)) ∧ Below w.heap.size w w' := by
  have hnb := hn.bound
  have hgb := hg.bound
  by_cases hz : g.len = 0
  · have B0 := Box2.start w (.slice n.ao n.len n.cap) (.slice g.ao 0 g.cap) 25
    have HF : Hid (smallB n g = decide (n.len ≤ 100)) := by show smallB n g = _; simp [smallB, hz]
    rw [hz]
    go_enter Try.func31, Try.ntmps31
    go_wp2
    go_loop [3] (fun i => i = .int .i64 0) (fun _ => 0)
    case atStart => rfl
    case round =>
      subst hrel
      go_wp2
      go_ret
      exact ⟨ret_bool (by rw [HF.out]; exact decide_eq_decide.2 (by omega)), B0.bl⟩
  rw [hg.nil (by omega)]
  have B0 := Box2.start w (.slice n.ao n.len n.cap) (.slice (some ⟨g.gb, g.go, none⟩) g.len g.cap) 25
  have hg1 := hg.kept B0.bl
  go_enter Try.func31, Try.ntmps31
  go_wp2
  generalize w.alloc (.cells #[.slice n.ao n.len n.cap, .slice (some ⟨g.gb, g.go, none⟩) g.len g.cap] 25) = W0 at *
  have c0 := B0.c0
  have c1 := B0.c1
  go_loop [3] (fun i => ∃ k : Nat, k ≤ g.len ∧ k ≤ 100 ∧ i = .int .i64 k ∧ ∀ r, r < k → g.L r ≤ 100) (fun i => g.len - (intOf i).toNat)
  case atStart => exact ⟨0, Nat.zero_le _, by omega, rfl, fun _ h => absurd h (Nat.not_lt_zero _)⟩
  case round =>
    obtain ⟨k, hk, hk1, rfl, hdone⟩ := hrel
    have HD : Hid (∀ r, r < k → g.L r ≤ 100) := hdone
    clear hdone
    by_cases hlt : k < g.len
    · have r1 := hg1.row k hlt
      by_cases h100 : k < 100
      · go_wp2
        · have t : (100 : Int) ≤ k ∨ (100 : Int) < g.L k := by assumption
          go_ret
          exact ⟨ret_bool (small_no1 hlt (by omega)).symm, B0.bl⟩
        · have t : (k : Int) < 100 ∧ (g.L k : Int) ≤ 100 := by assumption
          go_round
          case rel =>
            refine ⟨k + 1, by omega, by omega, by go_num, fun r hr => ?_⟩
            rcases Nat.lt_succ_iff_lt_or_eq.1 hr with h | h
            · exact HD.out r h
            · subst h; omega
          case measure => simp [intOf]; omega
      · go_wp2
        go_ret
        exact ⟨ret_bool (small_no1 hlt (Or.inl (by omega))).symm, B0.bl⟩
    · have HE : Hid (smallB n g = decide (n.len ≤ 100)) := by
        show smallB n g = _
        unfold smallB
        rw [decide_eq_true (show g.len ≤ 100 ∧ ∀ r, r < g.len → g.L r ≤ 100 from ⟨by omega, fun r hr => HD.out r (by omega)⟩)]
        rfl
      go_wp2
      go_ret
      exact ⟨ret_bool (by rw [HE.out]; exact decide_eq_decide.2 (by omega)), B0.bl⟩
end Go.Proofs.Ytgbillimanpmnaa
