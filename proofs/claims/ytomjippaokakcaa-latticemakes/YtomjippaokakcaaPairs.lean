/- The walk of layer 1's pairsInRange. -/
import Derived.Test.YtomjippaokakcaaAsks
namespace Go.Proofs.Ytomjippaokakcaa
open Go.RowKit

/-- A [][2]int in memory. -/
structure Prs where
  ao : Option Addr
  b : Nat
  o : Nat
  len : Nat
  cap : Nat
  x : Nat → Int
  y : Nat → Int

structure Prs.At (g : Prs) (w : World) : Prop where
  lc : g.len ≤ g.cap
  nil : 0 < g.len → g.ao = some ⟨g.b, g.o, none⟩
  bound : g.len ≤ 9223372036854775807
  fst : ∀ i, i < g.len → w.cell? ⟨g.b, g.o + i * 2, none⟩ = some (.int .i64 (g.x i))
  snd : ∀ i, i < g.len → w.cell? ⟨g.b, g.o + i * 2 + 1, none⟩ = some (.int .i64 (g.y i))

theorem Prs.At.kept {g : Prs} {w w' : World} (h : g.At w) (hb : Below w.heap.size w w') : g.At w' :=
  ⟨h.lc, h.nil, h.bound, fun i hi => (hb.cell (p := ⟨g.b, g.o + i * 2, none⟩) (cell_lt (h.fst i hi))).trans (h.fst i hi), fun i hi => (hb.cell (p := ⟨g.b, g.o + i * 2 + 1, none⟩) (cell_lt (h.snd i hi))).trans (h.snd i hi)⟩

def inR (n : Nat) (a : Int) : Bool := decide (0 ≤ a) && decide (a < n)
def prsB (g : Prs) (n : Nat) : Bool := decide (∀ i, i < g.len → (inR n (g.x i) && inR n (g.y i)) = true)

theorem prs_no {g : Prs} {n k : Nat} (hk : k < g.len) (h : (inR n (g.x k) && inR n (g.y k)) = false) : prsB g n = false := by
  unfold prsB
  rw [decide_eq_false_iff_not]
  intro hh
  rw [hh k hk] at h
  exact Bool.noConfusion h
theorem inR_no {n : Nat} {a : Int} (h : a < 0 ∨ (n : Int) ≤ a) : inR n a = false := by
  unfold inR
  rw [Bool.and_eq_false_iff, decide_eq_false_iff_not, decide_eq_false_iff_not]
  omega

theorem idx2_0 (x y : Value) (w : World) : (Instr.index 44 (.agg #[x, y]) (.int .i64 0)).run Try.prog w = .ok x w := by kernel_rfl
theorem idx2_1 (x y : Value) (w : World) : (Instr.index 44 (.agg #[x, y]) (.int .i64 1)).run Try.prog w = .ok y w := by kernel_rfl

set_option maxHeartbeats 1000000 in
theorem pairsInRange_any (g : Prs) (n : Nat) (w : World) (hg : g.At w) :
    Calls Try.prog 50 #[.slice g.ao g.len g.cap, .int .i64 n] w fun e w' => e = .returned (.bool (prsB g n)) ∧ Below w.heap.size w w' := by
  have hb := hg.bound
  by_cases h0 : g.len = 0
  · have HF : Hid (prsB g n = true) := by show prsB g n = true; unfold prsB; rw [decide_eq_true_eq]; intro i hi; omega
    go_enter Try.func50, Try.ntmps50
    go_wp2
    go_loopw [11] (fun i wr => i = .int .i64 0 ∧ wr = w) (fun _ _ => 0)
    case atStart => exact ⟨rfl, rfl⟩
    case round =>
      obtain ⟨rfl, rfl⟩ := hrel
      go_wp2
      go_ret
      exact ⟨ret_bool HF.out.symm, Below.refl _ _⟩
  rw [hg.nil (by omega)]
  go_enter Try.func50, Try.ntmps50
  go_wp2
  go_loopw [11] (fun i wr => ∃ k : Nat, k ≤ g.len ∧ i = .int .i64 k ∧ (∀ i, i < k → (inR n (g.x i) && inR n (g.y i)) = true) ∧ Below w.heap.size w wr) (fun i _ => g.len - (intOf i).toNat)
  case atStart => exact ⟨0, Nat.zero_le _, rfl, fun _ h => absurd h (Nat.not_lt_zero _), Below.refl _ _⟩
  case round =>
    obtain ⟨k, hk, rfl, hdone, hbl⟩ := hrel
    have HD : Hid (∀ i, i < k → (inR n (g.x i) && inR n (g.y i)) = true) := hdone
    clear hdone
    have hg1 := hg.kept hbl
    by_cases hlt : k < g.len
    · have r1 := hg1.fst k hlt
      have r2 := hg1.snd k hlt
      have hbl1 : Below w.heap.size w (wr.alloc (.cells #[.int .i64 (g.x k), .int .i64 (g.y k)] 44)) := hbl.alloc hbl.size _
      have i0 := idx2_0 (.int .i64 (g.x k)) (.int .i64 (g.y k))
      have i1 := idx2_1 (.int .i64 (g.x k)) (.int .i64 (g.y k))
      go_wp2
      go_loop [16] (fun i => i = .int .i64 0 ∨ (i = .int .i64 1 ∧ inR n (g.x k) = true) ∨ (i = .int .i64 2 ∧ inR n (g.x k) = true ∧ inR n (g.y k) = true)) (fun i => 2 - (intOf i).toNat)
      case atStart => exact Or.inl rfl
      case round =>
        rcases hrel with rfl | ⟨rfl, hx⟩ | ⟨rfl, hx, hy⟩
        · go_wp2
          · have t : g.x k < 0 ∨ (n : Int) ≤ g.x k := by assumption
            go_ret
            exact ⟨ret_bool (prs_no hlt (by rw [inR_no t]; rfl)).symm, hbl1⟩
          · have t : 0 ≤ g.x k ∧ g.x k < (n : Int) := by assumption
            go_round
            case rel => exact Or.inr (Or.inl ⟨rfl, by simp [inR, t]⟩)
            case measure => simp [intOf]
          · have t : g.x k < 0 := by assumption
            go_ret
            exact ⟨ret_bool (prs_no hlt (by rw [inR_no (Or.inl t)]; rfl)).symm, hbl1⟩
        · go_wp2
          · have t : g.y k < 0 ∨ (n : Int) ≤ g.y k := by assumption
            go_ret
            exact ⟨ret_bool (prs_no hlt (by rw [inR_no t]; simp)).symm, hbl1⟩
          · have t : 0 ≤ g.y k ∧ g.y k < (n : Int) := by assumption
            go_round
            case rel => exact Or.inr (Or.inr ⟨rfl, hx, by simp [inR, t]⟩)
            case measure => simp [intOf]
          · have t : g.y k < 0 := by assumption
            go_ret
            exact ⟨ret_bool (prs_no hlt (by rw [inR_no (Or.inl t)]; simp)).symm, hbl1⟩
        · go_wp2
          go_roundw
          case rel =>
            refine ⟨k + 1, by omega, by go_num, fun i hi => ?_, hbl1⟩
            rcases Nat.lt_succ_iff_lt_or_eq.1 hi with h | h
            · exact HD.out i h
            · subst h; rw [hx, hy]; rfl
          case measure => simp [intOf]; omega
    · have e : k = g.len := by omega
      have HE : Hid (k = g.len) := e
      clear e
      go_wp2
      go_ret
      refine ⟨ret_bool (Eq.symm ?_), hbl⟩
      unfold prsB
      rw [decide_eq_true_eq]
      exact fun i hi => HD.out i (by have := HE.out; omega)
end Go.Proofs.Ytomjippaokakcaa
