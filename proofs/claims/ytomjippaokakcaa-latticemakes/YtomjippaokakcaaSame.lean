/- The walks of layer 1's Same, with slices.Equal and slices.EqualFunc. -/
import Derived.Test.YtomjippaokakcaaCls
namespace Go.Proofs.Ytomjippaokakcaa
open Go.RowKit

def eqSB (p q : Strs) : Bool := (p.len == q.len) && decide (∀ i, i < p.len → ((p.s i).toList == (q.s i).toList) = true)
theorem eqS_no {p q : Strs} {k : Nat} (hk : k < p.len) (h : ((p.s k).toList == (q.s k).toList) = false) : eqSB p q = false := by
  unfold eqSB
  rw [Bool.and_eq_false_iff, decide_eq_false_iff_not]
  right
  intro hh
  rw [hh k hk] at h
  exact Bool.noConfusion h

set_option maxRecDepth 100000 in
set_option maxHeartbeats 1000000 in
theorem eqStr_any (p q : Strs) (w : World) (hp : p.At w) (hq : q.At w) :
    Calls Try.prog 53 #[.slice p.ao p.len p.cap, .slice q.ao q.len q.cap] w fun e w' => e = .returned (.bool (eqSB p q)) ∧ Dr w w' := by
  have hpb := hp.bound
  have hqb := hq.bound
  by_cases hl : p.len = q.len
  · have bl : ((p.len : Int) != q.len) = false := by simp [hl]
    have HL : Hid (p.len = q.len) := hl
    by_cases h0 : p.len = 0
    · have HE : Hid (eqSB p q = true) := by show eqSB p q = true; unfold eqSB; rw [hl]; simp; intro i hi; omega
      rw [← hl, h0]
      clear hl HL bl
      go_enter Try.func53, Try.ntmps53
      go_wp2
      go_loop [13] (fun i => i = .int .i64 0) (fun _ => 0)
      case atStart => rfl
      case round =>
        subst hrel
        go_wp2
        go_ret
        exact ⟨ret_bool HE.out.symm, Dr.refl _⟩
    rw [hp.nil (by omega), hq.nil (by omega)]
    clear hl
    go_enter Try.func53, Try.ntmps53
    go_wp2
    go_loopw [13] (fun i wr => ∃ k : Nat, k ≤ p.len ∧ i = .int .i64 k ∧ (∀ x, x < k → ((p.s x).toList == (q.s x).toList) = true) ∧ Dr w wr) (fun i _ => p.len - (intOf i).toNat)
    case atStart => exact ⟨0, Nat.zero_le _, rfl, fun _ h => absurd h (Nat.not_lt_zero _), Dr.refl _⟩
    case round =>
      obtain ⟨k, hk, rfl, hdone, hdr⟩ := hrel
      have HD : Hid (∀ x, x < k → ((p.s x).toList == (q.s x).toList) = true) := hdone
      clear hdone
      by_cases hlt : k < p.len
      · have f1 := (hp.kept (hdr.below _)).cell k hlt
        have f2 := (hq.kept (hdr.below _)).cell k (by have := HL.out; omega)
        have i1 : (k : Int) < p.len := by omega
        have i2 : (k : Int) < q.len := by have := HL.out; omega
        cases hv : ((p.s k).toList == (q.s k).toList)
        · have hv2 : ((p.s k).toList != (q.s k).toList) = true := by rw [bne, hv]; rfl
          go_wp2
          go_quiet (fail)
          go_wp2
          go_ret
          exact ⟨ret_bool (eqS_no hlt hv).symm, hdr.step _⟩
        · have hv2 : ((p.s k).toList != (q.s k).toList) = false := by rw [bne, hv]; rfl
          go_wp2
          go_quiet (fail)
          go_wp2
          go_roundw
          case rel =>
            refine ⟨k + 1, by omega, by go_num, fun x hx => ?_, hdr.step _⟩
            rcases Nat.lt_succ_iff_lt_or_eq.1 hx with h | h
            · exact HD.out x h
            · subst h; exact hv
          case measure => simp [intOf]; omega
      · have HE : Hid (eqSB p q = true) := by
          show eqSB p q = true
          unfold eqSB
          rw [HL.out, beq_self_eq_true, Bool.true_and, decide_eq_true_eq]
          exact fun x hx => HD.out x (by have := HL.out; omega)
        go_wp2
        go_ret
        exact ⟨ret_bool HE.out.symm, hdr⟩
  · have bl : ((p.len : Int) != q.len) = true := by rw [bne_iff_ne]; omega
    go_enter Try.func53, Try.ntmps53
    go_wp2
    go_ret
    exact ⟨ret_bool (by simp [eqSB, beq_eq_false_iff_ne.2 hl]), Dr.refl _⟩

/-- A []bool in memory. -/
structure Row where
  ao : Option Addr
  b : Nat
  o : Nat
  len : Nat
  cap : Nat
  f : Nat → Bool
structure Row.At (g : Row) (w : World) : Prop where
  nil : 0 < g.len → g.ao = some ⟨g.b, g.o, none⟩
  bound : g.len ≤ 9223372036854775807
  cell : ∀ i, i < g.len → w.cell? ⟨g.b, g.o + i, none⟩ = some (.bool (g.f i))
theorem Row.At.kept {g : Row} {w w' : World} (h : g.At w) (hb : Below w.heap.size w w') : g.At w' :=
  ⟨h.nil, h.bound, fun i hi => (hb.cell (p := ⟨g.b, g.o + i, none⟩) (cell_lt (h.cell i hi))).trans (h.cell i hi)⟩

def eqRB (p q : Row) : Bool := (p.len == q.len) && decide (∀ i, i < p.len → p.f i = q.f i)
theorem eqR_no {p q : Row} {k : Nat} (hk : k < p.len) (h : p.f k ≠ q.f k) : eqRB p q = false := by
  unfold eqRB
  rw [Bool.and_eq_false_iff, decide_eq_false_iff_not]
  right
  intro hh
  exact h (hh k hk)

set_option maxRecDepth 100000 in
set_option maxHeartbeats 1000000 in
theorem eqRow_any (p q : Row) (w : World) (hp : p.At w) (hq : q.At w) :
    Calls Try.prog 55 #[.slice p.ao p.len p.cap, .slice q.ao q.len q.cap] w fun e w' => e = .returned (.bool (eqRB p q)) ∧ Dr w w' := by
  have hpb := hp.bound
  have hqb := hq.bound
  by_cases hl : p.len = q.len
  · have bl : ((p.len : Int) != q.len) = false := by simp [hl]
    have HL : Hid (p.len = q.len) := hl
    by_cases h0 : p.len = 0
    · have HE : Hid (eqRB p q = true) := by show eqRB p q = true; unfold eqRB; rw [hl]; simp; intro i hi; omega
      rw [← hl, h0]
      clear hl HL bl
      go_enter Try.func55, Try.ntmps55
      go_wp2
      go_loop [13] (fun i => i = .int .i64 0) (fun _ => 0)
      case atStart => rfl
      case round =>
        subst hrel
        go_wp2
        go_ret
        exact ⟨ret_bool HE.out.symm, Dr.refl _⟩
    rw [hp.nil (by omega), hq.nil (by omega)]
    clear hl
    go_enter Try.func55, Try.ntmps55
    go_wp2
    go_loopw [13] (fun i wr => ∃ k : Nat, k ≤ p.len ∧ i = .int .i64 k ∧ (∀ x, x < k → p.f x = q.f x) ∧ Dr w wr) (fun i _ => p.len - (intOf i).toNat)
    case atStart => exact ⟨0, Nat.zero_le _, rfl, fun _ h => absurd h (Nat.not_lt_zero _), Dr.refl _⟩
    case round =>
      obtain ⟨k, hk, rfl, hdone, hdr⟩ := hrel
      have HD : Hid (∀ x, x < k → p.f x = q.f x) := hdone
      clear hdone
      by_cases hlt : k < p.len
      · have f1 := (hp.kept (hdr.below _)).cell k hlt
        have f2 := (hq.kept (hdr.below _)).cell k (by have := HL.out; omega)
        have i1 : (k : Int) < p.len := by omega
        have i2 : (k : Int) < q.len := by have := HL.out; omega
        have HN : Hid (p.f k = q.f k → ∀ x, x < k + 1 → p.f x = q.f x) := fun hh x hx => by
          rcases Nat.lt_succ_iff_lt_or_eq.1 hx with h | h
          · exact HD.out x h
          · subst h; exact hh
        have HO : Hid (p.f k ≠ q.f k → eqRB p q = false) := fun h => eqR_no hlt h
        cases v1 : p.f k
        all_goals cases v2 : q.f k
        all_goals
          rw [v1] at f1
          rw [v2] at f2
          go_wp2
          go_quiet (fail)
          go_wp2
          first
            | (go_roundw
               case rel => exact ⟨k + 1, by omega, by go_num, HN.out (by rw [v1, v2]), hdr.step _⟩
               case measure => simp [intOf]; omega)
            | (go_ret
               exact ⟨ret_bool (HO.out (by rw [v1, v2]; simp)).symm, hdr.step _⟩)
      · have HE : Hid (eqRB p q = true) := by
          show eqRB p q = true
          unfold eqRB
          rw [HL.out, beq_self_eq_true, Bool.true_and, decide_eq_true_eq]
          exact fun x hx => HD.out x (by have := HL.out; omega)
        go_wp2
        go_ret
        exact ⟨ret_bool HE.out.symm, hdr⟩
  · have bl : ((p.len : Int) != q.len) = true := by rw [bne_iff_ne]; omega
    go_enter Try.func55, Try.ntmps55
    go_wp2
    go_ret
    exact ⟨ret_bool (by simp [eqRB, beq_eq_false_iff_ne.2 hl]), Dr.refl _⟩
end Go.Proofs.Ytomjippaokakcaa
