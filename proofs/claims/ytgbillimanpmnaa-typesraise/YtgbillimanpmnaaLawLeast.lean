/- The walk of the statement LatticeLeast. -/
import Derived.Test.YtgbillimanpmnaaCls
namespace Go.Proofs.Ytgbillimanpmnaa
open Go.RowKit

theorem leq_in {n : Strs} {g : Grid} {a b : Int} (h : leqB n g a b = true) : inR n.len a = true ∧ inR n.len b = true ∧ formedB n g = true ∧ g.B a.toNat b.toNat = true := by
  unfold leqB at h
  rw [Bool.and_eq_true, Bool.and_eq_true, Bool.and_eq_true] at h
  exact ⟨h.1.1.1, h.1.1.2, h.1.2, h.2⟩
theorem prs_yes {n : Strs} {g : Grid} {p : Prs} (h : ∀ i, i < p.len → leqB n g (p.x i) (p.y i) = true) : prsB p n.len = true := by
  unfold prsB
  rw [decide_eq_true_eq]
  intro i hi
  have := leq_in (h i hi)
  rw [this.1, this.2.1]; rfl

theorem war_in {n : Strs} {g : Grid} (hF : formedB n g = true) {M : Nat → Nat → Bool} (hM : ∀ r c, r < n.len → c < n.len → M r c = true → Lq g r c) : ∀ k, k ≤ n.len → ∀ r c, r < n.len → c < n.len → war M k r c = true → Lq g r c
  | 0, _, r, c, hr, hc, h => hM r c hr hc h
  | k + 1, hk, r, c, hr, hc, h => by
    unfold war warStep at h
    rw [Bool.or_eq_true, Bool.and_eq_true] at h
    rcases h with h | ⟨h1, h2⟩
    · exact war_in hF hM k (by omega) r c hr hc h
    · exact lq_trans hF hr (by omega) hc (war_in hF hM k (by omega) r k hr (by omega) h1) (war_in hF hM k (by omega) k c (by omega) hc h2)
theorem war_has (M : Nat → Nat → Bool) (r c : Nat) (h : M r c = true) : ∀ k, war M k r c = true
  | 0 => h
  | k + 1 => by unfold war warStep; rw [war_has M r c h k]; rfl
theorem least_in {n : Strs} {g : Grid} {p : Prs} (hF : formedB n g = true) (h : ∀ i, i < p.len → leqB n g (p.x i) (p.y i) = true) {r c : Nat} (hr : r < n.len) (hc : c < n.len) (hl : leastM p n.len r c = true) : g.B r c = true := by
  refine war_in hF (M := prsM p p.len) (fun r c hr hc hm => ?_) n.len (Nat.le_refl _) r c hr hc hl
  unfold prsM at hm
  rw [Bool.or_eq_true, decide_eq_true_eq, beq_iff_eq] at hm
  rcases hm with rfl | ⟨i, hi, h1, h2⟩
  · exact lq_refl hF hr
  · have := (leq_in (h i hi)).2.2.2
    rw [h1, h2] at this
    exact this
theorem least_has {n : Strs} {g : Grid} {p : Prs} (h : ∀ i, i < p.len → leqB n g (p.x i) (p.y i) = true) {i : Nat} (hi : i < p.len) : leastM p n.len (p.x i).toNat (p.y i).toNat = true := by
  refine war_has _ _ _ ?_ _
  unfold prsM
  rw [Bool.or_eq_true, decide_eq_true_eq]
  have q := leq_in (h i hi)
  obtain ⟨a, ha, _⟩ := inR_nat q.1
  obtain ⟨b, hb, _⟩ := inR_nat q.2.1
  exact Or.inr ⟨i, hi, by rw [ha]; rfl, by rw [hb]; rfl⟩

theorem made_leq {n n' : Strs} {p : Prs} {T : Nat} (h1 : n'.len = n.len) (h2 : n'.s = n.s) (hE : makeE n p = 0) : formedB n' (gridOf T n.len (leastM p n.len)) = true := by
  rw [formed_canon h1 h2]
  by_cases h : 8 < n.len ∨ 64 < p.len
  · rw [makeE_1 h] at hE; omega
  cases h2 : prsB p n.len
  · rw [makeE_10 h h2] at hE; omega
  cases h3 : formedM n.len n.s (leastM p n.len)
  · rw [makeE_4 h h2 h3] at hE; omega
  · rfl
theorem make_04 {n : Strs} {p : Prs} (h : ¬ (8 < n.len ∨ 64 < p.len)) (h2 : prsB p n.len = true) : makeE n p = 0 ∨ makeE n p = 4 := by
  cases h3 : formedM n.len n.s (leastM p n.len)
  · exact Or.inr (makeE_4 h h2 h3)
  · exact Or.inl (makeE_0 h h2 h3)
theorem leqB_grid {n : Strs} {T N : Nat} {M : Nat → Nat → Bool} (hF : formedB n (gridOf T N M) = true) {a b : Nat} (ha : a < n.len) (hb : b < n.len) {r : Bool} (h : M a b = r) : leqB n (gridOf T N M) a b = r := by
  rw [leqB_nat hF ha hb]; exact h

end Go.Proofs.Ytgbillimanpmnaa
