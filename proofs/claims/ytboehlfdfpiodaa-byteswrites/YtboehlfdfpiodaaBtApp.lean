/- Layer 4: bytes appended to bytes of the call's own. -/
import Derived.Test.YtboehlfdfpiodaaBtRead2
namespace Go.Proofs.Ytboehlfdfpiodaa
open Go.RowKit

/-- The cells of bytes. -/
def cellsL (l : List Nat) : List Value := l.map fun x : Nat => .int .u8 (x : Int)
theorem cells_eq (B : Bys) : B.cells = cellsL B.l := by simp [Bys.cells, Bys.l, cellsL, Function.comp_def]
theorem cellsL_app (a b : List Nat) : cellsL a ++ cellsL b = cellsL (a ++ b) := by simp [cellsL]
theorem cellsL_len (a : List Nat) : (cellsL a).length = a.length := by simp [cellsL]

/-- v owns the bytes l, in a block from base on. -/
def Own (w : World) (base : Nat) (v : Value) (l : List Nat) : Prop := w.ownsRow base 5 1 v l.length (cellsL l) ∧ ∀ x ∈ l, x < 256
theorem Own.nil (w : World) (base : Nat) : Own w base (.slice none 0 0) [] := ⟨World.ownsRow_nil _ _ _ _, by simp⟩
theorem Own.bys {w : World} {base : Nat} {v : Value} {l : List Nat} (h : Own w base v l) : ∃ R : Bys, v = .slice R.ao R.len R.cap ∧ R.At w ∧ R.l = l ∧ base ≤ R.b := by
  obtain ⟨h, hlt⟩ := h
  have h' := h
  obtain ⟨hlen, h0 | ⟨g, cap, cur, rfl, hb, hg, hn, hc, hs, ht⟩⟩ := h
  · obtain ⟨rfl, h0⟩ := h0
    have : l = [] := List.eq_nil_of_length_eq_zero h0
    subst this
    exact ⟨⟨none, base, 0, 0, 0, fun _ => 0⟩, rfl, ⟨Nat.le_refl _, fun h => absurd h (Nat.lt_irrefl _), fun _ => rfl, Nat.zero_le _, fun _ h => absurd h (Nat.not_lt_zero _), fun _ h => absurd h (Nat.not_lt_zero _)⟩, rfl, Nat.le_refl _⟩
  · have hget : ∀ i, i < l.length → l.getD i 0 ∈ l := fun i hi => by
      rw [List.getD_eq_getElem?_getD, List.getElem?_eq_getElem hi]; exact List.getElem_mem _
    refine ⟨⟨some ⟨g, 0, none⟩, g, 0, l.length, cap, fun i => l.getD i 0⟩, rfl, ⟨hn, fun _ => rfl, fun h => (by cases h), by unfold maxLen at hc; exact hc, fun i hi => ?_, fun i hi => hlt _ (hget i hi)⟩, ?_, hb⟩
    · show w.cell? ⟨g, 0 + i, none⟩ = _
      have hi' : i < l.length := hi
      rw [Nat.zero_add, h'.cellAt i (by omega)]
      simp [cellsL, hi']
    · unfold Bys.l
      apply List.ext_getElem?
      intro i
      by_cases hi : i < l.length
      · simp [hi]
      · rw [List.getElem?_eq_none (by simp; omega), List.getElem?_eq_none (by omega)]
theorem Own.kept {w w' : World} {base : Nat} {v : Value} {l : List Nat} (h : Own w base v l) (hb : Below w.heap.size w w') : Own w' base v l := by
  refine ⟨h.1.kept (gb_of_below hb none) ?_, h.2⟩
  by_cases e : v.ownBlock = none
  · exact Or.inl e
  · exact Or.inr e
/-- Where it lies. -/
theorem Own.block {w : World} {base : Nat} {v : Value} {l : List Nat} (h : Own w base v l) : ∀ k, v.ownBlock = some k → base ≤ k := fun k hk => (h.1.lt k hk).1

theorem run_append_bys (w : World) (ty : TypeId) (base : Nat) (v : Value) (l : List Nat) (ho : Own w base v l) (Y : Bys) (hY : Y.At w) (hm : l.length + Y.len ≤ 10000000) (hb : base ≤ w.heap.size) :
    ∃ v' w', (Builtin.append_ #[22, 22] ty #[v, .slice Y.ao Y.len Y.cap]).run Try.prog w = .ok v' w' ∧ Own w' base v' (l ++ Y.l) ∧ w.grownBy w' v.ownBlock := by
  obtain ⟨i0, hi, hz0, hz1, hz2⟩ := info_parts Try.infoByte
  have hlt : ∀ x ∈ l ++ Y.l, x < 256 := by
    intro x hx
    rcases List.mem_append.1 hx with h | h
    · exact ho.2 x h
    · exact Y.l_lt hY x h
  cases ha : Y.ao with
  | none =>
    have h0 : Y.len = 0 := by
      by_cases h : 0 < Y.len
      · have := hY.nil h; rw [ha] at this; cases this
      · omega
    have hc := hY.none ha
    have hl : Y.l = [] := List.eq_nil_of_length_eq_zero (by rw [Y.len_l, h0])
    refine ⟨v, w, ?_, ?_, gb_refl _ _⟩
    · rw [h0, hc]
      exact run_append_owned_none (P := Try.prog) w base 22 ty 5 i0 1 Try.underlying22 hi v _ _ ho.1
    · rw [hl, List.append_nil]; exact ho
  | some a =>
    have hn : ∀ j u, Y.cells[j]? = some u → w.cell? (a.add j) = some u := by
      intro j u hv
      have hj : j < Y.len := by have := (List.getElem?_eq_some_iff.1 hv).1; rwa [Y.cells_len] at this
      have he := hY.nil (by omega)
      rw [ha] at he
      injection he with he
      rw [he]
      exact Bys.news hY j u hv
    obtain ⟨v', w', hr, h2, h3, _⟩ := run_append_own (P := Try.prog) w base 22 ty 5 i0 (.int .u8 0) 1 1 Try.underlying22 hi hz0 hz1 hz2 rfl (by decide) v _ _ ho.1 a Y.len Y.cap Y.cells (by rw [Y.cells_len]; omega) hn Y.cells_one (by unfold maxLen; omega) (by omega) hb
    refine ⟨v', w', hr, ⟨?_, hlt⟩, h3⟩
    rw [cells_eq, cellsL_app] at h2
    rw [List.length_append, Y.len_l]
    exact h2

theorem wp_append_bys {w : World} {o : Oper} {a : Act} {K : Act → World → Prop} {Q : Exit → Act → World → Prop} (s x : Operand)
    (hop : o.op = .call { callee := .builtin .append, args := #[s, x], argTypes := #[22, 22] }) (base : Nat) (v : Value) (l : List Nat) (hs : a.eval s = v) (ho : Own w base v l) (Y : Bys) (hx : a.eval x = .slice Y.ao Y.len Y.cap) (hY : Y.At w)
    (hm : l.length + Y.len ≤ 10000000) (hb : base ≤ w.heap.size) (h : ∀ v' w', Hid (Own w' base v' (l ++ Y.l)) → w.grownBy w' v.ownBlock → K (a.put o.dst v') w') : o.wp Try.prog a w K Q := by
  obtain ⟨v', w', hr, h2, h3⟩ := run_append_bys w o.type base v l ho Y hY hm hb
  unfold Oper.wp execOp
  simp only [hop, resolve, invoke, builtin, Sem.run_bind, Sem.run_pure, Result.andThen_ok, List.map_toArray, List.map_cons, List.map_nil, hs, hx, hr]
  exact h v' w' h2 h3
theorem wpList_append_bys {w : World} {ops : Array Oper} {rest : List Oper} {o : Oper} {a : Act} {Q : Exit → Act → World → Prop} (hgd : o.guard = none) (s x : Operand)
    (hop : o.op = .call { callee := .builtin .append, args := #[s, x], argTypes := #[22, 22] }) (base : Nat) (v : Value) (l : List Nat) (hs : a.eval s = v) (ho : Own w base v l) (Y : Bys) (hx : a.eval x = .slice Y.ao Y.len Y.cap) (hY : Y.At w)
    (hm : l.length + Y.len ≤ 10000000) (hb : base ≤ w.heap.size) (h : ∀ v' w', Hid (Own w' base v' (l ++ Y.l)) → w.grownBy w' v.ownBlock → wpList Try.prog ops Q rest (a.put o.dst v') w') : wpList Try.prog ops Q (o :: rest) a w :=
  wpList_plain hgd fun _ hK => wp_append_bys s x hop base v l hs ho Y hx hY hm hb fun v' w' h2 h3 => hK _ _ (h v' w' h2 h3)
theorem step_append_bys {w : World} {ops : Array Oper} {o : Oper} {a : Act} {K : Act → World → Prop} {Q : Exit → Act → World → Prop} {E : Prop} (hgd : o.guard = none) (s x : Operand)
    (hop : o.op = .call { callee := .builtin .append, args := #[s, x], argTypes := #[22, 22] }) (base : Nat) (v : Value) (l : List Nat) (hs : a.eval s = v) (ho : Own w base v l) (Y : Bys) (m : Nat) (hx : a.eval x = .slice Y.ao m Y.cap) (hmm : m = Y.len) (hY : Y.At w)
    (hm : l.length + Y.len ≤ 10000000) (hb : base ≤ w.heap.size) (h : ∀ v' w', Hid (Own w' base v' (l ++ Y.l)) → w.grownBy w' v.ownBlock → K (a.put o.dst v') w') : if Region.wanted o (yielded ops a.tmps) = true then Oper.wp Try.prog o a w K Q else E := by
  have hw : Region.wanted o (yielded ops a.tmps) = true := by simp [Region.wanted, hgd]
  rw [if_pos hw]
  subst hmm
  exact wp_append_bys s x hop base v l hs ho Y hx hY hm hb h
/-- '[]byte{}': the empty list's block. -/
theorem Own.lit (w : World) : Own (w.alloc (.cells #[] 5)) w.heap.size (.slice (some ⟨w.heap.size, 0, none⟩) 0 0) [] :=
  ⟨World.ownsRow_lit w #[] 0 (Nat.le_refl _) (by omega) rfl, by simp⟩
end Go.Proofs.Ytboehlfdfpiodaa
