/- Layer 2: bound's own variable and the row that it grows. -/
import Derived.Test.YtepgdkigncjalaaGreatP20
namespace Go.Proofs.YtepgdkigncjalaaGreat
open Go.RowKit

/-- The variable b: its five cells, at a block of the call's own. -/
structure BV (w x : World) (B : Nat) (k l h e : Int) (v : Value) : Prop where
  ge : w.heap.size + 4 ≤ B
  c0 : x.cell? ⟨B, 0, none⟩ = some (.int .i64 k)
  c1 : x.cell? ⟨B, 1, none⟩ = some (.int .i64 l)
  c2 : x.cell? ⟨B, 2, none⟩ = some v
  c3 : x.cell? ⟨B, 3, none⟩ = some (.int .i64 h)
  c4 : x.cell? ⟨B, 4, none⟩ = some (.int .i64 e)
  f : ∀ i, i < 5 → x.frozen? ⟨B, i, none⟩ = false
theorem BV.agree {w x x' : World} {B : Nat} {k l h e : Int} {v : Value} (H : BV w x B k l h e v) (ag : x'.heap[B]? = x.heap[B]?) : BV w x' B k l h e v :=
  ⟨H.ge, (World.cell?_of_block (w := x) ag).trans H.c0, (World.cell?_of_block (w := x) ag).trans H.c1, (World.cell?_of_block (w := x) ag).trans H.c2, (World.cell?_of_block (w := x) ag).trans H.c3, (World.cell?_of_block (w := x) ag).trans H.c4, fun i hi => (World.frozen?_of_block (w := x) ag).trans (H.f i hi)⟩
theorem BV.lt {w x : World} {B : Nat} {k l h e : Int} {v : Value} (H : BV w x B k l h e v) : B < x.heap.size := cell_lt H.c0
theorem BV.kept {w x x' : World} {B : Nat} {k l h e : Int} {v : Value} (H : BV w x B k l h e v) (hb : Below x.heap.size x x') : BV w x' B k l h e v :=
  H.agree (hb.block B H.lt)
theorem BV.set2 {w x : World} {B : Nat} {k l h e : Int} {v : Value} (H : BV w x B k l h e v) (u : Value) : BV w (x.setCell ⟨B, 2, none⟩ u) B k l h e u :=
  ⟨H.ge, by rw [World.cell?_setCell_other _ _ _ _ (by simp)]; exact H.c0, by rw [World.cell?_setCell_other _ _ _ _ (by simp)]; exact H.c1, World.cell?_setCell_same _ _ _ H.c2, by rw [World.cell?_setCell_other _ _ _ _ (by simp)]; exact H.c3, by rw [World.cell?_setCell_other _ _ _ _ (by simp)]; exact H.c4, fun i hi => by rw [World.frozen?_setCell]; exact H.f i hi⟩
theorem BV.set3 {w x : World} {B : Nat} {k l h e : Int} {v : Value} (H : BV w x B k l h e v) (u : Int) : BV w (x.setCell ⟨B, 3, none⟩ (.int .i64 u)) B k l u e v :=
  ⟨H.ge, by rw [World.cell?_setCell_other _ _ _ _ (by simp)]; exact H.c0, by rw [World.cell?_setCell_other _ _ _ _ (by simp)]; exact H.c1, by rw [World.cell?_setCell_other _ _ _ _ (by simp)]; exact H.c2, World.cell?_setCell_same _ _ _ H.c3, by rw [World.cell?_setCell_other _ _ _ _ (by simp)]; exact H.c4, fun i hi => by rw [World.frozen?_setCell]; exact H.f i hi⟩
theorem BV.set4 {w x : World} {B : Nat} {k l h e : Int} {v : Value} (H : BV w x B k l h e v) (u : Int) : BV w (x.setCell ⟨B, 4, none⟩ (.int .i64 u)) B k l h u v :=
  ⟨H.ge, by rw [World.cell?_setCell_other _ _ _ _ (by simp)]; exact H.c0, by rw [World.cell?_setCell_other _ _ _ _ (by simp)]; exact H.c1, by rw [World.cell?_setCell_other _ _ _ _ (by simp)]; exact H.c2, by rw [World.cell?_setCell_other _ _ _ _ (by simp)]; exact H.c3, World.cell?_setCell_same _ _ _ H.c4, fun i hi => by rw [World.frozen?_setCell]; exact H.f i hi⟩
theorem Bl.agree {w w' : World} {B : Nat} {n : Strs} {g : Grid} (h : Bl w B n g) (e : w'.heap[B]? = w.heap[B]?) : Bl w' B n g :=
  ⟨(World.cell?_of_block (w := w) e).trans h.c0, (World.cell?_of_block (w := w) e).trans h.c1⟩
/-- The parameters' variables, where the blocks of them are as they were. -/
theorem BBox.agree {w x x' : World} {n : Strs} {g : Grid} {s t : Ty} (h : BBox w x n g s t) (hbl : Below w.heap.size w x') (hsz : x.heap.size ≤ x'.heap.size) (ag : ∀ b, b < w.heap.size + 4 → x'.heap[b]? = x.heap[b]?) : BBox w x' n g s t :=
  ⟨hbl, Nat.le_trans h.sz hsz, h.l.agree (ag _ (by omega)), h.x.agree (ag _ (by omega)), h.y.agree (ag _ (by omega)), h.r.agree (ag _ (by omega)), fun i hi => (World.frozen?_of_block (w := x) (ag _ (by show w.heap.size + 3 < _; omega))).trans (h.fr i hi)⟩
theorem BBox.set {w x : World} {n : Strs} {g : Grid} {s t : Ty} (h : BBox w x n g s t) {B : Nat} (hB : w.heap.size + 4 ≤ B) (i : Nat) (u : Value) : BBox w (x.setCell ⟨B, i, none⟩ u) n g s t :=
  h.agree (h.bl.setCell (by show w.heap.size ≤ B; omega) _) (by simp [World.setCell]) (fun b hb => Below.heap_setCell _ _ _ _ (by show b ≠ B; omega))
/-- A variable of five cells that a region makes, before the call or behind it. -/
theorem BV.new (w x : World) (h4 : w.heap.size + 4 ≤ x.heap.size) (k l : Int) : BV w (x.alloc (.cells #[.int .i64 k, .int .i64 l, .slice none 0 0, .int .i64 0, .int .i64 0] 34)) x.heap.size k l 0 0 (.slice none 0 0) :=
  ⟨h4, by simp, by simp, by simp, by simp, by simp, fun i _ => frozen_new _ _ _ _⟩
theorem BV.put {w x : World} {B : Nat} (h : Bx x B (leafT 0 0)) (hf : ∀ i, i < 5 → x.frozen? ⟨B, i, none⟩ = false) (h4 : w.heap.size + 4 ≤ B) (k l : Int) : BV w (World.put5 x B (.int .i64 k) (.int .i64 l) (.slice none 0 0) (.int .i64 0) (.int .i64 0)) B k l 0 0 (.slice none 0 0) := by
  obtain ⟨e0, e1, e2, e3, e4⟩ := put5_cells (.int .i64 k) (.int .i64 l) (.slice none 0 0) (.int .i64 0) (.int .i64 0) h hf
  exact ⟨h4, e0, e1, e2, e3, e4, fun i hi => by rw [put5_frozen]; exact hf i hi⟩

/-- A row of j types that v owns, in blocks from base on. -/
structure GR (base : Nat) (x : World) (v : Value) (j : Nat) (ts : Nat → Ty) : Prop where
  own : x.ownsRow base 34 5 v j (flatT ts j)
  at' : ∀ i, i < j → (ts i).At x
  blk : ∀ i, i < j → (ts i).Blk (fun b => base ≤ b ∧ some b ≠ v.ownBlock)
theorem GR.start (base : Nat) (x : World) (ts : Nat → Ty) : GR base x (.slice none 0 0) 0 ts :=
  ⟨World.ownsRow_nil _ _ _ _, fun _ h => absurd h (Nat.not_lt_zero _), fun _ h => absurd h (Nat.not_lt_zero _)⟩
theorem own_agree {w w' : World} {base : Nat} {e : TypeId} {size : Nat} {v : Value} {n : Nat} {xs : List Value} (h : w.ownsRow base e size v n xs) (ag : ∀ b, base ≤ b → b < w.heap.size → w'.heap[b]? = w.heap[b]?) : w'.ownsRow base e size v n xs := by
  obtain ⟨h1, h2⟩ := h
  refine ⟨h1, ?_⟩
  rcases h2 with h2 | ⟨g, cap, cur, hv, hg, hh, r⟩
  · exact Or.inl h2
  · exact Or.inr ⟨g, cap, cur, hv, hg, (ag g hg (Array.getElem?_eq_some_iff.1 hh).1).trans hh, r⟩
theorem GR.agree {base : Nat} {x x' : World} {v : Value} {j : Nat} {ts : Nat → Ty} (h : GR base x v j ts) (ag : ∀ b, base ≤ b → b < x.heap.size → x'.heap[b]? = x.heap[b]?) : GR base x' v j ts :=
  ⟨own_agree h.own ag, fun i hi => Ty.At.agree (Q := fun b => (base ≤ b ∧ some b ≠ v.ownBlock) ∧ b < x.heap.size) (fun b hq => ag b hq.1.1 hq.2) (h.at' i hi) ((h.blk i hi).and (h.at' i hi).lt), h.blk⟩
theorem GR.kept {base : Nat} {x x' : World} {v : Value} {j : Nat} {ts : Nat → Ty} (h : GR base x v j ts) (hb : Below x.heap.size x x') : GR base x' v j ts :=
  h.agree (fun b _ hlt => hb.block b hlt)
theorem GR.push {base : Nat} {wr w1 w3 : World} {v : Value} {j : Nat} {ts : Nat → Ty} {t : Ty} {gg cap : Nat} (h : GR base wr v j ts) (hs : base ≤ wr.heap.size) (hb : Below wr.heap.size wr w1) (ht : t.At w1) (hk : t.Blk (fun b => wr.heap.size ≤ b))
    (hown : w3.ownsRow base 34 5 (.slice (some ⟨gg, 0, none⟩) (j + 1) cap) (j + 1) (flatT ts j ++ t.vs)) (hgrow : (w1.alloc (tyO t)).grownBy w3 v.ownBlock) (hat : v.ownBlock = some gg ∨ gg = w1.heap.size + 1) :
    GR base w3 (.slice (some ⟨gg, 0, none⟩) (j + 1) cap) (j + 1) (fun i => if i < j then ts i else t) ∧ (∀ b, b < base → w3.heap[b]? = wr.heap[b]?) ∧ wr.heap.size ≤ w3.heap.size ∧ (∀ w : World, w.heap.size ≤ base → Below w.heap.size w wr → Below w.heap.size w w3) := by
  have s2 := hb.size
  have ba := below_alloc w1 (tyO t)
  have sz : (w1.alloc (tyO t)).heap.size = w1.heap.size + 1 := alloc_size _ _
  have old1 : ∀ b, b < w1.heap.size → some b ≠ v.ownBlock → w3.heap[b]? = w1.heap[b]? := fun b hb1 hne => (hgrow.block b (by rw [sz]; omega) hne).trans (ba.block b hb1)
  have old : ∀ b, b < wr.heap.size → some b ≠ v.ownBlock → w3.heap[b]? = wr.heap[b]? := fun b hb1 hne => (old1 b (by omega) hne).trans (hb.block b hb1)
  have lt : ∀ b, v.ownBlock = some b → b < wr.heap.size := fun b hb' => own_lt h.own hb'
  have nat : t.At w3 := Ty.At.agree (Q := fun b => wr.heap.size ≤ b ∧ b < w1.heap.size) (fun b hq => old1 b hq.2 (fun e => by have := lt b e.symm; omega)) ht (hk.and ht.lt)
  have sz3 := hgrow.size
  refine ⟨⟨?_, fun i hi => ?_, fun i hi => ?_⟩, fun b hb1 => old b (by omega) (fun e => by have := own_ge h.own e.symm; omega), by omega, fun w hw hbl => ?_⟩
  · have e : flatT (fun i => if i < j then ts i else t) (j + 1) = flatT ts j ++ t.vs := by
      show flatT (fun i => if i < j then ts i else t) j ++ (if j < j then ts j else t).vs = _
      rw [flat_congr j (us := ts) (fun i hi => by simp [hi]), if_neg (Nat.lt_irrefl _)]
    rw [e]; exact hown
  · by_cases hij : i < j
    · simp only [hij, if_true]
      exact Ty.At.agree (Q := fun b => (base ≤ b ∧ some b ≠ v.ownBlock) ∧ b < wr.heap.size) (fun b hq => old b hq.2 hq.1.2) (h.at' i hij) ((h.blk i hij).and (h.at' i hij).lt)
    · simp only [hij, if_false]
      exact nat
  · have key : ∀ b, (b < wr.heap.size ∧ some b ≠ v.ownBlock) ∨ (wr.heap.size ≤ b ∧ b < w1.heap.size) → some b ≠ (Value.slice (some ⟨gg, 0, none⟩) (j + 1) cap).ownBlock := fun b hq e => by
      have e' : b = gg := by simpa [Value.ownBlock] using e
      subst e'
      rcases hat with hat | hat
      · rcases hq with hq | hq
        · exact hq.2 hat.symm
        · have := lt b hat; omega
      · rcases hq with hq | hq <;> omega
    by_cases hij : i < j
    · simp only [hij, if_true]
      exact ((h.blk i hij).and (h.at' i hij).lt).mono (fun b hq => ⟨hq.1.1, key b (Or.inl ⟨hq.2, hq.1.2⟩)⟩)
    · simp only [hij, if_false]
      exact (hk.and ht.lt).mono (fun b hq => ⟨by omega, key b (Or.inr hq)⟩)
  · refine ⟨hgrow.os.trans (ba.os.trans (hb.os.trans hbl.os)), hgrow.tape.trans (ba.tape.trans (hb.tape.trans hbl.tape)), hgrow.output.trans (ba.output.trans (hb.output.trans hbl.output)), by have := hbl.size; omega, fun b hb1 => ?_⟩
    rw [old b (by omega) (fun e => by have := own_ge h.own e.symm; omega)]
    exact hbl.block b hb1
/-- The row's type. -/
theorem GR.ty {base : Nat} {wr : World} {v : Value} {j : Nat} {ts : Nat → Ty} (h : GR base wr v j ts) (hj : j ≤ 9223372036854775807) : ∃ (ao : Option Addr) (gg cap : Nat), v = .slice ao j cap ∧ ∀ k l hh e, Ty.At wr (.mk k l hh e ao gg 0 j cap ts) ∧ Ty.Blk (fun b => base ≤ b) (.mk k l hh e ao gg 0 j cap ts) := by
  by_cases h0 : 0 < j
  · obtain ⟨gg, cap, rfl, hge, _⟩ := h.own.form h0
    refine ⟨_, gg, cap, rfl, fun k l hh e => ⟨⟨fun _ => rfl, hj, fun i hi => ⟨?_, h.at' i hi⟩⟩, fun _ => hge, fun i hi => (h.blk i hi).mono (fun b hq => hq.1)⟩⟩
    have get : ∀ q, q < 5 → wr.cell? ⟨gg, 0 + i * 5 + q, none⟩ = (ts i).vs[q]? := fun q hq => by
      rw [Nat.zero_add, h.own.cellAt (i * 5 + q) (by omega), flat_get ts j i q hi hq]
    exact ⟨get 0 (by omega), get 1 (by omega), get 2 (by omega), get 3 (by omega), get 4 (by omega)⟩
  · have e : j = 0 := by omega
    subst e
    obtain ⟨_, ⟨rfl, _⟩ | ⟨gb, cap, cur, rfl, hg, _⟩⟩ := h.own
    · exact ⟨none, 0, 0, rfl, fun k l hh e => ⟨⟨fun h => absurd h (Nat.lt_irrefl _), hj, fun _ h => absurd h (Nat.not_lt_zero _)⟩, fun h => absurd h (Nat.lt_irrefl _), fun _ h => absurd h (Nat.not_lt_zero _)⟩⟩
    · exact ⟨_, gb, cap, rfl, fun k l hh e => ⟨⟨fun _ => rfl, hj, fun _ h => absurd h (Nat.not_lt_zero _)⟩, fun h => absurd h (Nat.lt_irrefl _), fun _ h => absurd h (Nat.not_lt_zero _)⟩⟩
end Go.Proofs.YtepgdkigncjalaaGreat
