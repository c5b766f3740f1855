/- What the reference's Make lays: its table, a row a block, behind the world that it began with. -/
import Derived.Test.YtibhcbdofadamaaP3
import Derived.Laws.AppendOwnNone
import Derived.Deep.RegionHeld3
import Derived.Deep.RegionLaw
import Derived.Deep.AppendLies
import Derived.Deep.LoopGhost
import Derived.Test.YtibhcbdofadamaaP2
namespace Go.Proofs.Ytibhcbdofadamaa
open Go.RowKit

/-- Behind W1 nothing that was there has turned but the table's variable: block B7, cell 1. -/
structure St (W1 wr : World) (B7 : Nat) : Prop where
  os : wr.os = W1.os
  tape : wr.tape = W1.tape
  output : wr.output = W1.output
  size : W1.heap.size ≤ wr.heap.size
  blk : ∀ b, b < W1.heap.size → b ≠ B7 → wr.heap[b]? = W1.heap[b]?
  l0 : wr.cell? ⟨B7, 0, none⟩ = W1.cell? ⟨B7, 0, none⟩
  f1 : wr.frozen? ⟨B7, 1, none⟩ = false

def rowCells (R : Nat → Nat) (n k : Nat) : List Value := (List.range k).map fun j => .slice (some ⟨R j, 0, none⟩) n n
/-- The table, k rows of it, behind W1. -/
structure RG (W1 wr : World) (B7 n k : Nat) (v : Value) (R : Nat → Nat) (M : Nat → Nat → Bool) : Prop where
  st : St W1 wr B7
  l1 : wr.cell? ⟨B7, 1, none⟩ = some v
  own : wr.ownsRow W1.heap.size 31 1 v k (rowCells R n k)
  rows : ∀ j, j < k → wr.rowIs (R j) 4 n (fun c => .bool (M j c))
  inj : ∀ i j, i < k → j < k → R i = R j → i = j
  ge : ∀ j, j < k → W1.heap.size ≤ R j

theorem names_app {n : Strs} {w w1 : World} {v : Value} (h8 : n.len ≤ 8) (hsz : ∀ i, i < n.len → (n.s i).size ≤ 9223372036854775807) (h : w1.ownsRow (w.heap.size + 2) 9 1 v (0 + n.len) ([] ++ strCells n)) :
    ∃ (ao : Option Addr) (b c : Nat), v = .slice ao n.len c ∧ Strs.At ⟨ao, b, 0, n.len, c, n.s⟩ w1 ∧ (0 < n.len → w.heap.size + 2 ≤ b) := by
  rw [Nat.zero_add, List.nil_append] at h
  have h' := h
  obtain ⟨_, ⟨rfl, h0⟩ | ⟨gb, cap, cur, rfl, hge, _, hc, _⟩⟩ := h'
  · refine ⟨none, 0, 0, by rw [h0], ⟨?_, fun hp => ?_, ?_, fun i hi => ?_, fun i hi => ?_⟩, fun hp => by omega⟩
    · show n.len ≤ 0; omega
    · have hp' : 0 < n.len := hp; omega
    · show n.len ≤ _; omega
    · have hi' : i < n.len := hi; omega
    · have hi' : i < n.len := hi; omega
  · refine ⟨some ⟨gb, 0, none⟩, gb, cap, rfl, ⟨hc, fun _ => rfl, ?_, fun i hi => ?_, hsz⟩, fun _ => hge⟩
    · show n.len ≤ _; omega
    · have hi' : i < n.len := hi
      show w1.cell? ⟨gb, 0 + i, none⟩ = _
      rw [Nat.zero_add, h.cellAt i (by simpa using hi')]
      exact strCells_at n i hi'

theorem grown_none {w w' : World} (h : w.grownBy w' none) : Below w.heap.size w w' := ⟨h.os, h.tape, h.output, h.size, fun k hk => h.block k hk (by simp)⟩

theorem two_free (w : World) (u v u2 v2 : Value) (t t2 : TypeId) {w1 : World} (hb : Below ((w.alloc (.cells #[u, v] t)).alloc (.cells #[u2, v2] t2)).heap.size ((w.alloc (.cells #[u, v] t)).alloc (.cells #[u2, v2] t2)) w1) :
    (w1.frozen? ⟨w.heap.size, 0, none⟩ = false ∧ w1.frozen? ⟨w.heap.size, 1, none⟩ = false) ∧ w1.frozen? ⟨w.heap.size + 1, 0, none⟩ = false ∧ w1.frozen? ⟨w.heap.size + 1, 1, none⟩ = false := by
  refine ⟨⟨?_, ?_⟩, ?_, ?_⟩
  all_goals (rw [hb.frozen (by simp <;> omega)]; simp)

/-- The world where the two variables lie and the names are laid. -/
structure Head (w W1 : World) (n : Strs) (ao : Option Addr) (b c : Nat) : Prop where
  bl : Below w.heap.size w W1
  lt : w.heap.size + 1 < W1.heap.size
  r0 : W1.cell? ⟨w.heap.size, 0, none⟩ = some (.slice none 0 0)
  r1 : W1.cell? ⟨w.heap.size, 1, none⟩ = some (.slice none 0 0)
  rf0 : W1.frozen? ⟨w.heap.size, 0, none⟩ = false
  rf1 : W1.frozen? ⟨w.heap.size, 1, none⟩ = false
  l0 : W1.cell? ⟨w.heap.size + 1, 0, none⟩ = some (.slice ao n.len c)
  l1 : W1.cell? ⟨w.heap.size + 1, 1, none⟩ = some (.slice none 0 0)
  lf1 : W1.frozen? ⟨w.heap.size + 1, 1, none⟩ = false
  nat : Strs.At ⟨ao, b, 0, n.len, c, n.s⟩ W1
  ge : 0 < n.len → w.heap.size + 2 ≤ b
theorem head_of {w w1 : World} {n : Strs} {ao : Option Addr} {b c : Nat} (T1 : Two w w1 (.slice none 0 0) (.slice none 0 0) (.slice none 0 0) (.slice none 0 0))
    (hfz : (w1.frozen? ⟨w.heap.size, 0, none⟩ = false ∧ w1.frozen? ⟨w.heap.size, 1, none⟩ = false) ∧ w1.frozen? ⟨w.heap.size + 1, 0, none⟩ = false ∧ w1.frozen? ⟨w.heap.size + 1, 1, none⟩ = false)
    (hn1 : Strs.At ⟨ao, b, 0, n.len, c, n.s⟩ w1) (hge : 0 < n.len → w.heap.size + 2 ≤ b) : Head w (w1.setCell ⟨w.heap.size + 1, 0, none⟩ (.slice ao n.len c)) n ao b c where
  bl := T1.bl.setCell (by show w.heap.size ≤ w.heap.size + 1; omega) _
  lt := by simpa [World.setCell] using T1.lt
  r0 := by rw [World.cell?_setCell_other _ _ _ _ (by simp)]; exact T1.c0
  r1 := by rw [World.cell?_setCell_other _ _ _ _ (by simp)]; exact T1.c1
  rf0 := by rw [World.frozen?_setCell]; exact hfz.1.1
  rf1 := by rw [World.frozen?_setCell]; exact hfz.1.2
  l0 := World.cell?_setCell_same _ _ _ T1.c2
  l1 := by rw [World.cell?_setCell_other _ _ _ _ (by simp)]; exact T1.c3
  lf1 := by rw [World.frozen?_setCell]; exact hfz.2.2
  nat := hn1.set T1.c2 _
  ge := hge

theorem RG.start {w W1 : World} {n : Strs} {ao : Option Addr} {b c : Nat} (h : Head w W1 n ao b c) : RG W1 W1 (w.heap.size + 1) n.len 0 (.slice none 0 0) (fun _ => 0) (fun r c => c == r) :=
  ⟨⟨rfl, rfl, rfl, Nat.le_refl _, fun _ _ _ => rfl, rfl, h.lf1⟩, h.l1, World.ownsRow_nil _ _ _ _, fun _ h => absurd h (Nat.not_lt_zero _), fun _ _ h => absurd h (Nat.not_lt_zero _), fun _ h => absurd h (Nat.not_lt_zero _)⟩

theorem own_type {w : World} {base : Nat} {e : TypeId} {size : Nat} {v : Value} {n : Nat} {xs : List Value} (h : w.ownsRow base e size v n xs) {b : Nat} (hb : v.ownBlock = some b) : ∃ cur, w.heap[b]? = some (.cells cur e) := by
  obtain ⟨_, ⟨rfl, _⟩ | ⟨gb, cap, cur, rfl, hg, hh, _⟩⟩ := h
  · simp [Value.ownBlock] at hb
  · have : gb = b := by simpa [Value.ownBlock] using hb
    subst this
    exact ⟨cur, hh⟩
theorem RG.row_ne {W1 wr : World} {B7 n k : Nat} {v : Value} {R : Nat → Nat} {M : Nat → Nat → Bool} (h : RG W1 wr B7 n k v R M) {j : Nat} (hj : j < k) : some (R j) ≠ v.ownBlock := fun e => by
  obtain ⟨cur, hc⟩ := own_type h.own e.symm
  obtain ⟨c, hr, _, _⟩ := h.rows j hj
  rw [hc] at hr
  simp at hr
theorem rowCells_succ (R : Nat → Nat) (n k x : Nat) : rowCells (fun j => if j < k then R j else x) n (k + 1) = rowCells R n k ++ [.slice (some ⟨x, 0, none⟩) n n] := by
  unfold rowCells
  rw [List.range_succ, List.map_append]
  congr 1
  · exact List.map_congr_left (fun j hj => by simp [List.mem_range.1 hj])
  · simp

theorem RG.grow {W1 wr w2 : World} {B7 n k : Nat} {v : Value} {R : Nat → Nat} {M : Nat → Nat → Bool} {gg cap : Nat} {o' : Obj} (h : RG W1 wr B7 n k v R M) (hB7 : B7 < W1.heap.size)
    (hown2 : w2.ownsRow W1.heap.size 31 1 (.slice (some ⟨gg, 0, none⟩) (k + 1) cap) (k + 1) (rowCells R n k ++ [.slice (some ⟨wr.heap.size, 0, none⟩) n n]))
    (hgrow : ((wr.alloc (.cells (madeCells #[.bool false] n) 4)).alloc o').drew.grownBy w2 v.ownBlock) :
    RG W1 (w2.setCell ⟨B7, 1, none⟩ (.slice (some ⟨gg, 0, none⟩) (k + 1) cap)) B7 n (k + 1) (.slice (some ⟨gg, 0, none⟩) (k + 1) cap) (fun j => if j < k then R j else wr.heap.size) (fun r c => if r < k then M r c else false) := by
  have hsz := h.st.size
  have bsz : ((wr.alloc (.cells (madeCells #[.bool false] n) 4)).alloc o').drew.heap.size = wr.heap.size + 2 := by
    show ((wr.alloc _).alloc o').heap.size = _
    simp
  have hb : Below wr.heap.size wr ((wr.alloc (.cells (madeCells #[.bool false] n) 4)).alloc o').drew := (((Below.refl _ _).alloc (Nat.le_refl _) _).alloc (by simp) _).drew
  have old : ∀ b, b < wr.heap.size → some b ≠ v.ownBlock → w2.heap[b]? = wr.heap[b]? := fun b hb1 hne => (hgrow.block b (by rw [bsz]; omega) hne).trans (hb.block b hb1)
  have hne7 : some B7 ≠ v.ownBlock := fun e => by have := own_ge h.own e.symm; omega
  have o7 := old B7 (by omega) hne7
  refine ⟨⟨hgrow.os.trans h.st.os, hgrow.tape.trans h.st.tape, hgrow.output.trans h.st.output, ?_, fun b hb1 hb2 => ?_, ?_, ?_⟩, ?_, ?_, fun j hj => ?_, fun i j hi hj e => ?_, fun j hj => ?_⟩
  · have := hgrow.size
    rw [bsz] at this
    show W1.heap.size ≤ (w2.setCell _ _).heap.size
    simp [World.setCell]; omega
  · rw [Below.heap_setCell _ _ _ _ hb2, old b (by omega) (fun e => by have := own_ge h.own e.symm; omega)]
    exact h.st.blk b hb1 hb2
  · rw [World.cell?_setCell_other _ _ _ _ (by simp), World.cell?_of_block (w := wr) o7]
    exact h.st.l0
  · rw [World.frozen?_setCell, World.frozen?_of_block (w := wr) o7]
    exact h.st.f1
  · exact World.cell?_setCell_same _ _ _ ((World.cell?_of_block (w := wr) o7).trans h.l1)
  · rw [rowCells_succ]
    exact ownsRow_setCell_below hown2 hB7 _
  · by_cases hjk : j < k
    · have hlt := (h.rows j hjk).lt
      have hr := (h.rows j hjk).of_block (old (R j) hlt (h.row_ne hjk))
      have hge := h.ge j hjk
      simp only [hjk, if_true]
      exact hr.setOther (by show R j ≠ B7; omega) _
    · have e : j = k := by omega
      subst e
      have hnew : ((wr.alloc (.cells (madeCells #[.bool false] n) 4)).alloc o').drew.rowIs wr.heap.size 4 n (fun _ => .bool false) := ((World.rowIs_made wr (.bool false) n 4).alloc _).drew
      have hne : some wr.heap.size ≠ v.ownBlock := fun e => by
        obtain ⟨cur, hc⟩ := own_type h.own e.symm
        have := (Array.getElem?_eq_some_iff.1 hc).1
        omega
      have hr := hnew.of_block (hgrow.block wr.heap.size (by rw [bsz]; omega) hne)
      simp only [Nat.lt_irrefl, if_false]
      exact hr.setOther (by show wr.heap.size ≠ B7; omega) _
  · by_cases h1 : i < k
    · by_cases h2 : j < k
      · simp only [h1, h2, if_true] at e; exact h.inj i j h1 h2 e
      · simp only [h1, h2, if_true, if_false] at e
        have := (h.rows i h1).lt
        omega
    · by_cases h2 : j < k
      · simp only [h1, h2, if_true, if_false] at e
        have := (h.rows j h2).lt
        omega
      · omega
  · by_cases h1 : j < k
    · simp only [h1, if_true]; exact h.ge j h1
    · simp only [h1, if_false]; omega

theorem RG.set {W1 wr : World} {B7 n k : Nat} {v : Value} {R : Nat → Nat} {M : Nat → Nat → Bool} (h : RG W1 wr B7 n k v R M) (hB7 : B7 < W1.heap.size) {a c : Nat} (ha : a < k) :
    RG W1 (wr.setCell ⟨R a, c, none⟩ (.bool true)) B7 n k v R (setM M a c) := by
  have hge := h.ge a ha
  refine ⟨⟨h.st.os, h.st.tape, h.st.output, by simpa [World.setCell] using h.st.size, fun b hb1 hb2 => ?_, ?_, ?_⟩, ?_, ?_, fun j hj => ?_, h.inj, h.ge⟩
  · rw [Below.heap_setCell _ _ _ _ (by show b ≠ R a; omega)]; exact h.st.blk b hb1 hb2
  · rw [World.cell?_setCell_other _ _ _ _ (fun e => by have := congrArg Addr.block e; simp at this; omega)]; exact h.st.l0
  · rw [World.frozen?_setCell]; exact h.st.f1
  · rw [World.cell?_setCell_other _ _ _ _ (fun e => by have := congrArg Addr.block e; simp at this; omega)]; exact h.l1
  · obtain ⟨h1, h2⟩ := h.own
    refine ⟨h1, ?_⟩
    rcases h2 with h2 | ⟨gb, cap, cur, hv, hg, hh, r⟩
    · exact Or.inl h2
    · refine Or.inr ⟨gb, cap, cur, hv, hg, ?_, r⟩
      rw [Below.heap_setCell _ _ _ _ (by
        show gb ≠ R a
        intro e
        obtain ⟨cc, hr, _, _⟩ := h.rows a ha
        rw [← e, hh] at hr
        simp at hr)]
      exact hh
  · by_cases e : j = a
    · subst e
      exact ((h.rows j hj).set c _).congr (fun i _ => by
        unfold setM
        by_cases ec : i = c
        · simp [ec]
        · simp [ec])
    · exact ((h.rows j hj).setOther (by show R j ≠ R a; exact fun e' => e (h.inj j a hj ha e')) _).congr (fun i _ => by simp [setM, e])

theorem RG.congr {W1 wr : World} {B7 n k : Nat} {v : Value} {R : Nat → Nat} {M M' : Nat → Nat → Bool} (h : RG W1 wr B7 n k v R M) (e : ∀ r c, r < k → c < n → M r c = M' r c) : RG W1 wr B7 n k v R M' :=
  ⟨h.st, h.l1, h.own, fun j hj => (h.rows j hj).congr (fun c hc => by rw [e j c hj hc]), h.inj, h.ge⟩

/-- The table's value, and where each row lies. -/
theorem RG.top {W1 wr : World} {B7 n k : Nat} {v : Value} {R : Nat → Nat} {M : Nat → Nat → Bool} (h : RG W1 wr B7 n k v R M) (hk : 0 < k) : ∃ gg cap, v = .slice (some ⟨gg, 0, none⟩) k cap ∧ k ≤ cap ∧ ∀ j, j < k → wr.cell? ⟨gg, j, none⟩ = some (.slice (some ⟨R j, 0, none⟩) n n) := by
  have ho := h.own
  have ho' := ho
  obtain ⟨_, ⟨_, h0⟩ | ⟨gb, cap, cur, rfl, hg, hh, hc, _⟩⟩ := ho'
  · omega
  · refine ⟨gb, cap, rfl, hc, fun j hj => ?_⟩
    rw [ho.cellAt j (by simpa using hj)]
    simp [rowCells, hj]

theorem two_new (w : World) (o o' : Obj) : ((w.alloc o).alloc o').drew.heap[w.heap.size + 1]? = some o' := by
  have h := heap_alloc_new (w.alloc o) o'
  have e : (w.alloc o).heap.size = w.heap.size + 1 := by simp
  rw [e] at h
  exact h

theorem RG.cellAt {W1 wr : World} {B7 n k l c gg : Nat} {R : Nat → Nat} {M : Nat → Nat → Bool} (h : RG W1 wr B7 n k (.slice (some ⟨gg, 0, none⟩) l c) R M) {j : Nat} (hj : j < k) : wr.cell? ⟨gg, j, none⟩ = some (.slice (some ⟨R j, 0, none⟩) n n) := by
  have ho := h.own
  obtain ⟨gg', cap, hv, _, hc⟩ := h.top (by omega)
  injection hv with h1 h2 h3
  injection h1 with h1
  injection h1 with h1
  subst h1
  exact hc j hj
theorem RG.any {W1 wr : World} {B7 n k : Nat} {v : Value} {R : Nat → Nat} {M : Nat → Nat → Bool} (h : RG W1 wr B7 n k v R M) : ∃ (ao : Option Addr) (gg cap : Nat), v = .slice ao k cap ∧ k ≤ cap ∧ (0 < k → ao = some ⟨gg, 0, none⟩) := by
  by_cases hk : 0 < k
  · obtain ⟨gg, cap, rfl, hc, _⟩ := h.top hk
    exact ⟨_, gg, cap, rfl, hc, fun _ => rfl⟩
  · have e : k = 0 := by omega
    subst e
    obtain ⟨_, ⟨rfl, _⟩ | ⟨gb, cap, cur, rfl, hg, hh, hc, _⟩⟩ := h.own
    · exact ⟨none, 0, 0, rfl, Nat.le_refl _, fun h => absurd h (Nat.lt_irrefl _)⟩
    · exact ⟨_, gb, cap, rfl, hc, fun _ => rfl⟩

theorem RG.diag {W1 wr : World} {B7 n k : Nat} {v : Value} {R : Nat → Nat} (h : RG W1 wr B7 n (k + 1) v R (setM (fun r c => if r < k then (c == r) else false) k k)) : RG W1 wr B7 n (k + 1) v R (fun r c => c == r) :=
  h.congr (fun r c hr _ => by
    unfold setM
    by_cases e : r = k
    · subst e
      by_cases ec : c = r
      · subst ec; simp
      · simp [ec]
    · have : r < k := by omega
      simp [e, this])

theorem RG.below {w W1 wr : World} {n : Strs} {ao : Option Addr} {b c : Nat} {m k : Nat} {v : Value} {R : Nat → Nat} {M : Nat → Nat → Bool} (H : Head w W1 n ao b c) (h : RG W1 wr (w.heap.size + 1) m k v R M) : Below w.heap.size w wr :=
  H.bl.trans ⟨h.st.os, h.st.tape, h.st.output, h.st.size, fun i hi => h.st.blk i (by have := H.lt; omega) (by omega)⟩
theorem RG.zero {w W1 wr : World} {n : Strs} {ao : Option Addr} {b c : Nat} {m k : Nat} {v : Value} {R : Nat → Nat} {M : Nat → Nat → Bool} (H : Head w W1 n ao b c) (h : RG W1 wr (w.heap.size + 1) m k v R M) :
    wr.cell? ⟨w.heap.size, 0, none⟩ = some (.slice none 0 0) ∧ wr.cell? ⟨w.heap.size, 1, none⟩ = some (.slice none 0 0) ∧ wr.frozen? ⟨w.heap.size, 0, none⟩ = false ∧ wr.frozen? ⟨w.heap.size, 1, none⟩ = false := by
  have hb := h.st.blk w.heap.size (by have := H.lt; omega) (by omega)
  exact ⟨(World.cell?_of_block (w := W1) hb).trans H.r0, (World.cell?_of_block (w := W1) hb).trans H.r1, (World.frozen?_of_block (w := W1) hb).trans H.rf0, (World.frozen?_of_block (w := W1) hb).trans H.rf1⟩
theorem RG.names {w W1 wr : World} {n : Strs} {ao : Option Addr} {b c : Nat} {m k : Nat} {v : Value} {R : Nat → Nat} {M : Nat → Nat → Bool} (H : Head w W1 n ao b c) (h : RG W1 wr (w.heap.size + 1) m k v R M) : Strs.At ⟨ao, b, 0, n.len, c, n.s⟩ wr :=
  ⟨H.nat.lc, H.nat.nil, H.nat.bound, fun i hi => by
    have hi' : i < n.len := hi
    have h1 := H.ge (by omega)
    have hc := H.nat.cell i hi
    have hb := h.st.blk b (cell_lt hc) (by omega)
    exact (World.cell?_of_block (w := W1) hb).trans hc, H.nat.sz⟩

theorem RG.drew {W1 wr : World} {B7 n k : Nat} {v : Value} {R : Nat → Nat} {M : Nat → Nat → Bool} (h : RG W1 wr B7 n k v R M) : RG W1 wr.drew B7 n k v R M :=
  ⟨⟨h.st.os, h.st.tape, h.st.output, h.st.size, h.st.blk, h.st.l0, h.st.f1⟩, h.l1, h.own.drew, fun j hj => (h.rows j hj).drew, h.inj, h.ge⟩
theorem within_war (n : Nat) (P : Nat → Nat → Bool) : ∀ k, Within n P (war P k)
  | 0 => fun _ _ _ _ h => h
  | k + 1 => fun r c hr hc h => by
    show (war P k r c || (war P k r k && war P k k c)) = true
    rw [within_war n P k r c hr hc h]; rfl

theorem prsM_succ (g : Prs) (m x y : Nat) (hx : g.x m = x) (hy : g.y m = y) (r c : Nat) : setM (prsM g m) x y r c = prsM g (m + 1) r c := by
  unfold setM prsM
  rw [Bool.eq_iff_iff]
  simp only [Bool.or_eq_true, beq_iff_eq, decide_eq_true_eq]
  constructor
  · intro h
    split at h
    · rename_i e
      exact Or.inr ⟨m, by omega, by rw [hx, e.1], by rw [hy, e.2]⟩
    · simp only [Bool.or_eq_true, beq_iff_eq, decide_eq_true_eq] at h
      rcases h with h | ⟨i, hi, h⟩
      · exact Or.inl h
      · exact Or.inr ⟨i, by omega, h⟩
  · intro h
    split
    · rfl
    · rename_i e
      simp only [Bool.or_eq_true, beq_iff_eq, decide_eq_true_eq]
      rcases h with h | ⟨i, hi, h1, h2⟩
      · exact Or.inl h
      · by_cases ei : i = m
        · subst ei
          exact absurd ⟨by omega, by omega⟩ e
        · exact Or.inr ⟨i, by omega, h1, h2⟩

theorem out_cases {n : Nat} {x y : Int} (h : (inR n x && inR n y) = false) : x < 0 ∨ (0 ≤ x ∧ y < 0) ∨ (0 ≤ x ∧ 0 ≤ y ∧ (n : Int) ≤ x) ∨ (0 ≤ x ∧ 0 ≤ y ∧ x < n ∧ (n : Int) ≤ y) := by
  unfold inR at h
  simp only [Bool.and_eq_false_iff, decide_eq_false_iff_not] at h
  omega
theorem in_cases {n : Nat} {x y : Int} (h : (inR n x && inR n y) = true) : (∃ k : Nat, x = k ∧ k < n) ∧ ∃ k : Nat, y = k ∧ k < n := by
  rw [Bool.and_eq_true] at h
  exact ⟨inR_nat h.1, inR_nat h.2⟩
theorem prsB_yes {g : Prs} {n : Nat} (h : ∀ i, i < g.len → (inR n (g.x i) && inR n (g.y i)) = true) : prsB g n = true := by
  unfold prsB
  rw [decide_eq_true_eq]; exact h

/-- The table as a grid. -/
def gridR (ao : Option Addr) (gg n cap : Nat) (R : Nat → Nat) (M : Nat → Nat → Bool) : Grid := ⟨ao, gg, 0, n, cap, fun j => some ⟨R j, 0, none⟩, fun _ => n, fun _ => n, R, fun _ => 0, M⟩
theorem RG.grid {W1 wr : World} {B7 n gg cap : Nat} {ao : Option Addr} {R : Nat → Nat} {M : Nat → Nat → Bool} (h : RG W1 wr B7 n n (.slice ao n cap) R M) (hc : n ≤ cap) (ha : 0 < n → ao = some ⟨gg, 0, none⟩) (h8 : n ≤ 8) : (gridR ao gg n cap R M).At wr where
  lc := hc
  nil := ha
  bound := by show n ≤ _; omega
  lbound := fun _ _ => by show n ≤ _; omega
  row := fun r hr => by
    have hr' : r < n := hr
    have := ha (by omega)
    subst this
    show wr.cell? ⟨gg, 0 + r, none⟩ = _
    rw [Nat.zero_add]; exact h.cellAt hr'
  adr := fun _ _ _ => rfl
  cell := fun r hr c hc => by
    show wr.cell? ⟨R r, 0 + c, none⟩ = _
    rw [Nat.zero_add]; exact (h.rows r hr).cell hc

theorem formed_canonR {ao ag : Option Addr} {b c gg len cap : Nat} {s : Nat → ByteArray} {R : Nat → Nat} {M : Nat → Nat → Bool} : formedB ⟨ao, b, 0, len, c, s⟩ (gridR ag gg len cap R M) = formedM len s M := rfl
theorem Pass.less {n : Nat} {P M M' : Nat → Nat → Bool} {more : Bool} {a b c k : Nat} (h : Pass n P M M' more a b c) (hk : cnt2 M n n + 1 ≤ k) : (cnt2 M' n n + if more then 1 else 0) < k := by
  cases hm : more
  · rw [(h.no hm).1]; simp; omega
  · have := h.yes hm; simp; omega
theorem Pass.closed {n : Nat} {P M M' : Nat → Nat → Bool} {more : Bool} (h : Pass n P M M' more n 0 0) : more = false → ∀ x y z, x < n → y < n → z < n → (M' x y && M' y z && !M' x z) = false := fun hm x y z hx hy hz => by
  rw [(h.no hm).1]
  exact (h.no hm).2 x y z hx hy hz (Or.inl hx)

theorem gridR_set {ao : Option Addr} {gg n cap : Nat} {R : Nat → Nat} {M : Nat → Nat → Bool} {w : World} (h : (gridR ao gg n cap R M).At w) {a : Addr} (hg : 0 < n → a.block < gg) (hr : ∀ j, j < n → a.block < R j) (v : Value) : (gridR ao gg n cap R M).At (w.setCell a v) where
  lc := h.lc
  nil := h.nil
  bound := h.bound
  lbound := h.lbound
  row := fun r hr' => by
    have hr2 : r < n := hr'
    have := hg (by omega)
    rw [World.cell?_setCell_other _ _ _ _ (fun e => by have := congrArg Addr.block e; simp [gridR] at this; omega)]
    exact h.row r hr'
  adr := h.adr
  cell := fun r hr' c hc => by
    have := hr r hr'
    rw [World.cell?_setCell_other _ _ _ _ (fun e => by have := congrArg Addr.block e; simp [gridR] at this; omega)]
    exact h.cell r hr' c hc
theorem RG.high {W1 wr : World} {B7 n gg cap s : Nat} {ao : Option Addr} {R : Nat → Nat} {M : Nat → Nat → Bool} (h : RG W1 wr B7 n n (.slice ao n cap) R M) (ha : 0 < n → ao = some ⟨gg, 0, none⟩) (hs : s + 1 < W1.heap.size) : (0 < n → s < gg) ∧ ∀ j, j < n → s < R j :=
  ⟨fun hn => by
    have := ha hn
    subst this
    have := own_ge h.own (b := gg) (by simp [Value.ownBlock])
    omega, fun j hj => by have := h.ge j hj; omega⟩

/-- What the reference's Make answers. -/
structure RMade (n : Strs) (p : Prs) (e : Int) (n' : Strs) (g' : Grid) (w' : World) : Prop where
  er : e = makeE n p
  nat : n'.At w'
  gat : g'.At w'
  yes : e = 0 → n'.len = n.len ∧ n'.s = n.s ∧ ∃ ao gg cap R, g' = gridR ao gg n.len cap R (leastM p n.len)
  no : e ≠ 0 → n'.len = 0 ∧ g'.len = 0
theorem rmade_no {n : Strs} {p : Prs} {e : Int} (w : World) (h : makeE n p = e) (h0 : e ≠ 0) : RMade n p e noStrs noGrid w := ⟨h.symm, noStrs_at w, noGrid_at w, fun h => absurd h h0, fun _ => ⟨rfl, rfl⟩⟩

end Go.Proofs.Ytibhcbdofadamaa

/- The walk of the reference's Make. -/
namespace Go.Proofs.Ytibhcbdofadamaa
open Go.RowKit

end Go.Proofs.Ytibhcbdofadamaa

/- The walks of the reference's Label, Leq, Join, Meet, Both: they tell just what the program's tell. -/
namespace Go.Proofs.Ytibhcbdofadamaa
open Go.RowKit

theorem sqat_of {n : Strs} {g : Grid} {w : World} (hF : formedB n g = true) (hn : n.At w) (hg : g.At w) : SqAt n g w := by
  obtain ⟨p1, p2, p3, p4⟩ := formed_parts hF
  exact ⟨hn, hg, p2, p3, p1, fun r hr => p4 r (by omega)⟩

theorem rjoin_eq {n : Strs} {g : Grid} (hF : formedB n g = true) {a b : Nat} (ha : a < n.len) (hb : b < n.len) : findI (abvB n g a b) n.len 0 = near2 g.len g.U a b := by
  obtain ⟨h1, h2, h3, h4, h5⟩ := jn_is hF ha hb
  rw [h1]
  refine findI_one _ h2 ((abv_iff n g a b _).2 ⟨h3, h4, h5⟩) (fun i hi hp => ?_)
  obtain ⟨q1, q2, q3⟩ := (abv_iff n g a b i).1 hp
  exact isJoin_uniq hF ⟨hi, q1, q2, q3⟩ ⟨h2, h3, h4, h5⟩
theorem rmeet_eq {n : Strs} {g : Grid} (hF : formedB n g = true) {a b : Nat} (ha : a < n.len) (hb : b < n.len) : findI (blwB n g a b) n.len 0 = near2 g.len g.D a b := by
  obtain ⟨h1, h2, h3, h4, h5⟩ := mt_is hF ha hb
  rw [h1]
  refine findI_one _ h2 ((blw_iff n g a b _).2 ⟨h3, h4, h5⟩) (fun i hi hp => ?_)
  obtain ⟨q1, q2, q3⟩ := (blw_iff n g a b i).1 hp
  exact isMeet_uniq hF ⟨hi, q1, q2, q3⟩ ⟨h2, h3, h4, h5⟩

end Go.Proofs.Ytibhcbdofadamaa

/- Layer 2: types, as they lie in memory; what is told of them. -/
namespace Go.Proofs.Ytibhcbdofadamaa
open Go.RowKit

/-- The worlds grown from w0 by new memory. -/
def Gr (w0 : World) : Type := { w' : World // Below w0.heap.size w0 w' }
def Gr.w {w0 : World} (x : Gr w0) : World := x.1
theorem Gr.bl {w0 : World} (x : Gr w0) : Below w0.heap.size w0 x.w := x.2
theorem up {w w' : World} (hb : Below w.heap.size w w') {a : Addr} {v : Value} (h : w.cell? a = some v) : w'.cell? a = some v := (hb.cell (p := a) (World.block_lt_of_cell? w a h)).trans h
theorem Gr.cell {w0 : World} (x : Gr w0) {a : Addr} {v : Value} (h : w0.cell? a = some v) : x.w.cell? a = some v := up x.bl h
theorem wp_region_gr {P : Program} {id : Nat} {Q : Exit → Act → World → Prop} {a : Act} {w : World} {l : List Oper} (hm : P.follows .mixedOrders = true) (hB : Region.lexB .any l.toArray = true)
    (h : wpQuiet P l.toArray (fun w' => ∃ x : Gr w, w' = x.w) (fun a' => ∀ w', (∃ x : Gr w, w' = x.w) → Q .normal a' w') l a) : (Code.region id l.toArray true).wp P Q a w :=
  wp_region_quiet (C := fun w' => ∃ x : Gr w, w' = x.w) hm hB ⟨⟨_, (Below.refl _ _).drew⟩, rfl⟩ (by simpa using h)
theorem Below.next {w0 w1 w2 : World} (h : Below w0.heap.size w0 w1) (k : Below w1.heap.size w1 w2) : Below w0.heap.size w0 w2 := h.trans (k.mono h.size)
theorem Calls.gr {P : Program} {f : FuncId} {args : Array Value} {w0 : World} {r : Value} (x : Gr w0)
    (h : Calls P f args x.w fun e w' => e = .returned r ∧ Below x.w.heap.size x.w w') : Calls P f args x.w fun e w'' => e = .returned r ∧ ∃ y : Gr w0, w'' = y.w :=
  h.mono fun _ _ ⟨he, hb⟩ => ⟨he, ⟨_, Below.next x.bl hb⟩, rfl⟩

/-- A type: its numbers, where its Parts lie, and they ('dm': none; it lies nowhere). -/
inductive Ty where
  | dm : Ty
  | mk (k l h e : Int) (ao : Option Addr) (b o len cap : Nat) (ps : Nat → Ty) : Ty
def Ty.k : Ty → Int | .dm => 0 | .mk k _ _ _ _ _ _ _ _ _ => k
def Ty.l : Ty → Int | .dm => 0 | .mk _ l _ _ _ _ _ _ _ _ => l
def Ty.h : Ty → Int | .dm => 0 | .mk _ _ h _ _ _ _ _ _ _ => h
def Ty.e : Ty → Int | .dm => 0 | .mk _ _ _ e _ _ _ _ _ _ => e
def Ty.ao : Ty → Option Addr | .dm => none | .mk _ _ _ _ ao _ _ _ _ _ => ao
def Ty.b : Ty → Nat | .dm => 0 | .mk _ _ _ _ _ b _ _ _ _ => b
def Ty.o : Ty → Nat | .dm => 0 | .mk _ _ _ _ _ _ o _ _ _ => o
def Ty.len : Ty → Nat | .dm => 0 | .mk _ _ _ _ _ _ _ len _ _ => len
def Ty.cap : Ty → Nat | .dm => 0 | .mk _ _ _ _ _ _ _ _ cap _ => cap
def Ty.ps : Ty → Nat → Ty | .dm => fun _ => .dm | .mk _ _ _ _ _ _ _ _ _ ps => ps
def Ty.v (t : Ty) : Value := .agg #[.int .i64 t.k, .int .i64 t.l, .slice t.ao t.len t.cap, .int .i64 t.h, .int .i64 t.e]

/-- Five cells that hold a type. -/
structure C5 (w : World) (b o : Nat) (t : Ty) : Prop where
  c0 : w.cell? ⟨b, o, none⟩ = some (.int .i64 t.k)
  c1 : w.cell? ⟨b, o + 1, none⟩ = some (.int .i64 t.l)
  c2 : w.cell? ⟨b, o + 2, none⟩ = some (.slice t.ao t.len t.cap)
  c3 : w.cell? ⟨b, o + 3, none⟩ = some (.int .i64 t.h)
  c4 : w.cell? ⟨b, o + 4, none⟩ = some (.int .i64 t.e)
theorem C5.kept {w w' : World} {b o : Nat} {t : Ty} (h : C5 w b o t) (hb : Below w.heap.size w w') : C5 w' b o t := ⟨up hb h.c0, up hb h.c1, up hb h.c2, up hb h.c3, up hb h.c4⟩

def Ty.At (w : World) : Ty → Prop
  | .dm => False
  | .mk _ _ _ _ ao b o len _ ps => (0 < len → ao = some ⟨b, o, none⟩) ∧ len ≤ 9223372036854775807 ∧ ∀ i, i < len → C5 w b (o + i * 5) (ps i) ∧ Ty.At w (ps i)
theorem Ty.At.kept {w w' : World} (hb : Below w.heap.size w w') : ∀ {t : Ty}, t.At w → t.At w'
  | .dm, h => h.elim
  | .mk _ _ _ _ _ _ _ _ _ _, h => ⟨h.1, h.2.1, fun i hi => ⟨(h.2.2 i hi).1.kept hb, Ty.At.kept hb (h.2.2 i hi).2⟩⟩
theorem Ty.At.nil {w : World} : ∀ {t : Ty}, t.At w → 0 < t.len → t.ao = some ⟨t.b, t.o, none⟩
  | .dm, h => h.elim
  | .mk _ _ _ _ _ _ _ _ _ _, h => h.1
theorem Ty.At.bound {w : World} : ∀ {t : Ty}, t.At w → t.len ≤ 9223372036854775807
  | .dm, h => h.elim
  | .mk _ _ _ _ _ _ _ _ _ _, h => h.2.1
theorem Ty.At.cells {w : World} : ∀ {t : Ty}, t.At w → ∀ {i}, i < t.len → C5 w t.b (t.o + i * 5) (t.ps i)
  | .dm, h, _, _ => h.elim
  | .mk _ _ _ _ _ _ _ _ _ _, h, i, hi => (h.2.2 i hi).1
theorem Ty.At.part {w : World} : ∀ {t : Ty}, t.At w → ∀ {i}, i < t.len → (t.ps i).At w
  | .dm, h, _, _ => h.elim
  | .mk _ _ _ _ _ _ _ _ _ _, h, i, hi => (h.2.2 i hi).2

/-- A variable that holds a type, at a block's beginning. -/
structure Bx (w : World) (B : Nat) (t : Ty) : Prop where
  c0 : w.cell? ⟨B, 0, none⟩ = some (.int .i64 t.k)
  c1 : w.cell? ⟨B, 1, none⟩ = some (.int .i64 t.l)
  c2 : w.cell? ⟨B, 2, none⟩ = some (.slice t.ao t.len t.cap)
  c3 : w.cell? ⟨B, 3, none⟩ = some (.int .i64 t.h)
  c4 : w.cell? ⟨B, 4, none⟩ = some (.int .i64 t.e)
theorem Bx.kept {w w' : World} {B : Nat} {t : Ty} (h : Bx w B t) (hb : Below w.heap.size w w') : Bx w' B t := ⟨up hb h.c0, up hb h.c1, up hb h.c2, up hb h.c3, up hb h.c4⟩
theorem Bx.new (w : World) (t : Ty) : Bx (w.alloc (.cells #[.int .i64 t.k, .int .i64 t.l, .slice t.ao t.len t.cap, .int .i64 t.h, .int .i64 t.e] 24)) w.heap.size t := by
  constructor <;> simp
/-- A variable that holds a lattice. -/
structure Bl (w : World) (B : Nat) (n : Strs) (g : Grid) : Prop where
  c0 : w.cell? ⟨B, 0, none⟩ = some (.slice n.ao n.len n.cap)
  c1 : w.cell? ⟨B, 1, none⟩ = some (.slice g.ao g.len g.cap)
theorem Bl.kept {w w' : World} {B : Nat} {n : Strs} {g : Grid} (h : Bl w B n g) (hb : Below w.heap.size w w') : Bl w' B n g := ⟨up hb h.c0, up hb h.c1⟩
theorem below_alloc (w : World) (o : Obj) : Below w.heap.size w (w.alloc o) := (Below.refl _ _).alloc (Nat.le_refl _) _

def tyO (t : Ty) : Obj := .cells #[.int .i64 t.k, .int .i64 t.l, .slice t.ao t.len t.cap, .int .i64 t.h, .int .i64 t.e] 24
theorem alloc_size (w : World) (o : Obj) : (w.alloc o).heap.size = w.heap.size + 1 := by simp
theorem start_tt (w : World) (s t : Ty) : Bx ((w.alloc (tyO s)).alloc (tyO t)) w.heap.size s ∧ Bx ((w.alloc (tyO s)).alloc (tyO t)) (w.heap.size + 1) t ∧ Below w.heap.size w ((w.alloc (tyO s)).alloc (tyO t)) := by
  have h4 := Bx.new (w.alloc (tyO s)) t
  rw [alloc_size] at h4
  exact ⟨(Bx.new w s).kept (below_alloc _ _), h4, Below.next (below_alloc _ _) (below_alloc _ _)⟩

def sumTo (f : Nat → Nat) : Nat → Nat
  | 0 => 0
  | k + 1 => sumTo f k + f k
theorem sumTo_mono (f : Nat → Nat) {a b : Nat} (h : a ≤ b) : sumTo f a ≤ sumTo f b := by
  induction h with
  | refl => exact Nat.le_refl _
  | step _ ih => exact Nat.le_trans ih (Nat.le_add_right _ _)
theorem sumTo_le (f : Nat → Nat) {i n : Nat} (h : i < n) : sumTo f i + f i ≤ sumTo f n := sumTo_mono f (show i + 1 ≤ n from h)
/-- How many nodes. -/
def Ty.nodes : Ty → Nat
  | .dm => 1
  | .mk _ _ _ _ _ _ _ len _ ps => 1 + sumTo (fun i => Ty.nodes (ps i)) len
/-- How many Parts a Kind has. -/
def arityI (k : Int) : Int := if k = 1 then 0 else if k = 2 then 0 else if k = 5 then 1 else if k = 3 then 2 else if k = 4 then 2 else -1
def bndI (N : Nat) (k h e : Int) : Bool := if k = 4 then inR N h && ((e == -1) || inR N e) else (h == 0) && (e == 0)
/-- Formed, but for the number of nodes, where it stands so deep. -/
def Ty.fm (N : Nat) : Ty → Nat → Bool
  | .dm, _ => false
  | .mk k l h e _ _ _ len _ ps, d => (((decide (d ≤ 6) && ((len : Int) == arityI k)) && inR N l) && bndI N k h e) && decide (∀ i, i < len → Ty.fm N (ps i) (d + 1) = true)
/-- All alike. -/
def Ty.same : Ty → Ty → Bool
  | .dm, t => ((((0 == t.k) && (0 == t.l)) && ((0 == t.h) && (0 == t.e))) && (0 == t.len))
  | .mk k l h e _ _ _ len _ ps, t => ((((k == t.k) && (l == t.l)) && ((h == t.h) && (e == t.e))) && (len == t.len)) && decide (∀ i, i < len → Ty.same (ps i) (t.ps i) = true)
def excB (le : Nat → Nat → Bool) (a b : Int) : Bool := (a == -1) || ((b != -1) && le a.toNat b.toNat)
/-- Below: the first the second, if up, else the second the first. -/
def Ty.bel (le : Nat → Nat → Bool) : Ty → Bool → Ty → Bool
  | .dm, _, _ => false
  | .mk k l h e _ _ _ _ _ ps, true, t => ((k == t.k) && le l.toNat t.l.toNat) && (if k = 3 then Ty.bel le (ps 0) true (t.ps 0) && Ty.bel le (ps 1) true (t.ps 1) else if k = 4 then ((Ty.bel le (ps 0) false (t.ps 0) && Ty.bel le (ps 1) true (t.ps 1)) && le t.h.toNat h.toNat) && excB le e t.e else if k = 5 then Ty.same (ps 0) (t.ps 0) else true)
  | .mk k l h e _ _ _ _ _ ps, false, t => ((t.k == k) && le t.l.toNat l.toNat) && (if t.k = 3 then Ty.bel le (ps 0) false (t.ps 0) && Ty.bel le (ps 1) false (t.ps 1) else if t.k = 4 then ((Ty.bel le (ps 0) true (t.ps 0) && Ty.bel le (ps 1) false (t.ps 1)) && le h.toNat t.h.toNat) && excB le t.e e else if t.k = 5 then Ty.same (t.ps 0) (ps 0) else true)
end Go.Proofs.Ytibhcbdofadamaa

/- Layer 2: the small functions, and the counts of nodes. -/
namespace Go.Proofs.Ytibhcbdofadamaa
open Go.RowKit

end Go.Proofs.Ytibhcbdofadamaa

/- Layer 2: Formed. -/
namespace Go.Proofs.Ytibhcbdofadamaa
open Go.RowKit

theorem fm_eq (N : Nat) (k l h e : Int) (ao : Option Addr) (b o len cap : Nat) (ps : Nat → Ty) (d : Nat) : Ty.fm N (.mk k l h e ao b o len cap ps) d = ((((decide (d ≤ 6) && ((len : Int) == arityI k)) && inR N l) && bndI N k h e) && decide (∀ i, i < len → Ty.fm N (ps i) (d + 1) = true)) := rfl
theorem fm_cases (N : Nat) (k l h e : Int) (ao : Option Addr) (b o len cap : Nat) (ps : Nat → Ty) (d : Nat) :
    (6 < d ∧ Ty.fm N (.mk k l h e ao b o len cap ps) d = false) ∨ (d ≤ 6 ∧ ((len : Int) != arityI k) = true ∧ Ty.fm N (.mk k l h e ao b o len cap ps) d = false) ∨ (d ≤ 6 ∧ ((len : Int) != arityI k) = false ∧ inR N l = false ∧ Ty.fm N (.mk k l h e ao b o len cap ps) d = false) ∨
    (d ≤ 6 ∧ ((len : Int) != arityI k) = false ∧ inR N l = true ∧ bndI N k h e = false ∧ Ty.fm N (.mk k l h e ao b o len cap ps) d = false) ∨ (d ≤ 6 ∧ ((len : Int) != arityI k) = false ∧ inR N l = true ∧ bndI N k h e = true ∧ Ty.fm N (.mk k l h e ao b o len cap ps) d = decide (∀ i, i < len → Ty.fm N (ps i) (d + 1) = true)) := by
  rw [fm_eq]
  by_cases h1 : 6 < d
  · left; exact ⟨h1, by rw [show decide (d ≤ 6) = false from decide_eq_false (by omega)]; rfl⟩
  have h1' : decide (d ≤ 6) = true := decide_eq_true (by omega)
  right
  rw [h1']
  cases h2 : ((len : Int) == arityI k)
  · left; exact ⟨by omega, by simp [bne, h2], rfl⟩
  right
  cases h3 : inR N l
  · left; exact ⟨by omega, by simp [bne, h2], rfl, rfl⟩
  right
  cases h4 : bndI N k h e
  · left; exact ⟨by omega, by simp [bne, h2], rfl, rfl, rfl⟩
  right
  exact ⟨by omega, by simp [bne, h2], rfl, rfl, by simp⟩

end Go.Proofs.Ytibhcbdofadamaa

/- Layer 2: all of these types formed. -/
namespace Go.Proofs.Ytibhcbdofadamaa
open Go.RowKit

/-- Formed, of a formed lattice of so many names. -/
def Ty.ok (N : Nat) (t : Ty) : Bool := t.fm N 1 && decide (t.nodes ≤ 40)

/-- Types in a row that the call itself has laid. -/
def row2 (s t : Ty) : Obj := .cells #[.int .i64 s.k, .int .i64 s.l, .slice s.ao s.len s.cap, .int .i64 s.h, .int .i64 s.e, .int .i64 t.k, .int .i64 t.l, .slice t.ao t.len t.cap, .int .i64 t.h, .int .i64 t.e] 24
theorem row1_at (w : World) (t : Ty) (h : t.At w) : Ty.At (w.alloc (tyO t)) (.mk 0 0 0 0 (some ⟨w.heap.size, 0, none⟩) w.heap.size 0 1 1 (fun _ => t)) :=
  ⟨fun _ => rfl, by omega, fun i hi => ⟨by
    have e : i = 0 := by omega
    subst e
    have X := Bx.new w t
    exact ⟨X.c0, X.c1, X.c2, X.c3, X.c4⟩, h.kept (below_alloc _ _)⟩⟩
theorem row2_at (w : World) (s t : Ty) (hs : s.At w) (ht : t.At w) : Ty.At (w.alloc (row2 s t)) (.mk 0 0 0 0 (some ⟨w.heap.size, 0, none⟩) w.heap.size 0 2 2 (fun i => if i = 0 then s else t)) :=
  ⟨fun _ => rfl, by omega, fun i hi => by
    by_cases e : i = 0
    · subst e
      refine ⟨⟨?_, ?_, ?_, ?_, ?_⟩, hs.kept (below_alloc _ _)⟩
      all_goals simp [row2]
    · have e1 : i = 1 := by omega
      subst e1
      refine ⟨⟨?_, ?_, ?_, ?_, ?_⟩, ht.kept (below_alloc _ _)⟩
      all_goals simp [row2]⟩

/-- Formed, of whatever lattice. -/
def okB (n : Strs) (g : Grid) (t : Ty) : Bool := formedB n g && t.ok n.len

end Go.Proofs.Ytibhcbdofadamaa

/- Layer 2: Same's question of two nodes. -/
namespace Go.Proofs.Ytibhcbdofadamaa
open Go.RowKit

def hdEq (s t : Ty) : Bool := ((((s.k == t.k) && (s.l == t.l)) && (s.h == t.h)) && (s.e == t.e)) && (s.len == t.len)
theorem same_eq (s t : Ty) : s.same t = (hdEq s t && decide (∀ i, i < s.len → (s.ps i).same (t.ps i) = true)) := by
  rcases s with _ | ⟨k, l, h, e, ao, b, o, len, cap, ps⟩
  · show ((((0 == t.k) && (0 == t.l)) && ((0 == t.h) && (0 == t.e))) && (0 == t.len)) = ((((((0 : Int) == t.k) && ((0 : Int) == t.l)) && ((0 : Int) == t.h)) && ((0 : Int) == t.e)) && (0 == t.len) && decide (∀ i : Nat, i < 0 → Ty.same (Ty.dm.ps i) (t.ps i) = true))
    have e : decide (∀ i : Nat, i < 0 → Ty.same (Ty.dm.ps i) (t.ps i) = true) = true := decide_eq_true (fun _ h => absurd h (Nat.not_lt_zero _))
    rw [e]
    cases ((0 : Int) == t.k) <;> cases ((0 : Int) == t.l) <;> cases ((0 : Int) == t.h) <;> cases ((0 : Int) == t.e) <;> simp
  show (((((k == t.k) && (l == t.l)) && ((h == t.h) && (e == t.e))) && (len == t.len)) && decide (∀ i, i < len → Ty.same (ps i) (t.ps i) = true)) = (((((k == t.k) && (l == t.l)) && (h == t.h)) && (e == t.e)) && (len == t.len) && decide (∀ i, i < len → Ty.same (ps i) (t.ps i) = true))
  cases (k == t.k) <;> cases (l == t.l) <;> cases (h == t.h) <;> cases (e == t.e) <;> rfl
theorem hd_cases (s t : Ty) : ((s.k == t.k) = false ∧ hdEq s t = false) ∨ ((s.k == t.k) = true ∧ (s.l == t.l) = false ∧ hdEq s t = false) ∨ ((s.k == t.k) = true ∧ (s.l == t.l) = true ∧ (s.h == t.h) = false ∧ hdEq s t = false) ∨ ((s.k == t.k) = true ∧ (s.l == t.l) = true ∧ (s.h == t.h) = true ∧ (s.e == t.e) = false ∧ hdEq s t = false) ∨ ((s.k == t.k) = true ∧ (s.l == t.l) = true ∧ (s.h == t.h) = true ∧ (s.e == t.e) = true ∧ hdEq s t = ((s.len : Int) == t.len)) := by
  unfold hdEq
  have : ((s.len : Int) == t.len) = (s.len == t.len) := by
    by_cases h : s.len = t.len
    · rw [h]; simp
    · rw [beq_eq_false_iff_ne.2 h, beq_eq_false_iff_ne.2 (by omega)]
  rw [this]
  cases (s.k == t.k) <;> cases (s.l == t.l) <;> cases (s.h == t.h) <;> cases (s.e == t.e) <;> simp

end Go.Proofs.Ytibhcbdofadamaa
