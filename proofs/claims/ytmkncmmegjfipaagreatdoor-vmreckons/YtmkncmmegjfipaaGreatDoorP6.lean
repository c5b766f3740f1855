/- What the reference's Make lays: its table, a row a block, behind the world that it began with. -/
import Derived.Test.YtmkncmmegjfipaaGreatDoorP3
import Derived.Test.YtmkncmmegjfipaaGreatDoorP5
import Derived.Laws.AppendOwnNone
import Derived.Deep.RegionHeld3
import Derived.Deep.RegionLaw
import Derived.Deep.AppendLies
namespace Go.Proofs.YtmkncmmegjfipaaGreatDoor
open Go.RowKit

/-- Behind W1 nothing that was there has turned but the table's variable: block B7, cell 1. -/
structure St (W1 wr : World) (B7 : Nat) : Prop where
  os : wr.os = W1.os
  tape : wr.tape = W1.tape
  output : wr.output = W1.output
  size : W1.heap.size ≤ wr.heap.size
  blk : ∀ b, b < W1.heap.size → b ≠ B7 → wr.heap[b]? = W1.heap[b]?
  l0 : wr.cell? ⟨B7, 0, none⟩ = W1.cell? ⟨B7, 0, none⟩
  f1 : wr.frozen? ⟨B7, 1, none⟩ = false

def rowCells (R : Nat → Nat) (n k : Nat) : List Value := (List.range k).map fun j => .slice (some ⟨R j, 0, none⟩) n n
/-- The table, k rows of it, behind W1. -/
structure RG (W1 wr : World) (B7 n k : Nat) (v : Value) (R : Nat → Nat) (M : Nat → Nat → Bool) : Prop where
  st : St W1 wr B7
  l1 : wr.cell? ⟨B7, 1, none⟩ = some v
  own : wr.ownsRow W1.heap.size 99 1 v k (rowCells R n k)
  rows : ∀ j, j < k → wr.rowIs (R j) 4 n (fun c => .bool (M j c))
  inj : ∀ i j, i < k → j < k → R i = R j → i = j
  ge : ∀ j, j < k → W1.heap.size ≤ R j

theorem names_app {n : Strs} {w w1 : World} {v : Value} (h8 : n.len ≤ 8) (hsz : ∀ i, i < n.len → (n.s i).size ≤ 9223372036854775807) (h : w1.ownsRow (w.heap.size + 2) 9 1 v (0 + n.len) ([] ++ strCells n)) :
    ∃ (ao : Option Addr) (b c : Nat), v = .slice ao n.len c ∧ Strs.At ⟨ao, b, 0, n.len, c, n.s⟩ w1 ∧ (0 < n.len → w.heap.size + 2 ≤ b) := by
  rw [Nat.zero_add, List.nil_append] at h
  have h' := h
  obtain ⟨_, ⟨rfl, h0⟩ | ⟨gb, cap, cur, rfl, hge, _, hc, _⟩⟩ := h'
  · refine ⟨none, 0, 0, by rw [h0], ⟨?_, fun hp => ?_, ?_, fun i hi => ?_, fun i hi => ?_⟩, fun hp => by omega⟩
    · show n.len ≤ 0; omega
    · have hp' : 0 < n.len := hp; omega
    · show n.len ≤ _; omega
    · have hi' : i < n.len := hi; omega
    · have hi' : i < n.len := hi; omega
  · refine ⟨some ⟨gb, 0, none⟩, gb, cap, rfl, ⟨hc, fun _ => rfl, ?_, fun i hi => ?_, hsz⟩, fun _ => hge⟩
    · show n.len ≤ _; omega
    · have hi' : i < n.len := hi
      show w1.cell? ⟨gb, 0 + i, none⟩ = _
      rw [Nat.zero_add, h.cellAt i (by simpa using hi')]
      exact strCells_at n i hi'

theorem grown_none {w w' : World} (h : w.grownBy w' none) : Below w.heap.size w w' := ⟨h.os, h.tape, h.output, h.size, fun k hk => h.block k hk (by simp)⟩

theorem two_free (w : World) (u v u2 v2 : Value) (t t2 : TypeId) {w1 : World} (hb : Below ((w.alloc (.cells #[u, v] t)).alloc (.cells #[u2, v2] t2)).heap.size ((w.alloc (.cells #[u, v] t)).alloc (.cells #[u2, v2] t2)) w1) :
    (w1.frozen? ⟨w.heap.size, 0, none⟩ = false ∧ w1.frozen? ⟨w.heap.size, 1, none⟩ = false) ∧ w1.frozen? ⟨w.heap.size + 1, 0, none⟩ = false ∧ w1.frozen? ⟨w.heap.size + 1, 1, none⟩ = false := by
  refine ⟨⟨?_, ?_⟩, ?_, ?_⟩
  all_goals (rw [hb.frozen (by simp <;> omega)]; simp)

/-- The world where the two variables lie and the names are laid. -/
structure Head (w W1 : World) (n : Strs) (ao : Option Addr) (b c : Nat) : Prop where
  bl : Below w.heap.size w W1
  lt : w.heap.size + 1 < W1.heap.size
  r0 : W1.cell? ⟨w.heap.size, 0, none⟩ = some (.slice none 0 0)
  r1 : W1.cell? ⟨w.heap.size, 1, none⟩ = some (.slice none 0 0)
  rf0 : W1.frozen? ⟨w.heap.size, 0, none⟩ = false
  rf1 : W1.frozen? ⟨w.heap.size, 1, none⟩ = false
  l0 : W1.cell? ⟨w.heap.size + 1, 0, none⟩ = some (.slice ao n.len c)
  l1 : W1.cell? ⟨w.heap.size + 1, 1, none⟩ = some (.slice none 0 0)
  lf1 : W1.frozen? ⟨w.heap.size + 1, 1, none⟩ = false
  nat : Strs.At ⟨ao, b, 0, n.len, c, n.s⟩ W1
  ge : 0 < n.len → w.heap.size + 2 ≤ b
theorem head_of {w w1 : World} {n : Strs} {ao : Option Addr} {b c : Nat} (T1 : Two w w1 (.slice none 0 0) (.slice none 0 0) (.slice none 0 0) (.slice none 0 0))
    (hfz : (w1.frozen? ⟨w.heap.size, 0, none⟩ = false ∧ w1.frozen? ⟨w.heap.size, 1, none⟩ = false) ∧ w1.frozen? ⟨w.heap.size + 1, 0, none⟩ = false ∧ w1.frozen? ⟨w.heap.size + 1, 1, none⟩ = false)
    (hn1 : Strs.At ⟨ao, b, 0, n.len, c, n.s⟩ w1) (hge : 0 < n.len → w.heap.size + 2 ≤ b) : Head w (w1.setCell ⟨w.heap.size + 1, 0, none⟩ (.slice ao n.len c)) n ao b c where
  bl := T1.bl.setCell (by show w.heap.size ≤ w.heap.size + 1; omega) _
  lt := by simpa [World.setCell] using T1.lt
  r0 := by rw [World.cell?_setCell_other _ _ _ _ (by simp)]; exact T1.c0
  r1 := by rw [World.cell?_setCell_other _ _ _ _ (by simp)]; exact T1.c1
  rf0 := by rw [World.frozen?_setCell]; exact hfz.1.1
  rf1 := by rw [World.frozen?_setCell]; exact hfz.1.2
  l0 := World.cell?_setCell_same _ _ _ T1.c2
  l1 := by rw [World.cell?_setCell_other _ _ _ _ (by simp)]; exact T1.c3
  lf1 := by rw [World.frozen?_setCell]; exact hfz.2.2
  nat := hn1.set T1.c2 _
  ge := hge

theorem RG.start {w W1 : World} {n : Strs} {ao : Option Addr} {b c : Nat} (h : Head w W1 n ao b c) : RG W1 W1 (w.heap.size + 1) n.len 0 (.slice none 0 0) (fun _ => 0) (fun r c => c == r) :=
  ⟨⟨rfl, rfl, rfl, Nat.le_refl _, fun _ _ _ => rfl, rfl, h.lf1⟩, h.l1, World.ownsRow_nil _ _ _ _, fun _ h => absurd h (Nat.not_lt_zero _), fun _ _ h => absurd h (Nat.not_lt_zero _), fun _ h => absurd h (Nat.not_lt_zero _)⟩

theorem own_type {w : World} {base : Nat} {e : TypeId} {size : Nat} {v : Value} {n : Nat} {xs : List Value} (h : w.ownsRow base e size v n xs) {b : Nat} (hb : v.ownBlock = some b) : ∃ cur, w.heap[b]? = some (.cells cur e) := by
  obtain ⟨_, ⟨rfl, _⟩ | ⟨gb, cap, cur, rfl, hg, hh, _⟩⟩ := h
  · simp [Value.ownBlock] at hb
  · have : gb = b := by simpa [Value.ownBlock] using hb
    subst this
    exact ⟨cur, hh⟩
theorem RG.row_ne {W1 wr : World} {B7 n k : Nat} {v : Value} {R : Nat → Nat} {M : Nat → Nat → Bool} (h : RG W1 wr B7 n k v R M) {j : Nat} (hj : j < k) : some (R j) ≠ v.ownBlock := fun e => by
  obtain ⟨cur, hc⟩ := own_type h.own e.symm
  obtain ⟨c, hr, _, _⟩ := h.rows j hj
  rw [hc] at hr
  simp at hr
theorem rowCells_succ (R : Nat → Nat) (n k x : Nat) : rowCells (fun j => if j < k then R j else x) n (k + 1) = rowCells R n k ++ [.slice (some ⟨x, 0, none⟩) n n] := by
  unfold rowCells
  rw [List.range_succ, List.map_append]
  congr 1
  · exact List.map_congr_left (fun j hj => by simp [List.mem_range.1 hj])
  · simp

theorem RG.grow {W1 wr w2 : World} {B7 n k : Nat} {v : Value} {R : Nat → Nat} {M : Nat → Nat → Bool} {gg cap : Nat} {o' : Obj} (h : RG W1 wr B7 n k v R M) (hB7 : B7 < W1.heap.size)
    (hown2 : w2.ownsRow W1.heap.size 99 1 (.slice (some ⟨gg, 0, none⟩) (k + 1) cap) (k + 1) (rowCells R n k ++ [.slice (some ⟨wr.heap.size, 0, none⟩) n n]))
    (hgrow : ((wr.alloc (.cells (madeCells #[.bool false] n) 4)).alloc o').drew.grownBy w2 v.ownBlock) :
    RG W1 (w2.setCell ⟨B7, 1, none⟩ (.slice (some ⟨gg, 0, none⟩) (k + 1) cap)) B7 n (k + 1) (.slice (some ⟨gg, 0, none⟩) (k + 1) cap) (fun j => if j < k then R j else wr.heap.size) (fun r c => if r < k then M r c else false) := by
  have hsz := h.st.size
  have bsz : ((wr.alloc (.cells (madeCells #[.bool false] n) 4)).alloc o').drew.heap.size = wr.heap.size + 2 := by
    show ((wr.alloc _).alloc o').heap.size = _
    simp
  have hb : Below wr.heap.size wr ((wr.alloc (.cells (madeCells #[.bool false] n) 4)).alloc o').drew := (((Below.refl _ _).alloc (Nat.le_refl _) _).alloc (by simp) _).drew
  have old : ∀ b, b < wr.heap.size → some b ≠ v.ownBlock → w2.heap[b]? = wr.heap[b]? := fun b hb1 hne => (hgrow.block b (by rw [bsz]; omega) hne).trans (hb.block b hb1)
  have hne7 : some B7 ≠ v.ownBlock := fun e => by have := own_ge h.own e.symm; omega
  have o7 := old B7 (by omega) hne7
  refine ⟨⟨hgrow.os.trans h.st.os, hgrow.tape.trans h.st.tape, hgrow.output.trans h.st.output, ?_, fun b hb1 hb2 => ?_, ?_, ?_⟩, ?_, ?_, fun j hj => ?_, fun i j hi hj e => ?_, fun j hj => ?_⟩
  · have := hgrow.size
    rw [bsz] at this
    show W1.heap.size ≤ (w2.setCell _ _).heap.size
    simp [World.setCell]; omega
  · rw [Below.heap_setCell _ _ _ _ hb2, old b (by omega) (fun e => by have := own_ge h.own e.symm; omega)]
    exact h.st.blk b hb1 hb2
  · rw [World.cell?_setCell_other _ _ _ _ (by simp), World.cell?_of_block (w := wr) o7]
    exact h.st.l0
  · rw [World.frozen?_setCell, World.frozen?_of_block (w := wr) o7]
    exact h.st.f1
  · exact World.cell?_setCell_same _ _ _ ((World.cell?_of_block (w := wr) o7).trans h.l1)
  · rw [rowCells_succ]
    exact ownsRow_setCell_below hown2 hB7 _
  · by_cases hjk : j < k
    · have hlt := (h.rows j hjk).lt
      have hr := (h.rows j hjk).of_block (old (R j) hlt (h.row_ne hjk))
      have hge := h.ge j hjk
      simp only [hjk, if_true]
      exact hr.setOther (by show R j ≠ B7; omega) _
    · have e : j = k := by omega
      subst e
      have hnew : ((wr.alloc (.cells (madeCells #[.bool false] n) 4)).alloc o').drew.rowIs wr.heap.size 4 n (fun _ => .bool false) := ((World.rowIs_made wr (.bool false) n 4).alloc _).drew
      have hne : some wr.heap.size ≠ v.ownBlock := fun e => by
        obtain ⟨cur, hc⟩ := own_type h.own e.symm
        have := (Array.getElem?_eq_some_iff.1 hc).1
        omega
      have hr := hnew.of_block (hgrow.block wr.heap.size (by rw [bsz]; omega) hne)
      simp only [Nat.lt_irrefl, if_false]
      exact hr.setOther (by show wr.heap.size ≠ B7; omega) _
  · by_cases h1 : i < k
    · by_cases h2 : j < k
      · simp only [h1, h2, if_true] at e; exact h.inj i j h1 h2 e
      · simp only [h1, h2, if_true, if_false] at e
        have := (h.rows i h1).lt
        omega
    · by_cases h2 : j < k
      · simp only [h1, h2, if_true, if_false] at e
        have := (h.rows j h2).lt
        omega
      · omega
  · by_cases h1 : j < k
    · simp only [h1, if_true]; exact h.ge j h1
    · simp only [h1, if_false]; omega

theorem RG.set {W1 wr : World} {B7 n k : Nat} {v : Value} {R : Nat → Nat} {M : Nat → Nat → Bool} (h : RG W1 wr B7 n k v R M) (hB7 : B7 < W1.heap.size) {a c : Nat} (ha : a < k) :
    RG W1 (wr.setCell ⟨R a, c, none⟩ (.bool true)) B7 n k v R (setM M a c) := by
  have hge := h.ge a ha
  refine ⟨⟨h.st.os, h.st.tape, h.st.output, by simpa [World.setCell] using h.st.size, fun b hb1 hb2 => ?_, ?_, ?_⟩, ?_, ?_, fun j hj => ?_, h.inj, h.ge⟩
  · rw [Below.heap_setCell _ _ _ _ (by show b ≠ R a; omega)]; exact h.st.blk b hb1 hb2
  · rw [World.cell?_setCell_other _ _ _ _ (fun e => by have := congrArg Addr.block e; simp at this; omega)]; exact h.st.l0
  · rw [World.frozen?_setCell]; exact h.st.f1
  · rw [World.cell?_setCell_other _ _ _ _ (fun e => by have := congrArg Addr.block e; simp at this; omega)]; exact h.l1
  · obtain ⟨h1, h2⟩ := h.own
    refine ⟨h1, ?_⟩
    rcases h2 with h2 | ⟨gb, cap, cur, hv, hg, hh, r⟩
    · exact Or.inl h2
    · refine Or.inr ⟨gb, cap, cur, hv, hg, ?_, r⟩
      rw [Below.heap_setCell _ _ _ _ (by
        show gb ≠ R a
        intro e
        obtain ⟨cc, hr, _, _⟩ := h.rows a ha
        rw [← e, hh] at hr
        simp at hr)]
      exact hh
  · by_cases e : j = a
    · subst e
      exact ((h.rows j hj).set c _).congr (fun i _ => by
        unfold setM
        by_cases ec : i = c
        · simp [ec]
        · simp [ec])
    · exact ((h.rows j hj).setOther (by show R j ≠ R a; exact fun e' => e (h.inj j a hj ha e')) _).congr (fun i _ => by simp [setM, e])

theorem RG.congr {W1 wr : World} {B7 n k : Nat} {v : Value} {R : Nat → Nat} {M M' : Nat → Nat → Bool} (h : RG W1 wr B7 n k v R M) (e : ∀ r c, r < k → c < n → M r c = M' r c) : RG W1 wr B7 n k v R M' :=
  ⟨h.st, h.l1, h.own, fun j hj => (h.rows j hj).congr (fun c hc => by rw [e j c hj hc]), h.inj, h.ge⟩

/-- The table's value, and where each row lies. -/
theorem RG.top {W1 wr : World} {B7 n k : Nat} {v : Value} {R : Nat → Nat} {M : Nat → Nat → Bool} (h : RG W1 wr B7 n k v R M) (hk : 0 < k) : ∃ gg cap, v = .slice (some ⟨gg, 0, none⟩) k cap ∧ k ≤ cap ∧ ∀ j, j < k → wr.cell? ⟨gg, j, none⟩ = some (.slice (some ⟨R j, 0, none⟩) n n) := by
  have ho := h.own
  have ho' := ho
  obtain ⟨_, ⟨_, h0⟩ | ⟨gb, cap, cur, rfl, hg, hh, hc, _⟩⟩ := ho'
  · omega
  · refine ⟨gb, cap, rfl, hc, fun j hj => ?_⟩
    rw [ho.cellAt j (by simpa using hj)]
    simp [rowCells, hj]

theorem two_new (w : World) (o o' : Obj) : ((w.alloc o).alloc o').drew.heap[w.heap.size + 1]? = some o' := by
  have h := heap_alloc_new (w.alloc o) o'
  have e : (w.alloc o).heap.size = w.heap.size + 1 := by simp
  rw [e] at h
  exact h

theorem RG.cellAt {W1 wr : World} {B7 n k l c gg : Nat} {R : Nat → Nat} {M : Nat → Nat → Bool} (h : RG W1 wr B7 n k (.slice (some ⟨gg, 0, none⟩) l c) R M) {j : Nat} (hj : j < k) : wr.cell? ⟨gg, j, none⟩ = some (.slice (some ⟨R j, 0, none⟩) n n) := by
  have ho := h.own
  obtain ⟨gg', cap, hv, _, hc⟩ := h.top (by omega)
  injection hv with h1 h2 h3
  injection h1 with h1
  injection h1 with h1
  subst h1
  exact hc j hj
theorem RG.any {W1 wr : World} {B7 n k : Nat} {v : Value} {R : Nat → Nat} {M : Nat → Nat → Bool} (h : RG W1 wr B7 n k v R M) : ∃ (ao : Option Addr) (gg cap : Nat), v = .slice ao k cap ∧ k ≤ cap ∧ (0 < k → ao = some ⟨gg, 0, none⟩) := by
  by_cases hk : 0 < k
  · obtain ⟨gg, cap, rfl, hc, _⟩ := h.top hk
    exact ⟨_, gg, cap, rfl, hc, fun _ => rfl⟩
  · have e : k = 0 := by omega
    subst e
    obtain ⟨_, ⟨rfl, _⟩ | ⟨gb, cap, cur, rfl, hg, hh, hc, _⟩⟩ := h.own
    · exact ⟨none, 0, 0, rfl, Nat.le_refl _, fun h => absurd h (Nat.lt_irrefl _)⟩
    · exact ⟨_, gb, cap, rfl, hc, fun _ => rfl⟩

theorem RG.diag {W1 wr : World} {B7 n k : Nat} {v : Value} {R : Nat → Nat} (h : RG W1 wr B7 n (k + 1) v R (setM (fun r c => if r < k then (c == r) else false) k k)) : RG W1 wr B7 n (k + 1) v R (fun r c => c == r) :=
  h.congr (fun r c hr _ => by
    unfold setM
    by_cases e : r = k
    · subst e
      by_cases ec : c = r
      · subst ec; simp
      · simp [ec]
    · have : r < k := by omega
      simp [e, this])

theorem RG.below {w W1 wr : World} {n : Strs} {ao : Option Addr} {b c : Nat} {m k : Nat} {v : Value} {R : Nat → Nat} {M : Nat → Nat → Bool} (H : Head w W1 n ao b c) (h : RG W1 wr (w.heap.size + 1) m k v R M) : Below w.heap.size w wr :=
  H.bl.trans ⟨h.st.os, h.st.tape, h.st.output, h.st.size, fun i hi => h.st.blk i (by have := H.lt; omega) (by omega)⟩
theorem RG.zero {w W1 wr : World} {n : Strs} {ao : Option Addr} {b c : Nat} {m k : Nat} {v : Value} {R : Nat → Nat} {M : Nat → Nat → Bool} (H : Head w W1 n ao b c) (h : RG W1 wr (w.heap.size + 1) m k v R M) :
    wr.cell? ⟨w.heap.size, 0, none⟩ = some (.slice none 0 0) ∧ wr.cell? ⟨w.heap.size, 1, none⟩ = some (.slice none 0 0) ∧ wr.frozen? ⟨w.heap.size, 0, none⟩ = false ∧ wr.frozen? ⟨w.heap.size, 1, none⟩ = false := by
  have hb := h.st.blk w.heap.size (by have := H.lt; omega) (by omega)
  exact ⟨(World.cell?_of_block (w := W1) hb).trans H.r0, (World.cell?_of_block (w := W1) hb).trans H.r1, (World.frozen?_of_block (w := W1) hb).trans H.rf0, (World.frozen?_of_block (w := W1) hb).trans H.rf1⟩
theorem RG.names {w W1 wr : World} {n : Strs} {ao : Option Addr} {b c : Nat} {m k : Nat} {v : Value} {R : Nat → Nat} {M : Nat → Nat → Bool} (H : Head w W1 n ao b c) (h : RG W1 wr (w.heap.size + 1) m k v R M) : Strs.At ⟨ao, b, 0, n.len, c, n.s⟩ wr :=
  ⟨H.nat.lc, H.nat.nil, H.nat.bound, fun i hi => by
    have hi' : i < n.len := hi
    have h1 := H.ge (by omega)
    have hc := H.nat.cell i hi
    have hb := h.st.blk b (cell_lt hc) (by omega)
    exact (World.cell?_of_block (w := W1) hb).trans hc, H.nat.sz⟩

theorem RG.drew {W1 wr : World} {B7 n k : Nat} {v : Value} {R : Nat → Nat} {M : Nat → Nat → Bool} (h : RG W1 wr B7 n k v R M) : RG W1 wr.drew B7 n k v R M :=
  ⟨⟨h.st.os, h.st.tape, h.st.output, h.st.size, h.st.blk, h.st.l0, h.st.f1⟩, h.l1, h.own.drew, fun j hj => (h.rows j hj).drew, h.inj, h.ge⟩
theorem within_war (n : Nat) (P : Nat → Nat → Bool) : ∀ k, Within n P (war P k)
  | 0 => fun _ _ _ _ h => h
  | k + 1 => fun r c hr hc h => by
    show (war P k r c || (war P k r k && war P k k c)) = true
    rw [within_war n P k r c hr hc h]; rfl

theorem prsM_succ (g : Prs) (m x y : Nat) (hx : g.x m = x) (hy : g.y m = y) (r c : Nat) : setM (prsM g m) x y r c = prsM g (m + 1) r c := by
  unfold setM prsM
  rw [Bool.eq_iff_iff]
  simp only [Bool.or_eq_true, beq_iff_eq, decide_eq_true_eq]
  constructor
  · intro h
    split at h
    · rename_i e
      exact Or.inr ⟨m, by omega, by rw [hx, e.1], by rw [hy, e.2]⟩
    · simp only [Bool.or_eq_true, beq_iff_eq, decide_eq_true_eq] at h
      rcases h with h | ⟨i, hi, h⟩
      · exact Or.inl h
      · exact Or.inr ⟨i, by omega, h⟩
  · intro h
    split
    · rfl
    · rename_i e
      simp only [Bool.or_eq_true, beq_iff_eq, decide_eq_true_eq]
      rcases h with h | ⟨i, hi, h1, h2⟩
      · exact Or.inl h
      · by_cases ei : i = m
        · subst ei
          exact absurd ⟨by omega, by omega⟩ e
        · exact Or.inr ⟨i, by omega, h1, h2⟩

theorem out_cases {n : Nat} {x y : Int} (h : (inR n x && inR n y) = false) : x < 0 ∨ (0 ≤ x ∧ y < 0) ∨ (0 ≤ x ∧ 0 ≤ y ∧ (n : Int) ≤ x) ∨ (0 ≤ x ∧ 0 ≤ y ∧ x < n ∧ (n : Int) ≤ y) := by
  unfold inR at h
  simp only [Bool.and_eq_false_iff, decide_eq_false_iff_not] at h
  omega
theorem in_cases {n : Nat} {x y : Int} (h : (inR n x && inR n y) = true) : (∃ k : Nat, x = k ∧ k < n) ∧ ∃ k : Nat, y = k ∧ k < n := by
  rw [Bool.and_eq_true] at h
  exact ⟨inR_nat h.1, inR_nat h.2⟩
theorem prsB_yes {g : Prs} {n : Nat} (h : ∀ i, i < g.len → (inR n (g.x i) && inR n (g.y i)) = true) : prsB g n = true := by
  unfold prsB
  rw [decide_eq_true_eq]; exact h

/-- The table as a grid. -/
def gridR (ao : Option Addr) (gg n cap : Nat) (R : Nat → Nat) (M : Nat → Nat → Bool) : Grid := ⟨ao, gg, 0, n, cap, fun j => some ⟨R j, 0, none⟩, fun _ => n, fun _ => n, R, fun _ => 0, M⟩
theorem RG.grid {W1 wr : World} {B7 n gg cap : Nat} {ao : Option Addr} {R : Nat → Nat} {M : Nat → Nat → Bool} (h : RG W1 wr B7 n n (.slice ao n cap) R M) (hc : n ≤ cap) (ha : 0 < n → ao = some ⟨gg, 0, none⟩) (h8 : n ≤ 8) : (gridR ao gg n cap R M).At wr where
  lc := hc
  nil := ha
  bound := by show n ≤ _; omega
  lbound := fun _ _ => by show n ≤ _; omega
  row := fun r hr => by
    have hr' : r < n := hr
    have := ha (by omega)
    subst this
    show wr.cell? ⟨gg, 0 + r, none⟩ = _
    rw [Nat.zero_add]; exact h.cellAt hr'
  adr := fun _ _ _ => rfl
  cell := fun r hr c hc => by
    show wr.cell? ⟨R r, 0 + c, none⟩ = _
    rw [Nat.zero_add]; exact (h.rows r hr).cell hc

theorem formed_canonR {ao ag : Option Addr} {b c gg len cap : Nat} {s : Nat → ByteArray} {R : Nat → Nat} {M : Nat → Nat → Bool} : formedB ⟨ao, b, 0, len, c, s⟩ (gridR ag gg len cap R M) = formedM len s M := rfl
theorem Pass.less {n : Nat} {P M M' : Nat → Nat → Bool} {more : Bool} {a b c k : Nat} (h : Pass n P M M' more a b c) (hk : cnt2 M n n + 1 ≤ k) : (cnt2 M' n n + if more then 1 else 0) < k := by
  cases hm : more
  · rw [(h.no hm).1]; simp; omega
  · have := h.yes hm; simp; omega
theorem Pass.closed {n : Nat} {P M M' : Nat → Nat → Bool} {more : Bool} (h : Pass n P M M' more n 0 0) : more = false → ∀ x y z, x < n → y < n → z < n → (M' x y && M' y z && !M' x z) = false := fun hm x y z hx hy hz => by
  rw [(h.no hm).1]
  exact (h.no hm).2 x y z hx hy hz (Or.inl hx)

theorem gridR_set {ao : Option Addr} {gg n cap : Nat} {R : Nat → Nat} {M : Nat → Nat → Bool} {w : World} (h : (gridR ao gg n cap R M).At w) {a : Addr} (hg : 0 < n → a.block < gg) (hr : ∀ j, j < n → a.block < R j) (v : Value) : (gridR ao gg n cap R M).At (w.setCell a v) where
  lc := h.lc
  nil := h.nil
  bound := h.bound
  lbound := h.lbound
  row := fun r hr' => by
    have hr2 : r < n := hr'
    have := hg (by omega)
    rw [World.cell?_setCell_other _ _ _ _ (fun e => by have := congrArg Addr.block e; simp [gridR] at this; omega)]
    exact h.row r hr'
  adr := h.adr
  cell := fun r hr' c hc => by
    have := hr r hr'
    rw [World.cell?_setCell_other _ _ _ _ (fun e => by have := congrArg Addr.block e; simp [gridR] at this; omega)]
    exact h.cell r hr' c hc
theorem RG.high {W1 wr : World} {B7 n gg cap s : Nat} {ao : Option Addr} {R : Nat → Nat} {M : Nat → Nat → Bool} (h : RG W1 wr B7 n n (.slice ao n cap) R M) (ha : 0 < n → ao = some ⟨gg, 0, none⟩) (hs : s + 1 < W1.heap.size) : (0 < n → s < gg) ∧ ∀ j, j < n → s < R j :=
  ⟨fun hn => by
    have := ha hn
    subst this
    have := own_ge h.own (b := gg) (by simp [Value.ownBlock])
    omega, fun j hj => by have := h.ge j hj; omega⟩

theorem wpList_append_names {w : World} {ops : Array Oper} {rest : List Oper} {o : Oper} {a : Act} {Q : Exit → Act → World → Prop} (hgd : o.guard = none) (s x : Operand)
    (ho : o.op = .call { callee := .builtin .append, args := #[s, x], argTypes := #[22, 22] }) (base : Nat) (hs : a.eval s = .slice none 0 0)
    (n : Strs) (had : (n.ao = none ∧ n.cap = 0) ∨ n.ao = some ⟨n.b, n.o, none⟩) (hn : n.At w) (h8 : n.len ≤ 8) (hx : a.eval x = .slice n.ao n.len n.cap) (hbase : base ≤ w.heap.size)
    (h : ∀ v' w', w'.ownsRow base 9 1 v' (0 + n.len) ([] ++ strCells n) → w.grownBy w' none → wpList Tryz.prog ops Q rest (a.put o.dst v') w') : wpList Tryz.prog ops Q (o :: rest) a w := by
  obtain ⟨i0, hi, hz0, hz1, hz2⟩ := info_parts Tryz.infoString
  rcases had with ⟨had, hc0⟩ | had
  · have h0 : n.len = 0 := by
      by_cases h : 0 < n.len
      · have := hn.nil h; rw [had] at this; exact absurd this (by simp)
      · omega
    rw [had, h0, hc0] at hx
    refine wpList_append_own_none hgd s x _ ho base 9 i0 1 Tryz.underlying22 hi _ 0 [] hs (World.ownsRow_nil _ _ _ _) hx (h _ _ ?_ ⟨rfl, rfl, rfl, Nat.le_refl _, fun _ _ _ => rfl⟩)
    have e : strCells n = [] := by simp [strCells, h0]
    rw [e, h0]
    exact World.ownsRow_nil _ _ _ _
  · rw [had] at hx
    refine wpList_append_own w hgd s x _ ho base 9 i0 (.string ⟨#[]⟩) 1 16 Tryz.underlying22 hi hz0 hz1 hz2 rfl (by decide) _ 0 [] hs (World.ownsRow_nil _ _ _ _) ⟨n.b, n.o, none⟩ n.len n.cap (strCells n) hx (by simp [strCells]) (fun j u hj => ?_) (by intro u hu; simp [strCells] at hu; obtain ⟨_, _, rfl⟩ := hu; rfl) (by unfold maxLen; omega) (by omega) hbase (fun v' w' h1 h2 _ => h v' w' h1 h2)
    have hj' : j < n.len := by
      have := (List.getElem?_eq_some_iff.1 hj).1
      simpa [strCells] using this
    rw [strCells_at n j hj'] at hj
    rw [addr_add, hn.cell j hj']
    exact hj

/-- What the reference's Make answers. -/
structure RMade (n : Strs) (p : Prs) (e : Int) (n' : Strs) (g' : Grid) (w' : World) : Prop where
  er : e = makeE n p
  nat : n'.At w'
  gat : g'.At w'
  yes : e = 0 → n'.len = n.len ∧ n'.s = n.s ∧ ∃ ao gg cap R, g' = gridR ao gg n.len cap R (leastM p n.len)
  no : e ≠ 0 → n'.len = 0 ∧ g'.len = 0
theorem rmade_no {n : Strs} {p : Prs} {e : Int} (w : World) (h : makeE n p = e) (h0 : e ≠ 0) : RMade n p e noStrs noGrid w := ⟨h.symm, noStrs_at w, noGrid_at w, fun h => absurd h h0, fun _ => ⟨rfl, rfl⟩⟩

end Go.Proofs.YtmkncmmegjfipaaGreatDoor
