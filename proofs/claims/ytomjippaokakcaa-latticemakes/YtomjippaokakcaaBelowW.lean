/- The walk of layer 1's Below. -/
import Derived.Test.YtomjippaokakcaaCls
namespace Go.Proofs.Ytomjippaokakcaa
open Go.RowKit

/-- A []int in memory. -/
structure Ints where
  ao : Option Addr
  b : Nat
  o : Nat
  len : Nat
  cap : Nat
  x : Nat → Int
structure Ints.At (g : Ints) (w : World) : Prop where
  nil : 0 < g.len → g.ao = some ⟨g.b, g.o, none⟩
  le8 : g.len ≤ 8
  cell : ∀ i, i < g.len → w.cell? ⟨g.b, g.o + i, none⟩ = some (.int .i64 (g.x i))
theorem Ints.At.kept {g : Ints} {w w' : World} (h : g.At w) (hb : Below w.heap.size w w') : g.At w' :=
  ⟨h.nil, h.le8, fun i hi => (hb.cell (p := ⟨g.b, g.o + i, none⟩) (cell_lt (h.cell i hi))).trans (h.cell i hi)⟩

theorem Try.infoInt : (Try.prog.info? 3).map (fun i => (i.zero, i.size, i.bytes)) = some (some (.int .i64 0), 1, 8) := by kernel_rfl

theorem own_ge {w : World} {base : Nat} {e : TypeId} {size : Nat} {v : Value} {n : Nat} {xs : List Value} (h : w.ownsRow base e size v n xs) {b : Nat} (hb : v.ownBlock = some b) : base ≤ b := by
  obtain ⟨_, ⟨rfl, _⟩ | ⟨gb, cap, cur, rfl, hg, _⟩⟩ := h
  · simp [Value.ownBlock] at hb
  · have : gb = b := by simpa [Value.ownBlock] using hb
    omega

def intCells (l : List Nat) : List Value := l.map fun (b : Nat) => Value.int .i64 (b : Int)
theorem ints_of_own {w : World} {base : Nat} {v : Value} {l : List Nat} (h : w.ownsRow base 3 1 v l.length (intCells l)) (h8 : l.length ≤ 8) :
    ∃ q : Ints, v = .slice q.ao q.len q.cap ∧ q.At w ∧ q.len = l.length ∧ ∀ i, q.x i = (l.getD i 0 : Nat) := by
  have h' := h
  obtain ⟨_, ⟨rfl, h0⟩ | ⟨gb, cap, cur, rfl, _, _, hc, _⟩⟩ := h'
  · refine ⟨⟨none, 0, 0, 0, 0, fun i => (l.getD i 0 : Nat)⟩, rfl, ⟨fun h => absurd h (Nat.lt_irrefl _), Nat.zero_le _, fun _ h => absurd h (Nat.not_lt_zero _)⟩, h0.symm, fun _ => rfl⟩
  · refine ⟨⟨some ⟨gb, 0, none⟩, gb, 0, l.length, cap, fun i => (l.getD i 0 : Nat)⟩, rfl, ⟨fun _ => rfl, h8, fun i hi => ?_⟩, rfl, fun _ => rfl⟩
    have hi' : i < l.length := hi
    show w.cell? ⟨gb, 0 + i, none⟩ = _
    rw [Nat.zero_add, h.cellAt i (by simpa using hi')]
    simp [intCells, hi', List.getD]

/-- The labels below a, among the first k. -/
def belTo (g : Grid) (a k : Nat) : List Nat := (List.range k).filter (fun b => g.B b a)
theorem belTo_len (g : Grid) (a k : Nat) : (belTo g a k).length ≤ k := by
  have := List.length_filter_le (fun b => g.B b a) (List.range k)
  simpa [belTo] using this
theorem belTo_yes (g : Grid) (a k : Nat) (h : g.B k a = true) : belTo g a (k + 1) = belTo g a k ++ [k] := by
  simp [belTo, List.range_succ, List.filter_append, h]
theorem belTo_no (g : Grid) (a k : Nat) (h : g.B k a = false) : belTo g a (k + 1) = belTo g a k := by
  simp [belTo, List.range_succ, List.filter_append, h]

/-- What Below answers. -/
def belL (n : Strs) (g : Grid) (a : Int) : List Nat := if (labB n a && formedB n g) = true then belTo g a.toNat n.len else []

set_option maxRecDepth 100000 in
set_option maxHeartbeats 2000000 in
theorem Below_any (n : Strs) (g : Grid) (a : Int) (w : World) (hn : n.At w) (hg : g.At w) :
    Calls Try.prog 28 #[.agg #[.slice n.ao n.len n.cap, .slice g.ao g.len g.cap], .int .i64 a] w fun e w' => ∃ q : Ints, e = .returned (.slice q.ao q.len q.cap) ∧ q.At w' ∧ q.len = (belL n g a).length ∧ (∀ i, q.x i = ((belL n g a).getD i 0 : Nat)) ∧ Below w.heap.size w w' := by
  cases h1 : (labB n a && formedB n g)
  · have B0 := (Box2.start w (.slice n.ao n.len n.cap) (.slice g.ao g.len g.cap) 25).step ((Below.refl _ _).alloc (Nat.le_refl _) (.cells #[.int .i64 a] 3))
    have HE : Hid (belL n g a = []) := by show belL n g a = []; unfold belL; rw [h1]; rfl
    have hh := has1_any n g (w.heap.size + 1) a _ (hn.kept B0.bl) (hg.kept B0.bl) (by simp)
    rw [h1] at hh
    go_enter Try.func28, Try.ntmps28
    go_wp2_with fail
    refine hh.mono ?_
    rintro e w1 ⟨rfl, hb1⟩
    have B1 := B0.step hb1
    clear hb1 B0 hh
    go_wp2
    go_ret
    exact ⟨⟨none, 0, 0, 0, 0, fun i => (([] : List Nat).getD i 0 : Nat)⟩, rfl, ⟨fun h => absurd h (Nat.lt_irrefl _), Nat.zero_le _, fun _ h => absurd h (Nat.not_lt_zero _)⟩, by rw [HE.out]; rfl, fun i => by rw [HE.out], B1.bl⟩
  · have h2 := h1
    rw [Bool.and_eq_true] at h2
    obtain ⟨p1, p2, p3, p4⟩ := formed_parts h2.2
    obtain ⟨x, rfl, hx⟩ := lab_nat h2.1
    have HE : Hid (belL n g x = belTo g x n.len) := by show belL n g x = _; unfold belL; rw [if_pos h1]; rfl
    have B0 := (Box2.start w (.slice n.ao n.len n.cap) (.slice g.ao g.len g.cap) 25).step ((Below.refl _ _).alloc (Nat.le_refl _) (.cells #[.int .i64 (x : Int)] 3))
    have hh := has1_any n g (w.heap.size + 1) x _ (hn.kept B0.bl) (hg.kept B0.bl) (by simp)
    rw [h1] at hh
    rw [hg.nil (by omega)] at hh B0 ⊢
    have P1 : Hid (g.len = n.len ∧ ∀ r, r < g.len → g.L r = n.len) := ⟨p1, p4⟩
    have hgb := hg.bound
    obtain ⟨i0, hi, hz0, hz1, hz2⟩ := info_parts Try.infoInt
    clear h1 h2 p1 p4
    go_enter Try.func28, Try.ntmps28
    go_wp2_with fail
    refine hh.mono ?_
    rintro e w1 ⟨rfl, hb1⟩
    have B1 := B0.step hb1
    clear hb1 B0 hh
    have c0 := B1.c0
    have c1 := B1.c1
    go_wp2
    clear c0 c1
    go_loopw [5, 16] (fun v i wr => ∃ k : Nat, k ≤ g.len ∧ i = .int .i64 k ∧ wr.ownsRow w1.heap.size 3 1 v (belTo g x k).length (intCells (belTo g x k)) ∧ Below w1.heap.size w1 wr) (fun _ i _ => g.len - (intOf i).toNat)
    case atStart => exact ⟨0, Nat.zero_le _, rfl, by simpa [belTo, intCells] using World.ownsRow_nil w1 w1.heap.size 3 1, Below.refl _ _⟩
    case round =>
      obtain ⟨k, hk, rfl, hown, hbl⟩ := hrel
      by_cases hlt : k < g.len
      · have hg1 := hg.kept (B1.step hbl).bl
        have r1 := hg1.row k hlt
        have r2 := hg1.adr k hlt (by have := P1.out.2 k hlt; omega)
        have r3 := hg1.cell k hlt x (by have := P1.out.2 k hlt; omega)
        have i1 : (k : Int) < g.len := by omega
        have i2 : (x : Int) < g.L k := by have := P1.out.2 k hlt; omega
        have hlen := belTo_len g x k
        have k8 : k < 8 := by have := P1.out.1; omega
        cases hv : g.B k x
        · rw [hv] at r3
          have HO : Hid (wr.ownsRow w1.heap.size 3 1 u5 (belTo g x (k + 1)).length (intCells (belTo g x (k + 1)))) := by rw [belTo_no g x k hv]; exact hown
          clear hown
          go_wp2
          go_roundw
          case rel => exact ⟨k + 1, by omega, by go_num, HO.out, hbl⟩
          case measure => simp [intOf]; omega
        · rw [hv] at r3
          have hsz := hbl.size
          go_wp2_with (at_builtin; refine wpList_append_own _ rfl _ _ 34 rfl w1.heap.size 3 i0 (.int .i64 0) 1 8 Try.underlying34 hi hz0 hz1 hz2 rfl (by decide) _ _ _ rfl (hown.alloc _) ⟨wr.heap.size, 0, none⟩ 1 1 [.int .i64 (k : Int)] rfl rfl (by intro j u hj; match j, hj with | 0, hj => simp at hj; subst hj; simp [Addr.add]) (by intro u hu; simp at hu; subst hu; rfl) (by unfold maxLen; omega) (by omega) (by simp; omega) ?_; intro v' w2 hown' hgrow hiff)
          have HO : Hid (w2.ownsRow w1.heap.size 3 1 v' (belTo g x (k + 1)).length (intCells (belTo g x (k + 1)))) := by
            show w2.ownsRow _ _ _ _ _ _
            rw [belTo_yes g x k hv, List.length_append, intCells, List.map_append]; exact hown'
          have hbl2 : Below w1.heap.size w1 w2 := (hbl.alloc hsz _).grown hgrow (by simp; omega) (fun b hb => own_ge hown hb)
          clear hown hown' hgrow hiff hi hz0 hz1 hz2 r1 r2 r3
          go_wp2
          go_roundw
          case rel => exact ⟨k + 1, by omega, by go_num, HO.out, hbl2⟩
          case measure => simp [intOf]; omega
      · have e : k = n.len := by have := P1.out.1; omega
        have l8 := belTo_len g x k
        obtain ⟨q, rfl, hq, hql, hqx⟩ := ints_of_own hown (by omega)
        have HQ : Hid (q.len = (belL n g x).length ∧ ∀ i, q.x i = ((belL n g x).getD i 0 : Nat)) := by rw [HE.out, ← e]; exact ⟨hql, hqx⟩
        clear hown hql hqx e
        go_wp2
        go_ret
        exact ⟨q, rfl, hq, HQ.out.1, HQ.out.2, (B1.step hbl).bl⟩
end Go.Proofs.Ytomjippaokakcaa
