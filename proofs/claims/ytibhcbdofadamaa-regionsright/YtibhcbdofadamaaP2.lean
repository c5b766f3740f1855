/- The walks of layer 1's hasLabels, Leq, Join, Meet, Both, Bottom, Top. -/
import Derived.Test.YtibhcbdofadamaaP1
import Derived.Deep.OwnRows
import Derived.Deep.RegionWith
namespace Go.Proofs.Ytibhcbdofadamaa
open Go.RowKit

def labB (n : Strs) (a : Int) : Bool := decide (0 ≤ a) && decide (a < n.len)
def labsB (n : Strs) (ls : Nat → Int) (ll : Nat) : Bool := decide (∀ j, j < ll → labB n (ls j) = true)

theorem labs_no {n : Strs} {ls : Nat → Int} {ll j : Nat} (hj : j < ll) (h : labB n (ls j) = false) : labsB n ls ll = false := by
  unfold labsB
  rw [decide_eq_false_iff_not]
  intro hh
  rw [hh j hj] at h
  exact Bool.noConfusion h

def two (a b : Int) : Nat → Int := fun j => if j = 0 then a else b
theorem labs_two (n : Strs) (a b : Int) : labsB n (two a b) 2 = (labB n a && labB n b) := by
  unfold labsB
  rw [Bool.eq_iff_iff, decide_eq_true_eq, Bool.and_eq_true]
  constructor
  · intro h; exact ⟨h 0 (by omega), h 1 (by omega)⟩
  · rintro ⟨h1, h2⟩ j hj
    match j, hj with
    | 0, _ => exact h1
    | 1, _ => exact h2

/-- What Leq answers. -/
def leqB (n : Strs) (g : Grid) (a b : Int) : Bool := ((labB n a && labB n b) && formedB n g) && g.B a.toNat b.toNat
def joinI (n : Strs) (g : Grid) (a b : Int) : Int := if ((labB n a && labB n b) && formedB n g) = true then near2 g.len g.U a.toNat b.toNat else -1
def meetI (n : Strs) (g : Grid) (a b : Int) : Int := if ((labB n a && labB n b) && formedB n g) = true then near2 g.len g.D a.toNat b.toNat else -1
def botI (n : Strs) (g : Grid) : Int := if formedB n g = true then near g.U (2 ^ g.len - 1) else -1
def topI (n : Strs) (g : Grid) : Int := if formedB n g = true then near g.D (2 ^ g.len - 1) else -1

theorem formed_parts {n : Strs} {g : Grid} (h : formedB n g = true) : g.len = n.len ∧ 0 < n.len ∧ n.len ≤ 8 ∧ ∀ r, r < g.len → g.L r = n.len := by
  unfold formedB at h
  rw [Bool.and_eq_true, Bool.and_eq_true] at h
  have h1 := namesB_len h.1.1
  have h2 := squareB_len h.1.2
  exact ⟨h2.1, h1.1, h1.2, h2.2⟩
theorem lab_nat {n : Strs} {a : Int} (h : labB n a = true) : ∃ k : Nat, a = k ∧ k < n.len := by
  unfold labB at h
  rw [Bool.and_eq_true, decide_eq_true_eq, decide_eq_true_eq] at h
  exact ⟨a.toNat, by omega, by omega⟩

theorem cells2' (w : World) (o : Obj) (u v : Value) (t : TypeId) : ((w.alloc o).alloc (.cells #[u, v] t)).cell? ⟨w.heap.size + 1, 0, none⟩ = some u ∧ ((w.alloc o).alloc (.cells #[u, v] t)).cell? ⟨w.heap.size + 1, 1, none⟩ = some v := by
  simp

def bothI (n : Strs) (g : Grid) (a b : Int) : Int := joinI n g (if a = -1 then b else a) (if b = -1 then a else b)

end Go.Proofs.Ytibhcbdofadamaa

/- The walk of layer 1's pairsInRange. -/
namespace Go.Proofs.Ytibhcbdofadamaa
open Go.RowKit

/-- A [][2]int in memory. -/
structure Prs where
  ao : Option Addr
  b : Nat
  o : Nat
  len : Nat
  cap : Nat
  x : Nat → Int
  y : Nat → Int

structure Prs.At (g : Prs) (w : World) : Prop where
  lc : g.len ≤ g.cap
  nil : 0 < g.len → g.ao = some ⟨g.b, g.o, none⟩
  bound : g.len ≤ 9223372036854775807
  fst : ∀ i, i < g.len → w.cell? ⟨g.b, g.o + i * 2, none⟩ = some (.int .i64 (g.x i))
  snd : ∀ i, i < g.len → w.cell? ⟨g.b, g.o + i * 2 + 1, none⟩ = some (.int .i64 (g.y i))

theorem Prs.At.kept {g : Prs} {w w' : World} (h : g.At w) (hb : Below w.heap.size w w') : g.At w' :=
  ⟨h.lc, h.nil, h.bound, fun i hi => (hb.cell (p := ⟨g.b, g.o + i * 2, none⟩) (cell_lt (h.fst i hi))).trans (h.fst i hi), fun i hi => (hb.cell (p := ⟨g.b, g.o + i * 2 + 1, none⟩) (cell_lt (h.snd i hi))).trans (h.snd i hi)⟩

def inR (n : Nat) (a : Int) : Bool := decide (0 ≤ a) && decide (a < n)
def prsB (g : Prs) (n : Nat) : Bool := decide (∀ i, i < g.len → (inR n (g.x i) && inR n (g.y i)) = true)

theorem prs_no {g : Prs} {n k : Nat} (hk : k < g.len) (h : (inR n (g.x k) && inR n (g.y k)) = false) : prsB g n = false := by
  unfold prsB
  rw [decide_eq_false_iff_not]
  intro hh
  rw [hh k hk] at h
  exact Bool.noConfusion h
theorem inR_no {n : Nat} {a : Int} (h : a < 0 ∨ (n : Int) ≤ a) : inR n a = false := by
  unfold inR
  rw [Bool.and_eq_false_iff, decide_eq_false_iff_not, decide_eq_false_iff_not]
  omega

end Go.Proofs.Ytibhcbdofadamaa

/- The walks of slices.Clone and layer 1's addAll. -/
namespace Go.Proofs.Ytibhcbdofadamaa
open Go.RowKit

/-- Nothing but block p has turned. -/
structure Wrote (w w' : World) (p : Nat) : Prop where
  os : w'.os = w.os
  tape : w'.tape = w.tape
  output : w'.output = w.output
  size : w'.heap.size = w.heap.size
  block : ∀ k, k ≠ p → w'.heap[k]? = w.heap[k]?
theorem Wrote.refl (w : World) (p : Nat) : Wrote w w p := ⟨rfl, rfl, rfl, rfl, fun _ _ => rfl⟩
theorem Wrote.setCell {w w' : World} {p : Nat} (h : Wrote w w' p) (o : Nat) (v : Value) : Wrote w (w'.setCell ⟨p, o, none⟩ v) p :=
  ⟨h.os, h.tape, h.output, by rw [← h.size]; simp [World.setCell], fun k hk => (Below.heap_setCell _ _ _ _ hk).trans (h.block k hk)⟩

theorem run_eql_slice_nil {P : Program} (w : World) (t e : TypeId) (a : Option Addr) (l c : Nat) (h : P.underlying t = some (.slice e)) : (binOp .eql t (.slice a l c) (.slice none 0 0)).run P w = .ok (.bool a.isNone) w := by
  simp only [binOp, Sem.run_bind, run_equal_slice_nil w t e a l c h, Result.andThen]; rfl

theorem Try.infoString : (Try.prog.info? 9).map (fun i => (i.zero, i.size, i.bytes)) = some (some (.string ⟨#[]⟩), 1, 16) := by kernel_rfl

/-- What the names' cells hold. -/
def strCells (g : Strs) : List Value := (List.range g.len).map fun i => .string (g.s i)
theorem strCells_at (g : Strs) (i : Nat) (hi : i < g.len) : (strCells g)[i]? = some (.string (g.s i)) := by simp [strCells, hi]

theorem addr_add (b o i : Nat) : (⟨b, o, none⟩ : Addr).add i = ⟨b, o + i, none⟩ := by unfold Addr.add; split <;> simp_all

theorem strCells_news (g : Strs) (w : World) (hg : g.At w) (o : Obj) (j : Nat) (u : Value) (h : (strCells g)[j]? = some u) : (w.alloc o).cell? ((⟨g.b, g.o, none⟩ : Addr).add j) = some u := by
  have hj : j < g.len := by
    have := (List.getElem?_eq_some_iff.1 h).1
    simpa [strCells] using this
  rw [strCells_at g j hj] at h
  have hc := hg.cell j hj
  rw [← h]
  have := (((Below.refl _ _).alloc (Nat.le_refl _) o).cell (p := ⟨g.b, g.o + j, none⟩) (cell_lt hc)).trans hc
  rw [addr_add]; exact this

theorem strs_of_own {w : World} {base : Nat} {v : Value} {g : Strs} (h : w.ownsRow base 9 1 v (0 + g.len) ([] ++ strCells g)) (hv : v ≠ .slice none 0 0) (h8 : g.len ≤ 8) (hsz : ∀ i, i < g.len → (g.s i).size ≤ 9223372036854775807) :
    ∃ g' : Strs, v = .slice g'.ao g'.len g'.cap ∧ g'.At w ∧ g'.len = g.len ∧ g'.s = g.s := by
  rw [Nat.zero_add, List.nil_append] at h
  have h' := h
  obtain ⟨_, h0 | ⟨gb, cap, cur, rfl, _, _, hc, _⟩⟩ := h'
  · exact absurd h0.1 hv
  · refine ⟨⟨some ⟨gb, 0, none⟩, gb, 0, g.len, cap, g.s⟩, rfl, ⟨hc, fun _ => rfl, Nat.le_trans h8 (by omega), fun i hi => ?_, hsz⟩, rfl, rfl⟩
    show w.cell? ⟨gb, 0 + i, none⟩ = _
    rw [Nat.zero_add, h.cellAt i (by simpa using hi)]
    exact strCells_at g i hi

end Go.Proofs.Ytibhcbdofadamaa

/- The walk of layer 1's leastOrder. -/
namespace Go.Proofs.Ytibhcbdofadamaa
open Go.RowKit

theorem Try.infoBool : (Try.prog.info? 4).map (fun i => (i.zero, i.size, i.bytes)) = some (some (.bool false), 1, 1) := by kernel_rfl
theorem Try.infoRow : (Try.prog.info? 31).map (fun i => (i.zero, i.size, i.bytes)) = some (some (.slice none 0 0), 1, 24) := by kernel_rfl

/-- The table that the call itself makes. -/
structure OwnG (w0 wr : World) (n : Nat) (M : Nat → Nat → Bool) : Prop where
  bl : Below w0.heap.size w0 wr
  top : wr.rowIs w0.heap.size 31 n (fun j => .slice (some ⟨w0.heap.size + 1 + j, 0, none⟩) n n)
  rows : ∀ j, j < n → wr.rowIs (w0.heap.size + 1 + j) 4 n (fun c => .bool (M j c))

def topTo (T n k : Nat) : Nat → Value := fun j => if j < k then .slice (some ⟨T + 1 + j, 0, none⟩) n n else .slice none 0 0
/-- .. when k of its rows are made. -/
structure MkG (w0 wr : World) (n k : Nat) : Prop where
  bl : Below w0.heap.size w0 wr
  size : wr.heap.size = w0.heap.size + 1 + k
  top : wr.rowIs w0.heap.size 31 n (topTo w0.heap.size n k)
  rows : ∀ j, j < k → wr.rowIs (w0.heap.size + 1 + j) 4 n (fun c => .bool (c == j))

theorem MkG.start (w : World) (n : Nat) : MkG w (w.alloc (.cells (madeCells #[.slice none 0 0] n) 31)) n 0 :=
  ⟨(Below.refl _ _).alloc (Nat.le_refl _) _, by simp, (World.rowIs_made w _ n 31).congr (fun j _ => by simp [topTo]), fun j hj => absurd hj (Nat.not_lt_zero _)⟩

theorem MkG.done {w wr : World} {n : Nat} (h : MkG w wr n n) : OwnG w wr n (fun r c => c == r) :=
  ⟨h.bl, h.top.congr (fun j hj => by simp [topTo, hj]), h.rows⟩

theorem MkG.step {w wr : World} {n k : Nat} (h : MkG w wr n k) (hk : k < n) :
    MkG w (((wr.alloc (.cells (madeCells #[.bool false] n) 4)).setCell ⟨w.heap.size, k, none⟩ (.slice (some ⟨wr.heap.size, 0, none⟩) n n)).setCell ⟨wr.heap.size, k, none⟩ (.bool true)) n (k + 1) := by
  have hs := h.size
  have hnew : ((wr.alloc (.cells (madeCells #[.bool false] n) 4)).setCell ⟨w.heap.size, k, none⟩ (.slice (some ⟨wr.heap.size, 0, none⟩) n n)).rowIs wr.heap.size 4 n (fun _ => .bool false) := (World.rowIs_made wr (.bool false) n 4).setOther (by show wr.heap.size ≠ w.heap.size; omega) _
  refine ⟨((h.bl.alloc h.bl.size _).setCell (Nat.le_refl _) _).setCell (by show w.heap.size ≤ wr.heap.size; omega) _, by simp [hs]; omega, ?_, fun j hj => ?_⟩
  · refine (((h.top.alloc _).set k _).setOther (by show w.heap.size ≠ wr.heap.size; omega) _).congr (fun j _ => ?_)
    simp only [topTo]
    by_cases e : j = k
    · subst e; simp [hs]
    · rw [if_neg e]
      by_cases hlt : j < k
      · rw [if_pos hlt, if_pos (by omega)]
      · rw [if_neg hlt, if_neg (by omega)]
  · by_cases e : j = k
    · subst e
      have h2 := hnew.set j (.bool true)
      rw [hs] at h2 ⊢
      refine h2.congr (fun c _ => ?_)
      by_cases e : c = j
      · subst e; simp
      · rw [if_neg e, beq_eq_false_iff_ne.2 e]
    · exact (((h.rows j (by omega)).alloc _).setOther (by show w.heap.size + 1 + j ≠ w.heap.size; omega) _).setOther (by show w.heap.size + 1 + j ≠ wr.heap.size; omega) _

theorem inR_nat {n : Nat} {a : Int} (h : inR n a = true) : ∃ k : Nat, a = k ∧ k < n := by
  unfold inR at h
  rw [Bool.and_eq_true, decide_eq_true_eq, decide_eq_true_eq] at h
  exact ⟨a.toNat, by omega, by omega⟩
theorem prs_in {g : Prs} {n m : Nat} (h : prsB g n = true) (hm : m < g.len) : (∃ x : Nat, g.x m = x ∧ x < n) ∧ ∃ y : Nat, g.y m = y ∧ y < n := by
  unfold prsB at h
  rw [decide_eq_true_eq] at h
  have := h m hm
  rw [Bool.and_eq_true] at this
  exact ⟨inR_nat this.1, inR_nat this.2⟩

def warStep (M : Nat → Nat → Bool) (b : Nat) : Nat → Nat → Bool := fun r c => M r c || (M r b && M b c)
def warPart (M : Nat → Nat → Bool) (b a : Nat) : Nat → Nat → Bool := fun r c => if r < a then warStep M b r c else M r c
def war (M : Nat → Nat → Bool) : Nat → Nat → Nat → Bool
  | 0 => M
  | k + 1 => warStep (war M k) k
def prsM (g : Prs) (k : Nat) : Nat → Nat → Bool := fun r c => (c == r) || decide (∃ i, i < k ∧ g.x i = r ∧ g.y i = c)
def leastM (g : Prs) (n : Nat) : Nat → Nat → Bool := war (prsM g g.len) n

theorem row_same (M : Nat → Nat → Bool) (b c : Nat) : warStep M b b c = M b c := by
  unfold warStep; cases M b c <;> simp

theorem OwnG.congr {w wr : World} {n : Nat} {M M' : Nat → Nat → Bool} (h : OwnG w wr n M) (e : ∀ r c, r < n → c < n → M r c = M' r c) : OwnG w wr n M' :=
  ⟨h.bl, h.top, fun j hj => (h.rows j hj).congr (fun c hc => by rw [e j c hj hc])⟩

theorem OwnG.pair {g : Prs} {w wr : World} {n m x y : Nat} (h : OwnG w wr n (prsM g m)) (hx : x < n) (e : g.x m = x ∧ g.y m = y) (o : Obj) :
    OwnG w ((wr.alloc o).setCell ⟨w.heap.size + 1 + x, y, none⟩ (.bool true)).drew n (prsM g (m + 1)) := by
  refine ⟨((h.bl.alloc h.bl.size _).setCell (by show w.heap.size ≤ w.heap.size + 1 + x; omega) _).drew, ((h.top.alloc _).setOther (by show w.heap.size ≠ w.heap.size + 1 + x; omega) _).drew, fun j hj => ?_⟩
  have hE : ∀ r c : Nat, prsM g (m + 1) r c = (prsM g m r c || (r == x && c == y)) := by
    intro r c
    unfold prsM
    rw [Bool.eq_iff_iff]
    simp only [Bool.or_eq_true, Bool.and_eq_true, decide_eq_true_eq, beq_iff_eq]
    constructor
    · rintro (h | ⟨i, hi, h1, h2⟩)
      · exact Or.inl (Or.inl h)
      · by_cases hi2 : i = m
        · subst hi2
          refine Or.inr ⟨?_, ?_⟩
          · have := e.1; omega
          · have := e.2; omega
        · exact Or.inl (Or.inr ⟨i, by omega, h1, h2⟩)
    · rintro ((h | ⟨i, hi, h1, h2⟩) | ⟨h1, h2⟩)
      · exact Or.inl h
      · exact Or.inr ⟨i, by omega, h1, h2⟩
      · exact Or.inr ⟨m, by omega, by rw [e.1, h1], by rw [e.2, h2]⟩
  by_cases ej : j = x
  · subst ej
    refine ((((h.rows j hj).alloc _).set y (.bool true)).congr (fun c _ => ?_)).drew
    rw [hE]
    by_cases ec : c = y
    · subst ec; simp
    · rw [if_neg ec, beq_eq_false_iff_ne.2 ec]; simp
  · refine ((((h.rows j hj).alloc _).setOther (by show w.heap.size + 1 + j ≠ w.heap.size + 1 + x; omega) _).congr (fun c _ => ?_)).drew
    rw [hE, beq_eq_false_iff_ne.2 ej]; simp

theorem warPart_other (M : Nat → Nat → Bool) (b a r c : Nat) (e : ¬ r = a) : warPart M b (a + 1) r c = warPart M b a r c := by
  unfold warPart
  by_cases h : r < a
  · rw [if_pos h, if_pos (by omega)]
  · rw [if_neg h, if_neg (by omega)]

theorem OwnG.add {w wr w' : World} {n a b : Nat} {M : Nat → Nat → Bool} (h : OwnG w wr n (warPart M b a)) (ha : a < n) (hM : M a b = true)
    (hrow : w'.rowIs (w.heap.size + 1 + a) 4 n (fun c => .bool (M a c || M b c))) (hw : Wrote wr w' (w.heap.size + 1 + a)) : OwnG w w' n (warPart M b (a + 1)) := by
  refine ⟨h.bl.trans ⟨hw.os, hw.tape, hw.output, Nat.le_of_eq hw.size.symm, fun k hk => hw.block k (by omega)⟩, h.top.of_block (hw.block _ (by omega)), fun j hj => ?_⟩
  by_cases e : j = a
  · subst e
    exact hrow.congr (fun c _ => by simp [warPart, warStep, hM])
  · exact ((h.rows j hj).of_block (hw.block _ (by omega))).congr (fun c _ => by rw [warPart_other M b a j c e])

theorem OwnG.skip {w wr : World} {n a b : Nat} {M : Nat → Nat → Bool} (h : OwnG w wr n (warPart M b a)) (hM : M a b = false) : OwnG w wr n (warPart M b (a + 1)) :=
  h.congr (fun r c _ _ => by
    by_cases e : r = a
    · subst e; simp [warPart, warStep, hM]
    · rw [warPart_other M b a r c e])

theorem warPart_row (M : Nat → Nat → Bool) (b a c : Nat) : warPart M b a b c = M b c := by
  unfold warPart; split
  · exact row_same M b c
  · rfl

theorem warPart_now (M : Nat → Nat → Bool) (b a c : Nat) : warPart M b a a c = M a c := by
  unfold warPart; rw [if_neg (Nat.lt_irrefl _)]

end Go.Proofs.Ytibhcbdofadamaa

/- The walk of layer 1's Make. -/
namespace Go.Proofs.Ytibhcbdofadamaa
open Go.RowKit

/-- A table at block T, its rows behind. -/
def gridOf (T n : Nat) (M : Nat → Nat → Bool) : Grid := ⟨some ⟨T, 0, none⟩, T, 0, n, n, fun j => some ⟨T + 1 + j, 0, none⟩, fun _ => n, fun _ => n, fun j => T + 1 + j, fun _ => 0, M⟩
theorem OwnG.at' {w wr : World} {n : Nat} {M : Nat → Nat → Bool} (h : OwnG w wr n M) (h8 : n ≤ 8) : (gridOf w.heap.size n M).At wr where
  lc := Nat.le_refl _
  nil := fun _ => rfl
  bound := by show n ≤ _; omega
  lbound := fun _ _ => by show n ≤ _; omega
  row := fun r hr => by
    show wr.cell? ⟨w.heap.size, 0 + r, none⟩ = _
    rw [Nat.zero_add]; exact h.top.cell hr
  adr := fun _ _ _ => rfl
  cell := fun r hr c hc => by
    show wr.cell? ⟨w.heap.size + 1 + r, 0 + c, none⟩ = _
    rw [Nat.zero_add]; exact (h.rows r hr).cell hc

/-- Formed, of names and truths alone. -/
def formedM (len : Nat) (s : Nat → ByteArray) (M : Nat → Nat → Bool) : Bool := formedB ⟨none, 0, 0, len, len, s⟩ (gridOf 0 len M)
theorem formed_canon {n : Strs} {T len : Nat} {s : Nat → ByteArray} {M : Nat → Nat → Bool} (h1 : n.len = len) (h2 : n.s = s) : formedB n (gridOf T len M) = formedM len s M := by
  obtain ⟨ao, b, o, l, c, s'⟩ := n
  simp only at h1 h2
  subst h1 h2
  rfl

/-- What Make answers: an error, or names and a table. -/
def makeE (n : Strs) (p : Prs) : Int := if 8 < n.len ∨ 64 < p.len then 1 else if prsB p n.len = false then 10 else if formedM n.len n.s (leastM p n.len) = false then 4 else 0

structure Made (n : Strs) (p : Prs) (e : Int) (n' : Strs) (g' : Grid) (w' : World) : Prop where
  er : e = makeE n p
  nat : n'.At w'
  gat : g'.At w'
  yes : e = 0 → n'.len = n.len ∧ n'.s = n.s ∧ ∃ T, g' = gridOf T n.len (leastM p n.len)
  no : e ≠ 0 → n'.len = 0 ∧ g'.len = 0

def noStrs : Strs := ⟨none, 0, 0, 0, 0, fun _ => ByteArray.empty⟩
def noGrid : Grid := ⟨none, 0, 0, 0, 0, fun _ => none, fun _ => 0, fun _ => 0, fun _ => 0, fun _ => 0, fun _ _ => false⟩
theorem noStrs_at (w : World) : noStrs.At w := ⟨Nat.le_refl _, fun h => absurd h (Nat.lt_irrefl _), Nat.zero_le _, fun _ h => absurd h (Nat.not_lt_zero _), fun _ h => absurd h (Nat.not_lt_zero _)⟩
theorem noGrid_at (w : World) : noGrid.At w := ⟨Nat.le_refl _, fun h => absurd h (Nat.lt_irrefl _), Nat.zero_le _, fun _ h => absurd h (Nat.not_lt_zero _), fun _ h => absurd h (Nat.not_lt_zero _), fun _ h => absurd h (Nat.not_lt_zero _), fun _ h => absurd h (Nat.not_lt_zero _)⟩

theorem makeE_1 {n : Strs} {p : Prs} (h : 8 < n.len ∨ 64 < p.len) : makeE n p = 1 := by unfold makeE; rw [if_pos h]
theorem makeE_10 {n : Strs} {p : Prs} (h : ¬ (8 < n.len ∨ 64 < p.len)) (h2 : prsB p n.len = false) : makeE n p = 10 := by unfold makeE; rw [if_neg h, if_pos h2]
theorem makeE_4 {n : Strs} {p : Prs} (h : ¬ (8 < n.len ∨ 64 < p.len)) (h2 : prsB p n.len = true) (h3 : formedM n.len n.s (leastM p n.len) = false) : makeE n p = 4 := by unfold makeE; rw [if_neg h, if_neg (by rw [h2]; simp), if_pos h3]
theorem makeE_0 {n : Strs} {p : Prs} (h : ¬ (8 < n.len ∨ 64 < p.len)) (h2 : prsB p n.len = true) (h3 : formedM n.len n.s (leastM p n.len) = true) : makeE n p = 0 := by unfold makeE; rw [if_neg h, if_neg (by rw [h2]; simp), if_neg (by rw [h3]; simp)]
theorem made_no {n : Strs} {p : Prs} {e : Int} (w : World) (h : makeE n p = e) (h0 : e ≠ 0) : Made n p e noStrs noGrid w := ⟨h.symm, noStrs_at w, noGrid_at w, fun h => absurd h h0, fun _ => ⟨rfl, rfl⟩⟩

theorem Strs.At.set {g : Strs} {w : World} (h : g.At w) {a : Addr} {p : Option Addr} {l c : Nat} (ha : w.cell? a = some (.slice p l c)) (v : Value) : g.At (w.setCell a v) :=
  ⟨h.lc, h.nil, h.bound, fun i hi => by
    have hc := h.cell i hi
    rw [World.cell?_setCell_other _ _ _ _ (fun e => by rw [← e, ha] at hc; cases hc)]
    exact hc, h.sz⟩
theorem gridOf_set {T n : Nat} {M : Nat → Nat → Bool} {w : World} (h : (gridOf T n M).At w) {a : Addr} (ha : a.block < T) (v : Value) : (gridOf T n M).At (w.setCell a v) where
  lc := h.lc
  nil := h.nil
  bound := h.bound
  lbound := h.lbound
  row := fun r hr => by
    rw [World.cell?_setCell_other _ _ _ _ (fun e => by have := congrArg Addr.block e; simp [gridOf] at this; omega)]
    exact h.row r hr
  adr := h.adr
  cell := fun r hr c hc => by
    rw [World.cell?_setCell_other _ _ _ _ (fun e => by have := congrArg Addr.block e; simp [gridOf] at this; omega)]
    exact h.cell r hr c hc
theorem below_set2 {w w1 : World} (h : Below w.heap.size w w1) (u v : Value) : Below w.heap.size w ((w1.setCell ⟨w.heap.size, 0, none⟩ u).setCell ⟨w.heap.size, 1, none⟩ v) :=
  (h.setCell (Nat.le_refl _) _).setCell (Nat.le_refl _) _

end Go.Proofs.Ytibhcbdofadamaa

/- The walks of the statements' awake and of the reference's Small. -/
namespace Go.Proofs.Ytibhcbdofadamaa
open Go.RowKit

def awkS : Nat → ByteArray := fun i => if i = 0 then ⟨#[108, 111, 119]⟩ else ⟨#[104, 105, 103, 104]⟩
def awkN (b : Nat) : Strs := ⟨some ⟨b, 0, none⟩, b, 0, 2, 2, awkS⟩
def awkP (b : Nat) : Prs := ⟨some ⟨b, 0, none⟩, b, 0, 1, 1, fun _ => 0, fun _ => 1⟩
theorem awk_e (b c : Nat) : makeE (awkN b) (awkP c) = 0 := by kernel_rfl
theorem awk_leq1 (ao : Option Addr) (b o c T q : Nat) : leqB ⟨ao, b, o, 2, c, awkS⟩ (gridOf T 2 (leastM (awkP q) 2)) 0 1 = true := by kernel_rfl
theorem awk_leq2 (ao : Option Addr) (b o c T q : Nat) : leqB ⟨ao, b, o, 2, c, awkS⟩ (gridOf T 2 (leastM (awkP q) 2)) 1 0 = false := by kernel_rfl
theorem awk_top (ao : Option Addr) (b o c T q : Nat) : topI ⟨ao, b, o, 2, c, awkS⟩ (gridOf T 2 (leastM (awkP q) 2)) = 1 := by kernel_rfl

/-- What Small answers. -/
def smallB (n : Strs) (g : Grid) : Bool := decide (g.len ≤ 100 ∧ ∀ r, r < g.len → g.L r ≤ 100) && decide (n.len ≤ 100)

theorem small_no1 {n : Strs} {g : Grid} {k : Nat} (hk : k < g.len) (h : 100 ≤ k ∨ 100 < g.L k) : smallB n g = false := by
  unfold smallB
  rw [Bool.and_eq_false_iff, decide_eq_false_iff_not]
  left
  rintro ⟨h1, h2⟩
  have := h2 k hk
  omega

end Go.Proofs.Ytibhcbdofadamaa

/- What a formed lattice is: an order in which each two have a join and a meet; what join, meet, bottom, top answer. No walk in this text. -/
namespace Go.Proofs.Ytibhcbdofadamaa

theorem near_neg (R : Nat → Nat) (x : Nat) : ∀ k a, nearFrom R x k a = -1 ∨ ∃ j, a ≤ j ∧ j < a + k ∧ nearFrom R x k a = (j : Int) ∧ x.testBit j = true ∧ x &&& R j = x
  | 0, _ => Or.inl rfl
  | k + 1, a => by
    unfold nearFrom
    by_cases h : (x.testBit a && (x &&& R a == x)) = true
    · rw [if_pos h]
      rw [Bool.and_eq_true, beq_iff_eq] at h
      exact Or.inr ⟨a, Nat.le_refl _, by omega, rfl, h.1, h.2⟩
    · rw [if_neg h]
      rcases near_neg R x k (a + 1) with h0 | ⟨j, h1, h2, h3⟩
      · exact Or.inl h0
      · exact Or.inr ⟨j, by omega, by omega, h3⟩

theorem near_some (R : Nat → Nat) (x j : Nat) (h1 : x.testBit j = true) (h2 : x &&& R j = x) : ∀ k a, a ≤ j → j < a + k → nearFrom R x k a ≠ -1
  | 0, _, _, _ => by omega
  | k + 1, a, ha, hj => by
    unfold nearFrom
    by_cases h : (x.testBit a && (x &&& R a == x)) = true
    · rw [if_pos h]; omega
    · rw [if_neg h]
      refine near_some R x j h1 h2 k (a + 1) ?_ (by omega)
      by_cases e : a = j
      · subst e
        exact absurd (by rw [h1, h2]; simp) h
      · omega

theorem and_sub {x y : Nat} : x &&& y = x ↔ ∀ i, x.testBit i = true → y.testBit i = true := by
  constructor
  · intro h i hi
    rw [← h, Nat.testBit_and, Bool.and_eq_true] at hi
    exact hi.2
  · intro h
    apply Nat.eq_of_testBit_eq
    intro i
    rw [Nat.testBit_and]
    cases hx : x.testBit i
    · rfl
    · rw [h i hx]; rfl

section
variable {n : Strs} {g : Grid}

theorem U_bit (g : Grid) {a : Nat} (ha : a < g.len) (b : Nat) : (g.U a).testBit b = (decide (b < 8) && g.le a b) := by
  unfold Grid.U upTo
  rw [mask_bit]
  simp [seen, ha]
theorem D_bit (g : Grid) (a b : Nat) : (g.D b).testBit a = (decide (a < 8) && g.le a b) := by
  unfold Grid.D dnTo
  rw [mask_bit]
  by_cases ha : a < g.len
  · simp [seen, ha]
  · simp [Grid.le, ha]

/-- a is below b, or is b. -/
def Lq (g : Grid) (a b : Nat) : Prop := g.B a b = true

theorem le_iff (hF : formedB n g = true) {a b : Nat} (ha : a < n.len) (hb : b < n.len) : g.le a b = true ↔ Lq g a b := by
  obtain ⟨p1, _, _, p4⟩ := formed_parts hF
  unfold Grid.le Lq
  rw [p4 a (by omega)]
  simp [show a < g.len by omega, hb]
theorem le_lt (hF : formedB n g = true) {a b : Nat} (h : g.le a b = true) : a < n.len ∧ b < n.len := by
  obtain ⟨p1, _, _, p4⟩ := formed_parts hF
  unfold Grid.le at h
  simp only [Bool.and_eq_true, decide_eq_true_eq] at h
  have := p4 a h.1
  omega

theorem U_mem (hF : formedB n g = true) {a b : Nat} (ha : a < n.len) : (g.U a).testBit b = true ↔ b < n.len ∧ Lq g a b := by
  obtain ⟨p1, _, p3, p4⟩ := formed_parts hF
  rw [U_bit g (by omega), Bool.and_eq_true, decide_eq_true_eq]
  constructor
  · rintro ⟨_, h⟩
    have := le_lt hF h
    exact ⟨this.2, (le_iff hF ha this.2).1 h⟩
  · rintro ⟨h1, h2⟩
    exact ⟨by omega, (le_iff hF ha h1).2 h2⟩
theorem D_mem (hF : formedB n g = true) {a b : Nat} (hb : b < n.len) : (g.D b).testBit a = true ↔ a < n.len ∧ Lq g a b := by
  obtain ⟨p1, _, p3, p4⟩ := formed_parts hF
  rw [D_bit g, Bool.and_eq_true, decide_eq_true_eq]
  constructor
  · rintro ⟨_, h⟩
    have := le_lt hF h
    exact ⟨this.1, (le_iff hF this.1 hb).1 h⟩
  · rintro ⟨h1, h2⟩
    exact ⟨by omega, (le_iff hF h1 hb).2 h2⟩

theorem part_of (hF : formedB n g = true) {a : Nat} (ha : a < n.len) : g.U a &&& g.D a = 2 ^ a ∧ ∀ b, b < n.len → (g.U a).testBit b = true → g.U b &&& g.U a = g.U b := by
  obtain ⟨p1, _, _, _⟩ := formed_parts hF
  unfold formedB at hF
  rw [Bool.and_eq_true, Bool.and_eq_true] at hF
  have h := hF.2
  rw [Bool.and_eq_true] at h
  have h1 := h.1
  unfold partB at h1
  rw [decide_eq_true_eq] at h1
  have h2 := h1 a (by omega)
  unfold partRow at h2
  rw [Bool.and_eq_true, beq_iff_eq, decide_eq_true_eq, p1] at h2
  exact h2

theorem lq_refl (hF : formedB n g = true) {a : Nat} (ha : a < n.len) : Lq g a a := by
  have h := (part_of hF ha).1
  have hb := congrArg (fun x => x.testBit a) h
  simp only [Nat.testBit_and, Nat.testBit_two_pow_self, Bool.and_eq_true] at hb
  exact ((U_mem hF ha).1 hb.1).2
theorem lq_anti (hF : formedB n g = true) {a b : Nat} (ha : a < n.len) (hb : b < n.len) (h1 : Lq g a b) (h2 : Lq g b a) : a = b := by
  have h := (part_of hF ha).1
  have hbit := congrArg (fun x => x.testBit b) h
  simp only [Nat.testBit_and] at hbit
  rw [(U_mem hF ha).2 ⟨hb, h1⟩, (D_mem hF ha).2 ⟨hb, h2⟩, Nat.testBit_two_pow] at hbit
  simpa using hbit
theorem lq_trans (hF : formedB n g = true) {a b c : Nat} (ha : a < n.len) (hb : b < n.len) (hc : c < n.len) (h1 : Lq g a b) (h2 : Lq g b c) : Lq g a c := by
  have h := (part_of hF ha).2 b hb ((U_mem hF ha).2 ⟨hb, h1⟩)
  have := and_sub.1 h c ((U_mem hF hb).2 ⟨hc, h2⟩)
  exact ((U_mem hF ha).1 this).2

/-- j is the least above both; the greatest below both. -/
def IsJoin (n : Strs) (g : Grid) (a b j : Nat) : Prop := j < n.len ∧ Lq g a j ∧ Lq g b j ∧ ∀ c, c < n.len → Lq g a c → Lq g b c → Lq g j c
def IsMeet (n : Strs) (g : Grid) (a b j : Nat) : Prop := j < n.len ∧ Lq g j a ∧ Lq g j b ∧ ∀ c, c < n.len → Lq g c a → Lq g c b → Lq g c j

theorem isJoin_uniq (hF : formedB n g = true) {a b j k : Nat} (h1 : IsJoin n g a b j) (h2 : IsJoin n g a b k) : j = k :=
  lq_anti hF h1.1 h2.1 (h1.2.2.2 k h2.1 h2.2.1 h2.2.2.1) (h2.2.2.2 j h1.1 h1.2.1 h1.2.2.1)
theorem isMeet_uniq (hF : formedB n g = true) {a b j k : Nat} (h1 : IsMeet n g a b j) (h2 : IsMeet n g a b k) : j = k :=
  lq_anti hF h1.1 h2.1 (h2.2.2.2 j h1.1 h1.2.1 h1.2.2.1) (h1.2.2.2 k h2.1 h2.2.1 h2.2.2.1)

theorem all_bit (N i : Nat) : (2 ^ N - 1).testBit i = decide (i < N) := Nat.testBit_two_pow_sub_one N i

theorem upSet (hF : formedB n g = true) {a b : Nat} (ha : a < n.len) (hb : b < n.len) (i : Nat) : (((2 ^ g.len - 1) &&& g.U a) &&& g.U b).testBit i = true ↔ i < n.len ∧ Lq g a i ∧ Lq g b i := by
  obtain ⟨p1, _, _, _⟩ := formed_parts hF
  rw [Nat.testBit_and, Nat.testBit_and, Bool.and_eq_true, Bool.and_eq_true, all_bit, decide_eq_true_eq, U_mem hF ha, U_mem hF hb]
  constructor
  · rintro ⟨⟨h1, h2⟩, h3⟩; exact ⟨h2.1, h2.2, h3.2⟩
  · rintro ⟨h1, h2, h3⟩; exact ⟨⟨by omega, h1, h2⟩, h1, h3⟩
theorem dnSet (hF : formedB n g = true) {a b : Nat} (ha : a < n.len) (hb : b < n.len) (i : Nat) : (((2 ^ g.len - 1) &&& g.D a) &&& g.D b).testBit i = true ↔ i < n.len ∧ Lq g i a ∧ Lq g i b := by
  obtain ⟨p1, _, _, _⟩ := formed_parts hF
  rw [Nat.testBit_and, Nat.testBit_and, Bool.and_eq_true, Bool.and_eq_true, all_bit, decide_eq_true_eq, D_mem hF ha, D_mem hF hb]
  constructor
  · rintro ⟨⟨h1, h2⟩, h3⟩; exact ⟨h2.1, h2.2, h3.2⟩
  · rintro ⟨h1, h2, h3⟩; exact ⟨⟨by omega, h1, h2⟩, h1, h3⟩

theorem near2_join (hF : formedB n g = true) {a b : Nat} (ha : a < n.len) (hb : b < n.len) (hne : near2 g.len g.U a b ≠ -1) : ∃ j : Nat, near2 g.len g.U a b = (j : Int) ∧ IsJoin n g a b j := by
  unfold near2 near at *
  rcases near_neg g.U (((2 ^ g.len - 1) &&& g.U a) &&& g.U b) 8 0 with h | ⟨j, _, _, h1, h2, h3⟩
  · exact absurd h hne
  · obtain ⟨q1, q2, q3⟩ := (upSet hF ha hb j).1 h2
    exact ⟨j, h1, q1, q2, q3, fun c hc h4 h5 => ((U_mem hF q1).1 (and_sub.1 h3 c ((upSet hF ha hb c).2 ⟨hc, h4, h5⟩))).2⟩
theorem near2_meet (hF : formedB n g = true) {a b : Nat} (ha : a < n.len) (hb : b < n.len) (hne : near2 g.len g.D a b ≠ -1) : ∃ j : Nat, near2 g.len g.D a b = (j : Int) ∧ IsMeet n g a b j := by
  unfold near2 near at *
  rcases near_neg g.D (((2 ^ g.len - 1) &&& g.D a) &&& g.D b) 8 0 with h | ⟨j, _, _, h1, h2, h3⟩
  · exact absurd h hne
  · obtain ⟨q1, q2, q3⟩ := (dnSet hF ha hb j).1 h2
    exact ⟨j, h1, q1, q2, q3, fun c hc h4 h5 => ((D_mem hF q1).1 (and_sub.1 h3 c ((dnSet hF ha hb c).2 ⟨hc, h4, h5⟩))).2⟩

theorem near2_comm (N : Nat) (R : Nat → Nat) (a b : Nat) : near2 N R a b = near2 N R b a := by
  unfold near2
  rw [Nat.and_assoc, Nat.and_comm (R a) (R b), ← Nat.and_assoc]

theorem ok_of (hF : formedB n g = true) {a b : Nat} (ha : a < n.len) (hb : b < a) : near2 g.len g.U a b ≠ -1 ∧ near2 g.len g.D a b ≠ -1 := by
  obtain ⟨p1, _, _, _⟩ := formed_parts hF
  unfold formedB at hF
  rw [Bool.and_eq_true, Bool.and_eq_true] at hF
  have h := hF.2
  rw [Bool.and_eq_true] at h
  have h1 := h.2
  unfold bddB at h1
  rw [decide_eq_true_eq] at h1
  have h2 := h1 a (by omega) b hb
  unfold okPair at h2
  rw [Bool.and_eq_true, bne_iff_ne, bne_iff_ne] at h2
  exact h2

theorem join_is (hF : formedB n g = true) {a b : Nat} (ha : a < n.len) (hb : b < n.len) : ∃ j : Nat, near2 g.len g.U a b = (j : Int) ∧ IsJoin n g a b j := by
  obtain ⟨p1, _, p3, _⟩ := formed_parts hF
  refine near2_join hF ha hb ?_
  rcases Nat.lt_trichotomy a b with h | h | h
  · rw [near2_comm]; exact (ok_of hF hb h).1
  · subst h
    refine near_some g.U _ a ?_ ?_ 8 0 (Nat.zero_le _) (by omega)
    · exact (upSet hF ha ha a).2 ⟨ha, lq_refl hF ha, lq_refl hF ha⟩
    · exact and_sub.2 fun i hi => (U_mem hF ha).2 ⟨((upSet hF ha ha i).1 hi).1, ((upSet hF ha ha i).1 hi).2.1⟩
  · exact (ok_of hF ha h).1
theorem meet_is (hF : formedB n g = true) {a b : Nat} (ha : a < n.len) (hb : b < n.len) : ∃ j : Nat, near2 g.len g.D a b = (j : Int) ∧ IsMeet n g a b j := by
  obtain ⟨p1, _, p3, _⟩ := formed_parts hF
  refine near2_meet hF ha hb ?_
  rcases Nat.lt_trichotomy a b with h | h | h
  · rw [near2_comm]; exact (ok_of hF hb h).2
  · subst h
    refine near_some g.D _ a ?_ ?_ 8 0 (Nat.zero_le _) (by omega)
    · exact (dnSet hF ha ha a).2 ⟨ha, lq_refl hF ha, lq_refl hF ha⟩
    · exact and_sub.2 fun i hi => (D_mem hF ha).2 ⟨((dnSet hF ha ha i).1 hi).1, ((dnSet hF ha ha i).1 hi).2.1⟩
  · exact (ok_of hF ha h).2

/-- The labels as numbers: Jn, Mt. -/
def Jn (g : Grid) (a b : Nat) : Nat := (near2 g.len g.U a b).toNat
def Mt (g : Grid) (a b : Nat) : Nat := (near2 g.len g.D a b).toNat
theorem jn_is (hF : formedB n g = true) {a b : Nat} (ha : a < n.len) (hb : b < n.len) : near2 g.len g.U a b = (Jn g a b : Int) ∧ IsJoin n g a b (Jn g a b) := by
  obtain ⟨j, h1, h2⟩ := join_is hF ha hb
  have e : Jn g a b = j := by unfold Jn; rw [h1]; rfl
  rw [e]; exact ⟨h1, h2⟩
theorem mt_is (hF : formedB n g = true) {a b : Nat} (ha : a < n.len) (hb : b < n.len) : near2 g.len g.D a b = (Mt g a b : Int) ∧ IsMeet n g a b (Mt g a b) := by
  obtain ⟨j, h1, h2⟩ := meet_is hF ha hb
  have e : Mt g a b = j := by unfold Mt; rw [h1]; rfl
  rw [e]; exact ⟨h1, h2⟩

theorem lab_yes {a : Nat} (ha : a < n.len) : labB n (a : Int) = true := by
  unfold labB
  rw [Bool.and_eq_true, decide_eq_true_eq, decide_eq_true_eq]
  omega
theorem joinI_nat (hF : formedB n g = true) {a b : Nat} (ha : a < n.len) (hb : b < n.len) : joinI n g a b = (Jn g a b : Int) := by
  unfold joinI
  rw [if_pos (by rw [lab_yes ha, lab_yes hb, hF]; rfl)]
  exact (jn_is hF ha hb).1
theorem meetI_nat (hF : formedB n g = true) {a b : Nat} (ha : a < n.len) (hb : b < n.len) : meetI n g a b = (Mt g a b : Int) := by
  unfold meetI
  rw [if_pos (by rw [lab_yes ha, lab_yes hb, hF]; rfl)]
  exact (mt_is hF ha hb).1
theorem leqB_nat (hF : formedB n g = true) {a b : Nat} (ha : a < n.len) (hb : b < n.len) : leqB n g a b = g.B a b := by
  unfold leqB
  rw [lab_yes ha, lab_yes hb, hF]; rfl

theorem jn_lt (hF : formedB n g = true) {a b : Nat} (ha : a < n.len) (hb : b < n.len) : Jn g a b < n.len := (jn_is hF ha hb).2.1
theorem mt_lt (hF : formedB n g = true) {a b : Nat} (ha : a < n.len) (hb : b < n.len) : Mt g a b < n.len := (mt_is hF ha hb).2.1
theorem jn_eq (hF : formedB n g = true) {a b j : Nat} (ha : a < n.len) (hb : b < n.len) (h : IsJoin n g a b j) : Jn g a b = j := isJoin_uniq hF (jn_is hF ha hb).2 h
theorem mt_eq (hF : formedB n g = true) {a b j : Nat} (ha : a < n.len) (hb : b < n.len) (h : IsMeet n g a b j) : Mt g a b = j := isMeet_uniq hF (mt_is hF ha hb).2 h

theorem jn_comm (hF : formedB n g = true) {a b : Nat} (ha : a < n.len) (hb : b < n.len) : Jn g a b = Jn g b a :=
  jn_eq hF ha hb (by obtain ⟨h1, h2, h3, h4⟩ := (jn_is hF hb ha).2; exact ⟨h1, h3, h2, fun c hc h5 h6 => h4 c hc h6 h5⟩)
theorem mt_comm (hF : formedB n g = true) {a b : Nat} (ha : a < n.len) (hb : b < n.len) : Mt g a b = Mt g b a :=
  mt_eq hF ha hb (by obtain ⟨h1, h2, h3, h4⟩ := (mt_is hF hb ha).2; exact ⟨h1, h3, h2, fun c hc h5 h6 => h4 c hc h6 h5⟩)
theorem mt_jn (hF : formedB n g = true) {a b : Nat} (ha : a < n.len) (hb : b < n.len) : Mt g a (Jn g a b) = a :=
  mt_eq hF ha (jn_lt hF ha hb) ⟨ha, lq_refl hF ha, (jn_is hF ha hb).2.2.1, fun _ _ h _ => h⟩
theorem jn_mt (hF : formedB n g = true) {a b : Nat} (ha : a < n.len) (hb : b < n.len) : Jn g a (Mt g a b) = a :=
  jn_eq hF ha (mt_lt hF ha hb) ⟨ha, lq_refl hF ha, (mt_is hF ha hb).2.2.1, fun _ _ h _ => h⟩
theorem jn_leq (hF : formedB n g = true) {a b : Nat} (ha : a < n.len) (hb : b < n.len) : g.B a b = (Jn g a b == b) := by
  rw [Bool.eq_iff_iff, beq_iff_eq]
  constructor
  · intro h; exact jn_eq hF ha hb ⟨hb, h, lq_refl hF hb, fun _ _ _ h => h⟩
  · intro h; have := (jn_is hF ha hb).2.2.1; rw [h] at this; exact this
theorem mt_leq (hF : formedB n g = true) {a b : Nat} (ha : a < n.len) (hb : b < n.len) : g.B a b = (Mt g a b == a) := by
  rw [Bool.eq_iff_iff, beq_iff_eq]
  constructor
  · intro h; exact mt_eq hF ha hb ⟨ha, lq_refl hF ha, h, fun _ _ h _ => h⟩
  · intro h; have := (mt_is hF ha hb).2.2.2.1; rw [h] at this; exact this
theorem jn_assoc (hF : formedB n g = true) {a b c : Nat} (ha : a < n.len) (hb : b < n.len) (hc : c < n.len) : Jn g (Jn g a b) c = Jn g a (Jn g b c) := by
  have hab := jn_lt hF ha hb
  have hbc := jn_lt hF hb hc
  obtain ⟨x1, x2, x3, x4⟩ := (jn_is hF ha hb).2
  obtain ⟨y1, y2, y3, y4⟩ := (jn_is hF hb hc).2
  obtain ⟨z1, z2, z3, z4⟩ := (jn_is hF ha hbc).2
  refine jn_eq hF hab hc ⟨z1, x4 _ z1 z2 (lq_trans hF hb hbc z1 y2 z3), lq_trans hF hc hbc z1 y3 z3, fun d hd h1 h2 => ?_⟩
  exact z4 d hd (lq_trans hF ha hab hd x2 h1) (y4 d hd (lq_trans hF hb hab hd x3 h1) h2)
theorem mt_assoc (hF : formedB n g = true) {a b c : Nat} (ha : a < n.len) (hb : b < n.len) (hc : c < n.len) : Mt g (Mt g a b) c = Mt g a (Mt g b c) := by
  have hab := mt_lt hF ha hb
  have hbc := mt_lt hF hb hc
  obtain ⟨x1, x2, x3, x4⟩ := (mt_is hF ha hb).2
  obtain ⟨y1, y2, y3, y4⟩ := (mt_is hF hb hc).2
  obtain ⟨z1, z2, z3, z4⟩ := (mt_is hF ha hbc).2
  refine mt_eq hF hab hc ⟨z1, x4 _ z1 z2 (lq_trans hF z1 hbc hb z3 y2), lq_trans hF z1 hbc hc z3 y3, fun d hd h1 h2 => ?_⟩
  exact z4 d hd (lq_trans hF hd hab ha h1 x2) (y4 d hd (lq_trans hF hd hab hb h1 x3) h2)

/-- There is a bottom, and a top. -/
theorem low_all (hF : formedB n g = true) : ∀ k, k ≤ n.len → ∃ m, m < n.len ∧ ∀ c, c < k → Lq g m c
  | 0, _ => ⟨0, (formed_parts hF).2.1, fun _ h => absurd h (Nat.not_lt_zero _)⟩
  | k + 1, hk => by
    obtain ⟨m, hm, h⟩ := low_all hF k (by omega)
    obtain ⟨x1, x2, x3, _⟩ := (mt_is hF hm (show k < n.len by omega)).2
    refine ⟨_, x1, fun c hc => ?_⟩
    rcases Nat.lt_succ_iff_lt_or_eq.1 hc with h1 | h1
    · exact lq_trans hF x1 hm (by omega) x2 (h c h1)
    · rw [h1]; exact x3
theorem high_all (hF : formedB n g = true) : ∀ k, k ≤ n.len → ∃ m, m < n.len ∧ ∀ c, c < k → Lq g c m
  | 0, _ => ⟨0, (formed_parts hF).2.1, fun _ h => absurd h (Nat.not_lt_zero _)⟩
  | k + 1, hk => by
    obtain ⟨m, hm, h⟩ := high_all hF k (by omega)
    obtain ⟨x1, x2, x3, _⟩ := (jn_is hF hm (show k < n.len by omega)).2
    refine ⟨_, x1, fun c hc => ?_⟩
    rcases Nat.lt_succ_iff_lt_or_eq.1 hc with h1 | h1
    · exact lq_trans hF (by omega) hm x1 (h c h1) x2
    · rw [h1]; exact x3
theorem bot_is (hF : formedB n g = true) : ∃ m : Nat, botI n g = (m : Int) ∧ m < n.len ∧ ∀ c, c < n.len → Lq g m c := by
  obtain ⟨p1, _, p3, _⟩ := formed_parts hF
  obtain ⟨m, hm, h⟩ := low_all hF n.len (Nat.le_refl _)
  unfold botI
  rw [if_pos hF]
  have hne : near g.U (2 ^ g.len - 1) ≠ -1 := by
    refine near_some g.U _ m ?_ ?_ 8 0 (Nat.zero_le _) (by omega)
    · rw [all_bit, decide_eq_true_eq]; omega
    · exact and_sub.2 fun i hi => by
        rw [all_bit, decide_eq_true_eq] at hi
        exact (U_mem hF hm).2 ⟨by omega, h i (by omega)⟩
  unfold near at *
  rcases near_neg g.U (2 ^ g.len - 1) 8 0 with h0 | ⟨j, _, _, h1, h2, h3⟩
  · exact absurd h0 hne
  · rw [all_bit, decide_eq_true_eq] at h2
    exact ⟨j, h1, by omega, fun c hc => ((U_mem hF (by omega)).1 (and_sub.1 h3 c (by rw [all_bit, decide_eq_true_eq]; omega))).2⟩
theorem top_is (hF : formedB n g = true) : ∃ m : Nat, topI n g = (m : Int) ∧ m < n.len ∧ ∀ c, c < n.len → Lq g c m := by
  obtain ⟨p1, _, p3, _⟩ := formed_parts hF
  obtain ⟨m, hm, h⟩ := high_all hF n.len (Nat.le_refl _)
  unfold topI
  rw [if_pos hF]
  have hne : near g.D (2 ^ g.len - 1) ≠ -1 := by
    refine near_some g.D _ m ?_ ?_ 8 0 (Nat.zero_le _) (by omega)
    · rw [all_bit, decide_eq_true_eq]; omega
    · exact and_sub.2 fun i hi => by
        rw [all_bit, decide_eq_true_eq] at hi
        exact (D_mem hF hm).2 ⟨by omega, h i (by omega)⟩
  unfold near at *
  rcases near_neg g.D (2 ^ g.len - 1) 8 0 with h0 | ⟨j, _, _, h1, h2, h3⟩
  · exact absurd h0 hne
  · rw [all_bit, decide_eq_true_eq] at h2
    exact ⟨j, h1, by omega, fun c hc => ((D_mem hF (by omega)).1 (and_sub.1 h3 c (by rw [all_bit, decide_eq_true_eq]; omega))).2⟩
end
end Go.Proofs.Ytibhcbdofadamaa

/- A region that draws its order and holds calls that make memory, walked once: the class of worlds in which a variable of two cells stands. -/
namespace Go.Proofs.Ytibhcbdofadamaa
open Go.RowKit

/-- The worlds behind w in which the variable of two cells still holds u and v. -/
def Cls (w : World) (u v : Value) : Type := { w' : World // Box2 w w' u v }
def Cls.w {w : World} {u v : Value} (x : Cls w u v) : World := x.1
theorem Cls.box {w : World} {u v : Value} (x : Cls w u v) : Box2 w x.w u v := x.2

theorem wp_region_cls {P : Program} {w0 : World} {u v : Value} {id : Nat} {Q : Exit → Act → World → Prop} {a : Act} {w : World} {l : List Oper} (hb : Box2 w0 w u v) (hm : P.follows .mixedOrders = true) (hB : Region.lexB .any l.toArray = true)
    (h : wpQuiet P l.toArray (fun w' => ∃ x : Cls w0 u v, w' = x.w) (fun a' => ∀ w', (∃ x : Cls w0 u v, w' = x.w) → Q .normal a' w') l a) : (Code.region id l.toArray true).wp P Q a w :=
  wp_region_quiet (C := fun w' => ∃ x : Cls w0 u v, w' = x.w) hm hB ⟨⟨_, hb.step ((Below.refl _ _).drew)⟩, rfl⟩ (by simpa using h)

theorem Calls.cls {P : Program} {f : FuncId} {args : Array Value} {w0 : World} {u v r : Value} (x : Cls w0 u v)
    (h : Calls P f args x.w fun e w' => e = .returned r ∧ Below x.w.heap.size x.w w') : Calls P f args x.w fun e w'' => e = .returned r ∧ ∃ y : Cls w0 u v, w'' = y.w :=
  h.mono fun _ _ ⟨he, hb⟩ => ⟨he, ⟨_, x.box.step hb⟩, rfl⟩

theorem int_beq (a b : Nat) : ((a : Int) == (b : Int)) = (a == b) := by
  by_cases h : a = b
  · subst h; simp
  · rw [beq_eq_false_iff_ne.2 h, beq_eq_false_iff_ne.2 (by omega)]
theorem int_bne {a b : Nat} (h : a = b) : ((a : Int) != (b : Int)) = false := by subst h; simp
theorem bool_bne {p q : Bool} (h : p = q) : (p != q) = false := by subst h; simp

/- The calls on labels of a formed lattice, behind a variable that holds it. -/
end Go.Proofs.Ytibhcbdofadamaa

/- The walk of the statement LatticeLeast. -/
namespace Go.Proofs.Ytibhcbdofadamaa
open Go.RowKit

theorem leq_in {n : Strs} {g : Grid} {a b : Int} (h : leqB n g a b = true) : inR n.len a = true ∧ inR n.len b = true ∧ formedB n g = true ∧ g.B a.toNat b.toNat = true := by
  unfold leqB at h
  rw [Bool.and_eq_true, Bool.and_eq_true, Bool.and_eq_true] at h
  exact ⟨h.1.1.1, h.1.1.2, h.1.2, h.2⟩
theorem prs_yes {n : Strs} {g : Grid} {p : Prs} (h : ∀ i, i < p.len → leqB n g (p.x i) (p.y i) = true) : prsB p n.len = true := by
  unfold prsB
  rw [decide_eq_true_eq]
  intro i hi
  have := leq_in (h i hi)
  rw [this.1, this.2.1]; rfl

theorem war_in {n : Strs} {g : Grid} (hF : formedB n g = true) {M : Nat → Nat → Bool} (hM : ∀ r c, r < n.len → c < n.len → M r c = true → Lq g r c) : ∀ k, k ≤ n.len → ∀ r c, r < n.len → c < n.len → war M k r c = true → Lq g r c
  | 0, _, r, c, hr, hc, h => hM r c hr hc h
  | k + 1, hk, r, c, hr, hc, h => by
    unfold war warStep at h
    rw [Bool.or_eq_true, Bool.and_eq_true] at h
    rcases h with h | ⟨h1, h2⟩
    · exact war_in hF hM k (by omega) r c hr hc h
    · exact lq_trans hF hr (by omega) hc (war_in hF hM k (by omega) r k hr (by omega) h1) (war_in hF hM k (by omega) k c (by omega) hc h2)
theorem war_has (M : Nat → Nat → Bool) (r c : Nat) (h : M r c = true) : ∀ k, war M k r c = true
  | 0 => h
  | k + 1 => by unfold war warStep; rw [war_has M r c h k]; rfl
theorem least_in {n : Strs} {g : Grid} {p : Prs} (hF : formedB n g = true) (h : ∀ i, i < p.len → leqB n g (p.x i) (p.y i) = true) {r c : Nat} (hr : r < n.len) (hc : c < n.len) (hl : leastM p n.len r c = true) : g.B r c = true := by
  refine war_in hF (M := prsM p p.len) (fun r c hr hc hm => ?_) n.len (Nat.le_refl _) r c hr hc hl
  unfold prsM at hm
  rw [Bool.or_eq_true, decide_eq_true_eq, beq_iff_eq] at hm
  rcases hm with rfl | ⟨i, hi, h1, h2⟩
  · exact lq_refl hF hr
  · have := (leq_in (h i hi)).2.2.2
    rw [h1, h2] at this
    exact this
theorem least_has {n : Strs} {g : Grid} {p : Prs} (h : ∀ i, i < p.len → leqB n g (p.x i) (p.y i) = true) {i : Nat} (hi : i < p.len) : leastM p n.len (p.x i).toNat (p.y i).toNat = true := by
  refine war_has _ _ _ ?_ _
  unfold prsM
  rw [Bool.or_eq_true, decide_eq_true_eq]
  have q := leq_in (h i hi)
  obtain ⟨a, ha, _⟩ := inR_nat q.1
  obtain ⟨b, hb, _⟩ := inR_nat q.2.1
  exact Or.inr ⟨i, hi, by rw [ha]; rfl, by rw [hb]; rfl⟩

theorem made_leq {n n' : Strs} {p : Prs} {T : Nat} (h1 : n'.len = n.len) (h2 : n'.s = n.s) (hE : makeE n p = 0) : formedB n' (gridOf T n.len (leastM p n.len)) = true := by
  rw [formed_canon h1 h2]
  by_cases h : 8 < n.len ∨ 64 < p.len
  · rw [makeE_1 h] at hE; omega
  cases h2 : prsB p n.len
  · rw [makeE_10 h h2] at hE; omega
  cases h3 : formedM n.len n.s (leastM p n.len)
  · rw [makeE_4 h h2 h3] at hE; omega
  · rfl
theorem make_04 {n : Strs} {p : Prs} (h : ¬ (8 < n.len ∨ 64 < p.len)) (h2 : prsB p n.len = true) : makeE n p = 0 ∨ makeE n p = 4 := by
  cases h3 : formedM n.len n.s (leastM p n.len)
  · exact Or.inr (makeE_4 h h2 h3)
  · exact Or.inl (makeE_0 h h2 h3)
theorem leqB_grid {n : Strs} {T N : Nat} {M : Nat → Nat → Bool} (hF : formedB n (gridOf T N M) = true) {a b : Nat} (ha : a < n.len) (hb : b < n.len) {r : Bool} (h : M a b = r) : leqB n (gridOf T N M) a b = r := by
  rw [leqB_nat hF ha hb]; exact h

end Go.Proofs.Ytibhcbdofadamaa
