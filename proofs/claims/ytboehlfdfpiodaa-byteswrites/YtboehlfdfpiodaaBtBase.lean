/- Layer 4: bytes in memory, numbers and their bytes, what a reader has. -/
import Derived.Test.YtboehlfdfpiodaaRows
import Derived.WalkKit
import Derived.WalkSpells
import Derived.WalkLawsBesides
import Derived.Deep.QuietTactic
import Derived.BigQuiet
import Derived.Deep.OwnRows
import Derived.Deep.AppendLies
import Derived.Deep.MidRow
import Derived.Laws.CopyOwn
import Derived.Lib.BufferWrite
import Derived.Lib.EndianBits
namespace Go.Proofs.Ytboehlfdfpiodaa
open Go.RowKit

theorem ret_int {k : IntKind} {a b : Int} (h : a = b) : Ending.returned (.int k a) = .returned (.int k b) := by rw [h]
theorem ret_bool {a b : Bool} (h : a = b) : Ending.returned (.bool a) = .returned (.bool b) := by rw [h]
theorem cell_lt {w : World} {p : Addr} {v : Value} (h : w.cell? p = some v) : p.block < w.heap.size := by
  unfold World.cell? at h
  rcases Nat.lt_or_ge p.block w.heap.size with hl | hl
  · exact hl
  · rw [Array.getElem?_eq_none hl] at h; simp at h
theorem heap_lt {w : World} {p : Nat} {v : Obj} (h : w.heap[p]? = some v) : p < w.heap.size := by
  rcases Nat.lt_or_ge p w.heap.size with hl | hl
  · exact hl
  · rw [Array.getElem?_eq_none hl] at h; cases h
theorem addr_add (b o i : Nat) : (⟨b, o, none⟩ : Addr).add i = ⟨b, o + i, none⟩ := by unfold Addr.add; split <;> simp_all

theorem gb_refl (w : World) (r : Option Nat) : w.grownBy w r := ⟨rfl, rfl, rfl, Nat.le_refl _, fun _ _ _ => rfl⟩
theorem gb_trans {a b c : World} {r : Option Nat} (h : a.grownBy b r) (k : b.grownBy c r) : a.grownBy c r :=
  ⟨k.os.trans h.os, k.tape.trans h.tape, k.output.trans h.output, Nat.le_trans h.size k.size, fun x hx hr => (k.block x (Nat.lt_of_lt_of_le hx h.size) hr).trans (h.block x hx hr)⟩
theorem gb_set {a b : World} {p : Nat} (h : a.grownBy b (some p)) (o : Nat) (v : Value) : a.grownBy (b.setCell ⟨p, o, none⟩ v) (some p) :=
  gb_trans h (Lib.grownBy_setCell b p o v)
theorem gb_none {a b : World} (h : a.grownBy b none) (r : Option Nat) : a.grownBy b r := ⟨h.os, h.tape, h.output, h.size, fun x hx _ => h.block x hx (by simp)⟩
theorem gb_of_below {a b : World} (h : Below a.heap.size a b) (r : Option Nat) : a.grownBy b r := ⟨h.os, h.tape, h.output, h.size, fun x hx _ => h.block x hx⟩
theorem gb_new {a b : World} {p : Nat} (h : a.grownBy b (some p)) (hp : a.heap.size ≤ p) : Below a.heap.size a b := ⟨h.os, h.tape, h.output, h.size, fun x hx => h.block x hx (fun e => by injection e with e; omega)⟩

/-- A []byte in memory. -/
structure Bys where
  ao : Option Addr
  b : Nat
  o : Nat
  len : Nat
  cap : Nat
  f : Nat → Nat
structure Bys.At (g : Bys) (w : World) : Prop where
  lc : g.len ≤ g.cap
  nil : 0 < g.len → g.ao = some ⟨g.b, g.o, none⟩
  none : g.ao = none → g.cap = 0
  bound : g.cap ≤ 9223372036854775807
  cell : ∀ i, i < g.len → w.cell? ⟨g.b, g.o + i, .none⟩ = some (.int .u8 (g.f i))
  lt : ∀ i, i < g.len → g.f i < 256
/-- The bytes. -/
def Bys.l (g : Bys) : List Nat := (List.range g.len).map g.f
theorem Bys.len_l (g : Bys) : g.l.length = g.len := by simp [Bys.l]
theorem Bys.At.of_cell {g : Bys} {w w' : World} (h : g.At w) (hc : ∀ i, i < g.len → w'.cell? ⟨g.b, g.o + i, .none⟩ = w.cell? ⟨g.b, g.o + i, .none⟩) : g.At w' :=
  ⟨h.lc, h.nil, h.none, h.bound, fun i hi => (hc i hi).trans (h.cell i hi), h.lt⟩
theorem Bys.At.kept {g : Bys} {w w' : World} (h : g.At w) (hb : Below w.heap.size w w') : g.At w' :=
  h.of_cell fun i hi => hb.cell (p := ⟨g.b, g.o + i, .none⟩) (cell_lt (h.cell i hi))
theorem Bys.At.gb {g : Bys} {w w' : World} {p : Nat} (h : g.At w) (hb : w.grownBy w' (some p)) (hp : g.b ≠ p) : g.At w' :=
  h.of_cell fun i hi => hb.cell_far ⟨g.b, g.o + i, .none⟩ (cell_lt (h.cell i hi)) (fun e => hp (by injection e))
theorem Bys.l_lt {g : Bys} {w : World} (h : g.At w) : ∀ x ∈ g.l, x < 256 := by
  intro x hx
  simp only [Bys.l, List.mem_map, List.mem_range] at hx
  obtain ⟨i, hi, rfl⟩ := hx
  exact h.lt i hi

/-- The number that bytes say. -/
def val (l : List Nat) : Nat := l.foldl (fun n b => n * 256 + b) 0
theorem val_nil : val [] = 0 := rfl
theorem val_snoc (l : List Nat) (b : Nat) : val (l ++ [b]) = val l * 256 + b := by simp [val, List.foldl_append]
theorem val_lt (l : List Nat) (h : ∀ x ∈ l, x < 256) : val l < 256 ^ l.length := by
  suffices H : ∀ l : List Nat, (∀ x ∈ l.reverse, x < 256) → val l.reverse < 256 ^ l.length by
    have := H l.reverse (by simpa using h)
    simpa using this
  intro l
  induction l with
  | nil => intro _; simp [val_nil]
  | cons a l ih =>
    intro h
    simp only [List.reverse_cons] at h ⊢
    rw [val_snoc]
    have h1 := ih (fun x hx => h x (by simp at hx ⊢; exact Or.inl hx))
    have h2 := h a (by simp)
    have : 256 ^ (a :: l).length = 256 ^ l.length * 256 := by simp [Nat.pow_succ]
    rw [this]
    omega
def valF (f : Nat → Nat) : Nat → Nat
  | 0 => 0
  | k + 1 => valF f k * 256 + f k
theorem val_range (f : Nat → Nat) (k : Nat) : val ((List.range k).map f) = valF f k := by
  induction k with
  | zero => rfl
  | succ k ih => rw [List.range_succ, List.map_append]; simp only [List.map_cons, List.map_nil]; rw [val_snoc, ih]; rfl
theorem valF_lt (f : Nat → Nat) (k : Nat) (h : ∀ i, i < k → f i < 256) : valF f k < 256 ^ k := by
  induction k with
  | zero => simp [valF]
  | succ k ih =>
    have h1 := ih (fun i hi => h i (by omega))
    have h2 := h k (by omega)
    show valF f k * 256 + f k < _
    rw [Nat.pow_succ]; omega
theorem valF_8 (f : Nat → Nat) (k : Nat) (hk : k ≤ 8) (h : ∀ i, i < k → f i < 256) : valF f k < 18446744073709551616 := by
  have h1 := valF_lt f k h
  have h2 : 256 ^ k ≤ 256 ^ 8 := Nat.pow_le_pow_right (by omega) hk
  have : (256 : Nat) ^ 8 = 18446744073709551616 := by decide
  omega

/-- Byte i of the k bytes of n, the most significant first. -/
def beF (k n i : Nat) : Nat := n / 256 ^ (k - 1 - i) % 256
def be (k n : Nat) : List Nat := (List.range k).map (beF k n)
theorem be_len (k n : Nat) : (be k n).length = k := by simp [be]
theorem beF_lt (k n i : Nat) : beF k n i < 256 := Nat.mod_lt _ (by omega)
theorem be_lt (k n : Nat) : ∀ x ∈ be k n, x < 256 := by
  intro x hx
  simp only [be, List.mem_map] at hx
  obtain ⟨i, _, rfl⟩ := hx
  exact beF_lt _ _ _
theorem be_succ (k n : Nat) : be (k + 1) n = be k (n / 256) ++ [n % 256] := by
  unfold be
  rw [List.range_succ, List.map_append]
  congr 1
  · apply List.map_congr_left
    intro i hi
    rw [List.mem_range] at hi
    unfold beF
    rw [show k + 1 - 1 - i = (k - 1 - i) + 1 by omega, Nat.pow_succ, Nat.mul_comm, Nat.div_div_eq_div_mul]
  · simp [beF]
theorem val_be (k n : Nat) : val (be k n) = n % 256 ^ k := by
  induction k generalizing n with
  | zero => simp [be, val_nil, Nat.mod_one]
  | succ k ih =>
    rw [be_succ, val_snoc, ih, Nat.pow_succ, Nat.mul_comm (256 ^ k) 256, Nat.mod_mul, Nat.mul_comm, Nat.add_comm]

/-- What is taken of what a reader has: nothing of a failed one. -/
def tk (s : Nat) : Option (List Nat) → List Nat
  | some l => if s ≤ l.length then l.take s else []
  | none => []
def tkS (s : Nat) : Option (List Nat) → Option (List Nat)
  | some l => if s ≤ l.length then some (l.drop s) else none
  | none => none
def shortV (st : Option (List Nat)) : Nat := val (tk 2 st)
def sgn (n : Nat) : Int := if n < 9223372036854775808 then n else (n : Int) - 18446744073709551616
def longV (st : Option (List Nat)) : Int := sgn (val (tk 8 st))
def str (l : List Nat) : ByteArray := ⟨(l.map fun x => UInt8.ofNat x).toArray⟩
def textV (st : Option (List Nat)) : ByteArray := str (tk (shortV st) (tkS 2 st))
def textS (st : Option (List Nat)) : Option (List Nat) := tkS (shortV st) (tkS 2 st)
def belowV (lim : Int) (st : Option (List Nat)) : Nat := if (tkS 2 st).isNone = true ∨ lim ≤ shortV st then 0 else shortV st
def belowS (lim : Int) (st : Option (List Nat)) : Option (List Nat) := if (tkS 2 st).isNone = true ∨ lim ≤ shortV st then none else tkS 2 st
def leftV : Option (List Nat) → Nat
  | some l => l.length
  | none => 0

theorem Try.infoByte : (Try.prog.info? 5).map (fun i => (i.zero, i.size, i.bytes)) = some (some (.int .u8 0), 1, 1) := by kernel_rfl
end Go.Proofs.Ytboehlfdfpiodaa
