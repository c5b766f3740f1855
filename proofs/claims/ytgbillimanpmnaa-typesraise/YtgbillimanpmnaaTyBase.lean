/- Layer 2: types, as they lie in memory; what is told of them. -/
import Derived.Test.YtgbillimanpmnaaRefMake
import Derived.Test.YtgbillimanpmnaaRefAsks
import Derived.Test.YtgbillimanpmnaaPure
namespace Go.Proofs.Ytgbillimanpmnaa
open Go.RowKit

/-- The worlds grown from w0 by new memory. -/
def Gr (w0 : World) : Type := { w' : World // Below w0.heap.size w0 w' }
def Gr.w {w0 : World} (x : Gr w0) : World := x.1
theorem Gr.bl {w0 : World} (x : Gr w0) : Below w0.heap.size w0 x.w := x.2
theorem up {w w' : World} (hb : Below w.heap.size w w') {a : Addr} {v : Value} (h : w.cell? a = some v) : w'.cell? a = some v := (hb.cell (p := a) (World.block_lt_of_cell? w a h)).trans h
theorem Gr.cell {w0 : World} (x : Gr w0) {a : Addr} {v : Value} (h : w0.cell? a = some v) : x.w.cell? a = some v := up x.bl h
theorem wp_region_gr {P : Program} {id : Nat} {Q : Exit → Act → World → Prop} {a : Act} {w : World} {l : List Oper} (hm : P.follows .mixedOrders = true) (hB : Region.lexB .any l.toArray = true)
    (h : wpQuiet P l.toArray (fun w' => ∃ x : Gr w, w' = x.w) (fun a' => ∀ w', (∃ x : Gr w, w' = x.w) → Q .normal a' w') l a) : (Code.region id l.toArray true).wp P Q a w :=
  wp_region_quiet (C := fun w' => ∃ x : Gr w, w' = x.w) hm hB ⟨⟨_, (Below.refl _ _).drew⟩, rfl⟩ (by simpa using h)
theorem Below.next {w0 w1 w2 : World} (h : Below w0.heap.size w0 w1) (k : Below w1.heap.size w1 w2) : Below w0.heap.size w0 w2 := h.trans (k.mono h.size)
theorem Calls.gr {P : Program} {f : FuncId} {args : Array Value} {w0 : World} {r : Value} (x : Gr w0)
    (h : Calls P f args x.w fun e w' => e = .returned r ∧ Below x.w.heap.size x.w w') : Calls P f args x.w fun e w'' => e = .returned r ∧ ∃ y : Gr w0, w'' = y.w :=
  h.mono fun _ _ ⟨he, hb⟩ => ⟨he, ⟨_, Below.next x.bl hb⟩, rfl⟩

/-- A type: its numbers, where its Parts lie, and they ('dm': none; it lies nowhere). -/
inductive Ty where
  | dm : Ty
  | mk (k l h e : Int) (ao : Option Addr) (b o len cap : Nat) (ps : Nat → Ty) : Ty
def Ty.k : Ty → Int | .dm => 0 | .mk k _ _ _ _ _ _ _ _ _ => k
def Ty.l : Ty → Int | .dm => 0 | .mk _ l _ _ _ _ _ _ _ _ => l
def Ty.h : Ty → Int | .dm => 0 | .mk _ _ h _ _ _ _ _ _ _ => h
def Ty.e : Ty → Int | .dm => 0 | .mk _ _ _ e _ _ _ _ _ _ => e
def Ty.ao : Ty → Option Addr | .dm => none | .mk _ _ _ _ ao _ _ _ _ _ => ao
def Ty.b : Ty → Nat | .dm => 0 | .mk _ _ _ _ _ b _ _ _ _ => b
def Ty.o : Ty → Nat | .dm => 0 | .mk _ _ _ _ _ _ o _ _ _ => o
def Ty.len : Ty → Nat | .dm => 0 | .mk _ _ _ _ _ _ _ len _ _ => len
def Ty.cap : Ty → Nat | .dm => 0 | .mk _ _ _ _ _ _ _ _ cap _ => cap
def Ty.ps : Ty → Nat → Ty | .dm => fun _ => .dm | .mk _ _ _ _ _ _ _ _ _ ps => ps
def Ty.v (t : Ty) : Value := .agg #[.int .i64 t.k, .int .i64 t.l, .slice t.ao t.len t.cap, .int .i64 t.h, .int .i64 t.e]

/-- Five cells that hold a type. -/
structure C5 (w : World) (b o : Nat) (t : Ty) : Prop where
  c0 : w.cell? ⟨b, o, none⟩ = some (.int .i64 t.k)
  c1 : w.cell? ⟨b, o + 1, none⟩ = some (.int .i64 t.l)
  c2 : w.cell? ⟨b, o + 2, none⟩ = some (.slice t.ao t.len t.cap)
  c3 : w.cell? ⟨b, o + 3, none⟩ = some (.int .i64 t.h)
  c4 : w.cell? ⟨b, o + 4, none⟩ = some (.int .i64 t.e)
theorem C5.kept {w w' : World} {b o : Nat} {t : Ty} (h : C5 w b o t) (hb : Below w.heap.size w w') : C5 w' b o t := ⟨up hb h.c0, up hb h.c1, up hb h.c2, up hb h.c3, up hb h.c4⟩

def Ty.At (w : World) : Ty → Prop
  | .dm => False
  | .mk _ _ _ _ ao b o len _ ps => (0 < len → ao = some ⟨b, o, none⟩) ∧ len ≤ 9223372036854775807 ∧ ∀ i, i < len → C5 w b (o + i * 5) (ps i) ∧ Ty.At w (ps i)
theorem Ty.At.kept {w w' : World} (hb : Below w.heap.size w w') : ∀ {t : Ty}, t.At w → t.At w'
  | .dm, h => h.elim
  | .mk _ _ _ _ _ _ _ _ _ _, h => ⟨h.1, h.2.1, fun i hi => ⟨(h.2.2 i hi).1.kept hb, Ty.At.kept hb (h.2.2 i hi).2⟩⟩
theorem Ty.At.nil {w : World} : ∀ {t : Ty}, t.At w → 0 < t.len → t.ao = some ⟨t.b, t.o, none⟩
  | .dm, h => h.elim
  | .mk _ _ _ _ _ _ _ _ _ _, h => h.1
theorem Ty.At.bound {w : World} : ∀ {t : Ty}, t.At w → t.len ≤ 9223372036854775807
  | .dm, h => h.elim
  | .mk _ _ _ _ _ _ _ _ _ _, h => h.2.1
theorem Ty.At.cells {w : World} : ∀ {t : Ty}, t.At w → ∀ {i}, i < t.len → C5 w t.b (t.o + i * 5) (t.ps i)
  | .dm, h, _, _ => h.elim
  | .mk _ _ _ _ _ _ _ _ _ _, h, i, hi => (h.2.2 i hi).1
theorem Ty.At.part {w : World} : ∀ {t : Ty}, t.At w → ∀ {i}, i < t.len → (t.ps i).At w
  | .dm, h, _, _ => h.elim
  | .mk _ _ _ _ _ _ _ _ _ _, h, i, hi => (h.2.2 i hi).2

/-- A variable that holds a type, at a block's beginning. -/
structure Bx (w : World) (B : Nat) (t : Ty) : Prop where
  c0 : w.cell? ⟨B, 0, none⟩ = some (.int .i64 t.k)
  c1 : w.cell? ⟨B, 1, none⟩ = some (.int .i64 t.l)
  c2 : w.cell? ⟨B, 2, none⟩ = some (.slice t.ao t.len t.cap)
  c3 : w.cell? ⟨B, 3, none⟩ = some (.int .i64 t.h)
  c4 : w.cell? ⟨B, 4, none⟩ = some (.int .i64 t.e)
theorem Bx.kept {w w' : World} {B : Nat} {t : Ty} (h : Bx w B t) (hb : Below w.heap.size w w') : Bx w' B t := ⟨up hb h.c0, up hb h.c1, up hb h.c2, up hb h.c3, up hb h.c4⟩
theorem Bx.new (w : World) (t : Ty) : Bx (w.alloc (.cells #[.int .i64 t.k, .int .i64 t.l, .slice t.ao t.len t.cap, .int .i64 t.h, .int .i64 t.e] 28)) w.heap.size t := by
  constructor <;> simp
/-- A variable that holds a lattice. -/
structure Bl (w : World) (B : Nat) (n : Strs) (g : Grid) : Prop where
  c0 : w.cell? ⟨B, 0, none⟩ = some (.slice n.ao n.len n.cap)
  c1 : w.cell? ⟨B, 1, none⟩ = some (.slice g.ao g.len g.cap)
theorem Bl.kept {w w' : World} {B : Nat} {n : Strs} {g : Grid} (h : Bl w B n g) (hb : Below w.heap.size w w') : Bl w' B n g := ⟨up hb h.c0, up hb h.c1⟩
theorem Bl.new (w : World) (n : Strs) (g : Grid) : Bl (w.alloc (.cells #[.slice n.ao n.len n.cap, .slice g.ao g.len g.cap] 25)) w.heap.size n g := by
  constructor <;> simp
theorem below_alloc (w : World) (o : Obj) : Below w.heap.size w (w.alloc o) := (Below.refl _ _).alloc (Nat.le_refl _) _

def latO (n : Strs) (g : Grid) : Obj := .cells #[.slice n.ao n.len n.cap, .slice g.ao g.len g.cap] 25
def tyO (t : Ty) : Obj := .cells #[.int .i64 t.k, .int .i64 t.l, .slice t.ao t.len t.cap, .int .i64 t.h, .int .i64 t.e] 28
theorem alloc_size (w : World) (o : Obj) : (w.alloc o).heap.size = w.heap.size + 1 := by simp
theorem start_lt (w : World) (n : Strs) (g : Grid) (t : Ty) : Bl ((w.alloc (latO n g)).alloc (tyO t)) w.heap.size n g ∧ Bx ((w.alloc (latO n g)).alloc (tyO t)) (w.heap.size + 1) t ∧ Below w.heap.size w ((w.alloc (latO n g)).alloc (tyO t)) :=
  ⟨(Bl.new w n g).kept (below_alloc _ _), (alloc_size w (latO n g)) ▸ Bx.new (w.alloc (latO n g)) t, Below.next (below_alloc _ _) (below_alloc _ _)⟩
theorem start_ltt (w : World) (n : Strs) (g : Grid) (s t : Ty) : Bl (((w.alloc (latO n g)).alloc (tyO s)).alloc (tyO t)) w.heap.size n g ∧ Bx (((w.alloc (latO n g)).alloc (tyO s)).alloc (tyO t)) (w.heap.size + 1) s ∧ Bx (((w.alloc (latO n g)).alloc (tyO s)).alloc (tyO t)) (w.heap.size + 2) t ∧ Below w.heap.size w (((w.alloc (latO n g)).alloc (tyO s)).alloc (tyO t)) := by
  obtain ⟨h1, h2, h3⟩ := start_lt w n g s
  have h4 := Bx.new ((w.alloc (latO n g)).alloc (tyO s)) t
  rw [alloc_size, alloc_size] at h4
  exact ⟨h1.kept (below_alloc _ _), h2.kept (below_alloc _ _), h4, Below.next h3 (below_alloc _ _)⟩
theorem start_tt (w : World) (s t : Ty) : Bx ((w.alloc (tyO s)).alloc (tyO t)) w.heap.size s ∧ Bx ((w.alloc (tyO s)).alloc (tyO t)) (w.heap.size + 1) t ∧ Below w.heap.size w ((w.alloc (tyO s)).alloc (tyO t)) := by
  have h4 := Bx.new (w.alloc (tyO s)) t
  rw [alloc_size] at h4
  exact ⟨(Bx.new w s).kept (below_alloc _ _), h4, Below.next (below_alloc _ _) (below_alloc _ _)⟩

def sumTo (f : Nat → Nat) : Nat → Nat
  | 0 => 0
  | k + 1 => sumTo f k + f k
theorem sumTo_mono (f : Nat → Nat) {a b : Nat} (h : a ≤ b) : sumTo f a ≤ sumTo f b := by
  induction h with
  | refl => exact Nat.le_refl _
  | step _ ih => exact Nat.le_trans ih (Nat.le_add_right _ _)
theorem sumTo_le (f : Nat → Nat) {i n : Nat} (h : i < n) : sumTo f i + f i ≤ sumTo f n := sumTo_mono f (show i + 1 ≤ n from h)
/-- How many nodes. -/
def Ty.nodes : Ty → Nat
  | .dm => 1
  | .mk _ _ _ _ _ _ _ len _ ps => 1 + sumTo (fun i => Ty.nodes (ps i)) len
/-- How many Parts a Kind has. -/
def arityI (k : Int) : Int := if k = 1 then 0 else if k = 2 then 0 else if k = 5 then 1 else if k = 3 then 2 else if k = 4 then 2 else -1
def bndI (N : Nat) (k h e : Int) : Bool := if k = 4 then inR N h && ((e == -1) || inR N e) else (h == 0) && (e == 0)
/-- Formed, but for the number of nodes, where it stands so deep. -/
def Ty.fm (N : Nat) : Ty → Nat → Bool
  | .dm, _ => false
  | .mk k l h e _ _ _ len _ ps, d => (((decide (d ≤ 6) && ((len : Int) == arityI k)) && inR N l) && bndI N k h e) && decide (∀ i, i < len → Ty.fm N (ps i) (d + 1) = true)
/-- All alike. -/
def Ty.same : Ty → Ty → Bool
  | .dm, t => ((((0 == t.k) && (0 == t.l)) && ((0 == t.h) && (0 == t.e))) && (0 == t.len))
  | .mk k l h e _ _ _ len _ ps, t => ((((k == t.k) && (l == t.l)) && ((h == t.h) && (e == t.e))) && (len == t.len)) && decide (∀ i, i < len → Ty.same (ps i) (t.ps i) = true)
def excB (le : Nat → Nat → Bool) (a b : Int) : Bool := (a == -1) || ((b != -1) && le a.toNat b.toNat)
/-- Below: the first the second, if up, else the second the first. -/
def Ty.bel (le : Nat → Nat → Bool) : Ty → Bool → Ty → Bool
  | .dm, _, _ => false
  | .mk k l h e _ _ _ _ _ ps, true, t => ((k == t.k) && le l.toNat t.l.toNat) && (if k = 3 then Ty.bel le (ps 0) true (t.ps 0) && Ty.bel le (ps 1) true (t.ps 1) else if k = 4 then ((Ty.bel le (ps 0) false (t.ps 0) && Ty.bel le (ps 1) true (t.ps 1)) && le t.h.toNat h.toNat) && excB le e t.e else if k = 5 then Ty.same (ps 0) (t.ps 0) else true)
  | .mk k l h e _ _ _ _ _ ps, false, t => ((t.k == k) && le t.l.toNat l.toNat) && (if t.k = 3 then Ty.bel le (ps 0) false (t.ps 0) && Ty.bel le (ps 1) false (t.ps 1) else if t.k = 4 then ((Ty.bel le (ps 0) true (t.ps 0) && Ty.bel le (ps 1) false (t.ps 1)) && le h.toNat t.h.toNat) && excB le t.e e else if t.k = 5 then Ty.same (t.ps 0) (ps 0) else true)
end Go.Proofs.Ytgbillimanpmnaa
