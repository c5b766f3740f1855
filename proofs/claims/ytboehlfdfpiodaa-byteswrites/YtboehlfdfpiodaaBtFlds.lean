/- Layer 4: fields in memory, and what is written of them. -/
import Derived.Test.YtboehlfdfpiodaaBtMath
import Derived.Test.YtboehlfdfpiodaaBtAwake
namespace Go.Proofs.Ytboehlfdfpiodaa
open Go.RowKit

/-- A []Field in memory. -/
structure Flds where
  ao : Option Addr
  b : Nat
  o : Nat
  len : Nat
  cap : Nat
  N : Nat → Int
  S : Nat → ByteArray
structure Flds.At (g : Flds) (w : World) : Prop where
  lc : g.len ≤ g.cap
  nil : 0 < g.len → g.ao = some ⟨g.b, g.o, none⟩
  bound : g.cap ≤ 9223372036854775807
  c0 : ∀ i, i < g.len → w.cell? ⟨g.b, g.o + i * 2, none⟩ = some (.int .i64 (g.N i))
  c1 : ∀ i, i < g.len → w.cell? ⟨g.b, g.o + i * 2 + 1, none⟩ = some (.string (g.S i))
  n : ∀ i, i < g.len → -9223372036854775808 ≤ g.N i ∧ g.N i ≤ 9223372036854775807
  s : ∀ i, i < g.len → (g.S i).size ≤ 9223372036854775807
theorem Flds.At.kept {g : Flds} {w w' : World} (h : g.At w) (hb : Below w.heap.size w w') : g.At w' :=
  ⟨h.lc, h.nil, h.bound, fun i hi => (hb.cell (p := ⟨g.b, g.o + i * 2, none⟩) (cell_lt (h.c0 i hi))).trans (h.c0 i hi), fun i hi => (hb.cell (p := ⟨g.b, g.o + i * 2 + 1, none⟩) (cell_lt (h.c1 i hi))).trans (h.c1 i hi), h.n, h.s⟩

/-- The low sixteen bits. -/
def low (n : Int) : Nat := (n % 65536).toNat
theorem low_lt (n : Int) : low n < 65536 := by unfold low; omega
/-- What is written of a field. -/
def encF (F : Flds) (k : Nat) : List Nat := be 8 (uns (F.N k)) ++ (be 2 (F.S k).size ++ (sL (F.S k) ++ be 2 (low (F.N k))))
theorem encF_len (F : Flds) (k : Nat) : (encF F k).length = 12 + (F.S k).size := by
  unfold encF; simp only [List.length_append, be_len, sL_len]; omega
/-- What is written of n fields from a on. -/
def fE (F : Flds) (a : Nat) : Nat → List Nat
  | 0 => []
  | n + 1 => encF F a ++ fE F (a + 1) n
theorem fE_snoc (F : Flds) (n : Nat) : ∀ a, fE F a (n + 1) = fE F a n ++ encF F (a + n) := by
  induction n with
  | zero => intro a; simp [fE]
  | succ n ih =>
    intro a
    rw [show fE F a (n + 1 + 1) = encF F a ++ fE F (a + 1) (n + 1) from rfl, ih (a + 1), show fE F a (n + 1) = encF F a ++ fE F (a + 1) n from rfl, List.append_assoc, show a + 1 + n = a + (n + 1) by omega]
theorem fE_step (F : Flds) (k : Nat) (hk : k < F.len) : fE F k (F.len - k) = be 8 (uns (F.N k)) ++ (be 2 (F.S k).size ++ (sL (F.S k) ++ (be 2 (low (F.N k)) ++ fE F (k + 1) (F.len - (k + 1))))) := by
  rw [show F.len - k = (F.len - (k + 1)) + 1 by omega]
  show encF F k ++ _ = _
  unfold encF
  simp only [List.append_assoc]

theorem wlong_b (D : Bys) (n : Int) (w : World) (hD : D.At w) (hm : D.len ≤ 900000) :
    Calls Try.prog 15 #[.slice D.ao D.len D.cap, .int .i64 n] w fun e w' => ∃ E : Bys, e = .returned (.slice E.ao E.len E.cap) ∧ E.At w' ∧ E.l = D.l ++ be 8 (uns n) ∧ Below w.heap.size w w' := by
  refine (wlong_any D n w hD (by omega)).mono ?_
  rintro e w' ⟨rfl, h, hb⟩
  exact ⟨_, rfl, h, numG_l D _ 8 (uns n), hb⟩
theorem wshort_b (D : Bys) (n : Nat) (w : World) (hD : D.At w) (hm : D.len ≤ 900000) (hn : n ≤ 65535) :
    Calls Try.prog 10 #[.slice D.ao D.len D.cap, .int .i64 n] w fun e w' => ∃ E : Bys, e = .returned (.tuple #[.slice E.ao E.len E.cap, .int .i64 0]) ∧ E.At w' ∧ E.l = D.l ++ be 2 n ∧ Below w.heap.size w w' := by
  refine (wshort_yes D n w hD (by omega) hn).mono ?_
  rintro e w' ⟨rfl, h, hb⟩
  exact ⟨_, rfl, h, numG_l D _ 2 n, hb⟩
theorem wtext_b (D : Bys) (S : ByteArray) (w : World) (hD : D.At w) (hm : D.len ≤ 900000) (hs : S.size ≤ 65535) :
    Calls Try.prog 12 #[.slice D.ao D.len D.cap, .string S] w fun e w' => ∃ E : Bys, e = .returned (.tuple #[.slice E.ao E.len E.cap, .int .i64 0]) ∧ E.At w' ∧ E.l = D.l ++ (be 2 S.size ++ sL S) ∧ Below w.heap.size w w' := by
  refine (wtext_yes D S w hD (by omega) hs).mono ?_
  rintro e w' ⟨rfl, h, hb⟩
  exact ⟨_, rfl, h, txtG_l D _ S, hb⟩
end Go.Proofs.Ytboehlfdfpiodaa
