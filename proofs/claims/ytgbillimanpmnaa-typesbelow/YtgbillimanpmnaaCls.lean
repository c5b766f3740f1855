/- A region that draws its order and holds calls that make memory, walked once: the class of worlds in which a variable of two cells stands. -/
import Derived.Test.YtgbillimanpmnaaAwake
import Derived.Test.YtgbillimanpmnaaPure
namespace Go.Proofs.Ytgbillimanpmnaa
open Go.RowKit

/-- The worlds behind w in which the variable of two cells still holds u and v. -/
def Cls (w : World) (u v : Value) : Type := { w' : World // Box2 w w' u v }
def Cls.w {w : World} {u v : Value} (x : Cls w u v) : World := x.1
theorem Cls.box {w : World} {u v : Value} (x : Cls w u v) : Box2 w x.w u v := x.2

theorem wp_region_cls {P : Program} {w0 : World} {u v : Value} {id : Nat} {Q : Exit → Act → World → Prop} {a : Act} {w : World} {l : List Oper} (hb : Box2 w0 w u v) (hm : P.follows .mixedOrders = true) (hB : Region.lexB .any l.toArray = true)
    (h : wpQuiet P l.toArray (fun w' => ∃ x : Cls w0 u v, w' = x.w) (fun a' => ∀ w', (∃ x : Cls w0 u v, w' = x.w) → Q .normal a' w') l a) : (Code.region id l.toArray true).wp P Q a w :=
  wp_region_quiet (C := fun w' => ∃ x : Cls w0 u v, w' = x.w) hm hB ⟨⟨_, hb.step ((Below.refl _ _).drew)⟩, rfl⟩ (by simpa using h)

theorem Calls.cls {P : Program} {f : FuncId} {args : Array Value} {w0 : World} {u v r : Value} (x : Cls w0 u v)
    (h : Calls P f args x.w fun e w' => e = .returned r ∧ Below x.w.heap.size x.w w') : Calls P f args x.w fun e w'' => e = .returned r ∧ ∃ y : Cls w0 u v, w'' = y.w :=
  h.mono fun _ _ ⟨he, hb⟩ => ⟨he, ⟨_, x.box.step hb⟩, rfl⟩

theorem int_beq (a b : Nat) : ((a : Int) == (b : Int)) = (a == b) := by
  by_cases h : a = b
  · subst h; simp
  · rw [beq_eq_false_iff_ne.2 h, beq_eq_false_iff_ne.2 (by omega)]
theorem int_bne {a b : Nat} (h : a = b) : ((a : Int) != (b : Int)) = false := by subst h; simp
theorem bool_bne {p q : Bool} (h : p = q) : (p != q) = false := by subst h; simp

/- The calls on labels of a formed lattice, behind a variable that holds it. -/
theorem JoinB {n : Strs} {g : Grid} {w : World} (hn : n.At w) (hg : g.At w) (hF : Hid (formedB n g = true)) {wr : World} (hB : Box2 w wr (.slice n.ao n.len n.cap) (.slice g.ao g.len g.cap)) {a b : Nat} (ha : a < n.len) (hb : b < n.len) :
    Calls Try.prog 45 #[.agg #[.slice n.ao n.len n.cap, .slice g.ao g.len g.cap], .int .i64 a, .int .i64 b] wr fun e w' => e = .returned (.int .i64 (Jn g a b)) ∧ Box2 w w' (.slice n.ao n.len n.cap) (.slice g.ao g.len g.cap) := by
  refine (Join_any n g a b wr (hn.kept hB.bl) (hg.kept hB.bl)).mono ?_
  rw [joinI_nat hF.out ha hb]
  rintro e w' ⟨rfl, hb⟩
  exact ⟨rfl, hB.step hb⟩
theorem MeetB {n : Strs} {g : Grid} {w : World} (hn : n.At w) (hg : g.At w) (hF : Hid (formedB n g = true)) {wr : World} (hB : Box2 w wr (.slice n.ao n.len n.cap) (.slice g.ao g.len g.cap)) {a b : Nat} (ha : a < n.len) (hb : b < n.len) :
    Calls Try.prog 75 #[.agg #[.slice n.ao n.len n.cap, .slice g.ao g.len g.cap], .int .i64 a, .int .i64 b] wr fun e w' => e = .returned (.int .i64 (Mt g a b)) ∧ Box2 w w' (.slice n.ao n.len n.cap) (.slice g.ao g.len g.cap) := by
  refine (Meet_any n g a b wr (hn.kept hB.bl) (hg.kept hB.bl)).mono ?_
  rw [meetI_nat hF.out ha hb]
  rintro e w' ⟨rfl, hb⟩
  exact ⟨rfl, hB.step hb⟩
theorem JoinC {n : Strs} {g : Grid} {w : World} (hn : n.At w) (hg : g.At w) (hF : Hid (formedB n g = true)) (x : Cls w (.slice n.ao n.len n.cap) (.slice g.ao g.len g.cap)) {a b : Nat} (ha : a < n.len) (hb : b < n.len) :
    Calls Try.prog 45 #[.agg #[.slice n.ao n.len n.cap, .slice g.ao g.len g.cap], .int .i64 a, .int .i64 b] x.w fun e w' => e = .returned (.int .i64 (Jn g a b)) ∧ ∃ y : Cls w (.slice n.ao n.len n.cap) (.slice g.ao g.len g.cap), w' = y.w :=
  (JoinB hn hg hF x.box ha hb).mono fun _ w' ⟨he, hb⟩ => ⟨he, ⟨w', hb⟩, rfl⟩
theorem MeetC {n : Strs} {g : Grid} {w : World} (hn : n.At w) (hg : g.At w) (hF : Hid (formedB n g = true)) (x : Cls w (.slice n.ao n.len n.cap) (.slice g.ao g.len g.cap)) {a b : Nat} (ha : a < n.len) (hb : b < n.len) :
    Calls Try.prog 75 #[.agg #[.slice n.ao n.len n.cap, .slice g.ao g.len g.cap], .int .i64 a, .int .i64 b] x.w fun e w' => e = .returned (.int .i64 (Mt g a b)) ∧ ∃ y : Cls w (.slice n.ao n.len n.cap) (.slice g.ao g.len g.cap), w' = y.w :=
  (MeetB hn hg hF x.box ha hb).mono fun _ w' ⟨he, hb⟩ => ⟨he, ⟨w', hb⟩, rfl⟩
end Go.Proofs.Ytgbillimanpmnaa
