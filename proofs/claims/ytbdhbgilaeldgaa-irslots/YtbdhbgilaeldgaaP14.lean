/- Layer 10: nodes and functions of slots, as they lie in memory; the check, as data. -/
import Derived.Test.YtbdhbgilaeldgaaP12
import Derived.Test.YtbdhbgilaeldgaaP13
import Derived.Deep.MidRow
import Derived.Test.YtbdhbgilaeldgaaP2
namespace Go.Proofs.Ytbdhbgilaeldgaa
open Go Go.RowKit

/-- Numbers in a slice. -/
structure Is where
  ao : Option Addr
  b : Nat
  o : Nat
  len : Nat
  cap : Nat
  f : Nat → Int
structure Is.At (s : Is) (w : World) : Prop where
  nil : 0 < s.len → s.ao = some ⟨s.b, s.o, none⟩
  bound : s.len ≤ 9223372036854775807
  cell : ∀ i, i < s.len → w.cell? ⟨s.b, s.o + i, none⟩ = some (.int .i64 (s.f i))
theorem Is.At.kept {s : Is} {w w' : World} (h : s.At w) (hb : Below w.heap.size w w') : s.At w' := ⟨h.nil, h.bound, fun i hi => up hb (h.cell i hi)⟩
def Is.nl : Is := ⟨none, 0, 0, 0, 0, fun _ => 0⟩
theorem Is.nl_at (w : World) : Is.nl.At w := ⟨fun h => absurd h (Nat.lt_irrefl _), Nat.zero_le _, fun _ h => absurd h (Nat.not_lt_zero _)⟩

/-- What a node has beside nodes. -/
structure Hd where
  op : Int
  dst : Int
  a : Int
  b : Int
  n : Int
  env : Int
  t : Ty
  ar : Is
/-- A node: its head, and where its Body and its Else lie, and they. -/
inductive Nd where
  | dm : Nd
  | mk (h : Hd) (bao : Option Addr) (bb bo bl bc : Nat) (bp : Nat → Nd) (eao : Option Addr) (eb eo el ec : Nat) (ep : Nat → Nd) : Nd
/-- Nodes in a slice. -/
structure Ns where
  ao : Option Addr
  b : Nat
  o : Nat
  len : Nat
  cap : Nat
  ps : Nat → Nd
def Ns.nl : Ns := ⟨none, 0, 0, 0, 0, fun _ => .dm⟩
def Nd.h : Nd → Hd | .dm => ⟨0, 0, 0, 0, 0, 0, .dm, Is.nl⟩ | .mk h _ _ _ _ _ _ _ _ _ _ _ _ => h
def Nd.bd : Nd → Ns | .dm => Ns.nl | .mk _ bao bb bo bl bc bp _ _ _ _ _ _ => ⟨bao, bb, bo, bl, bc, bp⟩
def Nd.el : Nd → Ns | .dm => Ns.nl | .mk _ _ _ _ _ _ _ eao eb eo el ec ep => ⟨eao, eb, eo, el, ec, ep⟩
/-- A node's fourteen values. -/
def Nd.vs (n : Nd) : List Value := [.int .i64 n.h.op, .int .i64 n.h.dst, .int .i64 n.h.a, .int .i64 n.h.b, .int .i64 n.h.n, .int .i64 n.h.env, .int .i64 n.h.t.k, .int .i64 n.h.t.l, .slice n.h.t.ao n.h.t.len n.h.t.cap, .int .i64 n.h.t.h, .int .i64 n.h.t.e, .slice n.h.ar.ao n.h.ar.len n.h.ar.cap, .slice n.bd.ao n.bd.len n.bd.cap, .slice n.el.ao n.el.len n.el.cap]
def Nd.va (n : Nd) : Array Value := n.vs.toArray
theorem Nd.va_one (n : Nd) : n.vs.all (·.oneCell') = true := by simp [Nd.vs, Value.oneCell']
def Nd.At (w : World) : Nd → Prop
  | .dm => False
  | .mk h bao bb bo bl _ bp eao eb eo el _ ep => (h.t.At w ∧ h.ar.At w) ∧ ((0 < bl → bao = some ⟨bb, bo, none⟩) ∧ bl ≤ 9223372036854775807 ∧ ∀ i, i < bl → w.rangeAt bb (bo + i * 14) (bp i).vs ∧ Nd.At w (bp i)) ∧ ((0 < el → eao = some ⟨eb, eo, none⟩) ∧ el ≤ 9223372036854775807 ∧ ∀ i, i < el → w.rangeAt eb (eo + i * 14) (ep i).vs ∧ Nd.At w (ep i))
theorem rangeAt_kept {w w' : World} {b o : Nat} {vs : List Value} (h : w.rangeAt b o vs) (hb : Below w.heap.size w w') : w'.rangeAt b o vs := fun j v hv => up hb (h j v hv)
theorem Nd.At.kept {w w' : World} (hb : Below w.heap.size w w') : ∀ {n : Nd}, n.At w → n.At w'
  | .dm, h => h.elim
  | .mk _ _ _ _ _ _ _ _ _ _ _ _ _, h => ⟨⟨h.1.1.kept hb, h.1.2.kept hb⟩, ⟨h.2.1.1, h.2.1.2.1, fun i hi => ⟨rangeAt_kept (h.2.1.2.2 i hi).1 hb, Nd.At.kept hb (h.2.1.2.2 i hi).2⟩⟩, ⟨h.2.2.1, h.2.2.2.1, fun i hi => ⟨rangeAt_kept (h.2.2.2.2 i hi).1 hb, Nd.At.kept hb (h.2.2.2.2 i hi).2⟩⟩⟩
structure Ns.At (s : Ns) (w : World) : Prop where
  nil : 0 < s.len → s.ao = some ⟨s.b, s.o, none⟩
  bound : s.len ≤ 9223372036854775807
  cells : ∀ i, i < s.len → w.rangeAt s.b (s.o + i * 14) (s.ps i).vs
  part : ∀ i, i < s.len → (s.ps i).At w
theorem Ns.At.kept {s : Ns} {w w' : World} (h : s.At w) (hb : Below w.heap.size w w') : s.At w' := ⟨h.nil, h.bound, fun i hi => rangeAt_kept (h.cells i hi) hb, fun i hi => (h.part i hi).kept hb⟩
theorem Ns.nl_at (w : World) : Ns.nl.At w := ⟨fun h => absurd h (Nat.lt_irrefl _), Nat.zero_le _, fun _ h => absurd h (Nat.not_lt_zero _), fun _ h => absurd h (Nat.not_lt_zero _)⟩
theorem Nd.At.bd {w : World} : ∀ {n : Nd}, n.At w → n.bd.At w
  | .dm, h => h.elim
  | .mk _ _ _ _ _ _ _ _ _ _ _ _ _, h => ⟨h.2.1.1, h.2.1.2.1, fun i hi => (h.2.1.2.2 i hi).1, fun i hi => (h.2.1.2.2 i hi).2⟩
theorem Nd.At.el {w : World} : ∀ {n : Nd}, n.At w → n.el.At w
  | .dm, h => h.elim
  | .mk _ _ _ _ _ _ _ _ _ _ _ _ _, h => ⟨h.2.2.1, h.2.2.2.1, fun i hi => (h.2.2.2.2 i hi).1, fun i hi => (h.2.2.2.2 i hi).2⟩
theorem Nd.At.t {w : World} : ∀ {n : Nd}, n.At w → n.h.t.At w
  | .dm, h => h.elim
  | .mk _ _ _ _ _ _ _ _ _ _ _ _ _, h => h.1.1
theorem Nd.At.ar {w : World} : ∀ {n : Nd}, n.At w → n.h.ar.At w
  | .dm, h => h.elim
  | .mk _ _ _ _ _ _ _ _ _ _ _ _ _, h => h.1.2
theorem Nd.ind {P : Nd → Prop} (h : ∀ n : Nd, (∀ i, i < n.bd.len → P (n.bd.ps i)) → (∀ i, i < n.el.len → P (n.el.ps i)) → P n) : ∀ n, P n := by
  intro n
  induction n with
  | dm => exact h _ (fun i hi => absurd hi (Nat.not_lt_zero _)) (fun i hi => absurd hi (Nat.not_lt_zero _))
  | mk hd bao bb bo bl bc bp eao eb eo el ec ep ih1 ih2 => exact h _ (fun i _ => ih1 i) (fun i _ => ih2 i)

/-- A function; slots and Caps by a type whose Parts they are. -/
structure Fc where
  param : Ty
  result : Ty
  caps : Ty
  heap : Int
  exc : Int
  slots : Ty
  body : Ns
  out : Int
def Fc.vs (f : Fc) : List Value := [.int .i64 f.param.k, .int .i64 f.param.l, .slice f.param.ao f.param.len f.param.cap, .int .i64 f.param.h, .int .i64 f.param.e, .int .i64 f.result.k, .int .i64 f.result.l, .slice f.result.ao f.result.len f.result.cap, .int .i64 f.result.h, .int .i64 f.result.e, .slice f.caps.ao f.caps.len f.caps.cap, .int .i64 f.heap, .int .i64 f.exc, .slice f.slots.ao f.slots.len f.slots.cap, .slice f.body.ao f.body.len f.body.cap, .int .i64 f.out]
def Fc.va (f : Fc) : Array Value := f.vs.toArray
theorem Fc.va_one (f : Fc) : f.vs.all (·.oneCell') = true := by simp [Fc.vs, Value.oneCell']
structure Fc.At (f : Fc) (w : World) : Prop where
  param : f.param.At w
  result : f.result.At w
  caps : f.caps.At w
  slots : f.slots.At w
  body : f.body.At w
  lc : f.slots.len ≤ f.slots.cap
theorem Fc.At.kept {f : Fc} {w w' : World} (h : f.At w) (hb : Below w.heap.size w w') : f.At w' := ⟨h.param.kept hb, h.result.kept hb, h.caps.kept hb, h.slots.kept hb, h.body.kept hb, h.lc⟩
/-- Functions in a slice. -/
structure Fl where
  ao : Option Addr
  b : Nat
  o : Nat
  len : Nat
  cap : Nat
  ps : Nat → Fc
structure Fl.At (s : Fl) (w : World) : Prop where
  nil : 0 < s.len → s.ao = some ⟨s.b, s.o, none⟩
  bound : s.len ≤ 9223372036854775807
  cells : ∀ i, i < s.len → w.rangeAt s.b (s.o + i * 16) (s.ps i).vs
  part : ∀ i, i < s.len → (s.ps i).At w
theorem Fl.At.kept {s : Fl} {w w' : World} (h : s.At w) (hb : Below w.heap.size w w') : s.At w' := ⟨h.nil, h.bound, fun i hi => rangeAt_kept (h.cells i hi) hb, fun i hi => (h.part i hi).kept hb⟩

/-- A judge. -/
structure Jd where
  n : Strs
  g : Grid
  bot : Int
  fns : Fl
  f : Fc
def Jd.vs (j : Jd) : List Value := .slice j.n.ao j.n.len j.n.cap :: .slice j.g.ao j.g.len j.g.cap :: .int .i64 j.bot :: .slice j.fns.ao j.fns.len j.fns.cap :: j.f.vs
def Jd.va (j : Jd) : Array Value := j.vs.toArray
theorem Jd.va_one (j : Jd) : j.vs.all (·.oneCell') = true := by simp [Jd.vs, Fc.vs, Value.oneCell']
structure Jd.At (j : Jd) (w : World) : Prop where
  n : j.n.At w
  g : j.g.At w
  fns : j.fns.At w
  f : j.f.At w
theorem Jd.At.kept {j : Jd} {w w' : World} (h : j.At w) (hb : Below w.heap.size w w') : j.At w' := ⟨h.n.kept hb, h.g.kept hb, h.fns.kept hb, h.f.kept hb⟩
/-- A shape: a lattice, how many functions, one of them. -/
def shV (n : Strs) (g : Grid) (many : Int) (f : Fc) : List Value := .slice n.ao n.len n.cap :: .slice g.ao g.len g.cap :: .int .i64 many :: f.vs

/-- A state. -/
structure Sta where
  at_ : Int
  x : Int
  set : Nat → Bool
  gone : Bool
def Sta.vs (s : Sta) : List Value := .int .i64 s.at_ :: .int .i64 s.x :: ((List.range 250).map (fun i => Value.bool (s.set i)) ++ [.bool s.gone])
def Sta.va (s : Sta) : Array Value := s.vs.toArray
theorem Sta.va_one (s : Sta) : s.vs.all (·.oneCell') = true := by simp [Sta.vs, Value.oneCell']
theorem Sta.len (s : Sta) : s.vs.length = 253 := by simp [Sta.vs]
theorem Sta.v0 (s : Sta) : s.vs[0]? = some (.int .i64 s.at_) := rfl
theorem Sta.v1 (s : Sta) : s.vs[1]? = some (.int .i64 s.x) := rfl
theorem Sta.v2 (s : Sta) {i : Nat} (h : i < 250) : s.vs[2 + i]? = some (.bool (s.set i)) := by
  rw [Nat.add_comm 2 i]
  show ((List.range 250).map (fun i => Value.bool (s.set i)) ++ [.bool s.gone])[i]? = _
  rw [List.getElem?_append_left (by simpa using h)]
  simp [h]
theorem Sta.v252 (s : Sta) : s.vs[252]? = some (.bool s.gone) := by
  show ((List.range 250).map (fun i => Value.bool (s.set i)) ++ [.bool s.gone])[250]? = _
  rw [List.getElem?_append_right (by simp)]
  simp
def upd (f : Nat → Bool) (i : Nat) : Nat → Bool := fun j => if j = i then true else f j
theorem Sta.put2 (s : Sta) {i : Nat} (h : i < 250) : s.vs.set (2 + i) (.bool true) = ({ s with set := upd s.set i } : Sta).vs := by
  rw [Nat.add_comm 2 i]
  show Value.int .i64 s.at_ :: Value.int .i64 s.x :: (((List.range 250).map (fun i => Value.bool (s.set i)) ++ [Value.bool s.gone]).set i (Value.bool true)) = _
  unfold Sta.vs
  congr 2
  apply List.ext_getElem?
  intro j
  rw [List.getElem?_set]
  by_cases hj : j < 250
  · rw [List.getElem?_append_left (by simpa using hj), List.getElem?_append_left (by simpa using hj)]
    by_cases e : i = j
    · subst e; simp [hj, upd]; omega
    · have : j ≠ i := fun h => e h.symm
      simp [e, hj, upd, this]
  · have e : i ≠ j := by omega
    rw [if_neg e, List.getElem?_append_right (by simp; omega), List.getElem?_append_right (by simp; omega)]
    simp
theorem Sta.put0 (s : Sta) (v : Int) : s.vs.set 0 (.int .i64 v) = ({ s with at_ := v } : Sta).vs := rfl
theorem Sta.put1 (s : Sta) (v : Int) : s.vs.set 1 (.int .i64 v) = ({ s with x := v } : Sta).vs := rfl
def Sta.zero : Sta := ⟨0, 0, fun _ => false, false⟩

/-- The check, as data. -/
def mk2 (k l h e : Int) (p q : Ty) : Ty := .mk k l h e none 0 0 2 2 (fun i => if i = 0 then p else q)
def mk1 (k l : Int) (p : Ty) : Ty := .mk k l 0 0 none 0 0 1 1 (fun _ => p)
def sigT (n : Strs) (g : Grid) (f : Fc) : Ty := raiseT n g (mk2 4 (botI n g) f.heap f.exc f.param f.result) (botI n g)
def Jd.read (j : Jd) (nd : Nd) (i : Int) : Ty := raiseT j.n j.g (j.f.slots.ps i.toNat) nd.h.env
def Jd.reck (j : Jd) (nd : Nd) : Ty × Int :=
  if (((j.read nd nd.h.a).k != 1) || ((j.read nd nd.h.b).k != 1)) = true then (leafT 0 0, -1)
  else (leafT (if nd.h.n = 11 ∨ nd.h.n = 12 then 2 else 1) (bothI j.n j.g (j.read nd nd.h.a).l (j.read nd nd.h.b).l), if nd.h.n = 9 ∨ nd.h.n = 10 then (j.read nd nd.h.b).l else -1)
def Jd.side (j : Jd) (nd : Nd) (i : Nat) : Ty := if ((j.read nd nd.h.a).k != 3) = true then leafT 0 0 else raiseT j.n j.g ((j.read nd nd.h.a).ps i) (j.read nd nd.h.a).l
def Jd.closed (j : Jd) (nd : Nd) : Ty :=
  if nd.h.ar.len = (j.fns.ps nd.h.n.toNat).caps.len ∧ ∀ i, i < nd.h.ar.len → belB j.n j.g (j.read nd (nd.h.ar.f i)) ((j.fns.ps nd.h.n.toNat).caps.ps i) = true then sigT j.n j.g (j.fns.ps nd.h.n.toNat) else leafT 0 0
def Jd.called (j : Jd) (nd : Nd) : Ty × Int :=
  if ((j.read nd nd.h.a).k != 4 || !(belB j.n j.g (j.read nd nd.h.b) ((j.read nd nd.h.a).ps 0)) || !(leqB j.n j.g (j.read nd nd.h.a).l (j.read nd nd.h.a).h && leqB j.n j.g j.f.heap (j.read nd nd.h.a).h)) = true then (leafT 0 0, -1)
  else (raiseT j.n j.g ((j.read nd nd.h.a).ps 1) (j.read nd nd.h.a).l, if (j.read nd nd.h.a).e = -1 then -1 else bothI j.n j.g (j.read nd nd.h.a).e (j.read nd nd.h.a).l)
def Jd.cell (j : Jd) (nd : Nd) : Ty := if belB j.n j.g (j.read nd nd.h.a) nd.h.t = true then mk1 5 j.bot nd.h.t else leafT 0 0
def Jd.held (j : Jd) (nd : Nd) : Ty := if ((j.read nd nd.h.a).k != 5) = true then leafT 0 0 else raiseT j.n j.g ((j.read nd nd.h.a).ps 0) (j.read nd nd.h.a).l
def onlyT (k : Int) (t : Ty) : Ty := if (t.k != k) = true then leafT 0 0 else t
def Jd.makes (j : Jd) (nd : Nd) : Ty × Int :=
  if nd.h.op = 1 then (leafT 1 j.bot, -1) else if nd.h.op = 2 then (leafT 2 j.bot, -1) else if nd.h.op = 3 then (j.read nd nd.h.a, -1) else if nd.h.op = 4 then j.reck nd
  else if nd.h.op = 5 then (onlyT 2 (j.read nd nd.h.a), -1) else if nd.h.op = 6 then (mk2 3 j.bot 0 0 (j.read nd nd.h.a) (j.read nd nd.h.b), -1) else if nd.h.op = 7 then (j.side nd 0, -1) else if nd.h.op = 8 then (j.side nd 1, -1)
  else if nd.h.op = 9 then (j.closed nd, -1) else if nd.h.op = 10 then (sigT j.n j.g j.f, -1) else if nd.h.op = 11 then j.called nd else if nd.h.op = 12 then (j.cell nd, -1) else (j.held nd, -1)
/-- The slots that a node reads. -/
def Hd.rds (h : Hd) : List Int :=
  if h.op = 3 ∨ h.op = 5 ∨ h.op = 7 ∨ h.op = 8 ∨ h.op = 12 ∨ h.op = 13 ∨ h.op = 15 ∨ h.op = 16 ∨ h.op = 18 then [h.a]
  else if h.op = 4 ∨ h.op = 6 ∨ h.op = 11 ∨ h.op = 14 then [h.a, h.b]
  else if h.op = 9 then (List.range h.ar.len).map h.ar.f else []
def Hd.wrs (h : Hd) : Bool := !((h.op == 14) || (h.op == 15) || (h.op == 16) || (h.op == 18))
def Jd.pre (j : Jd) (nd : Nd) (s : Sta) : Bool := (!s.gone && leqB j.n j.g s.at_ nd.h.env) && nd.h.rds.all (fun i => s.set i.toNat)
def Jd.make (j : Jd) (nd : Nd) (s : Sta) : Option Sta :=
  if belB j.n j.g (raiseT j.n j.g (j.makes nd).1 (bothI j.n j.g nd.h.env (j.makes nd).2)) (j.f.slots.ps nd.h.dst.toNat) = true
  then some ⟨bothI j.n j.g s.at_ (j.makes nd).2, bothI j.n j.g s.x (j.makes nd).2, upd s.set nd.h.dst.toNat, s.gone⟩ else none
def Jd.sets (j : Jd) (nd : Nd) : Bool := ((j.read nd nd.h.a).k == 5) && (belB j.n j.g (j.read nd nd.h.b) ((j.read nd nd.h.a).ps 0) && (leqB j.n j.g (j.read nd nd.h.a).l ((j.read nd nd.h.a).ps 0).l && leqB j.n j.g j.f.heap ((j.read nd nd.h.a).ps 0).l))
def Jd.tells (j : Jd) (nd : Nd) : Bool := ((j.read nd nd.h.a).k == 1) && (leqB j.n j.g (j.read nd nd.h.a).l nd.h.n && leqB j.n j.g j.f.heap nd.h.n)
def setBoth (a b : Sta) : Nat → Bool := if a.gone = true then b.set else if b.gone = true then a.set else fun i => a.set i && b.set i
def Jd.junc (j : Jd) (s a b : Sta) (x : Int) : Sta := ⟨bothI j.n j.g s.at_ x, bothI j.n j.g s.x x, setBoth a b, a.gone && b.gone⟩
def runTo (f : Nat → Sta → Option Sta) : Nat → Sta → Option Sta
  | 0, s => some s
  | k + 1, s => (runTo f k s).bind (f k)
/-- A node gone through. -/
def Nd.run (j : Jd) : Nd → Sta → Option Sta
  | .dm => fun _ => none
  | .mk h bao bb bo bl bc bp eao eb eo el ec ep => fun s =>
    if j.pre (.mk h bao bb bo bl bc bp eao eb eo el ec ep) s = false then none
    else if h.op = 14 then (if j.sets (.mk h bao bb bo bl bc bp eao eb eo el ec ep) = true then some s else none)
    else if h.op = 15 then (if j.tells (.mk h bao bb bo bl bc bp eao eb eo el ec ep) = true then some s else none)
    else if h.op = 16 then
      (if (j.read (.mk h bao bb bo bl bc bp eao eb eo el ec ep) h.a).k = 2 then
        (runTo (fun i => Nd.run j (bp i)) bl ⟨bothI j.n j.g s.at_ (j.read (.mk h bao bb bo bl bc bp eao eb eo el ec ep) h.a).l, -1, s.set, false⟩).bind fun a =>
        (runTo (fun i => Nd.run j (ep i)) el ⟨bothI j.n j.g s.at_ (j.read (.mk h bao bb bo bl bc bp eao eb eo el ec ep) h.a).l, -1, s.set, false⟩).bind fun b =>
        some (j.junc s a b (bothI j.n j.g a.x b.x)) else none)
    else if h.op = 17 then
      ((runTo (fun i => Nd.run j (bp i)) bl ⟨s.at_, -1, s.set, false⟩).bind fun a =>
        (runTo (fun i => Nd.run j (ep i)) el ⟨bothI j.n j.g s.at_ a.x, -1, upd s.set h.dst.toNat, false⟩).bind fun b =>
        if belB j.n j.g (leafT 1 (bothI j.n j.g s.at_ a.x)) (j.f.slots.ps h.dst.toNat) = true then some (j.junc s a b b.x) else none)
    else if h.op = 18 then (if (j.read (.mk h bao bb bo bl bc bp eao eb eo el ec ep) h.a).k = 1 then some { s with x := bothI j.n j.g s.x (j.read (.mk h bao bb bo bl bc bp eao eb eo el ec ep) h.a).l, gone := true } else none)
    else j.make (.mk h bao bb bo bl bc bp eao eb eo el ec ep) s
def Jd.list (j : Jd) (b : Ns) (s : Sta) : Option Sta := runTo (fun i => (b.ps i).run j) b.len s
def Jd.ends (j : Jd) (s : Sta) : Bool :=
  if ((s.x != -1) && !(leqB j.n j.g s.x j.f.exc)) = true then false
  else if (s.gone || j.f.out == -1) = true then (s.gone && j.f.out == -1)
  else s.set j.f.out.toNat && belB j.n j.g (raiseT j.n j.g (j.f.slots.ps j.f.out.toNat) s.at_) j.f.result
def Jd.start (j : Jd) : Sta := ⟨j.bot, -1, fun i => decide (i < 1 + j.f.caps.len), false⟩
def Jd.right (j : Jd) : Bool := match j.list j.f.body j.start with | none => false | some s => j.ends s
end Go.Proofs.Ytbdhbgilaeldgaa

/- Layer 10: the small calls of the check. -/
namespace Go.Proofs.Ytbdhbgilaeldgaa
open Go Go.RowKit

def wthB (a m : Int) : Bool := decide (0 ≤ a) && decide (a < m)
set_option maxHeartbeats 1000000 in
theorem within_any (a m : Int) (w : World) : Calls Try.prog 67 #[.int .i64 a, .int .i64 m] w fun e w' => e = .returned (.bool (wthB a m)) ∧ Below w.heap.size w w' := by
  by_cases h : 0 ≤ a
  · have HE : Hid (wthB a m = decide (a < m)) := by show wthB a m = _; unfold wthB; simp [h]
    go_enter Try.func67, Try.ntmps67
    go_wp2
    go_ret
    exact ⟨ret_bool HE.out.symm, Below.refl _ _⟩
  · have HE : Hid (wthB a m = false) := by show wthB a m = _; unfold wthB; simp [h]
    go_enter Try.func67, Try.ntmps67
    go_wp2
    go_ret
    exact ⟨ret_bool HE.out.symm, Below.refl _ _⟩

set_option maxRecDepth 100000 in
set_option maxHeartbeats 1000000 in
theorem both_any (j : Jd) (a b : Int) (w : World) (hn : j.n.At w) (hg : j.g.At w) : Calls Try.prog 78 #[.agg j.va, .int .i64 a, .int .i64 b] w fun e w' => e = .returned (.int .i64 (bothI j.n j.g a b)) ∧ Below w.heap.size w w' := by
  have B0 := below_alloc w (.cells j.va 57)
  have bJ : Blk (w.alloc (.cells j.va 57)) w.heap.size j.vs 57 := Blk.new w _ _
  have c0 := bJ.cell 0 (v := .slice j.n.ao j.n.len j.n.cap) rfl
  have c1 := bJ.cell 1 (v := .slice j.g.ao j.g.len j.g.cap) rfl
  have h := Both_any j.n j.g a b _ (hn.kept B0) (hg.kept B0)
  clear bJ
  go_enter Try.func78, Try.ntmps78
  go_wp2_with fail
  refine h.mono ?_
  rintro _ w1 ⟨rfl, hb1⟩
  go_wp2
  go_ret
  exact ⟨rfl, Below.next B0 hb1⟩

set_option maxRecDepth 100000 in
set_option maxHeartbeats 1000000 in
theorem jplain_any (j : Jd) (k : Int) (w : World) : Calls Try.prog 90 #[.agg j.va, .int .i64 k] w fun e w' => e = .returned (.agg (leafT k j.bot).vs.toArray) ∧ Below w.heap.size w w' := by
  have H := allocs_heap [.cells j.va 57, .cells #[.int .i64 0, .int .i64 0, .slice none 0 0, .int .i64 0, .int .i64 0] 39] w
  have B0 := allocs_below [.cells j.va 57, .cells #[.int .i64 0, .int .i64 0, .slice none 0 0, .int .i64 0, .int .i64 0] 39] w
  simp only [List.foldl] at H B0
  have bJ : Blk _ w.heap.size j.vs 57 := H 0 (by simp)
  have bZ : Blk _ (w.heap.size + 1) [.int .i64 0, .int .i64 0, .slice none 0 0, .int .i64 0, .int .i64 0] 39 := H 1 (by simp)
  have c2 := bJ.cell 2 (v := .int .i64 j.bot) rfl
  clear H bJ
  go_enter Try.func90, Try.ntmps90
  go_wp2_with (refine wpList_store_blk rfl rfl 39 (.tmp 4) (.tmp 8) rfl (w.heap.size + 1) (leafT k j.bot).vs (by kernel_rfl) (by kernel_rfl) rfl bZ rfl (by kernel_rfl) ?_; intro w2 W2)
  have z0 := W2.blk.cell 0 rfl
  have z1 := W2.blk.cell 1 rfl
  have z2 := W2.blk.cell 2 rfl
  have z3 := W2.blk.cell 3 rfl
  have z4 := W2.blk.cell 4 rfl
  go_wp2
  exact bodyPost_ret (v := .agg (leafT k j.bot).vs.toArray) (by simp [results, Try.results90, go_sem, z0, z1, z2, z3, z4, Ty.vs]) rfl ⟨rfl, W2.below (by omega) B0⟩
end Go.Proofs.Ytbdhbgilaeldgaa

/- Layer 10: writes, reads, has, below, slots. -/
namespace Go.Proofs.Ytbdhbgilaeldgaa
open Go Go.RowKit

set_option maxRecDepth 100000 in
set_option maxHeartbeats 2000000 in
theorem writes_any (nd : Nd) (w : World) : Calls Try.prog 68 #[.agg nd.va] w fun e w' => e = .returned (.bool nd.h.wrs) ∧ Below w.heap.size w w' := by
  have B0 := below_alloc w (.cells nd.va 46)
  have bN : Blk (w.alloc (.cells nd.va 46)) w.heap.size nd.vs 46 := Blk.new w _ _
  have c0 := bN.cell 0 (v := .int .i64 nd.h.op) rfl
  clear bN
  have HE : Hid (nd.h.wrs = !((nd.h.op == 14) || (nd.h.op == 15) || (nd.h.op == 16) || (nd.h.op == 18))) := by show _ = _; rfl
  generalize nd.h.wrs = r at HE ⊢
  generalize nd.h.op = op at HE c0
  cases e1 : (op == 14)
  · cases e2 : (op == 15)
    · cases e3 : (op == 16)
      · cases e4 : (op == 18)
        all_goals
          go_enter Try.func68, Try.ntmps68
          go_wp2
          go_ret
          exact ⟨ret_bool (by rw [HE.out, e1, e2, e3, e4]; rfl), B0⟩
      · go_enter Try.func68, Try.ntmps68
        go_wp2
        go_ret
        exact ⟨ret_bool (by rw [HE.out, e1, e2, e3]; rfl), B0⟩
    · go_enter Try.func68, Try.ntmps68
      go_wp2
      go_ret
      exact ⟨ret_bool (by rw [HE.out, e1, e2]; rfl), B0⟩
  · go_enter Try.func68, Try.ntmps68
    go_wp2
    go_ret
    exact ⟨ret_bool (by rw [HE.out, e1]; rfl), B0⟩

/-- Numbers that lie in a slice. -/
def IAt (w : World) (v : Value) (l : List Int) : Prop := ∃ (ao : Option Addr) (b o cap : Nat), v = .slice ao l.length cap ∧ (0 < l.length → ao = some ⟨b, o, none⟩) ∧ l.length ≤ 9223372036854775807 ∧ ∀ i x, l[i]? = some x → w.cell? ⟨b, o + i, none⟩ = some (.int .i64 x)
theorem IAt.kept {w w' : World} {v : Value} {l : List Int} (h : IAt w v l) (hb : Below w.heap.size w w') : IAt w' v l := by
  obtain ⟨ao, b, o, cap, h1, h2, h3, h4⟩ := h
  exact ⟨ao, b, o, cap, h1, h2, h3, fun i x hx => up hb (h4 i x hx)⟩
theorem IAt.blk {w : World} {B : Nat} {l : List Int} {t : TypeId} (h : Blk w B (l.map (Value.int .i64)) t) (hl : l.length ≤ 1000) : IAt w (.slice (some ⟨B, 0, none⟩) l.length l.length) l :=
  ⟨_, B, 0, _, rfl, fun _ => rfl, by omega, fun i x hx => by rw [Nat.zero_add]; exact h.cell i (by simp [hx])⟩
theorem IAt.nil (w : World) (cap : Nat) : IAt w (.slice none 0 cap) [] := ⟨none, 0, 0, cap, rfl, fun h => absurd h (Nat.lt_irrefl _), Nat.zero_le _, fun i x hx => by simp at hx⟩
theorem IAt.is {w : World} {s : Is} (h : s.At w) : IAt w (.slice s.ao s.len s.cap) ((List.range s.len).map s.f) :=
  ⟨s.ao, s.b, s.o, s.cap, by simp, fun h0 => h.nil (by simpa using h0), by simpa using h.bound, fun i x hx => by
    have hi : i < s.len := by
      rcases Nat.lt_or_ge i s.len with h1 | h1
      · exact h1
      · rw [List.getElem?_eq_none (by simpa using h1)] at hx; cases hx
    simp [hi] at hx
    subst hx
    exact h.cell i hi⟩

set_option maxRecDepth 100000 in
set_option maxHeartbeats 2000000 in
theorem jbelow_any (j : Jd) (bound : Int) (l : List Int) (v : Value) (w : World) (hn : j.n.At w) (hg : j.g.At w) (hl : IAt w v l) : Calls Try.prog 49 #[.agg j.va, .int .i64 bound, v] w fun e w' => e = .returned (.bool (l.all fun a => leqB j.n j.g a bound)) ∧ Below w.heap.size w w' := by
  obtain ⟨ao, b, o, cap, rfl, hnil, hbd, hcell⟩ := hl
  have B0 := below_alloc w (.cells j.va 57)
  have HI : Hid (Below w.heap.size w (w.alloc (.cells j.va 57)) ∧ Blk (w.alloc (.cells j.va 57)) w.heap.size j.vs 57) := ⟨B0, Blk.new w _ _⟩
  have HC : Hid (j.n.At w ∧ j.g.At w ∧ ∀ i x, l[i]? = some x → w.cell? ⟨b, o + i, none⟩ = some (.int .i64 x)) := ⟨hn, hg, hcell⟩
  clear B0 hn hg hcell
  go_enter Try.func49, Try.ntmps49
  go_wp2
  go_loopw [11] (fun i wr => ∃ k : Nat, k ≤ l.length ∧ i = .int .i64 k ∧ (l.take k).all (fun a => leqB j.n j.g a bound) = true ∧ Below w.heap.size w wr ∧ Blk wr w.heap.size j.vs 57) (fun i _ => l.length - (intOf i).toNat)
  case atStart => exact ⟨0, Nat.zero_le _, rfl, by simp, HI.out⟩
  case round =>
    clear HI
    obtain ⟨k, hk, rfl, hall, hb, bJ⟩ := hrel
    have HA : Hid ((l.take k).all (fun a => leqB j.n j.g a bound) = true) := hall
    have HI : Hid (Below w.heap.size w wr ∧ Blk wr w.heap.size j.vs 57) := ⟨hb, bJ⟩
    clear hall hb
    by_cases hlt : k < l.length
    · have ij : (k : Int) < l.length := by omega
      obtain ⟨x, hx⟩ : ∃ x, l[k]? = some x := ⟨_, List.getElem?_eq_getElem hlt⟩
      have a0 := hnil (by omega)
      subst a0
      have c0 := up HI.out.1 (HC.out.2.2 k x hx)
      have d0 := bJ.cell 0 (v := .slice j.n.ao j.n.len j.n.cap) rfl
      have d1 := bJ.cell 1 (v := .slice j.g.ao j.g.len j.g.cap) rfl
      have HX : Hid (l[k]? = some x) := hx
      clear bJ hx
      go_wp2_with fail
      refine (leq_any j.n j.g x bound wr (HC.out.1.kept HI.out.1) (HC.out.2.1.kept HI.out.1)).mono ?_
      rintro _ w1 ⟨rfl, hb1⟩
      clear c0 d0 d1
      cases hq : leqB j.n j.g x bound
      · go_wp2
        go_ret
        refine ⟨ret_bool ?_, Below.next HI.out.1 hb1⟩
        symm
        rw [List.all_eq_false]
        exact ⟨x, List.mem_of_getElem? HX.out, by rw [hq]; simp⟩
      · go_wp2
        go_roundw
        case rel => exact ⟨k + 1, by omega, by go_num, by rw [List.take_add_one, HX.out]; simp [hq]; simpa using HA.out, Below.next HI.out.1 hb1, HI.out.2.kept hb1⟩
        case measure => simp [intOf]; omega
    · have e2 : k = l.length := by omega
      subst e2
      have d : ¬ (l.length : Int) < l.length := by omega
      clear bJ
      go_wp2
      go_ret
      exact ⟨ret_bool (by have := HA.out; rw [List.take_length] at this; exact this.symm), HI.out.1⟩

set_option maxRecDepth 100000 in
set_option maxHeartbeats 2000000 in
theorem stHas_any (s : Sta) (l : List Int) (v : Value) (w : World) (hl : IAt w v l) (h250 : ∀ x, x ∈ l → 0 ≤ x ∧ x < 250) : Calls Try.prog 50 #[.agg s.va, v] w fun e w' => e = .returned (.bool (l.all fun i => s.set i.toNat)) ∧ Below w.heap.size w w' := by
  obtain ⟨ao, b, o, cap, rfl, hnil, hbd, hcell⟩ := hl
  have B0 := below_alloc w (.cells s.va 75)
  have HI : Hid (Below w.heap.size w (w.alloc (.cells s.va 75)) ∧ Blk (w.alloc (.cells s.va 75)) w.heap.size s.vs 75) := ⟨B0, Blk.new w _ _⟩
  have HC : Hid (∀ i x, l[i]? = some x → w.cell? ⟨b, o + i, none⟩ = some (.int .i64 x)) := hcell
  clear B0 hcell
  go_enter Try.func50, Try.ntmps50
  go_wp2
  go_loopw [9] (fun i wr => ∃ k : Nat, k ≤ l.length ∧ i = .int .i64 k ∧ (l.take k).all (fun i => s.set i.toNat) = true ∧ Below w.heap.size w wr ∧ Blk wr w.heap.size s.vs 75) (fun i _ => l.length - (intOf i).toNat)
  case atStart => exact ⟨0, Nat.zero_le _, rfl, by simp, HI.out⟩
  case round =>
    clear HI
    obtain ⟨k, hk, rfl, hall, hb, bS⟩ := hrel
    have HA : Hid ((l.take k).all (fun i => s.set i.toNat) = true) := hall
    have HI : Hid (Below w.heap.size w wr ∧ Blk wr w.heap.size s.vs 75) := ⟨hb, bS⟩
    clear hall hb
    by_cases hlt : k < l.length
    · have ij : (k : Int) < l.length := by omega
      obtain ⟨x, hx⟩ : ∃ x, l[k]? = some x := ⟨_, List.getElem?_eq_getElem hlt⟩
      have a0 := hnil (by omega)
      subst a0
      have c0 := up HI.out.1 (HC.out k x hx)
      obtain ⟨x0, x1⟩ := h250 x (List.mem_of_getElem? hx)
      have HX : Hid (l[k]? = some x) := hx
      obtain ⟨y, rfl⟩ : ∃ y : Nat, x = y := ⟨x.toNat, by omega⟩
      have x2 : y < 250 := by omega
      have d0 := bS.cell (2 + y) (s.v2 x2)
      clear bS hx h250
      cases hq : s.set y
      · rw [hq] at d0
        go_wp2
        go_ret
        refine ⟨ret_bool ?_, HI.out.1⟩
        symm
        rw [List.all_eq_false]
        exact ⟨y, List.mem_of_getElem? HX.out, by simp [hq]⟩
      · rw [hq] at d0
        go_wp2
        go_roundw
        case rel => exact ⟨k + 1, by omega, by go_num, by rw [List.take_add_one, HX.out]; simp [hq]; simpa using HA.out, HI.out⟩
        case measure => simp [intOf]; omega
    · have e2 : k = l.length := by omega
      subst e2
      have d : ¬ (l.length : Int) < l.length := by omega
      clear bS
      go_wp2
      go_ret
      exact ⟨ret_bool (by have := HA.out; rw [List.take_length] at this; exact this.symm), HI.out.1⟩
end Go.Proofs.Ytbdhbgilaeldgaa

/- Layer 10: reads, slots; a leaf raised. -/
namespace Go.Proofs.Ytbdhbgilaeldgaa
open Go Go.RowKit

theorem run_int1 (x : Int) (w : World) : (Instr.buildSlice 44 1 #[(0, .int .i64 x)]).run Try.prog w = .ok (.slice (some ⟨w.heap.size, 0, none⟩) 1 1) (w.alloc (.cells #[.int .i64 x] 3)) := by
  obtain ⟨i0, hi, hz0, hz1, hz2⟩ := info_parts Try.infoInt
  simp [Instr.buildSlice, run_underlying Try.underlying44, sizeOf, typeInfo, hi, hz0, hz1, zeroValue, newRow, Value.cells, Instr.fill]
  kernel_rfl
theorem run_int2 (x y : Int) (w : World) : (Instr.buildSlice 44 2 #[(0, .int .i64 x), (1, .int .i64 y)]).run Try.prog w = .ok (.slice (some ⟨w.heap.size, 0, none⟩) 2 2) (w.alloc (.cells #[.int .i64 x, .int .i64 y] 3)) := by
  obtain ⟨i0, hi, hz0, hz1, hz2⟩ := info_parts Try.infoInt
  simp [Instr.buildSlice, run_underlying Try.underlying44, sizeOf, typeInfo, hi, hz0, hz1, zeroValue, newRow, Value.cells, Instr.fill]
  kernel_rfl

theorem rds1 {h : Hd} (e : h.op = 3 ∨ h.op = 5 ∨ h.op = 7 ∨ h.op = 8 ∨ h.op = 12 ∨ h.op = 13 ∨ h.op = 15 ∨ h.op = 16 ∨ h.op = 18) : h.rds = [h.a] := by unfold Hd.rds; rw [if_pos e]
theorem rds2 {h : Hd} (e : h.op = 4 ∨ h.op = 6 ∨ h.op = 11 ∨ h.op = 14) : h.rds = [h.a, h.b] := by unfold Hd.rds; rw [if_neg (by omega), if_pos e]
theorem rds9 {h : Hd} (e : h.op = 9) : h.rds = (List.range h.ar.len).map h.ar.f := by unfold Hd.rds; rw [if_neg (by omega), if_neg (by omega), if_pos e]
theorem rds0 {h : Hd} (e : ¬ (h.op = 3 ∨ h.op = 5 ∨ h.op = 7 ∨ h.op = 8 ∨ h.op = 12 ∨ h.op = 13 ∨ h.op = 15 ∨ h.op = 16 ∨ h.op = 18)) (e2 : ¬ (h.op = 4 ∨ h.op = 6 ∨ h.op = 11 ∨ h.op = 14)) (e3 : ¬ h.op = 9) : h.rds = [] := by unfold Hd.rds; rw [if_neg e, if_neg e2, if_neg e3]

theorem beqI {a b : Int} (h : ¬ a = b) : (a == b) = false := beq_eq_false_iff_ne.2 h
set_option maxRecDepth 100000 in
set_option maxHeartbeats 8000000 in
theorem reads_any (nd : Nd) (w : World) (hA : nd.At w) : Calls Try.prog 51 #[.agg nd.va] w fun e w' => ∃ v, e = .returned v ∧ IAt w' v nd.h.rds ∧ Below w.heap.size w w' := by
  have B0 := below_alloc w (.cells nd.va 46)
  have bN : Blk (w.alloc (.cells nd.va 46)) w.heap.size nd.vs 46 := Blk.new w _ _
  have HA : Hid (nd.h.ar.At (w.alloc (.cells nd.va 46)) ∧ Below w.heap.size w (w.alloc (.cells nd.va 46))) := ⟨(hA.kept B0).ar, B0⟩
  have c0 := bN.cell 0 (v := .int .i64 nd.h.op) rfl
  have c2 := bN.cell 2 (v := .int .i64 nd.h.a) rfl
  have c3 := bN.cell 3 (v := .int .i64 nd.h.b) rfl
  have c11 := bN.cell 11 (v := .slice nd.h.ar.ao nd.h.ar.len nd.h.ar.cap) rfl
  clear bN B0 hA
  go_enter Try.func51, Try.ntmps51
  go_upto_region 1 with fail
  generalize (w.alloc (.cells nd.va 46)) = w1 at *
  by_cases h1 : nd.h.op = 3 ∨ nd.h.op = 5 ∨ nd.h.op = 7 ∨ nd.h.op = 8 ∨ nd.h.op = 12 ∨ nd.h.op = 13 ∨ nd.h.op = 15 ∨ nd.h.op = 16 ∨ nd.h.op = 18
  · have HR : Hid (nd.h.rds = [nd.h.a]) := rds1 h1
    generalize nd.h.op = op at h1 c0
    have hr := run_int1 nd.h.a w1
    have K1 : Hid (IAt (w1.alloc (.cells #[.int .i64 nd.h.a] 3)) (.slice (some ⟨w1.heap.size, 0, none⟩) 1 1) [nd.h.a] ∧ Below w.heap.size w (w1.alloc (.cells #[.int .i64 nd.h.a] 3))) := ⟨IAt.blk (l := [nd.h.a]) (Blk.new w1 [.int .i64 nd.h.a] 3) (by simp), Below.next HA.out.2 (below_alloc _ _)⟩
    rcases h1 with rfl | rfl | rfl | rfl | rfl | rfl | rfl | rfl | rfl
    all_goals
      go_wp2_with (refine wpList_slice rfl 44 1 #[(0, .tmp 16)] rfl #[(0, .int .i64 nd.h.a)] rfl hr ?_)
      go_ret
      exact ⟨_, rfl, by rw [HR.out]; exact K1.out.1, K1.out.2⟩
  · by_cases h2 : nd.h.op = 4 ∨ nd.h.op = 6 ∨ nd.h.op = 11 ∨ nd.h.op = 14
    · have HR : Hid (nd.h.rds = [nd.h.a, nd.h.b]) := rds2 h2
      clear h1
      generalize nd.h.op = op at h2 c0
      have hr := run_int2 nd.h.a nd.h.b w1
      have K2 : Hid (IAt (w1.alloc (.cells #[.int .i64 nd.h.a, .int .i64 nd.h.b] 3)) (.slice (some ⟨w1.heap.size, 0, none⟩) 2 2) [nd.h.a, nd.h.b] ∧ Below w.heap.size w (w1.alloc (.cells #[.int .i64 nd.h.a, .int .i64 nd.h.b] 3))) := ⟨IAt.blk (l := [nd.h.a, nd.h.b]) (Blk.new w1 [.int .i64 nd.h.a, .int .i64 nd.h.b] 3) (by simp), Below.next HA.out.2 (below_alloc _ _)⟩
      rcases h2 with rfl | rfl | rfl | rfl
      all_goals
        go_wp2_with (refine wpList_slice rfl 44 2 #[(0, .tmp 24), (1, .tmp 26)] rfl #[(0, .int .i64 nd.h.a), (1, .int .i64 nd.h.b)] rfl hr ?_)
        go_ret
        exact ⟨_, rfl, by rw [HR.out]; exact K2.out.1, K2.out.2⟩
    · by_cases h3 : nd.h.op = 9
      · have HR : Hid (nd.h.rds = (List.range nd.h.ar.len).map nd.h.ar.f) := rds9 h3
        clear h1 h2
        rw [h3] at c0
        have K3 : Hid (IAt w1 (.slice nd.h.ar.ao nd.h.ar.len nd.h.ar.cap) ((List.range nd.h.ar.len).map nd.h.ar.f)) := IAt.is HA.out.1
        generalize nd.h.ar.ao = ao at *
        generalize (List.range nd.h.ar.len).map nd.h.ar.f = l at *
        generalize nd.h.ar.len = len at *
        generalize nd.h.ar.cap = cap at *
        clear h3
        go_wp2
        go_ret
        exact ⟨_, rfl, by rw [HR.out]; exact K3.out, HA.out.2⟩
      · have HR : Hid (nd.h.rds = []) := rds0 h1 h2 h3
        simp only [not_or] at h1 h2
        generalize nd.h.op = op at h1 h2 h3 c0
        have K3 : Hid (IAt w1 (.slice none 0 0) []) := IAt.nil w1 0
        have e3 := beqI h1.1
        have e5 := beqI h1.2.1
        have e7 := beqI h1.2.2.1
        have e8 := beqI h1.2.2.2.1
        have e12 := beqI h1.2.2.2.2.1
        have e13 := beqI h1.2.2.2.2.2.1
        have e15 := beqI h1.2.2.2.2.2.2.1
        have e16 := beqI h1.2.2.2.2.2.2.2.1
        have e18 := beqI h1.2.2.2.2.2.2.2.2
        have e4 := beqI h2.1
        have e6 := beqI h2.2.1
        have e11 := beqI h2.2.2.1
        have e14 := beqI h2.2.2.2
        have e9 := beqI h3
        clear h1 h2 h3
        go_wp2
        go_ret
        exact ⟨_, rfl, by rw [HR.out]; exact K3.out, HA.out.2⟩

def slotsB (m : Nat) (l : List Int) : Bool := l.all fun i => wthB i m
set_option maxRecDepth 100000 in
set_option maxHeartbeats 2000000 in
theorem slots_any (n : Strs) (g : Grid) (many : Int) (f : Fc) (l : List Int) (v : Value) (w : World) (hl : IAt w v l) : Calls Try.prog 47 #[.agg (shV n g many f).toArray, v] w fun e w' => e = .returned (.bool (slotsB f.slots.len l)) ∧ Below w.heap.size w w' := by
  obtain ⟨ao, b, o, cap, rfl, hnil, hbd, hcell⟩ := hl
  have B0 := below_alloc w (.cells (shV n g many f).toArray 68)
  have HI : Hid (Below w.heap.size w (w.alloc (.cells (shV n g many f).toArray 68)) ∧ Blk (w.alloc (.cells (shV n g many f).toArray 68)) w.heap.size (shV n g many f) 68) := ⟨B0, Blk.new w _ _⟩
  have HC : Hid (∀ i x, l[i]? = some x → w.cell? ⟨b, o + i, none⟩ = some (.int .i64 x)) := hcell
  clear B0 hcell
  generalize hsv : shV n g many f = sv at *
  have HV : Hid (sv[16]? = some (.slice f.slots.ao f.slots.len f.slots.cap)) := by show _ = _; rw [← hsv]; rfl
  clear hsv
  go_enter Try.func47, Try.ntmps47
  go_wp2
  go_loopw [9] (fun i wr => ∃ k : Nat, k ≤ l.length ∧ i = .int .i64 k ∧ slotsB f.slots.len (l.take k) = true ∧ Below w.heap.size w wr ∧ Blk wr w.heap.size sv 68) (fun i _ => l.length - (intOf i).toNat)
  case atStart => exact ⟨0, Nat.zero_le _, rfl, by simp [slotsB], HI.out⟩
  case round =>
    clear HI
    obtain ⟨k, hk, rfl, hall, hb, bS⟩ := hrel
    have HA : Hid (slotsB f.slots.len (l.take k) = true) := hall
    have HI : Hid (Below w.heap.size w wr ∧ Blk wr w.heap.size sv 68) := ⟨hb, bS⟩
    clear hall hb
    by_cases hlt : k < l.length
    · have ij : (k : Int) < l.length := by omega
      obtain ⟨x, hx⟩ : ∃ x, l[k]? = some x := ⟨_, List.getElem?_eq_getElem hlt⟩
      have a0 := hnil (by omega)
      subst a0
      have c0 := up HI.out.1 (HC.out k x hx)
      have HX : Hid (l[k]? = some x) := hx
      have d0 := bS.cell 16 HV.out
      clear bS hx
      go_wp2_with fail
      refine (within_any x f.slots.len wr).mono ?_
      rintro _ w1 ⟨rfl, hb1⟩
      clear c0 d0
      cases hq : wthB x f.slots.len
      · go_wp2
        go_ret
        refine ⟨ret_bool ?_, Below.next HI.out.1 hb1⟩
        symm
        unfold slotsB
        rw [List.all_eq_false]
        exact ⟨x, List.mem_of_getElem? HX.out, by rw [hq]; simp⟩
      · go_wp2
        go_roundw
        case rel => exact ⟨k + 1, by omega, by go_num, by unfold slotsB; rw [List.take_add_one, HX.out]; simp [hq]; simpa [slotsB] using HA.out, Below.next HI.out.1 hb1, HI.out.2.kept hb1⟩
        case measure => simp [intOf]; omega
    · have e2 : k = l.length := by omega
      subst e2
      have d : ¬ (l.length : Int) < l.length := by omega
      clear bS
      go_wp2
      go_ret
      exact ⟨ret_bool (by have := HA.out; rw [List.take_length] at this; exact this.symm), HI.out.1⟩
end Go.Proofs.Ytbdhbgilaeldgaa

/- Layer 2: labels bound. -/
namespace Go.Proofs.Ytbdhbgilaeldgaa
open Go.RowKit

/-- The join of two labels, if up, else their meet. -/
def bndL (n : Strs) (g : Grid) (a b : Int) (up : Bool) : Int := if up then joinI n g a b else meetI n g a b
/-- Likewise, of exception labels. -/
def bndE (n : Strs) (g : Grid) (a b : Int) (up : Bool) : Int := if up then bothI n g a b else meetI n g a b

/-- The bound of two formed types as data; it lies nowhere: 'same' holds it against what does. -/
def Ty.bnd (n : Strs) (g : Grid) : Ty → Ty → Bool → Ty
  | .dm, _, _ => .dm
  | .mk k l h e _ _ _ len _ ps, t, up => .mk k (bndL n g l t.l up) (if k = 4 then bndL n g h t.h (!up) else 0) (if k = 4 then bndE n g e t.e up else 0) none 0 0 len 0 (fun i => Ty.bnd n g (ps i) (t.ps i) (up != (decide (k = 4) && decide (i = 0))))
/-- Whether there is a bound. -/
def Ty.bok : Ty → Ty → Bool
  | .dm, _ => false
  | .mk k _ _ _ _ _ _ len _ ps, t => ((k == t.k) && (!(decide (k = 5)) || (ps 0).same (t.ps 0))) && decide (∀ i, i < len → Ty.bok (ps i) (t.ps i) = true)
end Go.Proofs.Ytbdhbgilaeldgaa

/- Layer 2: what the bounds of labels are. No program is walked here. -/
namespace Go.Proofs.Ytbdhbgilaeldgaa

/-- Bounds in a formed lattice: the one that is asked for, and its law: by way of 'up' an upper and least one, else a lower and greatest one. -/
def bl (g : Grid) (x y : Nat) (up : Bool) : Nat := if up then Jn g x y else Mt g x y
/-- a below b, if up, else b below a. -/
def dir (le : Nat → Nat → Bool) (up : Bool) (a b : Nat) : Bool := if up then le a b else le b a
theorem bndL_nat {n : Strs} {g : Grid} (hF : formedB n g = true) {x y : Nat} (hx : x < n.len) (hy : y < n.len) (up : Bool) : bndL n g x y up = (bl g x y up : Int) := by
  cases up
  · exact meetI_nat hF hx hy
  · exact joinI_nat hF hx hy
theorem bl_is {n : Strs} {g : Grid} (hF : formedB n g = true) {x y : Nat} (hx : x < n.len) (hy : y < n.len) (up : Bool) : bl g x y up < n.len ∧ dir g.B up x (bl g x y up) = true ∧ dir g.B up y (bl g x y up) = true ∧ ∀ c, c < n.len → dir g.B up x c = true → dir g.B up y c = true → dir g.B up (bl g x y up) c = true := by
  cases up
  · exact (mt_is hF hx hy).2
  · exact (jn_is hF hx hy).2
theorem bl_same {n : Strs} {g : Grid} (hF : formedB n g = true) {x : Nat} (hx : x < n.len) (up : Bool) : bl g x x up = x := by
  have h := bl_is hF hx hx up
  have h2 := h.2.2.2 x hx (by cases up <;> exact lq_refl hF hx) (by cases up <;> exact lq_refl hF hx)
  cases up
  · exact lq_anti hF h.1 hx h.2.1 h2
  · exact lq_anti hF h.1 hx h2 h.2.1

/-- An exception label: none, or a label. -/
def IsE (N : Nat) (a : Int) : Prop := a = -1 ∨ ∃ x : Nat, a = x ∧ x < N
theorem joinI_none {n : Strs} {g : Grid} (b : Int) : joinI n g (-1) b = -1 := by
  unfold joinI
  rw [if_neg]
  intro h
  rw [Bool.and_eq_true, Bool.and_eq_true] at h
  have : labB n (-1) = false := rfl
  rw [this] at h
  exact Bool.noConfusion h.1.1
theorem meetI_none {n : Strs} {g : Grid} (b : Int) : meetI n g (-1) b = -1 ∧ meetI n g b (-1) = -1 := by
  have e : labB n (-1) = false := rfl
  constructor
  · unfold meetI
    rw [if_neg]
    intro h
    rw [Bool.and_eq_true, Bool.and_eq_true, e] at h
    exact Bool.noConfusion h.1.1
  · unfold meetI
    rw [if_neg]
    intro h
    rw [Bool.and_eq_true, Bool.and_eq_true, e] at h
    exact Bool.noConfusion h.1.2
theorem nat_ne (x : Nat) : ¬ (x : Int) = -1 := by omega
theorem bndE_up {n : Strs} {g : Grid} (hF : formedB n g = true) {a b : Int} (ha : IsE n.len a) (hb : IsE n.len b) : IsE n.len (bndE n g a b true) ∧ excB g.B a (bndE n g a b true) = true ∧ excB g.B b (bndE n g a b true) = true ∧ ∀ c, IsE n.len c → excB g.B a c = true → excB g.B b c = true → excB g.B (bndE n g a b true) c = true := by
  have P := po_of hF
  show IsE n.len (bothI n g a b) ∧ _
  have self : ∀ x : Nat, x < n.len → joinI n g x x = (x : Int) := fun x hx => by
    have := bndL_nat hF hx hx true
    rw [bl_same hF hx true] at this
    exact this
  unfold bothI
  rcases ha with rfl | ⟨x, rfl, hx⟩
  · rcases hb with rfl | ⟨y, rfl, hy⟩
    · have e : bndE n g (-1) (-1) true = -1 := by show bothI n g (-1) (-1) = -1; unfold bothI; rw [if_pos rfl]; exact joinI_none _
      rw [e, if_pos rfl, joinI_none]
      exact ⟨Or.inl rfl, rfl, rfl, fun c _ _ _ => rfl⟩
    · have e : bndE n g (-1) y true = y := by show bothI n g (-1) y = y; unfold bothI; rw [if_pos rfl, if_neg (nat_ne y)]; exact self y hy
      rw [e, if_pos rfl, if_neg (nat_ne y), self y hy]
      exact ⟨Or.inr ⟨y, rfl, hy⟩, rfl, exc_refl P (Or.inr ⟨y, rfl, hy⟩), fun c _ _ h2 => h2⟩
  · rcases hb with rfl | ⟨y, rfl, hy⟩
    · have e : bndE n g x (-1) true = x := by show bothI n g x (-1) = x; unfold bothI; rw [if_pos rfl, if_neg (nat_ne x)]; exact self x hx
      rw [e, if_pos rfl, if_neg (nat_ne x), self x hx]
      exact ⟨Or.inr ⟨x, rfl, hx⟩, exc_refl P (Or.inr ⟨x, rfl, hx⟩), rfl, fun c _ h1 _ => h1⟩
    · have e : bndE n g x y true = (bl g x y true : Int) := by show bothI n g x y = _; unfold bothI; rw [if_neg (nat_ne x), if_neg (nat_ne y)]; exact bndL_nat hF hx hy true
      have e2 : joinI n g x y = (bl g x y true : Int) := bndL_nat hF hx hy true
      rw [e, if_neg (nat_ne x), if_neg (nat_ne y), e2]
      have h := bl_is hF hx hy true
      generalize bl g x y true = j at h
      refine ⟨Or.inr ⟨j, rfl, h.1⟩, exc_iff.2 (Or.inr ⟨nat_ne j, h.2.1⟩), exc_iff.2 (Or.inr ⟨nat_ne j, h.2.2.1⟩), fun c hc h1 h2 => ?_⟩
      rcases exc_iff.1 h1 with q | ⟨q, q1⟩
      · exact absurd q (nat_ne x)
      rcases exc_iff.1 h2 with r | ⟨_, r1⟩
      · exact absurd r (nat_ne y)
      rcases hc with rfl | ⟨z, rfl, hz⟩
      · exact absurd rfl q
      exact exc_iff.2 (Or.inr ⟨q, h.2.2.2 z hz q1 r1⟩)
theorem bndE_dn {n : Strs} {g : Grid} (hF : formedB n g = true) {a b : Int} (ha : IsE n.len a) (hb : IsE n.len b) : IsE n.len (bndE n g a b false) ∧ excB g.B (bndE n g a b false) a = true ∧ excB g.B (bndE n g a b false) b = true ∧ ∀ c, IsE n.len c → excB g.B c a = true → excB g.B c b = true → excB g.B c (bndE n g a b false) = true := by
  show IsE n.len (meetI n g a b) ∧ excB g.B (meetI n g a b) a = true ∧ excB g.B (meetI n g a b) b = true ∧ ∀ c, IsE n.len c → excB g.B c a = true → excB g.B c b = true → excB g.B c (meetI n g a b) = true
  rcases ha with rfl | ⟨x, rfl, hx⟩
  · rw [(meetI_none b).1]
    exact ⟨Or.inl rfl, rfl, rfl, fun c _ h1 _ => h1⟩
  · rcases hb with rfl | ⟨y, rfl, hy⟩
    · rw [(meetI_none (x : Int)).2]
      exact ⟨Or.inl rfl, rfl, rfl, fun c _ _ h2 => h2⟩
    · have e : meetI n g x y = (bl g x y false : Int) := bndL_nat hF hx hy false
      rw [e]
      have h := bl_is hF hx hy false
      generalize bl g x y false = j at h
      refine ⟨Or.inr ⟨j, rfl, h.1⟩, exc_iff.2 (Or.inr ⟨nat_ne x, h.2.1⟩), exc_iff.2 (Or.inr ⟨nat_ne y, h.2.2.1⟩), fun c hc h1 h2 => ?_⟩
      rcases hc with rfl | ⟨z, rfl, hz⟩
      · rfl
      rcases exc_iff.1 h1 with q | ⟨_, q1⟩
      · exact absurd q (nat_ne z)
      rcases exc_iff.1 h2 with r | ⟨_, r1⟩
      · exact absurd r (nat_ne z)
      exact exc_iff.2 (Or.inr ⟨nat_ne j, h.2.2.2 z hz q1 r1⟩)
end Go.Proofs.Ytbdhbgilaeldgaa
