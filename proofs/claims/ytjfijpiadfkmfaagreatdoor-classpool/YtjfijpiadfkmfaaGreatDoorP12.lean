/- Layer 13: the map of a pool: a key is six numbers, what is kept a number. -/
import Derived.Test.YtjfijpiadfkmfaaGreatDoorP11
import Derived.LaidEql
import Derived.Carry
import Derived.Test.YtjfijpiadfkmfaaGreatDoorP9
import Derived.Deep.RegionHeld3
import Derived.Deep.MidRow
import Derived.Test.YtjfijpiadfkmfaaGreatDoorP8
namespace Go.Proofs.YtjfijpiadfkmfaaGreatDoor
open Go.RowKit

def nv (a b c d p q : Int) : Value := .agg #[.int .i64 a, .int .i64 b, .int .i64 c, .int .i64 d, .int .i64 p, .int .i64 q]
def nodeV : List Int → Value
  | [a, b, c, d, p, q] => nv a b c d p q
  | _ => .agg #[]
theorem six_of {n : List Int} (h : n.length = 6) : ∃ a b c d p q, n = [a, b, c, d, p, q] := by
  match n, h with
  | [a, b, c, d, p, q], _ => exact ⟨a, b, c, d, p, q, rfl⟩
theorem Tryz.intSz : (Tryz.prog.info? 3).map (·.size) = some 1 := by kernel_rfl
theorem Tryz.twoSz : (Tryz.prog.info? 89).map (·.size) = some 2 := by kernel_rfl
theorem run_sizeOf (w : World) {t : TypeId} {n : Nat} (h : (Tryz.prog.info? t).map (·.size) = some n) : (sizeOf t).run Tryz.prog w = .ok n w := by
  cases hq : Tryz.prog.info? t with
  | none => rw [hq] at h; simp at h
  | some i =>
    rw [hq] at h
    have h : i.size = n := by simpa using h
    simp [sizeOf, typeInfo, hq, h]
theorem run_eqi (w : World) (d : Nat) (m n : Int) : (Op.equalIn (d + 1) 3 (.int .i64 m) (.int .i64 n)).run Tryz.prog w = .ok (decide (m = n)) w := by
  simp [Op.equalIn, run_underlying Tryz.underlying3]
  by_cases h : m = n
  · simp [h]
  · simp [h]
theorem run_parti (w : World) (xs : Array Value) (i : Nat) (v : Value) (h : xs[i]? = some v) : (part 3 xs i).run Tryz.prog w = .ok v w := by
  simp [part, isAgg, run_underlying Tryz.underlying3, h]
theorem run_part2 (w : World) (xs : Array Value) (i : Nat) : (part 89 xs i).run Tryz.prog w = .ok (.agg (xs.extract i (i + 2))) w := by
  have h := run_sizeOf w Tryz.twoSz
  unfold part isAgg
  simp only [Sem.run_bind, run_underlying Tryz.underlying89, Result.andThen_ok, Sem.run_pure, if_true, h]
theorem run_eq2 (w : World) (d : Nat) (a b p q : Int) : (Op.equalIn (d + 2) 89 (.agg #[.int .i64 a, .int .i64 b]) (.agg #[.int .i64 p, .int .i64 q])).run Tryz.prog w = .ok (decide (a = p) && decide (b = q)) w := by
  have hz := run_sizeOf w Tryz.intSz
  have e := run_eqi w d
  have p0 := fun x y : Int => run_parti w #[.int .i64 x, .int .i64 y] 0 _ rfl
  have p1 := fun x y : Int => run_parti w #[.int .i64 x, .int .i64 y] 1 _ rfl
  rw [Op.equalIn]
  simp only [Sem.run_bind, run_underlying Tryz.underlying89, Result.andThen_ok, hz]
  by_cases h1 : a = p
  · by_cases h2 : b = q
    · simp [Std.Legacy.Range.forIn_eq_forIn_range', Std.Legacy.Range.size, List.range', e, p0, p1, h1, h2]
    · simp [Std.Legacy.Range.forIn_eq_forIn_range', Std.Legacy.Range.size, List.range', e, p0, p1, h1, h2]
  · simp [Std.Legacy.Range.forIn_eq_forIn_range', Std.Legacy.Range.size, List.range', e, p0, h1]
theorem run_eqn' (w : World) (d : Nat) (a b c e p q a' b' c' e' p' q' : Int) : (Op.equalIn (d + 3) 152 (nv a b c e p q) (nv a' b' c' e' p' q')).run Tryz.prog w = .ok (decide ([a, b, c, e, p, q] = [a', b', c', e', p', q'])) w := by
  unfold nv
  have e1 := run_eqi w (d + 1)
  have e2 := run_eq2 w d
  have p0 := fun a b c e p q : Int => run_parti w #[.int .i64 a, .int .i64 b, .int .i64 c, .int .i64 e, .int .i64 p, .int .i64 q] 0 _ rfl
  have p1 := fun a b c e p q : Int => run_parti w #[.int .i64 a, .int .i64 b, .int .i64 c, .int .i64 e, .int .i64 p, .int .i64 q] 1 _ rfl
  have p2 := fun a b c e p q : Int => run_parti w #[.int .i64 a, .int .i64 b, .int .i64 c, .int .i64 e, .int .i64 p, .int .i64 q] 2 _ rfl
  have p3 := fun a b c e p q : Int => run_parti w #[.int .i64 a, .int .i64 b, .int .i64 c, .int .i64 e, .int .i64 p, .int .i64 q] 3 _ rfl
  have p4 := fun a b c e p q : Int => run_part2 w #[.int .i64 a, .int .i64 b, .int .i64 c, .int .i64 e, .int .i64 p, .int .i64 q] 4
  have x4 : ∀ a b c e p q : Int, (#[.int .i64 a, .int .i64 b, .int .i64 c, .int .i64 e, .int .i64 p, .int .i64 q] : Array Value).extract 4 6 = #[.int .i64 p, .int .i64 q] := fun _ _ _ _ _ _ => rfl
  rw [Op.equalIn]
  simp only [Sem.run_bind, run_underlying Tryz.underlying152, Result.andThen_ok]
  simp only [Nat.reduceAdd, x4] at p4
  simp [e1, e2, p0, p1, p2, p3, p4]
  by_cases h1 : a = a'
  · by_cases h2 : b = b'
    · by_cases h3 : c = c'
      · by_cases h4 : e = e'
        · by_cases h5 : p = p'
          · by_cases h6 : q = q'
            · simp [h1, h2, h3, h4, h5, h6]
            · simp [h1, h2, h3, h4, h5, h6]
          · simp [h1, h2, h3, h4, h5]
        · simp [h1, h2, h3, h4]
      · simp [h1, h2, h3]
    · simp [h1, h2]
  · simp [h1]
theorem run_eqn (w : World) (n m : List Int) (hn : n.length = 6) (hm : m.length = 6) : (Op.equal 152 (nodeV n) (nodeV m)).run Tryz.prog w = .ok (decide (n = m)) w := by
  obtain ⟨a, b, c, d, p, q, rfl⟩ := six_of hn
  obtain ⟨a', b', c', d', p', q', rfl⟩ := six_of hm
  exact run_eqn' w 9997 a b c d p q a' b' c' d' p' q'
theorem run_ckn (w : World) (e : Bool) (n : List Int) (hn : n.length = 6) : (Instr.checkKey e 10000 152 (nodeV n)).run Tryz.prog w = .ok () w := by
  obtain ⟨a, b, c, d, p, q, rfl⟩ := six_of hn
  show (Instr.checkKey e (9997 + 3) 152 (nv a b c d p q)).run Tryz.prog w = .ok () w
  unfold nv
  have c1 : ∀ k v, (Instr.checkKey e (k + 1) 3 v).run Tryz.prog w = .ok () w := fun k v => by simp [Instr.checkKey, run_underlying Tryz.underlying3]
  have q0 := fun x y : Int => run_parti w #[.int .i64 x, .int .i64 y] 0 _ rfl
  have q1 := fun x y : Int => run_parti w #[.int .i64 x, .int .i64 y] 1 _ rfl
  have hz := run_sizeOf w Tryz.intSz
  have c2 : ∀ x y : Int, (Instr.checkKey e (9997 + 2) 89 (.agg #[.int .i64 x, .int .i64 y])).run Tryz.prog w = .ok () w := fun x y => by
    rw [Instr.checkKey]
    simp only [Sem.run_bind, run_underlying Tryz.underlying89, Result.andThen_ok]
    simp [Std.Legacy.Range.forIn_eq_forIn_range', Std.Legacy.Range.size, List.range', c1, q0, q1, hz]
  have p0 := fun a b c e p q : Int => run_parti w #[.int .i64 a, .int .i64 b, .int .i64 c, .int .i64 e, .int .i64 p, .int .i64 q] 0 _ rfl
  have p1 := fun a b c e p q : Int => run_parti w #[.int .i64 a, .int .i64 b, .int .i64 c, .int .i64 e, .int .i64 p, .int .i64 q] 1 _ rfl
  have p2 := fun a b c e p q : Int => run_parti w #[.int .i64 a, .int .i64 b, .int .i64 c, .int .i64 e, .int .i64 p, .int .i64 q] 2 _ rfl
  have p3 := fun a b c e p q : Int => run_parti w #[.int .i64 a, .int .i64 b, .int .i64 c, .int .i64 e, .int .i64 p, .int .i64 q] 3 _ rfl
  have p4 := fun a b c e p q : Int => run_part2 w #[.int .i64 a, .int .i64 b, .int .i64 c, .int .i64 e, .int .i64 p, .int .i64 q] 4
  have x4 : ∀ a b c e p q : Int, (#[.int .i64 a, .int .i64 b, .int .i64 c, .int .i64 e, .int .i64 p, .int .i64 q] : Array Value).extract 4 6 = #[.int .i64 p, .int .i64 q] := fun _ _ _ _ _ _ => rfl
  simp only [Nat.reduceAdd, x4] at p4
  rw [Instr.checkKey]
  simp only [Sem.run_bind, run_underlying Tryz.underlying152, Result.andThen_ok]
  simp only [Nat.reduceAdd] at c2
  simp [c1, c2, p0, p1, p2, p3, p4]
/-- The map has these nodes, each with its place. -/
structure NKeys (es : Array MapEntry) (Q : List (List Int)) : Prop where
  keys : es.toList.map (·.key) = Q.map nodeV
  vals : ∀ (i : Nat) (e : MapEntry), es.toList[i]? = some e → e.val = .int .i64 i
  six : ∀ n ∈ Q, n.length = 6
theorem NKeys.nil : NKeys #[] [] := ⟨rfl, by simp, by simp⟩
theorem NKeys.push {es : Array MapEntry} {Q : List (List Int)} (h : NKeys es Q) {n : List Int} (hn : n.length = 6) (c : Nat) : NKeys (es.push { key := nodeV n, val := .int .i64 (Q.length : Int), born := c }) (Q ++ [n]) := by
  have hl : es.toList.length = Q.length := by have := congrArg List.length h.keys; simpa using this
  refine ⟨?_, ?_, ?_⟩
  · rw [Array.toList_push, List.map_append, h.keys, List.map_append]; rfl
  · intro i e he
    rw [Array.toList_push] at he
    by_cases z : i < es.toList.length
    · rw [List.getElem?_append_left z] at he
      exact h.vals i e he
    · rw [List.getElem?_append_right (by omega)] at he
      have hz : i - es.toList.length = 0 := by
        apply Classical.byContradiction
        intro y
        rw [List.getElem?_eq_none (by show 1 ≤ _; omega)] at he
        cases he
      rw [hz] at he
      simp at he
      rw [← he]
      have : i = Q.length := by omega
      rw [this]
  · intro m hm
    rcases List.mem_append.1 hm with h1 | h1
    · exact h.six m h1
    · rw [List.mem_singleton.1 h1]; exact hn
theorem run_findA (w : World) (n : List Int) (hn : n.length = 6) : ∀ (es : List MapEntry) (Q : List (List Int)) (i : Nat), es.map (·.key) = Q.map nodeV → (∀ (j : Nat) (e : MapEntry), es[j]? = some e → e.val = .int .i64 (i + j : Nat)) → (∀ m ∈ Q, m.length = 6) →
    (Instr.findAsking 152 (nodeV n) es i).run Tryz.prog w = .ok (if n ∈ Q then some (i + Q.idxOf n, .int .i64 (i + Q.idxOf n : Nat)) else none) w
  | [], Q, i, hk, _, _ => by
    have e : Q = [] := by cases Q with | nil => rfl | cons _ _ => simp at hk
    subst e
    simp [Instr.findAsking]
  | e :: es, [], i, hk, _, _ => by simp at hk
  | e :: es, m :: Q, i, hk, hv, hs => by
    simp only [List.map_cons, List.cons.injEq] at hk
    have hq := run_eqn w n m hn (hs m (List.mem_cons_self ..))
    by_cases h : n = m
    · subst h
      have hv0 := hv 0 e rfl
      rw [Instr.findAsking, hk.1]
      simp [hq, hv0]
    · have ih := run_findA w n hn es Q (i + 1) hk.2 (fun j x hx => by have h5 := hv (j + 1) x (by simpa using hx); rw [h5, show i + (j + 1) = i + 1 + j by omega]) (fun x hx => hs x (List.mem_cons_of_mem _ hx))
      rw [Instr.findAsking, hk.1]
      simp only [Sem.run_bind, hq, Result.andThen_ok, h, decide_false]
      have hm : (n ∈ m :: Q) ↔ n ∈ Q := by simp [h]
      have hi : (m :: Q).idxOf n = Q.idxOf n + 1 := by rw [List.idxOf_cons, beq_false_of_ne (fun z => h z.symm)]; rfl
      by_cases hin : n ∈ Q
      · rw [if_pos (hm.2 hin), hi]
        rw [if_pos hin] at ih
        simp only [Bool.false_eq_true, if_false]
        rw [ih, show i + 1 + Q.idxOf n = i + (Q.idxOf n + 1) by omega]
      · rw [if_neg (fun z => hin (hm.1 z))]
        rw [if_neg hin] at ih
        simpa using ih
theorem run_findN (w : World) (n : List Int) (hn : n.length = 6) (es : Array MapEntry) (Q : List (List Int)) (h : NKeys es Q) :
    (Instr.findKey 152 (nodeV n) es.toList).run Tryz.prog w = .ok (if n ∈ Q then some (Q.idxOf n, .int .i64 (Q.idxOf n : Nat)) else none) w := by
  have h1 := run_findA w n hn es.toList Q 0 h.keys (fun j e he => by rw [h.vals j e he, Nat.zero_add]) h.six
  simp only [Nat.zero_add] at h1
  have hu := run_underlying (w := w) Tryz.underlying152
  cases hl : es.toList with
  | nil =>
    have e : Q = [] := by have := h.keys; rw [hl] at this; cases Q with | nil => rfl | cons _ _ => simp at this
    subst e
    simp [Instr.findKey, hu, Instr.findNow]
  | cons e l =>
    rw [hl] at h1
    simp [Instr.findKey, hu, Instr.findNow, Instr.sameNow, h1]
theorem run_lookN (w : World) (m : Nat) (es : Array MapEntry) (c : Nat) (hm : w.heap[m]? = some (.map es c)) (n : List Int) (hn : n.length = 6) (Q : List (List Int)) (h : NKeys es Q) :
    (Instr.lookup 61 (.map (some m)) (nodeV n) true).run Tryz.prog w = .ok (.tuple #[.int .i64 (if fnd Q n = -1 then 0 else fnd Q n), .bool (decide (fnd Q n ≠ -1))]) w := by
  have h1 := run_findN w n hn es Q h
  have hc' : ∀ e, (Instr.checkKey e 10000 152 (nodeV n)).run Tryz.prog w = .ok () w := fun e => run_ckn w e n hn
  have hg : (getObj m).run Tryz.prog w = .ok (.map es c) w := by simp [getObj, Sem.run, hm]
  have hz : (Tryz.prog.info? 3).map (·.zero) = some (some (.int .i64 0)) := by kernel_rfl
  cases hq : Tryz.prog.info? 3 with
  | none => rw [hq] at hz; simp at hz
  | some i =>
    rw [hq] at hz
    have hz : i.zero = some (.int .i64 0) := by simpa using hz
    by_cases hin : n ∈ Q
    · rw [if_pos hin] at h1
      have hf : fnd Q n = (Q.idxOf n : Int) := by unfold fnd; rw [if_pos hin]
      have hn1 : ¬ ((Q.idxOf n : Nat) : Int) = -1 := by omega
      simp [Instr.lookup, run_underlying Tryz.underlying61, hg, hc', h1, hf, hn1]
    · rw [if_neg hin] at h1
      have hf : fnd Q n = -1 := by unfold fnd; rw [if_neg hin]
      simp [Instr.lookup, run_underlying Tryz.underlying61, hg, hc', h1, hf, zeroValue, typeInfo, hq, hz]
theorem run_putN (w : World) (m : Nat) (es : Array MapEntry) (c : Nat) (hm : w.heap[m]? = some (.map es c)) (n : List Int) (hn : n.length = 6) (Q : List (List Int)) (h : NKeys es Q) (hf : fnd Q n = -1) (v : Value) :
    (Instr.mapUpdate 61 (.map (some m)) (nodeV n) v).run Tryz.prog w = .ok () { w with heap := w.heap.setIfInBounds m (.map (es.push { key := nodeV n, val := v, born := c }) (c + 1)) } := by
  have h1 := run_findN w n hn es Q h
  rw [if_neg (fnd_no hf)] at h1
  have hc' : ∀ e, (Instr.checkKey e 10000 152 (nodeV n)).run Tryz.prog w = .ok () w := fun e => run_ckn w e n hn
  have hg : (getObj m).run Tryz.prog w = .ok (.map es c) w := by simp [getObj, Sem.run, hm]
  have hs : ∀ o, (setObj m o).run Tryz.prog w = .ok () { w with heap := w.heap.setIfInBounds m o } := fun o => by simp [setObj, Sem.run, hm]
  simp [Instr.mapUpdate, run_underlying Tryz.underlying61, hg, hc', h1, hs]
end Go.Proofs.YtjfijpiadfkmfaaGreatDoor

/- A region that draws its order: 'x := f(..)', reads ahead of a call, and a new variable that the call's answer goes into, the variable being made at any time. -/
namespace Go.Proofs.YtjfijpiadfkmfaaGreatDoor
open Go Go.RowKit

section
variable {P : Program} {ops : Array Oper} {Q : Exit → Act → World → Prop}

theorem if_wanted {o : Oper} {a : Act} (hg : o.guard = none) : Region.wanted o (yielded ops a.tmps) = true := by simp [Region.wanted, hg]

/-- What is known of the three last operations. -/
structure Three (P : Program) (ops : Array Oper) (m : Nat) (listed : Array Bool) (oc oa oz : Oper) (ty : TypeId) (zs : List Value) (c d : Nat) : Prop where
  hoc : ops[m]? = some oc
  hoa : ops[m + 1]? = some oa
  hoz : ops[m + 2]? = some oz
  gc : oc.guard = none
  ga : oa.guard = none
  gz : oz.guard = none
  dc : oc.dst = some c
  da : oa.dst = some d
  dz : oz.dst = none
  opa : oa.op = .alloc ty
  opz : oz.op = .store ty (.tmp d) (.tmp c)
  r0 : Region.ready .any ops listed = [m, m + 1]
  r1 : Region.ready .any ops (listed.setIfInBounds m true) = [m + 1]
  r2 : Region.ready .any ops (listed.setIfInBounds (m + 1) true) = [m]
  r3 : Region.ready .any ops ((listed.setIfInBounds m true).setIfInBounds (m + 1) true) = [m + 2]
  r4 : Region.ready .any ops (((listed.setIfInBounds m true).setIfInBounds (m + 1) true).setIfInBounds (m + 2) true) = []
  hi : (P.info? ty).map (·.size) = some zs.length
  hal : ∀ u : World, (Instr.alloc ty true (.tuple #[])).run P u = .ok (.pointer (some ⟨u.heap.size, 0, none⟩)) (u.alloc (.cells zs.toArray ty))

theorem there_of {u : World} {B : Nat} {zs : List Value} {ty : TypeId} (h : u.heap[B]? = some (.cells zs.toArray ty (0, 0))) : u.there B 0 zs.length := fun j hj => by
  refine ⟨?_, ?_⟩
  · simp [World.cell?, h, hj]
  · simp [World.frozen?, h]
theorem below_setCells {B b : Nat} {a : World} (hb : B ≤ b) : ∀ (vs : List Value) (o : Nat) (w : World), Below B a w → Below B a (w.setCells b o vs)
  | [], _, _, h => h
  | v :: vs, o, _, h => below_setCells hb vs (o + 1) _ (h.setCell hb v)

theorem wpAnyH_three {m : Nat} {listed : Array Bool} {oc oa oz : Oper} {ty : TypeId} {zs : List Value} {c d : Nat} (T : Three P ops m listed oc oa oz ty zs c d) (w0 : World) (a : Act) (f : FuncId) (args : Array Value) (G : Array Value → Prop) (Pn : List PanicEntry → Prop)
    (hc : ∀ u, Below w0.heap.size w0 u → (execOp a.eval oc).run P u = .ok (.enter f args) u)
    (hc2 : ∀ u v, Below w0.heap.size w0 u → (execOp (a.put (some d) v).eval oc).run P u = .ok (.enter f args) u)
    (hcall : ∀ u, Below w0.heap.size w0 u → Calls P f args u fun e u' => Below u.heap.size u u' ∧ ((∃ vals : Array Value, e = .returned (.agg vals) ∧ G vals) ∨ ∃ ch, e = .panicked ch ∧ Pn ch))
    (hG : ∀ vals, G vals → vals.size = zs.length ∧ vals.all (·.oneCell') = true)
    (hcomm : ∀ v v', (a.put (some d) v).put (some c) v' = (a.put (some c) v').put (some d) v)
    (hev : ∀ v v', ((a.put (some c) v').put (some d) v).eval (.tmp d) = v ∧ ((a.put (some c) v').put (some d) v).eval (.tmp c) = v')
    (hpan : ∀ ch (a1 : Act) u, Pn ch → Below w0.heap.size w0 u → a1.defers = a.defers → Q (.panic ch) a1 u)
    (hQ : ∀ vals B u, G vals → Below w0.heap.size w0 u → w0.heap.size ≤ B → u.rangeAt B 0 vals.toList → Q .normal ((a.put (some c) (.agg vals)).put (some d) (.pointer (some ⟨B, 0, none⟩))) u)
    (w : World) (hw : Below w0.heap.size w0 w) : wpAnyH P .any ops Q (fun u => Below w0.heap.size w0 u) 3 listed a w := by
  -- the store, wherever the block lies
  have hstore : ∀ vals B u, G vals → Below w0.heap.size w0 u → w0.heap.size ≤ B → u.heap[B]? = some (.cells zs.toArray ty (0, 0)) →
      wpAnyH P .any ops Q (fun u => Below w0.heap.size w0 u) 1 ((listed.setIfInBounds m true).setIfInBounds (m + 1) true) ((a.put (some c) (.agg vals)).put (some d) (.pointer (some ⟨B, 0, none⟩))) u := by
    intro vals B u hg hu hB hz
    obtain ⟨h1, h2⟩ := hG vals hg
    refine wpAnyH_ready T.r3 (by simp) ?_
    refine AllReadyH.cons T.hoz (fun K hK => ?_) AllReadyH.nil
    rw [if_pos (if_wanted T.gz)]
    have ht : u.there B 0 vals.size := by rw [h1]; exact there_of hz
    refine wp_store_mid ty (.tmp d) (.tmp c) T.opz B 0 vals (hev _ _).1 (hev _ _).2 ht (by rw [T.hi, h1]) h2 ?_
    have hB2 : Below w0.heap.size w0 (u.setCells B 0 vals.toList) := below_setCells hB _ _ _ hu
    refine hK.out _ _ hB2 fun _ => ?_
    rw [T.dz]
    refine wpAnyH_done T.r4 ?_ _
    exact hQ vals B _ hg hB2 hB (World.rangeAt_setCells_same _ _ _ _ (by simpa using ht))
  refine wpAnyH_ready T.r0 (by simp) ?_
  refine AllReadyH.cons T.hoc (fun K hK => ?_) (AllReadyH.cons T.hoa (fun K hK => ?_) AllReadyH.nil)
  · -- the call first
    rw [if_pos (if_wanted T.gc)]
    unfold Oper.wp
    rw [hc w hw, Oper.upon_enter]
    refine (hcall w hw).mono ?_
    rintro e u ⟨hb, ⟨vals, rfl, hg⟩ | ⟨ch, rfl, hp⟩⟩
    · have hu := Below.next hw hb
      refine hK.out _ _ hu fun _ => ?_
      refine wpAnyH_ready T.r1 (by simp) ?_
      refine AllReadyH.cons T.hoa (fun K2 hK2 => ?_) AllReadyH.nil
      rw [if_pos (if_wanted T.ga)]
      unfold Oper.wp execOp
      simp only [T.opa, Sem.run_bind, T.hal, Result.andThen_ok, Sem.run_pure]
      have hu2 : Below w0.heap.size w0 (u.alloc (.cells zs.toArray ty)) := hu.alloc hu.size _
      refine hK2.out _ _ hu2 fun _ => ?_
      rw [T.dc, T.da]
      exact hstore vals u.heap.size _ hg hu2 hu.size (heap_alloc_new _ _)
    · exact hpan ch _ _ hp (Below.next hw hb) rfl
  · -- the variable first
    rw [if_pos (if_wanted T.ga)]
    unfold Oper.wp execOp
    simp only [T.opa, Sem.run_bind, T.hal, Result.andThen_ok, Sem.run_pure]
    have hu2 : Below w0.heap.size w0 (w.alloc (.cells zs.toArray ty)) := hw.alloc hw.size _
    refine hK.out _ _ hu2 fun _ => ?_
    rw [T.da]
    refine wpAnyH_ready T.r2 (by simp) ?_
    refine AllReadyH.cons T.hoc (fun K2 hK2 => ?_) AllReadyH.nil
    rw [if_pos (if_wanted T.gc)]
    unfold Oper.wp
    rw [hc2 _ _ hu2, Oper.upon_enter]
    refine (hcall _ hu2).mono ?_
    rintro e u ⟨hb, ⟨vals, rfl, hg⟩ | ⟨ch, rfl, hp⟩⟩
    · have hu := Below.next hu2 hb
      refine hK2.out _ _ hu fun _ => ?_
      rw [T.dc, hcomm, Array.setIfInBounds_comm _ _ (by omega)]
      refine hstore vals w.heap.size u hg hu hw.size ?_
      rw [hb.block _ (by simp), heap_alloc_new]
    · exact hpan ch _ _ hp (Below.next hu2 hb) rfl

/-- It yields a value, if anything. -/
def isRead (o : Oper) : Bool := match o.op with
  | .load .. | .fieldAddr .. | .indexAddr .. | .extract .. => true
  | _ => false
theorem run_val {s : Sem Value} {w w' : World} {n : Next} (hr : (do pure (Next.value (← s)) : Sem Next).run P w = .ok n w') : ∃ u, n = .value u := by
  simp only [Sem.run_bind] at hr
  cases hq : s.run P w with
  | ok v w2 => rw [hq] at hr; simp only [Result.andThen_ok, Sem.run_pure] at hr; exact ⟨v, (Result.ok.inj hr).1.symm⟩
  | halt x w2 => rw [hq] at hr; simp [Result.andThen] at hr
theorem read_value {o : Oper} (h : isRead o = true) (ρ : Operand → Value) (w w' : World) (n : Next) (hr : (execOp ρ o).run P w = .ok n w') : ∃ u, n = .value u := by
  cases ho : o.op
  case load => unfold execOp at hr; rw [ho] at hr; exact run_val hr
  case fieldAddr => unfold execOp at hr; rw [ho] at hr; exact run_val hr
  case indexAddr => unfold execOp at hr; rw [ho] at hr; exact run_val hr
  case extract => unfold execOp at hr; rw [ho] at hr; exact run_val hr
  all_goals (unfold isRead at h; rw [ho] at h; cases h)
theorem yieldsIf_of_quiet {S : World → Prop} {o : Oper} {a : Act} {K : Act → Prop} (hr : isRead o = true) (h : if Region.wanted o (yielded ops a.tmps) then o.quiet P a S K else K (a.put o.dst undef)) : ∃ v, YieldsIf P ops S o v a ∧ K (a.put o.dst v) := by
  by_cases hw : Region.wanted o (yielded ops a.tmps) = true
  · rw [if_pos hw] at h
    obtain ⟨v, h1, h2⟩ := h
    refine ⟨v, Or.inl ⟨hw, fun w hS => ?_⟩, h2⟩
    have h3 := h1 w hS
    unfold Oper.quietAt at h3
    cases hq : (execOp a.eval o).run P w with
    | ok n w' =>
      obtain ⟨u, rfl⟩ := read_value hr _ _ _ _ hq
      rw [hq] at h3
      simp only [Oper.quietUpon] at h3
      rw [h3.1, h3.2]
    | halt x w' => rw [hq] at h3; simp only [Oper.quietUpon] at h3
  · rw [if_neg hw] at h
    exact ⟨undef, Or.inr ⟨by simpa using hw, rfl⟩, h⟩
def lexR (ops : Array Oper) : List Oper → Nat → Array Bool → Bool
  | [], _, _ => true
  | o :: l, k, listed => isRead o && (Region.ready .any ops listed).contains k && Region.free .any ops listed k && lexR ops l (k + 1) (listed.setIfInBounds k true)
theorem wpAnyH_reads {S : World → Prop} {K : Act → Prop} {rest : Nat} {w : World} (hs : Region.noSelect ops = true) (hQ : ∀ c a d v w, Q (.panic c) (Act.put a d v) w → Q (.panic c) a w) (hS : S w) : ∀ (l : List Oper) (k : Nat) (listed : Array Bool) (a : Act), (∀ j, j < l.length → l[j]? = ops[k + j]?) →
    lexR ops l k listed = true → wpQuiet P ops S K l a → (∀ a', K a' → wpAnyH P .any ops Q S rest (listedTo l.length k listed) a' w) → wpAnyH P .any ops Q S (l.length + rest) listed a w
  | [], _, _, _, _, _, h, hK => by simpa [listedTo] using hK _ h
  | o :: l, k, listed, a, hl, hB, h, hK => by
    have h0 : ops[k]? = some o := by simpa using (hl 0 (by simp)).symm
    simp only [lexR, Bool.and_eq_true] at hB
    obtain ⟨⟨⟨hr, hc⟩, hf⟩, hB'⟩ := hB
    have h' : if Region.wanted o (yielded ops a.tmps) then o.quiet P a S (wpQuiet P ops S K l) else wpQuiet P ops S K l (a.put o.dst undef) := h
    obtain ⟨v, hy, hk⟩ := yieldsIf_of_quiet (ops := ops) hr h'
    rw [show (o :: l).length + rest = (l.length + rest) + 1 by simp; omega]
    exact wpAnyH_take h0 hs hf hc (fun c a w => hQ c a _ _ w) hy hS (wpAnyH_reads hs hQ hS l (k + 1) _ _ (fun j hj => by have := hl (j + 1) (by simp; omega); simpa [Nat.add_assoc, Nat.add_comm 1 j] using this) hB' hk hK)
/-- Those of these places listed. -/
def listedI : List Nat → Array Bool → Array Bool
  | [], l => l
  | i :: js, l => listedI js (l.setIfInBounds i true)
def lexI (ops : Array Oper) : List Nat → List Oper → Array Bool → Bool
  | [], [], _ => true
  | i :: js, o :: l, listed => isRead o && (Region.ready .any ops listed).contains i && Region.free .any ops listed i && lexI ops js l (listed.setIfInBounds i true)
  | _, _, _ => false
theorem wpAnyH_readsI {S : World → Prop} {K : Act → Prop} {rest : Nat} {w : World} (hs : Region.noSelect ops = true) (hQ : ∀ c a d v w, Q (.panic c) (Act.put a d v) w → Q (.panic c) a w) (hS : S w) : ∀ (js : List Nat) (l : List Oper) (listed : Array Bool) (a : Act), (∀ j, j < l.length → ∃ i, js[j]? = some i ∧ ops[i]? = l[j]?) →
    lexI ops js l listed = true → wpQuiet P ops S K l a → (∀ a', K a' → wpAnyH P .any ops Q S rest (listedI js listed) a' w) → wpAnyH P .any ops Q S (js.length + rest) listed a w
  | [], [], _, _, _, _, h, hK => by simpa [listedI] using hK _ h
  | [], _ :: _, _, _, _, hB, _, _ => by simp [lexI] at hB
  | _ :: _, [], _, _, _, hB, _, _ => by simp [lexI] at hB
  | i :: js, o :: l, listed, a, hl, hB, h, hK => by
    have h0 : ops[i]? = some o := by
      obtain ⟨i', h1, h2⟩ := hl 0 (by simp)
      have : i = i' := by simpa using h1
      subst this
      simpa using h2
    simp only [lexI, Bool.and_eq_true] at hB
    obtain ⟨⟨⟨hr, hc⟩, hf⟩, hB'⟩ := hB
    have h' : if Region.wanted o (yielded ops a.tmps) then o.quiet P a S (wpQuiet P ops S K l) else wpQuiet P ops S K l (a.put o.dst undef) := h
    obtain ⟨v, hy, hk⟩ := yieldsIf_of_quiet (ops := ops) hr h'
    rw [show (i :: js).length + rest = (js.length + rest) + 1 by simp; omega]
    exact wpAnyH_take h0 hs hf hc (fun c a w => hQ c a _ _ w) hy hS (wpAnyH_readsI hs hQ hS js l _ _ (fun j hj => by
      obtain ⟨i', h1, h2⟩ := hl (j + 1) (by simp; omega)
      exact ⟨i', by simpa using h1, by simpa using h2⟩) hB' hk hK)
/-- The worlds that meet S. -/
def Wd (S : World → Prop) : Type := { u : World // S u }
def Wd.w {S : World → Prop} (x : Wd S) : World := x.1
/-- A region that draws: first all that only reads. -/
theorem wp_region_reads {id : Nat} {a : Act} {w : World} {l : List Oper} (S : World → Prop) (js : List Nat) (rest : Nat) (hm : P.follows .mixedOrders = true) (hlen : l.length = js.length + rest) (hB : (Region.noSelect l.toArray && lexI l.toArray js (js.filterMap (l[·]?)) (Array.replicate l.length false)) = true) (hj : ∀ j, j < (js.filterMap (l[·]?)).length → ∃ i, js[j]? = some i ∧ l.toArray[i]? = (js.filterMap (l[·]?))[j]?)
    (hQ : ∀ c a d v w, Q (.panic c) (Act.put a d v) w → Q (.panic c) a w) (hS : S w.drew)
    (h : wpQuiet P l.toArray (fun u => ∃ x : Wd S, u = x.w) (fun a' => wpAnyH P .any l.toArray Q S rest (listedI js (Array.replicate l.length false)) a' w.drew) (js.filterMap (l[·]?)) a) : (Code.region id l.toArray true).wp P Q a w := by
  simp only [Bool.and_eq_true] at hB
  refine wp_region_held_drew (S := S) hm hS fun hS => ?_
  have e3 : Array.replicate l.toArray.size false = Array.replicate l.length false := by simp
  have e2 : l.toArray.size = js.length + rest := by simpa using hlen
  have eS : (fun u : World => ∃ x : Wd S, u = x.w) = S := by
    funext u; apply propext
    exact ⟨fun ⟨x, hx⟩ => hx ▸ x.2, fun h => ⟨⟨u, h⟩, rfl⟩⟩
  rw [eS] at h
  rw [e3, e2]
  exact wpAnyH_readsI hB.1 hQ hS js _ _ a hj hB.2 h (fun a' h => h)
theorem wp_store_blk {o : Oper} {a : Act} {w : World} {K : Act → World → Prop} (t : TypeId) (p x : Operand) (ho : o.op = .store t p x) (hdst : o.dst = none) (B : Nat) (vs c : List Value) (hp : a.eval p = .pointer (some ⟨B, 0, none⟩)) (hx : a.eval x = .agg vs.toArray) (h1 : vs.all (·.oneCell') = true)
    (hb : w.heap[B]? = some (.cells c.toArray t (0, 0))) (hl : c.length = vs.length) (hi : (P.info? t).map (·.size) = some vs.toArray.size) (h : K a (w.setCells B 0 vs)) : o.wp P a w K Q := by
  refine wp_store_mid t p x ho B 0 vs.toArray hp hx ?_ hi (by simpa using h1) ?_
  · have := there_of hb; rw [hl] at this; simpa using this
  · rw [hdst]; exact h
/-- The whole region. -/
theorem wp_region_new {id : Nat} {a : Act} {w : World} {l : List Oper} (m : Nat) {oc oa oz : Oper} {ty : TypeId} {zs : List Value} {c d : Nat} (hm : P.follows .mixedOrders = true) (hlen : l.length = m + 3) (hB : (Region.noSelect l.toArray && lexR l.toArray (l.take m) 0 (Array.replicate l.length false)) = true)
    (T : Three P l.toArray m (listedTo m 0 (Array.replicate l.length false)) oc oa oz ty zs c d) (G : Array Value → Prop) (Pn : List PanicEntry → Prop)
    (hQ : ∀ c a d v w, Q (.panic c) (Act.put a d v) w → Q (.panic c) a w) (hG : ∀ vals, G vals → vals.size = zs.length ∧ vals.all (·.oneCell') = true)
    (h : wpQuiet P l.toArray (fun u => ∃ x : Gr w, u = x.w) (fun a' => ∃ f args,
      (∀ u, Below w.heap.size w u → (execOp a'.eval oc).run P u = .ok (.enter f args) u) ∧ (∀ u v, Below w.heap.size w u → (execOp (a'.put (some d) v).eval oc).run P u = .ok (.enter f args) u) ∧
      (∀ v v', (a'.put (some d) v).put (some c) v' = (a'.put (some c) v').put (some d) v) ∧ (∀ v v', ((a'.put (some c) v').put (some d) v).eval (.tmp d) = v ∧ ((a'.put (some c) v').put (some d) v).eval (.tmp c) = v') ∧
      (∀ u, Below w.heap.size w u → Calls P f args u fun e u' => Below u.heap.size u u' ∧ ((∃ vals : Array Value, e = .returned (.agg vals) ∧ G vals) ∨ ∃ ch, e = .panicked ch ∧ Pn ch)) ∧
      (∀ ch (a1 : Act) u, Pn ch → Below w.heap.size w u → a1.defers = a'.defers → Q (.panic ch) a1 u) ∧
      (∀ vals B u, G vals → Below w.heap.size w u → w.heap.size ≤ B → u.rangeAt B 0 vals.toList → Q .normal ((a'.put (some c) (.agg vals)).put (some d) (.pointer (some ⟨B, 0, none⟩))) u)) (l.take m) a) : (Code.region id l.toArray true).wp P Q a w := by
  simp only [Bool.and_eq_true] at hB
  have e1 : (l.take m).length = m := by simp; omega
  refine wp_region_held_drew (S := fun u => ∃ x : Gr w, u = x.w) hm ⟨⟨_, (Below.refl _ _).drew⟩, rfl⟩ fun hS => ?_
  have e2 : l.toArray.size = (l.take m).length + 3 := by rw [e1]; simpa using hlen
  have e3 : Array.replicate l.toArray.size false = Array.replicate l.length false := by simp
  rw [e3, e2]
  refine wpAnyH_reads hB.1 hQ hS (l.take m) 0 _ a (fun j hj => by rw [e1] at hj; simp [hj]) hB.2 h ?_
  rintro a' ⟨f, args, h1, h2, h3, h4, h5, h6, h7⟩
  rw [e1]
  have hw : Below w.heap.size w w.drew := (Below.refl _ _).drew
  have key := wpAnyH_three T w a' f args G Pn h1 h2 h5 hG h3 h4 h6 h7 w.drew hw
  have eS : (fun u : World => ∃ x : Gr w, u = x.w) = (fun u => Below w.heap.size w u) := by
    funext u; apply propext
    exact ⟨fun ⟨x, hx⟩ => hx ▸ x.bl, fun h => ⟨⟨u, h⟩, rfl⟩⟩
  rw [eS]
  exact key
end
end Go.Proofs.YtjfijpiadfkmfaaGreatDoor

/- Layer 6: expressions, as they lie in memory; what is told of them. -/
namespace Go.Proofs.YtjfijpiadfkmfaaGreatDoor
open Go.RowKit

/-- An expression: its numbers, texts and types, where its Parts lie, they, and its place ('dm': none; it lies nowhere). -/
inductive Ex where
  | dm : Ex
  | mk (k n m : Int) (tx ar : ByteArray) (ty gv : Ty) (ao : Option Addr) (b o len cap : Nat) (ps : Nat → Ex) (pl : Int) : Ex
def Ex.k : Ex → Int | .dm => 0 | .mk k _ _ _ _ _ _ _ _ _ _ _ _ _ => k
def Ex.n : Ex → Int | .dm => 0 | .mk _ n _ _ _ _ _ _ _ _ _ _ _ _ => n
def Ex.m : Ex → Int | .dm => 0 | .mk _ _ m _ _ _ _ _ _ _ _ _ _ _ => m
def Ex.tx : Ex → ByteArray | .dm => ⟨#[]⟩ | .mk _ _ _ tx _ _ _ _ _ _ _ _ _ _ => tx
def Ex.ar : Ex → ByteArray | .dm => ⟨#[]⟩ | .mk _ _ _ _ ar _ _ _ _ _ _ _ _ _ => ar
def Ex.ty : Ex → Ty | .dm => .dm | .mk _ _ _ _ _ ty _ _ _ _ _ _ _ _ => ty
def Ex.gv : Ex → Ty | .dm => .dm | .mk _ _ _ _ _ _ gv _ _ _ _ _ _ _ => gv
def Ex.ao : Ex → Option Addr | .dm => none | .mk _ _ _ _ _ _ _ ao _ _ _ _ _ _ => ao
def Ex.b : Ex → Nat | .dm => 0 | .mk _ _ _ _ _ _ _ _ b _ _ _ _ _ => b
def Ex.o : Ex → Nat | .dm => 0 | .mk _ _ _ _ _ _ _ _ _ o _ _ _ _ => o
def Ex.len : Ex → Nat | .dm => 0 | .mk _ _ _ _ _ _ _ _ _ _ len _ _ _ => len
def Ex.cap : Ex → Nat | .dm => 0 | .mk _ _ _ _ _ _ _ _ _ _ _ cap _ _ => cap
def Ex.ps : Ex → Nat → Ex | .dm => fun _ => .dm | .mk _ _ _ _ _ _ _ _ _ _ _ _ ps _ => ps
def Ex.pl : Ex → Int | .dm => 0 | .mk _ _ _ _ _ _ _ _ _ _ _ _ _ pl => pl
/-- An expression's seventeen values. -/
def Ex.vs (e : Ex) : List Value := [.int .i64 e.k, .int .i64 e.n, .int .i64 e.m, .string e.tx, .string e.ar, .int .i64 e.ty.k, .int .i64 e.ty.l, .slice e.ty.ao e.ty.len e.ty.cap, .int .i64 e.ty.h, .int .i64 e.ty.e, .int .i64 e.gv.k, .int .i64 e.gv.l, .slice e.gv.ao e.gv.len e.gv.cap, .int .i64 e.gv.h, .int .i64 e.gv.e, .slice e.ao e.len e.cap, .int .i64 e.pl]
/-- Seventeen cells that hold an expression. -/
structure C17 (w : World) (b o : Nat) (e : Ex) : Prop where
  c0 : w.cell? ⟨b, o, none⟩ = some (.int .i64 e.k)
  c1 : w.cell? ⟨b, o + 1, none⟩ = some (.int .i64 e.n)
  c2 : w.cell? ⟨b, o + 2, none⟩ = some (.int .i64 e.m)
  c3 : w.cell? ⟨b, o + 3, none⟩ = some (.string e.tx)
  c4 : w.cell? ⟨b, o + 4, none⟩ = some (.string e.ar)
  c5 : w.cell? ⟨b, o + 5, none⟩ = some (.int .i64 e.ty.k)
  c6 : w.cell? ⟨b, o + 6, none⟩ = some (.int .i64 e.ty.l)
  c7 : w.cell? ⟨b, o + 7, none⟩ = some (.slice e.ty.ao e.ty.len e.ty.cap)
  c8 : w.cell? ⟨b, o + 8, none⟩ = some (.int .i64 e.ty.h)
  c9 : w.cell? ⟨b, o + 9, none⟩ = some (.int .i64 e.ty.e)
  c10 : w.cell? ⟨b, o + 10, none⟩ = some (.int .i64 e.gv.k)
  c11 : w.cell? ⟨b, o + 11, none⟩ = some (.int .i64 e.gv.l)
  c12 : w.cell? ⟨b, o + 12, none⟩ = some (.slice e.gv.ao e.gv.len e.gv.cap)
  c13 : w.cell? ⟨b, o + 13, none⟩ = some (.int .i64 e.gv.h)
  c14 : w.cell? ⟨b, o + 14, none⟩ = some (.int .i64 e.gv.e)
  c15 : w.cell? ⟨b, o + 15, none⟩ = some (.slice e.ao e.len e.cap)
  c16 : w.cell? ⟨b, o + 16, none⟩ = some (.int .i64 e.pl)
theorem C17.kept {w w' : World} {b o : Nat} {e : Ex} (h : C17 w b o e) (hb : Below w.heap.size w w') : C17 w' b o e := ⟨up hb h.c0, up hb h.c1, up hb h.c2, up hb h.c3, up hb h.c4, up hb h.c5, up hb h.c6, up hb h.c7, up hb h.c8, up hb h.c9, up hb h.c10, up hb h.c11, up hb h.c12, up hb h.c13, up hb h.c14, up hb h.c15, up hb h.c16⟩
theorem C17.range {w : World} {b o : Nat} {e : Ex} (h : C17 w b o e) : w.rangeAt b o e.vs := fun j v hv => by
  match j, hv with
  | 0, hv => rw [← hv]; exact h.c0
  | 1, hv => rw [← hv]; exact h.c1
  | 2, hv => rw [← hv]; exact h.c2
  | 3, hv => rw [← hv]; exact h.c3
  | 4, hv => rw [← hv]; exact h.c4
  | 5, hv => rw [← hv]; exact h.c5
  | 6, hv => rw [← hv]; exact h.c6
  | 7, hv => rw [← hv]; exact h.c7
  | 8, hv => rw [← hv]; exact h.c8
  | 9, hv => rw [← hv]; exact h.c9
  | 10, hv => rw [← hv]; exact h.c10
  | 11, hv => rw [← hv]; exact h.c11
  | 12, hv => rw [← hv]; exact h.c12
  | 13, hv => rw [← hv]; exact h.c13
  | 14, hv => rw [← hv]; exact h.c14
  | 15, hv => rw [← hv]; exact h.c15
  | 16, hv => rw [← hv]; exact h.c16
  | _ + 17, hv => simp [Ex.vs] at hv
theorem C17.of_range {w : World} {b o : Nat} {e : Ex} (h : w.rangeAt b o e.vs) : C17 w b o e :=
  ⟨h 0 _ rfl, h 1 _ rfl, h 2 _ rfl, h 3 _ rfl, h 4 _ rfl, h 5 _ rfl, h 6 _ rfl, h 7 _ rfl, h 8 _ rfl, h 9 _ rfl, h 10 _ rfl, h 11 _ rfl, h 12 _ rfl, h 13 _ rfl, h 14 _ rfl, h 15 _ rfl, h 16 _ rfl⟩
/-- A variable that holds an expression, at a block's beginning. -/
structure Bex (w : World) (B : Nat) (e : Ex) : Prop where
  c0 : w.cell? ⟨B, 0, none⟩ = some (.int .i64 e.k)
  c1 : w.cell? ⟨B, 1, none⟩ = some (.int .i64 e.n)
  c2 : w.cell? ⟨B, 2, none⟩ = some (.int .i64 e.m)
  c3 : w.cell? ⟨B, 3, none⟩ = some (.string e.tx)
  c4 : w.cell? ⟨B, 4, none⟩ = some (.string e.ar)
  c5 : w.cell? ⟨B, 5, none⟩ = some (.int .i64 e.ty.k)
  c6 : w.cell? ⟨B, 6, none⟩ = some (.int .i64 e.ty.l)
  c7 : w.cell? ⟨B, 7, none⟩ = some (.slice e.ty.ao e.ty.len e.ty.cap)
  c8 : w.cell? ⟨B, 8, none⟩ = some (.int .i64 e.ty.h)
  c9 : w.cell? ⟨B, 9, none⟩ = some (.int .i64 e.ty.e)
  c10 : w.cell? ⟨B, 10, none⟩ = some (.int .i64 e.gv.k)
  c11 : w.cell? ⟨B, 11, none⟩ = some (.int .i64 e.gv.l)
  c12 : w.cell? ⟨B, 12, none⟩ = some (.slice e.gv.ao e.gv.len e.gv.cap)
  c13 : w.cell? ⟨B, 13, none⟩ = some (.int .i64 e.gv.h)
  c14 : w.cell? ⟨B, 14, none⟩ = some (.int .i64 e.gv.e)
  c15 : w.cell? ⟨B, 15, none⟩ = some (.slice e.ao e.len e.cap)
  c16 : w.cell? ⟨B, 16, none⟩ = some (.int .i64 e.pl)
theorem Bex.kept {w w' : World} {B : Nat} {e : Ex} (h : Bex w B e) (hb : Below w.heap.size w w') : Bex w' B e := ⟨up hb h.c0, up hb h.c1, up hb h.c2, up hb h.c3, up hb h.c4, up hb h.c5, up hb h.c6, up hb h.c7, up hb h.c8, up hb h.c9, up hb h.c10, up hb h.c11, up hb h.c12, up hb h.c13, up hb h.c14, up hb h.c15, up hb h.c16⟩
theorem Bex.range {w : World} {B : Nat} {e : Ex} (h : Bex w B e) : w.rangeAt B 0 e.vs := fun j v hv => by
  rw [Nat.zero_add]
  match j, hv with
  | 0, hv => rw [← hv]; exact h.c0
  | 1, hv => rw [← hv]; exact h.c1
  | 2, hv => rw [← hv]; exact h.c2
  | 3, hv => rw [← hv]; exact h.c3
  | 4, hv => rw [← hv]; exact h.c4
  | 5, hv => rw [← hv]; exact h.c5
  | 6, hv => rw [← hv]; exact h.c6
  | 7, hv => rw [← hv]; exact h.c7
  | 8, hv => rw [← hv]; exact h.c8
  | 9, hv => rw [← hv]; exact h.c9
  | 10, hv => rw [← hv]; exact h.c10
  | 11, hv => rw [← hv]; exact h.c11
  | 12, hv => rw [← hv]; exact h.c12
  | 13, hv => rw [← hv]; exact h.c13
  | 14, hv => rw [← hv]; exact h.c14
  | 15, hv => rw [← hv]; exact h.c15
  | 16, hv => rw [← hv]; exact h.c16
  | _ + 17, hv => simp [Ex.vs] at hv
theorem Bex.of_range {w : World} {B : Nat} {e : Ex} (h : w.rangeAt B 0 e.vs) : Bex w B e := by
  have key : ∀ j v, e.vs[j]? = some v → w.cell? ⟨B, j, none⟩ = some v := fun j v hv => by have := h j v hv; rwa [Nat.zero_add] at this
  exact ⟨key 0 _ rfl, key 1 _ rfl, key 2 _ rfl, key 3 _ rfl, key 4 _ rfl, key 5 _ rfl, key 6 _ rfl, key 7 _ rfl, key 8 _ rfl, key 9 _ rfl, key 10 _ rfl, key 11 _ rfl, key 12 _ rfl, key 13 _ rfl, key 14 _ rfl, key 15 _ rfl, key 16 _ rfl⟩
theorem ex_one (e : Ex) : e.vs.toArray.all (·.oneCell') = true := by simp [Ex.vs, Value.oneCell']
/-- An expression lies: its types, its texts (no longer than Go's), its Parts. -/
def Ex.At (w : World) : Ex → Prop
  | .dm => False
  | .mk _ _ _ tx ar ty gv ao b o len _ ps _ => (tx.size ≤ 9223372036854775807 ∧ ar.size ≤ 9223372036854775807) ∧ (ty.At w ∧ gv.At w) ∧ (0 < len → ao = some ⟨b, o, none⟩) ∧ len ≤ 9223372036854775807 ∧ ∀ i, i < len → C17 w b (o + i * 17) (ps i) ∧ Ex.At w (ps i)
theorem Ex.At.kept {w w' : World} (hb : Below w.heap.size w w') : ∀ {e : Ex}, e.At w → e.At w'
  | .dm, h => h.elim
  | .mk _ _ _ _ _ _ _ _ _ _ _ _ _ _, h => ⟨h.1, ⟨h.2.1.1.kept hb, h.2.1.2.kept hb⟩, h.2.2.1, h.2.2.2.1, fun i hi => ⟨(h.2.2.2.2 i hi).1.kept hb, Ex.At.kept hb (h.2.2.2.2 i hi).2⟩⟩
theorem Ex.At.tx {w : World} : ∀ {e : Ex}, e.At w → e.tx.size ≤ 9223372036854775807
  | .dm, h => h.elim
  | .mk _ _ _ _ _ _ _ _ _ _ _ _ _ _, h => h.1.1
theorem Ex.At.ar {w : World} : ∀ {e : Ex}, e.At w → e.ar.size ≤ 9223372036854775807
  | .dm, h => h.elim
  | .mk _ _ _ _ _ _ _ _ _ _ _ _ _ _, h => h.1.2
theorem Ex.At.ty {w : World} : ∀ {e : Ex}, e.At w → e.ty.At w
  | .dm, h => h.elim
  | .mk _ _ _ _ _ _ _ _ _ _ _ _ _ _, h => h.2.1.1
theorem Ex.At.gv {w : World} : ∀ {e : Ex}, e.At w → e.gv.At w
  | .dm, h => h.elim
  | .mk _ _ _ _ _ _ _ _ _ _ _ _ _ _, h => h.2.1.2
theorem Ex.At.nil {w : World} : ∀ {e : Ex}, e.At w → 0 < e.len → e.ao = some ⟨e.b, e.o, none⟩
  | .dm, h => h.elim
  | .mk _ _ _ _ _ _ _ _ _ _ _ _ _ _, h => h.2.2.1
theorem Ex.At.bound {w : World} : ∀ {e : Ex}, e.At w → e.len ≤ 9223372036854775807
  | .dm, h => h.elim
  | .mk _ _ _ _ _ _ _ _ _ _ _ _ _ _, h => h.2.2.2.1
theorem Ex.At.cells {w : World} : ∀ {e : Ex}, e.At w → ∀ {i}, i < e.len → C17 w e.b (e.o + i * 17) (e.ps i)
  | .dm, h, _, _ => h.elim
  | .mk _ _ _ _ _ _ _ _ _ _ _ _ _ _, h, i, hi => (h.2.2.2.2 i hi).1
theorem Ex.At.part {w : World} : ∀ {e : Ex}, e.At w → ∀ {i}, i < e.len → (e.ps i).At w
  | .dm, h, _, _ => h.elim
  | .mk _ _ _ _ _ _ _ _ _ _ _ _ _ _, h, i, hi => (h.2.2.2.2 i hi).2
/-- How many nodes. -/
def Ex.nodes : Ex → Nat
  | .dm => 1
  | .mk _ _ _ _ _ _ _ _ _ _ len _ ps _ => 1 + sumTo (fun i => Ex.nodes (ps i)) len
/-- One node as another, the number of Parts too, places apart. -/
def Ex.like (a b : Ex) : Bool := ((((((a.k == b.k) && (a.n == b.n)) && (a.m == b.m)) && (a.tx == b.tx)) && (a.ar == b.ar)) && (a.ty.same b.ty && a.gv.same b.gv)) && (a.len == b.len)
/-- All alike, places apart. -/
def Ex.same : Ex → Ex → Bool
  | .dm, t => Ex.like .dm t
  | .mk k n m tx ar ty gv ao b o len cap ps pl, t => Ex.like (.mk k n m tx ar ty gv ao b o len cap ps pl) t && decide (∀ i, i < len → Ex.same (ps i) (t.ps i) = true)
/-- Its types, and all texts, are of a size that the statements look at. -/
def Ex.sm : Ex → Bool
  | .dm => true
  | .mk _ _ _ tx ar ty gv _ _ _ len _ ps _ => (((decide (ty.nodes ≤ 40) && decide (gv.nodes ≤ 40)) && decide (tx.size ≤ 1000)) && decide (ar.size ≤ 1000)) && decide (∀ i, i < len → Ex.sm (ps i) = true)
/-- How deep it nests. -/
def mxTo (f : Nat → Nat) : Nat → Nat
  | 0 => 0
  | k + 1 => max (mxTo f k) (f k)
def Ex.nest : Ex → Nat
  | .dm => 1
  | .mk _ _ _ _ _ _ _ _ _ _ len _ ps _ => 1 + mxTo (fun i => Ex.nest (ps i)) len
end Go.Proofs.YtjfijpiadfkmfaaGreatDoor

/- Layer 6: an expression's seventeen values as one letter; a new variable that holds them. -/
namespace Go.Proofs.YtjfijpiadfkmfaaGreatDoor
open Go.RowKit

/-- An expression's values, as a row. -/
def Ex.va (e : Ex) : Array Value := e.vs.toArray
theorem Ex.va_one (e : Ex) : e.va.all (·.oneCell') = true := ex_one e
theorem Ex.va_size (e : Ex) : e.va.size = 17 := rfl
theorem Ex.va_list (e : Ex) : e.va.toList = e.vs := rfl
theorem Ex.ind {P : Ex → Prop} (h : ∀ t : Ex, (∀ i, i < t.len → P (t.ps i)) → P t) : ∀ t, P t := by
  intro t
  induction t with
  | dm => exact h _ (fun i hi => absurd hi (Nat.not_lt_zero _))
  | mk k n m tx ar ty gv ao b o len cap ps pl ih => exact h _ (fun i _ => ih i)

theorem setCells_new (w : World) (t : TypeId) : ∀ (vs pre post : List Value), post.length = vs.length → (w.alloc (.cells (pre ++ post).toArray t)).setCells w.heap.size pre.length vs = w.alloc (.cells (pre ++ vs).toArray t)
  | [], pre, post, h => by
    have e : post = [] := List.eq_nil_of_length_eq_zero h
    subst e; rfl
  | v :: vs, pre, [], h => by simp at h
  | v :: vs, pre, p :: post, h => by
    rw [World.setCells, World.setCell_alloc_new]
    have e : ((pre ++ p :: post).toArray.setIfInBounds pre.length v) = ((pre ++ [v]) ++ post).toArray := by
      apply Array.toList_inj.1
      simp
    have h2 : post.length = vs.length := by simpa using h
    have k := setCells_new w t vs (pre ++ [v]) post h2
    rw [e]
    have e2 : (pre ++ [v]).length = pre.length + 1 := by simp
    rw [e2] at k
    rw [k]
    simp

/-- A new variable, filled at once. -/
theorem wpList_new_mid {ops : Array Oper} {rest : List Oper} {o1 o2 : Oper} {a : Act} {w : World} {Q : Exit → Act → World → Prop} (hg1 : o1.guard = none) (hg2 : o2.guard = none) (ty : TypeId) (h1 : o1.op = .alloc ty) (x y : Operand) (h2 : o2.op = .store ty x y)
    (zs : List Value) (hz : (Instr.alloc ty true (.tuple #[])).run Tryz.prog w = .ok (.pointer (some ⟨w.heap.size, 0, none⟩)) (w.alloc (.cells zs.toArray ty))) (hd2 : o2.dst = none)
    (cells : Array Value) (hx : (a.put o1.dst (.pointer (some ⟨w.heap.size, 0, none⟩))).eval x = .pointer (some ⟨w.heap.size, 0, none⟩)) (hy : (a.put o1.dst (.pointer (some ⟨w.heap.size, 0, none⟩))).eval y = .agg cells)
    (hl : zs.length = cells.size) (hi : (Tryz.prog.info? ty).map (·.size) = some cells.size) (hc : cells.all (·.oneCell') = true)
    (h : wpList Tryz.prog ops Q rest (a.put o1.dst (.pointer (some ⟨w.heap.size, 0, none⟩))) (w.alloc (.cells cells ty))) : wpList Tryz.prog ops Q (o1 :: o2 :: rest) a w := by
  refine wpList_plain hg1 fun _ hK => ?_
  unfold Oper.wp execOp
  simp only [h1, Sem.run_bind, hz, Result.andThen_ok, Sem.run_pure]
  refine hK _ _ ?_
  refine wpList_store_mid hg2 ty x y h2 w.heap.size 0 cells hx hy (fun j hj => ⟨?_, ?_⟩) hi hc ?_
  · have : j < zs.length := by omega
    show ((w.alloc (.cells zs.toArray ty)).cell? ⟨w.heap.size, 0 + j, none⟩).isSome = true
    simp [this]
  · simp
  · have k := setCells_new w ty cells.toList [] zs (by simpa using hl)
    simp only [List.nil_append, List.length_nil] at k
    rw [k, hd2]
    exact h

def zEx : List Value := [.int .i64 0, .int .i64 0, .int .i64 0, .string ⟨#[]⟩, .string ⟨#[]⟩, .int .i64 0, .int .i64 0, .slice none 0 0, .int .i64 0, .int .i64 0, .int .i64 0, .int .i64 0, .slice none 0 0, .int .i64 0, .int .i64 0, .slice none 0 0, .int .i64 0]
end Go.Proofs.YtjfijpiadfkmfaaGreatDoor
