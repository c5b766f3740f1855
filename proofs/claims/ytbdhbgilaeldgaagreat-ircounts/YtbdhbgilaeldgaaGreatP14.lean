/- Layer 6: walk.Deep, and syntax.Nest. -/
import Derived.Test.YtbdhbgilaeldgaaGreatP13
import Derived.Deep.AppendLies
import Derived.Deep.DeepCutAuto
import Derived.Test.YtbdhbgilaeldgaaGreatP12
import Derived.Deep.MidRow
import Derived.Test.YtbdhbgilaeldgaaGreatP2
namespace Go.Proofs.YtbdhbgilaeldgaaGreat
open Go.RowKit

def exv (e : Ex) : Value := .slice e.ao e.len e.cap
/-- A list of lists of expressions. -/
def LAt (w : World) (v : Value) (L : List Ex) : Prop := ∃ ao b o cap, v = .slice ao L.length cap ∧ (0 < L.length → ao = some ⟨b, o, none⟩) ∧ (∀ i e, L[i]? = some e → w.cell? ⟨b, o + i, none⟩ = some (exv e)) ∧ ∀ e ∈ L, e.At w ∧ e.Pl w ∧ 0 < e.len
theorem eown_lt {w : World} {base : Nat} {e : TypeId} {size : Nat} {v : Value} {n : Nat} {xs : List Value} (h : w.ownsRow base e size v n xs) {b : Nat} (hb : v.ownBlock = some b) : base ≤ b ∧ b < w.heap.size := by
  obtain ⟨_, ⟨rfl, _⟩ | ⟨g, cap, cur, rfl, hg, hh, _⟩⟩ := h
  · cases hb
  · have : g = b := by simpa [Value.ownBlock] using hb
    subst this
    exact ⟨hg, by rcases Nat.lt_or_ge g w.heap.size with h1 | h1; exact h1; rw [Array.getElem?_eq_none h1] at hh; cases hh⟩
theorem eown_blk {w w' : World} {base : Nat} {e : TypeId} {size : Nat} {v : Value} {n : Nat} {xs : List Value} (h : w.ownsRow base e size v n xs) (hb : ∀ b, v.ownBlock = some b → w'.heap[b]? = w.heap[b]?) : w'.ownsRow base e size v n xs := by
  obtain ⟨hl, h⟩ := h
  refine ⟨hl, ?_⟩
  rcases h with ⟨rfl, hn⟩ | ⟨g, cap, cur, rfl, hg, hh, hr⟩
  · exact Or.inl ⟨rfl, hn⟩
  · exact Or.inr ⟨g, cap, cur, rfl, hg, by rw [hb g rfl]; exact hh, hr⟩
theorem eown_up {w w' : World} {base : Nat} {e : TypeId} {size : Nat} {v : Value} {n : Nat} {xs : List Value} (h : w.ownsRow base e size v n xs) (hb : Below w.heap.size w w') : w'.ownsRow base e size v n xs :=
  eown_blk h fun b e => hb.block b (eown_lt h e).2
theorem eown_form {w : World} {base : Nat} {e : TypeId} {size : Nat} {v : Value} {n : Nat} {xs : List Value} (h : w.ownsRow base e size v n xs) : ∃ ao cap, v = .slice ao n cap := by
  obtain ⟨_, ⟨rfl, rfl⟩ | ⟨g, cap, cur, rfl, _⟩⟩ := h
  · exact ⟨none, 0, rfl⟩
  · exact ⟨_, cap, rfl⟩
theorem Keys.kept {w w' : World} {es : Array MapEntry} {ks : List (Addr × Nat)} (h : Keys w es ks) (hb : Below w.heap.size w w') : Keys w' es ks := ⟨h.keys, h.vals, fun k hk => (h.plain k hk).kept hb⟩
theorem eblock_lt {w : World} {k : Nat} {o : Obj} (h : w.heap[k]? = some o) : k < w.heap.size := by
  rcases Nat.lt_or_ge k w.heap.size with h1 | h1
  · exact h1
  · rw [Array.getElem?_eq_none h1] at h; cases h
theorem kids_pre {L : List Ex} {j q : Nat} {e : Ex} (he : L[j]? = some e) (hq : q < e.len) : nsum (kids (L.take j) ++ (List.range (q + 1)).map e.ps) ≤ nsum (kids L) := by
  have hj : j < L.length := by
    rcases Nat.lt_or_ge j L.length with h | h
    · exact h
    · rw [List.getElem?_eq_none h] at he; cases he
  have e1 : L = L.take j ++ e :: L.drop (j + 1) := by
    have h1 := (List.take_append_drop j L).symm
    have h2 : L.drop j = L[j] :: L.drop (j + 1) := List.drop_eq_getElem_cons hj
    have h3 : L[j] = e := by rw [List.getElem?_eq_getElem hj] at he; exact Option.some.inj he
    rw [h2, h3] at h1
    exact h1
  have e2 : kids L = kids (L.take j) ++ (kid e ++ kids (L.drop (j + 1))) := by
    conv => lhs; rw [e1]
    unfold kids
    rw [List.flatMap_append, List.flatMap_cons]
  have e3 : kid e = (List.range (q + 1)).map e.ps ++ ((List.range (e.len - (q + 1))).map (fun i => e.ps (q + 1 + i))) := by
    unfold kid
    conv => lhs; rw [show e.len = (q + 1) + (e.len - (q + 1)) by omega, List.range_add, List.map_append, List.map_map]
    rfl
  rw [e2, e3, nsum_append, nsum_append, nsum_append, nsum_append]
  omega
theorem kids_take {L : List Ex} {j : Nat} {e : Ex} (he : L[j]? = some e) : kids (L.take (j + 1)) = kids (L.take j) ++ (List.range e.len).map e.ps := by
  rw [List.take_add_one, he]
  unfold kids
  rw [List.flatMap_append]
  simp [kid]
/-- A list of this one alone. -/
def lone1 (B : Nat) (t : Ex) : Ex := .mk 0 0 0 ⟨#[]⟩ ⟨#[]⟩ (.mk 0 0 0 0 none 0 0 0 0 fun _ => .dm) (.mk 0 0 0 0 none 0 0 0 0 fun _ => .dm) (some ⟨B, 0, none⟩) B 0 1 1 (fun _ => t) 0
theorem lone1_at {w : World} {B : Nat} {t : Ex} (h : t.At w) (hc : C17 w B 0 t) : (lone1 B t).At w :=
  ⟨⟨by decide, by decide⟩, ⟨⟨fun h => absurd h (Nat.lt_irrefl 0), by decide, fun i hi => absurd hi (Nat.not_lt_zero _)⟩, ⟨fun h => absurd h (Nat.lt_irrefl 0), by decide, fun i hi => absurd hi (Nat.not_lt_zero _)⟩⟩, fun _ => rfl, by decide, fun i hi => by
    have : i = 0 := by omega
    subst this
    exact ⟨by simpa using hc, h⟩⟩
end Go.Proofs.YtbdhbgilaeldgaaGreat

/- Layer 6: lists of expressions that are written out; walk.Deep, syntax.Nest. -/
namespace Go.Proofs.YtbdhbgilaeldgaaGreat
open Go.RowKit

theorem fill1_ex (t : Ex) : Instr.fill (fun i => some (i * 17, 17)) (Array.map (fun x => zEx[x % zEx.length]?.getD default) (Array.range 17)) [(0, Value.agg t.va)] = some t.va := by kernel_rfl
theorem fill2_ex (s t : Ex) : Instr.fill (fun i => some (i * 17, 17)) (Array.map (fun x => zEx[x % zEx.length]?.getD default) (Array.range 34)) [(0, Value.agg s.va), (1, Value.agg t.va)] = some (s.va ++ t.va) := by kernel_rfl
theorem fill3_ex (r s t : Ex) : Instr.fill (fun i => some (i * 17, 17)) (Array.map (fun x => zEx[x % zEx.length]?.getD default) (Array.range 51)) [(0, Value.agg r.va), (1, Value.agg s.va), (2, Value.agg t.va)] = some (r.va ++ s.va ++ t.va) := by kernel_rfl
/-- A list that is written out, where its run is known. -/
theorem wpList_slice {ops : Array Oper} {rest : List Oper} {o : Oper} {a : Act} {w w' : World} {v : Value} {Q : Exit → Act → World → Prop} (hgd : o.guard = none) (t : TypeId) (n : Nat) (parts : Array (Nat × Operand)) (ho : o.op = .buildSlice t n parts) (vals : Array (Nat × Value)) (hv : (parts.map fun (i, x) => (i, a.eval x)) = vals)
    (hs : (Instr.buildSlice t n vals).run Tryz.prog w = .ok v w') (h : wpList Tryz.prog ops Q rest (a.put o.dst v) w') : wpList Tryz.prog ops Q (o :: rest) a w := by
  subst hv
  refine wpList_plain hgd fun _ hK => ?_
  unfold Oper.wp execOp
  simp only [ho, Sem.run_bind, hs, Result.andThen_ok, Sem.run_pure]
  exact hK _ _ h
theorem C17.ofB {w : World} {B : Nat} {e : Ex} (h : Bex w B e) : C17 w B 0 e := C17.of_range h.range
theorem plain_new (w : World) (c : Array Value) (t : TypeId) : PlainAt (w.alloc (.cells c t)) w.heap.size := ⟨c, t, heap_alloc_new _ _⟩
theorem LAt.kids_ne {w : World} {v : Value} {L : List Ex} (h : LAt w v L) (hl : 0 < L.length) : kids L ≠ [] := by
  obtain ⟨_, _, _, _, _, _, _, hA⟩ := h
  match L, hl with
  | e :: L, _ =>
    have h1 := (hA e (List.mem_cons_self ..)).2.2
    intro hq
    have : e.ps 0 ∈ kids (e :: L) := mem_kids.2 ⟨e, List.mem_cons_self .., mem_kid.2 ⟨0, h1, rfl⟩⟩
    rw [hq] at this
    cases this
theorem LAt.form {w : World} {v : Value} {L : List Ex} (h : LAt w v L) : ∃ ao cap, v = .slice ao L.length cap := by
  obtain ⟨ao, _, _, cap, h, _⟩ := h
  exact ⟨ao, cap, h⟩
theorem LAt.at {w : World} {v : Value} {L : List Ex} (h : LAt w v L) : ∀ e ∈ L, e.At w := by
  obtain ⟨_, _, _, _, _, _, _, hA⟩ := h
  exact fun e he => (hA e he).1
end Go.Proofs.YtbdhbgilaeldgaaGreat

/- Variables as whole blocks. -/
namespace Go.Proofs.YtbdhbgilaeldgaaGreat
open Go Go.RowKit

/-- A block that holds just these values, unmarked. -/
def Blk (w : World) (B : Nat) (c : List Value) (t : TypeId) : Prop := w.heap[B]? = some (.cells c.toArray t (0, 0))
theorem Blk.lt {w : World} {B : Nat} {c : List Value} {t : TypeId} (h : Blk w B c t) : B < w.heap.size := eblock_lt h
theorem Blk.kept {w w' : World} {B : Nat} {c : List Value} {t : TypeId} (h : Blk w B c t) (hb : Below w.heap.size w w') : Blk w' B c t := by
  unfold Blk; rw [hb.block B h.lt]; exact h
theorem Blk.cell {w : World} {B : Nat} {c : List Value} {t : TypeId} (h : Blk w B c t) (i : Nat) {v : Value} (hv : c[i]? = some v) : w.cell? ⟨B, i, none⟩ = some v := by
  unfold Blk at h
  simp [World.cell?, h, hv]
theorem Blk.frozen {w : World} {B : Nat} {c : List Value} {t : TypeId} (h : Blk w B c t) (i : Nat) : w.frozen? ⟨B, i, none⟩ = false := by
  unfold Blk at h
  simp [World.frozen?, h]
theorem Blk.there {w : World} {B : Nat} {c : List Value} {t : TypeId} (h : Blk w B c t) : w.there B 0 c.length := there_of h
theorem Blk.range {w : World} {B : Nat} {c : List Value} {t : TypeId} (h : Blk w B c t) : w.rangeAt B 0 c := fun j v hv => by rw [Nat.zero_add]; exact h.cell j hv
theorem Blk.new (w : World) (c : List Value) (t : TypeId) : Blk (w.alloc (.cells c.toArray t)) w.heap.size c t := heap_alloc_new _ _
theorem Blk.plain {w : World} {B : Nat} {c : List Value} {t : TypeId} (h : Blk w B c t) : PlainAt w B := ⟨_, _, h⟩
/-- One block written, all else as it was. -/
structure WroteB (w w' : World) (B : Nat) (c : List Value) (t : TypeId) : Prop where
  blk : Blk w' B c t
  other : ∀ b, b ≠ B → w'.heap[b]? = w.heap[b]?
  size : w'.heap.size = w.heap.size
  below : ∀ {B0 : Nat} {a : World}, B0 ≤ B → Below B0 a w → Below B0 a w'
theorem WroteB.keep {w w' : World} {B B' : Nat} {c c' : List Value} {t t' : TypeId} (h : WroteB w w' B c t) (hb : Blk w B' c' t') (hne : B' ≠ B) : Blk w' B' c' t' := by unfold Blk; rw [h.other _ hne]; exact hb
theorem setCells_heap (b : Nat) : ∀ (vs : List Value) (o : Nat) (w : World) (k : Nat), k ≠ b → (w.setCells b o vs).heap[k]? = w.heap[k]?
  | [], _, _, _, _ => rfl
  | v :: vs, o, w, k, h => by
    rw [World.setCells, setCells_heap b vs (o + 1) _ k h, Below.heap_setCell _ _ _ _ h]
theorem setCells_size (b : Nat) : ∀ (vs : List Value) (o : Nat) (w : World), (w.setCells b o vs).heap.size = w.heap.size
  | [], _, _ => rfl
  | v :: vs, o, w => by rw [World.setCells, setCells_size b vs (o + 1)]; simp [World.setCell]
theorem setCells_blk (t : TypeId) : ∀ (vs pre post : List Value) (w : World) (B : Nat), post.length = vs.length → Blk w B (pre ++ post) t → Blk (w.setCells B pre.length vs) B (pre ++ vs) t
  | [], pre, post, w, B, h, hb => by
    have e : post = [] := List.eq_nil_of_length_eq_zero h
    subst e; exact hb
  | v :: vs, pre, [], w, B, h, hb => by simp at h
  | v :: vs, pre, p :: post, w, B, h, hb => by
    rw [World.setCells]
    have h1 : Blk (w.setCell ⟨B, pre.length, none⟩ v) B ((pre ++ [v]) ++ post) t := by
      have hl := hb.lt
      unfold Blk at hb ⊢
      have e : ((pre ++ p :: post).toArray.setIfInBounds pre.length v) = ((pre ++ [v]) ++ post).toArray := by
        apply Array.toList_inj.1
        simp
      rw [← e]
      simp [World.setCell, Array.getElem?_modify, hb]
    have k := setCells_blk t vs (pre ++ [v]) post _ B (by simpa using h) h1
    rw [show (pre ++ [v]).length = pre.length + 1 by simp] at k
    simpa using k
theorem wrote_setCells {w : World} {B : Nat} {c : List Value} {t : TypeId} (h : Blk w B c t) (vs : List Value) (hl : c.length = vs.length) : WroteB w (w.setCells B 0 vs) B vs t :=
  ⟨setCells_blk t vs [] c w B hl (by simpa using h), fun b hb => setCells_heap _ _ _ _ _ hb, setCells_size _ _ _ _, fun hB hb => below_setCells hB _ _ _ hb⟩
/-- A value stored whole. -/
theorem wpList_store_blk {w : World} {ops : Array Oper} {rest : List Oper} {o : Oper} {a : Act} {Q : Exit → Act → World → Prop} (hgd : o.guard = none) (hdst : o.dst = none) (t : TypeId) (p x : Operand) (ho : o.op = .store t p x) (B : Nat) (vs : List Value)
    (hp : a.eval p = .pointer (some ⟨B, 0, none⟩)) (hx : a.eval x = .agg vs.toArray) (h1 : vs.all (·.oneCell') = true) {c : List Value} (hb : Blk w B c t) (hl : c.length = vs.length) (hi : (Tryz.prog.info? t).map (·.size) = some vs.toArray.size)
    (h : ∀ w', WroteB w w' B vs t → wpList Tryz.prog ops Q rest a w') : wpList Tryz.prog ops Q (o :: rest) a w := by
  refine wpList_store_mid hgd t p x ho B 0 vs.toArray hp hx ?_ hi (by simpa using h1) ?_
  · have := hb.there; rw [hl] at this; simpa using this
  · rw [hdst]
    exact h _ (wrote_setCells hb vs hl)
/-- Blocks made one behind the other. -/
theorem allocs_heap : ∀ (os : List Obj) (w : World) (i : Nat), i < os.length → (os.foldl World.alloc w).heap[w.heap.size + i]? = os[i]?
  | [], _, i, h => absurd h (Nat.not_lt_zero i)
  | o :: os, w, 0, _ => by
    show (os.foldl World.alloc (w.alloc o)).heap[w.heap.size + 0]? = some o
    have key : ∀ (os : List Obj) (w : World) (k : Nat), k < w.heap.size → (os.foldl World.alloc w).heap[k]? = w.heap[k]? := by
      intro os
      induction os with
      | nil => intro w k _; rfl
      | cons o os ih => intro w k hk; show (os.foldl World.alloc (w.alloc o)).heap[k]? = _; rw [ih _ k (by simp; omega), Below.heap_alloc _ _ _ hk]
    rw [Nat.add_zero, key os _ _ (by simp), heap_alloc_new]
  | o :: os, w, i + 1, h => by
    have := allocs_heap os (w.alloc o) i (by simpa using h)
    show (os.foldl World.alloc (w.alloc o)).heap[w.heap.size + (i + 1)]? = os[i]?
    rw [alloc_size] at this
    rw [← this, show w.heap.size + 1 + i = w.heap.size + (i + 1) by omega]
theorem allocs_below : ∀ (os : List Obj) (w : World), Below w.heap.size w (os.foldl World.alloc w)
  | [], _ => Below.refl _ _
  | o :: os, w => Below.next (below_alloc w o) (allocs_below os (w.alloc o))
theorem allocs_size : ∀ (os : List Obj) (w : World), (os.foldl World.alloc w).heap.size = w.heap.size + os.length
  | [], _ => rfl
  | o :: os, w => by
    show (os.foldl World.alloc (w.alloc o)).heap.size = _
    rw [allocs_size os, alloc_size]; simp; omega
end Go.Proofs.YtbdhbgilaeldgaaGreat

/- Layer 10: nodes and functions of slots, as they lie in memory; the check, as data. -/
namespace Go.Proofs.YtbdhbgilaeldgaaGreat
open Go Go.RowKit

/-- Numbers in a slice. -/
structure Is where
  ao : Option Addr
  b : Nat
  o : Nat
  len : Nat
  cap : Nat
  f : Nat → Int
structure Is.At (s : Is) (w : World) : Prop where
  nil : 0 < s.len → s.ao = some ⟨s.b, s.o, none⟩
  bound : s.len ≤ 9223372036854775807
  cell : ∀ i, i < s.len → w.cell? ⟨s.b, s.o + i, none⟩ = some (.int .i64 (s.f i))
theorem Is.At.kept {s : Is} {w w' : World} (h : s.At w) (hb : Below w.heap.size w w') : s.At w' := ⟨h.nil, h.bound, fun i hi => up hb (h.cell i hi)⟩
def Is.nl : Is := ⟨none, 0, 0, 0, 0, fun _ => 0⟩
theorem Is.nl_at (w : World) : Is.nl.At w := ⟨fun h => absurd h (Nat.lt_irrefl _), Nat.zero_le _, fun _ h => absurd h (Nat.not_lt_zero _)⟩

/-- What a node has beside nodes. -/
structure Hd where
  op : Int
  dst : Int
  a : Int
  b : Int
  n : Int
  env : Int
  t : Ty
  ar : Is
/-- A node: its head, and where its Body and its Else lie, and they. -/
inductive Nd where
  | dm : Nd
  | mk (h : Hd) (bao : Option Addr) (bb bo bl bc : Nat) (bp : Nat → Nd) (eao : Option Addr) (eb eo el ec : Nat) (ep : Nat → Nd) : Nd
/-- Nodes in a slice. -/
structure Ns where
  ao : Option Addr
  b : Nat
  o : Nat
  len : Nat
  cap : Nat
  ps : Nat → Nd
def Ns.nl : Ns := ⟨none, 0, 0, 0, 0, fun _ => .dm⟩
def Nd.h : Nd → Hd | .dm => ⟨0, 0, 0, 0, 0, 0, .dm, Is.nl⟩ | .mk h _ _ _ _ _ _ _ _ _ _ _ _ => h
def Nd.bd : Nd → Ns | .dm => Ns.nl | .mk _ bao bb bo bl bc bp _ _ _ _ _ _ => ⟨bao, bb, bo, bl, bc, bp⟩
def Nd.el : Nd → Ns | .dm => Ns.nl | .mk _ _ _ _ _ _ _ eao eb eo el ec ep => ⟨eao, eb, eo, el, ec, ep⟩
/-- A node's fourteen values. -/
def Nd.vs (n : Nd) : List Value := [.int .i64 n.h.op, .int .i64 n.h.dst, .int .i64 n.h.a, .int .i64 n.h.b, .int .i64 n.h.n, .int .i64 n.h.env, .int .i64 n.h.t.k, .int .i64 n.h.t.l, .slice n.h.t.ao n.h.t.len n.h.t.cap, .int .i64 n.h.t.h, .int .i64 n.h.t.e, .slice n.h.ar.ao n.h.ar.len n.h.ar.cap, .slice n.bd.ao n.bd.len n.bd.cap, .slice n.el.ao n.el.len n.el.cap]
def Nd.va (n : Nd) : Array Value := n.vs.toArray
theorem Nd.va_one (n : Nd) : n.vs.all (·.oneCell') = true := by simp [Nd.vs, Value.oneCell']
def Nd.At (w : World) : Nd → Prop
  | .dm => False
  | .mk h bao bb bo bl _ bp eao eb eo el _ ep => (h.t.At w ∧ h.ar.At w) ∧ ((0 < bl → bao = some ⟨bb, bo, none⟩) ∧ bl ≤ 9223372036854775807 ∧ ∀ i, i < bl → w.rangeAt bb (bo + i * 14) (bp i).vs ∧ Nd.At w (bp i)) ∧ ((0 < el → eao = some ⟨eb, eo, none⟩) ∧ el ≤ 9223372036854775807 ∧ ∀ i, i < el → w.rangeAt eb (eo + i * 14) (ep i).vs ∧ Nd.At w (ep i))
theorem rangeAt_kept {w w' : World} {b o : Nat} {vs : List Value} (h : w.rangeAt b o vs) (hb : Below w.heap.size w w') : w'.rangeAt b o vs := fun j v hv => up hb (h j v hv)
theorem Nd.At.kept {w w' : World} (hb : Below w.heap.size w w') : ∀ {n : Nd}, n.At w → n.At w'
  | .dm, h => h.elim
  | .mk _ _ _ _ _ _ _ _ _ _ _ _ _, h => ⟨⟨h.1.1.kept hb, h.1.2.kept hb⟩, ⟨h.2.1.1, h.2.1.2.1, fun i hi => ⟨rangeAt_kept (h.2.1.2.2 i hi).1 hb, Nd.At.kept hb (h.2.1.2.2 i hi).2⟩⟩, ⟨h.2.2.1, h.2.2.2.1, fun i hi => ⟨rangeAt_kept (h.2.2.2.2 i hi).1 hb, Nd.At.kept hb (h.2.2.2.2 i hi).2⟩⟩⟩
structure Ns.At (s : Ns) (w : World) : Prop where
  nil : 0 < s.len → s.ao = some ⟨s.b, s.o, none⟩
  bound : s.len ≤ 9223372036854775807
  cells : ∀ i, i < s.len → w.rangeAt s.b (s.o + i * 14) (s.ps i).vs
  part : ∀ i, i < s.len → (s.ps i).At w
theorem Ns.At.kept {s : Ns} {w w' : World} (h : s.At w) (hb : Below w.heap.size w w') : s.At w' := ⟨h.nil, h.bound, fun i hi => rangeAt_kept (h.cells i hi) hb, fun i hi => (h.part i hi).kept hb⟩
theorem Ns.nl_at (w : World) : Ns.nl.At w := ⟨fun h => absurd h (Nat.lt_irrefl _), Nat.zero_le _, fun _ h => absurd h (Nat.not_lt_zero _), fun _ h => absurd h (Nat.not_lt_zero _)⟩
theorem Nd.At.bd {w : World} : ∀ {n : Nd}, n.At w → n.bd.At w
  | .dm, h => h.elim
  | .mk _ _ _ _ _ _ _ _ _ _ _ _ _, h => ⟨h.2.1.1, h.2.1.2.1, fun i hi => (h.2.1.2.2 i hi).1, fun i hi => (h.2.1.2.2 i hi).2⟩
theorem Nd.At.el {w : World} : ∀ {n : Nd}, n.At w → n.el.At w
  | .dm, h => h.elim
  | .mk _ _ _ _ _ _ _ _ _ _ _ _ _, h => ⟨h.2.2.1, h.2.2.2.1, fun i hi => (h.2.2.2.2 i hi).1, fun i hi => (h.2.2.2.2 i hi).2⟩
theorem Nd.At.t {w : World} : ∀ {n : Nd}, n.At w → n.h.t.At w
  | .dm, h => h.elim
  | .mk _ _ _ _ _ _ _ _ _ _ _ _ _, h => h.1.1
theorem Nd.At.ar {w : World} : ∀ {n : Nd}, n.At w → n.h.ar.At w
  | .dm, h => h.elim
  | .mk _ _ _ _ _ _ _ _ _ _ _ _ _, h => h.1.2
theorem Nd.ind {P : Nd → Prop} (h : ∀ n : Nd, (∀ i, i < n.bd.len → P (n.bd.ps i)) → (∀ i, i < n.el.len → P (n.el.ps i)) → P n) : ∀ n, P n := by
  intro n
  induction n with
  | dm => exact h _ (fun i hi => absurd hi (Nat.not_lt_zero _)) (fun i hi => absurd hi (Nat.not_lt_zero _))
  | mk hd bao bb bo bl bc bp eao eb eo el ec ep ih1 ih2 => exact h _ (fun i _ => ih1 i) (fun i _ => ih2 i)

/-- A function; slots and Caps by a type whose Parts they are. -/
structure Fc where
  param : Ty
  result : Ty
  caps : Ty
  heap : Int
  exc : Int
  slots : Ty
  body : Ns
  out : Int
def Fc.vs (f : Fc) : List Value := [.int .i64 f.param.k, .int .i64 f.param.l, .slice f.param.ao f.param.len f.param.cap, .int .i64 f.param.h, .int .i64 f.param.e, .int .i64 f.result.k, .int .i64 f.result.l, .slice f.result.ao f.result.len f.result.cap, .int .i64 f.result.h, .int .i64 f.result.e, .slice f.caps.ao f.caps.len f.caps.cap, .int .i64 f.heap, .int .i64 f.exc, .slice f.slots.ao f.slots.len f.slots.cap, .slice f.body.ao f.body.len f.body.cap, .int .i64 f.out]
def Fc.va (f : Fc) : Array Value := f.vs.toArray
theorem Fc.va_one (f : Fc) : f.vs.all (·.oneCell') = true := by simp [Fc.vs, Value.oneCell']
structure Fc.At (f : Fc) (w : World) : Prop where
  param : f.param.At w
  result : f.result.At w
  caps : f.caps.At w
  slots : f.slots.At w
  body : f.body.At w
  lc : f.slots.len ≤ f.slots.cap
theorem Fc.At.kept {f : Fc} {w w' : World} (h : f.At w) (hb : Below w.heap.size w w') : f.At w' := ⟨h.param.kept hb, h.result.kept hb, h.caps.kept hb, h.slots.kept hb, h.body.kept hb, h.lc⟩
/-- Functions in a slice. -/
structure Fl where
  ao : Option Addr
  b : Nat
  o : Nat
  len : Nat
  cap : Nat
  ps : Nat → Fc
structure Fl.At (s : Fl) (w : World) : Prop where
  nil : 0 < s.len → s.ao = some ⟨s.b, s.o, none⟩
  bound : s.len ≤ 9223372036854775807
  cells : ∀ i, i < s.len → w.rangeAt s.b (s.o + i * 16) (s.ps i).vs
  part : ∀ i, i < s.len → (s.ps i).At w
theorem Fl.At.kept {s : Fl} {w w' : World} (h : s.At w) (hb : Below w.heap.size w w') : s.At w' := ⟨h.nil, h.bound, fun i hi => rangeAt_kept (h.cells i hi) hb, fun i hi => (h.part i hi).kept hb⟩

/-- A judge. -/
structure Jd where
  n : Strs
  g : Grid
  bot : Int
  fns : Fl
  f : Fc
def Jd.vs (j : Jd) : List Value := .slice j.n.ao j.n.len j.n.cap :: .slice j.g.ao j.g.len j.g.cap :: .int .i64 j.bot :: .slice j.fns.ao j.fns.len j.fns.cap :: j.f.vs
def Jd.va (j : Jd) : Array Value := j.vs.toArray
theorem Jd.va_one (j : Jd) : j.vs.all (·.oneCell') = true := by simp [Jd.vs, Fc.vs, Value.oneCell']
structure Jd.At (j : Jd) (w : World) : Prop where
  n : j.n.At w
  g : j.g.At w
  fns : j.fns.At w
  f : j.f.At w
theorem Jd.At.kept {j : Jd} {w w' : World} (h : j.At w) (hb : Below w.heap.size w w') : j.At w' := ⟨h.n.kept hb, h.g.kept hb, h.fns.kept hb, h.f.kept hb⟩
/-- A shape: a lattice, how many functions, one of them. -/
def shV (n : Strs) (g : Grid) (many : Int) (f : Fc) : List Value := .slice n.ao n.len n.cap :: .slice g.ao g.len g.cap :: .int .i64 many :: f.vs

/-- A state. -/
structure Sta where
  at_ : Int
  x : Int
  set : Nat → Bool
  gone : Bool
def Sta.vs (s : Sta) : List Value := .int .i64 s.at_ :: .int .i64 s.x :: ((List.range 250).map (fun i => Value.bool (s.set i)) ++ [.bool s.gone])
def Sta.va (s : Sta) : Array Value := s.vs.toArray
theorem Sta.va_one (s : Sta) : s.vs.all (·.oneCell') = true := by simp [Sta.vs, Value.oneCell']
theorem Sta.len (s : Sta) : s.vs.length = 253 := by simp [Sta.vs]
theorem Sta.v0 (s : Sta) : s.vs[0]? = some (.int .i64 s.at_) := rfl
theorem Sta.v1 (s : Sta) : s.vs[1]? = some (.int .i64 s.x) := rfl
theorem Sta.v2 (s : Sta) {i : Nat} (h : i < 250) : s.vs[2 + i]? = some (.bool (s.set i)) := by
  rw [Nat.add_comm 2 i]
  show ((List.range 250).map (fun i => Value.bool (s.set i)) ++ [.bool s.gone])[i]? = _
  rw [List.getElem?_append_left (by simpa using h)]
  simp [h]
theorem Sta.v252 (s : Sta) : s.vs[252]? = some (.bool s.gone) := by
  show ((List.range 250).map (fun i => Value.bool (s.set i)) ++ [.bool s.gone])[250]? = _
  rw [List.getElem?_append_right (by simp)]
  simp
def upd (f : Nat → Bool) (i : Nat) : Nat → Bool := fun j => if j = i then true else f j
theorem Sta.put2 (s : Sta) {i : Nat} (h : i < 250) : s.vs.set (2 + i) (.bool true) = ({ s with set := upd s.set i } : Sta).vs := by
  rw [Nat.add_comm 2 i]
  show Value.int .i64 s.at_ :: Value.int .i64 s.x :: (((List.range 250).map (fun i => Value.bool (s.set i)) ++ [Value.bool s.gone]).set i (Value.bool true)) = _
  unfold Sta.vs
  congr 2
  apply List.ext_getElem?
  intro j
  rw [List.getElem?_set]
  by_cases hj : j < 250
  · rw [List.getElem?_append_left (by simpa using hj), List.getElem?_append_left (by simpa using hj)]
    by_cases e : i = j
    · subst e; simp [hj, upd]; omega
    · have : j ≠ i := fun h => e h.symm
      simp [e, hj, upd, this]
  · have e : i ≠ j := by omega
    rw [if_neg e, List.getElem?_append_right (by simp; omega), List.getElem?_append_right (by simp; omega)]
    simp
theorem Sta.put0 (s : Sta) (v : Int) : s.vs.set 0 (.int .i64 v) = ({ s with at_ := v } : Sta).vs := rfl
theorem Sta.put1 (s : Sta) (v : Int) : s.vs.set 1 (.int .i64 v) = ({ s with x := v } : Sta).vs := rfl
def Sta.zero : Sta := ⟨0, 0, fun _ => false, false⟩

/-- The check, as data. -/
def mk2 (k l h e : Int) (p q : Ty) : Ty := .mk k l h e none 0 0 2 2 (fun i => if i = 0 then p else q)
def mk1 (k l : Int) (p : Ty) : Ty := .mk k l 0 0 none 0 0 1 1 (fun _ => p)
def sigT (n : Strs) (g : Grid) (f : Fc) : Ty := raiseT n g (mk2 4 (botI n g) f.heap f.exc f.param f.result) (botI n g)
def Jd.read (j : Jd) (nd : Nd) (i : Int) : Ty := raiseT j.n j.g (j.f.slots.ps i.toNat) nd.h.env
def Jd.reck (j : Jd) (nd : Nd) : Ty × Int :=
  if (((j.read nd nd.h.a).k != 1) || ((j.read nd nd.h.b).k != 1)) = true then (leafT 0 0, -1)
  else (leafT (if nd.h.n = 11 ∨ nd.h.n = 12 then 2 else 1) (bothI j.n j.g (j.read nd nd.h.a).l (j.read nd nd.h.b).l), if nd.h.n = 9 ∨ nd.h.n = 10 then (j.read nd nd.h.b).l else -1)
def Jd.side (j : Jd) (nd : Nd) (i : Nat) : Ty := if ((j.read nd nd.h.a).k != 3) = true then leafT 0 0 else raiseT j.n j.g ((j.read nd nd.h.a).ps i) (j.read nd nd.h.a).l
def Jd.closed (j : Jd) (nd : Nd) : Ty :=
  if nd.h.ar.len = (j.fns.ps nd.h.n.toNat).caps.len ∧ ∀ i, i < nd.h.ar.len → belB j.n j.g (j.read nd (nd.h.ar.f i)) ((j.fns.ps nd.h.n.toNat).caps.ps i) = true then sigT j.n j.g (j.fns.ps nd.h.n.toNat) else leafT 0 0
def Jd.called (j : Jd) (nd : Nd) : Ty × Int :=
  if ((j.read nd nd.h.a).k != 4 || !(belB j.n j.g (j.read nd nd.h.b) ((j.read nd nd.h.a).ps 0)) || !(leqB j.n j.g (j.read nd nd.h.a).l (j.read nd nd.h.a).h && leqB j.n j.g j.f.heap (j.read nd nd.h.a).h)) = true then (leafT 0 0, -1)
  else (raiseT j.n j.g ((j.read nd nd.h.a).ps 1) (j.read nd nd.h.a).l, if (j.read nd nd.h.a).e = -1 then -1 else bothI j.n j.g (j.read nd nd.h.a).e (j.read nd nd.h.a).l)
def Jd.cell (j : Jd) (nd : Nd) : Ty := if belB j.n j.g (j.read nd nd.h.a) nd.h.t = true then mk1 5 j.bot nd.h.t else leafT 0 0
def Jd.held (j : Jd) (nd : Nd) : Ty := if ((j.read nd nd.h.a).k != 5) = true then leafT 0 0 else raiseT j.n j.g ((j.read nd nd.h.a).ps 0) (j.read nd nd.h.a).l
def onlyT (k : Int) (t : Ty) : Ty := if (t.k != k) = true then leafT 0 0 else t
def Jd.makes (j : Jd) (nd : Nd) : Ty × Int :=
  if nd.h.op = 1 then (leafT 1 j.bot, -1) else if nd.h.op = 2 then (leafT 2 j.bot, -1) else if nd.h.op = 3 then (j.read nd nd.h.a, -1) else if nd.h.op = 4 then j.reck nd
  else if nd.h.op = 5 then (onlyT 2 (j.read nd nd.h.a), -1) else if nd.h.op = 6 then (mk2 3 j.bot 0 0 (j.read nd nd.h.a) (j.read nd nd.h.b), -1) else if nd.h.op = 7 then (j.side nd 0, -1) else if nd.h.op = 8 then (j.side nd 1, -1)
  else if nd.h.op = 9 then (j.closed nd, -1) else if nd.h.op = 10 then (sigT j.n j.g j.f, -1) else if nd.h.op = 11 then j.called nd else if nd.h.op = 12 then (j.cell nd, -1) else (j.held nd, -1)
/-- The slots that a node reads. -/
def Hd.rds (h : Hd) : List Int :=
  if h.op = 3 ∨ h.op = 5 ∨ h.op = 7 ∨ h.op = 8 ∨ h.op = 12 ∨ h.op = 13 ∨ h.op = 15 ∨ h.op = 16 ∨ h.op = 18 then [h.a]
  else if h.op = 4 ∨ h.op = 6 ∨ h.op = 11 ∨ h.op = 14 then [h.a, h.b]
  else if h.op = 9 then (List.range h.ar.len).map h.ar.f else []
def Hd.wrs (h : Hd) : Bool := !((h.op == 14) || (h.op == 15) || (h.op == 16) || (h.op == 18))
def Jd.pre (j : Jd) (nd : Nd) (s : Sta) : Bool := (!s.gone && leqB j.n j.g s.at_ nd.h.env) && nd.h.rds.all (fun i => s.set i.toNat)
def Jd.make (j : Jd) (nd : Nd) (s : Sta) : Option Sta :=
  if belB j.n j.g (raiseT j.n j.g (j.makes nd).1 (bothI j.n j.g nd.h.env (j.makes nd).2)) (j.f.slots.ps nd.h.dst.toNat) = true
  then some ⟨bothI j.n j.g s.at_ (j.makes nd).2, bothI j.n j.g s.x (j.makes nd).2, upd s.set nd.h.dst.toNat, s.gone⟩ else none
def Jd.sets (j : Jd) (nd : Nd) : Bool := ((j.read nd nd.h.a).k == 5) && (belB j.n j.g (j.read nd nd.h.b) ((j.read nd nd.h.a).ps 0) && (leqB j.n j.g (j.read nd nd.h.a).l ((j.read nd nd.h.a).ps 0).l && leqB j.n j.g j.f.heap ((j.read nd nd.h.a).ps 0).l))
def Jd.tells (j : Jd) (nd : Nd) : Bool := ((j.read nd nd.h.a).k == 1) && (leqB j.n j.g (j.read nd nd.h.a).l nd.h.n && leqB j.n j.g j.f.heap nd.h.n)
def setBoth (a b : Sta) : Nat → Bool := if a.gone = true then b.set else if b.gone = true then a.set else fun i => a.set i && b.set i
def Jd.junc (j : Jd) (s a b : Sta) (x : Int) : Sta := ⟨bothI j.n j.g s.at_ x, bothI j.n j.g s.x x, setBoth a b, a.gone && b.gone⟩
def runTo (f : Nat → Sta → Option Sta) : Nat → Sta → Option Sta
  | 0, s => some s
  | k + 1, s => (runTo f k s).bind (f k)
/-- A node gone through. -/
def Nd.run (j : Jd) : Nd → Sta → Option Sta
  | .dm => fun _ => none
  | .mk h bao bb bo bl bc bp eao eb eo el ec ep => fun s =>
    if j.pre (.mk h bao bb bo bl bc bp eao eb eo el ec ep) s = false then none
    else if h.op = 14 then (if j.sets (.mk h bao bb bo bl bc bp eao eb eo el ec ep) = true then some s else none)
    else if h.op = 15 then (if j.tells (.mk h bao bb bo bl bc bp eao eb eo el ec ep) = true then some s else none)
    else if h.op = 16 then
      (if (j.read (.mk h bao bb bo bl bc bp eao eb eo el ec ep) h.a).k = 2 then
        (runTo (fun i => Nd.run j (bp i)) bl ⟨bothI j.n j.g s.at_ (j.read (.mk h bao bb bo bl bc bp eao eb eo el ec ep) h.a).l, -1, s.set, false⟩).bind fun a =>
        (runTo (fun i => Nd.run j (ep i)) el ⟨bothI j.n j.g s.at_ (j.read (.mk h bao bb bo bl bc bp eao eb eo el ec ep) h.a).l, -1, s.set, false⟩).bind fun b =>
        some (j.junc s a b (bothI j.n j.g a.x b.x)) else none)
    else if h.op = 17 then
      ((runTo (fun i => Nd.run j (bp i)) bl ⟨s.at_, -1, s.set, false⟩).bind fun a =>
        (runTo (fun i => Nd.run j (ep i)) el ⟨bothI j.n j.g s.at_ a.x, -1, upd s.set h.dst.toNat, false⟩).bind fun b =>
        if belB j.n j.g (leafT 1 (bothI j.n j.g s.at_ a.x)) (j.f.slots.ps h.dst.toNat) = true then some (j.junc s a b b.x) else none)
    else if h.op = 18 then (if (j.read (.mk h bao bb bo bl bc bp eao eb eo el ec ep) h.a).k = 1 then some { s with x := bothI j.n j.g s.x (j.read (.mk h bao bb bo bl bc bp eao eb eo el ec ep) h.a).l, gone := true } else none)
    else j.make (.mk h bao bb bo bl bc bp eao eb eo el ec ep) s
def Jd.list (j : Jd) (b : Ns) (s : Sta) : Option Sta := runTo (fun i => (b.ps i).run j) b.len s
def Jd.ends (j : Jd) (s : Sta) : Bool :=
  if ((s.x != -1) && !(leqB j.n j.g s.x j.f.exc)) = true then false
  else if (s.gone || j.f.out == -1) = true then (s.gone && j.f.out == -1)
  else s.set j.f.out.toNat && belB j.n j.g (raiseT j.n j.g (j.f.slots.ps j.f.out.toNat) s.at_) j.f.result
def Jd.start (j : Jd) : Sta := ⟨j.bot, -1, fun i => decide (i < 1 + j.f.caps.len), false⟩
def Jd.right (j : Jd) : Bool := match j.list j.f.body j.start with | none => false | some s => j.ends s
end Go.Proofs.YtbdhbgilaeldgaaGreat

/- Layer 10: the small calls of the check. -/
namespace Go.Proofs.YtbdhbgilaeldgaaGreat
open Go Go.RowKit

def wthB (a m : Int) : Bool := decide (0 ≤ a) && decide (a < m)
set_option maxHeartbeats 1000000 in
theorem within_any (a m : Int) (w : World) : Calls Tryz.prog 77 #[.int .i64 a, .int .i64 m] w fun e w' => e = .returned (.bool (wthB a m)) ∧ Below w.heap.size w w' := by
  by_cases h : 0 ≤ a
  · have HE : Hid (wthB a m = decide (a < m)) := by show wthB a m = _; unfold wthB; simp [h]
    go_enter Tryz.func77, Tryz.ntmps77
    go_wp2
    go_ret
    exact ⟨ret_bool HE.out.symm, Below.refl _ _⟩
  · have HE : Hid (wthB a m = false) := by show wthB a m = _; unfold wthB; simp [h]
    go_enter Tryz.func77, Tryz.ntmps77
    go_wp2
    go_ret
    exact ⟨ret_bool HE.out.symm, Below.refl _ _⟩

set_option maxRecDepth 100000 in
set_option maxHeartbeats 1000000 in
theorem both_any (j : Jd) (a b : Int) (w : World) (hn : j.n.At w) (hg : j.g.At w) : Calls Tryz.prog 97 #[.agg j.va, .int .i64 a, .int .i64 b] w fun e w' => e = .returned (.int .i64 (bothI j.n j.g a b)) ∧ Below w.heap.size w w' := by
  have B0 := below_alloc w (.cells j.va 61)
  have bJ : Blk (w.alloc (.cells j.va 61)) w.heap.size j.vs 61 := Blk.new w _ _
  have c0 := bJ.cell 0 (v := .slice j.n.ao j.n.len j.n.cap) rfl
  have c1 := bJ.cell 1 (v := .slice j.g.ao j.g.len j.g.cap) rfl
  have h := Both_any j.n j.g a b _ (hn.kept B0) (hg.kept B0)
  clear bJ
  go_enter Tryz.func97, Tryz.ntmps97
  go_wp2_with fail
  refine h.mono ?_
  rintro _ w1 ⟨rfl, hb1⟩
  go_wp2
  go_ret
  exact ⟨rfl, Below.next B0 hb1⟩

set_option maxRecDepth 100000 in
set_option maxHeartbeats 1000000 in
theorem jplain_any (j : Jd) (k : Int) (w : World) : Calls Tryz.prog 120 #[.agg j.va, .int .i64 k] w fun e w' => e = .returned (.agg (leafT k j.bot).vs.toArray) ∧ Below w.heap.size w w' := by
  have H := allocs_heap [.cells j.va 61, .cells #[.int .i64 0, .int .i64 0, .slice none 0 0, .int .i64 0, .int .i64 0] 38] w
  have B0 := allocs_below [.cells j.va 61, .cells #[.int .i64 0, .int .i64 0, .slice none 0 0, .int .i64 0, .int .i64 0] 38] w
  simp only [List.foldl] at H B0
  have bJ : Blk _ w.heap.size j.vs 61 := H 0 (by simp)
  have bZ : Blk _ (w.heap.size + 1) [.int .i64 0, .int .i64 0, .slice none 0 0, .int .i64 0, .int .i64 0] 38 := H 1 (by simp)
  have c2 := bJ.cell 2 (v := .int .i64 j.bot) rfl
  clear H bJ
  go_enter Tryz.func120, Tryz.ntmps120
  go_wp2_with (refine wpList_store_blk rfl rfl 38 (.tmp 4) (.tmp 8) rfl (w.heap.size + 1) (leafT k j.bot).vs (by kernel_rfl) (by kernel_rfl) rfl bZ rfl (by kernel_rfl) ?_; intro w2 W2)
  have z0 := W2.blk.cell 0 rfl
  have z1 := W2.blk.cell 1 rfl
  have z2 := W2.blk.cell 2 rfl
  have z3 := W2.blk.cell 3 rfl
  have z4 := W2.blk.cell 4 rfl
  go_wp2
  exact bodyPost_ret (v := .agg (leafT k j.bot).vs.toArray) (by simp [results, Tryz.results120, go_sem, z0, z1, z2, z3, z4, Ty.vs]) rfl ⟨rfl, W2.below (by omega) B0⟩
end Go.Proofs.YtbdhbgilaeldgaaGreat

/- Layer 10: writes, reads, has, below, slots. -/
namespace Go.Proofs.YtbdhbgilaeldgaaGreat
open Go Go.RowKit

set_option maxRecDepth 100000 in
set_option maxHeartbeats 2000000 in
theorem writes_any (nd : Nd) (w : World) : Calls Tryz.prog 78 #[.agg nd.va] w fun e w' => e = .returned (.bool nd.h.wrs) ∧ Below w.heap.size w w' := by
  have B0 := below_alloc w (.cells nd.va 44)
  have bN : Blk (w.alloc (.cells nd.va 44)) w.heap.size nd.vs 44 := Blk.new w _ _
  have c0 := bN.cell 0 (v := .int .i64 nd.h.op) rfl
  clear bN
  have HE : Hid (nd.h.wrs = !((nd.h.op == 14) || (nd.h.op == 15) || (nd.h.op == 16) || (nd.h.op == 18))) := by show _ = _; rfl
  generalize nd.h.wrs = r at HE ⊢
  generalize nd.h.op = op at HE c0
  cases e1 : (op == 14)
  · cases e2 : (op == 15)
    · cases e3 : (op == 16)
      · cases e4 : (op == 18)
        all_goals
          go_enter Tryz.func78, Tryz.ntmps78
          go_wp2
          go_ret
          exact ⟨ret_bool (by rw [HE.out, e1, e2, e3, e4]; rfl), B0⟩
      · go_enter Tryz.func78, Tryz.ntmps78
        go_wp2
        go_ret
        exact ⟨ret_bool (by rw [HE.out, e1, e2, e3]; rfl), B0⟩
    · go_enter Tryz.func78, Tryz.ntmps78
      go_wp2
      go_ret
      exact ⟨ret_bool (by rw [HE.out, e1, e2]; rfl), B0⟩
  · go_enter Tryz.func78, Tryz.ntmps78
    go_wp2
    go_ret
    exact ⟨ret_bool (by rw [HE.out, e1]; rfl), B0⟩

/-- Numbers that lie in a slice. -/
def IAt (w : World) (v : Value) (l : List Int) : Prop := ∃ (ao : Option Addr) (b o cap : Nat), v = .slice ao l.length cap ∧ (0 < l.length → ao = some ⟨b, o, none⟩) ∧ l.length ≤ 9223372036854775807 ∧ ∀ i x, l[i]? = some x → w.cell? ⟨b, o + i, none⟩ = some (.int .i64 x)
theorem IAt.kept {w w' : World} {v : Value} {l : List Int} (h : IAt w v l) (hb : Below w.heap.size w w') : IAt w' v l := by
  obtain ⟨ao, b, o, cap, h1, h2, h3, h4⟩ := h
  exact ⟨ao, b, o, cap, h1, h2, h3, fun i x hx => up hb (h4 i x hx)⟩
theorem IAt.blk {w : World} {B : Nat} {l : List Int} {t : TypeId} (h : Blk w B (l.map (Value.int .i64)) t) (hl : l.length ≤ 1000) : IAt w (.slice (some ⟨B, 0, none⟩) l.length l.length) l :=
  ⟨_, B, 0, _, rfl, fun _ => rfl, by omega, fun i x hx => by rw [Nat.zero_add]; exact h.cell i (by simp [hx])⟩
theorem IAt.nil (w : World) (cap : Nat) : IAt w (.slice none 0 cap) [] := ⟨none, 0, 0, cap, rfl, fun h => absurd h (Nat.lt_irrefl _), Nat.zero_le _, fun i x hx => by simp at hx⟩
theorem IAt.is {w : World} {s : Is} (h : s.At w) : IAt w (.slice s.ao s.len s.cap) ((List.range s.len).map s.f) :=
  ⟨s.ao, s.b, s.o, s.cap, by simp, fun h0 => h.nil (by simpa using h0), by simpa using h.bound, fun i x hx => by
    have hi : i < s.len := by
      rcases Nat.lt_or_ge i s.len with h1 | h1
      · exact h1
      · rw [List.getElem?_eq_none (by simpa using h1)] at hx; cases hx
    simp [hi] at hx
    subst hx
    exact h.cell i hi⟩

set_option maxRecDepth 100000 in
set_option maxHeartbeats 2000000 in
theorem jbelow_any (j : Jd) (bound : Int) (l : List Int) (v : Value) (w : World) (hn : j.n.At w) (hg : j.g.At w) (hl : IAt w v l) : Calls Tryz.prog 63 #[.agg j.va, .int .i64 bound, v] w fun e w' => e = .returned (.bool (l.all fun a => leqB j.n j.g a bound)) ∧ Below w.heap.size w w' := by
  obtain ⟨ao, b, o, cap, rfl, hnil, hbd, hcell⟩ := hl
  have B0 := below_alloc w (.cells j.va 61)
  have HI : Hid (Below w.heap.size w (w.alloc (.cells j.va 61)) ∧ Blk (w.alloc (.cells j.va 61)) w.heap.size j.vs 61) := ⟨B0, Blk.new w _ _⟩
  have HC : Hid (j.n.At w ∧ j.g.At w ∧ ∀ i x, l[i]? = some x → w.cell? ⟨b, o + i, none⟩ = some (.int .i64 x)) := ⟨hn, hg, hcell⟩
  clear B0 hn hg hcell
  go_enter Tryz.func63, Tryz.ntmps63
  go_wp2
  go_loopw [11] (fun i wr => ∃ k : Nat, k ≤ l.length ∧ i = .int .i64 k ∧ (l.take k).all (fun a => leqB j.n j.g a bound) = true ∧ Below w.heap.size w wr ∧ Blk wr w.heap.size j.vs 61) (fun i _ => l.length - (intOf i).toNat)
  case atStart => exact ⟨0, Nat.zero_le _, rfl, by simp, HI.out⟩
  case round =>
    clear HI
    obtain ⟨k, hk, rfl, hall, hb, bJ⟩ := hrel
    have HA : Hid ((l.take k).all (fun a => leqB j.n j.g a bound) = true) := hall
    have HI : Hid (Below w.heap.size w wr ∧ Blk wr w.heap.size j.vs 61) := ⟨hb, bJ⟩
    clear hall hb
    by_cases hlt : k < l.length
    · have ij : (k : Int) < l.length := by omega
      obtain ⟨x, hx⟩ : ∃ x, l[k]? = some x := ⟨_, List.getElem?_eq_getElem hlt⟩
      have a0 := hnil (by omega)
      subst a0
      have c0 := up HI.out.1 (HC.out.2.2 k x hx)
      have d0 := bJ.cell 0 (v := .slice j.n.ao j.n.len j.n.cap) rfl
      have d1 := bJ.cell 1 (v := .slice j.g.ao j.g.len j.g.cap) rfl
      have HX : Hid (l[k]? = some x) := hx
      clear bJ hx
      go_wp2_with fail
      refine (leq_any j.n j.g x bound wr (HC.out.1.kept HI.out.1) (HC.out.2.1.kept HI.out.1)).mono ?_
      rintro _ w1 ⟨rfl, hb1⟩
      clear c0 d0 d1
      cases hq : leqB j.n j.g x bound
      · go_wp2
        go_ret
        refine ⟨ret_bool ?_, Below.next HI.out.1 hb1⟩
        symm
        rw [List.all_eq_false]
        exact ⟨x, List.mem_of_getElem? HX.out, by rw [hq]; simp⟩
      · go_wp2
        go_roundw
        case rel => exact ⟨k + 1, by omega, by go_num, by rw [List.take_add_one, HX.out]; simp [hq]; simpa using HA.out, Below.next HI.out.1 hb1, HI.out.2.kept hb1⟩
        case measure => simp [intOf]; omega
    · have e2 : k = l.length := by omega
      subst e2
      have d : ¬ (l.length : Int) < l.length := by omega
      clear bJ
      go_wp2
      go_ret
      exact ⟨ret_bool (by have := HA.out; rw [List.take_length] at this; exact this.symm), HI.out.1⟩

set_option maxRecDepth 100000 in
set_option maxHeartbeats 2000000 in
theorem stHas_any (s : Sta) (l : List Int) (v : Value) (w : World) (hl : IAt w v l) (h250 : ∀ x, x ∈ l → 0 ≤ x ∧ x < 250) : Calls Tryz.prog 64 #[.agg s.va, v] w fun e w' => e = .returned (.bool (l.all fun i => s.set i.toNat)) ∧ Below w.heap.size w w' := by
  obtain ⟨ao, b, o, cap, rfl, hnil, hbd, hcell⟩ := hl
  have B0 := below_alloc w (.cells s.va 83)
  have HI : Hid (Below w.heap.size w (w.alloc (.cells s.va 83)) ∧ Blk (w.alloc (.cells s.va 83)) w.heap.size s.vs 83) := ⟨B0, Blk.new w _ _⟩
  have HC : Hid (∀ i x, l[i]? = some x → w.cell? ⟨b, o + i, none⟩ = some (.int .i64 x)) := hcell
  clear B0 hcell
  go_enter Tryz.func64, Tryz.ntmps64
  go_wp2
  go_loopw [9] (fun i wr => ∃ k : Nat, k ≤ l.length ∧ i = .int .i64 k ∧ (l.take k).all (fun i => s.set i.toNat) = true ∧ Below w.heap.size w wr ∧ Blk wr w.heap.size s.vs 83) (fun i _ => l.length - (intOf i).toNat)
  case atStart => exact ⟨0, Nat.zero_le _, rfl, by simp, HI.out⟩
  case round =>
    clear HI
    obtain ⟨k, hk, rfl, hall, hb, bS⟩ := hrel
    have HA : Hid ((l.take k).all (fun i => s.set i.toNat) = true) := hall
    have HI : Hid (Below w.heap.size w wr ∧ Blk wr w.heap.size s.vs 83) := ⟨hb, bS⟩
    clear hall hb
    by_cases hlt : k < l.length
    · have ij : (k : Int) < l.length := by omega
      obtain ⟨x, hx⟩ : ∃ x, l[k]? = some x := ⟨_, List.getElem?_eq_getElem hlt⟩
      have a0 := hnil (by omega)
      subst a0
      have c0 := up HI.out.1 (HC.out k x hx)
      obtain ⟨x0, x1⟩ := h250 x (List.mem_of_getElem? hx)
      have HX : Hid (l[k]? = some x) := hx
      obtain ⟨y, rfl⟩ : ∃ y : Nat, x = y := ⟨x.toNat, by omega⟩
      have x2 : y < 250 := by omega
      have d0 := bS.cell (2 + y) (s.v2 x2)
      clear bS hx h250
      cases hq : s.set y
      · rw [hq] at d0
        go_wp2
        go_ret
        refine ⟨ret_bool ?_, HI.out.1⟩
        symm
        rw [List.all_eq_false]
        exact ⟨y, List.mem_of_getElem? HX.out, by simp [hq]⟩
      · rw [hq] at d0
        go_wp2
        go_roundw
        case rel => exact ⟨k + 1, by omega, by go_num, by rw [List.take_add_one, HX.out]; simp [hq]; simpa using HA.out, HI.out⟩
        case measure => simp [intOf]; omega
    · have e2 : k = l.length := by omega
      subst e2
      have d : ¬ (l.length : Int) < l.length := by omega
      clear bS
      go_wp2
      go_ret
      exact ⟨ret_bool (by have := HA.out; rw [List.take_length] at this; exact this.symm), HI.out.1⟩
end Go.Proofs.YtbdhbgilaeldgaaGreat
