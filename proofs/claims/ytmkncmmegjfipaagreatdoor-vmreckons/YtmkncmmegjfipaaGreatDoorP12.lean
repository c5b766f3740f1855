/- Layer 6: walk.Deep, and syntax.Nest. -/
import Derived.Test.YtmkncmmegjfipaaGreatDoorP11
import Derived.Deep.AppendLies
import Derived.Deep.DeepCutAuto
import Derived.Test.YtmkncmmegjfipaaGreatDoorP7
import Derived.Laws.AppendOwnNone
namespace Go.Proofs.YtmkncmmegjfipaaGreatDoor
open Go.RowKit

def exv (e : Ex) : Value := .slice e.ao e.len e.cap
/-- A list of lists of expressions. -/
def LAt (w : World) (v : Value) (L : List Ex) : Prop := ∃ ao b o cap, v = .slice ao L.length cap ∧ (0 < L.length → ao = some ⟨b, o, none⟩) ∧ (∀ i e, L[i]? = some e → w.cell? ⟨b, o + i, none⟩ = some (exv e)) ∧ ∀ e ∈ L, e.At w ∧ e.Pl w ∧ 0 < e.len
theorem eown_lt {w : World} {base : Nat} {e : TypeId} {size : Nat} {v : Value} {n : Nat} {xs : List Value} (h : w.ownsRow base e size v n xs) {b : Nat} (hb : v.ownBlock = some b) : base ≤ b ∧ b < w.heap.size := by
  obtain ⟨_, ⟨rfl, _⟩ | ⟨g, cap, cur, rfl, hg, hh, _⟩⟩ := h
  · cases hb
  · have : g = b := by simpa [Value.ownBlock] using hb
    subst this
    exact ⟨hg, by rcases Nat.lt_or_ge g w.heap.size with h1 | h1; exact h1; rw [Array.getElem?_eq_none h1] at hh; cases hh⟩
theorem eown_blk {w w' : World} {base : Nat} {e : TypeId} {size : Nat} {v : Value} {n : Nat} {xs : List Value} (h : w.ownsRow base e size v n xs) (hb : ∀ b, v.ownBlock = some b → w'.heap[b]? = w.heap[b]?) : w'.ownsRow base e size v n xs := by
  obtain ⟨hl, h⟩ := h
  refine ⟨hl, ?_⟩
  rcases h with ⟨rfl, hn⟩ | ⟨g, cap, cur, rfl, hg, hh, hr⟩
  · exact Or.inl ⟨rfl, hn⟩
  · exact Or.inr ⟨g, cap, cur, rfl, hg, by rw [hb g rfl]; exact hh, hr⟩
theorem eown_up {w w' : World} {base : Nat} {e : TypeId} {size : Nat} {v : Value} {n : Nat} {xs : List Value} (h : w.ownsRow base e size v n xs) (hb : Below w.heap.size w w') : w'.ownsRow base e size v n xs :=
  eown_blk h fun b e => hb.block b (eown_lt h e).2
theorem eown_form {w : World} {base : Nat} {e : TypeId} {size : Nat} {v : Value} {n : Nat} {xs : List Value} (h : w.ownsRow base e size v n xs) : ∃ ao cap, v = .slice ao n cap := by
  obtain ⟨_, ⟨rfl, rfl⟩ | ⟨g, cap, cur, rfl, _⟩⟩ := h
  · exact ⟨none, 0, rfl⟩
  · exact ⟨_, cap, rfl⟩
theorem Keys.kept {w w' : World} {es : Array MapEntry} {ks : List (Addr × Nat)} (h : Keys w es ks) (hb : Below w.heap.size w w') : Keys w' es ks := ⟨h.keys, h.vals, fun k hk => (h.plain k hk).kept hb⟩
theorem eblock_lt {w : World} {k : Nat} {o : Obj} (h : w.heap[k]? = some o) : k < w.heap.size := by
  rcases Nat.lt_or_ge k w.heap.size with h1 | h1
  · exact h1
  · rw [Array.getElem?_eq_none h1] at h; cases h
theorem kids_pre {L : List Ex} {j q : Nat} {e : Ex} (he : L[j]? = some e) (hq : q < e.len) : nsum (kids (L.take j) ++ (List.range (q + 1)).map e.ps) ≤ nsum (kids L) := by
  have hj : j < L.length := by
    rcases Nat.lt_or_ge j L.length with h | h
    · exact h
    · rw [List.getElem?_eq_none h] at he; cases he
  have e1 : L = L.take j ++ e :: L.drop (j + 1) := by
    have h1 := (List.take_append_drop j L).symm
    have h2 : L.drop j = L[j] :: L.drop (j + 1) := List.drop_eq_getElem_cons hj
    have h3 : L[j] = e := by rw [List.getElem?_eq_getElem hj] at he; exact Option.some.inj he
    rw [h2, h3] at h1
    exact h1
  have e2 : kids L = kids (L.take j) ++ (kid e ++ kids (L.drop (j + 1))) := by
    conv => lhs; rw [e1]
    unfold kids
    rw [List.flatMap_append, List.flatMap_cons]
  have e3 : kid e = (List.range (q + 1)).map e.ps ++ ((List.range (e.len - (q + 1))).map (fun i => e.ps (q + 1 + i))) := by
    unfold kid
    conv => lhs; rw [show e.len = (q + 1) + (e.len - (q + 1)) by omega, List.range_add, List.map_append, List.map_map]
    rfl
  rw [e2, e3, nsum_append, nsum_append, nsum_append, nsum_append]
  omega
theorem kids_take {L : List Ex} {j : Nat} {e : Ex} (he : L[j]? = some e) : kids (L.take (j + 1)) = kids (L.take j) ++ (List.range e.len).map e.ps := by
  rw [List.take_add_one, he]
  unfold kids
  rw [List.flatMap_append]
  simp [kid]
/-- A list of this one alone. -/
def lone1 (B : Nat) (t : Ex) : Ex := .mk 0 0 0 ⟨#[]⟩ ⟨#[]⟩ (.mk 0 0 0 0 none 0 0 0 0 fun _ => .dm) (.mk 0 0 0 0 none 0 0 0 0 fun _ => .dm) (some ⟨B, 0, none⟩) B 0 1 1 (fun _ => t) 0
theorem lone1_at {w : World} {B : Nat} {t : Ex} (h : t.At w) (hc : C17 w B 0 t) : (lone1 B t).At w :=
  ⟨⟨by decide, by decide⟩, ⟨⟨fun h => absurd h (Nat.lt_irrefl 0), by decide, fun i hi => absurd hi (Nat.not_lt_zero _)⟩, ⟨fun h => absurd h (Nat.lt_irrefl 0), by decide, fun i hi => absurd hi (Nat.not_lt_zero _)⟩⟩, fun _ => rfl, by decide, fun i hi => by
    have : i = 0 := by omega
    subst this
    exact ⟨by simpa using hc, h⟩⟩
end Go.Proofs.YtmkncmmegjfipaaGreatDoor

/- Layer 6: lists of expressions that are written out; walk.Deep, syntax.Nest. -/
namespace Go.Proofs.YtmkncmmegjfipaaGreatDoor
open Go.RowKit

theorem fill1_ex (t : Ex) : Instr.fill (fun i => some (i * 17, 17)) (Array.map (fun x => zEx[x % zEx.length]?.getD default) (Array.range 17)) [(0, Value.agg t.va)] = some t.va := by kernel_rfl
theorem fill2_ex (s t : Ex) : Instr.fill (fun i => some (i * 17, 17)) (Array.map (fun x => zEx[x % zEx.length]?.getD default) (Array.range 34)) [(0, Value.agg s.va), (1, Value.agg t.va)] = some (s.va ++ t.va) := by kernel_rfl
theorem fill3_ex (r s t : Ex) : Instr.fill (fun i => some (i * 17, 17)) (Array.map (fun x => zEx[x % zEx.length]?.getD default) (Array.range 51)) [(0, Value.agg r.va), (1, Value.agg s.va), (2, Value.agg t.va)] = some (r.va ++ s.va ++ t.va) := by kernel_rfl
/-- A list that is written out, where its run is known. -/
theorem wpList_slice {ops : Array Oper} {rest : List Oper} {o : Oper} {a : Act} {w w' : World} {v : Value} {Q : Exit → Act → World → Prop} (hgd : o.guard = none) (t : TypeId) (n : Nat) (parts : Array (Nat × Operand)) (ho : o.op = .buildSlice t n parts) (vals : Array (Nat × Value)) (hv : (parts.map fun (i, x) => (i, a.eval x)) = vals)
    (hs : (Instr.buildSlice t n vals).run Tryz.prog w = .ok v w') (h : wpList Tryz.prog ops Q rest (a.put o.dst v) w') : wpList Tryz.prog ops Q (o :: rest) a w := by
  subst hv
  refine wpList_plain hgd fun _ hK => ?_
  unfold Oper.wp execOp
  simp only [ho, Sem.run_bind, hs, Result.andThen_ok, Sem.run_pure]
  exact hK _ _ h
theorem C17.ofB {w : World} {B : Nat} {e : Ex} (h : Bex w B e) : C17 w B 0 e := C17.of_range h.range
theorem plain_new (w : World) (c : Array Value) (t : TypeId) : PlainAt (w.alloc (.cells c t)) w.heap.size := ⟨c, t, heap_alloc_new _ _⟩
theorem LAt.kids_ne {w : World} {v : Value} {L : List Ex} (h : LAt w v L) (hl : 0 < L.length) : kids L ≠ [] := by
  obtain ⟨_, _, _, _, _, _, _, hA⟩ := h
  match L, hl with
  | e :: L, _ =>
    have h1 := (hA e (List.mem_cons_self ..)).2.2
    intro hq
    have : e.ps 0 ∈ kids (e :: L) := mem_kids.2 ⟨e, List.mem_cons_self .., mem_kid.2 ⟨0, h1, rfl⟩⟩
    rw [hq] at this
    cases this
theorem LAt.form {w : World} {v : Value} {L : List Ex} (h : LAt w v L) : ∃ ao cap, v = .slice ao L.length cap := by
  obtain ⟨ao, _, _, cap, h, _⟩ := h
  exact ⟨ao, cap, h⟩
theorem LAt.at {w : World} {v : Value} {L : List Ex} (h : LAt w v L) : ∀ e ∈ L, e.At w := by
  obtain ⟨_, _, _, _, _, _, _, hA⟩ := h
  exact fun e he => (hA e he).1
end Go.Proofs.YtmkncmmegjfipaaGreatDoor

/- Variables as whole blocks. -/
namespace Go.Proofs.YtmkncmmegjfipaaGreatDoor
open Go Go.RowKit

/-- A block that holds just these values, unmarked. -/
def Blk (w : World) (B : Nat) (c : List Value) (t : TypeId) : Prop := w.heap[B]? = some (.cells c.toArray t (0, 0))
theorem Blk.lt {w : World} {B : Nat} {c : List Value} {t : TypeId} (h : Blk w B c t) : B < w.heap.size := eblock_lt h
theorem Blk.kept {w w' : World} {B : Nat} {c : List Value} {t : TypeId} (h : Blk w B c t) (hb : Below w.heap.size w w') : Blk w' B c t := by
  unfold Blk; rw [hb.block B h.lt]; exact h
theorem Blk.cell {w : World} {B : Nat} {c : List Value} {t : TypeId} (h : Blk w B c t) (i : Nat) {v : Value} (hv : c[i]? = some v) : w.cell? ⟨B, i, none⟩ = some v := by
  unfold Blk at h
  simp [World.cell?, h, hv]
theorem Blk.frozen {w : World} {B : Nat} {c : List Value} {t : TypeId} (h : Blk w B c t) (i : Nat) : w.frozen? ⟨B, i, none⟩ = false := by
  unfold Blk at h
  simp [World.frozen?, h]
theorem Blk.there {w : World} {B : Nat} {c : List Value} {t : TypeId} (h : Blk w B c t) : w.there B 0 c.length := there_of h
theorem Blk.range {w : World} {B : Nat} {c : List Value} {t : TypeId} (h : Blk w B c t) : w.rangeAt B 0 c := fun j v hv => by rw [Nat.zero_add]; exact h.cell j hv
theorem Blk.new (w : World) (c : List Value) (t : TypeId) : Blk (w.alloc (.cells c.toArray t)) w.heap.size c t := heap_alloc_new _ _
theorem Blk.plain {w : World} {B : Nat} {c : List Value} {t : TypeId} (h : Blk w B c t) : PlainAt w B := ⟨_, _, h⟩
/-- One block written, all else as it was. -/
structure WroteB (w w' : World) (B : Nat) (c : List Value) (t : TypeId) : Prop where
  blk : Blk w' B c t
  other : ∀ b, b ≠ B → w'.heap[b]? = w.heap[b]?
  size : w'.heap.size = w.heap.size
  below : ∀ {B0 : Nat} {a : World}, B0 ≤ B → Below B0 a w → Below B0 a w'
theorem WroteB.keep {w w' : World} {B B' : Nat} {c c' : List Value} {t t' : TypeId} (h : WroteB w w' B c t) (hb : Blk w B' c' t') (hne : B' ≠ B) : Blk w' B' c' t' := by unfold Blk; rw [h.other _ hne]; exact hb
theorem setCells_heap (b : Nat) : ∀ (vs : List Value) (o : Nat) (w : World) (k : Nat), k ≠ b → (w.setCells b o vs).heap[k]? = w.heap[k]?
  | [], _, _, _, _ => rfl
  | v :: vs, o, w, k, h => by
    rw [World.setCells, setCells_heap b vs (o + 1) _ k h, Below.heap_setCell _ _ _ _ h]
theorem setCells_size (b : Nat) : ∀ (vs : List Value) (o : Nat) (w : World), (w.setCells b o vs).heap.size = w.heap.size
  | [], _, _ => rfl
  | v :: vs, o, w => by rw [World.setCells, setCells_size b vs (o + 1)]; simp [World.setCell]
theorem setCells_blk (t : TypeId) : ∀ (vs pre post : List Value) (w : World) (B : Nat), post.length = vs.length → Blk w B (pre ++ post) t → Blk (w.setCells B pre.length vs) B (pre ++ vs) t
  | [], pre, post, w, B, h, hb => by
    have e : post = [] := List.eq_nil_of_length_eq_zero h
    subst e; exact hb
  | v :: vs, pre, [], w, B, h, hb => by simp at h
  | v :: vs, pre, p :: post, w, B, h, hb => by
    rw [World.setCells]
    have h1 : Blk (w.setCell ⟨B, pre.length, none⟩ v) B ((pre ++ [v]) ++ post) t := by
      have hl := hb.lt
      unfold Blk at hb ⊢
      have e : ((pre ++ p :: post).toArray.setIfInBounds pre.length v) = ((pre ++ [v]) ++ post).toArray := by
        apply Array.toList_inj.1
        simp
      rw [← e]
      simp [World.setCell, Array.getElem?_modify, hb]
    have k := setCells_blk t vs (pre ++ [v]) post _ B (by simpa using h) h1
    rw [show (pre ++ [v]).length = pre.length + 1 by simp] at k
    simpa using k
theorem wrote_setCells {w : World} {B : Nat} {c : List Value} {t : TypeId} (h : Blk w B c t) (vs : List Value) (hl : c.length = vs.length) : WroteB w (w.setCells B 0 vs) B vs t :=
  ⟨setCells_blk t vs [] c w B hl (by simpa using h), fun b hb => setCells_heap _ _ _ _ _ hb, setCells_size _ _ _ _, fun hB hb => below_setCells hB _ _ _ hb⟩
/-- A value stored whole. -/
theorem wpList_store_blk {w : World} {ops : Array Oper} {rest : List Oper} {o : Oper} {a : Act} {Q : Exit → Act → World → Prop} (hgd : o.guard = none) (hdst : o.dst = none) (t : TypeId) (p x : Operand) (ho : o.op = .store t p x) (B : Nat) (vs : List Value)
    (hp : a.eval p = .pointer (some ⟨B, 0, none⟩)) (hx : a.eval x = .agg vs.toArray) (h1 : vs.all (·.oneCell') = true) {c : List Value} (hb : Blk w B c t) (hl : c.length = vs.length) (hi : (Tryz.prog.info? t).map (·.size) = some vs.toArray.size)
    (h : ∀ w', WroteB w w' B vs t → wpList Tryz.prog ops Q rest a w') : wpList Tryz.prog ops Q (o :: rest) a w := by
  refine wpList_store_mid hgd t p x ho B 0 vs.toArray hp hx ?_ hi (by simpa using h1) ?_
  · have := hb.there; rw [hl] at this; simpa using this
  · rw [hdst]
    exact h _ (wrote_setCells hb vs hl)
/-- Blocks made one behind the other. -/
theorem allocs_heap : ∀ (os : List Obj) (w : World) (i : Nat), i < os.length → (os.foldl World.alloc w).heap[w.heap.size + i]? = os[i]?
  | [], _, i, h => absurd h (Nat.not_lt_zero i)
  | o :: os, w, 0, _ => by
    show (os.foldl World.alloc (w.alloc o)).heap[w.heap.size + 0]? = some o
    have key : ∀ (os : List Obj) (w : World) (k : Nat), k < w.heap.size → (os.foldl World.alloc w).heap[k]? = w.heap[k]? := by
      intro os
      induction os with
      | nil => intro w k _; rfl
      | cons o os ih => intro w k hk; show (os.foldl World.alloc (w.alloc o)).heap[k]? = _; rw [ih _ k (by simp; omega), Below.heap_alloc _ _ _ hk]
    rw [Nat.add_zero, key os _ _ (by simp), heap_alloc_new]
  | o :: os, w, i + 1, h => by
    have := allocs_heap os (w.alloc o) i (by simpa using h)
    show (os.foldl World.alloc (w.alloc o)).heap[w.heap.size + (i + 1)]? = os[i]?
    rw [alloc_size] at this
    rw [← this, show w.heap.size + 1 + i = w.heap.size + (i + 1) by omega]
theorem allocs_below : ∀ (os : List Obj) (w : World), Below w.heap.size w (os.foldl World.alloc w)
  | [], _ => Below.refl _ _
  | o :: os, w => Below.next (below_alloc w o) (allocs_below os (w.alloc o))
theorem allocs_size : ∀ (os : List Obj) (w : World), (os.foldl World.alloc w).heap.size = w.heap.size + os.length
  | [], _ => rfl
  | o :: os, w => by
    show (os.foldl World.alloc (w.alloc o)).heap.size = _
    rw [allocs_size os, alloc_size]; simp; omega
end Go.Proofs.YtmkncmmegjfipaaGreatDoor

/- Rows put one behind the other, of whatever struct. -/
namespace Go.Proofs.YtmkncmmegjfipaaGreatDoor
open Go.RowKit

theorem gbr (w : World) (r : Option Nat) : w.grownBy w r := ⟨rfl, rfl, rfl, Nat.le_refl _, fun _ _ _ => rfl⟩
theorem gb_bel {w0 a b : World} {r : Option Nat} (h : Below w0.heap.size w0 a) (hg : a.grownBy b r) (hr : ∀ k, r = some k → w0.heap.size ≤ k) : Below w0.heap.size w0 b := by
  have hs := h.size
  refine ⟨hg.os.trans h.os, hg.tape.trans h.tape, hg.output.trans h.output, Nat.le_trans h.size hg.size, fun k hk => ?_⟩
  rw [hg.block k (by omega) (fun e => by have := hr k e.symm; omega)]
  exact h.block k hk
theorem owb {w : World} {base : Nat} {e : TypeId} {size : Nat} {v : Value} {n : Nat} {xs : List Value} (h : w.ownsRow base e size v n xs) {k : Nat} (hb : v.ownBlock = some k) : base ≤ k ∧ k < w.heap.size := by
  obtain ⟨_, ⟨rfl, _⟩ | ⟨g, cap, cur, rfl, hg, hh, _⟩⟩ := h
  · cases hb
  · have : g = k := by simpa [Value.ownBlock] using hb
    subst this
    exact ⟨hg, (Array.getElem?_eq_some_iff.1 hh).1⟩
theorem owk {w w' : World} {base : Nat} {e : TypeId} {size : Nat} {v : Value} {n : Nat} {xs : List Value} (h : w.ownsRow base e size v n xs) (hb : Below w.heap.size w w') : w'.ownsRow base e size v n xs := by
  have hl := fun k hk => (owb h (k := k) hk).2
  obtain ⟨h0, h⟩ := h
  refine ⟨h0, ?_⟩
  rcases h with ⟨rfl, hn⟩ | ⟨g, cap, cur, rfl, hg, hh, hr⟩
  · exact Or.inl ⟨rfl, hn⟩
  · exact Or.inr ⟨g, cap, cur, rfl, hg, (hb.block g (hl g rfl)).trans hh, hr⟩
theorem owform {w : World} {base : Nat} {e : TypeId} {size : Nat} {v : Value} {n : Nat} {xs : List Value} (h : w.ownsRow base e size v n xs) : ∃ ao cap, v = .slice ao n cap := by
  obtain ⟨_, ⟨rfl, rfl⟩ | ⟨g, cap, cur, rfl, _⟩⟩ := h
  · exact ⟨none, 0, rfl⟩
  · exact ⟨_, cap, rfl⟩

theorem run_append_any {S E : TypeId} {size bytes : Nat} {z : Value} (hu : Tryz.prog.underlying S = some (.slice E)) (hinf : (Tryz.prog.info? E).map (fun i => (i.zero, i.size, i.bytes)) = some (some z, size, bytes)) (hzc : z.cells.size = size) (hpos : 0 < size) (w : World) (ty : TypeId) (base : Nat) (v : Value) (n : Nat) (xs : List Value) (ho : w.ownsRow base E size v n xs) (ao : Option Addr) (m c : Nat) (news : List Value) (hnone : ao = none → m = 0 ∧ c = 0) (hl : news.length = m * size) (hn : ∀ a, ao = some a → ∀ j u, news[j]? = some u → w.cell? (a.add j) = some u) (h1 : ∀ u ∈ news, u.oneCell' = true) (h63 : n + m ≤ maxLen) (hbytes : (n + m) * bytes ≤ 140737488355328) (hb : base ≤ w.heap.size) :
    ∃ v' w', (Builtin.append_ #[S, S] ty #[v, .slice ao m c]).run Tryz.prog w = .ok v' w' ∧ w'.ownsRow base E size v' (n + m) (xs ++ news) ∧ w.grownBy w' v.ownBlock := by
  obtain ⟨i0, hi, hz0, hz1, hz2⟩ := info_parts hinf
  cases ao with
  | none =>
    obtain ⟨rfl, rfl⟩ := hnone rfl
    have hl0 : news = [] := List.eq_nil_of_length_eq_zero (by rw [hl]; omega)
    subst hl0
    refine ⟨v, w, ?_, ?_, gbr _ _⟩
    · exact run_append_owned_none (P := Tryz.prog) w base S ty E i0 size hu hi v n xs ho
    · rw [List.append_nil]; exact ho
  | some a =>
    obtain ⟨v', w', hr, h2, h3, _⟩ := run_append_own (P := Tryz.prog) w base S ty E i0 z size bytes hu hi hz0 hz1 hz2 hzc hpos v n xs ho a m c news hl (hn a rfl) h1 h63 hbytes hb
    exact ⟨v', w', hr, h2, h3⟩
theorem wpList_append_any {S E : TypeId} {size bytes : Nat} {z : Value} (hu : Tryz.prog.underlying S = some (.slice E)) (hinf : (Tryz.prog.info? E).map (fun i => (i.zero, i.size, i.bytes)) = some (some z, size, bytes)) (hzc : z.cells.size = size) (hpos : 0 < size) {w : World} {ops : Array Oper} {rest : List Oper} {o : Oper} {a : Act} {Q : Exit → Act → World → Prop} (hgd : o.guard = none) (s x : Operand)
    (hop : o.op = .call { callee := .builtin .append, args := #[s, x], argTypes := #[S, S] }) (base : Nat) (v : Value) (n : Nat) (xs : List Value) (hs : a.eval s = v) (ho : w.ownsRow base E size v n xs) (ao : Option Addr) (m c : Nat) (news : List Value) (hx : a.eval x = .slice ao m c) (hnone : ao = none → m = 0 ∧ c = 0) (hl : news.length = m * size) (hn : ∀ a, ao = some a → ∀ j u, news[j]? = some u → w.cell? (a.add j) = some u) (h1 : ∀ u ∈ news, u.oneCell' = true) (h63 : n + m ≤ maxLen) (hbytes : (n + m) * bytes ≤ 140737488355328) (hb : base ≤ w.heap.size)
    (h : ∀ v' w', w'.ownsRow base E size v' (n + m) (xs ++ news) → w.grownBy w' v.ownBlock → wpList Tryz.prog ops Q rest (a.put o.dst v') w') : wpList Tryz.prog ops Q (o :: rest) a w := by
  refine wpList_plain hgd fun K hK => ?_
  obtain ⟨v', w', hr, h2, h3⟩ := run_append_any hu hinf hzc hpos w o.type base v n xs ho ao m c news hnone hl hn h1 h63 hbytes hb
  unfold Oper.wp execOp
  simp only [hop, resolve, invoke, builtin, Sem.run_bind, Sem.run_pure, Result.andThen_ok, List.map_toArray, List.map_cons, List.map_nil, hs, hx, hr]
  exact hK _ _ (h v' w' h2 h3)

/-- One behind the other. -/
def flatN (f : Nat → List Value) : Nat → List Value
  | 0 => []
  | k + 1 => flatN f k ++ f k
theorem flatN_len {f : Nat → List Value} {c : Nat} (h : ∀ i, (f i).length = c) : ∀ k, (flatN f k).length = k * c
  | 0 => by simp [flatN]
  | k + 1 => by
    show (flatN f k ++ f k).length = _
    rw [List.length_append, flatN_len h k, h, Nat.add_mul, Nat.one_mul]
theorem flatN_get {f : Nat → List Value} {c : Nat} (h : ∀ i, (f i).length = c) : ∀ k i j, i < k → j < c → (flatN f k)[i * c + j]? = (f i)[j]?
  | 0, i, _, hi, _ => absurd hi (Nat.not_lt_zero _)
  | k + 1, i, j, hi, hj => by
    show (flatN f k ++ f k)[i * c + j]? = _
    have hl := flatN_len h k
    by_cases e : i = k
    · subst e
      rw [List.getElem?_append_right (by rw [hl]; omega), hl]
      congr 1; omega
    · have h2 : i * c + j < k * c := by
        have : (i + 1) * c ≤ k * c := Nat.mul_le_mul_right c (by omega)
        rw [Nat.add_mul, Nat.one_mul] at this
        omega
      rw [List.getElem?_append_left (by rw [hl]; exact h2)]
      exact flatN_get h k i j (by omega) hj
theorem flatN_app (f h : Nat → List Value) (a : Nat) : ∀ b, flatN (fun i => if i < a then f i else h (i - a)) (a + b) = flatN f a ++ flatN h b
  | 0 => by
    rw [Nat.add_zero]
    show _ = flatN f a ++ []
    rw [List.append_nil]
    have key : ∀ k, k ≤ a → flatN (fun i => if i < a then f i else h (i - a)) k = flatN f k := fun k => by
      induction k with
      | zero => intro _; rfl
      | succ k ih =>
        intro hk
        show flatN _ k ++ _ = flatN f k ++ f k
        rw [ih (by omega)]
        simp only [if_pos (show k < a by omega)]
    exact key a (Nat.le_refl _)
  | b + 1 => by
    show flatN _ (a + b) ++ (if a + b < a then f (a + b) else h (a + b - a)) = flatN f a ++ (flatN h b ++ h b)
    rw [flatN_app f h a b, List.append_assoc, if_neg (show ¬ a + b < a by omega), show a + b - a = b by omega]
theorem flatN_mem {f : Nat → List Value} {u : Value} : ∀ k, u ∈ flatN f k → ∃ i, i < k ∧ u ∈ f i
  | 0, h => by cases h
  | k + 1, h => by
    rcases List.mem_append.1 h with h | h
    · obtain ⟨i, hi, hu⟩ := flatN_mem k h
      exact ⟨i, by omega, hu⟩
    · exact ⟨k, by omega, h⟩
theorem adp (b off i : Nat) : (⟨b, off, none⟩ : Addr).add i = ⟨b, off + i, none⟩ := by unfold Addr.add; split <;> simp_all
theorem flatN_cell {f : Nat → List Value} {c : Nat} (h : ∀ i, (f i).length = c) (hc : 0 < c) {w : World} {b o : Nat} {k : Nat} (hr : ∀ i, i < k → w.rangeAt b (o + i * c) (f i)) : ∀ j u, (flatN f k)[j]? = some u → w.cell? ((⟨b, o, none⟩ : Addr).add j) = some u := by
  intro j u hj
  have hlt : j < k * c := by rw [← flatN_len h k]; exact (List.getElem?_eq_some_iff.1 hj).1
  have hi : j / c < k := Nat.div_lt_of_lt_mul (by rw [Nat.mul_comm]; exact hlt)
  have hm : j % c < c := Nat.mod_lt _ hc
  have e : j = j / c * c + j % c := by rw [Nat.mul_comm]; exact (Nat.div_add_mod j c).symm
  rw [e, flatN_get h k _ _ hi hm] at hj
  have := hr (j / c) hi (j % c) u hj
  rw [adp, show o + j = o + j / c * c + j % c by omega]
  exact this
end Go.Proofs.YtmkncmmegjfipaaGreatDoor

/- Layers 15 and 16: ways, what is come to, joins: plain, no program. -/
namespace Go.Proofs.YtmkncmmegjfipaaGreatDoor
namespace Fl

/-- Come to from these places, by ways, never at the stop. -/
inductive Rch (W : Nat → Nat → Prop) (F : Nat → Prop) (s : Int) : Nat → Prop
  | base {p : Nat} : F p → (p : Int) ≠ s → Rch W F s p
  | step {p q : Nat} : Rch W F s p → W p q → (q : Int) ≠ s → Rch W F s q
theorem Rch.ne {W : Nat → Nat → Prop} {F : Nat → Prop} {s : Int} {p : Nat} (h : Rch W F s p) : (p : Int) ≠ s := by
  cases h <;> assumption
theorem Rch.mono {W : Nat → Nat → Prop} {F G : Nat → Prop} {s : Int} (hF : ∀ p, F p → G p) {p : Nat} (h : Rch W F s p) : Rch W G s p := by
  induction h with
  | base h1 h2 => exact .base (hF _ h1) h2
  | step _ h2 h3 ih => exact .step ih h2 h3
theorem Rch.free {W : Nat → Nat → Prop} {F : Nat → Prop} {s : Int} {p : Nat} (h : Rch W F s p) : Rch W F (-1) p := by
  induction h with
  | base h1 _ => exact .base h1 (by omega)
  | step _ h2 _ ih => exact .step ih h2 (by omega)
theorem Rch.unfree {W : Nat → Nat → Prop} {F : Nat → Prop} {s : Int} (hs : ∀ p : Nat, (p : Int) = s → ¬ Rch W F (-1) p) {p : Nat} (h : Rch W F (-1) p) : Rch W F s p := by
  induction h with
  | base h1 h2 => exact .base h1 (fun e => hs _ e (.base h1 h2))
  | step h1 h2 h3 ih => exact .step ih h2 (fun e => hs _ e (.step h1 h2 h3))
theorem Rch.union {W : Nat → Nat → Prop} {F G : Nat → Prop} {s : Int} {p : Nat} : Rch W (fun p => F p ∨ G p) s p ↔ Rch W F s p ∨ Rch W G s p := by
  constructor
  · intro h
    induction h with
    | base h1 h2 => exact h1.elim (fun h => .inl (.base h h2)) (fun h => .inr (.base h h2))
    | step _ h2 h3 ih => exact ih.elim (fun h => .inl (.step h h2 h3)) (fun h => .inr (.step h h2 h3))
  · exact fun h => h.elim (Rch.mono fun _ => .inl) (Rch.mono fun _ => .inr)
theorem Rch.come {W : Nat → Nat → Prop} {F : Nat → Prop} {s : Int} {p : Nat} (h : Rch W F s p) : F p ∨ ∃ q, Rch W F s q ∧ W q p := by
  cases h with
  | base h1 _ => exact .inl h1
  | step h1 h2 _ => exact .inr ⟨_, h1, h2⟩
theorem Rch.lt {W : Nat → Nat → Prop} {F : Nat → Prop} {s : Int} {n : Nat} (hF : ∀ p, F p → p < n) (hW : ∀ p q, W p q → q < n) {p : Nat} (h : Rch W F s p) : p < n := by
  cases h with
  | base h1 _ => exact hF _ h1
  | step _ h2 _ => exact hW _ _ h2
/-- What holds of where it begins, and along ways, holds of all that is come to. -/
theorem Rch.all {W : Nat → Nat → Prop} {F : Nat → Prop} {s : Int} {R : Nat → Prop} (h1 : ∀ p, F p → (p : Int) ≠ s → R p) (h2 : ∀ p q, R p → W p q → (q : Int) ≠ s → R q) {p : Nat} (h : Rch W F s p) : R p := by
  induction h with
  | base a b => exact h1 _ a b
  | step _ a b ih => exact h2 _ _ ih a b

/-- A set that is closed, begins so, and has nothing but what is come to, is all that is come to. -/
theorem rch_of_closed {W : Nat → Nat → Prop} {F S : Nat → Prop} {s : Int} (h1 : ∀ p, F p → (p : Int) ≠ s → S p) (h2 : ∀ p q, S p → W p q → (q : Int) ≠ s → S q) (h3 : ∀ p, S p → Rch W F s p) (p : Nat) : S p ↔ Rch W F s p :=
  ⟨h3 p, fun h => h.all h1 h2⟩

/-- The numbers up to n that are such, rising. -/
noncomputable def lst (n : Nat) (P : Nat → Prop) : List Nat := open Classical in (List.range n).filter (fun p => decide (P p))
theorem mem_lst {n : Nat} {P : Nat → Prop} {p : Nat} : p ∈ lst n P ↔ p < n ∧ P p := by simp [lst]
theorem lst_rising (n : Nat) (P : Nat → Prop) : (lst n P).Pairwise (· < ·) := List.Pairwise.filter _ List.pairwise_lt_range
theorem lst_congr {n : Nat} {P Q : Nat → Prop} (h : ∀ p, p < n → (P p ↔ Q p)) : lst n P = lst n Q := by
  unfold lst
  apply List.filter_congr
  intro p hp
  have := h p (List.mem_range.1 hp)
  simp [this]
theorem filter_or_len {α : Type} (a b c : α → Bool) : ∀ l : List α, (∀ x ∈ l, c x = true → a x = true ∨ b x = true) → (l.filter c).length ≤ (l.filter a).length + (l.filter b).length
  | [], _ => by simp
  | x :: l, h => by
    have ih := filter_or_len a b c l (fun y hy => h y (List.mem_cons_of_mem _ hy))
    have hx := h x (List.mem_cons_self ..)
    cases hc : c x
    · cases ha : a x <;> cases hb : b x <;> simp [hc, ha, hb] <;> omega
    · rcases hx hc with ha | hb
      · cases hb : b x <;> simp [hc, ha, hb] <;> omega
      · cases ha : a x <;> simp [hc, ha, hb] <;> omega
theorem lst_union_len {n : Nat} {P Q R : Nat → Prop} (h : ∀ p, R p → P p ∨ Q p) : (lst n R).length ≤ (lst n P).length + (lst n Q).length := by
  unfold lst
  apply filter_or_len
  intro x _ hx
  simpa using h x (by simpa using hx)
/-- Two rising lists of the same members are one. -/
theorem rising_ext : ∀ {a b : List Nat}, a.Pairwise (· < ·) → b.Pairwise (· < ·) → (∀ p, p ∈ a ↔ p ∈ b) → a = b
  | [], [], _, _, _ => rfl
  | [], y :: b, _, _, h => absurd ((h y).2 (List.mem_cons_self ..)) (by simp)
  | x :: a, [], _, _, h => absurd ((h x).1 (List.mem_cons_self ..)) (by simp)
  | x :: a, y :: b, ha, hb, h => by
    rw [List.pairwise_cons] at ha hb
    have e : x = y := by
      rcases List.mem_cons.1 ((h x).1 (List.mem_cons_self ..)) with e | e
      · exact e
      · rcases List.mem_cons.1 ((h y).2 (List.mem_cons_self ..)) with e' | e'
        · exact e'.symm
        · have := hb.1 _ e; have := ha.1 _ e'; omega
    subst e
    rw [rising_ext ha.2 hb.2 (fun p => by
      have := h p
      simp only [List.mem_cons] at this
      constructor
      · intro hp
        rcases this.1 (.inr hp) with e | e
        · have := ha.1 _ hp; omega
        · exact e
      · intro hp
        rcases this.2 (.inr hp) with e | e
        · have := hb.1 _ hp; omega
        · exact e)]
theorem lst_of {n : Nat} {P : Nat → Prop} {l : List Nat} (hr : l.Pairwise (· < ·)) (hm : ∀ p, p ∈ l ↔ p < n ∧ P p) : l = lst n P :=
  rising_ext hr (lst_rising n P) (fun p => by rw [hm, mem_lst])

/-- All ways go ahead, to places. -/
structure Ahd (n : Nat) (W : Nat → Nat → Prop) : Prop where
  lt : ∀ {p q}, W p q → q < n
  up : ∀ {p q}, W p q → p < q
/-- It doesn't leave, and goes on. -/
def Alive (W : Nat → Nat → Prop) (L : Nat → Prop) (p : Nat) : Prop := ¬ L p ∧ ∃ q, W p q
/-- All that goes on from a place meets another one. -/
def Jn (W : Nat → Nat → Prop) (L : Nat → Prop) (a j : Nat) : Prop := Alive W L a ∧ ∀ p, Rch W (W a) j p → Alive W L p
inductive Meets (W : Nat → Nat → Prop) (L : Nat → Prop) (m : Nat) : Nat → Prop
  | here : Meets W L m m
  | on {p : Nat} : Alive W L p → (∀ q, W p q → Meets W L m q) → Meets W L m p
section
variable {n : Nat} {W : Nat → Nat → Prop} {L : Nat → Prop}
theorem Meets.le (A : Ahd n W) {m p : Nat} (h : Meets W L m p) : p ≤ m := by
  induction h with
  | here => exact Nat.le_refl _
  | on h1 _ ih =>
    obtain ⟨q, hq⟩ := h1.2
    have := ih q hq
    have := A.up hq
    omega
theorem Meets.out {m p : Nat} (h : Meets W L m p) (hne : p ≠ m) : Alive W L p ∧ ∀ q, W p q → Meets W L m q := by
  cases h with
  | here => exact absurd rfl hne
  | on h1 h2 => exact ⟨h1, h2⟩
theorem Meets.trans {m k p : Nat} (h : Meets W L m p) (h' : Meets W L k m) : Meets W L k p := by
  induction h with
  | here => exact h'
  | on h1 _ ih => exact .on h1 (fun q hq => ih q hq)
/-- Of two that are met the greater is met from the less. -/
theorem Meets.split (A : Ahd n W) {m k p : Nat} (h : Meets W L m p) (h' : Meets W L k p) (hmk : m ≤ k) : Meets W L k m := by
  induction h with
  | here => exact h'
  | @on p h1 h2 ih =>
    have hp : p ≤ m := (Meets.on h1 h2).le A
    by_cases e : p = k
    · have : m = k := by omega
      rw [this]; exact .here
    · obtain ⟨q, hq⟩ := h1.2
      exact ih q hq ((h'.out e).2 q hq)
theorem jn_iff (A : Ahd n W) {a j : Nat} : Jn W L a j ↔ Alive W L a ∧ ∀ q, W a q → Meets W L j q := by
  constructor
  · intro h
    refine ⟨h.1, ?_⟩
    have key : ∀ d p, n - p = d → (p = j ∨ Rch W (W a) j p) → Meets W L j p := by
      intro d
      induction d using Nat.strongRecOn with
      | ind d ih =>
        intro p hp h'
        by_cases e : p = j
        · rw [e]; exact .here
        have hr : Rch W (W a) j p := h'.resolve_left e
        refine .on (h.2 p hr) (fun q hq => ?_)
        have h1 := A.lt hq
        have h2 := A.up hq
        refine ih (n - q) (by omega) q rfl ?_
        by_cases e' : q = j
        · exact .inl e'
        · exact .inr (.step hr hq (by omega))
    intro q hq
    refine key _ q rfl ?_
    by_cases e : q = j
    · exact .inl e
    · exact .inr (.base hq (by omega))
  · intro h
    refine ⟨h.1, fun p hp => ?_⟩
    have key : Meets W L j p := by
      refine hp.all (R := fun p => Meets W L j p ∧ (p : Int) ≠ j) (fun p h1 h2 => ⟨h.2 p h1, h2⟩) (fun p q h1 h2 h3 => ⟨(h1.1.out (by have := h1.2; omega)).2 q h2, h3⟩) |>.1
    exact (key.out (by have := hp.ne; omega)).1
theorem Jn.lt (A : Ahd n W) {a j : Nat} (h : Jn W L a j) : a < j := by
  obtain ⟨q, hq⟩ := h.1.2
  have h1 := ((jn_iff A).1 h).2 q hq |>.le A
  have := A.up hq
  omega
theorem Jn.of_meets (A : Ahd n W) {a j : Nat} (h : Meets W L j a) (hne : a ≠ j) : Jn W L a j := (jn_iff A).2 (h.out hne)
theorem Jn.meets (A : Ahd n W) {a j : Nat} (h : Jn W L a j) : Meets W L j a := .on ((jn_iff A).1 h).1 ((jn_iff A).1 h).2
/-- The join: the least such place. -/
def IsJ (W : Nat → Nat → Prop) (L : Nat → Prop) (a j : Nat) : Prop := Jn W L a j ∧ ∀ i, Jn W L a i → j ≤ i
theorem IsJ.uniq {a i j : Nat} (h : IsJ W L a i) (h' : IsJ W L a j) : i = j := by
  have := h.2 _ h'.1; have := h'.2 _ h.1; omega
theorem exists_isJ {a k : Nat} (h : Jn W L a k) : ∃ j, IsJ W L a j ∧ j ≤ k := by
  induction k using Nat.strongRecOn with
  | ind k ih =>
    by_cases hx : ∃ i, Jn W L a i ∧ i < k
    · obtain ⟨i, h1, h2⟩ := hx
      obtain ⟨j, h3, h4⟩ := ih i h2 h1
      exact ⟨j, h3, by omega⟩
    · exact ⟨k, ⟨h, fun i hi => Nat.le_of_not_lt fun hlt => hx ⟨i, hi, hlt⟩⟩, Nat.le_refl _⟩
/-- What is met from a place: itself, and what is met from its join. -/
theorem meets_join (A : Ahd n W) {p j k : Nat} (hj : IsJ W L p j) : Meets W L k p ↔ k = p ∨ Meets W L k j := by
  constructor
  · intro h
    by_cases e : p = k
    · exact .inl e.symm
    · have h1 := Jn.of_meets A h e
      exact .inr ((hj.1.meets A).split A h (hj.2 _ h1))
  · rintro (e | h)
    · rw [e]; exact .here
    · exact (hj.1.meets A).trans h
theorem meets_none (A : Ahd n W) {p k : Nat} (hj : ∀ j, ¬ Jn W L p j) : Meets W L k p ↔ k = p := by
  constructor
  · intro h
    by_cases e : p = k
    · exact e.symm
    · exact absurd (Jn.of_meets A h e) (hj k)
  · intro e; rw [e]; exact .here
/-- The places of a region lie between. -/
theorem Jn.within (A : Ahd n W) {a j p : Nat} (h : Jn W L a j) (hp : Rch W (W a) j p) : a < p ∧ p < j := by
  have hm : Meets W L j p ∧ a < p := by
    have := hp.all (R := fun p => (Meets W L j p ∧ a < p) ∧ (p : Int) ≠ j) (fun p h1 h2 => ⟨⟨((jn_iff A).1 h).2 p h1, A.up h1⟩, h2⟩) (fun p q h1 h2 h3 => ⟨⟨(h1.1.1.out (by have := h1.2; omega)).2 q h2, by have := A.up h2; have := h1.1.2; omega⟩, h3⟩)
    exact this.1
  have := hm.1.le A
  have := hp.ne
  exact ⟨hm.2, by omega⟩
theorem rch_above (A : Ahd n W) {a : Nat} {s : Int} {p : Nat} (hp : Rch W (W a) s p) : a < p :=
  hp.all (R := fun p => a < p) (fun _ h _ => A.up h) (fun _ _ h1 h2 _ => by have := A.up h2; omega)
/-- The join is come to. -/
theorem Meets.come {F : Nat → Prop} {j p : Nat} (h : Meets W L j p) (hp : Rch W F (-1) p) : Rch W F (-1) j := by
  induction h with
  | here => exact hp
  | on h1 _ ih =>
    obtain ⟨q, hq⟩ := h1.2
    exact ih q hq (.step hp hq (by omega))
theorem Jn.come (A : Ahd n W) {a j : Nat} (h : Jn W L a j) : Rch W (fun p => p = a) (-1) j := (h.meets A).come (.base rfl (by omega))
theorem Jn.place (A : Ahd n W) {a j : Nat} (ha : a < n) (h : Jn W L a j) : j < n :=
  (h.come A).lt (fun p e => by omega) (fun _ _ h => A.lt h)
/-- A region that holds has a join that all meet. -/
theorem jn_of_holds {a k : Nat} {R : Nat → Prop} (h0 : Alive W L a) (h1 : ∀ q, W a q → R q ∨ q = k) (h2 : ∀ p q, R p → W p q → R q ∨ q = k) (h3 : ∀ p, R p → Alive W L p) : Jn W L a k := by
  refine ⟨h0, fun p hp => h3 p ?_⟩
  exact hp.all (R := R) (fun p h h' => (h1 p h).resolve_right (by omega)) (fun p q h h' h'' => (h2 p q h h').resolve_right (by omega))
theorem places_of_holds (A : Ahd n W) {a j k : Nat} {R : Nat → Prop} (hj : Jn W L a j) (hjk : j ≤ k) (h1 : ∀ q, W a q → R q ∨ q = k) (h2 : ∀ p q, R p → W p q → R q ∨ q = k) {p : Nat} (hp : Rch W (W a) j p) : R p := by
  have key : ∀ p, Rch W (W a) j p → R p := by
    intro p hp
    induction hp with
    | @base p h h' => exact (h1 p h).resolve_right (by have := (hj.within A (.base h h')).2; omega)
    | @step p q hp h h' ih => exact (h2 p q ih h).resolve_right (by have := (hj.within A (.step hp h h')).2; omega)
  exact key p hp
/-- One way: that is the join, and nothing lies between. -/
theorem isJ_one (A : Ahd n W) {a b : Nat} (h0 : ¬ L a) (hb : W a b) (h1 : ∀ q, W a q → q = b) : IsJ W L a b := by
  refine ⟨(jn_iff A).2 ⟨⟨h0, b, hb⟩, fun q hq => by rw [h1 q hq]; exact .here⟩, fun i hi => ?_⟩
  exact (((jn_iff A).1 hi).2 b hb).le A
theorem rch_one {a b : Nat} (h1 : ∀ q, W a q → q = b) {p : Nat} : ¬ Rch W (W a) b p := by
  intro h
  have : ∀ p, ¬ Rch W (W a) b p := by
    intro p hp
    induction hp with
    | base h h' => exact h' (by rw [h1 _ h])
    | step _ _ _ ih => exact ih
  exact this p h
end
end Fl
end Go.Proofs.YtmkncmmegjfipaaGreatDoor
