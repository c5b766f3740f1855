/- Layer 6: lists of expressions that are written out; walk.Deep, syntax.Nest. -/
import Derived.Test.YtefaodpbfckmdaaP5
import Derived.Test.YtefaodpbfckmdaaP4
import Derived.LoopN
import Derived.Laws.AppendOwn
import Derived.Laws.EntriesVeiled
import Derived.Deep.QuietTactic
import Derived.BigQuiet
import Derived.Carry
import Derived.Deep.RegionWith
namespace Go.Proofs.Ytefaodpbfckmdaa
open Go.RowKit

theorem Try.infoEx : (Try.prog.info? 36).map (fun i => (i.zero, i.size, i.bytes)) = some (some (.agg zEx.toArray), 17, 200) := by kernel_rfl
theorem fill1_ex (t : Ex) : Instr.fill (fun i => some (i * 17, 17)) (Array.map (fun x => zEx[x % zEx.length]?.getD default) (Array.range 17)) [(0, Value.agg t.va)] = some t.va := by kernel_rfl
theorem fill2_ex (s t : Ex) : Instr.fill (fun i => some (i * 17, 17)) (Array.map (fun x => zEx[x % zEx.length]?.getD default) (Array.range 34)) [(0, Value.agg s.va), (1, Value.agg t.va)] = some (s.va ++ t.va) := by kernel_rfl
theorem fill3_ex (r s t : Ex) : Instr.fill (fun i => some (i * 17, 17)) (Array.map (fun x => zEx[x % zEx.length]?.getD default) (Array.range 51)) [(0, Value.agg r.va), (1, Value.agg s.va), (2, Value.agg t.va)] = some (r.va ++ s.va ++ t.va) := by kernel_rfl
theorem run_slice1_ex (t : Ex) (w : World) : (Instr.buildSlice 34 1 #[(0, .agg t.va)]).run Try.prog w = .ok (.slice (some ⟨w.heap.size, 0, none⟩) 1 1) (w.alloc (.cells t.va 36)) := by
  obtain ⟨i0, hi, hz0, hz1, hz2⟩ := info_parts Try.infoEx
  simp [Instr.buildSlice, run_underlying Try.underlying34, sizeOf, typeInfo, hi, hz0, hz1, zeroValue, newRow, Value.cells, fill1_ex]
theorem run_slice2_ex (s t : Ex) (w : World) : (Instr.buildSlice 34 2 #[(0, .agg s.va), (1, .agg t.va)]).run Try.prog w = .ok (.slice (some ⟨w.heap.size, 0, none⟩) 2 2) (w.alloc (.cells (s.va ++ t.va) 36)) := by
  obtain ⟨i0, hi, hz0, hz1, hz2⟩ := info_parts Try.infoEx
  simp [Instr.buildSlice, run_underlying Try.underlying34, sizeOf, typeInfo, hi, hz0, hz1, zeroValue, newRow, Value.cells, fill2_ex]
theorem run_slice3_ex (r s t : Ex) (w : World) : (Instr.buildSlice 34 3 #[(0, .agg r.va), (1, .agg s.va), (2, .agg t.va)]).run Try.prog w = .ok (.slice (some ⟨w.heap.size, 0, none⟩) 3 3) (w.alloc (.cells (r.va ++ s.va ++ t.va) 36)) := by
  obtain ⟨i0, hi, hz0, hz1, hz2⟩ := info_parts Try.infoEx
  simp [Instr.buildSlice, run_underlying Try.underlying34, sizeOf, typeInfo, hi, hz0, hz1, zeroValue, newRow, Value.cells, fill3_ex]
/-- A list that is written out, where its run is known. -/
theorem wpList_slice {ops : Array Oper} {rest : List Oper} {o : Oper} {a : Act} {w w' : World} {v : Value} {Q : Exit → Act → World → Prop} (hgd : o.guard = none) (t : TypeId) (n : Nat) (parts : Array (Nat × Operand)) (ho : o.op = .buildSlice t n parts) (vals : Array (Nat × Value)) (hv : (parts.map fun (i, x) => (i, a.eval x)) = vals)
    (hs : (Instr.buildSlice t n vals).run Try.prog w = .ok v w') (h : wpList Try.prog ops Q rest (a.put o.dst v) w') : wpList Try.prog ops Q (o :: rest) a w := by
  subst hv
  refine wpList_plain hgd fun _ hK => ?_
  unfold Oper.wp execOp
  simp only [ho, Sem.run_bind, hs, Result.andThen_ok, Sem.run_pure]
  exact hK _ _ h
theorem C17.ofB {w : World} {B : Nat} {e : Ex} (h : Bex w B e) : C17 w B 0 e := C17.of_range h.range
theorem plain_new (w : World) (c : Array Value) (t : TypeId) : PlainAt (w.alloc (.cells c t)) w.heap.size := ⟨c, t, heap_alloc_new _ _⟩
theorem LAt.kids_ne {w : World} {v : Value} {L : List Ex} (h : LAt w v L) (hl : 0 < L.length) : kids L ≠ [] := by
  obtain ⟨_, _, _, _, _, _, _, hA⟩ := h
  match L, hl with
  | e :: L, _ =>
    have h1 := (hA e (List.mem_cons_self ..)).2.2
    intro hq
    have : e.ps 0 ∈ kids (e :: L) := mem_kids.2 ⟨e, List.mem_cons_self .., mem_kid.2 ⟨0, h1, rfl⟩⟩
    rw [hq] at this
    cases this
theorem LAt.form {w : World} {v : Value} {L : List Ex} (h : LAt w v L) : ∃ ao cap, v = .slice ao L.length cap := by
  obtain ⟨ao, _, _, cap, h, _⟩ := h
  exact ⟨ao, cap, h⟩
theorem LAt.at {w : World} {v : Value} {L : List Ex} (h : LAt w v L) : ∀ e ∈ L, e.At w := by
  obtain ⟨_, _, _, _, _, _, _, hA⟩ := h
  exact fun e he => (hA e he).1
theorem deep_start (t : Ex) (w : World) (ht : t.At w) (hp : t.Pl w) : LAt (((w.alloc (.cells t.va 36)).alloc (.cells t.va 36)).alloc (.cells #[.slice (some ⟨w.heap.size + 1, 0, none⟩) 1 1] 34)) (.slice (some ⟨w.heap.size + 2, 0, none⟩) 1 1) [lone1 (w.heap.size + 1) t] := by
  have b1 := below_alloc w (.cells t.va 36)
  have b2 := below_alloc (w.alloc (.cells t.va 36)) (.cells t.va 36)
  have b3 := below_alloc ((w.alloc (.cells t.va 36)).alloc (.cells t.va 36)) (.cells #[.slice (some ⟨w.heap.size + 1, 0, none⟩) 1 1] 34)
  have e1 : (w.alloc (.cells t.va 36)).heap.size = w.heap.size + 1 := alloc_size _ _
  have e2 : ((w.alloc (.cells t.va 36)).alloc (.cells t.va 36)).heap.size = w.heap.size + 2 := by rw [alloc_size, e1]
  have hc := (C17.ofB (Bex.newV (w.alloc (.cells t.va 36)) t)).kept b3
  have hq := (plain_new (w.alloc (.cells t.va 36)) t.va 36).kept b3
  rw [e1] at hc hq
  have B := Below.next (Below.next b1 b2) b3
  refine ⟨some ⟨w.heap.size + 2, 0, none⟩, w.heap.size + 2, 0, 1, rfl, fun _ => rfl, fun i e he => ?_, fun e he => ?_⟩
  · match i, he with
    | 0, he =>
      have : lone1 (w.heap.size + 1) t = e := by simpa using he
      subst this
      have := heap_alloc_new ((w.alloc (.cells t.va 36)).alloc (.cells t.va 36)) (.cells #[.slice (some ⟨w.heap.size + 1, 0, none⟩) 1 1] 34)
      rw [e2] at this
      simp only [World.cell?, this]
      rfl
    | i + 1, he => simp at he
  · have : e = lone1 (w.heap.size + 1) t := by simpa using he
    subst this
    exact ⟨lone1_at (ht.kept B) hc, ⟨fun _ => hq, fun _ _ => hp.kept B⟩, Nat.one_pos⟩

end Go.Proofs.Ytefaodpbfckmdaa

/- Variables as whole blocks. -/
namespace Go.Proofs.Ytefaodpbfckmdaa
open Go Go.RowKit

/-- A block that holds just these values, unmarked. -/
def Blk (w : World) (B : Nat) (c : List Value) (t : TypeId) : Prop := w.heap[B]? = some (.cells c.toArray t (0, 0))
theorem Blk.lt {w : World} {B : Nat} {c : List Value} {t : TypeId} (h : Blk w B c t) : B < w.heap.size := eblock_lt h
theorem Blk.kept {w w' : World} {B : Nat} {c : List Value} {t : TypeId} (h : Blk w B c t) (hb : Below w.heap.size w w') : Blk w' B c t := by
  unfold Blk; rw [hb.block B h.lt]; exact h
theorem Blk.cell {w : World} {B : Nat} {c : List Value} {t : TypeId} (h : Blk w B c t) (i : Nat) {v : Value} (hv : c[i]? = some v) : w.cell? ⟨B, i, none⟩ = some v := by
  unfold Blk at h
  simp [World.cell?, h, hv]
theorem Blk.frozen {w : World} {B : Nat} {c : List Value} {t : TypeId} (h : Blk w B c t) (i : Nat) : w.frozen? ⟨B, i, none⟩ = false := by
  unfold Blk at h
  simp [World.frozen?, h]
theorem Blk.there {w : World} {B : Nat} {c : List Value} {t : TypeId} (h : Blk w B c t) : w.there B 0 c.length := there_of h
theorem Blk.range {w : World} {B : Nat} {c : List Value} {t : TypeId} (h : Blk w B c t) : w.rangeAt B 0 c := fun j v hv => by rw [Nat.zero_add]; exact h.cell j hv
theorem Blk.new (w : World) (c : List Value) (t : TypeId) : Blk (w.alloc (.cells c.toArray t)) w.heap.size c t := heap_alloc_new _ _
theorem Blk.plain {w : World} {B : Nat} {c : List Value} {t : TypeId} (h : Blk w B c t) : PlainAt w B := ⟨_, _, h⟩
/-- One block written, all else as it was. -/
structure WroteB (w w' : World) (B : Nat) (c : List Value) (t : TypeId) : Prop where
  blk : Blk w' B c t
  other : ∀ b, b ≠ B → w'.heap[b]? = w.heap[b]?
  size : w'.heap.size = w.heap.size
  below : ∀ {B0 : Nat} {a : World}, B0 ≤ B → Below B0 a w → Below B0 a w'
theorem WroteB.keep {w w' : World} {B B' : Nat} {c c' : List Value} {t t' : TypeId} (h : WroteB w w' B c t) (hb : Blk w B' c' t') (hne : B' ≠ B) : Blk w' B' c' t' := by unfold Blk; rw [h.other _ hne]; exact hb
theorem setCells_heap (b : Nat) : ∀ (vs : List Value) (o : Nat) (w : World) (k : Nat), k ≠ b → (w.setCells b o vs).heap[k]? = w.heap[k]?
  | [], _, _, _, _ => rfl
  | v :: vs, o, w, k, h => by
    rw [World.setCells, setCells_heap b vs (o + 1) _ k h, Below.heap_setCell _ _ _ _ h]
theorem setCells_size (b : Nat) : ∀ (vs : List Value) (o : Nat) (w : World), (w.setCells b o vs).heap.size = w.heap.size
  | [], _, _ => rfl
  | v :: vs, o, w => by rw [World.setCells, setCells_size b vs (o + 1)]; simp [World.setCell]
theorem setCells_blk (t : TypeId) : ∀ (vs pre post : List Value) (w : World) (B : Nat), post.length = vs.length → Blk w B (pre ++ post) t → Blk (w.setCells B pre.length vs) B (pre ++ vs) t
  | [], pre, post, w, B, h, hb => by
    have e : post = [] := List.eq_nil_of_length_eq_zero h
    subst e; exact hb
  | v :: vs, pre, [], w, B, h, hb => by simp at h
  | v :: vs, pre, p :: post, w, B, h, hb => by
    rw [World.setCells]
    have h1 : Blk (w.setCell ⟨B, pre.length, none⟩ v) B ((pre ++ [v]) ++ post) t := by
      have hl := hb.lt
      unfold Blk at hb ⊢
      have e : ((pre ++ p :: post).toArray.setIfInBounds pre.length v) = ((pre ++ [v]) ++ post).toArray := by
        apply Array.toList_inj.1
        simp
      rw [← e]
      simp [World.setCell, Array.getElem?_modify, hb]
    have k := setCells_blk t vs (pre ++ [v]) post _ B (by simpa using h) h1
    rw [show (pre ++ [v]).length = pre.length + 1 by simp] at k
    simpa using k
theorem wrote_setCells {w : World} {B : Nat} {c : List Value} {t : TypeId} (h : Blk w B c t) (vs : List Value) (hl : c.length = vs.length) : WroteB w (w.setCells B 0 vs) B vs t :=
  ⟨setCells_blk t vs [] c w B hl (by simpa using h), fun b hb => setCells_heap _ _ _ _ _ hb, setCells_size _ _ _ _, fun hB hb => below_setCells hB _ _ _ hb⟩
/-- A value stored whole. -/
theorem wpList_store_blk {w : World} {ops : Array Oper} {rest : List Oper} {o : Oper} {a : Act} {Q : Exit → Act → World → Prop} (hgd : o.guard = none) (hdst : o.dst = none) (t : TypeId) (p x : Operand) (ho : o.op = .store t p x) (B : Nat) (vs : List Value)
    (hp : a.eval p = .pointer (some ⟨B, 0, none⟩)) (hx : a.eval x = .agg vs.toArray) (h1 : vs.all (·.oneCell') = true) {c : List Value} (hb : Blk w B c t) (hl : c.length = vs.length) (hi : (Try.prog.info? t).map (·.size) = some vs.toArray.size)
    (h : ∀ w', WroteB w w' B vs t → wpList Try.prog ops Q rest a w') : wpList Try.prog ops Q (o :: rest) a w := by
  refine wpList_store_mid hgd t p x ho B 0 vs.toArray hp hx ?_ hi (by simpa using h1) ?_
  · have := hb.there; rw [hl] at this; simpa using this
  · rw [hdst]
    exact h _ (wrote_setCells hb vs hl)
/-- Blocks made one behind the other. -/
theorem allocs_heap : ∀ (os : List Obj) (w : World) (i : Nat), i < os.length → (os.foldl World.alloc w).heap[w.heap.size + i]? = os[i]?
  | [], _, i, h => absurd h (Nat.not_lt_zero i)
  | o :: os, w, 0, _ => by
    show (os.foldl World.alloc (w.alloc o)).heap[w.heap.size + 0]? = some o
    have key : ∀ (os : List Obj) (w : World) (k : Nat), k < w.heap.size → (os.foldl World.alloc w).heap[k]? = w.heap[k]? := by
      intro os
      induction os with
      | nil => intro w k _; rfl
      | cons o os ih => intro w k hk; show (os.foldl World.alloc (w.alloc o)).heap[k]? = _; rw [ih _ k (by simp; omega), Below.heap_alloc _ _ _ hk]
    rw [Nat.add_zero, key os _ _ (by simp), heap_alloc_new]
  | o :: os, w, i + 1, h => by
    have := allocs_heap os (w.alloc o) i (by simpa using h)
    show (os.foldl World.alloc (w.alloc o)).heap[w.heap.size + (i + 1)]? = os[i]?
    rw [alloc_size] at this
    rw [← this, show w.heap.size + 1 + i = w.heap.size + (i + 1) by omega]
theorem allocs_below : ∀ (os : List Obj) (w : World), Below w.heap.size w (os.foldl World.alloc w)
  | [], _ => Below.refl _ _
  | o :: os, w => Below.next (below_alloc w o) (allocs_below os (w.alloc o))
theorem allocs_size : ∀ (os : List Obj) (w : World), (os.foldl World.alloc w).heap.size = w.heap.size + os.length
  | [], _ => rfl
  | o :: os, w => by
    show (os.foldl World.alloc (w.alloc o)).heap.size = _
    rw [allocs_size os, alloc_size]; simp; omega
end Go.Proofs.Ytefaodpbfckmdaa

/- Layer 9: walk.Total at a function without Parts: what is counted on. -/
namespace Go.Proofs.Ytefaodpbfckmdaa
open Go Go.RowKit

def zTE : Ty := .mk 0 0 0 0 none 0 0 0 0 fun _ => .dm
/-- A function without Parts. -/
def fnE : Ex := .mk 6 0 0 ⟨#[]⟩ ⟨#[]⟩ zTE zTE none 0 0 0 0 (fun _ => .dm) 0
theorem Blk.setE {w : World} {B : Nat} {c : List Value} {t : TypeId} (h : Blk w B c t) (i : Nat) (v : Value) : Blk (w.setCell ⟨B, i, none⟩ v) B (c.set i v) t := by
  unfold Blk at h ⊢
  simp [World.setCell, Array.getElem?_modify, h]
theorem WroteB.cell1 {w : World} {B : Nat} {c : List Value} {t : TypeId} (h : Blk w B c t) (i : Nat) (v : Value) : WroteB w (w.setCell ⟨B, i, none⟩ v) B (c.set i v) t :=
  ⟨h.setE i v, fun b hb => Below.heap_setCell _ _ _ _ hb, by simp [World.setCell], fun hB hb => hb.setCell hB v⟩
/-- One cell of a block stored. -/
theorem wp_store1 {o : Oper} {a : Act} {w : World} {K : Act → World → Prop} {Q : Exit → Act → World → Prop} (ty : TypeId) (p x : Operand) (ho : o.op = .store ty p x) (hdst : o.dst = none) (B i : Nat) (v : Value) (c : List Value) (t : TypeId) (hp : a.eval p = .pointer (some ⟨B, i, none⟩)) (hx : a.eval x = v)
    (hs : ∀ w : World, w.there B i 1 → (storeVar ty ⟨B, i, none⟩ v).run Try.prog w = .ok () (w.setCell ⟨B, i, none⟩ v))
    (hb : Blk w B c t) (hi : i < c.length) (h : ∀ w', WroteB w w' B (c.set i v) t → K a w') : o.wp Try.prog a w K Q := by
  have ht : w.there B i 1 := fun j hj => by
    have e : j = 0 := by omega
    subst e
    refine ⟨?_, hb.frozen _⟩
    rw [hb.cell (i + 0) (v := c[i]) (by simp [hi])]; rfl
  unfold Oper.wp execOp
  simp only [ho, hp, hx, Instr.storeAt, Instr.sureAddr, Sem.run_bind, Sem.run_pure, Result.andThen_ok, hs w ht]
  have e : a.put o.dst undef = a := by rw [hdst]; rfl
  show K (a.put o.dst undef) _
  rw [e]
  exact h _ (WroteB.cell1 hb i v)
theorem wpList_store1 {w : World} {ops : Array Oper} {rest : List Oper} {o : Oper} {a : Act} {Q : Exit → Act → World → Prop} (hgd : o.guard = none) (ty : TypeId) (p x : Operand) (ho : o.op = .store ty p x) (hdst : o.dst = none) (B i : Nat) (v : Value) (c : List Value) (t : TypeId) (hp : a.eval p = .pointer (some ⟨B, i, none⟩)) (hx : a.eval x = v)
    (hs : ∀ w : World, w.there B i 1 → (storeVar ty ⟨B, i, none⟩ v).run Try.prog w = .ok () (w.setCell ⟨B, i, none⟩ v))
    (hb : Blk w B c t) (hi : i < c.length) (h : ∀ w', WroteB w w' B (c.set i v) t → wpList Try.prog ops Q rest a w') : wpList Try.prog ops Q (o :: rest) a w :=
  wpList_plain hgd fun _ hK => wp_store1 ty p x ho hdst B i v c t hp hx hs hb hi (fun w' W => hK _ _ (h w' W))
/-- What is put behind a nil list. -/
theorem wp_append_new {w : World} {o : Oper} {a : Act} {K : Act → World → Prop} {Q : Exit → Act → World → Prop} (s x : Operand) (t e : TypeId) (z : Value) (size bytes : Nat)
    (hop : o.op = .call { callee := .builtin .append, args := #[s, x], argTypes := #[t, t] }) (ht : Try.prog.underlying t = some (.slice e)) (hinfo : (Try.prog.info? e).map (fun i => (i.zero, i.size, i.bytes)) = some (some z, size, bytes)) (hz : z.cells.size = size) (hsz : 0 < size) (hby : bytes ≤ 1000)
    (hs : a.eval s = .slice none 0 0) (b c : Nat) (xs : List Value) (e' : TypeId) (hx : a.eval x = .slice (some ⟨b, 0, none⟩) 1 c) (hb : Blk w b xs e') (hl : xs.length = size) (h1 : ∀ u ∈ xs, u.oneCell' = true)
    (h : ∀ g cap ys w', w.heap.size ≤ g → Blk w' g (xs ++ ys) e → Below w.heap.size w w' → K (a.put o.dst (.slice (some ⟨g, 0, none⟩) 1 cap)) w') : o.wp Try.prog a w K Q := by
  obtain ⟨i0, hi, hz0, hz1, hz2⟩ := info_parts hinfo
  obtain ⟨v', w', hr, h2, h3, _⟩ := run_append_own (P := Try.prog) w w.heap.size t o.type e i0 _ size bytes ht hi hz0 hz1 hz2 hz hsz (.slice none 0 0) 0 [] (World.ownsRow_nil _ _ _ _) ⟨b, 0, none⟩ 1 c xs (by omega)
    (fun j u hu => by rw [addr_add, Nat.zero_add]; exact hb.cell j hu) h1 (by decide) (by omega) (Nat.le_refl _)
  obtain ⟨_, ⟨rfl, e⟩ | ⟨g, cap, cur, rfl, hg, hcur, _, _, _, htk⟩⟩ := h2
  · simp at e
  unfold Oper.wp execOp
  simp only [hop, resolve, invoke, builtin, Sem.run_bind, Sem.run_pure, Result.andThen_ok, List.map_toArray, List.map_cons, List.map_nil, hs, hx, hr]
  refine h g cap (cur.toList.drop ((0 + 1) * size)) w' hg ?_ ((Below.refl _ _).grown h3 (Nat.le_refl _) (fun k hk => by cases hk))
  unfold Blk
  rw [hcur]
  have e : xs ++ cur.toList.drop ((0 + 1) * size) = cur.toList := by
    have := List.take_append_drop ((0 + 1) * size) cur.toList
    rw [htk] at this
    simpa using this
  rw [e]
theorem wpList_append_new {w : World} {ops : Array Oper} {rest : List Oper} {o : Oper} {a : Act} {Q : Exit → Act → World → Prop} (hgd : o.guard = none) (s x : Operand) (t e : TypeId) (z : Value) (size bytes : Nat)
    (hop : o.op = .call { callee := .builtin .append, args := #[s, x], argTypes := #[t, t] }) (ht : Try.prog.underlying t = some (.slice e)) (hinfo : (Try.prog.info? e).map (fun i => (i.zero, i.size, i.bytes)) = some (some z, size, bytes)) (hz : z.cells.size = size) (hsz : 0 < size) (hby : bytes ≤ 1000)
    (hs : a.eval s = .slice none 0 0) (b c : Nat) (xs : List Value) (e' : TypeId) (hx : a.eval x = .slice (some ⟨b, 0, none⟩) 1 c) (hb : Blk w b xs e') (hl : xs.length = size) (h1 : ∀ u ∈ xs, u.oneCell' = true)
    (h : ∀ g cap ys w', w.heap.size ≤ g → Blk w' g (xs ++ ys) e → Below w.heap.size w w' → wpList Try.prog ops Q rest (a.put o.dst (.slice (some ⟨g, 0, none⟩) 1 cap)) w') : wpList Try.prog ops Q (o :: rest) a w :=
  wpList_plain hgd fun _ hK => wp_append_new s x t e z size bytes hop ht hinfo hz hsz hby hs b c xs e' hx hb hl h1 (fun g cap ys w' h2 h3 h4 => hK _ _ (h g cap ys w' h2 h3 h4))

/-- The list's first node alone: so many are such, it holds some. -/
def lsV (n : Nat) (own : Int) (hd : Bool) (ys : List Value) : List Value := .slice (some ⟨n, 0, none⟩) 1 1 :: .int .i64 own :: .slice none 0 0 :: .bool hd :: ys
def hdV (m : Nat) (all : Value) : List Value := [.func (.func 13) #[] #[], .func (.func 14) #[] #[], .map (some m), all]
structure LS (w : World) (p m q cap n : Nat) (own : Int) (hd : Bool) (ys : List Value) : Prop where
  h : Blk w p (hdV m (.slice (some ⟨q, 0, none⟩) 1 cap)) 45
  l : Blk w q (lsV n own hd ys) 51
  ne : p < q
theorem LS.kept {w w' : World} {p m q cap n : Nat} {own : Int} {hd : Bool} {ys : List Value} (h : LS w p m q cap n own hd ys) (b : Below w.heap.size w w') : LS w' p m q cap n own hd ys := ⟨h.h.kept b, h.l.kept b, h.ne⟩
theorem LS.other {w w' : World} {p m q cap n : Nat} {own : Int} {hd : Bool} {ys : List Value} (h : LS w p m q cap n own hd ys) {B : Nat} {c : List Value} {t : TypeId} (W : WroteB w w' B c t) (h1 : p ≠ B) (h2 : q ≠ B) : LS w' p m q cap n own hd ys := ⟨W.keep h.h h1, W.keep h.l h2, h.ne⟩
theorem LS.c3 {w : World} {p m q cap n : Nat} {own : Int} {hd : Bool} {ys : List Value} (h : LS w p m q cap n own hd ys) : w.cell? ⟨p, 3, none⟩ = some (.slice (some ⟨q, 0, none⟩) 1 cap) := h.h.cell 3 rfl
theorem LS.q0 {w : World} {p m q cap n : Nat} {own : Int} {hd : Bool} {ys : List Value} (h : LS w p m q cap n own hd ys) : w.cell? ⟨q, 0, none⟩ = some (.slice (some ⟨n, 0, none⟩) 1 1) := h.l.cell 0 rfl
theorem LS.q1 {w : World} {p m q cap n : Nat} {own : Int} {hd : Bool} {ys : List Value} (h : LS w p m q cap n own hd ys) : w.cell? ⟨q, 1, none⟩ = some (.int .i64 own) := h.l.cell 1 rfl
theorem LS.q2 {w : World} {p m q cap n : Nat} {own : Int} {hd : Bool} {ys : List Value} (h : LS w p m q cap n own hd ys) : w.cell? ⟨q, 2, none⟩ = some (.slice none 0 0) := h.l.cell 2 rfl
theorem LS.q3 {w : World} {p m q cap n : Nat} {own : Int} {hd : Bool} {ys : List Value} (h : LS w p m q cap n own hd ys) : w.cell? ⟨q, 3, none⟩ = some (.bool hd) := h.l.cell 3 rfl

set_option maxRecDepth 100000 in
set_option maxHeartbeats 1000000 in
theorem ev_parts (w : World) : Calls Try.prog 13 #[.agg fnE.va] w fun e w' => e = .returned (.slice none 0 0) ∧ Below w.heap.size w w' := by
  have B0 := below_alloc w (.cells fnE.va 36)
  have X0 := Bex.newV w fnE
  have c15 : (w.alloc (.cells fnE.va 36)).cell? ⟨w.heap.size, 15, none⟩ = some (.slice none 0 0) := (C17.ofB X0).c15
  clear X0
  go_enter Try.func13, Try.ntmps13
  go_wp2
  go_ret
  exact ⟨rfl, B0⟩
set_option maxRecDepth 100000 in
set_option maxHeartbeats 1000000 in
theorem ev_such (w : World) : Calls Try.prog 14 #[.agg fnE.va] w fun e w' => e = .returned (.bool true) ∧ Below w.heap.size w w' := by
  have B0 := below_alloc w (.cells fnE.va 36)
  have X0 := Bex.newV w fnE
  have c0 : (w.alloc (.cells fnE.va 36)).cell? ⟨w.heap.size, 0, none⟩ = some (.int .i64 6) := (C17.ofB X0).c0
  clear X0
  go_enter Try.func14, Try.ntmps14
  go_wp2
  go_ret
  exact ⟨rfl, B0⟩
theorem Try.infoIntT : (Try.prog.info? 3).map (fun i => (i.zero, i.size, i.bytes)) = some (some (.int .i64 0), 1, 8) := by kernel_rfl
theorem run_slice_int (k : Int) (w : World) : (Instr.buildSlice 49 1 #[(0, .int .i64 k)]).run Try.prog w = .ok (.slice (some ⟨w.heap.size, 0, none⟩) 1 1) (w.alloc (.cells #[.int .i64 k] 3)) := by
  obtain ⟨i0, hi, hz0, hz1, hz2⟩ := info_parts Try.infoIntT
  have hf : Instr.fill (fun i => some (i, 1)) (Array.map (fun x => [Value.int IntKind.i64 0][x % 1]?.getD default) (Array.range 1)) [(0, .int .i64 k)] = some #[.int .i64 k] := by kernel_rfl
  simp [Instr.buildSlice, run_underlying Try.underlying49, sizeOf, typeInfo, hi, hz0, hz1, zeroValue, newRow, Value.cells, hf]
theorem store_one (ty : TypeId) (v : Value) (h1 : (Try.prog.info? ty).map (·.size) = some 1) (hv : v.oneCell' = true) (hc : v.cells = #[v]) (B i : Nat) (w : World) (h : w.there B i 1) : (storeVar ty ⟨B, i, none⟩ v).run Try.prog w = .ok () (w.setCell ⟨B, i, none⟩ v) := by
  cases hq : Try.prog.info? ty with
  | none => simp [hq] at h1
  | some j =>
    have hs : j.size = 1 := by simpa [hq] using h1
    have := run_storeCells_cells (P := Try.prog) B i [v] 0 w (fun j hj => by simpa using (h j (by simpa using hj)).1) (fun j hj => by simpa using (h j (by simpa using hj)).2) (fun u hu => by simp at hu; subst hu; exact hv)
    simp only [Nat.add_zero, World.setCells] at this
    simp [storeVar, sizeOf, typeInfo, hq, hc, hs, this]
theorem wpList_new_int {w : World} {ops : Array Oper} {rest : List Oper} {o : Oper} {a : Act} {Q : Exit → Act → World → Prop} (hgd : o.guard = none) (x : Operand) (ho : o.op = .buildSlice 49 1 #[(0, x)]) (k : Int) (hx : a.eval x = .int .i64 k)
    (h : ∀ w', Blk w' w.heap.size [.int .i64 k] 3 → Below w.heap.size w w' → wpList Try.prog ops Q rest (a.put o.dst (.slice (some ⟨w.heap.size, 0, none⟩) 1 1)) w') : wpList Try.prog ops Q (o :: rest) a w :=
  wpList_slice hgd 49 1 #[(0, x)] ho #[(0, .int .i64 k)] (by simp [hx]) (run_slice_int k w) (h _ (Blk.new w [.int .i64 k] 3) (below_alloc w _))
end Go.Proofs.Ytefaodpbfckmdaa

/- Layer 9: walk.Total at a function without Parts: findHolding, waits, total. -/
namespace Go.Proofs.Ytefaodpbfckmdaa
open Go Go.RowKit

structure Hm (w : World) (x y p m q cap n : Nat) (hd : Bool) (ys : List Value) (lat : Value) : Prop where
  bx : Blk w x [.pointer (some ⟨p, 0, none⟩)] 48
  bl : Blk w y [lat] 49
  s : LS w p m q cap n 1 hd ys
  o : q < x ∧ x < y
theorem Hm.setq {w w1 : World} {x y p m q cap n : Nat} {ys : List Value} {lat : Value} (h : Hm w x y p m q cap n false ys lat) (W : WroteB w w1 q ((lsV n 1 false ys).set 3 (.bool true)) 51) : Hm w1 x y p m q cap n true ys lat :=
  ⟨W.keep h.bx (by have := h.o; omega), W.keep h.bl (by have := h.o; omega), ⟨W.keep h.s.h (by have := h.s.ne; omega), W.blk, h.s.ne⟩, h.o⟩
theorem Hm.kept {w w1 : World} {x y p m q cap n : Nat} {hd : Bool} {ys : List Value} {lat : Value} (h : Hm w x y p m q cap n hd ys lat) (b : Below w.heap.size w w1) : Hm w1 x y p m q cap n hd ys lat := ⟨h.bx.kept b, h.bl.kept b, h.s.kept b, h.o⟩
theorem Hm.sety {w w1 : World} {x y p m q cap n : Nat} {hd : Bool} {ys : List Value} {lat lat' : Value} (h : Hm w x y p m q cap n hd ys lat) (W : WroteB w w1 y [lat'] 49) : Hm w1 x y p m q cap n hd ys lat' :=
  ⟨W.keep h.bx (by have := h.o; omega), W.blk, h.s.other W (by have := h.o; have := h.s.ne; omega) (by have := h.o; omega), h.o⟩
def MeetP (u w' : World) (B x y p m q cap n : Nat) (ys : List Value) : Prop := ∃ g c zs, Hm w' x y p m q cap n true ys (.slice (some ⟨g, 0, none⟩) 1 c) ∧ Blk w' g (.int .i64 0 :: zs) 3 ∧ y < g ∧ Below B u w'
set_option maxRecDepth 100000 in
set_option maxHeartbeats 2000000 in
theorem ev_meet (u w : World) (B x y p m q cap n : Nat) (ys : List Value) (h : Hm w x y p m q cap n false ys (.slice none 0 0)) (hb : Below B u w) (hB : B ≤ p) :
    Calls Try.prog 20 #[.int .i64 0, .pointer (some ⟨x, 0, none⟩), .pointer (some ⟨y, 0, none⟩)] w fun e w' => e = .returned (.tuple #[]) ∧ MeetP u w' B x y p m q cap n ys := by
  have HM : Hid (Hm w x y p m q cap n false ys (.slice none 0 0) ∧ Below B u w ∧ B ≤ p) := ⟨h, hb, hB⟩
  have c0 := h.bx.cell 0 (v := .pointer (some ⟨p, 0, none⟩)) rfl
  have c3 := h.s.c3
  have q3 := h.s.q3
  clear h hb hB
  go_enter Try.func20, Try.ntmps20
  go_wp2_with (first
    | (refine wpList_store1 rfl 4 (.tmp 19) _ rfl rfl q 3 (.bool true) _ _ (by kernel_rfl) rfl (store_one _ _ (by kernel_rfl) rfl rfl _ _) HM.out.1.s.l (by simp [lsV]) ?_
       intro w1 W1
       have HM1 : Hid (Hm w1 x y p m q cap n true ys (.slice none 0 0) ∧ Below B u w1 ∧ B ≤ p) := ⟨HM.out.1.setq W1, W1.below (by have := HM.out.2.2; have := HM.out.1.s.ne; omega) HM.out.2.1, HM.out.2.2⟩
       clear W1 HM c0 c3 q3
       have y0 := HM1.out.1.bl.cell 0 (v := .slice none 0 0) rfl)
    | (refine wpList_new_int rfl (.tmp 21) rfl 0 (by kernel_rfl) ?_
       intro w2 N2 B2
       have HM2 : Hid (Hm w2 x y p m q cap n true ys (.slice none 0 0) ∧ Below B u w2 ∧ B ≤ p) := ⟨HM1.out.1.kept B2, Below.trans HM1.out.2.1 (B2.mono (by have := HM1.out.2.2; have := HM1.out.1.s.h.lt; omega)), HM1.out.2.2⟩
       clear B2 HM1 y0)
    | (refine wpList_append_new rfl (.tmp 20) (.tmp 22) 49 3 (.int .i64 0) 1 8 rfl Try.underlying49 Try.infoIntT rfl (by decide) (by decide) (by kernel_rfl) _ 1 _ _ (by kernel_rfl) N2 rfl (by simp [Value.oneCell']) ?_
       intro g c zs w3 hg N3 B3
       have HM3 : Hid (Hm w3 x y p m q cap n true ys (.slice none 0 0) ∧ Below B u w3 ∧ B ≤ p ∧ Blk w3 g (.int .i64 0 :: zs) 3 ∧ y < g) := ⟨HM2.out.1.kept B3, Below.trans HM2.out.2.1 (B3.mono (by have := HM2.out.2.2; have := HM2.out.1.s.h.lt; omega)), HM2.out.2.2, N3, by have := HM2.out.1.bl.lt; omega⟩
       clear B3 HM2 hg N3 N2)
    | (refine wpList_store1 rfl 49 (.tmp 2) (.tmp 23) rfl rfl y 0 (.slice (some ⟨g, 0, none⟩) 1 c) _ _ (by kernel_rfl) (by kernel_rfl) (store_one _ _ (by kernel_rfl) rfl rfl _ _) HM3.out.1.bl (by simp) ?_
       intro w4 W4
       have HM4 : Hid (Hm w4 x y p m q cap n true ys (.slice (some ⟨g, 0, none⟩) 1 c) ∧ Blk w4 g (.int .i64 0 :: zs) 3 ∧ y < g ∧ Below B u w4) := ⟨HM3.out.1.sety W4, W4.keep HM3.out.2.2.2.1 (by have := HM3.out.2.2.2.2; omega), HM3.out.2.2.2.2, W4.below (by have := HM3.out.2.2.1; have := HM3.out.1.s.ne; have := HM3.out.1.o; omega) HM3.out.2.1⟩
       clear W4 HM3))
  go_end0
  exact ⟨rfl, g, c, zs, HM4.out⟩
def HoldP (u w' : World) (B p m q cap n : Nat) (ys : List Value) : Prop := LS w' p m q cap n 1 true ys ∧ Below B u w'
set_option maxRecDepth 100000 in
set_option maxHeartbeats 4000000 in
theorem ev_hold (u w : World) (B p m q cap n : Nat) (ys : List Value) (h : LS w p m q cap n 1 false ys) (hb : Below B u w) (hB : B ≤ p) :
    Calls Try.prog 17 #[.pointer (some ⟨p, 0, none⟩)] w fun e w' => e = .returned (.tuple #[]) ∧ HoldP u w' B p m q cap n ys := by
  have hmf : ∀ (fn : Fn) (first cap : Array Value) (w : World), (Instr.makeFunc fn first cap).run Try.prog w = .ok (.func fn first cap) w := fun _ _ _ _ => rfl
  have A0 := allocs_below [.cells #[.pointer (some ⟨p, 0, none⟩)] 48, .cells #[.slice none 0 0] 49] w
  have A1 := allocs_heap [.cells #[.pointer (some ⟨p, 0, none⟩)] 48, .cells #[.slice none 0 0] 49] w
  simp only [List.foldl] at A0 A1
  have h0 : Hm _ w.heap.size (w.heap.size + 1) p m q cap n false ys (.slice none 0 0) := ⟨A1 0 (by simp), A1 1 (by simp), h.kept A0, h.l.lt, by omega⟩
  have HM : Hid (Hm _ w.heap.size (w.heap.size + 1) p m q cap n false ys (.slice none 0 0) ∧ Below B u _ ∧ B ≤ p) := ⟨h0, hb.trans (A0.mono (by have := h.h.lt; omega)), hB⟩
  have x0 := h0.bx.cell 0 (v := .pointer (some ⟨p, 0, none⟩)) rfl
  have c3 := h0.s.c3
  have q1 := h0.s.q1
  clear h hb hB A0 A1 h0
  go_enter Try.func17, Try.ntmps17
  go_wp2_with fail
  generalize (w.alloc (.cells #[.pointer (some ⟨p, 0, none⟩)] 48)).alloc (.cells #[.slice none 0 0] 49) = w0 at *
  clear hmf
  refine wp_loop_rounds 2 ?_
  rw [rounds_succ]
  have hm := ev_meet u w0 B w.heap.size (w.heap.size + 1) p m q cap n ys HM.out.1 HM.out.2.1 HM.out.2.2
  go_wp2_with fail
  refine hm.mono ?_
  rintro _ w1 ⟨rfl, g, c, zs, hM, hG, hy, hb⟩
  have HM1 : Hid (Hm w1 w.heap.size (w.heap.size + 1) p m q cap n true ys (.slice (some ⟨g, 0, none⟩) 1 c) ∧ Below B u w1 ∧ B ≤ p ∧ w.heap.size + 1 < g) := ⟨hM, hb, HM.out.2.2, hy⟩
  have y0 := hM.bl.cell 0 (v := .slice (some ⟨g, 0, none⟩) 1 c) rfl
  have g0 := hG.cell 0 (v := .int .i64 0) rfl
  clear hm hM hb hy HM x0 c3 q1 hG
  go_wp2_with fail
  rw [rounds_succ]
  go_wp2_with fail
  refine wp_loop_rounds 2 ?_
  rw [rounds_succ]
  go_wp2_with (first
    | (refine wpList_store1 rfl 49 (.tmp 2) (.tmp 43) rfl rfl (w.heap.size + 1) 0 (.slice (some ⟨g, 0, none⟩) 0 c) _ _ (by kernel_rfl) (by kernel_rfl) (store_one _ _ (by kernel_rfl) rfl rfl _ _) HM1.out.1.bl (by simp) ?_
       intro w2 W2
       have HM2 : Hid (Hm w2 w.heap.size (w.heap.size + 1) p m q cap n true ys (.slice (some ⟨g, 0, none⟩) 0 c) ∧ Below B u w2) := ⟨HM1.out.1.sety W2, W2.below (by have := HM1.out.2.2.1; have := HM1.out.1.s.ne; have := HM1.out.1.o; omega) HM1.out.2.1⟩
       clear W2 HM1 y0 g0
       have y2 := HM2.out.1.bl.cell 0 (v := .slice (some ⟨g, 0, none⟩) 0 c) rfl
       have x2 := HM2.out.1.bx.cell 0 (v := .pointer (some ⟨p, 0, none⟩)) rfl
       have c32 := HM2.out.1.s.c3
       have q22 := HM2.out.1.s.q2))
  refine wp_loop_rounds 1 ?_
  rw [rounds_succ]
  go_wp2_with fail
  rw [rounds_succ]
  go_wp2_with fail
  go_end0
  exact ⟨rfl, HM2.out.1.s, HM2.out.2⟩
end Go.Proofs.Ytefaodpbfckmdaa

/- Layer 9: walk.Total at a function without Parts: waits, total. -/
namespace Go.Proofs.Ytefaodpbfckmdaa
open Go Go.RowKit

theorem run_make1 (w : World) : (Instr.makeSlice 49 (.int .i64 1) (.int .i64 1)).run Try.prog w = .ok (.slice (some ⟨w.heap.size, 0, none⟩) 1 1) (w.alloc (.cells #[.int .i64 0] 3)) := by
  kernel_rfl
def zLs : List Value := [.slice none 0 0, .int .i64 0, .slice none 0 0, .bool false]
theorem alloc_ls (w : World) : (Instr.alloc 51 true (.tuple #[])).run Try.prog w = .ok (.pointer (some ⟨w.heap.size, 0, none⟩)) (w.alloc (.cells zLs.toArray 51)) := by
  kernel_rfl
theorem LS.range {w : World} {p m q cap n : Nat} {own : Int} {hd : Bool} {ys : List Value} (h : LS w p m q cap n own hd ys) : w.rangeAt q 0 [.slice (some ⟨n, 0, none⟩) 1 1, .int .i64 own, .slice none 0 0, .bool hd] := fun j v hv => by
  refine h.l.range j v ?_
  have hj : j < 4 := by have := (List.getElem?_eq_some_iff.1 hv).1; simpa using this
  match j, hj with
  | 0, _ => exact hv
  | 1, _ => exact hv
  | 2, _ => exact hv
  | 3, _ => exact hv
set_option maxRecDepth 100000 in
set_option maxHeartbeats 2000000 in
theorem ev_waits (w : World) (p m q cap n : Nat) (ys : List Value) (h : LS w p m q cap n 1 true ys) :
    Calls Try.prog 21 #[.pointer (some ⟨p, 0, none⟩)] w fun e w' => e = .returned (.slice (some ⟨w.heap.size, 0, none⟩) 1 1) ∧ Blk w' w.heap.size [.int .i64 0] 3 ∧ Below w.heap.size w w' := by
  have c3 := h.c3
  have hmk := run_make1
  have hal := alloc_ls
  have A0 := below_alloc w (.cells #[.int .i64 0] 3)
  have N0 : Blk (w.alloc (.cells #[.int .i64 0] 3)) w.heap.size [.int .i64 0] 3 := Blk.new _ _ _
  have HI : Hid (LS (w.alloc (.cells #[.int .i64 0] 3)) p m q cap n 1 true ys ∧ Below w.heap.size w (w.alloc (.cells #[.int .i64 0] 3)) ∧ Blk (w.alloc (.cells #[.int .i64 0] 3)) w.heap.size [.int .i64 0] 3) := ⟨h.kept A0, A0, N0⟩
  have c31 := HI.out.1.c3
  clear h A0 N0
  go_enter Try.func21, Try.ntmps21
  go_wp2_with fail
  generalize w.alloc (.cells #[.int .i64 0] 3) = w1 at *
  refine wp_loop_rounds 2 ?_
  rw [rounds_succ]
  go_wp2_with (first
    | (refine wpList_load_mid rfl 51 (.tmp 21) rfl q 0 (by kernel_rfl) _ _ HI.out.1.range Try.underlying51 rfl (by kernel_rfl) ?_)
    | (refine wpList_store_blk rfl rfl 51 (.tmp 5) (.tmp 22) rfl w1.heap.size [.slice (some ⟨n, 0, none⟩) 1 1, .int .i64 1, .slice none 0 0, .bool true] (by kernel_rfl) (by kernel_rfl) rfl (Blk.new w1 zLs _) rfl (by kernel_rfl) ?_
       intro w2 W2
       have HI2 : Hid (Blk w2 w.heap.size [.int .i64 0] 3 ∧ Below w.heap.size w w2) := ⟨W2.keep (HI.out.2.2.kept (below_alloc _ _)) (by have := HI.out.2.2.lt; omega), W2.below (by have := HI.out.2.2.lt; omega) (HI.out.2.1.alloc (by have := HI.out.2.2.lt; omega) _)⟩
       have d2 := W2.blk.cell 2 (v := .slice none 0 0) rfl
       have d3 := W2.blk.cell 3 (v := .bool true) rfl
       clear W2 HI c3 c31))
  refine wp_loop_rounds 1 ?_
  rw [rounds_succ]
  go_wp2_with fail
  rw [rounds_succ]
  go_wp2_with fail
  go_ret
  exact ⟨rfl, HI2.out⟩
structure Tt (w : World) (a b : Nat) (x : Int) : Prop where
  ba : Blk w a [.int .i64 0] 3
  bb : Blk w b [.int .i64 x] 3
  ne : a ≠ b
def TtP (u wx : World) (B p m q cap n : Nat) (ys : List Value) (a b : Nat) (x : Int) : Prop := Tt wx a b x ∧ LS wx p m q cap n 1 true ys ∧ Below B u wx ∧ B ≤ b ∧ q < a ∧ q < b
theorem ttA {u w w1 : World} {B p m q cap n : Nat} {ys : List Value} (h : LS w p m q cap n 1 true ys ∧ Below B u w ∧ B ≤ p) (k0 : Blk w1 w.drew.heap.size [.int .i64 0] 3 ∧ Below w.drew.heap.size w.drew w1) : TtP u (w1.alloc (.cells #[.int .i64 0] 3)) B p m q cap n ys w.heap.size w1.heap.size 0 := by
  have k : Blk w1 w.heap.size [.int .i64 0] 3 ∧ Below w.heap.size w w1 := ⟨k0.1, (Below.refl _ _).drew.trans k0.2⟩
  have h1 := h.1.l.lt
  have h2 := h.1.ne
  have h3 := h.2.2
  have h4 := k.1.lt
  have b1 := below_alloc w1 (.cells #[.int .i64 0] 3)
  exact ⟨⟨k.1.kept b1, Blk.new w1 _ _, by omega⟩, (h.1.kept k.2).kept b1, (h.2.1.trans (k.2.mono (by omega))).trans (b1.mono (by omega)), by omega, by omega, by omega⟩
theorem ttB {u w w1 : World} {B p m q cap n : Nat} {ys : List Value} (h : LS w p m q cap n 1 true ys ∧ Below B u w ∧ B ≤ p) (k0 : Blk w1 (w.alloc (.cells #[.int .i64 0] 3)).drew.heap.size [.int .i64 0] 3 ∧ Below (w.alloc (.cells #[.int .i64 0] 3)).drew.heap.size (w.alloc (.cells #[.int .i64 0] 3)).drew w1) : TtP u w1 B p m q cap n ys (w.heap.size + 1) w.heap.size 0 := by
  have e : (w.alloc (.cells #[.int .i64 0] 3)).drew.heap.size = w.heap.size + 1 := alloc_size _ _
  rw [e] at k0
  have b1 : Below w.heap.size w (w.alloc (.cells #[.int .i64 0] 3)).drew := (below_alloc w _).drew
  have h1 := h.1.l.lt
  have h2 := h.1.ne
  have h3 := h.2.2
  have h4 := k0.1.lt
  have b2 : Below w.heap.size w w1 := b1.trans (k0.2.mono (by omega))
  have n0 : Blk (w.alloc (.cells #[.int .i64 0] 3)).drew w.heap.size [.int .i64 0] 3 := Blk.new w [.int .i64 0] _
  exact ⟨⟨k0.1, n0.kept (by rw [e]; exact k0.2), by omega⟩, h.1.kept b2, h.2.1.trans (b2.mono (by omega)), by omega, by omega, by omega⟩
set_option maxRecDepth 100000 in
set_option maxHeartbeats 4000000 in
theorem ev_total (u w : World) (B p m q cap n : Nat) (ys : List Value) (h : LS w p m q cap n 1 true ys) (hb : Below B u w) (hB : B ≤ p) :
    Calls Try.prog 18 #[.pointer (some ⟨p, 0, none⟩), .int .i64 9223372036854775807] w fun e w' => e = .returned (.int .i64 1) ∧ Below B u w' := by
  have HI : Hid (LS w p m q cap n 1 true ys ∧ Below B u w ∧ B ≤ p) := ⟨h, hb, hB⟩
  have c3 := h.c3
  have hmk := run_make1
  clear h hb hB
  go_enter Try.func18, Try.ntmps18
  go_wp2_with fail
  go_cut [5, 6] from 12 to 19 (fun va vb wx => ∃ a b, va = .slice (some ⟨a, 0, none⟩) 1 1 ∧ vb = .slice (some ⟨b, 0, none⟩) 1 1 ∧ Hid (TtP u wx B p m q cap n ys a b 0))
  · have D0 : Below w.heap.size w w.drew := (Below.refl _ _).drew
    have L0 : Hid (LS w.drew p m q cap n 1 true ys) := HI.out.1.kept D0
    have D1 : Below w.heap.size w (w.alloc (.cells #[.int .i64 0] 3)).drew := (below_alloc w _).drew
    have L1 : Hid (LS (w.alloc (.cells #[.int .i64 0] 3)).drew p m q cap n 1 true ys) := HI.out.1.kept D1
    have c3d := L0.out.c3
    go_region_with (
      go_at_call 21
      refine (ev_waits _ p m q cap n ys ?_).mono ?_
      · first
          | with_reducible exact L0.out
          | with_reducible exact L1.out
      rintro _ w1 ⟨rfl, hN, hb⟩
      have l2 : LS w1 p m q cap n 1 true ys := by
        first
          | with_reducible exact L0.out.kept hb
          | with_reducible exact L1.out.kept hb
      have L2 : Hid (LS w1 p m q cap n 1 true ys) := l2
      have c32 := l2.c3
      have HA := show Hid _ from And.intro hN hb
      clear l2 hN hb)
    all_goals go_wp2
    all_goals go_meet
    all_goals first
      | exact ⟨_, _, rfl, rfl, ttA HI.out HA.out⟩
      | (exact ⟨_, _, rfl, rfl, ttB HI.out HA.out⟩)
  case rest =>
    obtain ⟨a, b, rfl, rfl, HT⟩ := hcut
    have HJ : Hid (TtP u wc B p m q cap n ys a b 0) := HT
    have k3 := HJ.out.2.1.c3
    have q1 := HJ.out.2.1.q1
    have b0 := HJ.out.1.bb.cell 0 (v := .int .i64 0) rfl
    clear HT HI c3 hmk
    go_wp2_with fail
    refine wp_loop_rounds 2 ?_
    rw [rounds_succ]
    go_wp2_with (first
      | (refine wpList_store1 rfl 3 (.tmp 40) (.tmp 39) rfl rfl b 0 (.int .i64 1) _ _ (by kernel_rfl) (by kernel_rfl) (store_one _ _ (by kernel_rfl) rfl rfl _ _) HJ.out.1.bb (by simp) ?_
         intro w2 W2
         have HK : Hid (TtP u w2 B p m q cap n ys a b 1) := ⟨⟨W2.keep HJ.out.1.ba HJ.out.1.ne, W2.blk, HJ.out.1.ne⟩, HJ.out.2.1.other W2 (by have := HJ.out.2.1.ne; have := HJ.out.2.2.2.2.2; omega) (by have := HJ.out.2.2.2.2.2; omega), W2.below HJ.out.2.2.2.1 HJ.out.2.2.1, HJ.out.2.2.2⟩
         clear W2 HJ k3 q1 b0
         have k3 := HK.out.2.1.c3
         have q2 := HK.out.2.1.q2
         have q3 := HK.out.2.1.q3
         have a0 := HK.out.1.ba.cell 0 (v := .int .i64 0) rfl
         have b0 := HK.out.1.bb.cell 0 (v := .int .i64 1) rfl)
      | (refine wpList_new_int rfl (.tmp 57) rfl 0 (by kernel_rfl) ?_
         intro w3 N3 B3
         have HL : Hid (TtP u w3 B p m q cap n ys a b 1 ∧ B ≤ w3.heap.size) := ⟨⟨⟨HK.out.1.ba.kept B3, HK.out.1.bb.kept B3, HK.out.1.ne⟩, HK.out.2.1.kept B3, HK.out.2.2.1.trans (B3.mono (by have := HK.out.2.2.2.1; have := HK.out.1.bb.lt; omega)), HK.out.2.2.2⟩, by have := HK.out.2.2.2.1; have := HK.out.1.bb.lt; have := B3.size; omega⟩
         clear B3 HK k3 q2 q3 a0 b0)
      | (refine wpList_append_new rfl (.tmp 56) (.tmp 58) 49 3 (.int .i64 0) 1 8 rfl Try.underlying49 Try.infoIntT rfl (by decide) (by decide) (by kernel_rfl) _ 1 _ _ (by kernel_rfl) N3 rfl (by simp [Value.oneCell']) ?_
         intro g c zs w4 hg N4 B4
         have HM : Hid (TtP u w4 B p m q cap n ys a b 1) := ⟨⟨HL.out.1.1.ba.kept B4, HL.out.1.1.bb.kept B4, HL.out.1.1.ne⟩, HL.out.1.2.1.kept B4, HL.out.1.2.2.1.trans (B4.mono HL.out.2), HL.out.1.2.2.2⟩
         have g0 := N4.cell 0 (v := .int .i64 0) rfl
         clear B4 HL hg N4 N3
         have k3 := HM.out.2.1.c3
         have q2 := HM.out.2.1.q2
         have a0 := HM.out.1.ba.cell 0 (v := .int .i64 0) rfl
         have b0 := HM.out.1.bb.cell 0 (v := .int .i64 1) rfl))
    rw [rounds_succ]
    go_wp2_with fail
    refine wp_loop_rounds 2 ?_
    rw [rounds_succ]
    go_wp2_with fail
    refine wp_loop_rounds 1 ?_
    rw [rounds_succ]
    go_wp2_with fail
    rw [rounds_succ]
    go_wp2_with fail
    go_ret
    exact ⟨rfl, HM.out.2.2.1⟩
end Go.Proofs.Ytefaodpbfckmdaa
