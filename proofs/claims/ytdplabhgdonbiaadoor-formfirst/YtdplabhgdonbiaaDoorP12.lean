/- Layer 6: walk.Deep, and syntax.Nest. -/
import Derived.Test.YtdplabhgdonbiaaDoorP11
import Derived.Deep.AppendLies
import Derived.Deep.DeepCutAuto
import Derived.Test.YtdplabhgdonbiaaDoorP10
import Derived.Laws.AppendOwnNone
import Derived.Test.YtdplabhgdonbiaaDoorP9
import Derived.Test.YtdplabhgdonbiaaDoorP2
import Derived.Deep.MidRow
namespace Go.Proofs.YtdplabhgdonbiaaDoor
open Go.RowKit

def exv (e : Ex) : Value := .slice e.ao e.len e.cap
/-- A list of lists of expressions. -/
def LAt (w : World) (v : Value) (L : List Ex) : Prop := ∃ ao b o cap, v = .slice ao L.length cap ∧ (0 < L.length → ao = some ⟨b, o, none⟩) ∧ (∀ i e, L[i]? = some e → w.cell? ⟨b, o + i, none⟩ = some (exv e)) ∧ ∀ e ∈ L, e.At w ∧ e.Pl w ∧ 0 < e.len
theorem eown_lt {w : World} {base : Nat} {e : TypeId} {size : Nat} {v : Value} {n : Nat} {xs : List Value} (h : w.ownsRow base e size v n xs) {b : Nat} (hb : v.ownBlock = some b) : base ≤ b ∧ b < w.heap.size := by
  obtain ⟨_, ⟨rfl, _⟩ | ⟨g, cap, cur, rfl, hg, hh, _⟩⟩ := h
  · cases hb
  · have : g = b := by simpa [Value.ownBlock] using hb
    subst this
    exact ⟨hg, by rcases Nat.lt_or_ge g w.heap.size with h1 | h1; exact h1; rw [Array.getElem?_eq_none h1] at hh; cases hh⟩
theorem eown_blk {w w' : World} {base : Nat} {e : TypeId} {size : Nat} {v : Value} {n : Nat} {xs : List Value} (h : w.ownsRow base e size v n xs) (hb : ∀ b, v.ownBlock = some b → w'.heap[b]? = w.heap[b]?) : w'.ownsRow base e size v n xs := by
  obtain ⟨hl, h⟩ := h
  refine ⟨hl, ?_⟩
  rcases h with ⟨rfl, hn⟩ | ⟨g, cap, cur, rfl, hg, hh, hr⟩
  · exact Or.inl ⟨rfl, hn⟩
  · exact Or.inr ⟨g, cap, cur, rfl, hg, by rw [hb g rfl]; exact hh, hr⟩
theorem eown_up {w w' : World} {base : Nat} {e : TypeId} {size : Nat} {v : Value} {n : Nat} {xs : List Value} (h : w.ownsRow base e size v n xs) (hb : Below w.heap.size w w') : w'.ownsRow base e size v n xs :=
  eown_blk h fun b e => hb.block b (eown_lt h e).2
theorem eown_form {w : World} {base : Nat} {e : TypeId} {size : Nat} {v : Value} {n : Nat} {xs : List Value} (h : w.ownsRow base e size v n xs) : ∃ ao cap, v = .slice ao n cap := by
  obtain ⟨_, ⟨rfl, rfl⟩ | ⟨g, cap, cur, rfl, _⟩⟩ := h
  · exact ⟨none, 0, rfl⟩
  · exact ⟨_, cap, rfl⟩
theorem Keys.kept {w w' : World} {es : Array MapEntry} {ks : List (Addr × Nat)} (h : Keys w es ks) (hb : Below w.heap.size w w') : Keys w' es ks := ⟨h.keys, h.vals, fun k hk => (h.plain k hk).kept hb⟩
theorem eblock_lt {w : World} {k : Nat} {o : Obj} (h : w.heap[k]? = some o) : k < w.heap.size := by
  rcases Nat.lt_or_ge k w.heap.size with h1 | h1
  · exact h1
  · rw [Array.getElem?_eq_none h1] at h; cases h
theorem kids_pre {L : List Ex} {j q : Nat} {e : Ex} (he : L[j]? = some e) (hq : q < e.len) : nsum (kids (L.take j) ++ (List.range (q + 1)).map e.ps) ≤ nsum (kids L) := by
  have hj : j < L.length := by
    rcases Nat.lt_or_ge j L.length with h | h
    · exact h
    · rw [List.getElem?_eq_none h] at he; cases he
  have e1 : L = L.take j ++ e :: L.drop (j + 1) := by
    have h1 := (List.take_append_drop j L).symm
    have h2 : L.drop j = L[j] :: L.drop (j + 1) := List.drop_eq_getElem_cons hj
    have h3 : L[j] = e := by rw [List.getElem?_eq_getElem hj] at he; exact Option.some.inj he
    rw [h2, h3] at h1
    exact h1
  have e2 : kids L = kids (L.take j) ++ (kid e ++ kids (L.drop (j + 1))) := by
    conv => lhs; rw [e1]
    unfold kids
    rw [List.flatMap_append, List.flatMap_cons]
  have e3 : kid e = (List.range (q + 1)).map e.ps ++ ((List.range (e.len - (q + 1))).map (fun i => e.ps (q + 1 + i))) := by
    unfold kid
    conv => lhs; rw [show e.len = (q + 1) + (e.len - (q + 1)) by omega, List.range_add, List.map_append, List.map_map]
    rfl
  rw [e2, e3, nsum_append, nsum_append, nsum_append, nsum_append]
  omega
theorem kids_take {L : List Ex} {j : Nat} {e : Ex} (he : L[j]? = some e) : kids (L.take (j + 1)) = kids (L.take j) ++ (List.range e.len).map e.ps := by
  rw [List.take_add_one, he]
  unfold kids
  rw [List.flatMap_append]
  simp [kid]
/-- A list of this one alone. -/
def lone1 (B : Nat) (t : Ex) : Ex := .mk 0 0 0 ⟨#[]⟩ ⟨#[]⟩ (.mk 0 0 0 0 none 0 0 0 0 fun _ => .dm) (.mk 0 0 0 0 none 0 0 0 0 fun _ => .dm) (some ⟨B, 0, none⟩) B 0 1 1 (fun _ => t) 0
theorem lone1_at {w : World} {B : Nat} {t : Ex} (h : t.At w) (hc : C17 w B 0 t) : (lone1 B t).At w :=
  ⟨⟨by decide, by decide⟩, ⟨⟨fun h => absurd h (Nat.lt_irrefl 0), by decide, fun i hi => absurd hi (Nat.not_lt_zero _)⟩, ⟨fun h => absurd h (Nat.lt_irrefl 0), by decide, fun i hi => absurd hi (Nat.not_lt_zero _)⟩⟩, fun _ => rfl, by decide, fun i hi => by
    have : i = 0 := by omega
    subst this
    exact ⟨by simpa using hc, h⟩⟩
end Go.Proofs.YtdplabhgdonbiaaDoor

/- Layer 6: lists of expressions that are written out; walk.Deep, syntax.Nest. -/
namespace Go.Proofs.YtdplabhgdonbiaaDoor
open Go.RowKit

theorem fill1_ex (t : Ex) : Instr.fill (fun i => some (i * 17, 17)) (Array.map (fun x => zEx[x % zEx.length]?.getD default) (Array.range 17)) [(0, Value.agg t.va)] = some t.va := by kernel_rfl
theorem fill2_ex (s t : Ex) : Instr.fill (fun i => some (i * 17, 17)) (Array.map (fun x => zEx[x % zEx.length]?.getD default) (Array.range 34)) [(0, Value.agg s.va), (1, Value.agg t.va)] = some (s.va ++ t.va) := by kernel_rfl
theorem fill3_ex (r s t : Ex) : Instr.fill (fun i => some (i * 17, 17)) (Array.map (fun x => zEx[x % zEx.length]?.getD default) (Array.range 51)) [(0, Value.agg r.va), (1, Value.agg s.va), (2, Value.agg t.va)] = some (r.va ++ s.va ++ t.va) := by kernel_rfl
/-- A list that is written out, where its run is known. -/
theorem wpList_slice {ops : Array Oper} {rest : List Oper} {o : Oper} {a : Act} {w w' : World} {v : Value} {Q : Exit → Act → World → Prop} (hgd : o.guard = none) (t : TypeId) (n : Nat) (parts : Array (Nat × Operand)) (ho : o.op = .buildSlice t n parts) (vals : Array (Nat × Value)) (hv : (parts.map fun (i, x) => (i, a.eval x)) = vals)
    (hs : (Instr.buildSlice t n vals).run Tryd.prog w = .ok v w') (h : wpList Tryd.prog ops Q rest (a.put o.dst v) w') : wpList Tryd.prog ops Q (o :: rest) a w := by
  subst hv
  refine wpList_plain hgd fun _ hK => ?_
  unfold Oper.wp execOp
  simp only [ho, Sem.run_bind, hs, Result.andThen_ok, Sem.run_pure]
  exact hK _ _ h
theorem C17.ofB {w : World} {B : Nat} {e : Ex} (h : Bex w B e) : C17 w B 0 e := C17.of_range h.range
theorem plain_new (w : World) (c : Array Value) (t : TypeId) : PlainAt (w.alloc (.cells c t)) w.heap.size := ⟨c, t, heap_alloc_new _ _⟩
theorem LAt.kids_ne {w : World} {v : Value} {L : List Ex} (h : LAt w v L) (hl : 0 < L.length) : kids L ≠ [] := by
  obtain ⟨_, _, _, _, _, _, _, hA⟩ := h
  match L, hl with
  | e :: L, _ =>
    have h1 := (hA e (List.mem_cons_self ..)).2.2
    intro hq
    have : e.ps 0 ∈ kids (e :: L) := mem_kids.2 ⟨e, List.mem_cons_self .., mem_kid.2 ⟨0, h1, rfl⟩⟩
    rw [hq] at this
    cases this
theorem LAt.form {w : World} {v : Value} {L : List Ex} (h : LAt w v L) : ∃ ao cap, v = .slice ao L.length cap := by
  obtain ⟨ao, _, _, cap, h, _⟩ := h
  exact ⟨ao, cap, h⟩
theorem LAt.at {w : World} {v : Value} {L : List Ex} (h : LAt w v L) : ∀ e ∈ L, e.At w := by
  obtain ⟨_, _, _, _, _, _, _, hA⟩ := h
  exact fun e he => (hA e he).1
end Go.Proofs.YtdplabhgdonbiaaDoor

/- Variables as whole blocks. -/
namespace Go.Proofs.YtdplabhgdonbiaaDoor
open Go Go.RowKit

/-- A block that holds just these values, unmarked. -/
def Blk (w : World) (B : Nat) (c : List Value) (t : TypeId) : Prop := w.heap[B]? = some (.cells c.toArray t (0, 0))
theorem Blk.lt {w : World} {B : Nat} {c : List Value} {t : TypeId} (h : Blk w B c t) : B < w.heap.size := eblock_lt h
theorem Blk.kept {w w' : World} {B : Nat} {c : List Value} {t : TypeId} (h : Blk w B c t) (hb : Below w.heap.size w w') : Blk w' B c t := by
  unfold Blk; rw [hb.block B h.lt]; exact h
theorem Blk.cell {w : World} {B : Nat} {c : List Value} {t : TypeId} (h : Blk w B c t) (i : Nat) {v : Value} (hv : c[i]? = some v) : w.cell? ⟨B, i, none⟩ = some v := by
  unfold Blk at h
  simp [World.cell?, h, hv]
theorem Blk.frozen {w : World} {B : Nat} {c : List Value} {t : TypeId} (h : Blk w B c t) (i : Nat) : w.frozen? ⟨B, i, none⟩ = false := by
  unfold Blk at h
  simp [World.frozen?, h]
theorem Blk.there {w : World} {B : Nat} {c : List Value} {t : TypeId} (h : Blk w B c t) : w.there B 0 c.length := there_of h
theorem Blk.range {w : World} {B : Nat} {c : List Value} {t : TypeId} (h : Blk w B c t) : w.rangeAt B 0 c := fun j v hv => by rw [Nat.zero_add]; exact h.cell j hv
theorem Blk.new (w : World) (c : List Value) (t : TypeId) : Blk (w.alloc (.cells c.toArray t)) w.heap.size c t := heap_alloc_new _ _
theorem Blk.plain {w : World} {B : Nat} {c : List Value} {t : TypeId} (h : Blk w B c t) : PlainAt w B := ⟨_, _, h⟩
/-- One block written, all else as it was. -/
structure WroteB (w w' : World) (B : Nat) (c : List Value) (t : TypeId) : Prop where
  blk : Blk w' B c t
  other : ∀ b, b ≠ B → w'.heap[b]? = w.heap[b]?
  size : w'.heap.size = w.heap.size
  below : ∀ {B0 : Nat} {a : World}, B0 ≤ B → Below B0 a w → Below B0 a w'
theorem WroteB.keep {w w' : World} {B B' : Nat} {c c' : List Value} {t t' : TypeId} (h : WroteB w w' B c t) (hb : Blk w B' c' t') (hne : B' ≠ B) : Blk w' B' c' t' := by unfold Blk; rw [h.other _ hne]; exact hb
theorem setCells_heap (b : Nat) : ∀ (vs : List Value) (o : Nat) (w : World) (k : Nat), k ≠ b → (w.setCells b o vs).heap[k]? = w.heap[k]?
  | [], _, _, _, _ => rfl
  | v :: vs, o, w, k, h => by
    rw [World.setCells, setCells_heap b vs (o + 1) _ k h, Below.heap_setCell _ _ _ _ h]
theorem setCells_size (b : Nat) : ∀ (vs : List Value) (o : Nat) (w : World), (w.setCells b o vs).heap.size = w.heap.size
  | [], _, _ => rfl
  | v :: vs, o, w => by rw [World.setCells, setCells_size b vs (o + 1)]; simp [World.setCell]
theorem setCells_blk (t : TypeId) : ∀ (vs pre post : List Value) (w : World) (B : Nat), post.length = vs.length → Blk w B (pre ++ post) t → Blk (w.setCells B pre.length vs) B (pre ++ vs) t
  | [], pre, post, w, B, h, hb => by
    have e : post = [] := List.eq_nil_of_length_eq_zero h
    subst e; exact hb
  | v :: vs, pre, [], w, B, h, hb => by simp at h
  | v :: vs, pre, p :: post, w, B, h, hb => by
    rw [World.setCells]
    have h1 : Blk (w.setCell ⟨B, pre.length, none⟩ v) B ((pre ++ [v]) ++ post) t := by
      have hl := hb.lt
      unfold Blk at hb ⊢
      have e : ((pre ++ p :: post).toArray.setIfInBounds pre.length v) = ((pre ++ [v]) ++ post).toArray := by
        apply Array.toList_inj.1
        simp
      rw [← e]
      simp [World.setCell, Array.getElem?_modify, hb]
    have k := setCells_blk t vs (pre ++ [v]) post _ B (by simpa using h) h1
    rw [show (pre ++ [v]).length = pre.length + 1 by simp] at k
    simpa using k
theorem wrote_setCells {w : World} {B : Nat} {c : List Value} {t : TypeId} (h : Blk w B c t) (vs : List Value) (hl : c.length = vs.length) : WroteB w (w.setCells B 0 vs) B vs t :=
  ⟨setCells_blk t vs [] c w B hl (by simpa using h), fun b hb => setCells_heap _ _ _ _ _ hb, setCells_size _ _ _ _, fun hB hb => below_setCells hB _ _ _ hb⟩
/-- A value stored whole. -/
theorem wpList_store_blk {w : World} {ops : Array Oper} {rest : List Oper} {o : Oper} {a : Act} {Q : Exit → Act → World → Prop} (hgd : o.guard = none) (hdst : o.dst = none) (t : TypeId) (p x : Operand) (ho : o.op = .store t p x) (B : Nat) (vs : List Value)
    (hp : a.eval p = .pointer (some ⟨B, 0, none⟩)) (hx : a.eval x = .agg vs.toArray) (h1 : vs.all (·.oneCell') = true) {c : List Value} (hb : Blk w B c t) (hl : c.length = vs.length) (hi : (Tryd.prog.info? t).map (·.size) = some vs.toArray.size)
    (h : ∀ w', WroteB w w' B vs t → wpList Tryd.prog ops Q rest a w') : wpList Tryd.prog ops Q (o :: rest) a w := by
  refine wpList_store_mid hgd t p x ho B 0 vs.toArray hp hx ?_ hi (by simpa using h1) ?_
  · have := hb.there; rw [hl] at this; simpa using this
  · rw [hdst]
    exact h _ (wrote_setCells hb vs hl)
/-- Blocks made one behind the other. -/
theorem allocs_heap : ∀ (os : List Obj) (w : World) (i : Nat), i < os.length → (os.foldl World.alloc w).heap[w.heap.size + i]? = os[i]?
  | [], _, i, h => absurd h (Nat.not_lt_zero i)
  | o :: os, w, 0, _ => by
    show (os.foldl World.alloc (w.alloc o)).heap[w.heap.size + 0]? = some o
    have key : ∀ (os : List Obj) (w : World) (k : Nat), k < w.heap.size → (os.foldl World.alloc w).heap[k]? = w.heap[k]? := by
      intro os
      induction os with
      | nil => intro w k _; rfl
      | cons o os ih => intro w k hk; show (os.foldl World.alloc (w.alloc o)).heap[k]? = _; rw [ih _ k (by simp; omega), Below.heap_alloc _ _ _ hk]
    rw [Nat.add_zero, key os _ _ (by simp), heap_alloc_new]
  | o :: os, w, i + 1, h => by
    have := allocs_heap os (w.alloc o) i (by simpa using h)
    show (os.foldl World.alloc (w.alloc o)).heap[w.heap.size + (i + 1)]? = os[i]?
    rw [alloc_size] at this
    rw [← this, show w.heap.size + 1 + i = w.heap.size + (i + 1) by omega]
theorem allocs_below : ∀ (os : List Obj) (w : World), Below w.heap.size w (os.foldl World.alloc w)
  | [], _ => Below.refl _ _
  | o :: os, w => Below.next (below_alloc w o) (allocs_below os (w.alloc o))
theorem allocs_size : ∀ (os : List Obj) (w : World), (os.foldl World.alloc w).heap.size = w.heap.size + os.length
  | [], _ => rfl
  | o :: os, w => by
    show (os.foldl World.alloc (w.alloc o)).heap.size = _
    rw [allocs_size os, alloc_size]; simp; omega
end Go.Proofs.YtdplabhgdonbiaaDoor

/- Layer 14: what the rules of form ask of a number, of counts, of handlers, of a join, of places. -/
namespace Go.Proofs.YtdplabhgdonbiaaDoor
open Go Go.RowKit

set_option maxHeartbeats 4000000 in
theorem between_any (a lo hi : Int) (w : World) : Calls Tryd.prog 26 #[.int .i64 a, .int .i64 lo, .int .i64 hi] w fun e w' => e = .returned (.bool (btw a lo hi)) ∧ Below w.heap.size w w' := by
  have HF : Hid (btw a lo hi = (decide (lo ≤ a) && decide (a < hi))) := rfl
  generalize btw a lo hi = F at *
  by_cases h1 : lo ≤ a
  · have d1 : decide (lo ≤ a) = true := decide_eq_true h1
    have HE : Hid (F = decide (a < hi)) := by show _ = _; rw [HF.out, d1]; rfl
    by_cases h2 : a < hi
    · have d2 : decide (a < hi) = true := decide_eq_true h2
      have HG : Hid (F = true) := HE.out.trans d2
      go_enter Tryd.func26, Tryd.ntmps26
      go_wp2
      go_ret
      exact ⟨ret_bool HG.out.symm, Below.refl _ _⟩
    · have d2 : decide (a < hi) = false := decide_eq_false h2
      have HG : Hid (F = false) := HE.out.trans d2
      go_enter Tryd.func26, Tryd.ntmps26
      go_wp2
      go_ret
      exact ⟨ret_bool HG.out.symm, Below.refl _ _⟩
  · have d1 : decide (lo ≤ a) = false := decide_eq_false h1
    have HE : Hid (F = false) := by show _ = _; rw [HF.out, d1]; rfl
    go_enter Tryd.func26, Tryd.ntmps26
    go_wp2
    go_ret
    exact ⟨ret_bool HE.out.symm, Below.refl _ _⟩

set_option maxHeartbeats 4000000 in
theorem counts_any (f : Cf) (w : World) : Calls Tryd.prog 30 #[.agg f.vs.toArray] w fun e w' => e = .returned (.bool f.cntB) ∧ Below w.heap.size w w' := by
  have B0 := hyd (below_alloc w (.cells f.vs.toArray 43))
  have b := Blk.new w f.vs 43
  have c10 := b.cell 10 rfl
  have c13 := b.cell 13 rfl
  have c14 := b.cell 14 rfl
  have c16 := b.cell 16 rfl
  have HF : Hid (f.cntB = ((decide (0 < f.cd.len) && decide (f.pt.len = f.cd.len)) && decide ((f.c.len : Int) < f.sl))) := rfl
  generalize f.cntB = F at *
  generalize f.vs.toArray = V at *
  clear b
  by_cases h1 : 0 < f.cd.len
  · have d1 : decide ((0 : Int) < f.cd.len) = true := by simp; omega
    have i1 : (0 : Int) < f.cd.len := by omega
    by_cases h2 : f.pt.len = f.cd.len
    · have HE : Hid (F = decide ((f.c.len : Int) < f.sl)) := by show _ = _; rw [HF.out, decide_eq_true h1, decide_eq_true h2]; rfl
      have e2 : ((f.pt.len : Int) == f.cd.len) = true := by simp; omega
      by_cases h3 : (f.c.len : Int) < f.sl
      · have HG : Hid (F = true) := HE.out.trans (decide_eq_true h3)
        clear h2 h1
        go_enter Tryd.func30, Tryd.ntmps30
        go_wp2
        go_ret
        exact ⟨ret_bool HG.out.symm, B0.out⟩
      · have HG : Hid (F = false) := HE.out.trans (decide_eq_false h3)
        clear h2 h1
        go_enter Tryd.func30, Tryd.ntmps30
        go_wp2
        go_ret
        exact ⟨ret_bool HG.out.symm, B0.out⟩
    · have HE : Hid (F = false) := by show _ = _; rw [HF.out, decide_eq_true h1, decide_eq_false h2]; rfl
      have e2 : ((f.pt.len : Int) == f.cd.len) = false := by simp; omega
      clear h2 h1
      go_enter Tryd.func30, Tryd.ntmps30
      go_wp2
      go_ret
      exact ⟨ret_bool HE.out.symm, B0.out⟩
  · have HE : Hid (F = false) := by show _ = _; rw [HF.out, decide_eq_false h1]; rfl
    have i1 : ¬ (0 : Int) < f.cd.len := by omega
    clear h1
    go_enter Tryd.func30, Tryd.ntmps30
    go_wp2
    go_ret
    exact ⟨ret_bool HE.out.symm, B0.out⟩

set_option maxHeartbeats 4000000 in
theorem join_any14 (x : Rn) (n : Nat) (w : World) : Calls Tryd.prog 40 #[.agg #[.int .i64 x.at_, .int .i64 x.join, .slice x.ps.ao x.ps.len x.ps.cap], .int .i64 n] w fun e w' => e = .returned (.bool (x.joinB n)) ∧ Below w.heap.size w w' := by
  have B0 := hyd (below_alloc w (.cells #[.int .i64 x.at_, .int .i64 x.join, .slice x.ps.ao x.ps.len x.ps.cap] 58))
  have b := Blk.new w [.int .i64 x.at_, .int .i64 x.join, .slice x.ps.ao x.ps.len x.ps.cap] 58
  have c0 := b.cell 0 rfl
  have c1 := b.cell 1 rfl
  have HF : Hid (x.joinB n = (decide (x.join = -1) || (decide (x.at_ < x.join) && decide (x.join < n)))) := rfl
  generalize x.joinB n = F at *
  clear b
  by_cases h1 : x.join = -1
  · have e1 : (x.join == -1) = true := by simpa using h1
    have HE : Hid (F = true) := by show _ = _; rw [HF.out, decide_eq_true h1]; rfl
    clear h1
    go_enter Tryd.func40, Tryd.ntmps40
    go_wp2
    go_ret
    exact ⟨ret_bool HE.out.symm, B0.out⟩
  · have e1 : (x.join == -1) = false := by simpa using h1
    have HE : Hid (F = (decide (x.at_ < x.join) && decide (x.join < n))) := by show _ = _; rw [HF.out, decide_eq_false h1]; rfl
    clear h1 HF
    by_cases h2 : x.at_ < x.join
    · by_cases h3 : x.join < (n : Int)
      · have HG : Hid (F = true) := by show _ = _; rw [HE.out, decide_eq_true h2, decide_eq_true h3]; rfl
        go_enter Tryd.func40, Tryd.ntmps40
        go_wp2
        go_ret
        exact ⟨ret_bool HG.out.symm, B0.out⟩
      · have HG : Hid (F = false) := by show _ = _; rw [HE.out, decide_eq_true h2, decide_eq_false h3]; rfl
        go_enter Tryd.func40, Tryd.ntmps40
        go_wp2
        go_ret
        exact ⟨ret_bool HG.out.symm, B0.out⟩
    · have HG : Hid (F = false) := by show _ = _; rw [HE.out, decide_eq_false h2]; rfl
      go_enter Tryd.func40, Tryd.ntmps40
      go_wp2
      go_ret
      exact ⟨ret_bool HG.out.symm, B0.out⟩

set_option maxRecDepth 100000 in
set_option maxHeartbeats 8000000 in
theorem places_any14 (x : Rn) (n : Nat) (w : World) (hx : x.At w) : Calls Tryd.prog 41 #[.agg #[.int .i64 x.at_, .int .i64 x.join, .slice x.ps.ao x.ps.len x.ps.cap], .int .i64 n] w fun e w' => e = .returned (.bool (x.plcB n)) ∧ Below w.heap.size w w' := by
  have B1 := below_alloc w (.cells #[.int .i64 x.at_, .int .i64 x.join, .slice x.ps.ao x.ps.len x.ps.cap] 58)
  have b := Blk.new w [.int .i64 x.at_, .int .i64 x.join, .slice x.ps.ao x.ps.len x.ps.cap] 58
  have H1 := hyd (show Below w.heap.size w _ ∧ _ from ⟨B1, b⟩)
  have HD := hyd hx
  have HA : Hid (x.plcB n = decide (∀ i, i < x.ps.len → (x.ah i < x.ps.x i ∧ x.ps.x i < n) ∧ x.ps.x i ≠ x.join)) := rfl
  have hbd := hx.ps.bound
  have hnil := hx.ps.nil
  generalize x.plcB n = F at *
  have c0 := b.cell 0 rfl
  have c2 := b.cell 2 rfl
  clear B1 b hx
  have HN : Hid (∀ (j : Nat) (wr : World), j < x.ps.len → Below w.heap.size w wr → wr.cell? ⟨x.ps.b, x.ps.o + j, none⟩ = some (.int .i64 (x.ps.x j))) := fun j wr hj hb => by have := (HD.out.ps.kept hb).row j hj 0 _ rfl; simpa using this
  have HNo : Hid (∀ j, j < x.ps.len → ¬ ((x.ah j < x.ps.x j ∧ x.ps.x j < n) ∧ x.ps.x j ≠ x.join) → F = false) := fun j hj h => by
    rw [HA.out, decide_eq_false_iff_not]
    exact fun hh => h (hh j hj)
  by_cases h0 : x.ps.len = 0
  · have HE : Hid (F = true) := by show _ = _; rw [HA.out, decide_eq_true_eq]; intro i hi; omega
    have i0 : ¬ (0 : Int) < x.ps.len := by omega
    clear h0
    go_enter Tryd.func41, Tryd.ntmps41
    go_wp2
    go_loopw [13] (fun i wr => i = .int .i64 0 ∧ Below w.heap.size w wr) (fun _ _ => 0)
    case atStart => exact ⟨rfl, H1.out.1⟩
    case round =>
      obtain ⟨rfl, hb⟩ := hrel
      have HB := hyd hb
      clear hb
      go_wp2
      go_ret
      exact ⟨ret_bool HE.out.symm, HB.out⟩
  · have a0 := hnil (by omega)
    rw [a0] at c2
    have HA0 := hyd a0
    clear a0 hnil
    rw [HA0.out] at H1
    rw [HA0.out]
    go_enter Tryd.func41, Tryd.ntmps41
    go_wp2
    go_loopw [5, 13] (fun a i wr => ∃ (j : Nat), j ≤ x.ps.len ∧ a = .int .i64 (x.ah j) ∧ i = .int .i64 j ∧ (Below w.heap.size w wr ∧ Blk wr w.heap.size [.int .i64 x.at_, .int .i64 x.join, .slice (some ⟨x.ps.b, x.ps.o, none⟩) x.ps.len x.ps.cap] 58) ∧ (∀ i, i < j → (x.ah i < x.ps.x i ∧ x.ps.x i < n) ∧ x.ps.x i ≠ x.join)) (fun _ i _ => x.ps.len - (intOf i).toNat)
    case atStart => exact ⟨0, Nat.zero_le _, rfl, rfl, H1.out, fun i hi => absurd hi (Nat.not_lt_zero _)⟩
    case round =>
      clear H1 c0 c2
      obtain ⟨j, hj, rfl, rfl, hBl, hall⟩ := hrel
      have HB := hyd hBl
      have HL := hyd hall
      clear hBl hall
      have c1 := HB.out.2.cell 1 rfl
      by_cases hlt : j < x.ps.len
      · have ij : (j : Int) < x.ps.len := by omega
        have r0 := HN.out j wr hlt HB.out.1
        have HNo2 := hyd (HNo.out j hlt)
        have HY : Hid ((x.ah j < x.ps.x j ∧ x.ps.x j < n) ∧ x.ps.x j ≠ x.join → ∀ i, i < j + 1 → (x.ah i < x.ps.x i ∧ x.ps.x i < n) ∧ x.ps.x i ≠ x.join) := fun h i hi => by
          rcases Nat.lt_or_ge i j with h2 | h2
          · exact HL.out i h2
          · have : i = j := by omega
            subst this
            exact h
        have HJ : Hid (x.ah (j + 1) = x.ps.x j) := rfl
        generalize x.ah j = q at *
        generalize hz : x.ps.x j = z at *
        clear hz
        by_cases k1 : q < z
        · have d1 : ¬ z ≤ q := by omega
          by_cases k2 : z < (n : Int)
          · have d2 : ¬ (n : Int) ≤ z := by omega
            by_cases k3 : z = x.join
            · have d3 : (z == x.join) = true := by simpa using k3
              have HE := hyd (HNo2.out (fun h => h.2 k3))
              clear k3 k1 k2
              go_wp2
              go_ret
              exact ⟨ret_bool HE.out.symm, HB.out.1⟩
            · have d3 : (z == x.join) = false := by simpa using k3
              have HE := hyd (HY.out ⟨⟨k1, k2⟩, k3⟩)
              clear k1 k2 k3
              go_wp2
              go_roundw
              case rel => exact ⟨j + 1, by omega, by rw [HJ.out], by go_num, HB.out, HE.out⟩
              case measure => simp [intOf]; omega
          · have d2 : (n : Int) ≤ z := by omega
            have HE := hyd (HNo2.out (fun h => k2 h.1.2))
            clear k1 k2
            go_wp2
            go_ret
            exact ⟨ret_bool HE.out.symm, HB.out.1⟩
        · have d1 : z ≤ q := by omega
          have HE := hyd (HNo2.out (fun h => k1 h.1.1))
          clear k1
          go_wp2
          go_ret
          exact ⟨ret_bool HE.out.symm, HB.out.1⟩
      · have e2 : ¬ (j : Int) < x.ps.len := by omega
        have HE : Hid (F = true) := by show _ = _; rw [HA.out, decide_eq_true_eq]; intro i hi; exact HL.out i (by omega)
        go_wp2
        go_ret
        exact ⟨ret_bool HE.out.symm, HB.out.1⟩
end Go.Proofs.YtdplabhgdonbiaaDoor

/- Layer 2: clone. -/
namespace Go.Proofs.YtdplabhgdonbiaaDoor
open Go.RowKit

theorem Tryd.infoTy : (Tryd.prog.info? 37).map (fun i => (i.zero, i.size, i.bytes)) = some (some (.agg #[.int .i64 0, .int .i64 0, .slice none 0 0, .int .i64 0, .int .i64 0]), 5, 56) := by kernel_rfl

theorem own_kept {w w' : World} {base : Nat} {e : TypeId} {size : Nat} {v : Value} {n : Nat} {xs : List Value} (h : w.ownsRow base e size v n xs) (hb : Below w.heap.size w w') : w'.ownsRow base e size v n xs := by
  obtain ⟨h1, h2⟩ := h
  refine ⟨h1, ?_⟩
  rcases h2 with h2 | ⟨g, cap, cur, hv, hg, hh, r⟩
  · exact Or.inl h2
  · exact Or.inr ⟨g, cap, cur, hv, hg, (hb.block g (Array.getElem?_eq_some_iff.1 hh).1).trans hh, r⟩

/-- The variables of a call that clones: a type's, and the result's. -/
structure CBox (w w0 : World) (t : Ty) : Prop where
  bl : Below w.heap.size w w0
  sz : w0.heap.size = w.heap.size + 2
  x : Bx w0 w.heap.size t
  fx : ∀ i, i < 5 → w0.frozen? ⟨w.heap.size, i, none⟩ = false
  r : ∀ i, i < 5 → (w0.cell? ⟨w.heap.size + 1, i, none⟩).isSome = true
  fr : ∀ i, i < 5 → w0.frozen? ⟨w.heap.size + 1, i, none⟩ = false
theorem cbox_new (w : World) (t : Ty) : CBox w ((w.alloc (tyO t)).alloc (.cells #[.int .i64 0, .int .i64 0, .slice none 0 0, .int .i64 0, .int .i64 0] 37)) t where
  bl := Below.next (below_alloc _ _) (below_alloc _ _)
  sz := by rw [alloc_size, alloc_size]
  x := (Bx.new w t).kept (below_alloc _ _)
  fx := fun i hi => by
    rw [(below_alloc (w.alloc (tyO t)) _).frozen (p := ⟨w.heap.size, i, none⟩) (by rw [alloc_size]; exact Nat.lt_succ_self _)]
    simp [tyO]
  r := fun i hi => by
    have e : (w.alloc (tyO t)).heap.size = w.heap.size + 1 := alloc_size _ _
    rw [← e]
    match i, hi with
    | 0, _ => simp
    | 1, _ => simp
    | 2, _ => simp
    | 3, _ => simp
    | 4, _ => simp
  fr := fun i hi => by
    have e : (w.alloc (tyO t)).heap.size = w.heap.size + 1 := alloc_size _ _
    rw [← e]
    simp

/-- What clone answers. -/
def CP (w : World) (t : Ty) (e : Ending) (w' : World) : Prop :=
  ∃ u : Ty, e = .returned (.agg #[.int .i64 u.k, .int .i64 u.l, .slice u.ao u.len u.cap, .int .i64 u.h, .int .i64 u.e]) ∧ u.At w' ∧ u.Blk (fun b => w.heap.size ≤ b) ∧ u.same t = true ∧ Below w.heap.size w w'

theorem CP.intro {w : World} {t : Ty} {e : Ending} {w' : World} (u : Ty) (h1 : e = .returned (.agg #[.int .i64 u.k, .int .i64 u.l, .slice u.ao u.len u.cap, .int .i64 u.h, .int .i64 u.e])) (h2 : u.At w') (h3 : u.Blk (fun b => w.heap.size ≤ b)) (h4 : u.same t = true) (h5 : Below w.heap.size w w') : CP w t e w' := ⟨u, h1, h2, h3, h4, h5⟩

end Go.Proofs.YtdplabhgdonbiaaDoor

/- The law's own small lattice, and what is asked of it first; few. -/
namespace Go.Proofs.YtdplabhgdonbiaaDoor
open Go.RowKit

theorem formed_gen {n : Strs} {ao : Option Addr} {gg len cap : Nat} {s : Nat → ByteArray} {R : Nat → Nat} {M : Nat → Nat → Bool} (h1 : n.len = len) (h2 : n.s = s) : formedB n (gridR ao gg len cap R M) = formedM len s M := by
  obtain ⟨ao, b, o, l, c, s'⟩ := n
  simp only at h1 h2
  subst h1 h2
  rfl
theorem grid_set_nil {g : Grid} {w : World} (h : g.At w) {a : Addr} (ha : w.cell? a = some (.slice none 0 0)) (hA : ∀ r, r < g.len → g.A r ≠ none) (v : Value) : g.At (w.setCell a v) where
  lc := h.lc
  nil := h.nil
  bound := h.bound
  lbound := h.lbound
  row := fun r hr => by
    have hc := h.row r hr
    rw [World.cell?_setCell_other _ _ _ _ (fun e => by rw [← e, ha] at hc; injection hc with hc; injection hc with h1 _ _; exact hA r hr h1.symm)]
    exact hc
  adr := h.adr
  cell := fun r hr c hc => by
    have hc := h.cell r hr c hc
    rw [World.cell?_setCell_other _ _ _ _ (fun e => by rw [← e, ha] at hc; cases hc)]
    exact hc
/-- The lattice of two. -/
structure Lt2 (n : Strs) (g : Grid) (w : World) : Prop where
  nat : n.At w
  gat : g.At w
  fd : formedB n g = true
  two : n.len = 2
  le : g.B 0 1 = true
  rows : ∀ r, r < g.len → g.A r ≠ none

theorem two_make (w : World) :
    Calls Tryd.prog 27 #[.slice (some ⟨w.heap.size, 0, none⟩) 2 2, .slice (some ⟨w.heap.size + 1, 0, none⟩) 1 1] ((w.alloc (.cells #[.string ⟨#[108, 111, 119]⟩, .string ⟨#[104, 105, 103, 104]⟩] 9)).alloc (.cells #[.int .i64 0, .int .i64 1] 79))
      fun e w' => ∃ (n : Strs) (g : Grid), e = .returned (.tuple #[.agg #[.slice n.ao n.len n.cap, .slice g.ao g.len g.cap], .int .i64 0]) ∧ Lt2 n g w' ∧ Below w.heap.size w w' := by
  refine (rmake_any (awkN w.heap.size) (awkP (w.heap.size + 1)) (awkW w) (awkN_at w) (awkP_at w) (Or.inr rfl)).mono ?_
  rintro e w1 ⟨er, n', g', rfl, hM, hb1⟩
  have h0 : er = 0 := hM.er.trans (awk_e _ _)
  subst h0
  obtain ⟨h1, h2, ao, gg, cap, R, rfl⟩ := hM.yes rfl
  refine ⟨n', _, rfl, ⟨hM.nat, hM.gat, ?_, h1, ?_, fun r _ => by simp [gridR]⟩, (awkW_below w).trans (hb1.mono (awkW_below w).size)⟩
  · rw [formed_gen h1 h2]
    have he := awk_e w.heap.size (w.heap.size + 1)
    unfold makeE at he
    split at he
    · cases he
    · split at he
      · cases he
      · split at he
        · cases he
        · rename_i h; simpa using h
  · show leastM (awkP (w.heap.size + 1)) 2 0 1 = true
    refine within_war 2 _ 2 0 1 (by omega) (by omega) ?_
    unfold prsM
    rw [Bool.or_eq_true, decide_eq_true_eq]
    exact Or.inr ⟨0, by show 0 < 1; omega, rfl, rfl⟩

/-- A type without Parts. -/
def leafT (k l : Int) : Ty := .mk k l 0 0 none 0 0 0 0 (fun _ => .dm)
theorem leaf_at (k l : Int) (w : World) : (leafT k l).At w := ⟨fun h => absurd h (Nat.lt_irrefl _), Nat.zero_le _, fun _ h => absurd h (Nat.not_lt_zero _)⟩
theorem leaf_ok (l : Int) (N : Nat) (h : inR N l = true) : (leafT 1 l).ok N = true := by
  unfold Ty.ok leafT
  rw [fm_eq, h]
  rfl
theorem two_bel {n : Strs} {g : Grid} {w : World} (h : Lt2 n g w) : belB n g (leafT 1 0) (leafT 1 1) = true := by
  unfold belB
  rw [h.fd, leaf_ok 0 _ (by rw [h.two]; rfl), leaf_ok 1 _ (by rw [h.two]; rfl)]
  show (((1 : Int) == 1) && g.B 0 1 && true) = true
  rw [h.le]; rfl

/-- What few answers. -/
def fewB (n : Strs) (g : Grid) (s t : Ty) : Bool := (smallB n g && decide (s.nodes ≤ 40)) && decide (t.nodes ≤ 40)

end Go.Proofs.YtdplabhgdonbiaaDoor

/- Layer 2: a type stored. -/
namespace Go.Proofs.YtdplabhgdonbiaaDoor
open Go.RowKit

/-- Five cells written. -/
def World.put5 (w : World) (B : Nat) (v0 v1 v2 v3 v4 : Value) : World := ((((w.setCell ⟨B, 0, none⟩ v0).setCell ⟨B, 1, none⟩ v1).setCell ⟨B, 2, none⟩ v2).setCell ⟨B, 3, none⟩ v3).setCell ⟨B, 4, none⟩ v4
theorem put5_heap (w : World) (B : Nat) (v0 v1 v2 v3 v4 : Value) {b : Nat} (h : b ≠ B) : (World.put5 w B v0 v1 v2 v3 v4).heap[b]? = w.heap[b]? := by
  unfold World.put5
  rw [Below.heap_setCell _ _ _ _ h, Below.heap_setCell _ _ _ _ h, Below.heap_setCell _ _ _ _ h, Below.heap_setCell _ _ _ _ h, Below.heap_setCell _ _ _ _ h]
theorem put5_below {w w1 : World} {B : Nat} (hB : w.heap.size ≤ B) (h : Below w.heap.size w w1) (v0 v1 v2 v3 v4 : Value) : Below w.heap.size w (World.put5 w1 B v0 v1 v2 v3 v4) :=
  ((((h.setCell hB _).setCell hB _).setCell hB _).setCell hB _).setCell hB _
theorem put5_frozen (w : World) (B : Nat) (v0 v1 v2 v3 v4 : Value) (a : Addr) : (World.put5 w B v0 v1 v2 v3 v4).frozen? a = w.frozen? a := by
  unfold World.put5
  rw [World.frozen?_setCell, World.frozen?_setCell, World.frozen?_setCell, World.frozen?_setCell, World.frozen?_setCell]
theorem put5_cells {w : World} {B : Nat} (v0 v1 v2 v3 v4 : Value) {t : Ty} (h : Bx w B t) (hf : ∀ i, i < 5 → w.frozen? ⟨B, i, none⟩ = false) : (World.put5 w B v0 v1 v2 v3 v4).cell? ⟨B, 0, none⟩ = some v0 ∧ (World.put5 w B v0 v1 v2 v3 v4).cell? ⟨B, 1, none⟩ = some v1 ∧ (World.put5 w B v0 v1 v2 v3 v4).cell? ⟨B, 2, none⟩ = some v2 ∧ (World.put5 w B v0 v1 v2 v3 v4).cell? ⟨B, 3, none⟩ = some v3 ∧ (World.put5 w B v0 v1 v2 v3 v4).cell? ⟨B, 4, none⟩ = some v4 := by
  have key := World.rangeAt_setCells_same w B 0 [v0, v1, v2, v3, v4] (fun j hj => ?_)
  · exact ⟨key 0 v0 rfl, key 1 v1 rfl, key 2 v2 rfl, key 3 v3 rfl, key 4 v4 rfl⟩
  · have hj' : j < 5 := hj
    rw [Nat.zero_add]
    refine ⟨?_, hf j hj'⟩
    match j, hj' with
    | 0, _ => rw [h.c0]; rfl
    | 1, _ => rw [h.c1]; rfl
    | 2, _ => rw [h.c2]; rfl
    | 3, _ => rw [h.c3]; rfl
    | 4, _ => rw [h.c4]; rfl
theorem wpList_store5 {w : World} {ops : Array Oper} {rest : List Oper} {o : Oper} {a : Act} {Q : Exit → Act → World → Prop} (hgd : o.guard = none) (hdst : o.dst = none) (p x : Operand) (ho : o.op = .store 37 p x) (B : Nat) (v0 v1 v2 v3 v4 : Value)
    (hp : a.eval p = .pointer (some ⟨B, 0, none⟩)) (hx : a.eval x = .agg #[v0, v1, v2, v3, v4]) (h0 : v0.oneCell' = true) (h1 : v1.oneCell' = true) (h2 : v2.oneCell' = true) (h3 : v3.oneCell' = true) (h4 : v4.oneCell' = true) {t : Ty} (hb : Bx w B t) (hf : ∀ i, i < 5 → w.frozen? ⟨B, i, none⟩ = false)
    (h : wpList Tryd.prog ops Q rest a (World.put5 w B v0 v1 v2 v3 v4)) : wpList Tryd.prog ops Q (o :: rest) a w := by
  refine wpList_store_mid hgd 37 p x ho B 0 #[v0, v1, v2, v3, v4] hp hx (fun j hj => ?_) (by kernel_rfl) (by simp [h0, h1, h2, h3, h4]) ?_
  · have hj' : j < 5 := hj
    rw [Nat.zero_add]
    refine ⟨?_, hf j hj'⟩
    match j, hj' with
    | 0, _ => rw [hb.c0]; rfl
    | 1, _ => rw [hb.c1]; rfl
    | 2, _ => rw [hb.c2]; rfl
    | 3, _ => rw [hb.c3]; rfl
    | 4, _ => rw [hb.c4]; rfl
  · rw [hdst]
    exact h
end Go.Proofs.YtdplabhgdonbiaaDoor

/- Layer 2: Raise. -/
namespace Go.Proofs.YtdplabhgdonbiaaDoor
open Go.RowKit

def Ty.setL (j : Int) : Ty → Ty
  | .dm => .dm
  | .mk k _ h e ao b o len cap ps => .mk k j h e ao b o len cap ps
theorem setL_at {w : World} {j : Int} : ∀ {t : Ty}, t.At w → (t.setL j).At w
  | .dm, h => h
  | .mk _ _ _ _ _ _ _ _ _ _, h => h
theorem setL_blk {Q : Nat → Prop} {j : Int} : ∀ {t : Ty}, t.Blk Q → (t.setL j).Blk Q
  | .dm, h => h
  | .mk _ _ _ _ _ _ _ _ _ _, h => h
theorem setL_v {w : World} {j : Int} : ∀ {t : Ty}, t.At w → (t.setL j).k = t.k ∧ (t.setL j).l = j ∧ (t.setL j).ao = t.ao ∧ (t.setL j).len = t.len ∧ (t.setL j).cap = t.cap ∧ (t.setL j).h = t.h ∧ (t.setL j).e = t.e
  | .dm, h => h.elim
  | .mk _ _ _ _ _ _ _ _ _ _, _ => ⟨rfl, rfl, rfl, rfl, rfl, rfl, rfl⟩
theorem setL_same {w w' : World} {j : Int} : ∀ {s t : Ty}, s.At w → t.At w' → s.same t = true → (s.setL j).same (t.setL j) = true
  | .dm, _, h, _, _ => h.elim
  | .mk _ _ _ _ _ _ _ _ _ _, .dm, _, h, _ => h.elim
  | .mk _ _ _ _ _ _ _ _ _ _, .mk _ _ _ _ _ _ _ _ _ _, _, _, h => by
    rw [same_iff] at h ⊢
    exact ⟨⟨h.1.1, rfl, h.1.2.2⟩, h.2⟩

theorem Bx.agree {w w' : World} {B : Nat} {t : Ty} (h : Bx w B t) (e : w'.heap[B]? = w.heap[B]?) : Bx w' B t :=
  ⟨(World.cell?_of_block (w := w) e).trans h.c0, (World.cell?_of_block (w := w) e).trans h.c1, (World.cell?_of_block (w := w) e).trans h.c2, (World.cell?_of_block (w := w) e).trans h.c3, (World.cell?_of_block (w := w) e).trans h.c4⟩

/-- What Raise answers, but for where it lies. -/
def raiseT (n : Strs) (g : Grid) (t : Ty) (a : Int) : Ty := if (okB n g t && inR n.len a) = true then t.setL (joinI n g t.l a) else leafT 0 0
def RP (w : World) (r : Ty) (e : Ending) (w' : World) : Prop :=
  ∃ u : Ty, e = .returned (.agg #[.int .i64 u.k, .int .i64 u.l, .slice u.ao u.len u.cap, .int .i64 u.h, .int .i64 u.e]) ∧ u.At w' ∧ u.Blk (fun b => w.heap.size ≤ b) ∧ u.same r = true ∧ Below w.heap.size w w'
theorem RP.intro {w : World} {r : Ty} {e : Ending} {w' : World} (u : Ty) (h1 : e = .returned (.agg #[.int .i64 u.k, .int .i64 u.l, .slice u.ao u.len u.cap, .int .i64 u.h, .int .i64 u.e])) (h2 : u.At w') (h3 : u.Blk (fun b => w.heap.size ≤ b)) (h4 : u.same r = true) (h5 : Below w.heap.size w w') : RP w r e w' := ⟨u, h1, h2, h3, h4, h5⟩

structure RBox (w w0 : World) (n : Strs) (g : Grid) (t : Ty) : Prop where
  bl : Below w.heap.size w w0
  sz : w.heap.size + 3 ≤ w0.heap.size
  l : Bl w0 w.heap.size n g
  x : Bx w0 (w.heap.size + 1) t
  fx : ∀ i, i < 5 → w0.frozen? ⟨w.heap.size + 1, i, none⟩ = false
  r : Bx w0 (w.heap.size + 2) (leafT 0 0)
  fr : ∀ i, i < 5 → w0.frozen? ⟨w.heap.size + 2, i, none⟩ = false
theorem RBox.step {w w0 w1 : World} {n : Strs} {g : Grid} {t : Ty} (h : RBox w w0 n g t) (hb : Below w0.heap.size w0 w1) : RBox w w1 n g t :=
  ⟨h.bl.trans (hb.mono (by have := h.sz; omega)), Nat.le_trans h.sz hb.size, h.l.kept hb, h.x.kept hb, fun i hi => (hb.frozen (p := ⟨w.heap.size + 1, i, none⟩) (by have := h.sz; show w.heap.size + 1 < _; omega)).trans (h.fx i hi), h.r.kept hb, fun i hi => (hb.frozen (p := ⟨w.heap.size + 2, i, none⟩) (by have := h.sz; show w.heap.size + 2 < _; omega)).trans (h.fr i hi)⟩
theorem frozen_new (w : World) (c : Array Value) (t : TypeId) (i : Nat) : (w.alloc (.cells c t)).frozen? ⟨w.heap.size, i, none⟩ = false := by simp
theorem rbox_new (w : World) (n : Strs) (g : Grid) (t : Ty) : RBox w (((w.alloc (latO n g)).alloc (tyO t)).alloc (.cells #[.int .i64 0, .int .i64 0, .slice none 0 0, .int .i64 0, .int .i64 0] 37)) n g t := by
  obtain ⟨L0, X0, B0⟩ := start_lt w n g t
  have ba := below_alloc ((w.alloc (latO n g)).alloc (tyO t)) (.cells #[.int .i64 0, .int .i64 0, .slice none 0 0, .int .i64 0, .int .i64 0] 37)
  have e1 : (w.alloc (latO n g)).heap.size = w.heap.size + 1 := alloc_size _ _
  have e2 : ((w.alloc (latO n g)).alloc (tyO t)).heap.size = w.heap.size + 2 := by rw [alloc_size, e1]
  refine ⟨Below.next B0 ba, by rw [alloc_size, e2]; omega, L0.kept ba, X0.kept ba, fun i hi => ?_, ?_, fun i hi => ?_⟩
  · rw [ba.frozen (p := ⟨w.heap.size + 1, i, none⟩) (by rw [e2]; exact Nat.lt_succ_self _), ← e1]
    simp [tyO]
  · rw [← e2]
    exact Bx.new _ (leafT 0 0)
  · rw [← e2]
    exact frozen_new _ _ _ _

theorem joinI_no {n : Strs} {g : Grid} {a b : Int} (h : inR n.len b = false) : joinI n g a b = -1 := by
  unfold joinI
  rw [if_neg]
  intro hh
  rw [Bool.and_eq_true, Bool.and_eq_true] at hh
  have : labB n b = inR n.len b := rfl
  rw [this, h] at hh
  exact Bool.noConfusion hh.1.2
theorem joinI_yes {n : Strs} {g : Grid} {t : Ty} {b : Int} (hk : okB n g t = true) (h : inR n.len b = true) : (joinI n g t.l b == -1) = false := by
  unfold okB at hk
  rw [Bool.and_eq_true] at hk
  obtain ⟨x, hx, hx1⟩ := (fd_ok hk.2).lab
  obtain ⟨y, hy, hy1⟩ := inR_nat h
  rw [hx, hy, joinI_nat hk.1 hx1 hy1]
  simp

end Go.Proofs.YtdplabhgdonbiaaDoor
