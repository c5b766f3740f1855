/- The map of places: a key is an address, a nil pointer and a number. -/
import Derived.Test.YtjfijpiadfkmfaaGreatDoorP12
import Derived.LaidEql
import Derived.Carry
import Derived.Deep.AppendLies
import Derived.Deep.DeepCutAuto
import Derived.Test.YtjfijpiadfkmfaaGreatDoorP7
import Derived.Laws.AppendOwnNone
import Derived.Test.YtjfijpiadfkmfaaGreatDoorP10
namespace Go.Proofs.YtjfijpiadfkmfaaGreatDoor
open Go.RowKit

def keyV (a : Addr) (n : Nat) : Value := .agg #[.pointer (some a), .pointer none, .int .i64 n]
/-- Blocks that bear no mark. -/
def PlainAt (w : World) (b : Nat) : Prop := ∃ c t, w.heap[b]? = some (.cells c t (0, 0))

theorem run_eqp_int (w : World) (d : Nat) (m n : Nat) : (Op.equalIn (d + 1) 3 (.int .i64 m) (.int .i64 n)).run Tryz.prog w = .ok (decide (m = n)) w := by
  simp [Op.equalIn, run_underlying Tryz.underlying3]
  by_cases h : m = n
  · simp [h]
  · have : ¬ (m : Int) = n := by omega
    simp [h, this]
theorem run_part_int (w : World) (x y z : Value) (i : Nat) (v : Value) (h : #[x, y, z][i]? = some v) : (part 3 #[x, y, z] i).run Tryz.prog w = .ok v w := by
  simp [part, isAgg, run_underlying Tryz.underlying3, h]
/-- The keys of a map of places. -/
structure Keys (w : World) (es : Array MapEntry) (ks : List (Addr × Nat)) : Prop where
  keys : es.toList.map (·.key) = ks.map fun k => keyV k.1 k.2
  vals : ∀ e ∈ es.toList, e.val = .agg #[]
  plain : ∀ k ∈ ks, PlainAt w k.1.block
end Go.Proofs.YtjfijpiadfkmfaaGreatDoor

/- Layer 6: the counts of nodes, the sizes. -/
namespace Go.Proofs.YtjfijpiadfkmfaaGreatDoor
open Go.RowKit

end Go.Proofs.YtjfijpiadfkmfaaGreatDoor

/- Layer 6: walk's count of an expression's nodes. -/
namespace Go.Proofs.YtjfijpiadfkmfaaGreatDoor
open Go.RowKit

theorem Ex.At.nodes_eq {w : World} : ∀ {t : Ex}, t.At w → t.nodes = 1 + sumTo (fun i => (t.ps i).nodes) t.len
  | .dm, h => h.elim
  | .mk _ _ _ _ _ _ _ _ _ _ _ _ _ _, _ => rfl
end Go.Proofs.YtjfijpiadfkmfaaGreatDoor

/- Layer 6: how deep an expression nests, level by level. -/
namespace Go.Proofs.YtjfijpiadfkmfaaGreatDoor
open Go.RowKit

def mx (l : List Nat) : Nat := l.foldr max 0
theorem le_mx : ∀ {l : List Nat} {x : Nat}, x ∈ l → x ≤ mx l
  | a :: l, x, h => by
    show x ≤ max a (mx l)
    rcases List.mem_cons.1 h with rfl | h
    · omega
    · have := le_mx h; omega
theorem mx_le : ∀ {l : List Nat} {n : Nat}, (∀ x ∈ l, x ≤ n) → mx l ≤ n
  | [], _, _ => Nat.zero_le _
  | a :: l, n, h => by
    show max a (mx l) ≤ n
    have h1 := h a (List.mem_cons_self ..)
    have h2 := mx_le (l := l) (fun x hx => h x (List.mem_cons_of_mem _ hx))
    omega
/-- The Parts of all these. -/
def kid (e : Ex) : List Ex := (List.range e.len).map e.ps
def kids (L : List Ex) : List Ex := L.flatMap kid
theorem mem_kid {e x : Ex} : x ∈ kid e ↔ ∃ i, i < e.len ∧ x = e.ps i := by
  unfold kid; simp only [List.mem_map, List.mem_range]
  exact ⟨fun ⟨i, h, e⟩ => ⟨i, h, e.symm⟩, fun ⟨i, h, e⟩ => ⟨i, h, e.symm⟩⟩
theorem mem_kids {L : List Ex} {x : Ex} : x ∈ kids L ↔ ∃ e ∈ L, x ∈ kid e := by unfold kids; simp only [List.mem_flatMap]
def dpth (L : List Ex) : Nat := mx ((kids L).map Ex.nest)
def nsum (L : List Ex) : Nat := (L.map Ex.nodes).sum
theorem nsum_append (a b : List Ex) : nsum (a ++ b) = nsum a + nsum b := by unfold nsum; simp
theorem nsum_one (x : Ex) : nsum [x] = x.nodes := by unfold nsum; simp
theorem nodes_pos : ∀ e : Ex, 1 ≤ e.nodes
  | .dm => Nat.le_refl _
  | .mk _ _ _ _ _ _ _ _ _ _ len _ ps _ => by show 1 ≤ 1 + sumTo _ len; omega
theorem len_le_nsum : ∀ L : List Ex, L.length ≤ nsum L
  | [] => Nat.le_refl _
  | e :: L => by
    have h1 := nodes_pos e
    have h2 := len_le_nsum L
    have : nsum (e :: L) = e.nodes + nsum L := by unfold nsum; simp
    simp; omega
theorem nsum_kid {w : World} : ∀ {e : Ex}, e.At w → nsum (kid e) + 1 = e.nodes
  | .dm, h => h.elim
  | .mk _ _ _ _ _ _ _ _ _ _ len _ ps _, _ => by
    show nsum ((List.range len).map ps) + 1 = 1 + sumTo (fun i => (ps i).nodes) len
    have : ∀ n, nsum ((List.range n).map ps) = sumTo (fun i => (ps i).nodes) n := by
      intro n
      induction n with
      | zero => rfl
      | succ n ih => rw [List.range_succ, List.map_append, nsum_append, ih]; simp [nsum, sumTo]
    rw [this]; omega
theorem nsum_kids {w : World} : ∀ {L : List Ex}, (∀ e ∈ L, e.At w) → nsum (kids L) + L.length = nsum L
  | [], _ => rfl
  | e :: L, h => by
    have h1 := nsum_kid (h e (List.mem_cons_self ..))
    have h2 := nsum_kids (L := L) (fun x hx => h x (List.mem_cons_of_mem _ hx))
    have e1 : kids (e :: L) = kid e ++ kids L := rfl
    have e2 : nsum (e :: L) = e.nodes + nsum L := by unfold nsum; simp
    rw [e1, nsum_append, e2]; simp; omega
theorem mxTo_le {f : Nat → Nat} : ∀ {n m : Nat}, (∀ i, i < n → f i ≤ m) → mxTo f n ≤ m
  | 0, _, _ => Nat.zero_le _
  | n + 1, m, h => by
    show max (mxTo f n) (f n) ≤ m
    have := mxTo_le (n := n) (m := m) (fun i hi => h i (by omega))
    have := h n (by omega)
    omega
theorem le_mxTo {f : Nat → Nat} : ∀ {n i : Nat}, i < n → f i ≤ mxTo f n
  | n + 1, i, h => by
    show f i ≤ max (mxTo f n) (f n)
    rcases Nat.lt_or_ge i n with h1 | h1
    · have := le_mxTo (f := f) h1; omega
    · have : i = n := by omega
      subst this; omega
theorem Ex.At.nest_eq {w : World} : ∀ {t : Ex}, t.At w → t.nest = 1 + mxTo (fun i => (t.ps i).nest) t.len
  | .dm, h => h.elim
  | .mk _ _ _ _ _ _ _ _ _ _ _ _ _ _, _ => rfl
theorem mxTo_congr {f g : Nat → Nat} : ∀ {n : Nat}, (∀ i, i < n → f i = g i) → mxTo f n = mxTo g n
  | 0, _ => rfl
  | n + 1, h => by
    show max (mxTo f n) (f n) = max (mxTo g n) (g n)
    rw [mxTo_congr (n := n) (fun i hi => h i (by omega)), h n (by omega)]
/-- Two that have their Parts at one place nest alike. -/
theorem nest_same {w : World} : ∀ (s t : Ex), s.At w → t.At w → s.len = t.len → (0 < s.len → s.b = t.b ∧ s.o = t.o) → s.nest = t.nest := by
  intro s
  induction s using Ex.ind with
  | h s ih =>
    intro t hs ht hl hb
    rw [hs.nest_eq, ht.nest_eq, ← hl]
    congr 1
    refine mxTo_congr fun i hi => ?_
    obtain ⟨eb, eo⟩ := hb (by omega)
    have cs := hs.cells hi
    have ct := ht.cells (hl ▸ hi)
    rw [← eb, ← eo] at ct
    have k15 := cs.c15.symm.trans ct.c15
    simp only [Option.some.injEq, Value.slice.injEq] at k15
    refine ih i hi (t.ps i) (hs.part hi) (ht.part (hl ▸ hi)) k15.2.1 fun hp => ?_
    have a1 := (hs.part hi).nil hp
    have a2 := (ht.part (hl ▸ hi)).nil (by omega)
    have := a1.symm.trans (k15.1.trans a2)
    simp at this
    exact this
/-- No block of its Parts bears a mark. -/
def Ex.Pl (w : World) : Ex → Prop
  | .dm => True
  | .mk _ _ _ _ _ _ _ _ b _ len _ ps _ => (0 < len → PlainAt w b) ∧ ∀ i, i < len → Ex.Pl w (ps i)
theorem Ex.Pl.b {w : World} : ∀ {e : Ex}, e.Pl w → 0 < e.len → PlainAt w e.b
  | .dm, _, h => absurd h (Nat.lt_irrefl 0)
  | .mk _ _ _ _ _ _ _ _ _ _ _ _ _ _, h, hl => h.1 hl
theorem Ex.Pl.part {w : World} : ∀ {e : Ex}, e.Pl w → ∀ {i}, i < e.len → (e.ps i).Pl w
  | .dm, _, _, h => absurd h (Nat.not_lt_zero _)
  | .mk _ _ _ _ _ _ _ _ _ _ _ _ _ _, h, _, hl => h.2 _ hl
theorem PlainAt.kept {w w' : World} {b : Nat} (h : PlainAt w b) (hb : Below w.heap.size w w') : PlainAt w' b := by
  obtain ⟨c, t, h⟩ := h
  refine ⟨c, t, ?_⟩
  rw [hb.block b ?_]; exact h
  rcases Nat.lt_or_ge b w.heap.size with h1 | h1
  · exact h1
  · rw [Array.getElem?_eq_none h1] at h; cases h
theorem Ex.Pl.kept {w w' : World} (hb : Below w.heap.size w w') : ∀ {e : Ex}, e.Pl w → e.Pl w'
  | .dm, _ => trivial
  | .mk _ _ _ _ _ _ _ _ _ _ _ _ _ _, h => ⟨fun hl => (h.1 hl).kept hb, fun i hi => Ex.Pl.kept hb (h.2 i hi)⟩
def ekey (e : Ex) : Addr × Nat := (⟨e.b, e.o, none⟩, e.len)
/-- What is known of the next level behind these nodes. -/
structure NM (done nx : List Ex) : Prop where
  pos : ∀ r ∈ nx, r ∈ done ∧ 0 < r.len
  met : ∀ e ∈ done, 0 < e.len → ekey e ∈ nx.map ekey
  sum : nsum nx ≤ nsum done
theorem NM.nil : NM [] [] := ⟨by simp, by simp, Nat.le_refl _⟩
theorem NM.empty {done nx : List Ex} (h : NM done nx) {x : Ex} (hx : x.len = 0) : NM (done ++ [x]) nx :=
  ⟨fun r hr => ⟨List.mem_append_left _ (h.pos r hr).1, (h.pos r hr).2⟩, fun e he hl => by
    rcases List.mem_append.1 he with h1 | h1
    · exact h.met e h1 hl
    · have : e = x := by simpa using h1
      subst this; omega, by rw [nsum_append]; have := h.sum; omega⟩
theorem NM.old {done nx : List Ex} (h : NM done nx) {x : Ex} (hx : ekey x ∈ nx.map ekey) : NM (done ++ [x]) nx :=
  ⟨fun r hr => ⟨List.mem_append_left _ (h.pos r hr).1, (h.pos r hr).2⟩, fun e he hl => by
    rcases List.mem_append.1 he with h1 | h1
    · exact h.met e h1 hl
    · have : e = x := by simpa using h1
      subst this; exact hx, by rw [nsum_append]; have := h.sum; omega⟩
theorem NM.new {done nx : List Ex} (h : NM done nx) {x : Ex} (hx : 0 < x.len) : NM (done ++ [x]) (nx ++ [x]) :=
  ⟨fun r hr => by
    rcases List.mem_append.1 hr with h1 | h1
    · exact ⟨List.mem_append_left _ (h.pos r h1).1, (h.pos r h1).2⟩
    · have : r = x := by simpa using h1
      subst this; exact ⟨List.mem_append_right _ h1, hx⟩, fun e he hl => by
    rw [List.map_append]
    rcases List.mem_append.1 he with h1 | h1
    · exact List.mem_append_left _ (h.met e h1 hl)
    · exact List.mem_append_right _ (List.mem_map_of_mem h1), by rw [nsum_append, nsum_append]; have := h.sum; omega⟩
theorem NM.deep {w : World} {L nx : List Ex} (h : NM (kids L) nx) (hA : ∀ e ∈ L, e.At w) (hne : kids L ≠ []) : dpth nx + 1 = dpth L := by
  have hk : ∀ x ∈ kids L, x.At w := fun x hx => by
    obtain ⟨e, he, hx⟩ := mem_kids.1 hx
    obtain ⟨i, hi, rfl⟩ := mem_kid.1 hx
    exact (hA e he).part hi
  apply Nat.le_antisymm
  · have h0 : 1 ≤ dpth L := by
      cases hq : kids L with
      | nil => exact absurd hq hne
      | cons x l =>
        have hx : x ∈ kids L := by rw [hq]; exact List.mem_cons_self ..
        have h1 : x.nest ≤ dpth L := le_mx (List.mem_map_of_mem hx)
        rw [(hk x hx).nest_eq] at h1
        omega
    have : dpth nx ≤ dpth L - 1 := by
      refine mx_le fun m hm => ?_
      obtain ⟨y, hy, rfl⟩ := List.mem_map.1 hm
      obtain ⟨r, hr, hy⟩ := mem_kids.1 hy
      obtain ⟨i, hi, rfl⟩ := mem_kid.1 hy
      have hr2 := (h.pos r hr).1
      have h1 : r.nest ≤ dpth L := le_mx (List.mem_map_of_mem hr2)
      rw [(hk r hr2).nest_eq] at h1
      have h2 := le_mxTo (f := fun i => (r.ps i).nest) hi
      omega
    omega
  · refine mx_le fun m hm => ?_
    obtain ⟨x, hx, rfl⟩ := List.mem_map.1 hm
    have e0 : ∀ r ∈ nx, r.nest ≤ dpth nx + 1 := fun r hr => by
      rw [(hk r (h.pos r hr).1).nest_eq]
      have : mxTo (fun i => (r.ps i).nest) r.len ≤ dpth nx := mxTo_le fun i hi => le_mx (List.mem_map_of_mem (mem_kids.2 ⟨r, hr, mem_kid.2 ⟨i, hi, rfl⟩⟩))
      omega
    rcases Nat.eq_zero_or_pos x.len with h1 | h1
    · rw [(hk x hx).nest_eq, h1]; show 1 + 0 ≤ _; omega
    · obtain ⟨r, hr, hq⟩ := List.mem_map.1 (h.met x hx h1)
      have hq' : r.b = x.b ∧ r.o = x.o ∧ r.len = x.len := by
        have : ((⟨r.b, r.o, none⟩ : Addr), r.len) = (⟨x.b, x.o, none⟩, x.len) := hq
        simp only [Prod.mk.injEq, Addr.mk.injEq] at this
        exact ⟨this.1.1, this.1.2.1, this.2⟩
      rw [← nest_same r x (hk r (h.pos r hr).1) (hk x hx) hq'.2.2 (fun _ => ⟨hq'.1, hq'.2.1⟩)]
      exact e0 r hr
end Go.Proofs.YtjfijpiadfkmfaaGreatDoor

/- Layer 6: walk.Deep, and syntax.Nest. -/
namespace Go.Proofs.YtjfijpiadfkmfaaGreatDoor
open Go.RowKit

def exv (e : Ex) : Value := .slice e.ao e.len e.cap
/-- A list of lists of expressions. -/
def LAt (w : World) (v : Value) (L : List Ex) : Prop := ∃ ao b o cap, v = .slice ao L.length cap ∧ (0 < L.length → ao = some ⟨b, o, none⟩) ∧ (∀ i e, L[i]? = some e → w.cell? ⟨b, o + i, none⟩ = some (exv e)) ∧ ∀ e ∈ L, e.At w ∧ e.Pl w ∧ 0 < e.len
theorem eown_lt {w : World} {base : Nat} {e : TypeId} {size : Nat} {v : Value} {n : Nat} {xs : List Value} (h : w.ownsRow base e size v n xs) {b : Nat} (hb : v.ownBlock = some b) : base ≤ b ∧ b < w.heap.size := by
  obtain ⟨_, ⟨rfl, _⟩ | ⟨g, cap, cur, rfl, hg, hh, _⟩⟩ := h
  · cases hb
  · have : g = b := by simpa [Value.ownBlock] using hb
    subst this
    exact ⟨hg, by rcases Nat.lt_or_ge g w.heap.size with h1 | h1; exact h1; rw [Array.getElem?_eq_none h1] at hh; cases hh⟩
theorem eown_blk {w w' : World} {base : Nat} {e : TypeId} {size : Nat} {v : Value} {n : Nat} {xs : List Value} (h : w.ownsRow base e size v n xs) (hb : ∀ b, v.ownBlock = some b → w'.heap[b]? = w.heap[b]?) : w'.ownsRow base e size v n xs := by
  obtain ⟨hl, h⟩ := h
  refine ⟨hl, ?_⟩
  rcases h with ⟨rfl, hn⟩ | ⟨g, cap, cur, rfl, hg, hh, hr⟩
  · exact Or.inl ⟨rfl, hn⟩
  · exact Or.inr ⟨g, cap, cur, rfl, hg, by rw [hb g rfl]; exact hh, hr⟩
theorem eown_up {w w' : World} {base : Nat} {e : TypeId} {size : Nat} {v : Value} {n : Nat} {xs : List Value} (h : w.ownsRow base e size v n xs) (hb : Below w.heap.size w w') : w'.ownsRow base e size v n xs :=
  eown_blk h fun b e => hb.block b (eown_lt h e).2
theorem eown_form {w : World} {base : Nat} {e : TypeId} {size : Nat} {v : Value} {n : Nat} {xs : List Value} (h : w.ownsRow base e size v n xs) : ∃ ao cap, v = .slice ao n cap := by
  obtain ⟨_, ⟨rfl, rfl⟩ | ⟨g, cap, cur, rfl, _⟩⟩ := h
  · exact ⟨none, 0, rfl⟩
  · exact ⟨_, cap, rfl⟩
theorem Keys.kept {w w' : World} {es : Array MapEntry} {ks : List (Addr × Nat)} (h : Keys w es ks) (hb : Below w.heap.size w w') : Keys w' es ks := ⟨h.keys, h.vals, fun k hk => (h.plain k hk).kept hb⟩
theorem eblock_lt {w : World} {k : Nat} {o : Obj} (h : w.heap[k]? = some o) : k < w.heap.size := by
  rcases Nat.lt_or_ge k w.heap.size with h1 | h1
  · exact h1
  · rw [Array.getElem?_eq_none h1] at h; cases h
theorem kids_pre {L : List Ex} {j q : Nat} {e : Ex} (he : L[j]? = some e) (hq : q < e.len) : nsum (kids (L.take j) ++ (List.range (q + 1)).map e.ps) ≤ nsum (kids L) := by
  have hj : j < L.length := by
    rcases Nat.lt_or_ge j L.length with h | h
    · exact h
    · rw [List.getElem?_eq_none h] at he; cases he
  have e1 : L = L.take j ++ e :: L.drop (j + 1) := by
    have h1 := (List.take_append_drop j L).symm
    have h2 : L.drop j = L[j] :: L.drop (j + 1) := List.drop_eq_getElem_cons hj
    have h3 : L[j] = e := by rw [List.getElem?_eq_getElem hj] at he; exact Option.some.inj he
    rw [h2, h3] at h1
    exact h1
  have e2 : kids L = kids (L.take j) ++ (kid e ++ kids (L.drop (j + 1))) := by
    conv => lhs; rw [e1]
    unfold kids
    rw [List.flatMap_append, List.flatMap_cons]
  have e3 : kid e = (List.range (q + 1)).map e.ps ++ ((List.range (e.len - (q + 1))).map (fun i => e.ps (q + 1 + i))) := by
    unfold kid
    conv => lhs; rw [show e.len = (q + 1) + (e.len - (q + 1)) by omega, List.range_add, List.map_append, List.map_map]
    rfl
  rw [e2, e3, nsum_append, nsum_append, nsum_append, nsum_append]
  omega
theorem kids_take {L : List Ex} {j : Nat} {e : Ex} (he : L[j]? = some e) : kids (L.take (j + 1)) = kids (L.take j) ++ (List.range e.len).map e.ps := by
  rw [List.take_add_one, he]
  unfold kids
  rw [List.flatMap_append]
  simp [kid]
/-- A list of this one alone. -/
def lone1 (B : Nat) (t : Ex) : Ex := .mk 0 0 0 ⟨#[]⟩ ⟨#[]⟩ (.mk 0 0 0 0 none 0 0 0 0 fun _ => .dm) (.mk 0 0 0 0 none 0 0 0 0 fun _ => .dm) (some ⟨B, 0, none⟩) B 0 1 1 (fun _ => t) 0
theorem lone1_at {w : World} {B : Nat} {t : Ex} (h : t.At w) (hc : C17 w B 0 t) : (lone1 B t).At w :=
  ⟨⟨by decide, by decide⟩, ⟨⟨fun h => absurd h (Nat.lt_irrefl 0), by decide, fun i hi => absurd hi (Nat.not_lt_zero _)⟩, ⟨fun h => absurd h (Nat.lt_irrefl 0), by decide, fun i hi => absurd hi (Nat.not_lt_zero _)⟩⟩, fun _ => rfl, by decide, fun i hi => by
    have : i = 0 := by omega
    subst this
    exact ⟨by simpa using hc, h⟩⟩
end Go.Proofs.YtjfijpiadfkmfaaGreatDoor

/- Layer 6: lists of expressions that are written out; walk.Deep, syntax.Nest. -/
namespace Go.Proofs.YtjfijpiadfkmfaaGreatDoor
open Go.RowKit

theorem fill1_ex (t : Ex) : Instr.fill (fun i => some (i * 17, 17)) (Array.map (fun x => zEx[x % zEx.length]?.getD default) (Array.range 17)) [(0, Value.agg t.va)] = some t.va := by kernel_rfl
theorem fill2_ex (s t : Ex) : Instr.fill (fun i => some (i * 17, 17)) (Array.map (fun x => zEx[x % zEx.length]?.getD default) (Array.range 34)) [(0, Value.agg s.va), (1, Value.agg t.va)] = some (s.va ++ t.va) := by kernel_rfl
theorem fill3_ex (r s t : Ex) : Instr.fill (fun i => some (i * 17, 17)) (Array.map (fun x => zEx[x % zEx.length]?.getD default) (Array.range 51)) [(0, Value.agg r.va), (1, Value.agg s.va), (2, Value.agg t.va)] = some (r.va ++ s.va ++ t.va) := by kernel_rfl
/-- A list that is written out, where its run is known. -/
theorem wpList_slice {ops : Array Oper} {rest : List Oper} {o : Oper} {a : Act} {w w' : World} {v : Value} {Q : Exit → Act → World → Prop} (hgd : o.guard = none) (t : TypeId) (n : Nat) (parts : Array (Nat × Operand)) (ho : o.op = .buildSlice t n parts) (vals : Array (Nat × Value)) (hv : (parts.map fun (i, x) => (i, a.eval x)) = vals)
    (hs : (Instr.buildSlice t n vals).run Tryz.prog w = .ok v w') (h : wpList Tryz.prog ops Q rest (a.put o.dst v) w') : wpList Tryz.prog ops Q (o :: rest) a w := by
  subst hv
  refine wpList_plain hgd fun _ hK => ?_
  unfold Oper.wp execOp
  simp only [ho, Sem.run_bind, hs, Result.andThen_ok, Sem.run_pure]
  exact hK _ _ h
theorem C17.ofB {w : World} {B : Nat} {e : Ex} (h : Bex w B e) : C17 w B 0 e := C17.of_range h.range
theorem plain_new (w : World) (c : Array Value) (t : TypeId) : PlainAt (w.alloc (.cells c t)) w.heap.size := ⟨c, t, heap_alloc_new _ _⟩
theorem LAt.kids_ne {w : World} {v : Value} {L : List Ex} (h : LAt w v L) (hl : 0 < L.length) : kids L ≠ [] := by
  obtain ⟨_, _, _, _, _, _, _, hA⟩ := h
  match L, hl with
  | e :: L, _ =>
    have h1 := (hA e (List.mem_cons_self ..)).2.2
    intro hq
    have : e.ps 0 ∈ kids (e :: L) := mem_kids.2 ⟨e, List.mem_cons_self .., mem_kid.2 ⟨0, h1, rfl⟩⟩
    rw [hq] at this
    cases this
theorem LAt.form {w : World} {v : Value} {L : List Ex} (h : LAt w v L) : ∃ ao cap, v = .slice ao L.length cap := by
  obtain ⟨ao, _, _, cap, h, _⟩ := h
  exact ⟨ao, cap, h⟩
theorem LAt.at {w : World} {v : Value} {L : List Ex} (h : LAt w v L) : ∀ e ∈ L, e.At w := by
  obtain ⟨_, _, _, _, _, _, _, hA⟩ := h
  exact fun e he => (hA e he).1
end Go.Proofs.YtjfijpiadfkmfaaGreatDoor

/- Variables as whole blocks. -/
namespace Go.Proofs.YtjfijpiadfkmfaaGreatDoor
open Go Go.RowKit

/-- A block that holds just these values, unmarked. -/
def Blk (w : World) (B : Nat) (c : List Value) (t : TypeId) : Prop := w.heap[B]? = some (.cells c.toArray t (0, 0))
theorem Blk.lt {w : World} {B : Nat} {c : List Value} {t : TypeId} (h : Blk w B c t) : B < w.heap.size := eblock_lt h
theorem Blk.kept {w w' : World} {B : Nat} {c : List Value} {t : TypeId} (h : Blk w B c t) (hb : Below w.heap.size w w') : Blk w' B c t := by
  unfold Blk; rw [hb.block B h.lt]; exact h
theorem Blk.cell {w : World} {B : Nat} {c : List Value} {t : TypeId} (h : Blk w B c t) (i : Nat) {v : Value} (hv : c[i]? = some v) : w.cell? ⟨B, i, none⟩ = some v := by
  unfold Blk at h
  simp [World.cell?, h, hv]
theorem Blk.frozen {w : World} {B : Nat} {c : List Value} {t : TypeId} (h : Blk w B c t) (i : Nat) : w.frozen? ⟨B, i, none⟩ = false := by
  unfold Blk at h
  simp [World.frozen?, h]
theorem Blk.there {w : World} {B : Nat} {c : List Value} {t : TypeId} (h : Blk w B c t) : w.there B 0 c.length := there_of h
theorem Blk.range {w : World} {B : Nat} {c : List Value} {t : TypeId} (h : Blk w B c t) : w.rangeAt B 0 c := fun j v hv => by rw [Nat.zero_add]; exact h.cell j hv
theorem Blk.new (w : World) (c : List Value) (t : TypeId) : Blk (w.alloc (.cells c.toArray t)) w.heap.size c t := heap_alloc_new _ _
theorem Blk.plain {w : World} {B : Nat} {c : List Value} {t : TypeId} (h : Blk w B c t) : PlainAt w B := ⟨_, _, h⟩
/-- One block written, all else as it was. -/
structure WroteB (w w' : World) (B : Nat) (c : List Value) (t : TypeId) : Prop where
  blk : Blk w' B c t
  other : ∀ b, b ≠ B → w'.heap[b]? = w.heap[b]?
  size : w'.heap.size = w.heap.size
  below : ∀ {B0 : Nat} {a : World}, B0 ≤ B → Below B0 a w → Below B0 a w'
theorem WroteB.keep {w w' : World} {B B' : Nat} {c c' : List Value} {t t' : TypeId} (h : WroteB w w' B c t) (hb : Blk w B' c' t') (hne : B' ≠ B) : Blk w' B' c' t' := by unfold Blk; rw [h.other _ hne]; exact hb
theorem setCells_heap (b : Nat) : ∀ (vs : List Value) (o : Nat) (w : World) (k : Nat), k ≠ b → (w.setCells b o vs).heap[k]? = w.heap[k]?
  | [], _, _, _, _ => rfl
  | v :: vs, o, w, k, h => by
    rw [World.setCells, setCells_heap b vs (o + 1) _ k h, Below.heap_setCell _ _ _ _ h]
theorem setCells_size (b : Nat) : ∀ (vs : List Value) (o : Nat) (w : World), (w.setCells b o vs).heap.size = w.heap.size
  | [], _, _ => rfl
  | v :: vs, o, w => by rw [World.setCells, setCells_size b vs (o + 1)]; simp [World.setCell]
theorem setCells_blk (t : TypeId) : ∀ (vs pre post : List Value) (w : World) (B : Nat), post.length = vs.length → Blk w B (pre ++ post) t → Blk (w.setCells B pre.length vs) B (pre ++ vs) t
  | [], pre, post, w, B, h, hb => by
    have e : post = [] := List.eq_nil_of_length_eq_zero h
    subst e; exact hb
  | v :: vs, pre, [], w, B, h, hb => by simp at h
  | v :: vs, pre, p :: post, w, B, h, hb => by
    rw [World.setCells]
    have h1 : Blk (w.setCell ⟨B, pre.length, none⟩ v) B ((pre ++ [v]) ++ post) t := by
      have hl := hb.lt
      unfold Blk at hb ⊢
      have e : ((pre ++ p :: post).toArray.setIfInBounds pre.length v) = ((pre ++ [v]) ++ post).toArray := by
        apply Array.toList_inj.1
        simp
      rw [← e]
      simp [World.setCell, Array.getElem?_modify, hb]
    have k := setCells_blk t vs (pre ++ [v]) post _ B (by simpa using h) h1
    rw [show (pre ++ [v]).length = pre.length + 1 by simp] at k
    simpa using k
theorem wrote_setCells {w : World} {B : Nat} {c : List Value} {t : TypeId} (h : Blk w B c t) (vs : List Value) (hl : c.length = vs.length) : WroteB w (w.setCells B 0 vs) B vs t :=
  ⟨setCells_blk t vs [] c w B hl (by simpa using h), fun b hb => setCells_heap _ _ _ _ _ hb, setCells_size _ _ _ _, fun hB hb => below_setCells hB _ _ _ hb⟩
/-- A value stored whole. -/
theorem wpList_store_blk {w : World} {ops : Array Oper} {rest : List Oper} {o : Oper} {a : Act} {Q : Exit → Act → World → Prop} (hgd : o.guard = none) (hdst : o.dst = none) (t : TypeId) (p x : Operand) (ho : o.op = .store t p x) (B : Nat) (vs : List Value)
    (hp : a.eval p = .pointer (some ⟨B, 0, none⟩)) (hx : a.eval x = .agg vs.toArray) (h1 : vs.all (·.oneCell') = true) {c : List Value} (hb : Blk w B c t) (hl : c.length = vs.length) (hi : (Tryz.prog.info? t).map (·.size) = some vs.toArray.size)
    (h : ∀ w', WroteB w w' B vs t → wpList Tryz.prog ops Q rest a w') : wpList Tryz.prog ops Q (o :: rest) a w := by
  refine wpList_store_mid hgd t p x ho B 0 vs.toArray hp hx ?_ hi (by simpa using h1) ?_
  · have := hb.there; rw [hl] at this; simpa using this
  · rw [hdst]
    exact h _ (wrote_setCells hb vs hl)
/-- Blocks made one behind the other. -/
theorem allocs_heap : ∀ (os : List Obj) (w : World) (i : Nat), i < os.length → (os.foldl World.alloc w).heap[w.heap.size + i]? = os[i]?
  | [], _, i, h => absurd h (Nat.not_lt_zero i)
  | o :: os, w, 0, _ => by
    show (os.foldl World.alloc (w.alloc o)).heap[w.heap.size + 0]? = some o
    have key : ∀ (os : List Obj) (w : World) (k : Nat), k < w.heap.size → (os.foldl World.alloc w).heap[k]? = w.heap[k]? := by
      intro os
      induction os with
      | nil => intro w k _; rfl
      | cons o os ih => intro w k hk; show (os.foldl World.alloc (w.alloc o)).heap[k]? = _; rw [ih _ k (by simp; omega), Below.heap_alloc _ _ _ hk]
    rw [Nat.add_zero, key os _ _ (by simp), heap_alloc_new]
  | o :: os, w, i + 1, h => by
    have := allocs_heap os (w.alloc o) i (by simpa using h)
    show (os.foldl World.alloc (w.alloc o)).heap[w.heap.size + (i + 1)]? = os[i]?
    rw [alloc_size] at this
    rw [← this, show w.heap.size + 1 + i = w.heap.size + (i + 1) by omega]
theorem allocs_below : ∀ (os : List Obj) (w : World), Below w.heap.size w (os.foldl World.alloc w)
  | [], _ => Below.refl _ _
  | o :: os, w => Below.next (below_alloc w o) (allocs_below os (w.alloc o))
theorem allocs_size : ∀ (os : List Obj) (w : World), (os.foldl World.alloc w).heap.size = w.heap.size + os.length
  | [], _ => rfl
  | o :: os, w => by
    show (os.foldl World.alloc (w.alloc o)).heap.size = _
    rw [allocs_size os, alloc_size]; simp; omega
end Go.Proofs.YtjfijpiadfkmfaaGreatDoor

/- Rows put one behind the other, of whatever struct. -/
namespace Go.Proofs.YtjfijpiadfkmfaaGreatDoor
open Go.RowKit

theorem gbr (w : World) (r : Option Nat) : w.grownBy w r := ⟨rfl, rfl, rfl, Nat.le_refl _, fun _ _ _ => rfl⟩
theorem gb_bel {w0 a b : World} {r : Option Nat} (h : Below w0.heap.size w0 a) (hg : a.grownBy b r) (hr : ∀ k, r = some k → w0.heap.size ≤ k) : Below w0.heap.size w0 b := by
  have hs := h.size
  refine ⟨hg.os.trans h.os, hg.tape.trans h.tape, hg.output.trans h.output, Nat.le_trans h.size hg.size, fun k hk => ?_⟩
  rw [hg.block k (by omega) (fun e => by have := hr k e.symm; omega)]
  exact h.block k hk
theorem owb {w : World} {base : Nat} {e : TypeId} {size : Nat} {v : Value} {n : Nat} {xs : List Value} (h : w.ownsRow base e size v n xs) {k : Nat} (hb : v.ownBlock = some k) : base ≤ k ∧ k < w.heap.size := by
  obtain ⟨_, ⟨rfl, _⟩ | ⟨g, cap, cur, rfl, hg, hh, _⟩⟩ := h
  · cases hb
  · have : g = k := by simpa [Value.ownBlock] using hb
    subst this
    exact ⟨hg, (Array.getElem?_eq_some_iff.1 hh).1⟩
theorem owk {w w' : World} {base : Nat} {e : TypeId} {size : Nat} {v : Value} {n : Nat} {xs : List Value} (h : w.ownsRow base e size v n xs) (hb : Below w.heap.size w w') : w'.ownsRow base e size v n xs := by
  have hl := fun k hk => (owb h (k := k) hk).2
  obtain ⟨h0, h⟩ := h
  refine ⟨h0, ?_⟩
  rcases h with ⟨rfl, hn⟩ | ⟨g, cap, cur, rfl, hg, hh, hr⟩
  · exact Or.inl ⟨rfl, hn⟩
  · exact Or.inr ⟨g, cap, cur, rfl, hg, (hb.block g (hl g rfl)).trans hh, hr⟩
theorem owform {w : World} {base : Nat} {e : TypeId} {size : Nat} {v : Value} {n : Nat} {xs : List Value} (h : w.ownsRow base e size v n xs) : ∃ ao cap, v = .slice ao n cap := by
  obtain ⟨_, ⟨rfl, rfl⟩ | ⟨g, cap, cur, rfl, _⟩⟩ := h
  · exact ⟨none, 0, rfl⟩
  · exact ⟨_, cap, rfl⟩

theorem run_append_any {S E : TypeId} {size bytes : Nat} {z : Value} (hu : Tryz.prog.underlying S = some (.slice E)) (hinf : (Tryz.prog.info? E).map (fun i => (i.zero, i.size, i.bytes)) = some (some z, size, bytes)) (hzc : z.cells.size = size) (hpos : 0 < size) (w : World) (ty : TypeId) (base : Nat) (v : Value) (n : Nat) (xs : List Value) (ho : w.ownsRow base E size v n xs) (ao : Option Addr) (m c : Nat) (news : List Value) (hnone : ao = none → m = 0 ∧ c = 0) (hl : news.length = m * size) (hn : ∀ a, ao = some a → ∀ j u, news[j]? = some u → w.cell? (a.add j) = some u) (h1 : ∀ u ∈ news, u.oneCell' = true) (h63 : n + m ≤ maxLen) (hbytes : (n + m) * bytes ≤ 140737488355328) (hb : base ≤ w.heap.size) :
    ∃ v' w', (Builtin.append_ #[S, S] ty #[v, .slice ao m c]).run Tryz.prog w = .ok v' w' ∧ w'.ownsRow base E size v' (n + m) (xs ++ news) ∧ w.grownBy w' v.ownBlock := by
  obtain ⟨i0, hi, hz0, hz1, hz2⟩ := info_parts hinf
  cases ao with
  | none =>
    obtain ⟨rfl, rfl⟩ := hnone rfl
    have hl0 : news = [] := List.eq_nil_of_length_eq_zero (by rw [hl]; omega)
    subst hl0
    refine ⟨v, w, ?_, ?_, gbr _ _⟩
    · exact run_append_owned_none (P := Tryz.prog) w base S ty E i0 size hu hi v n xs ho
    · rw [List.append_nil]; exact ho
  | some a =>
    obtain ⟨v', w', hr, h2, h3, _⟩ := run_append_own (P := Tryz.prog) w base S ty E i0 z size bytes hu hi hz0 hz1 hz2 hzc hpos v n xs ho a m c news hl (hn a rfl) h1 h63 hbytes hb
    exact ⟨v', w', hr, h2, h3⟩
theorem wpList_append_any {S E : TypeId} {size bytes : Nat} {z : Value} (hu : Tryz.prog.underlying S = some (.slice E)) (hinf : (Tryz.prog.info? E).map (fun i => (i.zero, i.size, i.bytes)) = some (some z, size, bytes)) (hzc : z.cells.size = size) (hpos : 0 < size) {w : World} {ops : Array Oper} {rest : List Oper} {o : Oper} {a : Act} {Q : Exit → Act → World → Prop} (hgd : o.guard = none) (s x : Operand)
    (hop : o.op = .call { callee := .builtin .append, args := #[s, x], argTypes := #[S, S] }) (base : Nat) (v : Value) (n : Nat) (xs : List Value) (hs : a.eval s = v) (ho : w.ownsRow base E size v n xs) (ao : Option Addr) (m c : Nat) (news : List Value) (hx : a.eval x = .slice ao m c) (hnone : ao = none → m = 0 ∧ c = 0) (hl : news.length = m * size) (hn : ∀ a, ao = some a → ∀ j u, news[j]? = some u → w.cell? (a.add j) = some u) (h1 : ∀ u ∈ news, u.oneCell' = true) (h63 : n + m ≤ maxLen) (hbytes : (n + m) * bytes ≤ 140737488355328) (hb : base ≤ w.heap.size)
    (h : ∀ v' w', w'.ownsRow base E size v' (n + m) (xs ++ news) → w.grownBy w' v.ownBlock → wpList Tryz.prog ops Q rest (a.put o.dst v') w') : wpList Tryz.prog ops Q (o :: rest) a w := by
  refine wpList_plain hgd fun K hK => ?_
  obtain ⟨v', w', hr, h2, h3⟩ := run_append_any hu hinf hzc hpos w o.type base v n xs ho ao m c news hnone hl hn h1 h63 hbytes hb
  unfold Oper.wp execOp
  simp only [hop, resolve, invoke, builtin, Sem.run_bind, Sem.run_pure, Result.andThen_ok, List.map_toArray, List.map_cons, List.map_nil, hs, hx, hr]
  exact hK _ _ (h v' w' h2 h3)

/-- One behind the other. -/
def flatN (f : Nat → List Value) : Nat → List Value
  | 0 => []
  | k + 1 => flatN f k ++ f k
theorem flatN_len {f : Nat → List Value} {c : Nat} (h : ∀ i, (f i).length = c) : ∀ k, (flatN f k).length = k * c
  | 0 => by simp [flatN]
  | k + 1 => by
    show (flatN f k ++ f k).length = _
    rw [List.length_append, flatN_len h k, h, Nat.add_mul, Nat.one_mul]
theorem flatN_get {f : Nat → List Value} {c : Nat} (h : ∀ i, (f i).length = c) : ∀ k i j, i < k → j < c → (flatN f k)[i * c + j]? = (f i)[j]?
  | 0, i, _, hi, _ => absurd hi (Nat.not_lt_zero _)
  | k + 1, i, j, hi, hj => by
    show (flatN f k ++ f k)[i * c + j]? = _
    have hl := flatN_len h k
    by_cases e : i = k
    · subst e
      rw [List.getElem?_append_right (by rw [hl]; omega), hl]
      congr 1; omega
    · have h2 : i * c + j < k * c := by
        have : (i + 1) * c ≤ k * c := Nat.mul_le_mul_right c (by omega)
        rw [Nat.add_mul, Nat.one_mul] at this
        omega
      rw [List.getElem?_append_left (by rw [hl]; exact h2)]
      exact flatN_get h k i j (by omega) hj
theorem flatN_app (f h : Nat → List Value) (a : Nat) : ∀ b, flatN (fun i => if i < a then f i else h (i - a)) (a + b) = flatN f a ++ flatN h b
  | 0 => by
    rw [Nat.add_zero]
    show _ = flatN f a ++ []
    rw [List.append_nil]
    have key : ∀ k, k ≤ a → flatN (fun i => if i < a then f i else h (i - a)) k = flatN f k := fun k => by
      induction k with
      | zero => intro _; rfl
      | succ k ih =>
        intro hk
        show flatN _ k ++ _ = flatN f k ++ f k
        rw [ih (by omega)]
        simp only [if_pos (show k < a by omega)]
    exact key a (Nat.le_refl _)
  | b + 1 => by
    show flatN _ (a + b) ++ (if a + b < a then f (a + b) else h (a + b - a)) = flatN f a ++ (flatN h b ++ h b)
    rw [flatN_app f h a b, List.append_assoc, if_neg (show ¬ a + b < a by omega), show a + b - a = b by omega]
theorem flatN_mem {f : Nat → List Value} {u : Value} : ∀ k, u ∈ flatN f k → ∃ i, i < k ∧ u ∈ f i
  | 0, h => by cases h
  | k + 1, h => by
    rcases List.mem_append.1 h with h | h
    · obtain ⟨i, hi, hu⟩ := flatN_mem k h
      exact ⟨i, by omega, hu⟩
    · exact ⟨k, by omega, h⟩
theorem adp (b off i : Nat) : (⟨b, off, none⟩ : Addr).add i = ⟨b, off + i, none⟩ := by unfold Addr.add; split <;> simp_all
theorem flatN_cell {f : Nat → List Value} {c : Nat} (h : ∀ i, (f i).length = c) (hc : 0 < c) {w : World} {b o : Nat} {k : Nat} (hr : ∀ i, i < k → w.rangeAt b (o + i * c) (f i)) : ∀ j u, (flatN f k)[j]? = some u → w.cell? ((⟨b, o, none⟩ : Addr).add j) = some u := by
  intro j u hj
  have hlt : j < k * c := by rw [← flatN_len h k]; exact (List.getElem?_eq_some_iff.1 hj).1
  have hi : j / c < k := Nat.div_lt_of_lt_mul (by rw [Nat.mul_comm]; exact hlt)
  have hm : j % c < c := Nat.mod_lt _ hc
  have e : j = j / c * c + j % c := by rw [Nat.mul_comm]; exact (Nat.div_add_mod j c).symm
  rw [e, flatN_get h k _ _ hi hm] at hj
  have := hr (j / c) hi (j % c) u hj
  rw [adp, show o + j = o + j / c * c + j % c by omega]
  exact this
end Go.Proofs.YtjfijpiadfkmfaaGreatDoor

/- Layer 13: a pool in memory; what turns the pool alone. -/
namespace Go.Proofs.YtjfijpiadfkmfaaGreatDoor
open Go Go.RowKit

/-- Turned at most where S is, and grown. -/
structure Ftp (S : Nat → Prop) (w w' : World) : Prop where
  os : w'.os = w.os
  tape : w'.tape = w.tape
  output : w'.output = w.output
  size : w.heap.size ≤ w'.heap.size
  block : ∀ k, k < w.heap.size → ¬ S k → w'.heap[k]? = w.heap[k]?
theorem Ftp.refl (S : Nat → Prop) (w : World) : Ftp S w w := ⟨rfl, rfl, rfl, Nat.le_refl _, fun _ _ _ => rfl⟩
theorem Ftp.next {S S' : Nat → Prop} {a b c : World} (h : Ftp S a b) (k : Ftp S' b c) (hs : ∀ x, x < a.heap.size → S' x → S x) : Ftp S a c :=
  ⟨k.os.trans h.os, k.tape.trans h.tape, k.output.trans h.output, Nat.le_trans h.size k.size, fun i hi hn => (k.block i (Nat.lt_of_lt_of_le hi h.size) (fun x => hn (hs i hi x))).trans (h.block i hi hn)⟩
theorem Ftp.of_below {S : Nat → Prop} {w w' : World} (h : Below w.heap.size w w') : Ftp S w w' := ⟨h.os, h.tape, h.output, h.size, fun k hk _ => h.block k hk⟩
theorem Ftp.below {S : Nat → Prop} {B : Nat} {a w w' : World} (h : Ftp S w w') (hb : Below B a w) (hB : B ≤ a.heap.size) (hs : ∀ x, S x → B ≤ x) : Below B a w' :=
  ⟨h.os.trans hb.os, h.tape.trans hb.tape, h.output.trans hb.output, Nat.le_trans hb.size h.size, fun k hk => (h.block k (Nat.lt_of_lt_of_le hk (Nat.le_trans hB hb.size)) (fun x => absurd (hs k x) (by omega))).trans (hb.block k hk)⟩
theorem Ftp.blk {S : Nat → Prop} {w w' : World} {B : Nat} {c : List Value} {t : TypeId} (h : Ftp S w w') (hb : Blk w B c t) (hn : ¬ S B) : Blk w' B c t := by unfold Blk; rw [h.block B hb.lt hn]; exact hb
theorem ftp_wrote {S : Nat → Prop} {w w' : World} {B : Nat} {c : List Value} {t : TypeId} (W : WroteB w w' B c t) (hS : S B) : Ftp S w w' := by
  have h := W.below (B0 := 0) (a := w) (Nat.zero_le _) (Below.refl _ _)
  exact ⟨h.os, h.tape, h.output, h.size, fun k _ hn => W.other k (fun e => hn (e ▸ hS))⟩

def flatL (R : List Ty) : List Value := R.flatMap Ty.vs
theorem flatL_len (R : List Ty) : (flatL R).length = R.length * 5 := by
  induction R with
  | nil => rfl
  | cons t R ih => unfold flatL at *; rw [List.flatMap_cons, List.length_append, ih, List.length_cons]; show 5 + _ = _; omega
theorem flatL_snoc (R : List Ty) (t : Ty) : flatL (R ++ [t]) = flatL R ++ t.vs := by unfold flatL; rw [List.flatMap_append]; simp
/-- A pool in block p: over the old memory w0, its lattice, its map in block m, its types in v. -/
structure Pw (w0 : World) (n : Strs) (g : Grid) (p m : Nat) (v : Value) (es : Array MapEntry) (c : Nat) (Q : List (List Int)) (R : List Ty) (w : World) : Prop where
  bl : Below w0.heap.size w0 w
  blk : Blk w p [.slice n.ao n.len n.cap, .slice g.ao g.len g.cap, v, .map (some m)] 63
  mp : w.heap[m]? = some (.map es c)
  ks : NKeys es Q
  good : Good n.len R Q
  own : w.ownsRow w0.heap.size 36 5 v R.length (flatL R)
  at_ : ∀ t ∈ R, t.At w0
  lp : w0.heap.size ≤ p
  lm : w0.heap.size ≤ m
/-- Its blocks. -/
def PS (p m : Nat) (v : Value) : Nat → Prop := fun b => b = p ∨ b = m ∨ v.ownBlock = some b
theorem Pw.ge {w0 w : World} {n : Strs} {g : Grid} {p m : Nat} {v : Value} {es : Array MapEntry} {c : Nat} {Q : List (List Int)} {R : List Ty} (h : Pw w0 n g p m v es c Q R w) {x : Nat} (hx : PS p m v x) : w0.heap.size ≤ x ∧ x < w.heap.size := by
  rcases hx with rfl | rfl | hx
  · exact ⟨h.lp, h.blk.lt⟩
  · exact ⟨h.lm, (Array.getElem?_eq_some_iff.1 h.mp).1⟩
  · exact owb h.own hx
theorem Pw.npm {w0 w : World} {n : Strs} {g : Grid} {p m : Nat} {v : Value} {es : Array MapEntry} {c : Nat} {Q : List (List Int)} {R : List Ty} (h : Pw w0 n g p m v es c Q R w) : p ≠ m := by
  intro e
  have h1 := h.blk
  have h2 := h.mp
  unfold Blk at h1
  rw [e, h2] at h1
  cases h1
theorem own_blk {w : World} {base : Nat} {e : TypeId} {size : Nat} {v : Value} {k : Nat} {xs : List Value} (h : w.ownsRow base e size v k xs) {b : Nat} (hb : v.ownBlock = some b) : ∃ cur, w.heap[b]? = some (.cells cur e (0, 0)) := by
  obtain ⟨_, ⟨rfl, _⟩ | ⟨gg, cap, cur, rfl, _, hh, _⟩⟩ := h
  · cases hb
  · have : gg = b := by simpa [Value.ownBlock] using hb
    subst this
    exact ⟨cur, hh⟩
theorem Pw.nvp {w0 w : World} {n : Strs} {g : Grid} {p m : Nat} {v : Value} {es : Array MapEntry} {c : Nat} {Q : List (List Int)} {R : List Ty} (h : Pw w0 n g p m v es c Q R w) : v.ownBlock ≠ some p := by
  intro e
  obtain ⟨cur, h1⟩ := own_blk h.own e
  have h2 := h.blk
  unfold Blk at h2
  rw [h1] at h2
  injection h2 with h2
  injection h2 with _ h2
  exact absurd h2 (by decide)
theorem Pw.nvm {w0 w : World} {n : Strs} {g : Grid} {p m : Nat} {v : Value} {es : Array MapEntry} {c : Nat} {Q : List (List Int)} {R : List Ty} (h : Pw w0 n g p m v es c Q R w) : v.ownBlock ≠ some m := by
  intro e
  obtain ⟨cur, h1⟩ := own_blk h.own e
  rw [h.mp] at h1
  cases h1
theorem own_same {w w' : World} {base : Nat} {e : TypeId} {size : Nat} {v : Value} {k : Nat} {xs : List Value} (h : w.ownsRow base e size v k xs) (ag : ∀ b, v.ownBlock = some b → w'.heap[b]? = w.heap[b]?) : w'.ownsRow base e size v k xs := by
  obtain ⟨h1, h2⟩ := h
  refine ⟨h1, ?_⟩
  rcases h2 with h2 | ⟨gg, cap, cur, hv, hg, hh, r⟩
  · exact Or.inl h2
  · exact Or.inr ⟨gg, cap, cur, hv, hg, (ag gg (by rw [hv]; rfl)).trans hh, r⟩
theorem Pw.agree {w0 w w' : World} {n : Strs} {g : Grid} {p m : Nat} {v : Value} {es : Array MapEntry} {c : Nat} {Q : List (List Int)} {R : List Ty} (h : Pw w0 n g p m v es c Q R w) (hb : Below w0.heap.size w0 w') (ag : ∀ x, PS p m v x → w'.heap[x]? = w.heap[x]?) : Pw w0 n g p m v es c Q R w' :=
  ⟨hb, by unfold Blk; rw [ag p (Or.inl rfl)]; exact h.blk, (ag m (Or.inr (Or.inl rfl))).trans h.mp, h.ks, h.good, own_same h.own (fun b hb => ag b (Or.inr (Or.inr hb))), h.at_, h.lp, h.lm⟩
theorem Pw.kept {w0 w w' : World} {n : Strs} {g : Grid} {p m : Nat} {v : Value} {es : Array MapEntry} {c : Nat} {Q : List (List Int)} {R : List Ty} (h : Pw w0 n g p m v es c Q R w) (hb : Below w.heap.size w w') : Pw w0 n g p m v es c Q R w' :=
  h.agree (Below.next h.bl hb) (fun x hx => hb.block x (h.ge hx).2)
/-- A pool in block p, its blocks S, its types R. -/
def Pl (w0 : World) (n : Strs) (g : Grid) (p : Nat) (S : Nat → Prop) (R : List Ty) (w : World) : Prop := ∃ m v es c Q, Pw w0 n g p m v es c Q R w ∧ S = PS p m v
theorem Pl.kept {w0 w w' : World} {n : Strs} {g : Grid} {p : Nat} {S : Nat → Prop} {R : List Ty} (h : Pl w0 n g p S R w) (hb : Below w.heap.size w w') : Pl w0 n g p S R w' := by
  obtain ⟨m, v, es, c, Q, h1, h2⟩ := h
  exact ⟨m, v, es, c, Q, h1.kept hb, h2⟩
theorem Pl.ge {w0 w : World} {n : Strs} {g : Grid} {p : Nat} {S : Nat → Prop} {R : List Ty} (h : Pl w0 n g p S R w) {x : Nat} (hx : S x) : w0.heap.size ≤ x ∧ x < w.heap.size := by
  obtain ⟨m, v, es, c, Q, h1, rfl⟩ := h
  exact h1.ge hx
theorem Pl.bl {w0 w : World} {n : Strs} {g : Grid} {p : Nat} {S : Nat → Prop} {R : List Ty} (h : Pl w0 n g p S R w) : Below w0.heap.size w0 w := by
  obtain ⟨m, v, es, c, Q, h1, rfl⟩ := h
  exact h1.bl
theorem Pl.agree {w0 w w' : World} {n : Strs} {g : Grid} {p : Nat} {S : Nat → Prop} {R : List Ty} (h : Pl w0 n g p S R w) (hb : Below w0.heap.size w0 w') (ag : ∀ x, S x → w'.heap[x]? = w.heap[x]?) : Pl w0 n g p S R w' := by
  obtain ⟨m, v, es, c, Q, h1, rfl⟩ := h
  exact ⟨m, v, es, c, Q, h1.agree hb ag, rfl⟩
/-- The pool behind a call: its types R', its blocks S', and all else as it was. -/
structure Pg (w0 : World) (n : Strs) (g : Grid) (p : Nat) (S : Nat → Prop) (w : World) (S' : Nat → Prop) (R' : List Ty) (w' : World) : Prop where
  pl : Pl w0 n g p S' R' w'
  ft : Ftp S w w'
  ss : ∀ x, x < w.heap.size → S' x → S x
theorem Pg.of {w0 w w' : World} {n : Strs} {g : Grid} {p : Nat} {S : Nat → Prop} {R : List Ty} (h : Pl w0 n g p S R w) (hb : Below w.heap.size w w') : Pg w0 n g p S w S R w' := ⟨h.kept hb, Ftp.of_below hb, fun _ _ h => h⟩
theorem Pg.ahead {w0 w w1 w2 : World} {n : Strs} {g : Grid} {p : Nat} {S S' : Nat → Prop} {R' : List Ty} (hb : Below w.heap.size w w1) (h : Pg w0 n g p S w1 S' R' w2) : Pg w0 n g p S w S' R' w2 :=
  ⟨h.pl, (Ftp.of_below (S := S) hb).next h.ft (fun _ _ x => x), fun x hx => h.ss x (Nat.lt_of_lt_of_le hx hb.size)⟩
theorem Pg.trans {w0 w w1 w2 : World} {n : Strs} {g : Grid} {p : Nat} {S S1 S2 : Nat → Prop} {R1 R2 : List Ty} (h : Pg w0 n g p S w S1 R1 w1) (k : Pg w0 n g p S1 w1 S2 R2 w2) : Pg w0 n g p S w S2 R2 w2 :=
  ⟨k.pl, h.ft.next k.ft h.ss, fun x hx h2 => h.ss x hx (k.ss x (Nat.lt_of_lt_of_le hx h.ft.size) h2)⟩
theorem Pg.kept {w0 w w1 w2 : World} {n : Strs} {g : Grid} {p : Nat} {S S' : Nat → Prop} {R' : List Ty} (h : Pg w0 n g p S w S' R' w1) (hb : Below w1.heap.size w1 w2) : Pg w0 n g p S w S' R' w2 := h.trans (Pg.of h.pl hb)
/-- A block of the call's own written. -/
theorem Pg.wrote {w0 w w1 w2 : World} {n : Strs} {g : Grid} {p : Nat} {S S' : Nat → Prop} {R' : List Ty} {B : Nat} {c : List Value} {t : TypeId} (h : Pg w0 n g p S w S' R' w1) (W : WroteB w1 w2 B c t) (hn : ¬ S' B) (hB : w.heap.size ≤ B) (h0 : w0.heap.size ≤ w.heap.size) : Pg w0 n g p S w S' R' w2 :=
  ⟨h.pl.agree (W.below (Nat.le_trans h0 hB) h.pl.bl) (fun x hx => W.other x (fun e => hn (e ▸ hx))), h.ft.next (ftp_wrote (S := fun b => b = B) W rfl) (fun x hx e => absurd hx (by rw [e]; omega)), h.ss⟩
/-- A block of the caller's stays. -/
theorem Pg.blk {w0 w w1 : World} {n : Strs} {g : Grid} {p : Nat} {S S' : Nat → Prop} {R' : List Ty} (h : Pg w0 n g p S w S' R' w1) {B : Nat} {c : List Value} {t : TypeId} (hb : Blk w B c t) (hn : ¬ S B) : Blk w1 B c t ∧ ¬ S' B :=
  ⟨h.ft.blk hb hn, fun x => hn (h.ss B hb.lt x)⟩
end Go.Proofs.YtjfijpiadfkmfaaGreatDoor
