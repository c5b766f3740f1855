/- Layer 15: where code goes on, as data; lists of truths and of numbers. -/
import Derived.Test.YtmkncmmegjfipaaGreatDoorP10
import Derived.Test.YtmkncmmegjfipaaGreatDoorP12
import Derived.Lib.SlicesCompact
import Derived.Laws.AppendOwnNone
import Derived.Test.YtmkncmmegjfipaaGreatDoorP9
import Derived.Test.YtmkncmmegjfipaaGreatDoorP2
import Derived.Deep.MidRow
namespace Go.Proofs.YtmkncmmegjfipaaGreatDoor
open Go Go.RowKit

/-- Truths. -/
def blV (a : Bool) : List Value := [.bool a]
def BlAt (w : World) (r : Rw Bool) : Prop := Rw.At 1 blV (fun _ _ => True) w r
theorem BlAt.kept {w w' : World} {r : Rw Bool} (h : BlAt w r) (hb : Below w.heap.size w w') : BlAt w' r := Rw.At.kept h (fun _ k => k) hb
def Rw.ls {α : Type} (r : Rw α) : List α := (List.range r.len).map r.x
theorem Rw.ls_len {α : Type} (r : Rw α) : r.ls.length = r.len := by simp [Rw.ls]
theorem Rw.ls_get {α : Type} (r : Rw α) (i : Nat) (hi : i < r.len) : r.ls[i]? = some (r.x i) := by simp [Rw.ls, hi]
theorem Rw.mem_ls {α : Type} {r : Rw α} {a : α} : a ∈ r.ls ↔ ∃ i, i < r.len ∧ r.x i = a := by simp [Rw.ls]

/-! What is told of a function. -/
def Cf.pl (f : Cf) (a : Int) : Bool := decide (0 ≤ a) && decide (a < f.cd.len)
theorem Cf.pl_iff {f : Cf} {a : Int} : f.pl a = true ↔ 0 ≤ a ∧ a < f.cd.len := by simp [Cf.pl]
def Cf.hit (f : Cf) (p : Int) (i : Nat) : Bool := decide ((f.hd.x i).fr ≤ p) && decide (p < (f.hd.x i).to)
def Cf.han (f : Cf) (p : Int) : Int := match (List.range f.hd.len).find? (f.hit p) with | some i => (f.hd.x i).at_ | none => -1
theorem find_hit {p : Nat → Bool} {n j : Nat} (hj : j < n) (hp : p j = true) (hb : ∀ i, i < j → p i = false) : (List.range n).find? p = some j := by
  have e : List.range n = List.range j ++ (j :: (List.range' (j + 1) (n - j - 1))) := by
    rw [List.range_eq_range', List.range_eq_range', ← List.range'_succ, show n - j - 1 + 1 = n - j by omega]
    have := List.range'_append_1 (s := 0) (m := j) (n := n - j)
    rw [Nat.zero_add] at this
    rw [this, show j + (n - j) = n by omega]
  rw [e, List.find?_append]
  have h0 : (List.range j).find? p = none := by
    rw [List.find?_eq_none]
    intro x hx
    have := hb x (List.mem_range.1 hx)
    simp [this]
  rw [h0]
  simp [hp]
theorem find_miss {p : Nat → Bool} {n : Nat} (hb : ∀ i, i < n → p i = false) : (List.range n).find? p = none := by
  rw [List.find?_eq_none]
  intro x hx
  have := hb x (List.mem_range.1 hx)
  simp [this]
theorem Cf.han_hit {f : Cf} {p : Int} {j : Nat} (hj : j < f.hd.len) (hp : f.hit p j = true) (hb : ∀ i, i < j → f.hit p i = false) : f.han p = (f.hd.x j).at_ := by
  unfold Cf.han; rw [find_hit hj hp hb]
theorem Cf.han_miss {f : Cf} {p : Int} (hb : ∀ i, i < f.hd.len → f.hit p i = false) : f.han p = -1 := by
  unfold Cf.han; rw [find_miss hb]
theorem first_hit (q : Nat → Bool) : ∀ n, (∀ i, i < n → q i = false) ∨ ∃ j, j < n ∧ q j = true ∧ ∀ i, i < j → q i = false
  | 0 => Or.inl fun _ h => absurd h (Nat.not_lt_zero _)
  | n + 1 => by
    rcases first_hit q n with h | ⟨j, h1, h2, h3⟩
    · cases e : q n
      · exact Or.inl fun i hi => by
          by_cases e2 : i = n
          · rw [e2]; exact e
          · exact h i (by omega)
      · exact Or.inr ⟨n, by omega, e, h⟩
    · exact Or.inr ⟨j, by omega, h2, h3⟩
theorem Cf.han_in {f : Cf} {w : World} (h : f.At w) (p : Int) : I64 (f.han p) := by
  rcases first_hit (f.hit p) f.hd.len with h1 | ⟨j, h1, h2, h3⟩
  · rw [Cf.han_miss h1]; exact ⟨by omega, by omega⟩
  · rw [Cf.han_hit h1 h2 h3]; exact (h.hd.each j h1).at_
def rsG (g : Rw Bool) (p : Nat) : Bool := decide (p < g.len) && g.x p
def rsO (op : Int) : Bool := (decide (op = 9) || decide (op = 10)) || decide (op = 26)
/-- It raises. -/
def Cf.rs (f : Cf) (g : Rw Bool) (p : Nat) : Bool := rsO (f.cd.x p).op || (decide ((f.cd.x p).op = 19) && rsG g p)
def nxO (op : Int) : Bool := ((decide (op ≠ 0) && decide (op ≠ 24)) && decide (op ≠ 26)) && decide (op ≠ 27)
/-- Where it jumps to. -/
def Cf.tg (f : Cf) (p : Nat) : Int := if ((f.cd.x p).op = 24 ∨ (f.cd.x p).op = 25) ∧ (0 ≤ (f.cd.x p).a ∧ (f.cd.x p).a < f.cd.len) then (f.cd.x p).a else -1
def Cf.lv (f : Cf) (g : Rw Bool) (p : Nat) : Bool := decide ((f.cd.x p).op = 27) || (f.rs g p && decide (f.han p = -1))
def Cf.br (f : Cf) (g : Rw Bool) (p : Nat) : Bool := decide ((f.cd.x p).op = 25) || (((decide ((f.cd.x p).op = 9) || decide ((f.cd.x p).op = 10)) || decide ((f.cd.x p).op = 19)) && f.rs g p)
/-- A way, its handler being h. -/
def Cf.wayH (f : Cf) (g : Rw Bool) (h : Int) (p q : Nat) : Prop := q < f.cd.len ∧ ((q = p + 1 ∧ nxO (f.cd.x p).op = true) ∨ (((f.cd.x p).op = 24 ∨ (f.cd.x p).op = 25) ∧ (f.cd.x p).a = q) ∨ (f.rs g p = true ∧ h = q))
def Cf.way (f : Cf) (g : Rw Bool) (p q : Nat) : Prop := f.wayH g (f.han p) p q
/-- The ways from a place. -/
noncomputable def Cf.wsH (f : Cf) (g : Rw Bool) (h : Int) (p : Nat) : List Int := (Fl.lst f.cd.len (f.wayH g h p)).map fun q : Nat => (q : Int)
noncomputable def Cf.ws (f : Cf) (g : Rw Bool) (p : Nat) : List Int := f.wsH g (f.han p) p
/-- What is told first, next, last. -/
def Cf.w1 (f : Cf) (p : Nat) : List Int := if nxO (f.cd.x p).op = true ∧ p + 1 < f.cd.len then [(p : Int) + 1] else []
def Cf.w2 (f : Cf) (p : Nat) : List Int := if f.tg p = -1 then [] else [f.tg p]
def Cf.w3 (f : Cf) (g : Rw Bool) (h : Int) (p : Nat) : List Int := if f.rs g p = true ∧ f.pl h = true then [h] else []
theorem Cf.mem_w (f : Cf) (g : Rw Bool) (h : Int) (p : Nat) (a : Int) : a ∈ f.w1 p ++ f.w2 p ++ f.w3 g h p ↔ ∃ q : Nat, a = q ∧ f.wayH g h p q := by
  unfold Cf.w1 Cf.w2 Cf.w3 Cf.wayH Cf.tg
  simp only [List.mem_append, Cf.pl_iff]
  constructor
  · rintro ((h1 | h1) | h1)
    · split at h1
      · rename_i h2
        refine ⟨p + 1, by simpa using h1, h2.2, Or.inl ⟨rfl, h2.1⟩⟩
      · simp at h1
    · by_cases h2 : ((f.cd.x p).op = 24 ∨ (f.cd.x p).op = 25) ∧ (0 ≤ (f.cd.x p).a ∧ (f.cd.x p).a < f.cd.len)
      · rw [if_pos h2] at h1
        rw [if_neg (by omega)] at h1
        have h3 : a = (f.cd.x p).a := by simpa using h1
        refine ⟨(f.cd.x p).a.toNat, by omega, by omega, Or.inr (Or.inl ⟨h2.1, by omega⟩)⟩
      · rw [if_neg h2] at h1
        simp at h1
    · split at h1
      · rename_i h2
        have h3 : a = h := by simpa using h1
        refine ⟨h.toNat, by omega, by omega, Or.inr (Or.inr ⟨h2.1, by omega⟩)⟩
      · simp at h1
  · rintro ⟨q, rfl, hq, ⟨rfl, h1⟩ | ⟨h1, h2⟩ | ⟨h1, h2⟩⟩
    · left; left
      rw [if_pos ⟨h1, hq⟩]
      simp
    · left; right
      rw [if_pos (show ((f.cd.x p).op = 24 ∨ (f.cd.x p).op = 25) ∧ (0 ≤ (f.cd.x p).a ∧ (f.cd.x p).a < f.cd.len) from ⟨h1, by omega, by omega⟩), if_neg (by omega), h2]
      simp
    · right
      rw [if_pos ⟨h1, by omega⟩, h2]
      simp
theorem upTo_props (d : Array Int) (hs : ∀ i j, i < j → j < d.size → d[i]! ≤ d[j]!) : ∀ m, m ≤ d.size → (Lib.compactUpTo d m).Pairwise (· < ·) ∧ (∀ a, a ∈ Lib.compactUpTo d m ↔ ∃ i, i < m ∧ d[i]! = a)
  | 0, _ => by simp [Lib.compactUpTo]
  | m + 1, hm => by
    obtain ⟨h1, h2⟩ := upTo_props d hs m (by omega)
    rw [Lib.compactUpTo_succ]
    cases hk : Lib.keeps d m
    · have hk' : ¬ (m = 0 ∨ d[m]! ≠ d[m - 1]!) := by simpa [Lib.keeps] using hk
      have h3 : 0 < m := by omega
      have h4 : d[m]! = d[m - 1]! := by
        by_cases e : d[m]! = d[m - 1]!
        · exact e
        · exact absurd (Or.inr e) hk'
      refine ⟨by simpa using h1, fun a => ?_⟩
      simp only [Bool.false_eq_true, if_false, List.append_nil]
      rw [h2]
      constructor
      · rintro ⟨i, hi, rfl⟩; exact ⟨i, by omega, rfl⟩
      · rintro ⟨i, hi, rfl⟩
        by_cases e : i = m
        · subst e; exact ⟨i - 1, by omega, h4.symm⟩
        · exact ⟨i, by omega, rfl⟩
    · have hk' : m = 0 ∨ d[m]! ≠ d[m - 1]! := by simpa [Lib.keeps] using hk
      refine ⟨?_, fun a => ?_⟩
      · rw [if_pos rfl, List.pairwise_append]
        refine ⟨h1, by simp, fun x hx y hy => ?_⟩
        obtain ⟨i, hi, rfl⟩ := (h2 x).1 hx
        have : y = d[m]! := by simpa using hy
        subst this
        have h3 : d[m]! ≠ d[m - 1]! := hk'.resolve_left (by omega)
        have h4 := hs (m - 1) m (by omega) (by omega)
        have h5 : d[i]! ≤ d[m - 1]! := by
          by_cases e : i = m - 1
          · rw [e]; exact Int.le_refl _
          · exact hs i (m - 1) (by omega) (by omega)
        omega
      · rw [if_pos rfl, List.mem_append, h2]
        constructor
        · rintro (⟨i, hi, rfl⟩ | h)
          · exact ⟨i, by omega, rfl⟩
          · exact ⟨m, by omega, (by simpa using h : a = d[m]!).symm⟩
        · rintro ⟨i, hi, rfl⟩
          by_cases e : i = m
          · subst e; right; simp
          · left; exact ⟨i, by omega, rfl⟩
theorem compact_sort (zs : List Int) : (Lib.compact (zs.mergeSort fun x y => decide (x ≤ y))).Pairwise (· < ·) ∧ ∀ a, a ∈ Lib.compact (zs.mergeSort fun x y => decide (x ≤ y)) ↔ a ∈ zs := by
  have hp : (zs.mergeSort fun x y => decide (x ≤ y)).Pairwise (fun a b => a ≤ b) := by
    have := List.pairwise_mergeSort (le := fun x y : Int => decide (x ≤ y)) (fun a b c h1 h2 => by simp at h1 h2 ⊢; omega) (fun a b => by simp; omega) zs
    exact this.imp (by simp)
  have hm : ∀ a, a ∈ (zs.mergeSort fun x y => decide (x ≤ y)) ↔ a ∈ zs := fun a => List.mem_mergeSort
  generalize (zs.mergeSort fun x y => decide (x ≤ y)) = l at *
  have key := upTo_props l.toArray (fun i j hij hj => by
    have hj' : j < l.length := by simpa using hj
    have := List.pairwise_iff_getElem.1 hp i j (by omega) hj' hij
    simpa [getElem!_pos, hj', show i < l.length by omega] using this) l.length (by simp)
  refine ⟨key.1, fun a => ?_⟩
  show a ∈ Lib.compactUpTo l.toArray l.length ↔ _
  rw [key.2, ← hm, List.mem_iff_getElem]
  constructor
  · rintro ⟨i, hi, rfl⟩; exact ⟨i, hi, by simp [getElem!_pos, hi]⟩
  · rintro ⟨i, hi, rfl⟩; exact ⟨i, hi, by simp [getElem!_pos, hi]⟩
/-- A rising list of numbers that are places. -/
theorem lst_map_of {n : Nat} {P : Nat → Prop} {l : List Int} (hr : l.Pairwise (· < ·)) (hm : ∀ a, a ∈ l ↔ ∃ q : Nat, a = q ∧ (q < n ∧ P q)) : l = (Fl.lst n P).map fun q : Nat => (q : Int) := by
  have e : l = (l.map Int.toNat).map fun q : Nat => (q : Int) := by
    rw [List.map_map]
    conv => lhs; rw [← List.map_id l]
    apply List.map_congr_left
    intro a ha
    obtain ⟨q, rfl, _⟩ := (hm a).1 ha
    simp
  rw [e]
  congr 1
  apply Fl.lst_of
  · rw [List.pairwise_map]
    refine hr.imp_of_mem fun {a b} ha hb hlt => ?_
    obtain ⟨q, rfl, _⟩ := (hm a).1 ha
    obtain ⟨q', rfl, _⟩ := (hm b).1 hb
    simpa using hlt
  · intro p
    rw [List.mem_map]
    constructor
    · rintro ⟨a, ha, rfl⟩
      obtain ⟨q, rfl, h⟩ := (hm a).1 ha
      simpa using h
    · intro h
      exact ⟨p, (hm p).2 ⟨p, rfl, h⟩, by simp⟩
theorem Cf.wsH_eq (f : Cf) (g : Rw Bool) (h : Int) (p : Nat) : Lib.compact ((f.w1 p ++ f.w2 p ++ f.w3 g h p).mergeSort fun x y => decide (x ≤ y)) = f.wsH g h p := by
  obtain ⟨h1, h2⟩ := compact_sort (f.w1 p ++ f.w2 p ++ f.w3 g h p)
  refine lst_map_of h1 fun a => ?_
  rw [h2, Cf.mem_w]
  constructor
  · rintro ⟨q, e, hq⟩; exact ⟨q, e, hq.1, hq⟩
  · rintro ⟨q, e, _, hq⟩; exact ⟨q, e, hq⟩
theorem mem_lstm {n : Nat} {P : Nat → Prop} {a : Int} : a ∈ (Fl.lst n P).map (fun q : Nat => (q : Int)) ↔ ∃ q : Nat, a = q ∧ (q < n ∧ P q) := by
  rw [List.mem_map]
  constructor
  · rintro ⟨q, hq, rfl⟩; exact ⟨q, rfl, Fl.mem_lst.1 hq⟩
  · rintro ⟨q, rfl, hq⟩; exact ⟨q, Fl.mem_lst.2 hq, rfl⟩
theorem lstm_rising (n : Nat) (P : Nat → Prop) : ((Fl.lst n P).map (fun q : Nat => (q : Int))).Pairwise (· < ·) := by
  rw [List.pairwise_map]
  exact (Fl.lst_rising n P).imp (by intro a b h; omega)

/-! Numbers of the call's own. -/
def ivL (l : List Int) : List Value := l.map fun a => .int .i64 a
/-- v owns the numbers l, in a block from base on. -/
def Oi (w : World) (base : Nat) (v : Value) (l : List Int) : Prop := w.ownsRow base 3 1 v l.length (ivL l)
theorem Oi.nil (w : World) (base : Nat) : Oi w base (.slice none 0 0) [] := World.ownsRow_nil _ _ _ _
theorem Oi.kept {w w' : World} {base : Nat} {v : Value} {l : List Int} (h : Oi w base v l) (hb : Below w.heap.size w w') : Oi w' base v l := owk h hb
theorem Oi.rw {w : World} {base : Nat} {v : Value} {l : List Int} (h : Oi w base v l) (hl : ∀ a ∈ l, I64 a) (hn : l.length ≤ 9223372036854775807) : ∃ r : Rw Int, v = .slice r.ao r.len r.cap ∧ NmAt w r ∧ r.ls = l ∧ (r.ao = none → r.len = 0 ∧ r.cap = 0) ∧ base ≤ r.b := by
  have h' := h
  obtain ⟨_, ⟨rfl, h0⟩ | ⟨g, cap, cur, rfl, hb, hg, hn', hc, hs, ht⟩⟩ := h
  · have : l = [] := List.eq_nil_of_length_eq_zero h0
    subst this
    exact ⟨⟨none, base, 0, 0, 0, fun _ => 0⟩, rfl, ⟨fun h => absurd h (Nat.lt_irrefl _), Nat.zero_le _, fun _ h => absurd h (Nat.not_lt_zero _), fun _ h => absurd h (Nat.not_lt_zero _)⟩, rfl, fun _ => ⟨rfl, rfl⟩, Nat.le_refl _⟩
  · have hget : ∀ i, i < l.length → l.getD i 0 ∈ l := fun i hi => by
      rw [List.getD_eq_getElem?_getD, List.getElem?_eq_getElem hi]; exact List.getElem_mem _
    refine ⟨⟨some ⟨g, 0, none⟩, g, 0, l.length, cap, fun i => l.getD i 0⟩, rfl, ⟨fun _ => rfl, hn, fun i hi => ?_, fun i hi => hl _ (hget i hi)⟩, ?_, (fun h => by cases h), hb⟩
    · intro j v hv
      match j with
      | 0 =>
        have e : v = .int .i64 (l.getD i 0) := by simpa [numV] using hv.symm
        subst e
        show w.cell? ⟨g, 0 + i * 1 + 0, none⟩ = _
        have hi' : i < l.length := hi
        have := World.ownsRow.cells h' (g := g) rfl i (.int .i64 (l.getD i 0)) (by simp [ivL, hi'])
        rw [adp] at this
        simpa using this
      | j + 1 => simp [numV] at hv
    · unfold Rw.ls
      apply List.ext_getElem?
      intro i
      by_cases hi : i < l.length
      · simp [hi]
      · rw [List.getElem?_eq_none (by simp; omega), List.getElem?_eq_none (by omega)]
end Go.Proofs.YtmkncmmegjfipaaGreatDoor

/- Layer 2: clone. -/
namespace Go.Proofs.YtmkncmmegjfipaaGreatDoor
open Go.RowKit

theorem Tryz.infoTy : (Tryz.prog.info? 53).map (fun i => (i.zero, i.size, i.bytes)) = some (some (.agg #[.int .i64 0, .int .i64 0, .slice none 0 0, .int .i64 0, .int .i64 0]), 5, 56) := by kernel_rfl

theorem own_kept {w w' : World} {base : Nat} {e : TypeId} {size : Nat} {v : Value} {n : Nat} {xs : List Value} (h : w.ownsRow base e size v n xs) (hb : Below w.heap.size w w') : w'.ownsRow base e size v n xs := by
  obtain ⟨h1, h2⟩ := h
  refine ⟨h1, ?_⟩
  rcases h2 with h2 | ⟨g, cap, cur, hv, hg, hh, r⟩
  · exact Or.inl h2
  · exact Or.inr ⟨g, cap, cur, hv, hg, (hb.block g (Array.getElem?_eq_some_iff.1 hh).1).trans hh, r⟩

/-- The variables of a call that clones: a type's, and the result's. -/
structure CBox (w w0 : World) (t : Ty) : Prop where
  bl : Below w.heap.size w w0
  sz : w0.heap.size = w.heap.size + 2
  x : Bx w0 w.heap.size t
  fx : ∀ i, i < 5 → w0.frozen? ⟨w.heap.size, i, none⟩ = false
  r : ∀ i, i < 5 → (w0.cell? ⟨w.heap.size + 1, i, none⟩).isSome = true
  fr : ∀ i, i < 5 → w0.frozen? ⟨w.heap.size + 1, i, none⟩ = false
theorem cbox_new (w : World) (t : Ty) : CBox w ((w.alloc (tyO t)).alloc (.cells #[.int .i64 0, .int .i64 0, .slice none 0 0, .int .i64 0, .int .i64 0] 53)) t where
  bl := Below.next (below_alloc _ _) (below_alloc _ _)
  sz := by rw [alloc_size, alloc_size]
  x := (Bx.new w t).kept (below_alloc _ _)
  fx := fun i hi => by
    rw [(below_alloc (w.alloc (tyO t)) _).frozen (p := ⟨w.heap.size, i, none⟩) (by rw [alloc_size]; exact Nat.lt_succ_self _)]
    simp [tyO]
  r := fun i hi => by
    have e : (w.alloc (tyO t)).heap.size = w.heap.size + 1 := alloc_size _ _
    rw [← e]
    match i, hi with
    | 0, _ => simp
    | 1, _ => simp
    | 2, _ => simp
    | 3, _ => simp
    | 4, _ => simp
  fr := fun i hi => by
    have e : (w.alloc (tyO t)).heap.size = w.heap.size + 1 := alloc_size _ _
    rw [← e]
    simp

/-- What clone answers. -/
def CP (w : World) (t : Ty) (e : Ending) (w' : World) : Prop :=
  ∃ u : Ty, e = .returned (.agg #[.int .i64 u.k, .int .i64 u.l, .slice u.ao u.len u.cap, .int .i64 u.h, .int .i64 u.e]) ∧ u.At w' ∧ u.Blk (fun b => w.heap.size ≤ b) ∧ u.same t = true ∧ Below w.heap.size w w'

theorem CP.intro {w : World} {t : Ty} {e : Ending} {w' : World} (u : Ty) (h1 : e = .returned (.agg #[.int .i64 u.k, .int .i64 u.l, .slice u.ao u.len u.cap, .int .i64 u.h, .int .i64 u.e])) (h2 : u.At w') (h3 : u.Blk (fun b => w.heap.size ≤ b)) (h4 : u.same t = true) (h5 : Below w.heap.size w w') : CP w t e w' := ⟨u, h1, h2, h3, h4, h5⟩

end Go.Proofs.YtmkncmmegjfipaaGreatDoor

/- The law's own small lattice, and what is asked of it first; few. -/
namespace Go.Proofs.YtmkncmmegjfipaaGreatDoor
open Go.RowKit

theorem formed_gen {n : Strs} {ao : Option Addr} {gg len cap : Nat} {s : Nat → ByteArray} {R : Nat → Nat} {M : Nat → Nat → Bool} (h1 : n.len = len) (h2 : n.s = s) : formedB n (gridR ao gg len cap R M) = formedM len s M := by
  obtain ⟨ao, b, o, l, c, s'⟩ := n
  simp only at h1 h2
  subst h1 h2
  rfl
theorem grid_set_nil {g : Grid} {w : World} (h : g.At w) {a : Addr} (ha : w.cell? a = some (.slice none 0 0)) (hA : ∀ r, r < g.len → g.A r ≠ none) (v : Value) : g.At (w.setCell a v) where
  lc := h.lc
  nil := h.nil
  bound := h.bound
  lbound := h.lbound
  row := fun r hr => by
    have hc := h.row r hr
    rw [World.cell?_setCell_other _ _ _ _ (fun e => by rw [← e, ha] at hc; injection hc with hc; injection hc with h1 _ _; exact hA r hr h1.symm)]
    exact hc
  adr := h.adr
  cell := fun r hr c hc => by
    have hc := h.cell r hr c hc
    rw [World.cell?_setCell_other _ _ _ _ (fun e => by rw [← e, ha] at hc; cases hc)]
    exact hc
/-- The lattice of two. -/
structure Lt2 (n : Strs) (g : Grid) (w : World) : Prop where
  nat : n.At w
  gat : g.At w
  fd : formedB n g = true
  two : n.len = 2
  le : g.B 0 1 = true
  rows : ∀ r, r < g.len → g.A r ≠ none

theorem two_make (w : World) :
    Calls Tryz.prog 17 #[.slice (some ⟨w.heap.size, 0, none⟩) 2 2, .slice (some ⟨w.heap.size + 1, 0, none⟩) 1 1] ((w.alloc (.cells #[.string ⟨#[108, 111, 119]⟩, .string ⟨#[104, 105, 103, 104]⟩] 9)).alloc (.cells #[.int .i64 0, .int .i64 1] 100))
      fun e w' => ∃ (n : Strs) (g : Grid), e = .returned (.tuple #[.agg #[.slice n.ao n.len n.cap, .slice g.ao g.len g.cap], .int .i64 0]) ∧ Lt2 n g w' ∧ Below w.heap.size w w' := by
  refine (rmake_any (awkN w.heap.size) (awkP (w.heap.size + 1)) (awkW w) (awkN_at w) (awkP_at w) (Or.inr rfl)).mono ?_
  rintro e w1 ⟨er, n', g', rfl, hM, hb1⟩
  have h0 : er = 0 := hM.er.trans (awk_e _ _)
  subst h0
  obtain ⟨h1, h2, ao, gg, cap, R, rfl⟩ := hM.yes rfl
  refine ⟨n', _, rfl, ⟨hM.nat, hM.gat, ?_, h1, ?_, fun r _ => by simp [gridR]⟩, (awkW_below w).trans (hb1.mono (awkW_below w).size)⟩
  · rw [formed_gen h1 h2]
    have he := awk_e w.heap.size (w.heap.size + 1)
    unfold makeE at he
    split at he
    · cases he
    · split at he
      · cases he
      · split at he
        · cases he
        · rename_i h; simpa using h
  · show leastM (awkP (w.heap.size + 1)) 2 0 1 = true
    refine within_war 2 _ 2 0 1 (by omega) (by omega) ?_
    unfold prsM
    rw [Bool.or_eq_true, decide_eq_true_eq]
    exact Or.inr ⟨0, by show 0 < 1; omega, rfl, rfl⟩

/-- A type without Parts. -/
def leafT (k l : Int) : Ty := .mk k l 0 0 none 0 0 0 0 (fun _ => .dm)
theorem leaf_at (k l : Int) (w : World) : (leafT k l).At w := ⟨fun h => absurd h (Nat.lt_irrefl _), Nat.zero_le _, fun _ h => absurd h (Nat.not_lt_zero _)⟩
theorem leaf_ok (l : Int) (N : Nat) (h : inR N l = true) : (leafT 1 l).ok N = true := by
  unfold Ty.ok leafT
  rw [fm_eq, h]
  rfl
theorem two_bel {n : Strs} {g : Grid} {w : World} (h : Lt2 n g w) : belB n g (leafT 1 0) (leafT 1 1) = true := by
  unfold belB
  rw [h.fd, leaf_ok 0 _ (by rw [h.two]; rfl), leaf_ok 1 _ (by rw [h.two]; rfl)]
  show (((1 : Int) == 1) && g.B 0 1 && true) = true
  rw [h.le]; rfl

/-- What few answers. -/
def fewB (n : Strs) (g : Grid) (s t : Ty) : Bool := (smallB n g && decide (s.nodes ≤ 40)) && decide (t.nodes ≤ 40)

end Go.Proofs.YtmkncmmegjfipaaGreatDoor

/- Layer 2: a type stored. -/
namespace Go.Proofs.YtmkncmmegjfipaaGreatDoor
open Go.RowKit

/-- Five cells written. -/
def World.put5 (w : World) (B : Nat) (v0 v1 v2 v3 v4 : Value) : World := ((((w.setCell ⟨B, 0, none⟩ v0).setCell ⟨B, 1, none⟩ v1).setCell ⟨B, 2, none⟩ v2).setCell ⟨B, 3, none⟩ v3).setCell ⟨B, 4, none⟩ v4
theorem put5_heap (w : World) (B : Nat) (v0 v1 v2 v3 v4 : Value) {b : Nat} (h : b ≠ B) : (World.put5 w B v0 v1 v2 v3 v4).heap[b]? = w.heap[b]? := by
  unfold World.put5
  rw [Below.heap_setCell _ _ _ _ h, Below.heap_setCell _ _ _ _ h, Below.heap_setCell _ _ _ _ h, Below.heap_setCell _ _ _ _ h, Below.heap_setCell _ _ _ _ h]
theorem put5_below {w w1 : World} {B : Nat} (hB : w.heap.size ≤ B) (h : Below w.heap.size w w1) (v0 v1 v2 v3 v4 : Value) : Below w.heap.size w (World.put5 w1 B v0 v1 v2 v3 v4) :=
  ((((h.setCell hB _).setCell hB _).setCell hB _).setCell hB _).setCell hB _
theorem put5_frozen (w : World) (B : Nat) (v0 v1 v2 v3 v4 : Value) (a : Addr) : (World.put5 w B v0 v1 v2 v3 v4).frozen? a = w.frozen? a := by
  unfold World.put5
  rw [World.frozen?_setCell, World.frozen?_setCell, World.frozen?_setCell, World.frozen?_setCell, World.frozen?_setCell]
theorem put5_cells {w : World} {B : Nat} (v0 v1 v2 v3 v4 : Value) {t : Ty} (h : Bx w B t) (hf : ∀ i, i < 5 → w.frozen? ⟨B, i, none⟩ = false) : (World.put5 w B v0 v1 v2 v3 v4).cell? ⟨B, 0, none⟩ = some v0 ∧ (World.put5 w B v0 v1 v2 v3 v4).cell? ⟨B, 1, none⟩ = some v1 ∧ (World.put5 w B v0 v1 v2 v3 v4).cell? ⟨B, 2, none⟩ = some v2 ∧ (World.put5 w B v0 v1 v2 v3 v4).cell? ⟨B, 3, none⟩ = some v3 ∧ (World.put5 w B v0 v1 v2 v3 v4).cell? ⟨B, 4, none⟩ = some v4 := by
  have key := World.rangeAt_setCells_same w B 0 [v0, v1, v2, v3, v4] (fun j hj => ?_)
  · exact ⟨key 0 v0 rfl, key 1 v1 rfl, key 2 v2 rfl, key 3 v3 rfl, key 4 v4 rfl⟩
  · have hj' : j < 5 := hj
    rw [Nat.zero_add]
    refine ⟨?_, hf j hj'⟩
    match j, hj' with
    | 0, _ => rw [h.c0]; rfl
    | 1, _ => rw [h.c1]; rfl
    | 2, _ => rw [h.c2]; rfl
    | 3, _ => rw [h.c3]; rfl
    | 4, _ => rw [h.c4]; rfl
theorem wpList_store5 {w : World} {ops : Array Oper} {rest : List Oper} {o : Oper} {a : Act} {Q : Exit → Act → World → Prop} (hgd : o.guard = none) (hdst : o.dst = none) (p x : Operand) (ho : o.op = .store 53 p x) (B : Nat) (v0 v1 v2 v3 v4 : Value)
    (hp : a.eval p = .pointer (some ⟨B, 0, none⟩)) (hx : a.eval x = .agg #[v0, v1, v2, v3, v4]) (h0 : v0.oneCell' = true) (h1 : v1.oneCell' = true) (h2 : v2.oneCell' = true) (h3 : v3.oneCell' = true) (h4 : v4.oneCell' = true) {t : Ty} (hb : Bx w B t) (hf : ∀ i, i < 5 → w.frozen? ⟨B, i, none⟩ = false)
    (h : wpList Tryz.prog ops Q rest a (World.put5 w B v0 v1 v2 v3 v4)) : wpList Tryz.prog ops Q (o :: rest) a w := by
  refine wpList_store_mid hgd 53 p x ho B 0 #[v0, v1, v2, v3, v4] hp hx (fun j hj => ?_) (by kernel_rfl) (by simp [h0, h1, h2, h3, h4]) ?_
  · have hj' : j < 5 := hj
    rw [Nat.zero_add]
    refine ⟨?_, hf j hj'⟩
    match j, hj' with
    | 0, _ => rw [hb.c0]; rfl
    | 1, _ => rw [hb.c1]; rfl
    | 2, _ => rw [hb.c2]; rfl
    | 3, _ => rw [hb.c3]; rfl
    | 4, _ => rw [hb.c4]; rfl
  · rw [hdst]
    exact h
end Go.Proofs.YtmkncmmegjfipaaGreatDoor

/- Layer 2: Raise. -/
namespace Go.Proofs.YtmkncmmegjfipaaGreatDoor
open Go.RowKit

def Ty.setL (j : Int) : Ty → Ty
  | .dm => .dm
  | .mk k _ h e ao b o len cap ps => .mk k j h e ao b o len cap ps
theorem setL_at {w : World} {j : Int} : ∀ {t : Ty}, t.At w → (t.setL j).At w
  | .dm, h => h
  | .mk _ _ _ _ _ _ _ _ _ _, h => h
theorem setL_blk {Q : Nat → Prop} {j : Int} : ∀ {t : Ty}, t.Blk Q → (t.setL j).Blk Q
  | .dm, h => h
  | .mk _ _ _ _ _ _ _ _ _ _, h => h
theorem setL_v {w : World} {j : Int} : ∀ {t : Ty}, t.At w → (t.setL j).k = t.k ∧ (t.setL j).l = j ∧ (t.setL j).ao = t.ao ∧ (t.setL j).len = t.len ∧ (t.setL j).cap = t.cap ∧ (t.setL j).h = t.h ∧ (t.setL j).e = t.e
  | .dm, h => h.elim
  | .mk _ _ _ _ _ _ _ _ _ _, _ => ⟨rfl, rfl, rfl, rfl, rfl, rfl, rfl⟩
theorem setL_same {w w' : World} {j : Int} : ∀ {s t : Ty}, s.At w → t.At w' → s.same t = true → (s.setL j).same (t.setL j) = true
  | .dm, _, h, _, _ => h.elim
  | .mk _ _ _ _ _ _ _ _ _ _, .dm, _, h, _ => h.elim
  | .mk _ _ _ _ _ _ _ _ _ _, .mk _ _ _ _ _ _ _ _ _ _, _, _, h => by
    rw [same_iff] at h ⊢
    exact ⟨⟨h.1.1, rfl, h.1.2.2⟩, h.2⟩

theorem Bx.agree {w w' : World} {B : Nat} {t : Ty} (h : Bx w B t) (e : w'.heap[B]? = w.heap[B]?) : Bx w' B t :=
  ⟨(World.cell?_of_block (w := w) e).trans h.c0, (World.cell?_of_block (w := w) e).trans h.c1, (World.cell?_of_block (w := w) e).trans h.c2, (World.cell?_of_block (w := w) e).trans h.c3, (World.cell?_of_block (w := w) e).trans h.c4⟩

/-- What Raise answers, but for where it lies. -/
def raiseT (n : Strs) (g : Grid) (t : Ty) (a : Int) : Ty := if (okB n g t && inR n.len a) = true then t.setL (joinI n g t.l a) else leafT 0 0
def RP (w : World) (r : Ty) (e : Ending) (w' : World) : Prop :=
  ∃ u : Ty, e = .returned (.agg #[.int .i64 u.k, .int .i64 u.l, .slice u.ao u.len u.cap, .int .i64 u.h, .int .i64 u.e]) ∧ u.At w' ∧ u.Blk (fun b => w.heap.size ≤ b) ∧ u.same r = true ∧ Below w.heap.size w w'
theorem RP.intro {w : World} {r : Ty} {e : Ending} {w' : World} (u : Ty) (h1 : e = .returned (.agg #[.int .i64 u.k, .int .i64 u.l, .slice u.ao u.len u.cap, .int .i64 u.h, .int .i64 u.e])) (h2 : u.At w') (h3 : u.Blk (fun b => w.heap.size ≤ b)) (h4 : u.same r = true) (h5 : Below w.heap.size w w') : RP w r e w' := ⟨u, h1, h2, h3, h4, h5⟩

structure RBox (w w0 : World) (n : Strs) (g : Grid) (t : Ty) : Prop where
  bl : Below w.heap.size w w0
  sz : w.heap.size + 3 ≤ w0.heap.size
  l : Bl w0 w.heap.size n g
  x : Bx w0 (w.heap.size + 1) t
  fx : ∀ i, i < 5 → w0.frozen? ⟨w.heap.size + 1, i, none⟩ = false
  r : Bx w0 (w.heap.size + 2) (leafT 0 0)
  fr : ∀ i, i < 5 → w0.frozen? ⟨w.heap.size + 2, i, none⟩ = false
theorem RBox.step {w w0 w1 : World} {n : Strs} {g : Grid} {t : Ty} (h : RBox w w0 n g t) (hb : Below w0.heap.size w0 w1) : RBox w w1 n g t :=
  ⟨h.bl.trans (hb.mono (by have := h.sz; omega)), Nat.le_trans h.sz hb.size, h.l.kept hb, h.x.kept hb, fun i hi => (hb.frozen (p := ⟨w.heap.size + 1, i, none⟩) (by have := h.sz; show w.heap.size + 1 < _; omega)).trans (h.fx i hi), h.r.kept hb, fun i hi => (hb.frozen (p := ⟨w.heap.size + 2, i, none⟩) (by have := h.sz; show w.heap.size + 2 < _; omega)).trans (h.fr i hi)⟩
theorem frozen_new (w : World) (c : Array Value) (t : TypeId) (i : Nat) : (w.alloc (.cells c t)).frozen? ⟨w.heap.size, i, none⟩ = false := by simp
theorem rbox_new (w : World) (n : Strs) (g : Grid) (t : Ty) : RBox w (((w.alloc (latO n g)).alloc (tyO t)).alloc (.cells #[.int .i64 0, .int .i64 0, .slice none 0 0, .int .i64 0, .int .i64 0] 53)) n g t := by
  obtain ⟨L0, X0, B0⟩ := start_lt w n g t
  have ba := below_alloc ((w.alloc (latO n g)).alloc (tyO t)) (.cells #[.int .i64 0, .int .i64 0, .slice none 0 0, .int .i64 0, .int .i64 0] 53)
  have e1 : (w.alloc (latO n g)).heap.size = w.heap.size + 1 := alloc_size _ _
  have e2 : ((w.alloc (latO n g)).alloc (tyO t)).heap.size = w.heap.size + 2 := by rw [alloc_size, e1]
  refine ⟨Below.next B0 ba, by rw [alloc_size, e2]; omega, L0.kept ba, X0.kept ba, fun i hi => ?_, ?_, fun i hi => ?_⟩
  · rw [ba.frozen (p := ⟨w.heap.size + 1, i, none⟩) (by rw [e2]; exact Nat.lt_succ_self _), ← e1]
    simp [tyO]
  · rw [← e2]
    exact Bx.new _ (leafT 0 0)
  · rw [← e2]
    exact frozen_new _ _ _ _

theorem joinI_no {n : Strs} {g : Grid} {a b : Int} (h : inR n.len b = false) : joinI n g a b = -1 := by
  unfold joinI
  rw [if_neg]
  intro hh
  rw [Bool.and_eq_true, Bool.and_eq_true] at hh
  have : labB n b = inR n.len b := rfl
  rw [this, h] at hh
  exact Bool.noConfusion hh.1.2
theorem joinI_yes {n : Strs} {g : Grid} {t : Ty} {b : Int} (hk : okB n g t = true) (h : inR n.len b = true) : (joinI n g t.l b == -1) = false := by
  unfold okB at hk
  rw [Bool.and_eq_true] at hk
  obtain ⟨x, hx, hx1⟩ := (fd_ok hk.2).lab
  obtain ⟨y, hy, hy1⟩ := inR_nat h
  rw [hx, hy, joinI_nat hk.1 hx1 hy1]
  simp

end Go.Proofs.YtmkncmmegjfipaaGreatDoor

/- Layer 2: what follows of Raise. No program is walked here. -/
namespace Go.Proofs.YtmkncmmegjfipaaGreatDoor

theorem same_symm : ∀ s t : Ty, s.same t = true → t.same s = true := by
  intro s
  induction s with
  | dm =>
    intro t h
    rw [same_iff] at h ⊢
    exact ⟨⟨h.1.1.symm, h.1.2.1.symm, h.1.2.2.1.symm, h.1.2.2.2.1.symm, h.1.2.2.2.2.symm⟩, fun i hi => absurd hi (by rw [← h.1.2.2.2.2]; exact Nat.not_lt_zero _)⟩
  | mk k l hh e ao b o len cap ps ih =>
    intro t h
    rw [same_iff] at h ⊢
    exact ⟨⟨h.1.1.symm, h.1.2.1.symm, h.1.2.2.1.symm, h.1.2.2.2.1.symm, h.1.2.2.2.2.symm⟩, fun i hi => ih i (t.ps i) (h.2 i (by rw [h.1.2.2.2.2]; exact hi))⟩

theorem sum_congr {f h : Nat → Nat} : ∀ k, (∀ i, i < k → f i = h i) → sumTo f k = sumTo h k
  | 0, _ => rfl
  | k + 1, e => by
    show sumTo f k + f k = sumTo h k + h k
    rw [sum_congr k (fun i hi => e i (by omega)), e k (by omega)]

/-- What lies alike is formed alike. -/
theorem same_fm {N : Nat} {w w' : World} : ∀ s t : Ty, s.At w → t.At w' → s.same t = true → (∀ d, s.fm N d = t.fm N d) ∧ s.nodes = t.nodes := by
  intro s
  induction s with
  | dm => intro t h; exact h.elim
  | mk k l hh e ao b o len cap ps ih =>
    intro t hs ht h
    rcases t with _ | ⟨tk, tl, th, te, tao, tb, to', tlen, tcap, tps⟩
    · exact ht.elim
    rw [same_iff] at h
    obtain ⟨⟨h1, h2, h3, h4, h5⟩, h6⟩ := h
    have h1' : k = tk := h1
    have h2' : l = tl := h2
    have h3' : hh = th := h3
    have h4' : e = te := h4
    have h5' : len = tlen := h5
    subst h1' h2' h3' h4' h5'
    have sub : ∀ i, i < len → (∀ d, (ps i).fm N d = (tps i).fm N d) ∧ (ps i).nodes = (tps i).nodes := fun i hi => ih i (tps i) (hs.part (i := i) hi) (ht.part (i := i) hi) (h6 i hi)
    refine ⟨fun d => ?_, ?_⟩
    · rw [fm_eq, fm_eq]
      congr 1
      rw [decide_eq_decide]
      exact ⟨fun hh i hi => by rw [← (sub i hi).1]; exact hh i hi, fun hh i hi => by rw [(sub i hi).1]; exact hh i hi⟩
    · show 1 + sumTo (fun i => (ps i).nodes) len = 1 + sumTo (fun i => (tps i).nodes) len
      rw [sum_congr len (fun i hi => (sub i hi).2)]
theorem same_ok {N : Nat} {w w' : World} {s t : Ty} (hs : s.At w) (ht : t.At w') (h : s.same t = true) : s.ok N = t.ok N := by
  unfold Ty.ok
  rw [(same_fm (N := N) s t hs ht h).1, (same_fm (N := N) s t hs ht h).2]

theorem same_bel {N : Nat} {le : Nat → Nat → Bool} (P : Po N le) : ∀ s t : Ty, Fd N s → Fd N t → s.same t = true → s.bel le true t = true ∧ t.bel le true s = true := by
  intro s
  induction s with
  | dm => intro t hs; exact absurd rfl hs.ne
  | mk k l hh e ao b o len cap ps ih =>
    intro t hs ht h
    rw [same_iff] at h
    obtain ⟨⟨h1, h2, h3, h4, h5⟩, h6⟩ := h
    have sub : ∀ i, i < (Ty.mk k l hh e ao b o len cap ps).len → (ps i).bel le true (t.ps i) = true ∧ (t.ps i).bel le true (ps i) = true := fun i hi => ih i (t.ps i) (hs.sub (i := i) hi) (ht.sub (by omega)) (h6 i hi)
    obtain ⟨x, hx, hx1⟩ := hs.lab
    have two : (Ty.mk k l hh e ao b o len cap ps).k = 3 ∨ (Ty.mk k l hh e ao b o len cap ps).k = 4 → ∀ i, i < 2 → i < (Ty.mk k l hh e ao b o len cap ps).len := fun h34 i hi => by rw [hs.two h34]; exact hi
    rw [bel_iff hs ht, bel_iff ht hs]
    constructor
    · refine ⟨h1, by rw [← h2, hx, Int.toNat_natCast]; exact P.refl x hx1, fun h3' => ⟨(sub 0 (two (Or.inl h3') 0 (by omega))).1, (sub 1 (two (Or.inl h3') 1 (by omega))).1⟩, fun h4' => ⟨⟨(sub 0 (two (Or.inr h4') 0 (by omega))).2, (sub 1 (two (Or.inr h4') 1 (by omega))).1⟩, ?_, ?_⟩, fun h5' => h6 0 (by rw [hs.one h5']; omega)⟩
      · obtain ⟨y, hy, hy1⟩ := hs.heap h4'
        rw [← h3, hy, Int.toNat_natCast]; exact P.refl y hy1
      · rw [← h4]; exact exc_refl P (hs.exc h4')
    · refine ⟨h1.symm, by rw [← h2, hx, Int.toNat_natCast]; exact P.refl x hx1, fun h3' => ?_, fun h4' => ?_, fun h5' => ?_⟩
      · have q : (Ty.mk k l hh e ao b o len cap ps).k = 3 := h1.trans h3'
        exact ⟨(sub 0 (two (Or.inl q) 0 (by omega))).2, (sub 1 (two (Or.inl q) 1 (by omega))).2⟩
      · have q : (Ty.mk k l hh e ao b o len cap ps).k = 4 := h1.trans h4'
        refine ⟨⟨(sub 0 (two (Or.inr q) 0 (by omega))).1, (sub 1 (two (Or.inr q) 1 (by omega))).2⟩, ?_, ?_⟩
        · obtain ⟨y, hy, hy1⟩ := hs.heap q
          rw [← h3, hy, Int.toNat_natCast]; exact P.refl y hy1
        · rw [← h4]; exact exc_refl P (hs.exc q)
      · have q : (Ty.mk k l hh e ao b o len cap ps).k = 5 := h1.trans h5'
        exact same_symm _ _ (h6 0 (by rw [hs.one q]; omega))

theorem setL_fm {N d : Nat} {j : Int} (hj : inR N j = true) : ∀ {t : Ty}, t.fm N d = true → (t.setL j).fm N d = true
  | .dm, h => h
  | .mk k l hh e ao b o len cap ps, h => by
    show Ty.fm N (.mk k j hh e ao b o len cap ps) d = true
    rw [fm_eq] at h ⊢
    simp only [Bool.and_eq_true] at h ⊢
    exact ⟨⟨⟨h.1.1.1, hj⟩, h.1.2⟩, h.2⟩
theorem setL_nodes {j : Int} : ∀ t : Ty, (t.setL j).nodes = t.nodes
  | .dm => rfl
  | .mk _ _ _ _ _ _ _ _ _ _ => rfl
theorem setL_ok {N : Nat} {j : Int} {t : Ty} (h : t.ok N = true) (hj : inR N j = true) : (t.setL j).ok N = true := by
  have := ok_parts h
  unfold Ty.ok
  rw [setL_fm hj this.1, setL_nodes, decide_eq_true this.2]; rfl
theorem setL_self : ∀ t : Ty, t.setL t.l = t
  | .dm => rfl
  | .mk _ _ _ _ _ _ _ _ _ _ => rfl
theorem setL_bel {N : Nat} {le : Nat → Nat → Bool} (P : Po N le) {t : Ty} (ht : t.ok N = true) {i j : Nat} (hi : i < N) (hj : j < N) (h : le i j = true) : (t.setL i).bel le true (t.setL j) = true := by
  have r1 : inR N (i : Int) = true := by unfold inR; simp; omega
  have r2 : inR N (j : Int) = true := by unfold inR; simp; omega
  have F1 := fd_ok (setL_ok ht r1)
  have F2 := fd_ok (setL_ok ht r2)
  have F := fd_ok ht
  rw [bel_iff F1 F2]
  rcases t with _ | ⟨k, l, hh, e, ao, b, o, len, cap, ps⟩
  · exact absurd rfl F.ne
  have sub : ∀ q, q < 2 → k = 3 ∨ k = 4 → (ps q).bel le true (ps q) = true := fun q hq h34 => bel_refl P _ (F.sub (i := q) (by rw [F.two h34]; omega))
  refine ⟨rfl, by show le (i : Int).toNat (j : Int).toNat = true; rw [Int.toNat_natCast, Int.toNat_natCast]; exact h, fun h3 => ⟨sub 0 (by omega) (Or.inl h3), sub 1 (by omega) (Or.inl h3)⟩, fun h4 => ⟨⟨sub 0 (by omega) (Or.inr h4), sub 1 (by omega) (Or.inr h4)⟩, ?_, exc_refl P (F.exc h4)⟩, fun _ => same_refl _⟩
  obtain ⟨y, hy, hy1⟩ := F.heap h4
  show le hh.toNat hh.toNat = true
  have hy' : hh = y := hy
  rw [hy', Int.toNat_natCast]; exact P.refl y hy1
end Go.Proofs.YtmkncmmegjfipaaGreatDoor
