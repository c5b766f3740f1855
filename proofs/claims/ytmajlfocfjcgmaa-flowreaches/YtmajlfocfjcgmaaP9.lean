/- Rows put one behind the other, of whatever struct. -/
import Derived.Test.YtmajlfocfjcgmaaP4
import Derived.Deep.AppendLies
import Derived.Laws.AppendOwnNone
import Derived.Test.YtmajlfocfjcgmaaP7
import Derived.Test.YtmajlfocfjcgmaaP8
import Derived.Lib.SlicesCompact
import Derived.Test.YtmajlfocfjcgmaaP6
import Derived.Test.YtmajlfocfjcgmaaP5
import Derived.Test.YtmajlfocfjcgmaaP2
import Derived.Deep.MidRow
namespace Go.Proofs.Ytmajlfocfjcgmaa
open Go.RowKit

theorem gbr (w : World) (r : Option Nat) : w.grownBy w r := ⟨rfl, rfl, rfl, Nat.le_refl _, fun _ _ _ => rfl⟩
theorem gb_bel {w0 a b : World} {r : Option Nat} (h : Below w0.heap.size w0 a) (hg : a.grownBy b r) (hr : ∀ k, r = some k → w0.heap.size ≤ k) : Below w0.heap.size w0 b := by
  have hs := h.size
  refine ⟨hg.os.trans h.os, hg.tape.trans h.tape, hg.output.trans h.output, Nat.le_trans h.size hg.size, fun k hk => ?_⟩
  rw [hg.block k (by omega) (fun e => by have := hr k e.symm; omega)]
  exact h.block k hk
theorem owb {w : World} {base : Nat} {e : TypeId} {size : Nat} {v : Value} {n : Nat} {xs : List Value} (h : w.ownsRow base e size v n xs) {k : Nat} (hb : v.ownBlock = some k) : base ≤ k ∧ k < w.heap.size := by
  obtain ⟨_, ⟨rfl, _⟩ | ⟨g, cap, cur, rfl, hg, hh, _⟩⟩ := h
  · cases hb
  · have : g = k := by simpa [Value.ownBlock] using hb
    subst this
    exact ⟨hg, (Array.getElem?_eq_some_iff.1 hh).1⟩
theorem owk {w w' : World} {base : Nat} {e : TypeId} {size : Nat} {v : Value} {n : Nat} {xs : List Value} (h : w.ownsRow base e size v n xs) (hb : Below w.heap.size w w') : w'.ownsRow base e size v n xs := by
  have hl := fun k hk => (owb h (k := k) hk).2
  obtain ⟨h0, h⟩ := h
  refine ⟨h0, ?_⟩
  rcases h with ⟨rfl, hn⟩ | ⟨g, cap, cur, rfl, hg, hh, hr⟩
  · exact Or.inl ⟨rfl, hn⟩
  · exact Or.inr ⟨g, cap, cur, rfl, hg, (hb.block g (hl g rfl)).trans hh, hr⟩
theorem owform {w : World} {base : Nat} {e : TypeId} {size : Nat} {v : Value} {n : Nat} {xs : List Value} (h : w.ownsRow base e size v n xs) : ∃ ao cap, v = .slice ao n cap := by
  obtain ⟨_, ⟨rfl, rfl⟩ | ⟨g, cap, cur, rfl, _⟩⟩ := h
  · exact ⟨none, 0, rfl⟩
  · exact ⟨_, cap, rfl⟩

theorem run_append_any {S E : TypeId} {size bytes : Nat} {z : Value} (hu : Try.prog.underlying S = some (.slice E)) (hinf : (Try.prog.info? E).map (fun i => (i.zero, i.size, i.bytes)) = some (some z, size, bytes)) (hzc : z.cells.size = size) (hpos : 0 < size) (w : World) (ty : TypeId) (base : Nat) (v : Value) (n : Nat) (xs : List Value) (ho : w.ownsRow base E size v n xs) (ao : Option Addr) (m c : Nat) (news : List Value) (hnone : ao = none → m = 0 ∧ c = 0) (hl : news.length = m * size) (hn : ∀ a, ao = some a → ∀ j u, news[j]? = some u → w.cell? (a.add j) = some u) (h1 : ∀ u ∈ news, u.oneCell' = true) (h63 : n + m ≤ maxLen) (hbytes : (n + m) * bytes ≤ 140737488355328) (hb : base ≤ w.heap.size) :
    ∃ v' w', (Builtin.append_ #[S, S] ty #[v, .slice ao m c]).run Try.prog w = .ok v' w' ∧ w'.ownsRow base E size v' (n + m) (xs ++ news) ∧ w.grownBy w' v.ownBlock := by
  obtain ⟨i0, hi, hz0, hz1, hz2⟩ := info_parts hinf
  cases ao with
  | none =>
    obtain ⟨rfl, rfl⟩ := hnone rfl
    have hl0 : news = [] := List.eq_nil_of_length_eq_zero (by rw [hl]; omega)
    subst hl0
    refine ⟨v, w, ?_, ?_, gbr _ _⟩
    · exact run_append_owned_none (P := Try.prog) w base S ty E i0 size hu hi v n xs ho
    · rw [List.append_nil]; exact ho
  | some a =>
    obtain ⟨v', w', hr, h2, h3, _⟩ := run_append_own (P := Try.prog) w base S ty E i0 z size bytes hu hi hz0 hz1 hz2 hzc hpos v n xs ho a m c news hl (hn a rfl) h1 h63 hbytes hb
    exact ⟨v', w', hr, h2, h3⟩
theorem wpList_append_any {S E : TypeId} {size bytes : Nat} {z : Value} (hu : Try.prog.underlying S = some (.slice E)) (hinf : (Try.prog.info? E).map (fun i => (i.zero, i.size, i.bytes)) = some (some z, size, bytes)) (hzc : z.cells.size = size) (hpos : 0 < size) {w : World} {ops : Array Oper} {rest : List Oper} {o : Oper} {a : Act} {Q : Exit → Act → World → Prop} (hgd : o.guard = none) (s x : Operand)
    (hop : o.op = .call { callee := .builtin .append, args := #[s, x], argTypes := #[S, S] }) (base : Nat) (v : Value) (n : Nat) (xs : List Value) (hs : a.eval s = v) (ho : w.ownsRow base E size v n xs) (ao : Option Addr) (m c : Nat) (news : List Value) (hx : a.eval x = .slice ao m c) (hnone : ao = none → m = 0 ∧ c = 0) (hl : news.length = m * size) (hn : ∀ a, ao = some a → ∀ j u, news[j]? = some u → w.cell? (a.add j) = some u) (h1 : ∀ u ∈ news, u.oneCell' = true) (h63 : n + m ≤ maxLen) (hbytes : (n + m) * bytes ≤ 140737488355328) (hb : base ≤ w.heap.size)
    (h : ∀ v' w', w'.ownsRow base E size v' (n + m) (xs ++ news) → w.grownBy w' v.ownBlock → wpList Try.prog ops Q rest (a.put o.dst v') w') : wpList Try.prog ops Q (o :: rest) a w := by
  refine wpList_plain hgd fun K hK => ?_
  obtain ⟨v', w', hr, h2, h3⟩ := run_append_any hu hinf hzc hpos w o.type base v n xs ho ao m c news hnone hl hn h1 h63 hbytes hb
  unfold Oper.wp execOp
  simp only [hop, resolve, invoke, builtin, Sem.run_bind, Sem.run_pure, Result.andThen_ok, List.map_toArray, List.map_cons, List.map_nil, hs, hx, hr]
  exact hK _ _ (h v' w' h2 h3)

/-- One behind the other. -/
def flatN (f : Nat → List Value) : Nat → List Value
  | 0 => []
  | k + 1 => flatN f k ++ f k
theorem flatN_len {f : Nat → List Value} {c : Nat} (h : ∀ i, (f i).length = c) : ∀ k, (flatN f k).length = k * c
  | 0 => by simp [flatN]
  | k + 1 => by
    show (flatN f k ++ f k).length = _
    rw [List.length_append, flatN_len h k, h, Nat.add_mul, Nat.one_mul]
theorem flatN_get {f : Nat → List Value} {c : Nat} (h : ∀ i, (f i).length = c) : ∀ k i j, i < k → j < c → (flatN f k)[i * c + j]? = (f i)[j]?
  | 0, i, _, hi, _ => absurd hi (Nat.not_lt_zero _)
  | k + 1, i, j, hi, hj => by
    show (flatN f k ++ f k)[i * c + j]? = _
    have hl := flatN_len h k
    by_cases e : i = k
    · subst e
      rw [List.getElem?_append_right (by rw [hl]; omega), hl]
      congr 1; omega
    · have h2 : i * c + j < k * c := by
        have : (i + 1) * c ≤ k * c := Nat.mul_le_mul_right c (by omega)
        rw [Nat.add_mul, Nat.one_mul] at this
        omega
      rw [List.getElem?_append_left (by rw [hl]; exact h2)]
      exact flatN_get h k i j (by omega) hj
theorem flatN_app (f h : Nat → List Value) (a : Nat) : ∀ b, flatN (fun i => if i < a then f i else h (i - a)) (a + b) = flatN f a ++ flatN h b
  | 0 => by
    rw [Nat.add_zero]
    show _ = flatN f a ++ []
    rw [List.append_nil]
    have key : ∀ k, k ≤ a → flatN (fun i => if i < a then f i else h (i - a)) k = flatN f k := fun k => by
      induction k with
      | zero => intro _; rfl
      | succ k ih =>
        intro hk
        show flatN _ k ++ _ = flatN f k ++ f k
        rw [ih (by omega)]
        simp only [if_pos (show k < a by omega)]
    exact key a (Nat.le_refl _)
  | b + 1 => by
    show flatN _ (a + b) ++ (if a + b < a then f (a + b) else h (a + b - a)) = flatN f a ++ (flatN h b ++ h b)
    rw [flatN_app f h a b, List.append_assoc, if_neg (show ¬ a + b < a by omega), show a + b - a = b by omega]
theorem flatN_mem {f : Nat → List Value} {u : Value} : ∀ k, u ∈ flatN f k → ∃ i, i < k ∧ u ∈ f i
  | 0, h => by cases h
  | k + 1, h => by
    rcases List.mem_append.1 h with h | h
    · obtain ⟨i, hi, hu⟩ := flatN_mem k h
      exact ⟨i, by omega, hu⟩
    · exact ⟨k, by omega, h⟩
theorem adp (b off i : Nat) : (⟨b, off, none⟩ : Addr).add i = ⟨b, off + i, none⟩ := by unfold Addr.add; split <;> simp_all
theorem flatN_cell {f : Nat → List Value} {c : Nat} (h : ∀ i, (f i).length = c) (hc : 0 < c) {w : World} {b o : Nat} {k : Nat} (hr : ∀ i, i < k → w.rangeAt b (o + i * c) (f i)) : ∀ j u, (flatN f k)[j]? = some u → w.cell? ((⟨b, o, none⟩ : Addr).add j) = some u := by
  intro j u hj
  have hlt : j < k * c := by rw [← flatN_len h k]; exact (List.getElem?_eq_some_iff.1 hj).1
  have hi : j / c < k := Nat.div_lt_of_lt_mul (by rw [Nat.mul_comm]; exact hlt)
  have hm : j % c < c := Nat.mod_lt _ hc
  have e : j = j / c * c + j % c := by rw [Nat.mul_comm]; exact (Nat.div_add_mod j c).symm
  rw [e, flatN_get h k _ _ hi hm] at hj
  have := hr (j / c) hi (j % c) u hj
  rw [adp, show o + j = o + j / c * c + j % c by omega]
  exact this
end Go.Proofs.Ytmajlfocfjcgmaa

/- Layers 15 and 16: ways, what is come to, joins: plain, no program. -/
namespace Go.Proofs.Ytmajlfocfjcgmaa
namespace Fl

/-- Come to from these places, by ways, never at the stop. -/
inductive Rch (W : Nat → Nat → Prop) (F : Nat → Prop) (s : Int) : Nat → Prop
  | base {p : Nat} : F p → (p : Int) ≠ s → Rch W F s p
  | step {p q : Nat} : Rch W F s p → W p q → (q : Int) ≠ s → Rch W F s q
theorem Rch.ne {W : Nat → Nat → Prop} {F : Nat → Prop} {s : Int} {p : Nat} (h : Rch W F s p) : (p : Int) ≠ s := by
  cases h <;> assumption
theorem Rch.mono {W : Nat → Nat → Prop} {F G : Nat → Prop} {s : Int} (hF : ∀ p, F p → G p) {p : Nat} (h : Rch W F s p) : Rch W G s p := by
  induction h with
  | base h1 h2 => exact .base (hF _ h1) h2
  | step _ h2 h3 ih => exact .step ih h2 h3
theorem Rch.free {W : Nat → Nat → Prop} {F : Nat → Prop} {s : Int} {p : Nat} (h : Rch W F s p) : Rch W F (-1) p := by
  induction h with
  | base h1 _ => exact .base h1 (by omega)
  | step _ h2 _ ih => exact .step ih h2 (by omega)
theorem Rch.unfree {W : Nat → Nat → Prop} {F : Nat → Prop} {s : Int} (hs : ∀ p : Nat, (p : Int) = s → ¬ Rch W F (-1) p) {p : Nat} (h : Rch W F (-1) p) : Rch W F s p := by
  induction h with
  | base h1 h2 => exact .base h1 (fun e => hs _ e (.base h1 h2))
  | step h1 h2 h3 ih => exact .step ih h2 (fun e => hs _ e (.step h1 h2 h3))
theorem Rch.union {W : Nat → Nat → Prop} {F G : Nat → Prop} {s : Int} {p : Nat} : Rch W (fun p => F p ∨ G p) s p ↔ Rch W F s p ∨ Rch W G s p := by
  constructor
  · intro h
    induction h with
    | base h1 h2 => exact h1.elim (fun h => .inl (.base h h2)) (fun h => .inr (.base h h2))
    | step _ h2 h3 ih => exact ih.elim (fun h => .inl (.step h h2 h3)) (fun h => .inr (.step h h2 h3))
  · exact fun h => h.elim (Rch.mono fun _ => .inl) (Rch.mono fun _ => .inr)
theorem Rch.come {W : Nat → Nat → Prop} {F : Nat → Prop} {s : Int} {p : Nat} (h : Rch W F s p) : F p ∨ ∃ q, Rch W F s q ∧ W q p := by
  cases h with
  | base h1 _ => exact .inl h1
  | step h1 h2 _ => exact .inr ⟨_, h1, h2⟩
theorem Rch.lt {W : Nat → Nat → Prop} {F : Nat → Prop} {s : Int} {n : Nat} (hF : ∀ p, F p → p < n) (hW : ∀ p q, W p q → q < n) {p : Nat} (h : Rch W F s p) : p < n := by
  cases h with
  | base h1 _ => exact hF _ h1
  | step _ h2 _ => exact hW _ _ h2
/-- What holds of where it begins, and along ways, holds of all that is come to. -/
theorem Rch.all {W : Nat → Nat → Prop} {F : Nat → Prop} {s : Int} {R : Nat → Prop} (h1 : ∀ p, F p → (p : Int) ≠ s → R p) (h2 : ∀ p q, R p → W p q → (q : Int) ≠ s → R q) {p : Nat} (h : Rch W F s p) : R p := by
  induction h with
  | base a b => exact h1 _ a b
  | step _ a b ih => exact h2 _ _ ih a b

/-- A set that is closed, begins so, and has nothing but what is come to, is all that is come to. -/
theorem rch_of_closed {W : Nat → Nat → Prop} {F S : Nat → Prop} {s : Int} (h1 : ∀ p, F p → (p : Int) ≠ s → S p) (h2 : ∀ p q, S p → W p q → (q : Int) ≠ s → S q) (h3 : ∀ p, S p → Rch W F s p) (p : Nat) : S p ↔ Rch W F s p :=
  ⟨h3 p, fun h => h.all h1 h2⟩

/-- The numbers up to n that are such, rising. -/
noncomputable def lst (n : Nat) (P : Nat → Prop) : List Nat := open Classical in (List.range n).filter (fun p => decide (P p))
theorem mem_lst {n : Nat} {P : Nat → Prop} {p : Nat} : p ∈ lst n P ↔ p < n ∧ P p := by simp [lst]
theorem lst_rising (n : Nat) (P : Nat → Prop) : (lst n P).Pairwise (· < ·) := List.Pairwise.filter _ List.pairwise_lt_range
theorem lst_congr {n : Nat} {P Q : Nat → Prop} (h : ∀ p, p < n → (P p ↔ Q p)) : lst n P = lst n Q := by
  unfold lst
  apply List.filter_congr
  intro p hp
  have := h p (List.mem_range.1 hp)
  simp [this]
theorem filter_or_len {α : Type} (a b c : α → Bool) : ∀ l : List α, (∀ x ∈ l, c x = true → a x = true ∨ b x = true) → (l.filter c).length ≤ (l.filter a).length + (l.filter b).length
  | [], _ => by simp
  | x :: l, h => by
    have ih := filter_or_len a b c l (fun y hy => h y (List.mem_cons_of_mem _ hy))
    have hx := h x (List.mem_cons_self ..)
    cases hc : c x
    · cases ha : a x <;> cases hb : b x <;> simp [hc, ha, hb] <;> omega
    · rcases hx hc with ha | hb
      · cases hb : b x <;> simp [hc, ha, hb] <;> omega
      · cases ha : a x <;> simp [hc, ha, hb] <;> omega
theorem lst_union_len {n : Nat} {P Q R : Nat → Prop} (h : ∀ p, R p → P p ∨ Q p) : (lst n R).length ≤ (lst n P).length + (lst n Q).length := by
  unfold lst
  apply filter_or_len
  intro x _ hx
  simpa using h x (by simpa using hx)
/-- Two rising lists of the same members are one. -/
theorem rising_ext : ∀ {a b : List Nat}, a.Pairwise (· < ·) → b.Pairwise (· < ·) → (∀ p, p ∈ a ↔ p ∈ b) → a = b
  | [], [], _, _, _ => rfl
  | [], y :: b, _, _, h => absurd ((h y).2 (List.mem_cons_self ..)) (by simp)
  | x :: a, [], _, _, h => absurd ((h x).1 (List.mem_cons_self ..)) (by simp)
  | x :: a, y :: b, ha, hb, h => by
    rw [List.pairwise_cons] at ha hb
    have e : x = y := by
      rcases List.mem_cons.1 ((h x).1 (List.mem_cons_self ..)) with e | e
      · exact e
      · rcases List.mem_cons.1 ((h y).2 (List.mem_cons_self ..)) with e' | e'
        · exact e'.symm
        · have := hb.1 _ e; have := ha.1 _ e'; omega
    subst e
    rw [rising_ext ha.2 hb.2 (fun p => by
      have := h p
      simp only [List.mem_cons] at this
      constructor
      · intro hp
        rcases this.1 (.inr hp) with e | e
        · have := ha.1 _ hp; omega
        · exact e
      · intro hp
        rcases this.2 (.inr hp) with e | e
        · have := hb.1 _ hp; omega
        · exact e)]
theorem lst_of {n : Nat} {P : Nat → Prop} {l : List Nat} (hr : l.Pairwise (· < ·)) (hm : ∀ p, p ∈ l ↔ p < n ∧ P p) : l = lst n P :=
  rising_ext hr (lst_rising n P) (fun p => by rw [hm, mem_lst])

/-- All ways go ahead, to places. -/
structure Ahd (n : Nat) (W : Nat → Nat → Prop) : Prop where
  lt : ∀ {p q}, W p q → q < n
  up : ∀ {p q}, W p q → p < q
/-- It doesn't leave, and goes on. -/
def Alive (W : Nat → Nat → Prop) (L : Nat → Prop) (p : Nat) : Prop := ¬ L p ∧ ∃ q, W p q
/-- All that goes on from a place meets another one. -/
def Jn (W : Nat → Nat → Prop) (L : Nat → Prop) (a j : Nat) : Prop := Alive W L a ∧ ∀ p, Rch W (W a) j p → Alive W L p
inductive Meets (W : Nat → Nat → Prop) (L : Nat → Prop) (m : Nat) : Nat → Prop
  | here : Meets W L m m
  | on {p : Nat} : Alive W L p → (∀ q, W p q → Meets W L m q) → Meets W L m p
section
variable {n : Nat} {W : Nat → Nat → Prop} {L : Nat → Prop}
theorem Meets.le (A : Ahd n W) {m p : Nat} (h : Meets W L m p) : p ≤ m := by
  induction h with
  | here => exact Nat.le_refl _
  | on h1 _ ih =>
    obtain ⟨q, hq⟩ := h1.2
    have := ih q hq
    have := A.up hq
    omega
theorem Meets.out {m p : Nat} (h : Meets W L m p) (hne : p ≠ m) : Alive W L p ∧ ∀ q, W p q → Meets W L m q := by
  cases h with
  | here => exact absurd rfl hne
  | on h1 h2 => exact ⟨h1, h2⟩
theorem Meets.trans {m k p : Nat} (h : Meets W L m p) (h' : Meets W L k m) : Meets W L k p := by
  induction h with
  | here => exact h'
  | on h1 _ ih => exact .on h1 (fun q hq => ih q hq)
/-- Of two that are met the greater is met from the less. -/
theorem Meets.split (A : Ahd n W) {m k p : Nat} (h : Meets W L m p) (h' : Meets W L k p) (hmk : m ≤ k) : Meets W L k m := by
  induction h with
  | here => exact h'
  | @on p h1 h2 ih =>
    have hp : p ≤ m := (Meets.on h1 h2).le A
    by_cases e : p = k
    · have : m = k := by omega
      rw [this]; exact .here
    · obtain ⟨q, hq⟩ := h1.2
      exact ih q hq ((h'.out e).2 q hq)
theorem jn_iff (A : Ahd n W) {a j : Nat} : Jn W L a j ↔ Alive W L a ∧ ∀ q, W a q → Meets W L j q := by
  constructor
  · intro h
    refine ⟨h.1, ?_⟩
    have key : ∀ d p, n - p = d → (p = j ∨ Rch W (W a) j p) → Meets W L j p := by
      intro d
      induction d using Nat.strongRecOn with
      | ind d ih =>
        intro p hp h'
        by_cases e : p = j
        · rw [e]; exact .here
        have hr : Rch W (W a) j p := h'.resolve_left e
        refine .on (h.2 p hr) (fun q hq => ?_)
        have h1 := A.lt hq
        have h2 := A.up hq
        refine ih (n - q) (by omega) q rfl ?_
        by_cases e' : q = j
        · exact .inl e'
        · exact .inr (.step hr hq (by omega))
    intro q hq
    refine key _ q rfl ?_
    by_cases e : q = j
    · exact .inl e
    · exact .inr (.base hq (by omega))
  · intro h
    refine ⟨h.1, fun p hp => ?_⟩
    have key : Meets W L j p := by
      refine hp.all (R := fun p => Meets W L j p ∧ (p : Int) ≠ j) (fun p h1 h2 => ⟨h.2 p h1, h2⟩) (fun p q h1 h2 h3 => ⟨(h1.1.out (by have := h1.2; omega)).2 q h2, h3⟩) |>.1
    exact (key.out (by have := hp.ne; omega)).1
theorem Jn.lt (A : Ahd n W) {a j : Nat} (h : Jn W L a j) : a < j := by
  obtain ⟨q, hq⟩ := h.1.2
  have h1 := ((jn_iff A).1 h).2 q hq |>.le A
  have := A.up hq
  omega
theorem Jn.of_meets (A : Ahd n W) {a j : Nat} (h : Meets W L j a) (hne : a ≠ j) : Jn W L a j := (jn_iff A).2 (h.out hne)
theorem Jn.meets (A : Ahd n W) {a j : Nat} (h : Jn W L a j) : Meets W L j a := .on ((jn_iff A).1 h).1 ((jn_iff A).1 h).2
/-- The join: the least such place. -/
def IsJ (W : Nat → Nat → Prop) (L : Nat → Prop) (a j : Nat) : Prop := Jn W L a j ∧ ∀ i, Jn W L a i → j ≤ i
theorem IsJ.uniq {a i j : Nat} (h : IsJ W L a i) (h' : IsJ W L a j) : i = j := by
  have := h.2 _ h'.1; have := h'.2 _ h.1; omega
theorem exists_isJ {a k : Nat} (h : Jn W L a k) : ∃ j, IsJ W L a j ∧ j ≤ k := by
  induction k using Nat.strongRecOn with
  | ind k ih =>
    by_cases hx : ∃ i, Jn W L a i ∧ i < k
    · obtain ⟨i, h1, h2⟩ := hx
      obtain ⟨j, h3, h4⟩ := ih i h2 h1
      exact ⟨j, h3, by omega⟩
    · exact ⟨k, ⟨h, fun i hi => Nat.le_of_not_lt fun hlt => hx ⟨i, hi, hlt⟩⟩, Nat.le_refl _⟩
/-- What is met from a place: itself, and what is met from its join. -/
theorem meets_join (A : Ahd n W) {p j k : Nat} (hj : IsJ W L p j) : Meets W L k p ↔ k = p ∨ Meets W L k j := by
  constructor
  · intro h
    by_cases e : p = k
    · exact .inl e.symm
    · have h1 := Jn.of_meets A h e
      exact .inr ((hj.1.meets A).split A h (hj.2 _ h1))
  · rintro (e | h)
    · rw [e]; exact .here
    · exact (hj.1.meets A).trans h
theorem meets_none (A : Ahd n W) {p k : Nat} (hj : ∀ j, ¬ Jn W L p j) : Meets W L k p ↔ k = p := by
  constructor
  · intro h
    by_cases e : p = k
    · exact e.symm
    · exact absurd (Jn.of_meets A h e) (hj k)
  · intro e; rw [e]; exact .here
/-- The places of a region lie between. -/
theorem Jn.within (A : Ahd n W) {a j p : Nat} (h : Jn W L a j) (hp : Rch W (W a) j p) : a < p ∧ p < j := by
  have hm : Meets W L j p ∧ a < p := by
    have := hp.all (R := fun p => (Meets W L j p ∧ a < p) ∧ (p : Int) ≠ j) (fun p h1 h2 => ⟨⟨((jn_iff A).1 h).2 p h1, A.up h1⟩, h2⟩) (fun p q h1 h2 h3 => ⟨⟨(h1.1.1.out (by have := h1.2; omega)).2 q h2, by have := A.up h2; have := h1.1.2; omega⟩, h3⟩)
    exact this.1
  have := hm.1.le A
  have := hp.ne
  exact ⟨hm.2, by omega⟩
theorem rch_above (A : Ahd n W) {a : Nat} {s : Int} {p : Nat} (hp : Rch W (W a) s p) : a < p :=
  hp.all (R := fun p => a < p) (fun _ h _ => A.up h) (fun _ _ h1 h2 _ => by have := A.up h2; omega)
/-- The join is come to. -/
theorem Meets.come {F : Nat → Prop} {j p : Nat} (h : Meets W L j p) (hp : Rch W F (-1) p) : Rch W F (-1) j := by
  induction h with
  | here => exact hp
  | on h1 _ ih =>
    obtain ⟨q, hq⟩ := h1.2
    exact ih q hq (.step hp hq (by omega))
theorem Jn.come (A : Ahd n W) {a j : Nat} (h : Jn W L a j) : Rch W (fun p => p = a) (-1) j := (h.meets A).come (.base rfl (by omega))
theorem Jn.place (A : Ahd n W) {a j : Nat} (ha : a < n) (h : Jn W L a j) : j < n :=
  (h.come A).lt (fun p e => by omega) (fun _ _ h => A.lt h)
/-- A region that holds has a join that all meet. -/
theorem jn_of_holds {a k : Nat} {R : Nat → Prop} (h0 : Alive W L a) (h1 : ∀ q, W a q → R q ∨ q = k) (h2 : ∀ p q, R p → W p q → R q ∨ q = k) (h3 : ∀ p, R p → Alive W L p) : Jn W L a k := by
  refine ⟨h0, fun p hp => h3 p ?_⟩
  exact hp.all (R := R) (fun p h h' => (h1 p h).resolve_right (by omega)) (fun p q h h' h'' => (h2 p q h h').resolve_right (by omega))
theorem places_of_holds (A : Ahd n W) {a j k : Nat} {R : Nat → Prop} (hj : Jn W L a j) (hjk : j ≤ k) (h1 : ∀ q, W a q → R q ∨ q = k) (h2 : ∀ p q, R p → W p q → R q ∨ q = k) {p : Nat} (hp : Rch W (W a) j p) : R p := by
  have key : ∀ p, Rch W (W a) j p → R p := by
    intro p hp
    induction hp with
    | @base p h h' => exact (h1 p h).resolve_right (by have := (hj.within A (.base h h')).2; omega)
    | @step p q hp h h' ih => exact (h2 p q ih h).resolve_right (by have := (hj.within A (.step hp h h')).2; omega)
  exact key p hp
/-- One way: that is the join, and nothing lies between. -/
theorem isJ_one (A : Ahd n W) {a b : Nat} (h0 : ¬ L a) (hb : W a b) (h1 : ∀ q, W a q → q = b) : IsJ W L a b := by
  refine ⟨(jn_iff A).2 ⟨⟨h0, b, hb⟩, fun q hq => by rw [h1 q hq]; exact .here⟩, fun i hi => ?_⟩
  exact (((jn_iff A).1 hi).2 b hb).le A
theorem rch_one {a b : Nat} (h1 : ∀ q, W a q → q = b) {p : Nat} : ¬ Rch W (W a) b p := by
  intro h
  have : ∀ p, ¬ Rch W (W a) b p := by
    intro p hp
    induction hp with
    | base h h' => exact h' (by rw [h1 _ h])
    | step _ _ _ ih => exact ih
  exact this p h
end
end Fl
end Go.Proofs.Ytmajlfocfjcgmaa

/- Layer 15: where code goes on, as data; lists of truths and of numbers. -/
namespace Go.Proofs.Ytmajlfocfjcgmaa
open Go Go.RowKit

/-- Truths. -/
def blV (a : Bool) : List Value := [.bool a]
def BlAt (w : World) (r : Rw Bool) : Prop := Rw.At 1 blV (fun _ _ => True) w r
theorem BlAt.kept {w w' : World} {r : Rw Bool} (h : BlAt w r) (hb : Below w.heap.size w w') : BlAt w' r := Rw.At.kept h (fun _ k => k) hb
def Rw.ls {α : Type} (r : Rw α) : List α := (List.range r.len).map r.x
theorem Rw.ls_len {α : Type} (r : Rw α) : r.ls.length = r.len := by simp [Rw.ls]
theorem Rw.ls_get {α : Type} (r : Rw α) (i : Nat) (hi : i < r.len) : r.ls[i]? = some (r.x i) := by simp [Rw.ls, hi]
theorem Rw.mem_ls {α : Type} {r : Rw α} {a : α} : a ∈ r.ls ↔ ∃ i, i < r.len ∧ r.x i = a := by simp [Rw.ls]

/-! What is told of a function. -/
def Cf.pl (f : Cf) (a : Int) : Bool := decide (0 ≤ a) && decide (a < f.cd.len)
theorem Cf.pl_iff {f : Cf} {a : Int} : f.pl a = true ↔ 0 ≤ a ∧ a < f.cd.len := by simp [Cf.pl]
def Cf.hit (f : Cf) (p : Int) (i : Nat) : Bool := decide ((f.hd.x i).fr ≤ p) && decide (p < (f.hd.x i).to)
def Cf.han (f : Cf) (p : Int) : Int := match (List.range f.hd.len).find? (f.hit p) with | some i => (f.hd.x i).at_ | none => -1
theorem find_hit {p : Nat → Bool} {n j : Nat} (hj : j < n) (hp : p j = true) (hb : ∀ i, i < j → p i = false) : (List.range n).find? p = some j := by
  have e : List.range n = List.range j ++ (j :: (List.range' (j + 1) (n - j - 1))) := by
    rw [List.range_eq_range', List.range_eq_range', ← List.range'_succ, show n - j - 1 + 1 = n - j by omega]
    have := List.range'_append_1 (s := 0) (m := j) (n := n - j)
    rw [Nat.zero_add] at this
    rw [this, show j + (n - j) = n by omega]
  rw [e, List.find?_append]
  have h0 : (List.range j).find? p = none := by
    rw [List.find?_eq_none]
    intro x hx
    have := hb x (List.mem_range.1 hx)
    simp [this]
  rw [h0]
  simp [hp]
theorem find_miss {p : Nat → Bool} {n : Nat} (hb : ∀ i, i < n → p i = false) : (List.range n).find? p = none := by
  rw [List.find?_eq_none]
  intro x hx
  have := hb x (List.mem_range.1 hx)
  simp [this]
theorem Cf.han_hit {f : Cf} {p : Int} {j : Nat} (hj : j < f.hd.len) (hp : f.hit p j = true) (hb : ∀ i, i < j → f.hit p i = false) : f.han p = (f.hd.x j).at_ := by
  unfold Cf.han; rw [find_hit hj hp hb]
theorem Cf.han_miss {f : Cf} {p : Int} (hb : ∀ i, i < f.hd.len → f.hit p i = false) : f.han p = -1 := by
  unfold Cf.han; rw [find_miss hb]
theorem first_hit (q : Nat → Bool) : ∀ n, (∀ i, i < n → q i = false) ∨ ∃ j, j < n ∧ q j = true ∧ ∀ i, i < j → q i = false
  | 0 => Or.inl fun _ h => absurd h (Nat.not_lt_zero _)
  | n + 1 => by
    rcases first_hit q n with h | ⟨j, h1, h2, h3⟩
    · cases e : q n
      · exact Or.inl fun i hi => by
          by_cases e2 : i = n
          · rw [e2]; exact e
          · exact h i (by omega)
      · exact Or.inr ⟨n, by omega, e, h⟩
    · exact Or.inr ⟨j, by omega, h2, h3⟩
theorem Cf.han_in {f : Cf} {w : World} (h : f.At w) (p : Int) : I64 (f.han p) := by
  rcases first_hit (f.hit p) f.hd.len with h1 | ⟨j, h1, h2, h3⟩
  · rw [Cf.han_miss h1]; exact ⟨by omega, by omega⟩
  · rw [Cf.han_hit h1 h2 h3]; exact (h.hd.each j h1).at_
def rsG (g : Rw Bool) (p : Nat) : Bool := decide (p < g.len) && g.x p
def rsO (op : Int) : Bool := (decide (op = 9) || decide (op = 10)) || decide (op = 26)
/-- It raises. -/
def Cf.rs (f : Cf) (g : Rw Bool) (p : Nat) : Bool := rsO (f.cd.x p).op || (decide ((f.cd.x p).op = 19) && rsG g p)
def nxO (op : Int) : Bool := ((decide (op ≠ 0) && decide (op ≠ 24)) && decide (op ≠ 26)) && decide (op ≠ 27)
/-- Where it jumps to. -/
def Cf.tg (f : Cf) (p : Nat) : Int := if ((f.cd.x p).op = 24 ∨ (f.cd.x p).op = 25) ∧ (0 ≤ (f.cd.x p).a ∧ (f.cd.x p).a < f.cd.len) then (f.cd.x p).a else -1
def Cf.lv (f : Cf) (g : Rw Bool) (p : Nat) : Bool := decide ((f.cd.x p).op = 27) || (f.rs g p && decide (f.han p = -1))
def Cf.br (f : Cf) (g : Rw Bool) (p : Nat) : Bool := decide ((f.cd.x p).op = 25) || (((decide ((f.cd.x p).op = 9) || decide ((f.cd.x p).op = 10)) || decide ((f.cd.x p).op = 19)) && f.rs g p)
/-- A way, its handler being h. -/
def Cf.wayH (f : Cf) (g : Rw Bool) (h : Int) (p q : Nat) : Prop := q < f.cd.len ∧ ((q = p + 1 ∧ nxO (f.cd.x p).op = true) ∨ (((f.cd.x p).op = 24 ∨ (f.cd.x p).op = 25) ∧ (f.cd.x p).a = q) ∨ (f.rs g p = true ∧ h = q))
def Cf.way (f : Cf) (g : Rw Bool) (p q : Nat) : Prop := f.wayH g (f.han p) p q
/-- The ways from a place. -/
noncomputable def Cf.wsH (f : Cf) (g : Rw Bool) (h : Int) (p : Nat) : List Int := (Fl.lst f.cd.len (f.wayH g h p)).map fun q : Nat => (q : Int)
noncomputable def Cf.ws (f : Cf) (g : Rw Bool) (p : Nat) : List Int := f.wsH g (f.han p) p
/-- What is told first, next, last. -/
def Cf.w1 (f : Cf) (p : Nat) : List Int := if nxO (f.cd.x p).op = true ∧ p + 1 < f.cd.len then [(p : Int) + 1] else []
def Cf.w2 (f : Cf) (p : Nat) : List Int := if f.tg p = -1 then [] else [f.tg p]
def Cf.w3 (f : Cf) (g : Rw Bool) (h : Int) (p : Nat) : List Int := if f.rs g p = true ∧ f.pl h = true then [h] else []
theorem Cf.mem_w (f : Cf) (g : Rw Bool) (h : Int) (p : Nat) (a : Int) : a ∈ f.w1 p ++ f.w2 p ++ f.w3 g h p ↔ ∃ q : Nat, a = q ∧ f.wayH g h p q := by
  unfold Cf.w1 Cf.w2 Cf.w3 Cf.wayH Cf.tg
  simp only [List.mem_append, Cf.pl_iff]
  constructor
  · rintro ((h1 | h1) | h1)
    · split at h1
      · rename_i h2
        refine ⟨p + 1, by simpa using h1, h2.2, Or.inl ⟨rfl, h2.1⟩⟩
      · simp at h1
    · by_cases h2 : ((f.cd.x p).op = 24 ∨ (f.cd.x p).op = 25) ∧ (0 ≤ (f.cd.x p).a ∧ (f.cd.x p).a < f.cd.len)
      · rw [if_pos h2] at h1
        rw [if_neg (by omega)] at h1
        have h3 : a = (f.cd.x p).a := by simpa using h1
        refine ⟨(f.cd.x p).a.toNat, by omega, by omega, Or.inr (Or.inl ⟨h2.1, by omega⟩)⟩
      · rw [if_neg h2] at h1
        simp at h1
    · split at h1
      · rename_i h2
        have h3 : a = h := by simpa using h1
        refine ⟨h.toNat, by omega, by omega, Or.inr (Or.inr ⟨h2.1, by omega⟩)⟩
      · simp at h1
  · rintro ⟨q, rfl, hq, ⟨rfl, h1⟩ | ⟨h1, h2⟩ | ⟨h1, h2⟩⟩
    · left; left
      rw [if_pos ⟨h1, hq⟩]
      simp
    · left; right
      rw [if_pos (show ((f.cd.x p).op = 24 ∨ (f.cd.x p).op = 25) ∧ (0 ≤ (f.cd.x p).a ∧ (f.cd.x p).a < f.cd.len) from ⟨h1, by omega, by omega⟩), if_neg (by omega), h2]
      simp
    · right
      rw [if_pos ⟨h1, by omega⟩, h2]
      simp
theorem upTo_props (d : Array Int) (hs : ∀ i j, i < j → j < d.size → d[i]! ≤ d[j]!) : ∀ m, m ≤ d.size → (Lib.compactUpTo d m).Pairwise (· < ·) ∧ (∀ a, a ∈ Lib.compactUpTo d m ↔ ∃ i, i < m ∧ d[i]! = a)
  | 0, _ => by simp [Lib.compactUpTo]
  | m + 1, hm => by
    obtain ⟨h1, h2⟩ := upTo_props d hs m (by omega)
    rw [Lib.compactUpTo_succ]
    cases hk : Lib.keeps d m
    · have hk' : ¬ (m = 0 ∨ d[m]! ≠ d[m - 1]!) := by simpa [Lib.keeps] using hk
      have h3 : 0 < m := by omega
      have h4 : d[m]! = d[m - 1]! := by
        by_cases e : d[m]! = d[m - 1]!
        · exact e
        · exact absurd (Or.inr e) hk'
      refine ⟨by simpa using h1, fun a => ?_⟩
      simp only [Bool.false_eq_true, if_false, List.append_nil]
      rw [h2]
      constructor
      · rintro ⟨i, hi, rfl⟩; exact ⟨i, by omega, rfl⟩
      · rintro ⟨i, hi, rfl⟩
        by_cases e : i = m
        · subst e; exact ⟨i - 1, by omega, h4.symm⟩
        · exact ⟨i, by omega, rfl⟩
    · have hk' : m = 0 ∨ d[m]! ≠ d[m - 1]! := by simpa [Lib.keeps] using hk
      refine ⟨?_, fun a => ?_⟩
      · rw [if_pos rfl, List.pairwise_append]
        refine ⟨h1, by simp, fun x hx y hy => ?_⟩
        obtain ⟨i, hi, rfl⟩ := (h2 x).1 hx
        have : y = d[m]! := by simpa using hy
        subst this
        have h3 : d[m]! ≠ d[m - 1]! := hk'.resolve_left (by omega)
        have h4 := hs (m - 1) m (by omega) (by omega)
        have h5 : d[i]! ≤ d[m - 1]! := by
          by_cases e : i = m - 1
          · rw [e]; exact Int.le_refl _
          · exact hs i (m - 1) (by omega) (by omega)
        omega
      · rw [if_pos rfl, List.mem_append, h2]
        constructor
        · rintro (⟨i, hi, rfl⟩ | h)
          · exact ⟨i, by omega, rfl⟩
          · exact ⟨m, by omega, (by simpa using h : a = d[m]!).symm⟩
        · rintro ⟨i, hi, rfl⟩
          by_cases e : i = m
          · subst e; right; simp
          · left; exact ⟨i, by omega, rfl⟩
theorem compact_sort (zs : List Int) : (Lib.compact (zs.mergeSort fun x y => decide (x ≤ y))).Pairwise (· < ·) ∧ ∀ a, a ∈ Lib.compact (zs.mergeSort fun x y => decide (x ≤ y)) ↔ a ∈ zs := by
  have hp : (zs.mergeSort fun x y => decide (x ≤ y)).Pairwise (fun a b => a ≤ b) := by
    have := List.pairwise_mergeSort (le := fun x y : Int => decide (x ≤ y)) (fun a b c h1 h2 => by simp at h1 h2 ⊢; omega) (fun a b => by simp; omega) zs
    exact this.imp (by simp)
  have hm : ∀ a, a ∈ (zs.mergeSort fun x y => decide (x ≤ y)) ↔ a ∈ zs := fun a => List.mem_mergeSort
  generalize (zs.mergeSort fun x y => decide (x ≤ y)) = l at *
  have key := upTo_props l.toArray (fun i j hij hj => by
    have hj' : j < l.length := by simpa using hj
    have := List.pairwise_iff_getElem.1 hp i j (by omega) hj' hij
    simpa [getElem!_pos, hj', show i < l.length by omega] using this) l.length (by simp)
  refine ⟨key.1, fun a => ?_⟩
  show a ∈ Lib.compactUpTo l.toArray l.length ↔ _
  rw [key.2, ← hm, List.mem_iff_getElem]
  constructor
  · rintro ⟨i, hi, rfl⟩; exact ⟨i, hi, by simp [getElem!_pos, hi]⟩
  · rintro ⟨i, hi, rfl⟩; exact ⟨i, hi, by simp [getElem!_pos, hi]⟩
/-- A rising list of numbers that are places. -/
theorem lst_map_of {n : Nat} {P : Nat → Prop} {l : List Int} (hr : l.Pairwise (· < ·)) (hm : ∀ a, a ∈ l ↔ ∃ q : Nat, a = q ∧ (q < n ∧ P q)) : l = (Fl.lst n P).map fun q : Nat => (q : Int) := by
  have e : l = (l.map Int.toNat).map fun q : Nat => (q : Int) := by
    rw [List.map_map]
    conv => lhs; rw [← List.map_id l]
    apply List.map_congr_left
    intro a ha
    obtain ⟨q, rfl, _⟩ := (hm a).1 ha
    simp
  rw [e]
  congr 1
  apply Fl.lst_of
  · rw [List.pairwise_map]
    refine hr.imp_of_mem fun {a b} ha hb hlt => ?_
    obtain ⟨q, rfl, _⟩ := (hm a).1 ha
    obtain ⟨q', rfl, _⟩ := (hm b).1 hb
    simpa using hlt
  · intro p
    rw [List.mem_map]
    constructor
    · rintro ⟨a, ha, rfl⟩
      obtain ⟨q, rfl, h⟩ := (hm a).1 ha
      simpa using h
    · intro h
      exact ⟨p, (hm p).2 ⟨p, rfl, h⟩, by simp⟩
theorem Cf.wsH_eq (f : Cf) (g : Rw Bool) (h : Int) (p : Nat) : Lib.compact ((f.w1 p ++ f.w2 p ++ f.w3 g h p).mergeSort fun x y => decide (x ≤ y)) = f.wsH g h p := by
  obtain ⟨h1, h2⟩ := compact_sort (f.w1 p ++ f.w2 p ++ f.w3 g h p)
  refine lst_map_of h1 fun a => ?_
  rw [h2, Cf.mem_w]
  constructor
  · rintro ⟨q, e, hq⟩; exact ⟨q, e, hq.1, hq⟩
  · rintro ⟨q, e, _, hq⟩; exact ⟨q, e, hq⟩
theorem mem_lstm {n : Nat} {P : Nat → Prop} {a : Int} : a ∈ (Fl.lst n P).map (fun q : Nat => (q : Int)) ↔ ∃ q : Nat, a = q ∧ (q < n ∧ P q) := by
  rw [List.mem_map]
  constructor
  · rintro ⟨q, hq, rfl⟩; exact ⟨q, rfl, Fl.mem_lst.1 hq⟩
  · rintro ⟨q, rfl, hq⟩; exact ⟨q, Fl.mem_lst.2 hq, rfl⟩
theorem lstm_rising (n : Nat) (P : Nat → Prop) : ((Fl.lst n P).map (fun q : Nat => (q : Int))).Pairwise (· < ·) := by
  rw [List.pairwise_map]
  exact (Fl.lst_rising n P).imp (by intro a b h; omega)

/-! Numbers of the call's own. -/
def ivL (l : List Int) : List Value := l.map fun a => .int .i64 a
/-- v owns the numbers l, in a block from base on. -/
def Oi (w : World) (base : Nat) (v : Value) (l : List Int) : Prop := w.ownsRow base 3 1 v l.length (ivL l)
theorem Oi.nil (w : World) (base : Nat) : Oi w base (.slice none 0 0) [] := World.ownsRow_nil _ _ _ _
theorem Oi.kept {w w' : World} {base : Nat} {v : Value} {l : List Int} (h : Oi w base v l) (hb : Below w.heap.size w w') : Oi w' base v l := owk h hb
theorem Oi.rw {w : World} {base : Nat} {v : Value} {l : List Int} (h : Oi w base v l) (hl : ∀ a ∈ l, I64 a) (hn : l.length ≤ 9223372036854775807) : ∃ r : Rw Int, v = .slice r.ao r.len r.cap ∧ NmAt w r ∧ r.ls = l ∧ (r.ao = none → r.len = 0 ∧ r.cap = 0) ∧ base ≤ r.b := by
  have h' := h
  obtain ⟨_, ⟨rfl, h0⟩ | ⟨g, cap, cur, rfl, hb, hg, hn', hc, hs, ht⟩⟩ := h
  · have : l = [] := List.eq_nil_of_length_eq_zero h0
    subst this
    exact ⟨⟨none, base, 0, 0, 0, fun _ => 0⟩, rfl, ⟨fun h => absurd h (Nat.lt_irrefl _), Nat.zero_le _, fun _ h => absurd h (Nat.not_lt_zero _), fun _ h => absurd h (Nat.not_lt_zero _)⟩, rfl, fun _ => ⟨rfl, rfl⟩, Nat.le_refl _⟩
  · have hget : ∀ i, i < l.length → l.getD i 0 ∈ l := fun i hi => by
      rw [List.getD_eq_getElem?_getD, List.getElem?_eq_getElem hi]; exact List.getElem_mem _
    refine ⟨⟨some ⟨g, 0, none⟩, g, 0, l.length, cap, fun i => l.getD i 0⟩, rfl, ⟨fun _ => rfl, hn, fun i hi => ?_, fun i hi => hl _ (hget i hi)⟩, ?_, (fun h => by cases h), hb⟩
    · intro j v hv
      match j with
      | 0 =>
        have e : v = .int .i64 (l.getD i 0) := by simpa [numV] using hv.symm
        subst e
        show w.cell? ⟨g, 0 + i * 1 + 0, none⟩ = _
        have hi' : i < l.length := hi
        have := World.ownsRow.cells h' (g := g) rfl i (.int .i64 (l.getD i 0)) (by simp [ivL, hi'])
        rw [adp] at this
        simpa using this
      | j + 1 => simp [numV] at hv
    · unfold Rw.ls
      apply List.ext_getElem?
      intro i
      by_cases hi : i < l.length
      · simp [hi]
      · rw [List.getElem?_eq_none (by simp; omega), List.getElem?_eq_none (by omega)]
end Go.Proofs.Ytmajlfocfjcgmaa

/- Layer 2: clone. -/
namespace Go.Proofs.Ytmajlfocfjcgmaa
open Go.RowKit

theorem Try.infoTy : (Try.prog.info? 24).map (fun i => (i.zero, i.size, i.bytes)) = some (some (.agg #[.int .i64 0, .int .i64 0, .slice none 0 0, .int .i64 0, .int .i64 0]), 5, 56) := by kernel_rfl

theorem own_kept {w w' : World} {base : Nat} {e : TypeId} {size : Nat} {v : Value} {n : Nat} {xs : List Value} (h : w.ownsRow base e size v n xs) (hb : Below w.heap.size w w') : w'.ownsRow base e size v n xs := by
  obtain ⟨h1, h2⟩ := h
  refine ⟨h1, ?_⟩
  rcases h2 with h2 | ⟨g, cap, cur, hv, hg, hh, r⟩
  · exact Or.inl h2
  · exact Or.inr ⟨g, cap, cur, hv, hg, (hb.block g (Array.getElem?_eq_some_iff.1 hh).1).trans hh, r⟩

/-- The variables of a call that clones: a type's, and the result's. -/
structure CBox (w w0 : World) (t : Ty) : Prop where
  bl : Below w.heap.size w w0
  sz : w0.heap.size = w.heap.size + 2
  x : Bx w0 w.heap.size t
  fx : ∀ i, i < 5 → w0.frozen? ⟨w.heap.size, i, none⟩ = false
  r : ∀ i, i < 5 → (w0.cell? ⟨w.heap.size + 1, i, none⟩).isSome = true
  fr : ∀ i, i < 5 → w0.frozen? ⟨w.heap.size + 1, i, none⟩ = false
theorem cbox_new (w : World) (t : Ty) : CBox w ((w.alloc (tyO t)).alloc (.cells #[.int .i64 0, .int .i64 0, .slice none 0 0, .int .i64 0, .int .i64 0] 24)) t where
  bl := Below.next (below_alloc _ _) (below_alloc _ _)
  sz := by rw [alloc_size, alloc_size]
  x := (Bx.new w t).kept (below_alloc _ _)
  fx := fun i hi => by
    rw [(below_alloc (w.alloc (tyO t)) _).frozen (p := ⟨w.heap.size, i, none⟩) (by rw [alloc_size]; exact Nat.lt_succ_self _)]
    simp [tyO]
  r := fun i hi => by
    have e : (w.alloc (tyO t)).heap.size = w.heap.size + 1 := alloc_size _ _
    rw [← e]
    match i, hi with
    | 0, _ => simp
    | 1, _ => simp
    | 2, _ => simp
    | 3, _ => simp
    | 4, _ => simp
  fr := fun i hi => by
    have e : (w.alloc (tyO t)).heap.size = w.heap.size + 1 := alloc_size _ _
    rw [← e]
    simp

/-- What clone answers. -/
def CP (w : World) (t : Ty) (e : Ending) (w' : World) : Prop :=
  ∃ u : Ty, e = .returned (.agg #[.int .i64 u.k, .int .i64 u.l, .slice u.ao u.len u.cap, .int .i64 u.h, .int .i64 u.e]) ∧ u.At w' ∧ u.Blk (fun b => w.heap.size ≤ b) ∧ u.same t = true ∧ Below w.heap.size w w'

theorem CP.intro {w : World} {t : Ty} {e : Ending} {w' : World} (u : Ty) (h1 : e = .returned (.agg #[.int .i64 u.k, .int .i64 u.l, .slice u.ao u.len u.cap, .int .i64 u.h, .int .i64 u.e])) (h2 : u.At w') (h3 : u.Blk (fun b => w.heap.size ≤ b)) (h4 : u.same t = true) (h5 : Below w.heap.size w w') : CP w t e w' := ⟨u, h1, h2, h3, h4, h5⟩

end Go.Proofs.Ytmajlfocfjcgmaa

/- The law's own small lattice, and what is asked of it first; few. -/
namespace Go.Proofs.Ytmajlfocfjcgmaa
open Go.RowKit

theorem formed_gen {n : Strs} {ao : Option Addr} {gg len cap : Nat} {s : Nat → ByteArray} {R : Nat → Nat} {M : Nat → Nat → Bool} (h1 : n.len = len) (h2 : n.s = s) : formedB n (gridR ao gg len cap R M) = formedM len s M := by
  obtain ⟨ao, b, o, l, c, s'⟩ := n
  simp only at h1 h2
  subst h1 h2
  rfl
theorem grid_set_nil {g : Grid} {w : World} (h : g.At w) {a : Addr} (ha : w.cell? a = some (.slice none 0 0)) (hA : ∀ r, r < g.len → g.A r ≠ none) (v : Value) : g.At (w.setCell a v) where
  lc := h.lc
  nil := h.nil
  bound := h.bound
  lbound := h.lbound
  row := fun r hr => by
    have hc := h.row r hr
    rw [World.cell?_setCell_other _ _ _ _ (fun e => by rw [← e, ha] at hc; injection hc with hc; injection hc with h1 _ _; exact hA r hr h1.symm)]
    exact hc
  adr := h.adr
  cell := fun r hr c hc => by
    have hc := h.cell r hr c hc
    rw [World.cell?_setCell_other _ _ _ _ (fun e => by rw [← e, ha] at hc; cases hc)]
    exact hc
/-- The lattice of two. -/
structure Lt2 (n : Strs) (g : Grid) (w : World) : Prop where
  nat : n.At w
  gat : g.At w
  fd : formedB n g = true
  two : n.len = 2
  le : g.B 0 1 = true
  rows : ∀ r, r < g.len → g.A r ≠ none

/-- A type without Parts. -/
def leafT (k l : Int) : Ty := .mk k l 0 0 none 0 0 0 0 (fun _ => .dm)
theorem leaf_at (k l : Int) (w : World) : (leafT k l).At w := ⟨fun h => absurd h (Nat.lt_irrefl _), Nat.zero_le _, fun _ h => absurd h (Nat.not_lt_zero _)⟩
theorem leaf_ok (l : Int) (N : Nat) (h : inR N l = true) : (leafT 1 l).ok N = true := by
  unfold Ty.ok leafT
  rw [fm_eq, h]
  rfl
theorem two_bel {n : Strs} {g : Grid} {w : World} (h : Lt2 n g w) : belB n g (leafT 1 0) (leafT 1 1) = true := by
  unfold belB
  rw [h.fd, leaf_ok 0 _ (by rw [h.two]; rfl), leaf_ok 1 _ (by rw [h.two]; rfl)]
  show (((1 : Int) == 1) && g.B 0 1 && true) = true
  rw [h.le]; rfl

/-- What few answers. -/
def fewB (n : Strs) (g : Grid) (s t : Ty) : Bool := (smallB n g && decide (s.nodes ≤ 40)) && decide (t.nodes ≤ 40)

end Go.Proofs.Ytmajlfocfjcgmaa

/- Layer 2: a type stored. -/
namespace Go.Proofs.Ytmajlfocfjcgmaa
open Go.RowKit

/-- Five cells written. -/
def World.put5 (w : World) (B : Nat) (v0 v1 v2 v3 v4 : Value) : World := ((((w.setCell ⟨B, 0, none⟩ v0).setCell ⟨B, 1, none⟩ v1).setCell ⟨B, 2, none⟩ v2).setCell ⟨B, 3, none⟩ v3).setCell ⟨B, 4, none⟩ v4
theorem put5_heap (w : World) (B : Nat) (v0 v1 v2 v3 v4 : Value) {b : Nat} (h : b ≠ B) : (World.put5 w B v0 v1 v2 v3 v4).heap[b]? = w.heap[b]? := by
  unfold World.put5
  rw [Below.heap_setCell _ _ _ _ h, Below.heap_setCell _ _ _ _ h, Below.heap_setCell _ _ _ _ h, Below.heap_setCell _ _ _ _ h, Below.heap_setCell _ _ _ _ h]
theorem put5_below {w w1 : World} {B : Nat} (hB : w.heap.size ≤ B) (h : Below w.heap.size w w1) (v0 v1 v2 v3 v4 : Value) : Below w.heap.size w (World.put5 w1 B v0 v1 v2 v3 v4) :=
  ((((h.setCell hB _).setCell hB _).setCell hB _).setCell hB _).setCell hB _
theorem put5_frozen (w : World) (B : Nat) (v0 v1 v2 v3 v4 : Value) (a : Addr) : (World.put5 w B v0 v1 v2 v3 v4).frozen? a = w.frozen? a := by
  unfold World.put5
  rw [World.frozen?_setCell, World.frozen?_setCell, World.frozen?_setCell, World.frozen?_setCell, World.frozen?_setCell]
theorem put5_cells {w : World} {B : Nat} (v0 v1 v2 v3 v4 : Value) {t : Ty} (h : Bx w B t) (hf : ∀ i, i < 5 → w.frozen? ⟨B, i, none⟩ = false) : (World.put5 w B v0 v1 v2 v3 v4).cell? ⟨B, 0, none⟩ = some v0 ∧ (World.put5 w B v0 v1 v2 v3 v4).cell? ⟨B, 1, none⟩ = some v1 ∧ (World.put5 w B v0 v1 v2 v3 v4).cell? ⟨B, 2, none⟩ = some v2 ∧ (World.put5 w B v0 v1 v2 v3 v4).cell? ⟨B, 3, none⟩ = some v3 ∧ (World.put5 w B v0 v1 v2 v3 v4).cell? ⟨B, 4, none⟩ = some v4 := by
  have key := World.rangeAt_setCells_same w B 0 [v0, v1, v2, v3, v4] (fun j hj => ?_)
  · exact ⟨key 0 v0 rfl, key 1 v1 rfl, key 2 v2 rfl, key 3 v3 rfl, key 4 v4 rfl⟩
  · have hj' : j < 5 := hj
    rw [Nat.zero_add]
    refine ⟨?_, hf j hj'⟩
    match j, hj' with
    | 0, _ => rw [h.c0]; rfl
    | 1, _ => rw [h.c1]; rfl
    | 2, _ => rw [h.c2]; rfl
    | 3, _ => rw [h.c3]; rfl
    | 4, _ => rw [h.c4]; rfl
theorem wpList_store5 {w : World} {ops : Array Oper} {rest : List Oper} {o : Oper} {a : Act} {Q : Exit → Act → World → Prop} (hgd : o.guard = none) (hdst : o.dst = none) (p x : Operand) (ho : o.op = .store 24 p x) (B : Nat) (v0 v1 v2 v3 v4 : Value)
    (hp : a.eval p = .pointer (some ⟨B, 0, none⟩)) (hx : a.eval x = .agg #[v0, v1, v2, v3, v4]) (h0 : v0.oneCell' = true) (h1 : v1.oneCell' = true) (h2 : v2.oneCell' = true) (h3 : v3.oneCell' = true) (h4 : v4.oneCell' = true) {t : Ty} (hb : Bx w B t) (hf : ∀ i, i < 5 → w.frozen? ⟨B, i, none⟩ = false)
    (h : wpList Try.prog ops Q rest a (World.put5 w B v0 v1 v2 v3 v4)) : wpList Try.prog ops Q (o :: rest) a w := by
  refine wpList_store_mid hgd 24 p x ho B 0 #[v0, v1, v2, v3, v4] hp hx (fun j hj => ?_) (by kernel_rfl) (by simp [h0, h1, h2, h3, h4]) ?_
  · have hj' : j < 5 := hj
    rw [Nat.zero_add]
    refine ⟨?_, hf j hj'⟩
    match j, hj' with
    | 0, _ => rw [hb.c0]; rfl
    | 1, _ => rw [hb.c1]; rfl
    | 2, _ => rw [hb.c2]; rfl
    | 3, _ => rw [hb.c3]; rfl
    | 4, _ => rw [hb.c4]; rfl
  · rw [hdst]
    exact h
end Go.Proofs.Ytmajlfocfjcgmaa
