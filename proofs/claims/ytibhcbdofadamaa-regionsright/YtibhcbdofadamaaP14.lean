/- Layer 15: places that were come to, as a list of truths; what is still open. -/
import Derived.Test.YtibhcbdofadamaaP13
namespace Go.Proofs.Ytibhcbdofadamaa
open Go Go.RowKit

/-- Truths in a row. -/
def bvL (m : Nat → Bool) (n : Nat) : List Value := (List.range n).map fun i => .bool (m i)
theorem bvL_len (a : Nat → Bool) (n : Nat) : (bvL a n).length = n := by simp [bvL]
theorem bvL_get (a : Nat → Bool) {n i : Nat} (h : i < n) : (bvL a n)[i]? = some (.bool (a i)) := by simp [bvL, h]
def updB (a : Nat → Bool) (k : Nat) : Nat → Bool := fun i => if i = k then true else a i
theorem bvL_set (a : Nat → Bool) (n k : Nat) : (bvL a n).set k (.bool true) = bvL (updB a k) n := by
  apply List.ext_getElem?
  intro i
  rw [List.getElem?_set]
  by_cases e : k = i
  · subst e
    rw [if_pos rfl]
    by_cases h : k < n
    · rw [bvL_len, if_pos h, bvL_get _ h]; simp [updB]
    · rw [bvL_len, if_neg h, List.getElem?_eq_none (by rw [bvL_len]; omega)]
  · rw [if_neg e]
    by_cases h : i < n
    · rw [bvL_get _ h, bvL_get _ h]
      simp [updB, show ¬ i = k from fun h => e h.symm]
    · rw [List.getElem?_eq_none (by rw [bvL_len]; omega), List.getElem?_eq_none (by rw [bvL_len]; omega)]
theorem rpl_bvL (n : Nat) : List.replicate n (Value.bool false) = bvL (fun _ => false) n := by
  apply List.ext_getElem?
  intro i
  by_cases h : i < n
  · rw [bvL_get _ h, List.getElem?_replicate, if_pos h]
  · rw [List.getElem?_eq_none (by simp; omega), List.getElem?_eq_none (by rw [bvL_len]; omega)]
/-- How many aren't. -/
def fls (m : Nat → Bool) (n : Nat) : Nat := ((List.range n).filter fun i => !m i).length
theorem fls_succ (m : Nat → Bool) (n : Nat) : fls m (n + 1) = fls m n + (if m n = false then 1 else 0) := by
  unfold fls
  rw [List.range_succ, List.filter_append, List.length_append]
  cases h : m n <;> simp [h]
theorem fls_far (m : Nat → Bool) (k : Nat) : ∀ n, n ≤ k → fls (updB m k) n = fls m n
  | 0, _ => rfl
  | n + 1, h => by rw [fls_succ, fls_succ, fls_far m k n (by omega)]; simp [updB, show ¬ n = k by omega]
theorem fls_upd {m : Nat → Bool} {k : Nat} (hm : m k = false) : ∀ n, k < n → fls (updB m k) n + 1 = fls m n
  | 0, h => absurd h (Nat.not_lt_zero _)
  | n + 1, h => by
    rw [fls_succ, fls_succ]
    by_cases e : k = n
    · subst e
      rw [fls_far m k k (Nat.le_refl _)]
      simp [updB, hm]
    · have := fls_upd hm n (by omega)
      have e2 : updB m k n = m n := by simp [updB, show ¬ n = k from fun h => e h.symm]
      rw [e2]
      omega
theorem fls_le (m : Nat → Bool) (n : Nat) : fls m n ≤ n := by
  unfold fls
  exact Nat.le_trans (List.length_filter_le _ _) (by simp)

/-- One place met. -/
def mt1 (n : Nat) (stop : Int) (s : (Nat → Bool) × List Int) (a : Int) : (Nat → Bool) × List Int :=
  if (0 ≤ a ∧ a < n) ∧ a ≠ stop ∧ s.1 a.toNat = false then (updB s.1 a.toNat, s.2 ++ [a]) else s
def mtL (n : Nat) (stop : Int) (l : List Int) (s : (Nat → Bool) × List Int) : (Nat → Bool) × List Int := l.foldl (mt1 n stop) s
theorem mtL_app (n : Nat) (stop : Int) (l : List Int) (a : Int) (s : (Nat → Bool) × List Int) : mtL n stop (l ++ [a]) s = mt1 n stop (mtL n stop l s) a := by simp [mtL]
structure MtP (n : Nat) (stop : Int) (l : List Int) (s t : (Nat → Bool) × List Int) : Prop where
  mem : ∀ q : Nat, t.1 q = true ↔ s.1 q = true ∨ ((q : Int) ∈ l ∧ (q : Int) ≠ stop ∧ q < n)
  new : ∀ a ∈ t.2, a ∈ s.2 ∨ ∃ q : Nat, a = q ∧ q < n ∧ t.1 q = true
  cover : ∀ q : Nat, t.1 q = true → s.1 q = true ∨ (q : Int) ∈ t.2
  sub : ∀ a ∈ s.2, a ∈ t.2
  cnt : t.2.length + fls t.1 n = s.2.length + fls s.1 n
theorem mtL_props (n : Nat) (stop : Int) (l : List Int) (s : (Nat → Bool) × List Int) : MtP n stop l s (mtL n stop l s) := by
  suffices h : ∀ k : Nat, k ≤ l.length → MtP n stop (l.take k) s (mtL n stop (l.take k) s) by
    have := h l.length (Nat.le_refl _)
    rwa [List.take_length] at this
  intro k
  induction k with
  | zero => intro _; exact ⟨fun q => by simp [mtL], fun a ha => Or.inl ha, fun q hq => Or.inl hq, fun a ha => ha, rfl⟩
  | succ k ih =>
    intro hk
    have ih := ih (by omega)
    have e : l.take (k + 1) = l.take k ++ [l[k]] := by rw [List.take_succ_eq_append_getElem (by omega)]
    rw [e, mtL_app]
    generalize l[k] = a at *
    generalize l.take k = l' at *
    generalize mtL n stop l' s = t at *
    unfold mt1
    by_cases c : (0 ≤ a ∧ a < n) ∧ a ≠ stop ∧ t.1 a.toNat = false
    · rw [if_pos c]
      obtain ⟨p, hp⟩ : ∃ p : Nat, a = p := ⟨a.toNat, by omega⟩
      subst hp
      rw [Int.toNat_natCast] at *
      have hpn : p < n := by omega
      refine ⟨fun q => ?_, fun a ha => ?_, fun q hq => ?_, fun a ha => List.mem_append.2 (Or.inl (ih.sub a ha)), ?_⟩
      · show updB t.1 p q = true ↔ _
        unfold updB
        by_cases e : q = p
        · subst e
          simp [hpn, c.2.1]
        · rw [if_neg e, ih.mem]
          have : ¬ (q : Int) = p := by omega
          simp [this]
      · rcases List.mem_append.1 ha with h | h
        · rcases ih.new a h with h1 | ⟨q, h1, h2, h3⟩
          · exact Or.inl h1
          · refine Or.inr ⟨q, h1, h2, ?_⟩
            show updB t.1 p q = true
            unfold updB; split
            · rfl
            · exact h3
        · refine Or.inr ⟨p, by simpa using h, hpn, ?_⟩
          show updB t.1 p p = true
          simp [updB]
      · have hq' : updB t.1 p q = true := hq
        unfold updB at hq'
        by_cases e : q = p
        · subst e; exact Or.inr (List.mem_append.2 (Or.inr (by simp)))
        · rw [if_neg e] at hq'
          rcases ih.cover q hq' with h | h
          · exact Or.inl h
          · exact Or.inr (List.mem_append.2 (Or.inl h))
      · show (t.2 ++ [_]).length + fls (updB t.1 p) n = _
        have := fls_upd c.2.2 n hpn
        rw [List.length_append, ← ih.cnt]
        simp only [List.length_singleton]
        omega
    · rw [if_neg c]
      refine ⟨fun q => ?_, ih.new, ih.cover, ih.sub, ih.cnt⟩
      rw [ih.mem]
      constructor
      · rintro (h | ⟨h1, h2, h3⟩)
        · exact Or.inl h
        · exact Or.inr ⟨List.mem_append.2 (Or.inl h1), h2, h3⟩
      · rintro (h | ⟨h1, h2, h3⟩)
        · exact Or.inl h
        · rcases List.mem_append.1 h1 with h | h
          · exact Or.inr ⟨h, h2, h3⟩
          · have h4 : (q : Int) = a := by simpa using h
            subst h4
            have h5 : t.1 q = true := by
              cases hq : t.1 q
              · exact absurd ⟨⟨by omega, by omega⟩, h2, by simpa using hq⟩ c
              · rfl
            exact (ih.mem q).1 h5

/-- Where the walk stands: what is met, what of it is open. -/
structure Rs (W : Nat → Nat → Prop) (F : Nat → Prop) (n : Nat) (stop : Int) (s : (Nat → Bool) × List Int) : Prop where
  sound : ∀ q, s.1 q = true → Fl.Rch W F stop q
  base : ∀ q, F q → (q : Int) ≠ stop → s.1 q = true
  closed : ∀ p, s.1 p = true → (p : Int) ∈ s.2 ∨ ∀ q, W p q → (q : Int) ≠ stop → s.1 q = true
  places : ∀ a ∈ s.2, ∃ q : Nat, a = q ∧ q < n ∧ s.1 q = true
  cnt : s.2.length + fls s.1 n ≤ n
theorem Rs.start {W : Nat → Nat → Prop} {n : Nat} {stop : Int} {l : List Int} : Rs W (fun q => (q : Int) ∈ l ∧ q < n) n stop (mtL n stop l (fun _ => false, [])) := by
  have h := mtL_props n stop l (fun _ => false, [])
  refine ⟨fun q hq => ?_, fun q h1 h2 => (h.mem q).2 (Or.inr ⟨h1.1, h2, h1.2⟩), fun p hp => Or.inl ?_, fun a ha => ?_, ?_⟩
  · rcases (h.mem q).1 hq with h1 | ⟨h1, h2, h3⟩
    · cases h1
    · exact .base ⟨h1, h3⟩ h2
  · rcases h.cover p hp with h1 | h1
    · cases h1
    · exact h1
  · rcases h.new a ha with h1 | h1
    · cases h1
    · exact h1
  · rw [h.cnt]; simpa using fls_le _ n
theorem Rs.step {W : Nat → Nat → Prop} {F : Nat → Prop} {n : Nat} {stop : Int} {m : Nat → Bool} {o : List Int} {p : Nat} {l : List Int} (hl : ∀ a, a ∈ l ↔ ∃ q : Nat, a = q ∧ (q < n ∧ W p q)) (hW : ∀ q, W p q → q < n) (h : Rs W F n stop (m, o ++ [(p : Int)])) :
    Rs W F n stop (mtL n stop l (m, o)) ∧ (mtL n stop l (m, o)).2.length + 2 * fls (mtL n stop l (m, o)).1 n < (o ++ [(p : Int)]).length + 2 * fls m n := by
  have k := mtL_props n stop l (m, o)
  have hpm : m p = true := by
    obtain ⟨q, h1, _, h3⟩ := h.places p (by simp)
    have : p = q := by omega
    subst this; exact h3
  have hup : ∀ q, m q = true → (mtL n stop l (m, o)).1 q = true := fun q hq => (k.mem q).2 (Or.inl hq)
  refine ⟨⟨fun q hq => ?_, fun q h1 h2 => hup q (h.base q h1 h2), fun q hq => ?_, fun a ha => ?_, ?_⟩, ?_⟩
  · rcases (k.mem q).1 hq with h1 | ⟨h1, h2, h3⟩
    · exact h.sound q h1
    · obtain ⟨q', e, _, h4⟩ := (hl q).1 h1
      have : q = q' := by omega
      subst this
      exact .step (h.sound p hpm) h4 h2
  · rcases k.cover q hq with h1 | h1
    · by_cases e : q = p
      · subst e
        exact Or.inr fun q' h2 h3 => (k.mem q').2 (Or.inr ⟨(hl q').2 ⟨q', rfl, hW q' h2, h2⟩, h3, hW q' h2⟩)
      · rcases h.closed q h1 with h2 | h2
        · rcases List.mem_append.1 h2 with h3 | h3
          · exact Or.inl (k.sub _ h3)
          · have : (q : Int) = p := by simpa using h3
            omega
        · exact Or.inr fun q' h3 h4 => hup q' (h2 q' h3 h4)
    · exact Or.inl h1
  · rcases k.new a ha with h1 | h1
    · obtain ⟨q, h2, h3, h4⟩ := h.places a (List.mem_append.2 (Or.inl h1))
      exact ⟨q, h2, h3, hup q h4⟩
    · exact h1
  · have := h.cnt
    have := k.cnt
    rw [List.length_append] at *
    simp only [List.length_singleton] at *
    omega
  · have h1 := k.cnt
    rw [List.length_append]
    simp only [List.length_singleton] at *
    have : fls (mtL n stop l (m, o)).1 n ≤ fls m n := by
      have : o.length ≤ (mtL n stop l (m, o)).2.length := by
        have key : ∀ (l : List Int) (s : (Nat → Bool) × List Int), s.2.length ≤ (mtL n stop l s).2.length := by
          intro l
          induction l with
          | nil => intro s; exact Nat.le_refl _
          | cons a l ih =>
            intro s
            refine Nat.le_trans ?_ (ih (mt1 n stop s a))
            unfold mt1; split
            · simp
            · exact Nat.le_refl _
        exact key l (m, o)
      omega
    omega
theorem Rs.done {W : Nat → Nat → Prop} {F : Nat → Prop} {n : Nat} {stop : Int} {m : Nat → Bool} (h : Rs W F n stop (m, [])) (q : Nat) : m q = true ↔ Fl.Rch W F stop q :=
  Fl.rch_of_closed (S := fun q => m q = true) h.base (fun p q h1 h2 h3 => (h.closed p h1).elim (fun h => by cases h) (fun h => h q h2 h3)) h.sound q
end Go.Proofs.Ytibhcbdofadamaa

/- Layer 15: Reach's own function meet, and placesOf. -/
namespace Go.Proofs.Ytibhcbdofadamaa
open Go Go.RowKit

/-- One number more, and where it lies. -/
theorem wpList_app1L {w : World} {ops : Array Oper} {rest : List Oper} {o : Oper} {a : Act} {Q : Exit → Act → World → Prop} (hgd : o.guard = none) (s x : Operand)
    (hop : o.op = .call { callee := .builtin .append, args := #[s, x], argTypes := #[36, 36] }) (base : Nat) (v : Value) (l : List Int) (z : Int) (hs : a.eval s = v) (ho : Oi w base v l) (hx : a.eval x = .slice (some ⟨w.heap.size, 0, none⟩) 1 1) (hl : l.length ≤ 1000000) (hb : base ≤ w.heap.size)
    (h : ∀ g cap w', Oi w' base (.slice (some ⟨g, 0, none⟩) (l.length + 1) cap) (l ++ [z]) → w.grownBy w' v.ownBlock → (v.ownBlock = some g ∨ w.heap.size ≤ g) → wpList Try.prog ops Q rest (a.put o.dst (.slice (some ⟨g, 0, none⟩) (l.length + 1) cap)) w') : wpList Try.prog ops Q (o :: rest) a (w.alloc (.cells #[.int .i64 z] 3)) := by
  have hE : (w.alloc (.cells #[.int .i64 z] 3)).ownsRow base 3 1 v l.length (ivL l) := ho.alloc _
  obtain ⟨i0, hi, hz0, hz1, hz2⟩ := info_parts Try.infoI
  refine wpList_append_lies _ hgd s x 36 hop base 3 i0 (.int .i64 0) 1 8 Try.underlying36 hi hz0 hz1 hz2 rfl (by decide) v l.length (ivL l) hs hE ⟨w.heap.size, 0, none⟩ 1 1 [.int .i64 z] hx rfl (fun j u hj => new_row (cs := [.int .i64 z]) _ rfl j u hj) (ivL_one [z]) (by decide) (by unfold maxLen; omega) (by omega) (by rw [alloc_size]; omega) (w.heap.size + 1) (alloc_size _ _) ?_
  intro g cap w' h1 h2 h3 _
  refine h g cap w' ?_ ?_ ?_
  · unfold Oi
    rw [List.length_append, ivL, List.map_append]
    exact h1
  · have g0 := World.grownBy_alloc w (.cells #[.int .i64 z] 3) v.ownBlock
    refine ⟨h2.os.trans g0.os, h2.tape.trans g0.tape, h2.output.trans g0.output, Nat.le_trans g0.size h2.size, fun k hk hne => ?_⟩
    rw [h2.block k (by rw [alloc_size]; omega) hne]
    exact g0.block k hk hne
  · rcases h3 with h3 | h3
    · exact Or.inl h3
    · exact Or.inr (by omega)
theorem NmAt.gb {w w' : World} {r : Rw Int} {k : Option Nat} (h : NmAt w r) (hg : w.grownBy w' k) (hne : r.len = 0 ∨ some r.b ≠ k) : NmAt w' r :=
  ⟨h.nil, h.bound, fun i hi j v hv => hg.cell (h.row i hi j v hv) (hne.resolve_left (by omega)), h.each⟩
theorem BlAt.gb {w w' : World} {r : Rw Bool} {k : Option Nat} (h : BlAt w r) (hg : w.grownBy w' k) (hne : r.len = 0 ∨ some r.b ≠ k) : BlAt w' r :=
  ⟨h.nil, h.bound, fun i hi j v hv => hg.cell (h.row i hi j v hv) (hne.resolve_left (by omega)), h.each⟩

/-- Where all lies while Reach goes on: the boxes of f and stop, the truths, met, the handlers, open. -/
structure Ad where
  F : Nat
  S : Nat
  V : Nat
  M : Nat
  H : Nat
  O : Nat
structure Mr (w0 : World) (f : Cf) (stop : Int) (d : Ad) (m : Nat → Bool) (ov : Value) (o : List Int) (u : World) : Prop where
  bl : Below w0.heap.size w0 u
  bF : Blk u d.F f.vs 30
  bS : Blk u d.S [.int .i64 stop] 3
  bV : Blk u d.V (bvL m f.cd.len) 4
  bM : Blk u d.M [.slice (some ⟨d.V, 0, none⟩) f.cd.len f.cd.len] 31
  bH : Blk u d.H (nvL (fun p => f.han p) f.cd.len) 3
  bO : Blk u d.O [ov] 36
  oi : Oi u (d.O + 1) ov o
  ne : (w0.heap.size ≤ d.F ∧ d.F < d.S) ∧ (d.S < d.V ∧ d.V < d.M) ∧ (d.M < d.H ∧ d.H < d.O)
theorem Mr.kept {w0 : World} {f : Cf} {stop : Int} {d : Ad} {m : Nat → Bool} {ov : Value} {o : List Int} {u u' : World} (h : Mr w0 f stop d m ov o u) (hb : Below u.heap.size u u') : Mr w0 f stop d m ov o u' :=
  ⟨Below.next h.bl hb, h.bF.kept hb, h.bS.kept hb, h.bV.kept hb, h.bM.kept hb, h.bH.kept hb, h.bO.kept hb, h.oi.kept hb, h.ne⟩
theorem Oi.gb {w w' : World} {base : Nat} {v : Value} {l : List Int} {r : Option Nat} (h : Oi w base v l) (hg : w.grownBy w' r) (hne : ∀ k, r = some k → k < base) : Oi w' base v l := by
  refine World.ownsRow.kept h hg ?_
  cases hv : v.ownBlock with
  | none => exact Or.inl rfl
  | some k =>
    refine Or.inr fun e => ?_
    have := hne k e.symm
    have := (owb h hv).1
    omega
theorem Mr.setV {w0 : World} {f : Cf} {stop : Int} {d : Ad} {m : Nat → Bool} {ov : Value} {o : List Int} {u u' : World} (h : Mr w0 f stop d m ov o u) {k : Nat} (W : WroteB u u' d.V ((bvL m f.cd.len).set k (.bool true)) 4) : Mr w0 f stop d (updB m k) ov o u' := by
  have hn := h.ne
  have hg := W.gb
  exact ⟨gb_bel h.bl hg (fun k hk => by have := Option.some.inj hk; omega), h.bF.gb hg (fun e => by have := Option.some.inj e; omega), h.bS.gb hg (fun e => by have := Option.some.inj e; omega), by rw [← bvL_set]; exact W.blk, h.bM.gb hg (fun e => by have := Option.some.inj e; omega), h.bH.gb hg (fun e => by have := Option.some.inj e; omega), h.bO.gb hg (fun e => by have := Option.some.inj e; omega), h.oi.gb hg (fun k hk => by have := Option.some.inj hk; omega), h.ne⟩
/-- Behind the append: open's row has grown. -/
theorem Mr.app {w0 : World} {f : Cf} {stop : Int} {d : Ad} {m : Nat → Bool} {ov : Value} {o : List Int} {u u' : World} (h : Mr w0 f stop d m ov o u) (hg : u.grownBy u' ov.ownBlock) : (Below w0.heap.size w0 u' ∧ Blk u' d.F f.vs 30 ∧ Blk u' d.S [.int .i64 stop] 3 ∧ Blk u' d.V (bvL m f.cd.len) 4) ∧ (Blk u' d.M [.slice (some ⟨d.V, 0, none⟩) f.cd.len f.cd.len] 31 ∧ Blk u' d.H (nvL (fun p => f.han p) f.cd.len) 3 ∧ Blk u' d.O [ov] 36) := by
  have hn := h.ne
  have key : ∀ k, ov.ownBlock = some k → d.O + 1 ≤ k := fun k hk => (owb h.oi hk).1
  have k2 : ∀ B, B < d.O + 1 → some B ≠ ov.ownBlock := fun B hB e => by have := key B e.symm; omega
  exact ⟨⟨gb_bel h.bl hg (fun k hk => by have := key k hk; omega), h.bF.gb hg (k2 _ (by omega)), h.bS.gb hg (k2 _ (by omega)), h.bV.gb hg (k2 _ (by omega))⟩, h.bM.gb hg (k2 _ (by omega)), h.bH.gb hg (k2 _ (by omega)), h.bO.gb hg (k2 _ (by omega))⟩
theorem Mr.setO {w0 : World} {f : Cf} {stop : Int} {d : Ad} {m : Nat → Bool} {ov ov' : Value} {o' : List Int} {u u' : World} (h : (Below w0.heap.size w0 u ∧ Blk u d.F f.vs 30 ∧ Blk u d.S [.int .i64 stop] 3 ∧ Blk u d.V (bvL m f.cd.len) 4) ∧ (Blk u d.M [.slice (some ⟨d.V, 0, none⟩) f.cd.len f.cd.len] 31 ∧ Blk u d.H (nvL (fun p => f.han p) f.cd.len) 3 ∧ Blk u d.O [ov] 36)) (hn : (w0.heap.size ≤ d.F ∧ d.F < d.S) ∧ (d.S < d.V ∧ d.V < d.M) ∧ (d.M < d.H ∧ d.H < d.O)) (ho : Oi u (d.O + 1) ov' o') (W : WroteB u u' d.O [ov'] 36) : Mr w0 f stop d m ov' o' u' := by
  have hg := W.gb
  obtain ⟨⟨h1, h2, h3, h4⟩, h5, h6, h7⟩ := h
  exact ⟨gb_bel h1 hg (fun k hk => by have := Option.some.inj hk; omega), h2.gb hg (fun e => by have := Option.some.inj e; omega), h3.gb hg (fun e => by have := Option.some.inj e; omega), h4.gb hg (fun e => by have := Option.some.inj e; omega), h5.gb hg (fun e => by have := Option.some.inj e; omega), h6.gb hg (fun e => by have := Option.some.inj e; omega), W.blk, ho.gb hg (fun k hk => by have := Option.some.inj hk; omega), hn⟩
/-- The list beside it is no row of open's. -/
def Apt (w0 : World) (d : Ad) (r : Rw Int) (ov : Value) : Prop := r.len = 0 ∨ ((r.b < w0.heap.size ∨ d.O < r.b) ∧ ∀ k, ov.ownBlock = some k → k ≠ r.b)
theorem Apt.row {w0 : World} {d : Ad} {r : Rw Int} {ov : Value} (h : Apt w0 d r ov) : r.len = 0 ∨ some r.b ≠ ov.ownBlock := h.imp id fun h e => h.2 _ e.symm rfl
theorem Apt.far {w0 : World} {d : Ad} {r : Rw Int} {ov : Value} (h : Apt w0 d r ov) {B : Nat} (h1 : w0.heap.size ≤ B) (h2 : B ≤ d.O) : r.len = 0 ∨ some r.b ≠ some B := h.imp id fun h e => by have := Option.some.inj e; have := h.1; omega
theorem Apt.to {w0 : World} {d : Ad} {r : Rw Int} {ov ov' : Value} {u : World} {g : Nat} (h : Apt w0 d r ov) (hr : NmAt u r) (hv : ov'.ownBlock = some g) (hg : ov.ownBlock = some g ∨ u.heap.size ≤ g) : Apt w0 d r ov' := by
  by_cases e : r.len = 0
  · exact Or.inl e
  · refine Or.inr ⟨(h.resolve_left e).1, fun k hk => ?_⟩
    have hkg : g = k := Option.some.inj (hv.symm.trans hk)
    subst hkg
    rcases hg with hg | hg
    · exact (h.resolve_left e).2 _ hg
    · have h0 := hr.row 0 (by omega) 0 _ rfl
      have h1 : r.b < u.heap.size := World.block_lt_of_cell? u _ h0
      omega

set_option maxRecDepth 100000 in
set_option maxHeartbeats 16000000 in
theorem reachMeet_any (w0 : World) (f : Cf) (stop : Int) (d : Ad) (m : Nat → Bool) (ov : Value) (o : List Int) (r : Rw Int) (w : World) (hM : Mr w0 f stop d m ov o w) (hf : f.At w0) (hr : NmAt w r) (hA : Apt w0 d r ov) (hc : o.length + fls m f.cd.len ≤ f.cd.len) (hn : f.cd.len ≤ 100000) :
    Calls Try.prog 36 #[.slice r.ao r.len r.cap, .pointer (some ⟨d.F, 0, none⟩), .pointer (some ⟨d.S, 0, none⟩), .pointer (some ⟨d.M, 0, none⟩), .pointer (some ⟨d.O, 0, none⟩)] w fun e w' => e = .returned (.tuple #[]) ∧ ∃ ov', Mr w0 f stop d (mtL f.cd.len stop r.ls (m, o)).1 ov' (mtL f.cd.len stop r.ls (m, o)).2 w' := by
  have HM := hyd hM
  have HR := hyd (show NmAt w r ∧ Apt w0 d r ov from ⟨hr, hA⟩)
  have HD := hyd hf
  have HC := hyd hc
  have hbd := hr.bound
  have HNIL := hyd hr.nil
  have HL : Hid (∀ k, k < r.len → r.ls.take (k + 1) = r.ls.take k ++ [r.x k]) := fun k hk => by
    rw [List.take_succ_eq_append_getElem (by rw [r.ls_len]; exact hk)]
    have := r.ls_get k hk
    rw [List.getElem?_eq_getElem (by rw [r.ls_len]; exact hk)] at this
    rw [Option.some.inj this]
  have HLE : Hid (r.ls.take r.len = r.ls) := by show _ = _; rw [← r.ls_len, List.take_length]
  clear hM hr hA hf hc
  by_cases hz : 0 < r.len
  · rw [HNIL.out hz]
    clear hz
    go_enter Try.func36, Try.ntmps36
    go_wp2
    go_loopw [10] (fun i wr => ∃ (j : Nat) (ov' : Value), j ≤ r.len ∧ i = .int .i64 j ∧ Mr w0 f stop d (mtL f.cd.len stop (r.ls.take j) (m, o)).1 ov' (mtL f.cd.len stop (r.ls.take j) (m, o)).2 wr ∧ (NmAt wr r ∧ Apt w0 d r ov')) (fun i _ => r.len - (intOf i).toNat)
    case atStart => exact ⟨0, ov, Nat.zero_le _, rfl, HM.out, HR.out⟩
    case round =>
      clear HM HR
      obtain ⟨j, ov1, hj, rfl, hM, hR⟩ := hrel
      have HM := hyd hM
      have HR := hyd hR
      clear hM hR
      by_cases hlt : j < r.len
      · as_aux_lemma =>
        have ij : (j : Int) < r.len := by omega
        have HT : Hid (mtL f.cd.len stop (r.ls.take (j + 1)) (m, o) = mt1 f.cd.len stop (mtL f.cd.len stop (r.ls.take j) (m, o)) (r.x j)) := by show _ = _; rw [HL.out j hlt, mtL_app]
        have HCJ : Hid ((mtL f.cd.len stop (r.ls.take j) (m, o)).2.length ≤ 100000) := by
          show _ ≤ _
          have := (mtL_props f.cd.len stop (r.ls.take j) (m, o)).cnt
          have := HC.out
          simp only at *
          omega
        generalize mtL f.cd.len stop (r.ls.take j) (m, o) = s at *
        have r0 := HR.out.1.row j hlt 0 _ rfl
        simp only [Nat.add_zero, Nat.mul_one] at r0
        generalize r.x j = z at *
        have rF := HM.out.bF.range
        have h0 := fplace_any f z wr
        have HP := hyd (Cf.pl_iff (f := f) (a := z))
        generalize f.pl z = pb at *
        go_wp2_with (refine wpList_load_mid rfl 30 (.tmp 1) rfl d.F 0 (by kernel_rfl) f.vs _ rF Try.underlying30 rfl (by kernel_rfl) ?_)
        refine h0.mono ?_
        rintro _ u2 ⟨rfl, hb⟩
        have HM2 := hyd (HM.out.kept hb)
        have HR2 := hyd (show NmAt u2 r ∧ Apt w0 d r ov1 from ⟨HR.out.1.kept hb, HR.out.2⟩)
        clear h0 hb rF HM HR r0
        cases pb
        · have HE : Hid (mtL f.cd.len stop (r.ls.take (j + 1)) (m, o) = s) := by
            show _ = _
            rw [HT.out]; unfold mt1
            rw [if_neg]
            rintro ⟨h1, _⟩
            have := HP.out.2 h1
            simp at this
          go_wp2
          go_roundw
          case rel => exact ⟨j + 1, ov1, by omega, by go_num, by rw [HE.out]; exact HM2.out, HR2.out⟩
          case measure => simp [intOf]; omega
        · have hz1 : 0 ≤ z ∧ z < f.cd.len := HP.out.1 (by simp)
          obtain ⟨q, rfl⟩ : ∃ q : Nat, z = q := ⟨z.toNat, by omega⟩
          have iq : (q : Int) < f.cd.len := hz1.2
          clear hz1 HP
          have cS := HM2.out.bS.cell 0 rfl
          have cM := HM2.out.bM.cell 0 rfl
          have cV := HM2.out.bV.cell q (bvL_get _ (show q < f.cd.len by omega))
          by_cases hst : (q : Int) = stop
          · have e1 : ((q : Int) != stop) = false := by simpa using hst
            have HE : Hid (mtL f.cd.len stop (r.ls.take (j + 1)) (m, o) = s) := by
              show _ = _
              rw [HT.out]; unfold mt1
              rw [if_neg (fun h => h.2.1 hst)]
            clear hst
            go_wp2
            go_roundw
            case rel => exact ⟨j + 1, ov1, by omega, by go_num, by rw [HE.out]; exact HM2.out, HR2.out⟩
            case measure => simp [intOf]; omega
          · have e1 : ((q : Int) != stop) = true := by simpa using hst
            cases hmq : s.1 q
            · have HE : Hid (mtL f.cd.len stop (r.ls.take (j + 1)) (m, o) = (updB s.1 q, s.2 ++ [(q : Int)])) := by
                show _ = _
                rw [HT.out]; unfold mt1
                rw [if_pos ⟨⟨by omega, iq⟩, hst, by rw [Int.toNat_natCast]; exact hmq⟩, Int.toNat_natCast]
              rw [hmq] at cV
              clear hst hmq HT
              go_upto_region 5 with (refine wpList_store1 rfl 4 (.tmp 31) _ rfl rfl d.V q (.bool true) _ _ (by kernel_rfl) rfl (store_one _ _ (by kernel_rfl) rfl rfl _ _) HM2.out.bV (by rw [bvL_len]; omega) ?_; intro w1 W1; have HM3 := hyd (HM2.out.setV W1); have HR3 := hyd (show NmAt w1 r ∧ Apt w0 d r ov1 from ⟨HR2.out.1.gb W1.gb (HR2.out.2.far (by have := HM2.out.ne; omega) (by have := HM2.out.ne; omega)), HR2.out.2⟩); clear W1 HM2 HR2 cS cM cV)
              have cO := HM3.out.bO.cell 0 rfl
              have hsz : d.O + 1 ≤ w1.heap.size := HM3.out.bO.lt
              go_wp2_with (first
                | (at_builtin; refine wpList_app1L rfl _ _ rfl (d.O + 1) ov1 s.2 (q : Int) rfl HM3.out.oi rfl (by have := HCJ.out; omega) hsz ?_; intro g cap w2 h6 g6 l6; have HA4 := hyd (HM3.out.app g6); have HO4 := hyd h6; have HR4 := hyd (show NmAt w2 r ∧ Apt w0 d r (.slice (some ⟨g, 0, none⟩) (s.2.length + 1) cap) from ⟨HR3.out.1.gb g6 HR3.out.2.row, HR3.out.2.to HR3.out.1 rfl l6⟩); have HNE := hyd HM3.out.ne; clear h6 g6 l6 HM3 HR3 cO)
                | (refine wpList_store1 rfl 36 (.tmp 4) (.tmp 35) rfl rfl d.O 0 (.slice (some ⟨g, 0, none⟩) (s.2.length + 1) cap) _ _ (by kernel_rfl) (by kernel_rfl) (store_one _ _ (by kernel_rfl) rfl rfl _ _) HA4.out.2.2.2 (by simp) ?_; intro w3 W3; have HM5 := hyd (Mr.setO HA4.out HNE.out HO4.out W3); have HR5 := hyd (show NmAt w3 r ∧ Apt w0 d r (.slice (some ⟨g, 0, none⟩) (s.2.length + 1) cap) from ⟨HR4.out.1.gb W3.gb (HR4.out.2.far (by have := HNE.out; omega) (Nat.le_refl _)), HR4.out.2⟩); clear W3 HA4 HO4 HR4))
              go_roundw
              case rel => exact ⟨j + 1, _, by omega, by go_num, by rw [HE.out]; exact HM5.out, HR5.out⟩
              case measure => simp [intOf]; omega
            · have HE : Hid (mtL f.cd.len stop (r.ls.take (j + 1)) (m, o) = s) := by
                show _ = _
                rw [HT.out]; unfold mt1
                rw [if_neg (fun h => by have := h.2.2; rw [Int.toNat_natCast, hmq] at this; cases this)]
              rw [hmq] at cV
              clear hst hmq HT
              go_wp2
              go_roundw
              case rel => exact ⟨j + 1, ov1, by omega, by go_num, by rw [HE.out]; exact HM2.out, HR2.out⟩
              case measure => simp [intOf]; omega
      · have e2 : ¬ (j : Int) < r.len := by omega
        have HE : Hid (r.ls.take j = r.ls) := by
          show _ = _
          rw [show j = r.len by omega]; exact HLE.out
        go_wp2
        go_end0
        exact ⟨rfl, ov1, by rw [← HE.out]; exact HM.out⟩
  · have i0 : ¬ (0 : Int) < r.len := by omega
    have HE : Hid (r.ls = []) := by
      apply List.eq_nil_of_length_eq_zero
      rw [r.ls_len]; omega
    clear hz
    go_enter Try.func36, Try.ntmps36
    go_wp2
    go_loopw [10] (fun i wr => i = .int .i64 0 ∧ Mr w0 f stop d m ov o wr) (fun _ _ => 0)
    case atStart => exact ⟨rfl, HM.out⟩
    case round =>
      obtain ⟨rfl, hb⟩ := hrel
      have HB := hyd hb
      clear hb
      go_wp2
      go_end0
      exact ⟨rfl, ov, by rw [HE.out]; exact HB.out⟩
end Go.Proofs.Ytibhcbdofadamaa
