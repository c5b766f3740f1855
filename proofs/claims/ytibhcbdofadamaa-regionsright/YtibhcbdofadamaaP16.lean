/- Layer 16: what the statements say of joins and regions: the mathematics. -/
import Derived.Test.YtibhcbdofadamaaP15
import Derived.Test.YtibhcbdofadamaaP13
import Derived.Deep.LoopGhost
import Derived.Test.YtibhcbdofadamaaP11
import Derived.Deep.DeepCutAuto
import Derived.Deep.CutBlock
import Derived.Test.YtibhcbdofadamaaP1
import Derived.ProofKit
import Derived.Deep.Grids
import Derived.Lib.SmallJoins
import Derived.Test.YtibhcbdofadamaaP4
namespace Go.Proofs.Ytibhcbdofadamaa
open Go Go.RowKit

theorem wsI_place {f : Cf} {g : Rw Bool} {p : Nat} (hp : p < f.cd.len) : f.wsI g p = f.ws g p := by
  unfold Cf.wsI
  rw [if_pos (Cf.pl_iff.2 ⟨by omega, by omega⟩), Int.toNat_natCast]
theorem lvI_place {f : Cf} {g : Rw Bool} {p : Nat} (hp : p < f.cd.len) : f.lvI g p = f.lv g p := by
  unfold Cf.lvI
  rw [Cf.pl_iff.2 ⟨by omega, by omega⟩, Int.toNat_natCast]; rfl
theorem wit_place {f : Cf} {g : Rw Bool} {x : Rn} {p : Nat} (hp : p < f.cd.len) : f.wit g x p ↔ ∀ q : Nat, f.wy g p q → (q : Int) = x.join ∨ (q : Int) ∈ x.ps.ls := by
  unfold Cf.wit
  rw [wsI_place hp]
  constructor
  · intro h q hq; exact h q (ws_mem.2 ⟨q, rfl, hq.2⟩)
  · intro h b hb
    obtain ⟨q, rfl, hq⟩ := ws_mem.1 hb
    exact h q ⟨hp, hq⟩
/-- What is made. -/
structure Md (f : Cf) (g : Rw Bool) (a : Nat) (x : Rn) : Prop where
  at_ : x.at_ = a
  join : x.join = f.jn g a
  ps : x.ps.ls = (Fl.lst f.cd.len (Fl.Rch (f.wy g) (f.wy g a) (f.jn g a))).map fun q : Nat => (q : Int)
theorem Md.mem {f : Cf} {g : Rw Bool} {a : Nat} {x : Rn} (h : Md f g a x) {b : Int} : b ∈ x.ps.ls ↔ ∃ q : Nat, b = q ∧ Fl.Rch (f.wy g) (f.wy g a) (f.jn g a) q := by
  rw [h.ps, mem_lstm]
  constructor
  · rintro ⟨q, e, _, k⟩; exact ⟨q, e, k⟩
  · rintro ⟨q, e, k⟩; exact ⟨q, e, Fl.Rch.lt (fun _ h => h.2.1) (fun _ _ h => h.2.1) k, k⟩
theorem Md.lt {f : Cf} {g : Rw Bool} {a : Nat} {x : Rn} (h : Md f g a x) {i : Nat} (hi : i < x.ps.len) : ∃ q : Nat, x.ps.x i = q ∧ q < f.cd.len ∧ Fl.Rch (f.wy g) (f.wy g a) (f.jn g a) q := by
  obtain ⟨q, e, k⟩ := h.mem.1 (Rw.mem_ls.2 ⟨i, hi, rfl⟩)
  exact ⟨q, e, Fl.Rch.lt (fun _ h => h.2.1) (fun _ _ h => h.2.1) k, k⟩
theorem Md.hold {f : Cf} {g : Rw Bool} (hA : Ag f) {a : Nat} (ha : a < f.cd.len) {x : Rn} (h : Md f g a x) : f.hold g x = 0 := by
  have hpl : f.pl x.at_ = true := by rw [h.at_]; exact Cf.pl_iff.2 ⟨by omega, by omega⟩
  have hjn : ¬ (x.join ≠ -1 ∧ f.pl x.join = false) := by
    rintro ⟨h1, h2⟩
    rw [h.join] at h1 h2
    rcases Cf.jn_cases f g a with ⟨k, _⟩ | ⟨j, k, hj⟩
    · exact h1 k
    · have := hA.jn_place ha hj.1
      rw [k, Cf.pl_iff.2 ⟨by omega, by omega⟩] at h2
      cases h2
  have hw1 : f.wit g x x.at_ := by
    rw [h.at_, wit_place ha]
    intro q hq
    by_cases e : (q : Int) = x.join
    · exact Or.inl e
    · exact Or.inr (h.mem.2 ⟨q, rfl, .base hq (by rw [← h.join]; exact e)⟩)
  have hw2 : ¬ ∃ i, i < x.ps.len ∧ ¬ f.wit g x (x.ps.x i) := by
    rintro ⟨i, hi, k⟩
    obtain ⟨p, e, hp, hR⟩ := h.lt hi
    apply k
    rw [e, wit_place hp]
    intro q hq
    by_cases e2 : (q : Int) = x.join
    · exact Or.inl e2
    · exact Or.inr (h.mem.2 ⟨q, rfl, .step hR hq (by rw [← h.join]; exact e2)⟩)
  unfold Cf.hold
  rw [if_neg (by rintro (k | k); rw [hpl] at k; cases k; exact hjn k), if_neg (fun k => k hw1), if_neg hw2]
  by_cases hj : x.join = -1
  · rw [if_pos hj]
  · rw [if_neg hj, if_neg]
    rw [h.join] at hj
    rcases Cf.jn_cases f g a with ⟨k, _⟩ | ⟨j, k, hJ⟩
    · exact absurd k hj
    · have hal := hJ.1
      rintro (k1 | ⟨i, hi, k1⟩)
      · rw [h.at_, lvI_place ha] at k1
        exact hal.1.1 k1
      · obtain ⟨p, e, hp, hR⟩ := h.lt hi
        rw [e, lvI_place hp] at k1
        rw [k] at hR
        exact (hal.2 p hR).1 k1
theorem Md.ahead {f : Cf} {g : Rw Bool} (hA : Ag f) {a : Nat} {x : Rn} (h : Md f g a x) {b : Int} (hb : b ∈ x.ps.ls) : (a : Int) < b ∧ b ≠ x.join := by
  obtain ⟨q, rfl, k⟩ := h.mem.1 hb
  have h1 := Fl.rch_above (hA.ahd g) k
  have h2 := k.ne
  exact ⟨by omega, by rw [h.join]; exact h2⟩
theorem Cf.jn_ahead {f : Cf} {g : Rw Bool} (hA : Ag f) {a : Nat} (ha : a < f.cd.len) : f.jn g a = -1 ∨ (a : Int) < f.jn g a := by
  rcases Cf.jn_cases f g a with ⟨k, _⟩ | ⟨j, k, hJ⟩
  · exact Or.inl k
  · have := hA.jn_place ha hJ.1
    exact Or.inr (by omega)
/-- Of a region that holds, with a join. -/
theorem least_math {f : Cf} {g : Rw Bool} (hA : Ag f) {x y : Rn} {a : Nat} (ha : x.at_ = a) (hj : x.join ≠ -1) (hp : ∀ i, i < x.ps.len → ∃ p : Nat, x.ps.x i = p ∧ p < f.cd.len ∧ (p : Int) ≠ x.join ∧ (f.ws g p).length ≠ 0) (hh : f.hold g x = 0) (hw : (f.wsI g a).length ≠ 0) (hy : Md f g a y) :
    (y.join ≠ -1 ∧ y.join ≤ x.join) ∧ ∀ b ∈ y.ps.ls, b ∈ x.ps.ls := by
  have h0 := hh
  unfold Cf.hold at h0
  by_cases c1 : f.pl x.at_ = false ∨ (x.join ≠ -1 ∧ f.pl x.join = false)
  · rw [if_pos c1] at h0; omega
  rw [if_neg c1] at h0
  by_cases c2 : ¬ f.wit g x x.at_
  · rw [if_pos c2] at h0; omega
  rw [if_neg c2] at h0
  by_cases c3 : ∃ i, i < x.ps.len ∧ ¬ f.wit g x (x.ps.x i)
  · rw [if_pos c3] at h0; omega
  rw [if_neg c3, if_neg hj] at h0
  by_cases c4 : f.lvI g x.at_ = true ∨ ∃ i, i < x.ps.len ∧ f.lvI g (x.ps.x i) = true
  · rw [if_pos c4] at h0; omega
  have hal : a < f.cd.len := by
    by_cases e : f.pl x.at_ = true
    · have := Cf.pl_iff.1 e; rw [ha] at this; omega
    · exact absurd (Or.inl (by simpa using e)) c1
  obtain ⟨k, hk⟩ : ∃ k : Nat, x.join = k := by
    have : f.pl x.join = true := by
      by_cases e : f.pl x.join = true
      · exact e
      · exact absurd (Or.inr ⟨hj, by simpa using e⟩) c1
    have := Cf.pl_iff.1 this
    exact ⟨x.join.toNat, by omega⟩
  have w1 : ∀ q, f.wy g a q → (q : Int) ∈ x.ps.ls ∨ q = k := fun q hq => by
    have h1 : f.wit g x a := by
      by_cases e : f.wit g x x.at_
      · rw [ha] at e; exact e
      · exact absurd e c2
    rcases (wit_place hal).1 h1 q hq with h | h
    · exact Or.inr (by omega)
    · exact Or.inl h
  have hpm : ∀ p : Nat, (p : Int) ∈ x.ps.ls → ∃ i, i < x.ps.len ∧ x.ps.x i = p ∧ p < f.cd.len ∧ (f.ws g p).length ≠ 0 := fun p hm => by
    obtain ⟨i, hi, e⟩ := Rw.mem_ls.1 hm
    obtain ⟨p', e', h1, _, h3⟩ := hp i hi
    have : p = p' := by omega
    subst this
    exact ⟨i, hi, e, h1, h3⟩
  have w2 : ∀ p q : Nat, (p : Int) ∈ x.ps.ls → f.wy g p q → (q : Int) ∈ x.ps.ls ∨ q = k := fun p q hm hq => by
    obtain ⟨i, hi, e, h1, _⟩ := hpm p hm
    have h2 : f.wit g x (x.ps.x i) := by
      by_cases e : f.wit g x (x.ps.x i)
      · exact e
      · exact absurd ⟨i, hi, e⟩ c3
    rw [e] at h2
    rcases (wit_place h1).1 h2 q hq with h | h
    · exact Or.inr (by omega)
    · exact Or.inl h
  have a0 : Fl.Alive (f.wy g) (f.lvP g) a := (alive_iff hal).2 ⟨by
    cases hv : f.lv g a
    · rfl
    · exact absurd (Or.inl (by rw [ha, lvI_place hal]; exact hv)) c4, by rw [wsI_place hal] at hw; exact hw⟩
  have a1 : ∀ p : Nat, (p : Int) ∈ x.ps.ls → Fl.Alive (f.wy g) (f.lvP g) p := fun p hm => by
    obtain ⟨i, hi, e, h1, h2⟩ := hpm p hm
    refine (alive_iff h1).2 ⟨?_, h2⟩
    cases hv : f.lv g p
    · rfl
    · exact absurd (Or.inr ⟨i, hi, by rw [e, lvI_place h1]; exact hv⟩) c4
  have hJ : Fl.Jn (f.wy g) (f.lvP g) a k := Fl.jn_of_holds (R := fun p => (p : Int) ∈ x.ps.ls) a0 w1 w2 a1
  obtain ⟨j, hj2, hle⟩ := Fl.exists_isJ hJ
  have hjn := Cf.jn_of hj2
  refine ⟨by rw [hy.join, hjn]; exact ⟨by omega, by omega⟩, fun b hb => ?_⟩
  obtain ⟨q, rfl, hR⟩ := hy.mem.1 hb
  rw [hjn] at hR
  exact Fl.places_of_holds (R := fun p => (p : Int) ∈ x.ps.ls) (hA.ahd g) hj2.1 hle w1 w2 hR
/-- One way: that is the join, and there are no places; none, or it leaves: no join. -/
theorem one_math {f : Cf} {g : Rw Bool} (hA : Ag f) {a b : Nat} {x : Rn} (ha : a < f.cd.len) (hx : Md f g a x) (hl : f.lv g a = false) (hw : f.ws g a = [(b : Int)]) : x.join = b ∧ x.ps.len = 0 := by
  have hb : f.wy g a b := by
    obtain ⟨q, e, k⟩ := ws_mem.1 (show (b : Int) ∈ f.ws g a by rw [hw]; simp)
    have : b = q := by omega
    subst this; exact ⟨ha, k⟩
  have h1 : ∀ q, f.wy g a q → q = b := fun q hq => by
    have : (q : Int) ∈ f.ws g a := ws_mem.2 ⟨q, rfl, hq.2⟩
    rw [hw] at this
    have : (q : Int) = b := by simpa using this
    omega
  have hj := Cf.jn_of (Fl.isJ_one (hA.ahd g) (L := f.lvP g) (by unfold Cf.lvP; simp [hl]) hb h1)
  refine ⟨by rw [hx.join, hj], ?_⟩
  rcases Nat.eq_zero_or_pos x.ps.len with h | h
  · exact h
  · obtain ⟨q, _, _, hR⟩ := hx.lt h
    rw [hj] at hR
    exact absurd hR (Fl.rch_one h1)
theorem none_math {f : Cf} {g : Rw Bool} {a : Nat} {x : Rn} (ha : a < f.cd.len) (hx : Md f g a x) (h : f.lv g a = true ∨ (f.ws g a).length = 0) : x.join = -1 := by
  rw [hx.join]
  refine Cf.jn_none (fun j hj => ?_)
  have := (alive_iff ha).1 hj.1
  rcases h with h | h
  · rw [h] at this; cases this.1
  · exact this.2 h
end Go.Proofs.Ytibhcbdofadamaa

/- Layer 16: joins found from the back: the mathematics. -/
namespace Go.Proofs.Ytibhcbdofadamaa
open Go Go.RowKit

/-- k is met from the number x; from what is no place nothing is. -/
def Cf.mts (f : Cf) (g : Rw Bool) (x : Int) (k : Nat) : Prop := ∃ p : Nat, x = p ∧ Fl.Meets (f.wy g) (f.lvP g) k p
theorem Cf.mts_none {f : Cf} {g : Rw Bool} {k : Nat} : ¬ f.mts g (-1) k := by rintro ⟨p, e, _⟩; omega
theorem Cf.mts_self {f : Cf} {g : Rw Bool} {k : Nat} : f.mts g k k := ⟨k, rfl, .here⟩
theorem Cf.mts_nat {f : Cf} {g : Rw Bool} {p k : Nat} : f.mts g p k ↔ Fl.Meets (f.wy g) (f.lvP g) k p := by
  constructor
  · rintro ⟨q, e, h⟩
    have : p = q := by omega
    subst this; exact h
  · intro h; exact ⟨p, rfl, h⟩
/-- Ways go ahead. -/
def Up (f : Cf) (g : Rw Bool) : Prop := Fl.Ahd f.cd.len (f.wy g)
theorem Cf.mts_le {f : Cf} {g : Rw Bool} (hA : Up f g) {x : Int} {k : Nat} (h : f.mts g x k) : 0 ≤ x ∧ x ≤ k := by
  obtain ⟨p, rfl, h⟩ := h
  have := h.le hA
  omega
theorem Up.jn_place {f : Cf} {g : Rw Bool} (hA : Up f g) {a j : Nat} (ha : a < f.cd.len) (hj : f.Jp g a j) : a < j ∧ j < f.cd.len := ⟨Fl.Jn.lt hA hj, Fl.Jn.place hA ha hj⟩
theorem Up.jn_in {f : Cf} {g : Rw Bool} (hA : Up f g) {p : Nat} (hp : p < f.cd.len) : f.jn g p = -1 ∨ ((p : Int) < f.jn g p ∧ f.jn g p < f.cd.len) := by
  rcases Cf.jn_cases f g p with ⟨k, _⟩ | ⟨j, k, hj⟩
  · exact Or.inl k
  · have := hA.jn_place hp hj.1
    exact Or.inr (by omega)
theorem Cf.mts_step {f : Cf} {g : Rw Bool} (hA : Up f g) {p k : Nat} : f.mts g p k ↔ k = p ∨ f.mts g (f.jn g p) k := by
  rw [Cf.mts_nat]
  rcases Cf.jn_cases f g p with ⟨e, h⟩ | ⟨j, e, h⟩
  · rw [e, Fl.meets_none hA h]
    constructor
    · exact Or.inl
    · rintro (h1 | h1)
      · exact h1
      · exact absurd h1 Cf.mts_none
  · rw [e, Fl.meets_join hA h, Cf.mts_nat]
/-- Where the closure stands: what is met from both is what is met from a and from b. -/
structure Mt2 (f : Cf) (g : Rw Bool) (lo : Nat) (a b x y : Int) : Prop where
  inx : x = -1 ∨ ((lo : Int) ≤ x ∧ x < f.cd.len)
  iny : y = -1 ∨ ((lo : Int) ≤ y ∧ y < f.cd.len)
  eq : ∀ k, (f.mts g x k ∧ f.mts g y k) ↔ (f.mts g a k ∧ f.mts g b k)
/-- What it answers. -/
structure MtR (f : Cf) (g : Rw Bool) (lo : Nat) (a b z : Int) : Prop where
  inz : z = -1 ∨ ((lo : Int) ≤ z ∧ z < f.cd.len)
  eq : ∀ k, f.mts g z k ↔ (f.mts g a k ∧ f.mts g b k)
theorem Mt2.same {f : Cf} {g : Rw Bool} {lo : Nat} {a b x : Int} (h : Mt2 f g lo a b x x) : MtR f g lo a b x := ⟨h.inx, fun k => by rw [← h.eq]; exact ⟨fun h => ⟨h, h⟩, fun h => h.1⟩⟩
theorem Mt2.none {f : Cf} {g : Rw Bool} {lo : Nat} {a b x y : Int} (h : Mt2 f g lo a b x y) (hn : x = -1 ∨ y = -1) : MtR f g lo a b (-1) := ⟨Or.inl rfl, fun k => by
  rw [← h.eq]
  constructor
  · intro h; exact absurd h Cf.mts_none
  · rintro ⟨h1, h2⟩
    rcases hn with rfl | rfl
    · exact absurd h1 Cf.mts_none
    · exact absurd h2 Cf.mts_none⟩
theorem Mt2.left {f : Cf} {g : Rw Bool} (hA : Up f g) {lo : Nat} {a b y : Int} {p : Nat} (h : Mt2 f g lo a b p y) (hlt : (p : Int) < y) : Mt2 f g lo a b (f.jn g p) y := by
  have hp : (lo : Int) ≤ p ∧ p < f.cd.len := by
    rcases h.inx with h1 | h1 <;> omega
  refine ⟨?_, h.iny, fun k => ?_⟩
  · rcases hA.jn_in hp.2 with h1 | h1
    · exact Or.inl h1
    · exact Or.inr (by omega)
  · rw [← h.eq, Cf.mts_step hA (p := p)]
    constructor
    · rintro ⟨h1, h2⟩; exact ⟨Or.inr h1, h2⟩
    · rintro ⟨h1, h2⟩
      have := Cf.mts_le hA h2
      exact ⟨h1.resolve_left (by omega), h2⟩
theorem Mt2.right {f : Cf} {g : Rw Bool} (hA : Up f g) {lo : Nat} {a b x : Int} {p : Nat} (h : Mt2 f g lo a b x p) (hlt : (p : Int) < x) : Mt2 f g lo a b x (f.jn g p) := by
  have hp : (lo : Int) ≤ p ∧ p < f.cd.len := by
    rcases h.iny with h1 | h1 <;> omega
  refine ⟨h.inx, ?_, fun k => ?_⟩
  · rcases hA.jn_in hp.2 with h1 | h1
    · exact Or.inl h1
    · exact Or.inr (by omega)
  · rw [← h.eq, Cf.mts_step hA (p := p)]
    constructor
    · rintro ⟨h1, h2⟩; exact ⟨h1, Or.inr h2⟩
    · rintro ⟨h1, h2⟩
      have := Cf.mts_le hA h1
      exact ⟨h1, h2.resolve_left (by omega)⟩
/-- What is left to do. -/
def mtM (n : Nat) (x : Int) : Nat := if x = -1 then 0 else ((n : Int) - x).toNat + 1
theorem mtM_lt {f : Cf} {g : Rw Bool} (hA : Up f g) {p : Nat} (hp : p < f.cd.len) : mtM f.cd.len (f.jn g p) < mtM f.cd.len p := by
  unfold mtM
  rw [if_neg (show ¬ (p : Int) = -1 by omega)]
  rcases hA.jn_in hp with h | h
  · rw [if_pos h]; omega
  · rw [if_neg (by omega)]; omega
/-- All ways of a place, one behind the other. -/
structure Mw (f : Cf) (g : Rw Bool) (lo : Nat) (l : List Int) (z : Int) : Prop where
  inz : z = -1 ∨ ((lo : Int) ≤ z ∧ z < f.cd.len)
  eq : ∀ k, f.mts g z k ↔ ∀ b ∈ l, f.mts g b k
theorem Mw.one {f : Cf} {g : Rw Bool} {lo : Nat} {a : Int} (h : (lo : Int) ≤ a ∧ a < f.cd.len) : Mw f g lo [a] a := ⟨Or.inr h, fun k => by simp⟩
theorem Mw.more {f : Cf} {g : Rw Bool} {lo : Nat} {l : List Int} {a b z : Int} (h : Mw f g lo l a) (hz : MtR f g lo a b z) : Mw f g lo (l ++ [b]) z := ⟨hz.inz, fun k => by
  rw [hz.eq, h.eq]
  constructor
  · rintro ⟨h1, h2⟩ c hc
    rcases List.mem_append.1 hc with h3 | h3
    · exact h1 c h3
    · have : c = b := by simpa using h3
      rw [this]; exact h2
  · intro h1
    exact ⟨fun c hc => h1 c (List.mem_append.2 (Or.inl hc)), h1 b (List.mem_append.2 (Or.inr (by simp)))⟩⟩
theorem Mw.done {f : Cf} {g : Rw Bool} (hA : Up f g) {p lo : Nat} {z : Int} (hp : p < f.cd.len) (hl : f.lv g p = false) (hne : (f.ws g p).length ≠ 0) (h : Mw f g lo (f.ws g p) z) : f.jn g p = z := by
  have hal := (alive_iff (g := g) hp).2 ⟨hl, hne⟩
  have key : ∀ k, f.Jp g p k ↔ f.mts g z k := fun k => by
    unfold Cf.Jp
    rw [Fl.jn_iff hA, h.eq]
    constructor
    · rintro ⟨_, h1⟩ b hb
      obtain ⟨q, rfl, hq⟩ := ws_mem.1 hb
      exact ⟨q, rfl, h1 q ⟨hp, hq⟩⟩
    · intro h1
      refine ⟨hal, fun q hq => ?_⟩
      exact Cf.mts_nat.1 (h1 q (ws_mem.2 ⟨q, rfl, hq.2⟩))
  rcases h.inz with rfl | hz
  · exact Cf.jn_none (fun j hj => Cf.mts_none ((key j).1 hj))
  · obtain ⟨q, rfl⟩ : ∃ q : Nat, z = q := ⟨z.toNat, by omega⟩
    refine Cf.jn_of ⟨(key q).2 Cf.mts_self, fun i hi => ?_⟩
    have := Cf.mts_le hA ((key i).1 hi)
    omega
theorem jn_dead {f : Cf} {g : Rw Bool} {a : Nat} (ha : a < f.cd.len) (h : f.lv g a = true ∨ (f.ws g a).length = 0) : f.jn g a = -1 := by
  refine Cf.jn_none (fun j hj => ?_)
  have := (alive_iff ha).1 hj.1
  rcases h with h | h
  · rw [h] at this; cases this.1
  · exact this.2 h
end Go.Proofs.Ytibhcbdofadamaa

/- Layer 16: where two places' joins meet: the closure of joins. -/
namespace Go.Proofs.Ytibhcbdofadamaa
open Go Go.RowKit

/-- The joins that are known: all from lo on. -/
def JK (f : Cf) (g : Rw Bool) (lo : Nat) (J : Nat → Int) : Prop := ∀ p, lo ≤ p → p < f.cd.len → J p = f.jn g p
def MeP (f : Cf) (g : Rw Bool) (lo : Nat) (a b : Int) (w : World) : Ending → World → Prop := fun e w' => ∃ z : Int, e = .returned (.int .i64 z) ∧ MtR f g lo a b z ∧ Below w.heap.size w w'
set_option maxRecDepth 100000 in
set_option maxHeartbeats 8000000 in
theorem joinsMeet_any (f : Cf) (g : Rw Bool) (lo BL BV : Nat) (J : Nat → Int) (a b : Int) (w : World) (hA : Up f g) (hJ : JK f g lo J) (hL : Blk w BL [.slice (some ⟨BV, 0, none⟩) f.cd.len f.cd.len] 36) (hV : Blk w BV (nvL J f.cd.len) 3)
    (ha : a = -1 ∨ ((lo : Int) ≤ a ∧ a < f.cd.len)) (hb : b = -1 ∨ ((lo : Int) ≤ b ∧ b < f.cd.len)) : Calls Try.prog 42 #[.int .i64 a, .int .i64 b, .pointer (some ⟨BL, 0, none⟩)] w (MeP f g lo a b w) := by
  have H1 := hyd (show (Up f g ∧ JK f g lo J) ∧ Mt2 f g lo a b a b from ⟨⟨hA, hJ⟩, ha, hb, fun k => Iff.rfl⟩)
  have HB := hyd (show Blk w BL [.slice (some ⟨BV, 0, none⟩) f.cd.len f.cd.len] 36 ∧ Blk w BV (nvL J f.cd.len) 3 from ⟨hL, hV⟩)
  have HR : Hid (∀ z, MtR f g lo a b z → MeP f g lo a b w (.returned (.int .i64 z)) w) := fun z hz => ⟨z, rfl, hz, Below.refl _ _⟩
  clear hA hJ hL hV ha hb
  go_enter Try.func42, Try.ntmps42
  go_wp2
  go_loopg [0, 1] (mtM f.cd.len a + mtM f.cd.len b) (fun k x y wr => ∃ x' y' : Int, x = .int .i64 x' ∧ y = .int .i64 y' ∧ Mt2 f g lo a b x' y' ∧ mtM f.cd.len x' + mtM f.cd.len y' ≤ k ∧ wr = w)
  case atStart => exact ⟨a, b, rfl, rfl, H1.out.2, Nat.le_refl _, rfl⟩
  case round =>
    obtain ⟨x, y, rfl, rfl, hM, hk, rfl⟩ := hrel
    have HM := hyd hM
    have HK := hyd hk
    have H2 := hyd H1.out.1
    clear hM hk H1
    by_cases e : x = y
    · subst e
      have e1 : (x != x) = false := by simp
      go_wp2
      go_ret
      exact HR.out _ HM.out.same
    · have e1 : (x != y) = true := by simpa using e
      by_cases e2 : x = -1 ∨ y = -1
      · have e3 : (min x y == -1) = true := by
          have h1 := HM.out.inx
          have h2 := HM.out.iny
          simp; omega
        have HE := hyd (HM.out.none e2)
        clear e2 e
        go_wp2
        go_ret
        exact HR.out _ HE.out
      · have hx : (lo : Int) ≤ x ∧ x < f.cd.len := HM.out.inx.resolve_left (fun h => e2 (Or.inl h))
        have hy : (lo : Int) ≤ y ∧ y < f.cd.len := HM.out.iny.resolve_left (fun h => e2 (Or.inr h))
        have e3 : (min x y == -1) = false := by simp; omega
        obtain ⟨p, rfl⟩ : ∃ p : Nat, x = p := ⟨x.toNat, by omega⟩
        obtain ⟨q, rfl⟩ : ∃ q : Nat, y = q := ⟨y.toNat, by omega⟩
        have cL := HB.out.1.cell 0 rfl
        by_cases hlt : p < q
        · have il : (p : Int) < q := by omega
          have ip : (p : Int) < f.cd.len := hx.2
          have cV := HB.out.2.cell p (nvL_get J (by omega))
          have HE : Hid (Mt2 f g lo a b (J p) q ∧ mtM f.cd.len (J p) + mtM f.cd.len q < gk) := by
            show _ ∧ _
            rw [H2.out.2 p (by omega) (by omega)]
            exact ⟨HM.out.left H2.out.1 il, by have := mtM_lt H2.out.1 (p := p) (by omega); have := HK.out; omega⟩
          clear HM HK hx hy e e2
          generalize J p = z at *
          go_wp2
          go_roundg (mtM f.cd.len z + mtM f.cd.len q)
          case measure => exact HE.out.2
          case rel => exact ⟨z, q, rfl, rfl, HE.out.1, Nat.le_refl _, rfl⟩
        · have il : ¬ (p : Int) < q := by omega
          have il2 : (q : Int) < p := by omega
          have iq : (q : Int) < f.cd.len := hy.2
          have cV := HB.out.2.cell q (nvL_get J (by omega))
          have HE : Hid (Mt2 f g lo a b p (J q) ∧ mtM f.cd.len p + mtM f.cd.len (J q) < gk) := by
            show _ ∧ _
            rw [H2.out.2 q (by omega) (by omega)]
            exact ⟨HM.out.right H2.out.1 il2, by have := mtM_lt H2.out.1 (p := q) (by omega); have := HK.out; omega⟩
          clear HM HK hx hy e e2
          generalize J q = z at *
          go_wp2
          go_roundg (mtM f.cd.len p + mtM f.cd.len z)
          case measure => exact HE.out.2
          case rel => exact ⟨p, z, rfl, rfl, HE.out.1, Nat.le_refl _, rfl⟩
end Go.Proofs.Ytibhcbdofadamaa

/- Layer 16: what is a place; which functions go ahead; what is looked at. -/
namespace Go.Proofs.Ytibhcbdofadamaa
open Go Go.RowKit

/-- alloc, an assignment, store. -/
theorem wpList_newA {ops : Array Oper} {rest : List Oper} {o1 o2 o3 : Oper} {a : Act} {w : World} {Q : Exit → Act → World → Prop} (hg1 : o1.guard = none) (hg2 : o2.guard = none) (hg3 : o3.guard = none) (ty : TypeId) (h1 : o1.op = .alloc ty) (z : Operand) (h2 : o2.op = .assign z) (x y : Operand) (h3 : o3.op = .store ty x y)
    (zs : List Value) (hz : (Instr.alloc ty true (.tuple #[])).run Try.prog w = .ok (.pointer (some ⟨w.heap.size, 0, none⟩)) (w.alloc (.cells zs.toArray ty))) (hd3 : o3.dst = none)
    (v : Value) (hv : (a.put o1.dst (.pointer (some ⟨w.heap.size, 0, none⟩))).eval z = v)
    (cells : Array Value) (hx : ((a.put o1.dst (.pointer (some ⟨w.heap.size, 0, none⟩))).put o2.dst v).eval x = .pointer (some ⟨w.heap.size, 0, none⟩)) (hy : ((a.put o1.dst (.pointer (some ⟨w.heap.size, 0, none⟩))).put o2.dst v).eval y = .agg cells)
    (hl : zs.length = cells.size) (hi : (Try.prog.info? ty).map (·.size) = some cells.size) (hc : cells.all (·.oneCell') = true)
    (h : wpList Try.prog ops Q rest ((a.put o1.dst (.pointer (some ⟨w.heap.size, 0, none⟩))).put o2.dst v) (w.alloc (.cells cells ty))) : wpList Try.prog ops Q (o1 :: o2 :: o3 :: rest) a w := by
  refine wpList_plain hg1 fun _ hK => ?_
  unfold Oper.wp execOp
  simp only [h1, Sem.run_bind, hz, Result.andThen_ok, Sem.run_pure]
  refine hK _ _ ?_
  refine wpList_plain hg2 fun _ hK2 => ?_
  unfold Oper.wp execOp
  simp only [h2, Sem.run_pure]
  refine hK2 _ _ ?_
  rw [hv]
  refine wpList_store_mid hg3 ty x y h3 w.heap.size 0 cells hx hy (fun j hj => ⟨?_, ?_⟩) hi hc ?_
  · have : j < zs.length := by omega
    show ((w.alloc (.cells zs.toArray ty)).cell? ⟨w.heap.size, 0 + j, none⟩).isSome = true
    simp [this]
  · simp
  · have k := setCells_new w ty cells.toList [] zs (by simpa using hl)
    simp only [List.nil_append, List.length_nil] at k
    rw [k, hd3]
    exact h
set_option maxHeartbeats 4000000 in
theorem gplace_any (f : Cf) (a : Int) (w : World) : Calls Try.prog 25 #[.agg f.vs.toArray, .int .i64 a] w fun e w' => e = .returned (.bool (f.pl a)) ∧ Below w.heap.size w w' := by
  have B0 := hyd (below_alloc w (.cells f.vs.toArray 30))
  have b := Blk.new w f.vs 30
  have c14 := b.cell 14 rfl
  have HF : Hid (f.pl a = (decide (0 ≤ a) && decide (a < f.cd.len))) := rfl
  generalize f.pl a = F at *
  generalize f.vs.toArray = V at *
  clear b
  by_cases h1 : 0 ≤ a
  · by_cases h2 : a < f.cd.len
    · have HG : Hid (F = true) := by show _ = _; rw [HF.out, decide_eq_true h1, decide_eq_true h2]; rfl
      go_enter Try.func25, Try.ntmps25
      go_wp2
      go_ret
      exact ⟨ret_bool HG.out.symm, B0.out⟩
    · have HG : Hid (F = false) := by show _ = _; rw [HF.out, decide_eq_true h1, decide_eq_false h2]; rfl
      go_enter Try.func25, Try.ntmps25
      go_wp2
      go_ret
      exact ⟨ret_bool HG.out.symm, B0.out⟩
  · have HG : Hid (F = false) := by show _ = _; rw [HF.out, decide_eq_false h1]; rfl
    go_enter Try.func25, Try.ntmps25
    go_wp2
    go_ret
    exact ⟨ret_bool HG.out.symm, B0.out⟩

/-- All jumps and handlers go ahead, and there are few instructions. -/
structure Agd (f : Cf) : Prop where
  jmp : ∀ i, i < f.cd.len → (f.cd.x i).op = 24 ∨ (f.cd.x i).op = 25 → (i : Int) < (f.cd.x i).a
  han : ∀ i, i < f.hd.len → (f.hd.x i).to ≤ (f.hd.x i).at_
  few : f.cd.len ≤ 2000

set_option maxRecDepth 100000 in
set_option maxHeartbeats 8000000 in
theorem goesAhead_yes (f : Cf) (w : World) (hf : f.At w) (hA : Agd f) : Calls Try.prog 21 #[.agg f.vs.toArray] w fun e w' => e = .returned (.bool true) ∧ Below w.heap.size w w' := by
  have H2 := hyd (Fx.new w f hf)
  have hbd := hf.cd.bound
  have hbd2 := hf.hd.bound
  have HNC := hyd hf.cd.nil
  have HNH := hyd hf.hd.nil
  have HA := hyd hA
  have hfew : (f.cd.len : Int) ≤ 2000 := by have := hA.few; omega
  clear hf hA
  generalize hw : w.alloc (.cells f.vs.toArray 30) = u2 at *
  go_enter Try.func21, Try.ntmps21
  go_upto_region 1 with fail
  clear hw
  have c14 := H2.out.b.cell 14 rfl
  have n1 : ¬ (2000 : Int) < f.cd.len := by omega
  go_upto_region 3 with fail
  go_upto_block 0 with fail
  clear n1
  go_cut [15] (fun _ wx => Hid (Fx w f w.heap.size wx))
  case first =>
    go_wp2_with fail
    go_loopw [15] (fun i wr => ∃ (j : Nat), j ≤ f.cd.len ∧ i = .int .i64 j ∧ Fx w f w.heap.size wr) (fun i _ => f.cd.len - (intOf i).toNat)
    case atStart => exact ⟨0, Nat.zero_le _, rfl, H2.out⟩
    case round =>
      clear H2 c14
      obtain ⟨j, hj, rfl, hB⟩ := hrel
      have HB := hyd hB
      clear hB
      by_cases hlt : j < f.cd.len
      · have ij : (j : Int) < f.cd.len := by omega
        have r0 := HB.out.f.cd.row j hlt
        have HJ := hyd (HA.out.jmp j hlt)
        rw [HNC.out (by omega)]
        generalize f.cd.x j = x at *
        go_upto_region 6 with (first | (refine wpList_load_mid rfl 50 (.tmp 18) rfl f.cd.b (f.cd.o + j * 7) (by kernel_rfl) x.vs _ r0 Try.underlying50 rfl (by kernel_rfl) ?_) | (refine wpList_newA rfl rfl rfl 50 rfl (.tmp 17) rfl (.tmp 4) (.tmp 19) rfl z_ins (alloc_ins _) rfl (.int .i64 j) (by kernel_rfl) x.vs.toArray (by kernel_rfl) (by kernel_rfl) rfl (by kernel_rfl) (by simpa using x.vs_one) ?_))
        have B1 := below_alloc wr (.cells x.vs.toArray 50)
        have HU := hyd (show Fx w f w.heap.size (wr.alloc (.cells x.vs.toArray 50)) ∧ Blk _ wr.heap.size x.vs 50 from ⟨HB.out.kept B1, Blk.new wr _ _⟩)
        clear r0 HB B1
        generalize wr.alloc (.cells x.vs.toArray 50) = U at *
        generalize wr.heap.size = BX at *
        have d0 := HU.out.2.cell 0 rfl
        have d1 := HU.out.2.cell 1 rfl
        generalize x.op = op at *
        generalize x.a = xa at *
        by_cases k1 : op = 24
        · have k2 : (j : Int) < xa := HJ.out (Or.inl k1)
          have k3 : ¬ xa ≤ (j : Int) := by omega
          have k4 : (0 : Int) ≤ xa := by omega
          subst k1
          clear k2
          go_wp2
          go_roundw
          case rel => exact ⟨j + 1, by omega, by go_num, HU.out.1⟩
          case measure => simp [intOf]; omega
        · by_cases k5 : op = 25
          · have k2 : (j : Int) < xa := HJ.out (Or.inr k5)
            have k3 : ¬ xa ≤ (j : Int) := by omega
            have k4 : (0 : Int) ≤ xa := by omega
            subst k5
            clear k2 k1
            go_wp2
            go_roundw
            case rel => exact ⟨j + 1, by omega, by go_num, HU.out.1⟩
            case measure => simp [intOf]; omega
          · have e1 : (op == 24) = false := by simpa using k1
            have e2 : (op == 25) = false := by simpa using k5
            clear k1 k5
            go_wp2
            go_roundw
            case rel => exact ⟨j + 1, by omega, by go_num, HU.out.1⟩
            case measure => simp [intOf]; omega
      · have ij : ¬ (j : Int) < f.cd.len := by omega
        go_wp2
        go_meet
        case rel => exact HB.out
  case rest =>
  have H3 := hyd hcut.out
  clear hcut H2 c14
  have c15 := H3.out.b.cell 15 rfl
  go_wp2
  clear c15
  go_loopw [44] (fun i wr => ∃ (j : Nat), j ≤ f.hd.len ∧ i = .int .i64 j ∧ Fx w f w.heap.size wr) (fun i _ => f.hd.len - (intOf i).toNat)
  case atStart => exact ⟨0, Nat.zero_le _, rfl, H3.out⟩
  case round =>
    clear H3
    obtain ⟨j, hj, rfl, hB⟩ := hrel
    have HB := hyd hB
    clear hB
    by_cases hlt : j < f.hd.len
    · have ij : (j : Int) < f.hd.len := by omega
      have r0 := HB.out.f.hd.row j hlt
      have HJ := hyd (HA.out.han j hlt)
      rw [HNH.out (by omega)]
      generalize f.hd.x j = x at *
      go_upto_region 13 with (first | (refine wpList_load_mid rfl 52 (.tmp 46) rfl f.hd.b (f.hd.o + j * 3) (by kernel_rfl) x.vs _ r0 Try.underlying52 rfl (by kernel_rfl) ?_) | (refine wpList_new_mid rfl rfl 52 rfl (.tmp 7) (.tmp 47) rfl z_hn (alloc_hn _) rfl x.vs.toArray (by kernel_rfl) (by kernel_rfl) rfl (by kernel_rfl) (by simpa using x.vs_one) ?_))
      have B1 := below_alloc wr (.cells x.vs.toArray 52)
      have HU := hyd (show Fx w f w.heap.size (wr.alloc (.cells x.vs.toArray 52)) ∧ Blk _ wr.heap.size x.vs 52 from ⟨HB.out.kept B1, Blk.new wr _ _⟩)
      clear r0 HB B1
      generalize wr.alloc (.cells x.vs.toArray 52) = U at *
      generalize wr.heap.size = BX at *
      have d2 := HU.out.2.cell 2 rfl
      have rF := HU.out.1.b.range
      have h0 := gplace_any f x.at_ U
      generalize f.pl x.at_ = pb at *
      go_wp2_with (refine wpList_load_mid rfl 30 (.tmp 1) rfl w.heap.size 0 (by kernel_rfl) f.vs _ rF Try.underlying30 rfl (by kernel_rfl) ?_)
      refine h0.mono ?_
      rintro _ u4 ⟨rfl, hb⟩
      have H4 := hyd (show Fx w f w.heap.size u4 ∧ Blk u4 BX x.vs 52 from ⟨HU.out.1.kept hb, HU.out.2.kept hb⟩)
      clear h0 hb HU rF d2
      cases pb
      · go_wp2
        go_roundw
        case rel => exact ⟨j + 1, by omega, by go_num, H4.out.1⟩
        case measure => simp [intOf]; omega
      · have d0 := H4.out.2.cell 0 rfl
        have d1 := H4.out.2.cell 1 rfl
        have d2 := H4.out.2.cell 2 rfl
        have c14 := H4.out.1.b.cell 14 rfl
        have k1 : ¬ max x.fr x.at_ < min x.to f.cd.len := by have := HJ.out; omega
        go_wp2
        go_roundw
        case rel => exact ⟨j + 1, by omega, by go_num, H4.out.1⟩
        case measure => simp [intOf]; omega
    · have ij : ¬ (j : Int) < f.hd.len := by omega
      go_wp2
      go_ret
      exact ⟨rfl, HB.out.bl⟩
end Go.Proofs.Ytibhcbdofadamaa

/- A lattice that comes in, opened into its names and its table. -/
namespace Go.Proofs.Ytibhcbdofadamaa
open Go.ChangeShapes Go.WideShapes Go.ChangeAt Go.RowKit Go.Deep Go.Joins

theorem Try.own : ownKnob Try.prog.godebug = none := by kernel_rfl
theorem Try.laidOut : laidOutB Try.prog = true := by kernel_rfl
theorem Try.cellsString : Try.prog.cellsOf 9 = 1 := by kernel_rfl
theorem Try.cellsBool : Try.prog.cellsOf 4 = 1 := by kernel_rfl
theorem Try.cellsRow : Try.prog.cellsOf 31 = 1 := by kernel_rfl
theorem addr_plain (b off i : Nat) : (⟨b, off, none⟩ : Addr).add i = ⟨b, off + i, none⟩ := by unfold Addr.add; split <;> simp_all

section
variable {H : Type} {enc : TypeId × Value → H} {W : World} {base : Nat}

end
end Go.Proofs.Ytibhcbdofadamaa

/- A type that comes in, opened. -/
namespace Go.Proofs.Ytibhcbdofadamaa
open Go.ChangeShapes Go.WideShapes Go.ChangeAt Go.RowKit Go.Deep Go.Joins

theorem Try.cellsInt' : Try.prog.cellsOf 3 = 1 := by kernel_rfl
theorem Try.cellsTys : Try.prog.cellsOf 22 = 1 := by kernel_rfl
theorem Try.cellsTy : Try.prog.cellsOf 24 = 5 := by kernel_rfl

section
variable {H : Type} {enc : TypeId × Value → H} {W : World} {base : Nat}

def Ty.cs (t : Ty) : List Value := [.int .i64 t.k, .int .i64 t.l, .slice t.ao t.len t.cap, .int .i64 t.h, .int .i64 t.e]

set_option maxRecDepth 100000 in
theorem open_ty : ∀ (fuel : Nat) (cs : List Value) (x : DataW H × List MemPlace), DataW.trod enc Try.prog W base (fun _ => true) true fuel 24 cs = some x → ∃ t : Ty, cs = t.cs ∧ t.At W := by
  intro fuel
  induction fuel using Nat.strongRecOn with
  | _ fuel ih =>
    intro cs x h
    obtain ⟨xs, n, rfl, _, hl, hlen, hf⟩ := DataW.trod_struct Try.underlying24 h
    rw [Try.cellsTy] at hl
    match cs, hl with
    | [c0, c1, c2, c3, c4], _ =>
      have hlen5 : xs.length = 5 := hlen
      match xs, hlen5 with
      | [y0, y1, y2, y3, y4], _ =>
        have f0 : DataW.trod enc Try.prog W base (fun _ => true) true n 3 [c0] = some y0 := by simpa [Try.cellsInt'] using hf 0 _ rfl
        have f1 : DataW.trod enc Try.prog W base (fun _ => true) true n 3 [c1] = some y1 := by simpa [Try.cellsInt'] using hf 1 _ rfl
        have f2 : DataW.trod enc Try.prog W base (fun _ => true) true n 22 [c2] = some y2 := by simpa [Try.cellsTys] using hf 2 _ rfl
        have f3 : DataW.trod enc Try.prog W base (fun _ => true) true n 3 [c3] = some y3 := by simpa [Try.cellsInt'] using hf 3 _ rfl
        have f4 : DataW.trod enc Try.prog W base (fun _ => true) true n 3 [c4] = some y4 := by simpa [Try.cellsInt'] using hf 4 _ rfl
        obtain ⟨k, q0, _⟩ := DataW.trod_int Try.underlying3 f0
        obtain ⟨l, q1, _⟩ := DataW.trod_int Try.underlying3 f1
        obtain ⟨hh, q3, _⟩ := DataW.trod_int Try.underlying3 f3
        obtain ⟨e, q4, _⟩ := DataW.trod_int Try.underlying3 f4
        simp only [List.cons.injEq, and_true] at q0 q1 q3 q4
        subst q0 q1 q3 q4
        rcases DataW.trod_slice Try.underlying22 f2 with ⟨hcs, _⟩ | ⟨a, len, cap, elems, rest, m, hm, hcs, _, _, hlc, hmx, hel, hx, _, _⟩
        · simp only [List.cons.injEq, and_true] at hcs
          subst hcs
          exact ⟨.mk k l hh e none 0 0 0 0 (fun _ => .dm), rfl, ⟨fun h => absurd h (Nat.lt_irrefl _), Nat.zero_le _, fun _ h => absurd h (Nat.not_lt_zero _)⟩⟩
        · simp only [List.cons.injEq, and_true] at hcs
          subst hcs hm
          unfold maxLen at hmx
          have each : ∀ i, i < len → ∃ t : Ty, (∀ j, j < 5 → W.cell? (a.add (i * 5 + j)) = t.cs[j]?) ∧ t.At W := by
            intro i hi
            have h1 := hx i hi
            rw [Try.cellsTy] at h1
            cases hc : W.cells? base (a.add (i * 5)) 5 with
            | none => rw [hc] at h1; simp at h1; omega
            | some cs' =>
              rw [hc] at h1
              have h2 : DataW.trod enc Try.prog W base (fun _ => true) true m 24 cs' = some elems[i] := by
                rw [List.getElem?_eq_getElem (by omega)] at h1
                simpa using h1
              obtain ⟨t, rfl, hA⟩ := ih m (by omega) cs' _ h2
              obtain ⟨_, _, hcell⟩ := World.cells?_some hc
              exact ⟨t, fun j hj => by rw [← hcell j hj, add_add], hA⟩
          have hspot : 0 < len → a = ⟨a.block, a.off, none⟩ := fun hp => by
            obtain ⟨t, ht, _⟩ := each 0 hp
            have hs := World.cell?_spot (a := a.add (0 * 5 + 0)) (v := .int .i64 t.k) (by rw [ht 0 (by omega)]; rfl)
            obtain ⟨ab, ao, asp⟩ := a
            have : asp = none := by simpa [Addr.add] using hs
            subst this; rfl
          refine ⟨.mk k l hh e (some a) a.block a.off len cap (fun i => if h : i < len then Classical.choose (each i h) else .dm), rfl, ⟨fun hp => congrArg some (hspot hp), by omega, fun i hi => ?_⟩⟩
          simp only [dif_pos hi]
          obtain ⟨ht, hA⟩ := Classical.choose_spec (each i hi)
          generalize Classical.choose (each i hi) = t at ht hA
          have ea := hspot (by omega)
          have get : ∀ j, j < 5 → W.cell? ⟨a.block, a.off + i * 5 + j, none⟩ = t.cs[j]? := fun j hj => by
            have := ht j hj
            rw [ea, addr_plain, ← Nat.add_assoc] at this
            exact this
          exact ⟨⟨get 0 (by omega), get 1 (by omega), get 2 (by omega), get 3 (by omega), get 4 (by omega)⟩, hA⟩
set_option maxRecDepth 100000 in
theorem open_type {v : Value} {d : DataW H} {p : List MemPlace} {b0 : Nat} (hv : Value.okWide Try.prog W .any b0 24 v) (h : DataW.Trod enc Try.prog W base (fun _ => true) true 24 v d p) :
    ∃ t : Ty, v = .agg #[.int .i64 t.k, .int .i64 t.l, .slice t.ao t.len t.cap, .int .i64 t.h, .int .i64 t.e] ∧ t.At W := by
  obtain ⟨cs, rfl, _⟩ := okWide_struct Try.underlying24 hv
  obtain ⟨fuel, hf⟩ := h
  obtain ⟨t, ht, hA⟩ := open_ty fuel _ _ hf
  refine ⟨t, ?_, hA⟩
  have : cs.toList = t.cs := by simpa [Value.cells] using ht
  obtain ⟨l⟩ := cs
  have e : l = t.cs := this
  rw [e]; rfl

end
end Go.Proofs.Ytibhcbdofadamaa
