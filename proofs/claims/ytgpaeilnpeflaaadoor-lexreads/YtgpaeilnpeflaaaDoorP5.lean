/- A region that draws its order, whose first operations are quiet in a class of worlds, and whose others all wait for them: the first ones are walked once, then the rest is walked from every world of the class. -/
import Derived.Deep.Quiet
import Derived.OrdersHeld
import Derived.Test.YtgpaeilnpeflaaaDoorP2
import Derived.Deep.OwnRows
import Derived.Deep.RegionWith
namespace Go.Proofs.YtgpaeilnpeflaaaDoor
open Go

section
variable {P : Program} {ops : Array Oper} {md : Region.Mode} {C : World → Prop} {m : Nat} {R : Array Bool → Act → Prop}

/-- Whatever order is picked for the first m. -/
def wpAnyP (P : Program) (md : Region.Mode) (ops : Array Oper) (C : World → Prop) (m : Nat) (R : Array Bool → Act → Prop) : Nat → Array Bool → Act → Prop
  | 0, listed, a => (∀ i ∈ Region.ready md ops listed, ¬ i < m) ∧ R listed a
  | fuel + 1, listed, a => ((∀ i ∈ Region.ready md ops listed, ¬ i < m) → R listed a) ∧
    ∀ i ∈ Region.ready md ops listed, i < m → qOp P ops C i (wpAnyP P md ops C m R fuel (listed.setIfInBounds i true)) a

theorem wpAnyP_first {i : Nat} {oi : Oper} {v : Value} (hi : ops[i]? = some oi) (him : i < m) (hsel : ∀ (j : Nat) (o : Oper) cs b, ops[j]? = some o → o.op ≠ .select cs b) :
    ∀ (fuel : Nat) (listed : Array Bool) (a : Act),
      (∀ j oj, ops[j]? = some oj → j ≠ i → listed.getD j true = false → (∀ e ∈ oj.after, Region.binds md e = true → e.on ≠ i) → oi.apart ops oj = true) →
      i ∈ Region.ready md ops listed → YieldsIn P ops C oi v a →
      wpAnyP P md ops C m R fuel (listed.setIfInBounds i true) (a.put oi.dst v) → wpAnyP P md ops C m R (fuel + 1) listed a := by
  intro fuel
  induction fuel with
  | zero =>
    intro listed a _ hr hy H
    refine ⟨fun h => absurd him (h i hr), fun j hj hjm => ?_⟩
    by_cases hji : j = i
    · subst hji; exact hy.qOp hi H
    · exact absurd hjm (H.1 j (ready_mono hj hji))
  | succ fuel ih =>
    intro listed a hfree hr hy H
    refine ⟨fun h => absurd him (h i hr), fun j hj hjm => ?_⟩
    by_cases hji : j = i
    · subst hji; exact hy.qOp hi H
    · have h1 := H.2 j (ready_mono hj hji) hjm
      obtain ⟨hjun, oj, hoj, hall⟩ := mem_ready.1 hj
      have hnot : ∀ e ∈ oj.after, Region.binds md e = true → e.on ≠ i := fun e he hb heq => by
        have h1 := hall e he hb
        have h0 := (mem_ready.1 hr).1
        rw [heq] at h1
        rcases Nat.lt_or_ge i listed.size with h' | h'
        · simp [h'] at h0 h1; rw [h0] at h1; cases h1
        · simp [Array.getElem?_eq_none h'] at h1
      have h2 := qOp_put hoj (hfree j oj hoj hji hjun hnot) (fun cs b => hsel i oi cs b hi) (fun cs b => hsel j oj cs b hoj) hy h1
      have hfree' : ∀ k ok, ops[k]? = some ok → k ≠ i → (listed.setIfInBounds j true).getD k true = false →
          (∀ e ∈ ok.after, Region.binds md e = true → e.on ≠ i) → oi.apart ops ok = true := fun k ok hk hki hun hno => by
        refine hfree k ok hk hki ?_ hno
        by_cases hjk : j = k
        · subst hjk; exact hjun
        · rw [getD_set_ne true hjk] at hun; exact hun
      refine qOp_mono (fun a' h3 => ih (listed.setIfInBounds j true) a' hfree' (ready_mono hr (Ne.symm hji)) h3.1 ?_) h2
      rw [Array.setIfInBounds_comm _ _ hji]
      exact h3.2

def lexTo (md : Region.Mode) (ops : Array Oper) (m : Nat) : Nat → Nat → Array Bool → Bool
  | 0, _, listed => (Region.ready md ops listed).all fun i => decide (m ≤ i)
  | fuel + 1, k, listed => (Region.ready md ops listed).contains k && decide (k < m) && Region.free md ops listed k && lexTo md ops m fuel (k + 1) (listed.setIfInBounds k true)
def listedTo : Nat → Nat → Array Bool → Array Bool
  | 0, _, l => l
  | fuel + 1, k, l => listedTo fuel (k + 1) (l.setIfInBounds k true)

theorem wpAnyP_lex (hs : Region.noSelect ops = true) : ∀ (l : List Oper) (k : Nat) (listed : Array Bool) (a : Act), (∀ j, j < l.length → l[j]? = ops[k + j]?) →
    lexTo md ops m l.length k listed = true → wpQuiet P ops C (R (listedTo l.length k listed)) l a → wpAnyP P md ops C m R l.length listed a
  | [], _, _, _, _, hB, h => ⟨fun i hi hm => by simp only [List.length_nil, lexTo, List.all_eq_true, decide_eq_true_eq] at hB; have := hB i hi; omega, h⟩
  | o :: l, k, listed, a, hl, hB, h => by
    have h0 : ops[k]? = some o := by simpa using (hl 0 (by simp)).symm
    simp only [List.length_cons, lexTo, Bool.and_eq_true, decide_eq_true_eq] at hB
    obtain ⟨⟨⟨hr, hk⟩, hf⟩, hB'⟩ := hB
    have hst : qOp P ops C k (wpQuiet P ops C (R (listedTo (o :: l).length k listed)) l) a := by unfold qOp; simp only [h0]; exact h
    obtain ⟨v, hy, hK⟩ := yieldsIn_of_qOp h0 hst
    exact wpAnyP_first h0 hk (Region.noSelect_spec hs) l.length listed a (Region.free_spec h0 hf) (by simpa using hr) hy
      (wpAnyP_lex hs l (k + 1) _ _ (fun j hj => by have := hl (j + 1) (by simp; omega); simpa [Nat.add_assoc, Nat.add_comm 1 j] using this) hB' hK)

/-- What is listed has all that it waits for listed. -/
def Shut (md : Region.Mode) (ops : Array Oper) (listed : Array Bool) : Prop := ∀ (k : Nat) (o : Oper), listed.getD k false = true → ops[k]? = some o → ∀ e ∈ o.after, Region.binds md e = true → listed.getD e.on false = true

theorem Shut.put {listed : Array Bool} {i : Nat} (h : Shut md ops listed) (hi : i ∈ Region.ready md ops listed) : Shut md ops (listed.setIfInBounds i true) := by
  intro k o hk ho e he hb
  by_cases hki : i = k
  · subst hki
    obtain ⟨_, o', ho', hall⟩ := mem_ready.1 hi
    rw [ho] at ho'
    cases ho'
    exact getD_set_true (hall e he hb)
  · rw [getD_set_ne false hki] at hk
    exact getD_set_true (h k o hk ho e he hb)

/-- Each of the first m but the last is waited for by a later one of them; each of the others waits for the last of them, or for another of the others ahead of it. -/
def gateB (md : Region.Mode) (ops : Array Oper) (m : Nat) : Bool :=
  ((List.range (m - 1)).all fun k => (List.range m).any fun p => decide (k < p) && match ops[p]? with
    | some o => o.after.any fun e => Region.binds md e && e.on == k
    | none => false) &&
  ((List.range ops.size).all fun j => decide (j < m) || match ops[j]? with
    | some o => o.after.any fun e => Region.binds md e && decide (m - 1 ≤ e.on) && decide (e.on < j)
    | none => false)

theorem gate_up (hg : gateB md ops m = true) {listed : Array Bool} (hS : Shut md ops listed) (h : listed.getD (m - 1) false = true) : ∀ d k, k + d + 1 = m → listed.getD k false = true := by
  simp only [gateB, Bool.and_eq_true, List.all_eq_true, List.mem_range, List.any_eq_true] at hg
  intro d
  induction d using Nat.strongRecOn with
  | ind d ih =>
    intro k hk
    by_cases h0 : d = 0
    · subst h0
      have : k = m - 1 := by omega
      rw [this]; exact h
    · obtain ⟨p, hp, hkp, hm⟩ := hg.1 k (by omega)
      simp only [decide_eq_true_eq] at hkp
      have hpl : listed.getD p false = true := ih (m - 1 - p) (by omega) p (by omega)
      split at hm
      · rename_i o ho
        obtain ⟨e, he, hb⟩ := Array.any_eq_true'.1 hm
        simp only [Bool.and_eq_true, beq_iff_eq] at hb
        have := hS p o hpl ho e he hb.1
        rwa [hb.2] at this
      · cases hm

theorem gate_at (hg : gateB md ops m = true) {listed : Array Bool} (hS : Shut md ops listed) : ∀ (j : Nat) (o : Oper), m ≤ j → ops[j]? = some o → (∀ e ∈ o.after, Region.binds md e = true → listed.getD e.on false = true) → listed.getD (m - 1) false = true := by
  have hg2 := hg
  simp only [gateB, Bool.and_eq_true, List.all_eq_true, List.mem_range] at hg2
  intro j
  induction j using Nat.strongRecOn with
  | ind j ih =>
    intro o hj ho hall
    have h1 := hg2.2 j (Array.getElem?_eq_some_iff.1 ho).1
    simp only [ho, Bool.or_eq_true, decide_eq_true_eq] at h1
    rcases h1 with h1 | h1
    · omega
    · obtain ⟨e, he, hb⟩ := Array.any_eq_true'.1 h1
      simp only [Bool.and_eq_true, decide_eq_true_eq] at hb
      obtain ⟨⟨hb1, hb2⟩, hb3⟩ := hb
      have hl := hall e he hb1
      by_cases hq : e.on = m - 1
      · rw [← hq]; exact hl
      · cases hx : ops[e.on]? with
        | none =>
          have : ops.size ≤ e.on := by
            rcases Nat.lt_or_ge e.on ops.size with h' | h'
            · rw [Array.getElem?_eq_getElem h'] at hx; cases hx
            · exact h'
          have := (Array.getElem?_eq_some_iff.1 ho).1
          omega
        | some o' => exact ih e.on hb3 o' (by omega) hx (fun e' he' hb' => hS e.on o' hl hx e' he' hb')

theorem gate (hg : gateB md ops m = true) {listed : Array Bool} (hS : Shut md ops listed) {j : Nat} (hj : j ∈ Region.ready md ops listed) (hm : ¬ j < m) : ∀ i ∈ Region.ready md ops listed, ¬ i < m := by
  intro i hi him
  obtain ⟨_, o, ho, hall⟩ := mem_ready.1 hj
  have h1 := gate_at hg hS j o (by omega) ho hall
  have h2 := gate_up hg hS h1 (m - 1 - i) i (by omega)
  have h3 := (mem_ready.1 hi).1
  rcases Nat.lt_or_ge i listed.size with h' | h'
  · simp [h'] at h2 h3; rw [h2] at h3; cases h3
  · simp [Array.getElem?_eq_none h'] at h2

theorem wpAny_more {Q : Exit → Act → World → Prop} : ∀ (fuel : Nat) (listed : Array Bool) (a : Act) (w : World), wpAny P md ops Q fuel listed a w → wpAny P md ops Q (fuel + 1) listed a w
  | 0, _, _, _, h => wpAny_done h.1 h.2 _
  | fuel + 1, _, _, _, h => ⟨h.1, fun i hi => wpOp_mono (fun a' w' h' => wpAny_more fuel _ a' w' h') (h.2 i hi)⟩
theorem wpAny_plus {Q : Exit → Act → World → Prop} {rest : Nat} {listed : Array Bool} {a : Act} {w : World} (h : wpAny P md ops Q rest listed a w) : ∀ d, wpAny P md ops Q (d + rest) listed a w
  | 0 => by simpa using h
  | d + 1 => by have := wpAny_more _ _ _ _ (wpAny_plus h d); rwa [show d + 1 + rest = d + rest + 1 by omega]

theorem wpAny_normal {Q : Exit → Act → World → Prop} {rest : Nat} {listed : Array Bool} {a : Act} {w : World} (h : wpAny P md ops Q rest listed a w) (h0 : Region.ready md ops listed = []) : Q .normal a w := by
  cases rest with
  | zero => exact h.2
  | succ r => exact h.1 h0

theorem wpAny_of_prefix {Q : Exit → Act → World → Prop} {rest : Nat} (hg : gateB md ops m = true) : ∀ (fuel : Nat) (listed : Array Bool) (a : Act) (w : World), Shut md ops listed → C w →
    wpAnyP P md ops C m (fun listed a => ∀ w, C w → wpAny P md ops Q rest listed a w) fuel listed a → wpAny P md ops Q (fuel + rest) listed a w
  | 0, _, _, w, _, hw, h => by simpa using h.2 w hw
  | fuel + 1, listed, a, w, hS, hw, h => by
    rw [show fuel + 1 + rest = fuel + rest + 1 by omega]
    by_cases hx : ∃ j ∈ Region.ready md ops listed, ¬ j < m
    · obtain ⟨j, hj, hjm⟩ := hx
      have := wpAny_plus (h.1 (gate hg hS hj hjm) w hw) (fuel + 1)
      rwa [show fuel + 1 + rest = fuel + rest + 1 by omega] at this
    · have hall : ∀ j ∈ Region.ready md ops listed, j < m := fun j hj => Classical.byContradiction fun hc => hx ⟨j, hj, hc⟩
      refine ⟨fun h0 => ?_, fun i hi => ?_⟩
      · exact wpAny_normal (h.1 (by rw [h0]; intro i hi; cases hi) w hw) h0
      · exact wpOp_of_qOp hw (fun a' w' hw' h' => wpAny_of_prefix hg fuel _ a' w' (hS.put hi) hw' h') (h.2 i hi (hall i hi))

def prefixB (l1 l2 : List Oper) : Bool := Region.noSelect (l1 ++ l2).toArray && gateB .any (l1 ++ l2).toArray l1.length && lexTo .any (l1 ++ l2).toArray l1.length l1.length 0 (Array.replicate (l1.length + l2.length) false)

theorem wp_region_prefix {l1 l2 l : List Oper} {id : Nat} {Q : Exit → Act → World → Prop} {a : Act} {w : World} (hl : l = l1 ++ l2) (hm : P.follows .mixedOrders = true) (hB : prefixB l1 l2 = true) (hC : C { w with drawn := w.drawn + 1 })
    (h : wpQuiet P l.toArray C (fun a' => ∀ w', C w' → wpAny P .any l.toArray Q l2.length (listedTo l1.length 0 (Array.replicate (l1.length + l2.length) false)) a' w') l1 a) : (Code.region id l.toArray true).wp P Q a w := by
  subst hl
  simp only [prefixB, Bool.and_eq_true] at hB
  obtain ⟨⟨h1, h2⟩, h3⟩ := hB
  refine wp_region_any hm ?_
  have key := wpAnyP_lex (P := P) (C := C) (md := .any) (m := l1.length) (R := fun listed a => ∀ w, C w → wpAny P .any (l1 ++ l2).toArray Q l2.length listed a w) h1 l1 0 (Array.replicate (l1.length + l2.length) false) a
    (by intro j hj; simp [List.getElem?_append_left hj]) h3 h
  have := wpAny_of_prefix (Q := Q) (rest := l2.length) h2 l1.length (Array.replicate (l1.length + l2.length) false) a { w with drawn := w.drawn + 1 } (by intro k o hk; simp [Array.getElem?_replicate] at hk; split at hk <;> simp_all) hC key
  simpa using this
end
end Go.Proofs.YtgpaeilnpeflaaaDoor

/- The walk of layer 1's orderOf. -/
namespace Go.Proofs.YtgpaeilnpeflaaaDoor
open Go.RowKit

/-- What has been gone through. -/
def seen (k j a b : Nat) : Bool := decide (a < k) || (a == k && decide (b < j))
def upTo (g : Grid) (k j a : Nat) : Nat := mask 8 (fun b => g.le a b && seen k j a b)
def dnTo (g : Grid) (k j b : Nat) : Nat := mask 8 (fun a => g.le a b && seen k j a b)

theorem upTo_lt (g : Grid) (k j a : Nat) : upTo g k j a < 256 := mask8_lt _
theorem dnTo_lt (g : Grid) (k j b : Nat) : dnTo g k j b < 256 := mask8_lt _

theorem upTo_no (g : Grid) (k j a : Nat) (h : g.le k j = false) : upTo g k (j + 1) a = upTo g k j a := by
  refine mask_congr 8 _ _ fun b _ => ?_
  by_cases ha : a = k
  · subst ha
    by_cases hb : b = j
    · subst hb; simp [h]
    · simp [seen, show (b < j + 1) = (b < j) by simp; omega]
  · simp [seen, beq_eq_false_iff_ne.2 ha]
theorem dnTo_no (g : Grid) (k j b : Nat) (h : g.le k j = false) : dnTo g k (j + 1) b = dnTo g k j b := by
  refine mask_congr 8 _ _ fun a _ => ?_
  by_cases ha : a = k
  · subst ha
    by_cases hb : b = j
    · subst hb; simp [h]
    · simp [seen, show (b < j + 1) = (b < j) by simp; omega]
  · simp [seen, beq_eq_false_iff_ne.2 ha]
theorem upTo_yes (g : Grid) (k j a : Nat) (hj : j < 8) (h : g.le k j = true) : upTo g k (j + 1) a = if a = k then upTo g k j k ||| 2 ^ j else upTo g k j a := by
  by_cases ha : a = k
  · subst ha
    rw [if_pos rfl]
    unfold upTo
    rw [mask_or _ _ hj]
    refine mask_congr 8 _ _ fun b _ => ?_
    by_cases hb : b = j
    · subst hb; simp [h, seen]
    · simp [seen, beq_eq_false_iff_ne.2 hb, show (b < j + 1) = (b < j) by simp; omega]
  · rw [if_neg ha]
    exact mask_congr 8 _ _ fun b _ => by simp [seen, beq_eq_false_iff_ne.2 ha]
theorem dnTo_yes (g : Grid) (k j b : Nat) (hk : k < 8) (h : g.le k j = true) : dnTo g k (j + 1) b = if b = j then dnTo g k j j ||| 2 ^ k else dnTo g k j b := by
  by_cases hb : b = j
  · subst hb
    rw [if_pos rfl]
    unfold dnTo
    rw [mask_or _ _ hk]
    refine mask_congr 8 _ _ fun a _ => ?_
    by_cases ha : a = k
    · subst ha; simp [h, seen]
    · simp [seen, beq_eq_false_iff_ne.2 ha]
  · rw [if_neg hb]
    exact mask_congr 8 _ _ fun a _ => by simp [seen, show (b < j + 1) = (b < j) by simp; omega]
theorem upTo_row (g : Grid) (k a : Nat) : upTo g k (g.L k) a = upTo g (k + 1) 0 a := by
  refine mask_congr 8 _ _ fun b _ => ?_
  by_cases ha : a = k
  · subst ha
    by_cases hb : b < g.L a
    · simp [seen, hb]
    · simp [Grid.le, hb]
  · simp [seen, beq_eq_false_iff_ne.2 ha, show (a < k + 1) = (a < k) by simp; omega]
theorem dnTo_row (g : Grid) (k b : Nat) : dnTo g k (g.L k) b = dnTo g (k + 1) 0 b := by
  refine mask_congr 8 _ _ fun a _ => ?_
  by_cases ha : a = k
  · subst ha
    by_cases hb : b < g.L a
    · simp [seen, hb]
    · simp [Grid.le, hb]
  · simp [seen, beq_eq_false_iff_ne.2 ha, show (a < k + 1) = (a < k) by simp; omega]

theorem mask_none (n : Nat) : mask n (fun _ => false) = 0 := by
  induction n with
  | zero => rfl
  | succ n ih => simp [mask, ih]
theorem upTo_start (g : Grid) (a : Nat) : upTo g 0 0 a = 0 := by
  unfold upTo; rw [mask_congr 8 _ (fun _ => false) (fun b _ => by simp [seen]), mask_none]
theorem dnTo_start (g : Grid) (b : Nat) : dnTo g 0 0 b = 0 := by
  unfold dnTo; rw [mask_congr 8 _ (fun _ => false) (fun b _ => by simp [seen]), mask_none]

theorem OrdOwn.congr {w : World} {B n : Nat} {U D U' D' : Nat → Nat} (h : OrdOwn w B n U D) (hU : ∀ i, U' i = U i) (hD : ∀ i, D' i = D i) : OrdOwn w B n U' D' :=
  ⟨⟨h.at'.size, fun i hi => by rw [hU]; exact h.at'.up i hi, fun i hi => by rw [hD]; exact h.at'.dn i hi⟩, h.free⟩

theorem OrdOwn.set {w : World} {B n : Nat} {U D U' D' : Nat → Nat} (h : OrdOwn w B n U D) {k j x y : Nat} {p q : Int} (hk : k < 8) (hj : j < 8) (hp : p = x) (hq : q = y)
    (hU : ∀ i, U' i = if i = k then x else U i) (hD : ∀ i, D' i = if i = j then y else D i) :
    OrdOwn ((w.setCell ⟨B, 1 + k, none⟩ (.int .u64 p)).setCell ⟨B, 9 + j, none⟩ (.int .u64 q)).drew.drew B n U' D' := by
  subst hp hq
  refine ⟨⟨?_, fun i hi => ?_, fun i hi => ?_⟩, fun i hi => ?_⟩
  · show ((w.setCell ⟨B, 1 + k, none⟩ _).setCell ⟨B, 9 + j, none⟩ _).cell? _ = _
    rw [World.cell?_setCell_other _ _ _ _ (by simp <;> omega), World.cell?_setCell_other _ _ _ _ (by simp <;> omega)]
    exact h.at'.size
  · show ((w.setCell ⟨B, 1 + k, none⟩ _).setCell ⟨B, 9 + j, none⟩ _).cell? _ = _
    rw [World.cell?_setCell_other _ _ _ _ (by simp <;> omega), hU]
    by_cases e : i = k
    · subst e; rw [if_pos rfl]; exact World.cell?_setCell_same _ _ _ (h.at'.up i hi)
    · rw [if_neg e, World.cell?_setCell_other _ _ _ _ (by simp <;> omega)]; exact h.at'.up i hi
  · show ((w.setCell ⟨B, 1 + k, none⟩ _).setCell ⟨B, 9 + j, none⟩ _).cell? _ = _
    rw [hD]
    have hh : (w.setCell ⟨B, 1 + k, none⟩ (.int .u64 x)).cell? ⟨B, 9 + i, none⟩ = some (.int .u64 (D i)) := by
      rw [World.cell?_setCell_other _ _ _ _ (by simp <;> omega)]; exact h.at'.dn i hi
    by_cases e : i = j
    · subst e; rw [if_pos rfl]; exact World.cell?_setCell_same _ _ _ hh
    · rw [if_neg e, World.cell?_setCell_other _ _ _ _ (by simp <;> omega)]; exact hh
  · show ((w.setCell ⟨B, 1 + k, none⟩ _).setCell ⟨B, 9 + j, none⟩ _).frozen? _ = _
    rw [World.frozen?_setCell, World.frozen?_setCell]; exact h.free i hi

theorem OrdOwn.start (w : World) (n : Nat) (t : TypeId) : OrdOwn (w.alloc (.cells #[.int .i64 n, .int .u64 0, .int .u64 0, .int .u64 0, .int .u64 0, .int .u64 0, .int .u64 0, .int .u64 0, .int .u64 0, .int .u64 0, .int .u64 0, .int .u64 0, .int .u64 0, .int .u64 0, .int .u64 0, .int .u64 0, .int .u64 0] t)) w.heap.size n (fun _ => 0) (fun _ => 0) := by
  refine ⟨⟨by simp, fun i hi => ?_, fun i hi => ?_⟩, fun i hi => by simp⟩
  · match i, hi with
    | 0, _ | 1, _ | 2, _ | 3, _ | 4, _ | 5, _ | 6, _ | 7, _ => simp
  · match i, hi with
    | 0, _ | 1, _ | 2, _ | 3, _ | 4, _ | 5, _ | 6, _ | 7, _ => simp

theorem or_pow (x j : Nat) (hx : x < 256) (hj : j < 8) : bits .or .u64 (x : Int) (2 ^ j) = ((x ||| 2 ^ j : Nat) : Int) := by
  have hp : (2 : Nat) ^ j ≤ 2 ^ 7 := Nat.pow_le_pow_right (by omega) (by omega)
  have hc : ((2 : Int) ^ j) = ((2 ^ j : Nat) : Int) := by simp
  rw [hc, or_u8 _ _ hx (by omega)]

theorem le_at (g : Grid) {k j : Nat} (hk : k < g.len) (hj : j < g.L k) {r : Bool} (h : g.B k j = r) : g.le k j = r := by simp [Grid.le, hk, hj, h]

end Go.Proofs.YtgpaeilnpeflaaaDoor

/- The walk of layer 1's bounded. -/
namespace Go.Proofs.YtgpaeilnpeflaaaDoor
open Go.RowKit

end Go.Proofs.YtgpaeilnpeflaaaDoor

/- The walks of layer 1's square, namesFormed (with slices.Contains, slices.Index) and Formed. -/
namespace Go.Proofs.YtgpaeilnpeflaaaDoor
open Go.RowKit

def squareB (g : Grid) (n : Nat) : Bool := (g.len == n) && decide (∀ r, r < g.len → g.L r = n)
/-- Index: the first place from i on, or -1. -/
def idxFrom (s : Nat → ByteArray) (v : ByteArray) : Nat → Nat → Int
  | 0, _ => -1
  | k + 1, i => if v.toList == (s i).toList then i else idxFrom s v k (i + 1)
def holdsB (s : Nat → ByteArray) (n : Nat) (v : ByteArray) : Bool := decide (∃ i, i < n ∧ (v.toList == (s i).toList) = true)
def namesB (g : Strs) : Bool := decide (0 < g.len ∧ g.len ≤ 8) && decide (∀ i, i < g.len → (nameB (g.s i) && !holdsB g.s i (g.s i)) = true)

set_option maxHeartbeats 400000 in
theorem index_any (g : Strs) (n cap : Nat) (v : ByteArray) (w : World) (hg : g.At w) (hn : n ≤ g.len) (ao : Option Addr) (hao : 0 < n → ao = some ⟨g.b, g.o, none⟩) :
    Calls Tryd.prog 43 #[.slice ao n cap, .string v] w fun e w' => e = .returned (.int .i64 (idxFrom g.s v n 0)) ∧ w' = w := by
  have hb := hg.bound
  go_enter Tryd.func43, Tryd.ntmps43
  go_wp2
  go_loop [8] (fun i => ∃ k : Nat, k ≤ n ∧ i = .int .i64 k ∧ idxFrom g.s v n 0 = idxFrom g.s v (n - k) k) (fun i => n - (intOf i).toNat)
  case atStart => exact ⟨0, Nat.zero_le _, rfl, rfl⟩
  case round =>
    obtain ⟨k, hk, rfl, hdone⟩ := hrel
    have HD : Hid (idxFrom g.s v n 0 = idxFrom g.s v (n - k) k) := hdone
    clear hdone
    by_cases hlt : k < n
    · have r1 := hg.cell k (by omega)
      have r2 := hao (by omega)
      go_wp2
      · have t : (v.toList == (g.s k).toList) = true := by assumption
        go_ret
        refine ⟨ret_int ?_, rfl⟩
        rw [HD.out]
        obtain ⟨m, hm⟩ : ∃ m, n - k = m + 1 := ⟨n - k - 1, by omega⟩
        rw [hm, idxFrom, t]; rfl
      · have t : (v.toList == (g.s k).toList) = false := by assumption
        go_round
        case rel =>
          refine ⟨k + 1, by omega, by go_num, ?_⟩
          rw [HD.out]
          obtain ⟨m, hm⟩ : ∃ m, n - k = m + 1 := ⟨n - k - 1, by omega⟩
          rw [hm, idxFrom, t, show n - (k + 1) = m by omega]; rfl
        case measure => simp [intOf]; omega
    · have e : n - k = 0 := by omega
      have HE : Hid (n - k = 0) := e
      clear e
      go_wp2
      go_ret
      exact ⟨ret_int (by rw [HD.out, HE.out]; rfl), rfl⟩

theorem idx_nonneg (s : Nat → ByteArray) (v : ByteArray) : ∀ (k i : Nat), 0 ≤ idxFrom s v k i ↔ ∃ j, i ≤ j ∧ j < i + k ∧ (v.toList == (s j).toList) = true
  | 0, i => by
    simp only [idxFrom]
    constructor
    · intro h; omega
    · rintro ⟨j, h1, h2, _⟩; omega
  | k + 1, i => by
    simp only [idxFrom]
    by_cases h : (v.toList == (s i).toList) = true
    · rw [if_pos h]
      constructor
      · intro _; exact ⟨i, by omega, by omega, h⟩
      · intro _; omega
    · rw [if_neg h, idx_nonneg s v k (i + 1)]
      constructor
      · rintro ⟨j, h1, h2, h3⟩; exact ⟨j, by omega, by omega, h3⟩
      · rintro ⟨j, h1, h2, h3⟩
        by_cases e : j = i
        · subst e; exact absurd h3 h
        · exact ⟨j, by omega, by omega, h3⟩

theorem holds_idx (s : Nat → ByteArray) (n : Nat) (v : ByteArray) : decide (0 ≤ idxFrom s v n 0) = holdsB s n v := by
  unfold holdsB
  rw [decide_eq_decide, idx_nonneg]
  constructor
  · rintro ⟨j, _, h2, h3⟩; exact ⟨j, by omega, h3⟩
  · rintro ⟨j, h2, h3⟩; exact ⟨j, by omega, by omega, h3⟩

set_option maxHeartbeats 400000 in
theorem contains_any (g : Strs) (n cap : Nat) (v : ByteArray) (w : World) (hg : g.At w) (hn : n ≤ g.len) (ao : Option Addr) (hao : 0 < n → ao = some ⟨g.b, g.o, none⟩) :
    Calls Tryd.prog 37 #[.slice ao n cap, .string v] w fun e w' => e = .returned (.bool (holdsB g.s n v)) ∧ w' = w := by
  have H : Hid (decide (0 ≤ idxFrom g.s v n 0) = holdsB g.s n v) := holds_idx g.s n v
  go_enter Tryd.func37, Tryd.ntmps37
  go_wp2_with (go_at_call 43; refine (index_any g n cap v _ hg hn ao hao).mono ?_; rintro e w' ⟨rfl, rfl⟩)
  go_ret
  exact ⟨ret_bool H.out, rfl⟩

end Go.Proofs.YtgpaeilnpeflaaaDoor

/- The walk of layer 1's Formed. -/
namespace Go.Proofs.YtgpaeilnpeflaaaDoor
open Go.RowKit

def Grid.U (g : Grid) : Nat → Nat := upTo g g.len 0
def Grid.D (g : Grid) : Nat → Nat := dnTo g g.len 0
theorem Grid.U_lt (g : Grid) (i : Nat) : g.U i < 256 := upTo_lt _ _ _ _
theorem Grid.D_lt (g : Grid) (i : Nat) : g.D i < 256 := dnTo_lt _ _ _ _
def formedB (n : Strs) (g : Grid) : Bool := (namesB n && squareB g n.len) && (partB g.len g.U g.D && bddB g.len g.U g.D)

theorem namesB_len {n : Strs} (h : namesB n = true) : 0 < n.len ∧ n.len ≤ 8 := by
  unfold namesB at h
  rw [Bool.and_eq_true, decide_eq_true_eq] at h
  exact h.1
theorem squareB_len {g : Grid} {n : Nat} (h : squareB g n = true) : g.len = n ∧ ∀ r, r < g.len → g.L r = n := by
  unfold squareB at h
  rw [Bool.and_eq_true, decide_eq_true_eq, beq_iff_eq] at h
  exact h

/-- w1 is w, and behind it a variable of two cells, and what came since. -/
structure Box2 (w w1 : World) (u v : Value) : Prop where
  bl : Below w.heap.size w w1
  lt : w.heap.size < w1.heap.size
  c0 : w1.cell? ⟨w.heap.size, 0, none⟩ = some u
  c1 : w1.cell? ⟨w.heap.size, 1, none⟩ = some v
  f0 : w1.frozen? ⟨w.heap.size, 0, none⟩ = false
  f1 : w1.frozen? ⟨w.heap.size, 1, none⟩ = false
theorem Box2.start (w : World) (u v : Value) (t : TypeId) : Box2 w (w.alloc (.cells #[u, v] t)) u v :=
  ⟨(Below.refl _ _).alloc (Nat.le_refl _) _, by simp, (cells2 w u v t).1, (cells2 w u v t).2, by simp, by simp⟩
theorem Box2.step {w w1 w2 : World} {u v : Value} (h : Box2 w w1 u v) (k : Below w1.heap.size w1 w2) : Box2 w w2 u v :=
  ⟨h.bl.trans (k.mono h.bl.size), Nat.lt_of_lt_of_le h.lt k.size, (k.cell (p := ⟨w.heap.size, 0, none⟩) h.lt).trans h.c0, (k.cell (p := ⟨w.heap.size, 1, none⟩) h.lt).trans h.c1,
    (k.frozen (p := ⟨w.heap.size, 0, none⟩) h.lt).trans h.f0, (k.frozen (p := ⟨w.heap.size, 1, none⟩) h.lt).trans h.f1⟩

end Go.Proofs.YtgpaeilnpeflaaaDoor

/- The walks of layer 1's hasLabels, Leq, Join, Meet, Both, Bottom, Top. -/
namespace Go.Proofs.YtgpaeilnpeflaaaDoor
open Go.RowKit

def labB (n : Strs) (a : Int) : Bool := decide (0 ≤ a) && decide (a < n.len)
def labsB (n : Strs) (ls : Nat → Int) (ll : Nat) : Bool := decide (∀ j, j < ll → labB n (ls j) = true)

theorem labs_no {n : Strs} {ls : Nat → Int} {ll j : Nat} (hj : j < ll) (h : labB n (ls j) = false) : labsB n ls ll = false := by
  unfold labsB
  rw [decide_eq_false_iff_not]
  intro hh
  rw [hh j hj] at h
  exact Bool.noConfusion h

def two (a b : Int) : Nat → Int := fun j => if j = 0 then a else b
theorem labs_two (n : Strs) (a b : Int) : labsB n (two a b) 2 = (labB n a && labB n b) := by
  unfold labsB
  rw [Bool.eq_iff_iff, decide_eq_true_eq, Bool.and_eq_true]
  constructor
  · intro h; exact ⟨h 0 (by omega), h 1 (by omega)⟩
  · rintro ⟨h1, h2⟩ j hj
    match j, hj with
    | 0, _ => exact h1
    | 1, _ => exact h2

/-- What Leq answers. -/
def leqB (n : Strs) (g : Grid) (a b : Int) : Bool := ((labB n a && labB n b) && formedB n g) && g.B a.toNat b.toNat
def joinI (n : Strs) (g : Grid) (a b : Int) : Int := if ((labB n a && labB n b) && formedB n g) = true then near2 g.len g.U a.toNat b.toNat else -1
def meetI (n : Strs) (g : Grid) (a b : Int) : Int := if ((labB n a && labB n b) && formedB n g) = true then near2 g.len g.D a.toNat b.toNat else -1
def botI (n : Strs) (g : Grid) : Int := if formedB n g = true then near g.U (2 ^ g.len - 1) else -1
def topI (n : Strs) (g : Grid) : Int := if formedB n g = true then near g.D (2 ^ g.len - 1) else -1

theorem formed_parts {n : Strs} {g : Grid} (h : formedB n g = true) : g.len = n.len ∧ 0 < n.len ∧ n.len ≤ 8 ∧ ∀ r, r < g.len → g.L r = n.len := by
  unfold formedB at h
  rw [Bool.and_eq_true, Bool.and_eq_true] at h
  have h1 := namesB_len h.1.1
  have h2 := squareB_len h.1.2
  exact ⟨h2.1, h1.1, h1.2, h2.2⟩
theorem lab_nat {n : Strs} {a : Int} (h : labB n a = true) : ∃ k : Nat, a = k ∧ k < n.len := by
  unfold labB at h
  rw [Bool.and_eq_true, decide_eq_true_eq, decide_eq_true_eq] at h
  exact ⟨a.toNat, by omega, by omega⟩

theorem cells2' (w : World) (o : Obj) (u v : Value) (t : TypeId) : ((w.alloc o).alloc (.cells #[u, v] t)).cell? ⟨w.heap.size + 1, 0, none⟩ = some u ∧ ((w.alloc o).alloc (.cells #[u, v] t)).cell? ⟨w.heap.size + 1, 1, none⟩ = some v := by
  simp

def bothI (n : Strs) (g : Grid) (a b : Int) : Int := joinI n g (if a = -1 then b else a) (if b = -1 then a else b)

end Go.Proofs.YtgpaeilnpeflaaaDoor

/- The walk of layer 1's pairsInRange. -/
namespace Go.Proofs.YtgpaeilnpeflaaaDoor
open Go.RowKit

/-- A [][2]int in memory. -/
structure Prs where
  ao : Option Addr
  b : Nat
  o : Nat
  len : Nat
  cap : Nat
  x : Nat → Int
  y : Nat → Int

structure Prs.At (g : Prs) (w : World) : Prop where
  lc : g.len ≤ g.cap
  nil : 0 < g.len → g.ao = some ⟨g.b, g.o, none⟩
  bound : g.len ≤ 9223372036854775807
  fst : ∀ i, i < g.len → w.cell? ⟨g.b, g.o + i * 2, none⟩ = some (.int .i64 (g.x i))
  snd : ∀ i, i < g.len → w.cell? ⟨g.b, g.o + i * 2 + 1, none⟩ = some (.int .i64 (g.y i))

theorem Prs.At.kept {g : Prs} {w w' : World} (h : g.At w) (hb : Below w.heap.size w w') : g.At w' :=
  ⟨h.lc, h.nil, h.bound, fun i hi => (hb.cell (p := ⟨g.b, g.o + i * 2, none⟩) (cell_lt (h.fst i hi))).trans (h.fst i hi), fun i hi => (hb.cell (p := ⟨g.b, g.o + i * 2 + 1, none⟩) (cell_lt (h.snd i hi))).trans (h.snd i hi)⟩

def inR (n : Nat) (a : Int) : Bool := decide (0 ≤ a) && decide (a < n)
def prsB (g : Prs) (n : Nat) : Bool := decide (∀ i, i < g.len → (inR n (g.x i) && inR n (g.y i)) = true)

theorem prs_no {g : Prs} {n k : Nat} (hk : k < g.len) (h : (inR n (g.x k) && inR n (g.y k)) = false) : prsB g n = false := by
  unfold prsB
  rw [decide_eq_false_iff_not]
  intro hh
  rw [hh k hk] at h
  exact Bool.noConfusion h
theorem inR_no {n : Nat} {a : Int} (h : a < 0 ∨ (n : Int) ≤ a) : inR n a = false := by
  unfold inR
  rw [Bool.and_eq_false_iff, decide_eq_false_iff_not, decide_eq_false_iff_not]
  omega

end Go.Proofs.YtgpaeilnpeflaaaDoor

/- The walks of slices.Clone and layer 1's addAll. -/
namespace Go.Proofs.YtgpaeilnpeflaaaDoor
open Go.RowKit

/-- Nothing but block p has turned. -/
structure Wrote (w w' : World) (p : Nat) : Prop where
  os : w'.os = w.os
  tape : w'.tape = w.tape
  output : w'.output = w.output
  size : w'.heap.size = w.heap.size
  block : ∀ k, k ≠ p → w'.heap[k]? = w.heap[k]?
theorem Wrote.refl (w : World) (p : Nat) : Wrote w w p := ⟨rfl, rfl, rfl, rfl, fun _ _ => rfl⟩
theorem Wrote.setCell {w w' : World} {p : Nat} (h : Wrote w w' p) (o : Nat) (v : Value) : Wrote w (w'.setCell ⟨p, o, none⟩ v) p :=
  ⟨h.os, h.tape, h.output, by rw [← h.size]; simp [World.setCell], fun k hk => (Below.heap_setCell _ _ _ _ hk).trans (h.block k hk)⟩

theorem run_eql_slice_nil {P : Program} (w : World) (t e : TypeId) (a : Option Addr) (l c : Nat) (h : P.underlying t = some (.slice e)) : (binOp .eql t (.slice a l c) (.slice none 0 0)).run P w = .ok (.bool a.isNone) w := by
  simp only [binOp, Sem.run_bind, run_equal_slice_nil w t e a l c h, Result.andThen]; rfl

theorem Tryd.infoString : (Tryd.prog.info? 9).map (fun i => (i.zero, i.size, i.bytes)) = some (some (.string ⟨#[]⟩), 1, 16) := by kernel_rfl

/-- What the names' cells hold. -/
def strCells (g : Strs) : List Value := (List.range g.len).map fun i => .string (g.s i)
theorem strCells_at (g : Strs) (i : Nat) (hi : i < g.len) : (strCells g)[i]? = some (.string (g.s i)) := by simp [strCells, hi]

theorem addr_add (b o i : Nat) : (⟨b, o, none⟩ : Addr).add i = ⟨b, o + i, none⟩ := by unfold Addr.add; split <;> simp_all

theorem strCells_news (g : Strs) (w : World) (hg : g.At w) (o : Obj) (j : Nat) (u : Value) (h : (strCells g)[j]? = some u) : (w.alloc o).cell? ((⟨g.b, g.o, none⟩ : Addr).add j) = some u := by
  have hj : j < g.len := by
    have := (List.getElem?_eq_some_iff.1 h).1
    simpa [strCells] using this
  rw [strCells_at g j hj] at h
  have hc := hg.cell j hj
  rw [← h]
  have := (((Below.refl _ _).alloc (Nat.le_refl _) o).cell (p := ⟨g.b, g.o + j, none⟩) (cell_lt hc)).trans hc
  rw [addr_add]; exact this

theorem strs_of_own {w : World} {base : Nat} {v : Value} {g : Strs} (h : w.ownsRow base 9 1 v (0 + g.len) ([] ++ strCells g)) (hv : v ≠ .slice none 0 0) (h8 : g.len ≤ 8) (hsz : ∀ i, i < g.len → (g.s i).size ≤ 9223372036854775807) :
    ∃ g' : Strs, v = .slice g'.ao g'.len g'.cap ∧ g'.At w ∧ g'.len = g.len ∧ g'.s = g.s := by
  rw [Nat.zero_add, List.nil_append] at h
  have h' := h
  obtain ⟨_, h0 | ⟨gb, cap, cur, rfl, _, _, hc, _⟩⟩ := h'
  · exact absurd h0.1 hv
  · refine ⟨⟨some ⟨gb, 0, none⟩, gb, 0, g.len, cap, g.s⟩, rfl, ⟨hc, fun _ => rfl, Nat.le_trans h8 (by omega), fun i hi => ?_, hsz⟩, rfl, rfl⟩
    show w.cell? ⟨gb, 0 + i, none⟩ = _
    rw [Nat.zero_add, h.cellAt i (by simpa using hi)]
    exact strCells_at g i hi

end Go.Proofs.YtgpaeilnpeflaaaDoor

/- The walk of layer 1's leastOrder. -/
namespace Go.Proofs.YtgpaeilnpeflaaaDoor
open Go.RowKit

theorem Tryd.infoBool : (Tryd.prog.info? 4).map (fun i => (i.zero, i.size, i.bytes)) = some (some (.bool false), 1, 1) := by kernel_rfl
def topTo (T n k : Nat) : Nat → Value := fun j => if j < k then .slice (some ⟨T + 1 + j, 0, none⟩) n n else .slice none 0 0
theorem inR_nat {n : Nat} {a : Int} (h : inR n a = true) : ∃ k : Nat, a = k ∧ k < n := by
  unfold inR at h
  rw [Bool.and_eq_true, decide_eq_true_eq, decide_eq_true_eq] at h
  exact ⟨a.toNat, by omega, by omega⟩
theorem prs_in {g : Prs} {n m : Nat} (h : prsB g n = true) (hm : m < g.len) : (∃ x : Nat, g.x m = x ∧ x < n) ∧ ∃ y : Nat, g.y m = y ∧ y < n := by
  unfold prsB at h
  rw [decide_eq_true_eq] at h
  have := h m hm
  rw [Bool.and_eq_true] at this
  exact ⟨inR_nat this.1, inR_nat this.2⟩

def warStep (M : Nat → Nat → Bool) (b : Nat) : Nat → Nat → Bool := fun r c => M r c || (M r b && M b c)
def warPart (M : Nat → Nat → Bool) (b a : Nat) : Nat → Nat → Bool := fun r c => if r < a then warStep M b r c else M r c
def war (M : Nat → Nat → Bool) : Nat → Nat → Nat → Bool
  | 0 => M
  | k + 1 => warStep (war M k) k
def prsM (g : Prs) (k : Nat) : Nat → Nat → Bool := fun r c => (c == r) || decide (∃ i, i < k ∧ g.x i = r ∧ g.y i = c)
def leastM (g : Prs) (n : Nat) : Nat → Nat → Bool := war (prsM g g.len) n

theorem row_same (M : Nat → Nat → Bool) (b c : Nat) : warStep M b b c = M b c := by
  unfold warStep; cases M b c <;> simp

theorem warPart_other (M : Nat → Nat → Bool) (b a r c : Nat) (e : ¬ r = a) : warPart M b (a + 1) r c = warPart M b a r c := by
  unfold warPart
  by_cases h : r < a
  · rw [if_pos h, if_pos (by omega)]
  · rw [if_neg h, if_neg (by omega)]

theorem warPart_row (M : Nat → Nat → Bool) (b a c : Nat) : warPart M b a b c = M b c := by
  unfold warPart; split
  · exact row_same M b c
  · rfl

theorem warPart_now (M : Nat → Nat → Bool) (b a c : Nat) : warPart M b a a c = M a c := by
  unfold warPart; rw [if_neg (Nat.lt_irrefl _)]

end Go.Proofs.YtgpaeilnpeflaaaDoor

/- The walk of layer 1's Make. -/
namespace Go.Proofs.YtgpaeilnpeflaaaDoor
open Go.RowKit

/-- A table at block T, its rows behind. -/
def gridOf (T n : Nat) (M : Nat → Nat → Bool) : Grid := ⟨some ⟨T, 0, none⟩, T, 0, n, n, fun j => some ⟨T + 1 + j, 0, none⟩, fun _ => n, fun _ => n, fun j => T + 1 + j, fun _ => 0, M⟩
/-- Formed, of names and truths alone. -/
def formedM (len : Nat) (s : Nat → ByteArray) (M : Nat → Nat → Bool) : Bool := formedB ⟨none, 0, 0, len, len, s⟩ (gridOf 0 len M)
theorem formed_canon {n : Strs} {T len : Nat} {s : Nat → ByteArray} {M : Nat → Nat → Bool} (h1 : n.len = len) (h2 : n.s = s) : formedB n (gridOf T len M) = formedM len s M := by
  obtain ⟨ao, b, o, l, c, s'⟩ := n
  simp only at h1 h2
  subst h1 h2
  rfl

/-- What Make answers: an error, or names and a table. -/
def makeE (n : Strs) (p : Prs) : Int := if 8 < n.len ∨ 64 < p.len then 1 else if prsB p n.len = false then 10 else if formedM n.len n.s (leastM p n.len) = false then 4 else 0

structure Made (n : Strs) (p : Prs) (e : Int) (n' : Strs) (g' : Grid) (w' : World) : Prop where
  er : e = makeE n p
  nat : n'.At w'
  gat : g'.At w'
  yes : e = 0 → n'.len = n.len ∧ n'.s = n.s ∧ ∃ T, g' = gridOf T n.len (leastM p n.len)
  no : e ≠ 0 → n'.len = 0 ∧ g'.len = 0

def noStrs : Strs := ⟨none, 0, 0, 0, 0, fun _ => ByteArray.empty⟩
def noGrid : Grid := ⟨none, 0, 0, 0, 0, fun _ => none, fun _ => 0, fun _ => 0, fun _ => 0, fun _ => 0, fun _ _ => false⟩
theorem noStrs_at (w : World) : noStrs.At w := ⟨Nat.le_refl _, fun h => absurd h (Nat.lt_irrefl _), Nat.zero_le _, fun _ h => absurd h (Nat.not_lt_zero _), fun _ h => absurd h (Nat.not_lt_zero _)⟩
theorem noGrid_at (w : World) : noGrid.At w := ⟨Nat.le_refl _, fun h => absurd h (Nat.lt_irrefl _), Nat.zero_le _, fun _ h => absurd h (Nat.not_lt_zero _), fun _ h => absurd h (Nat.not_lt_zero _), fun _ h => absurd h (Nat.not_lt_zero _), fun _ h => absurd h (Nat.not_lt_zero _)⟩

theorem makeE_1 {n : Strs} {p : Prs} (h : 8 < n.len ∨ 64 < p.len) : makeE n p = 1 := by unfold makeE; rw [if_pos h]
theorem makeE_10 {n : Strs} {p : Prs} (h : ¬ (8 < n.len ∨ 64 < p.len)) (h2 : prsB p n.len = false) : makeE n p = 10 := by unfold makeE; rw [if_neg h, if_pos h2]
theorem makeE_4 {n : Strs} {p : Prs} (h : ¬ (8 < n.len ∨ 64 < p.len)) (h2 : prsB p n.len = true) (h3 : formedM n.len n.s (leastM p n.len) = false) : makeE n p = 4 := by unfold makeE; rw [if_neg h, if_neg (by rw [h2]; simp), if_pos h3]
theorem makeE_0 {n : Strs} {p : Prs} (h : ¬ (8 < n.len ∨ 64 < p.len)) (h2 : prsB p n.len = true) (h3 : formedM n.len n.s (leastM p n.len) = true) : makeE n p = 0 := by unfold makeE; rw [if_neg h, if_neg (by rw [h2]; simp), if_neg (by rw [h3]; simp)]
theorem made_no {n : Strs} {p : Prs} {e : Int} (w : World) (h : makeE n p = e) (h0 : e ≠ 0) : Made n p e noStrs noGrid w := ⟨h.symm, noStrs_at w, noGrid_at w, fun h => absurd h h0, fun _ => ⟨rfl, rfl⟩⟩

theorem Strs.At.set {g : Strs} {w : World} (h : g.At w) {a : Addr} {p : Option Addr} {l c : Nat} (ha : w.cell? a = some (.slice p l c)) (v : Value) : g.At (w.setCell a v) :=
  ⟨h.lc, h.nil, h.bound, fun i hi => by
    have hc := h.cell i hi
    rw [World.cell?_setCell_other _ _ _ _ (fun e => by rw [← e, ha] at hc; cases hc)]
    exact hc, h.sz⟩
theorem gridOf_set {T n : Nat} {M : Nat → Nat → Bool} {w : World} (h : (gridOf T n M).At w) {a : Addr} (ha : a.block < T) (v : Value) : (gridOf T n M).At (w.setCell a v) where
  lc := h.lc
  nil := h.nil
  bound := h.bound
  lbound := h.lbound
  row := fun r hr => by
    rw [World.cell?_setCell_other _ _ _ _ (fun e => by have := congrArg Addr.block e; simp [gridOf] at this; omega)]
    exact h.row r hr
  adr := h.adr
  cell := fun r hr c hc => by
    rw [World.cell?_setCell_other _ _ _ _ (fun e => by have := congrArg Addr.block e; simp [gridOf] at this; omega)]
    exact h.cell r hr c hc
theorem below_set2 {w w1 : World} (h : Below w.heap.size w w1) (u v : Value) : Below w.heap.size w ((w1.setCell ⟨w.heap.size, 0, none⟩ u).setCell ⟨w.heap.size, 1, none⟩ v) :=
  (h.setCell (Nat.le_refl _) _).setCell (Nat.le_refl _) _

end Go.Proofs.YtgpaeilnpeflaaaDoor

/- The walks of the statements' awake and of the reference's Small. -/
namespace Go.Proofs.YtgpaeilnpeflaaaDoor
open Go.RowKit

def awkS : Nat → ByteArray := fun i => if i = 0 then ⟨#[108, 111, 119]⟩ else ⟨#[104, 105, 103, 104]⟩
def awkN (b : Nat) : Strs := ⟨some ⟨b, 0, none⟩, b, 0, 2, 2, awkS⟩
def awkP (b : Nat) : Prs := ⟨some ⟨b, 0, none⟩, b, 0, 1, 1, fun _ => 0, fun _ => 1⟩
theorem awk_e (b c : Nat) : makeE (awkN b) (awkP c) = 0 := by kernel_rfl
theorem awk_leq1 (ao : Option Addr) (b o c T q : Nat) : leqB ⟨ao, b, o, 2, c, awkS⟩ (gridOf T 2 (leastM (awkP q) 2)) 0 1 = true := by kernel_rfl
theorem awk_leq2 (ao : Option Addr) (b o c T q : Nat) : leqB ⟨ao, b, o, 2, c, awkS⟩ (gridOf T 2 (leastM (awkP q) 2)) 1 0 = false := by kernel_rfl
theorem awk_top (ao : Option Addr) (b o c T q : Nat) : topI ⟨ao, b, o, 2, c, awkS⟩ (gridOf T 2 (leastM (awkP q) 2)) = 1 := by kernel_rfl

/-- What Small answers. -/
def smallB (n : Strs) (g : Grid) : Bool := decide (g.len ≤ 100 ∧ ∀ r, r < g.len → g.L r ≤ 100) && decide (n.len ≤ 100)

theorem small_no1 {n : Strs} {g : Grid} {k : Nat} (hk : k < g.len) (h : 100 ≤ k ∨ 100 < g.L k) : smallB n g = false := by
  unfold smallB
  rw [Bool.and_eq_false_iff, decide_eq_false_iff_not]
  left
  rintro ⟨h1, h2⟩
  have := h2 k hk
  omega

end Go.Proofs.YtgpaeilnpeflaaaDoor
