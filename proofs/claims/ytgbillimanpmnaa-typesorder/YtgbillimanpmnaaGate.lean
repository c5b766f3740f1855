/- A region that draws its order, whose head is quiet in a class of worlds and whose tail is one behind the other: the head is walked once, then the tail from every world of the class. -/
import Derived.Test.YtgbillimanpmnaaPrefix
import Derived.Test.YtgbillimanpmnaaTyBase
import Derived.StillTail
namespace Go.Proofs.Ytgbillimanpmnaa
open Go Go.RowKit

section
variable {P : Program} {ops : Array Oper} {md : Region.Mode} {C : World → Prop} {m : Nat}

theorem chain_down (hc : Region.chainB md ops m = true) {listed : Array Bool} (hS : Shut md ops listed) : ∀ t, m ≤ t → t < ops.size → listed.getD t false = true → listed.getD m false = true := by
  simp only [Region.chainB, List.all_eq_true, List.mem_range, Bool.or_eq_true, decide_eq_true_eq] at hc
  intro t
  induction t with
  | zero => intro h1 _ h3; have : m = 0 := by omega
            subst this; exact h3
  | succ t ih =>
    intro h1 h2 h3
    by_cases e : m = t + 1
    · rw [e]; exact h3
    rcases hc (t + 1) h2 with h | h
    · omega
    · obtain ⟨oj, hj, e, he, hb, hon⟩ := Region.waitsFor_spec h
      have := hS (t + 1) oj h3 hj e he hb
      rw [hon] at this
      exact ih (by omega) (by omega) this

theorem sink_all (hs : Region.sinkB md ops m = true) {listed : Array Bool} (hS : Shut md ops listed) {om : Oper} (hom : ops[m]? = some om) (hall : ∀ e ∈ om.after, Region.binds md e = true → listed.getD e.on false = true) : ∀ d i, i + d + 1 = m → listed.getD i false = true := by
  simp only [Region.sinkB, List.all_eq_true, List.mem_range, List.any_eq_true, Bool.and_eq_true, decide_eq_true_eq] at hs
  intro d
  induction d using Nat.strongRecOn with
  | ind d ih =>
    intro i hi
    obtain ⟨j, hj, hij, hw⟩ := hs i (by omega)
    obtain ⟨oj, hoj, e, he, hb, hon⟩ := Region.waitsFor_spec hw
    by_cases hjm : j = m
    · subst hjm
      rw [hom] at hoj
      cases hoj
      have := hall e he hb
      rwa [hon] at this
    · have hl := ih (m - 1 - j) (by omega) j (by omega)
      have := hS j oj hl hoj e he hb
      rwa [hon] at this

theorem gate2 (hs : Region.sinkB md ops m = true) (hc : Region.chainB md ops m = true) (listed : Array Bool) (j : Nat) (hS : Shut md ops listed) (hj : j ∈ Region.ready md ops listed) (hm : ¬ j < m) : ∀ i ∈ Region.ready md ops listed, ¬ i < m := by
  intro i hi him
  obtain ⟨_, oj, hoj, hall⟩ := mem_ready.1 hj
  have hlt := (Array.getElem?_eq_some_iff.1 hoj).1
  have hmlt : m < ops.size := by omega
  have hom : ops[m]? = some ops[m] := Array.getElem?_eq_getElem hmlt
  have key : ∀ e ∈ ops[m].after, Region.binds md e = true → listed.getD e.on false = true := by
    by_cases e : j = m
    · subst e
      rw [hom] at hoj
      cases hoj
      exact hall
    · have h1 : listed.getD m false = true := by
        have hc' := hc
        simp only [Region.chainB, List.all_eq_true, List.mem_range, Bool.or_eq_true, decide_eq_true_eq] at hc'
        rcases hc' j hlt with h | h
        · omega
        · obtain ⟨oj', hj', e', he', hb', hon'⟩ := Region.waitsFor_spec h
          rw [hoj] at hj'
          cases hj'
          have := hall e' he' hb'
          rw [hon'] at this
          exact chain_down hc hS (j - 1) (by omega) (by omega) this
      exact fun e he hb => hS m ops[m] h1 hom e he hb
  have h2 := sink_all hs hS hom key (m - 1 - i) i (by omega)
  have h3 := (mem_ready.1 hi).1
  rcases Nat.lt_or_ge i listed.size with h' | h'
  · simp [h'] at h2 h3; rw [h2] at h3; cases h3
  · simp [Array.getElem?_eq_none h'] at h2

theorem wpAny_of_prefix2 {R : Array Bool → Act → Prop} {Q : Exit → Act → World → Prop} {rest : Nat} (hg : ∀ (listed : Array Bool) (j : Nat), Shut md ops listed → j ∈ Region.ready md ops listed → ¬ j < m → ∀ i ∈ Region.ready md ops listed, ¬ i < m) : ∀ (fuel : Nat) (listed : Array Bool) (a : Act) (w : World), Shut md ops listed → C w →
    wpAnyP P md ops C m (fun listed a => ∀ w, C w → wpAny P md ops Q rest listed a w) fuel listed a → wpAny P md ops Q (fuel + rest) listed a w
  | 0, _, _, w, _, hw, h => by simpa using h.2 w hw
  | fuel + 1, listed, a, w, hS, hw, h => by
    rw [show fuel + 1 + rest = fuel + rest + 1 by omega]
    by_cases hx : ∃ j ∈ Region.ready md ops listed, ¬ j < m
    · obtain ⟨j, hj, hjm⟩ := hx
      have := wpAny_plus (h.1 (hg _ _ hS hj hjm) w hw) (fuel + 1)
      rwa [show fuel + 1 + rest = fuel + rest + 1 by omega] at this
    · have hall : ∀ j ∈ Region.ready md ops listed, j < m := fun j hj => Classical.byContradiction fun hc => hx ⟨j, hj, hc⟩
      refine ⟨fun h0 => ?_, fun i hi => ?_⟩
      · exact wpAny_normal (h.1 (by rw [h0]; intro i hi; cases hi) w hw) h0
      · exact wpOp_of_qOp hw (fun a' w' hw' h' => wpAny_of_prefix2 (R := R) hg fuel _ a' w' (hS.put hi) hw' h') (h.2 i hi (hall i hi))

def tailB (n : Nat) (l : List Oper) : Bool := decide (n ≤ l.length) && Region.noSelect l.toArray && Region.sinkB .any l.toArray n && Region.chainB .any l.toArray n && lexTo .any l.toArray n n 0 (Array.replicate l.length false) && Region.seqB .any l.toArray (l.length - n) n (listedTo n 0 (Array.replicate l.length false))

theorem wp_region_tail {l : List Oper} {id : Nat} {Q : Exit → Act → World → Prop} {a : Act} {w : World} (n : Nat) (hm : P.follows .mixedOrders = true) (hB : tailB n l = true) (hC : C { w with drawn := w.drawn + 1 })
    (h : wpQuiet P l.toArray C (fun a' => ∀ w', C w' → wpList P l.toArray Q (l.drop n) a' w') (l.take n) a) : (Code.region id l.toArray true).wp P Q a w := by
  simp only [tailB, Bool.and_eq_true, decide_eq_true_eq] at hB
  obtain ⟨⟨⟨⟨⟨hn, h1⟩, h2⟩, h3⟩, h4⟩, h5⟩ := hB
  have e1 : (l.take n).length = n := by simp; omega
  have e2 : (l.drop n).length = l.length - n := by simp
  refine wp_region_any hm ?_
  have key := wpAnyP_lex (P := P) (C := C) (md := .any) (ops := l.toArray) (m := n) (R := fun listed a => ∀ w, C w → wpAny P .any l.toArray Q (l.length - n) listed a w) h1 (l.take n) 0 (Array.replicate l.length false) a
    (by intro j hj; rw [e1] at hj; simp [hj]) (by rw [e1]; exact h4) (by
      rw [e1]
      have mono : ∀ (l' : List Oper) (a : Act) (Q1 Q2 : Act → Prop), (∀ a, Q1 a → Q2 a) → wpQuiet P l.toArray C Q1 l' a → wpQuiet P l.toArray C Q2 l' a := by
        intro l'
        induction l' with
        | nil => intro a Q1 Q2 h12 hq; exact h12 a hq
        | cons o l' ih =>
          intro a Q1 Q2 h12 hq
          unfold wpQuiet at hq ⊢
          split
          · rename_i hw; rw [if_pos hw] at hq; exact Oper.quiet_mono (fun a' h' => ih a' Q1 Q2 h12 h') hq
          · rename_i hw; rw [if_neg hw] at hq; exact ih _ Q1 Q2 h12 hq
      refine mono _ _ _ _ (fun a' ha' w' hw' => ?_) h
      have := wpAny_of_seq (P := P) (md := .any) (ops := l.toArray) (Q' := Q) (l.drop n) n (listedTo n 0 (Array.replicate l.length false)) a' w' (by intro j; simp) (by rw [e2]; exact h5) (ha' w' hw')
      rwa [e2] at this)
  have := wpAny_of_prefix2 (R := fun _ _ => True) (Q := Q) (rest := l.length - n) (gate2 h2 h3) n (Array.replicate l.length false) a { w with drawn := w.drawn + 1 } (by intro k o hk; simp [Array.getElem?_replicate] at hk; split at hk <;> simp_all) hC (by rw [e1] at key; exact key)
  have e3 : n + (l.length - n) = l.length := by omega
  rw [e3] at this
  simpa using this
end

theorem wp_region_gr_tail {P : Program} {id : Nat} {Q : Exit → Act → World → Prop} {a : Act} {w : World} {l : List Oper} (n : Nat) (hm : P.follows .mixedOrders = true) (hB : tailB n l = true)
    (h : wpQuiet P l.toArray (fun w' => ∃ x : Gr w, w' = x.w) (fun a' => ∀ w', (∃ x : Gr w, w' = x.w) → wpList P l.toArray Q (l.drop n) a' w') (l.take n) a) : (Code.region id l.toArray true).wp P Q a w :=
  wp_region_tail (C := fun w' => ∃ x : Gr w, w' = x.w) n hm hB ⟨⟨_, (Below.refl _ _).drew⟩, rfl⟩ h
end Go.Proofs.Ytgbillimanpmnaa
