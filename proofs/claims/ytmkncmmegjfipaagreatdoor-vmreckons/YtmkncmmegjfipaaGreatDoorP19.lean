/- A region that draws its order: all that only reads (lengths too) comes first, in the worlds that meet S; behind which operations S is asked is told (nS): those behind which it isn't wait for all that is read. -/
import Derived.Test.YtmkncmmegjfipaaGreatDoorP18
import Derived.Test.YtmkncmmegjfipaaGreatDoorP17
import Derived.BigQuiet
namespace Go.Proofs.YtmkncmmegjfipaaGreatDoor
open Go Go.RowKit

section
variable {P : Program} {ops : Array Oper} {Q : Exit → Act → World → Prop} {md : Region.Mode} {S : Nat → World → Prop} {T : World → Prop}
/-- Number i is waited for by number j, by way of others too. -/
def ancB (md : Region.Mode) (ops : Array Oper) : Nat → Nat → Nat → Bool
  | 0, _, _ => false
  | k + 1, j, i => match ops[j]? with
    | some o => o.after.any fun e => Region.binds md e && (decide (e.on = i) || ancB md ops k e.on i)
    | none => false
theorem anc_listed {listed : Array Bool} (hS : Shut md ops listed) : ∀ (k j i : Nat) (oj : Oper), ops[j]? = some oj → (∀ e ∈ oj.after, Region.binds md e = true → listed.getD e.on false = true) → ancB md ops k j i = true → listed.getD i false = true
  | 0, _, _, _, _, _, h => by simp [ancB] at h
  | k + 1, j, i, oj, ho, hall, h => by
    simp only [ancB, ho, Array.any_eq_true', Bool.and_eq_true, Bool.or_eq_true, decide_eq_true_eq] at h
    obtain ⟨e, he, hb, h2⟩ := h
    have hl := hall e he hb
    rcases h2 with h2 | h2
    · rw [← h2]; exact hl
    · cases hq : ops[e.on]? with
      | none =>
        cases k with
        | zero => simp [ancB] at h2
        | succ k => simp [ancB, hq] at h2
      | some oq => exact anc_listed hS k e.on i oq hq (fun e2 he2 hb2 => hS e.on oq hl hq e2 he2 hb2) h2
def wpAnyX (P : Program) (md : Region.Mode) (ops : Array Oper) (Q : Exit → Act → World → Prop) (S : Nat → World → Prop) : Nat → Array Bool → Act → World → Prop
  | 0, listed, a, w => Region.ready md ops listed = [] ∧ Q .normal a w
  | fuel + 1, listed, a, w =>
    (Region.ready md ops listed = [] → Q .normal a w) ∧
    ∀ i ∈ Region.ready md ops listed, wpOp P ops Q i (fun a' w' => S i w' ∧ wpAnyX P md ops Q S fuel (listed.setIfInBounds i true) a' w') a w
theorem wpAny_of_X : ∀ (fuel : Nat) (listed : Array Bool) (a : Act) (w : World), wpAnyX P md ops Q S fuel listed a w → wpAny P md ops Q fuel listed a w
  | 0, _, _, _, h => h
  | fuel + 1, _, _, _, h => ⟨h.1, fun i hi => wpOp_mono (fun a' w' h' => wpAny_of_X fuel _ a' w' h'.2) (h.2 i hi)⟩
theorem wpAnyX_first {i : Nat} {oi : Oper} {v : Value} (hi : ops[i]? = some oi) (hsel : ∀ (j : Nat) (o : Oper) cs b, ops[j]? = some o → o.op ≠ .select cs b)
    (hQ : ∀ c a w, Q (.panic c) (a.put oi.dst v) w → Q (.panic c) a w) (hTi : ∀ w, T w → S i w) :
    ∀ (fuel : Nat) (listed : Array Bool) (a : Act) (w : World), Shut md ops listed → (∀ j, j < ops.size → listed.getD j false = false → j ≠ i → ancB md ops ops.size j i = true ∨ ∀ w, S j w → T w) →
      (∀ j oj, ops[j]? = some oj → j ≠ i → listed.getD j true = false → (∀ e ∈ oj.after, Region.binds md e = true → e.on ≠ i) → oi.apart ops oj = true) →
      i ∈ Region.ready md ops listed → YieldsIf P ops T oi v a → T w →
      wpAnyX P md ops Q S fuel (listed.setIfInBounds i true) (a.put oi.dst v) w → wpAnyX P md ops Q S (fuel + 1) listed a w := by
  intro fuel
  induction fuel with
  | zero =>
    intro listed a w _ _ _ hr hy hS H
    refine ⟨fun h => (by rw [h] at hr; cases hr), fun j hj => ?_⟩
    by_cases hji : j = i
    · subst hji; exact hy.wpOp hi hS ⟨hTi _ hS, H⟩
    · have := ready_mono hj hji
      rw [H.1] at this
      cases this
  | succ fuel ih =>
    intro listed a w hShut hup hfree hr hy hS H
    refine ⟨fun h => (by rw [h] at hr; cases hr), fun j hj => ?_⟩
    by_cases hji : j = i
    · subst hji; exact hy.wpOp hi hS ⟨hTi _ hS, H⟩
    · have h1 := H.2 j (ready_mono hj hji)
      obtain ⟨hjun, oj, hoj, hall⟩ := mem_ready.1 hj
      have hjl : listed.getD j false = false := by
        rcases Nat.lt_or_ge j listed.size with h' | h'
        · have := hjun; simp [h'] at this ⊢; exact this
        · simp [Array.getElem?_eq_none h']
      have hjm : ∀ w, S j w → T w := by
        rcases hup j (Array.getElem?_eq_some_iff.1 hoj).1 hjl hji with hn | hn
        · exfalso
          have h2 := anc_listed hShut ops.size j i oj hoj hall hn
          have h3 := (mem_ready.1 hr).1
          rcases Nat.lt_or_ge i listed.size with h' | h'
          · simp [h'] at h2 h3; rw [h2] at h3; cases h3
          · simp [Array.getElem?_eq_none h'] at h2
        · exact hn
      have hnot : ∀ e ∈ oj.after, Region.binds md e = true → e.on ≠ i := fun e he hb heq => by
        have h1 := hall e he hb
        have h0 := (mem_ready.1 hr).1
        rw [heq] at h1
        rcases Nat.lt_or_ge i listed.size with h' | h'
        · simp [h'] at h0 h1; rw [h0] at h1; cases h1
        · simp [Array.getElem?_eq_none h'] at h1
      have h2 := wpOp_putIf hoj (hfree j oj hoj hji hjun hnot) (fun cs b => hsel i oi cs b hi) (fun cs b => hsel j oj cs b hoj) hQ hy h1
      have hfree' : ∀ k ok, ops[k]? = some ok → k ≠ i → (listed.setIfInBounds j true).getD k true = false →
          (∀ e ∈ ok.after, Region.binds md e = true → e.on ≠ i) → oi.apart ops ok = true := fun k ok hk hki hun hno => by
        refine hfree k ok hk hki ?_ hno
        by_cases hjk : j = k
        · subst hjk; exact hjun
        · rw [getD_set_ne true hjk] at hun; exact hun
      refine wpOp_mono (fun a' w' h3 => ⟨h3.2.1, ih (listed.setIfInBounds j true) a' w' (hShut.put hj) (fun k hk hun hki => hup k hk (by
        by_cases hjk : j = k
        · subst hjk; exact hjl
        · rw [getD_set_ne false hjk] at hun; exact hun) hki) hfree' (ready_mono hr (Ne.symm hji)) h3.1 (hjm _ h3.2.1) ?_⟩) h2
      rw [Array.setIfInBounds_comm _ _ hji]
      exact h3.2.2
def AllReadyX (P : Program) (md : Region.Mode) (ops : Array Oper) (Q : Exit → Act → World → Prop) (S : Nat → World → Prop) (fuel : Nat) (listed : Array Bool) (a : Act) (w : World) (rs : List Nat) : Prop :=
  ∀ i ∈ rs, wpOp P ops Q i (fun a' w' => S i w' ∧ wpAnyX P md ops Q S fuel (listed.setIfInBounds i true) a' w') a w
theorem AllReadyX.nil {fuel : Nat} {listed : Array Bool} {a : Act} {w : World} : AllReadyX P md ops Q S fuel listed a w [] := fun _ h => by cases h
theorem AllReadyX.cons {fuel : Nat} {listed : Array Bool} {a : Act} {w : World} {i : Nat} {o : Oper} {rs : List Nat} (ho : ops[i]? = some o)
    (h : ∀ K' : Act → World → Prop, Hid (∀ a w, S i w → wpAnyX P md ops Q S fuel (listed.setIfInBounds i true) a w → K' a w) → if Region.wanted o (yielded ops a.tmps) = true then Oper.wp P o a w K' Q else K' (a.put o.dst undef) w)
    (hs : AllReadyX P md ops Q S fuel listed a w rs) : AllReadyX P md ops Q S fuel listed a w (i :: rs) := fun j hj => by
  rcases List.mem_cons.1 hj with rfl | hj
  · exact wpOp_step ho (fun K' hK => h K' (fun a w hS hW => hK a w ⟨hS, hW⟩))
  · exact hs j hj
theorem wpAnyX_ready {rs : List Nat} {fuel : Nat} {listed : Array Bool} {a : Act} {w : World} (hr : Region.ready md ops listed = rs) (hne : rs ≠ [])
    (h : AllReadyX P md ops Q S fuel listed a w rs) : wpAnyX P md ops Q S (fuel + 1) listed a w := ⟨fun h0 => absurd (hr.symm.trans h0) hne, fun i hi => h i (by rw [← hr]; exact hi)⟩
theorem wpAnyX_done {listed : Array Bool} {a : Act} {w : World} (hr : Region.ready md ops listed = []) (h : Q .normal a w) : ∀ fuel, wpAnyX P md ops Q S fuel listed a w
  | 0 => ⟨hr, h⟩
  | _ + 1 => ⟨fun _ => h, fun i hi => by rw [hr] at hi; cases hi⟩
def isReadV (o : Oper) : Bool := isReadQ o || match o.op with
  | .call c => match c.callee with
    | .builtin .len => true
    | _ => false
  | _ => false
theorem readV_value {o : Oper} (h : isReadV o = true) (ρ : Operand → Value) (w w' : World) (n : Next) (hr : (execOp ρ o).run P w = .ok n w') : ∃ u, n = .value u := by
  unfold isReadV at h
  by_cases hq : isReadQ o = true
  · exact readQ_value hq ρ w w' n hr
  · rw [show isReadQ o = false by simpa using hq, Bool.false_or] at h
    cases ho : o.op
    case call c =>
      rw [ho] at h
      cases hc : c.callee
      case builtin b =>
        simp only [hc] at h
        cases b
        case len =>
          unfold execOp at hr
          rw [ho] at hr
          simp only [resolve, hc, Sem.run_bind, Sem.run_pure, Result.andThen_ok, invoke, builtin] at hr
          cases hq2 : (Builtin.len_ c.argTypes o.type (c.args.map ρ)).run P w with
          | ok v w2 => rw [hq2] at hr; simp only [Result.andThen_ok] at hr; exact ⟨v, (Result.ok.inj hr).1.symm⟩
          | halt x w2 => rw [hq2] at hr; simp [Result.andThen] at hr
        all_goals cases h
      all_goals (simp only [hc] at h; cases h)
    all_goals (rw [ho] at h; cases h)
theorem yieldsIf_of_quietV {S : World → Prop} {o : Oper} {a : Act} {K : Act → Prop} (hr : isReadV o = true) (h : if Region.wanted o (yielded ops a.tmps) then o.quiet P a S K else K (a.put o.dst undef)) : ∃ v, YieldsIf P ops S o v a ∧ K (a.put o.dst v) := by
  by_cases hw : Region.wanted o (yielded ops a.tmps) = true
  · rw [if_pos hw] at h
    obtain ⟨v, h1, h2⟩ := h
    refine ⟨v, Or.inl ⟨hw, fun w hS => ?_⟩, h2⟩
    have h3 := h1 w hS
    unfold Oper.quietAt at h3
    cases hq : (execOp a.eval o).run P w with
    | ok n w' =>
      obtain ⟨u, rfl⟩ := readV_value hr _ _ _ _ hq
      rw [hq] at h3
      simp only [Oper.quietUpon] at h3
      rw [h3.1, h3.2]
    | halt x w' => rw [hq] at h3; simp only [Oper.quietUpon] at h3
  · rw [if_neg hw] at h
    exact ⟨undef, Or.inr ⟨by simpa using hw, rfl⟩, h⟩
def lexV (ops : Array Oper) (nT : Nat → Bool) : List Nat → List Oper → Array Bool → Bool
  | [], [], _ => true
  | i :: js, o :: l, listed => isReadV o && (Region.ready .any ops listed).contains i && Region.free .any ops listed i && ((List.range ops.size).all fun j => listed.getD j false || decide (j = i) || nT j || ancB .any ops ops.size j i) && lexV ops nT js l (listed.setIfInBounds i true)
  | _, _, _ => false
theorem wpAnyX_readsV {K : Act → Prop} {rest : Nat} {w : World} (nT : Nat → Bool) (hnT : ∀ j, nT j = true → ∀ w, S j w → T w) (hs : Region.noSelect ops = true) (hQ : ∀ c a d v w, Q (.panic c) (Act.put a d v) w → Q (.panic c) a w) (hS : T w) : ∀ (js : List Nat) (l : List Oper) (listed : Array Bool) (a : Act), Shut .any ops listed → (∀ i ∈ js, ∀ w, T w → S i w) → (∀ j, j < l.length → ∃ i, js[j]? = some i ∧ ops[i]? = l[j]?) →
    lexV ops nT js l listed = true → wpQuiet P ops T K l a → (∀ a', K a' → wpAnyX P .any ops Q S rest (listedI js listed) a' w) → wpAnyX P .any ops Q S (js.length + rest) listed a w
  | [], [], _, _, _, _, _, _, h, hK => by simpa [listedI] using hK _ h
  | [], _ :: _, _, _, _, _, _, hB, _, _ => by simp [lexV] at hB
  | _ :: _, [], _, _, _, _, _, hB, _, _ => by simp [lexV] at hB
  | i :: js, o :: l, listed, a, hSh, hjm, hl, hB, h, hK => by
    have h0 : ops[i]? = some o := by
      obtain ⟨i', h1, h2⟩ := hl 0 (by simp)
      have : i = i' := by simpa using h1
      subst this
      simpa using h2
    simp only [lexV, Bool.and_eq_true] at hB
    obtain ⟨⟨⟨⟨hr, hc⟩, hf⟩, hu⟩, hB'⟩ := hB
    have h' : if Region.wanted o (yielded ops a.tmps) then o.quiet P a T (wpQuiet P ops T K l) else wpQuiet P ops T K l (a.put o.dst undef) := h
    obtain ⟨v, hy, hk⟩ := yieldsIf_of_quietV (ops := ops) hr h'
    rw [show (i :: js).length + rest = (js.length + rest) + 1 by simp; omega]
    have hmem : i ∈ Region.ready .any ops listed := by simpa using hc
    exact wpAnyX_first h0 (Region.noSelect_spec hs) (fun c a w => hQ c a _ _ w) (hjm i (by simp)) _ listed a w hSh (fun j hj hun hji => by
      have h9 := List.all_eq_true.1 hu j (List.mem_range.2 hj)
      rw [hun, decide_eq_false hji, Bool.false_or, Bool.false_or, Bool.or_eq_true] at h9
      rcases h9 with h9 | h9
      · exact Or.inr (hnT j h9)
      · exact Or.inl h9) (Region.free_spec h0 hf) hmem hy hS (wpAnyX_readsV nT hnT hs hQ hS js l _ _ (hSh.put hmem) (fun i hi => hjm i (List.mem_cons_of_mem _ hi)) (fun j hj => by
      obtain ⟨i', h1, h2⟩ := hl (j + 1) (by simp; omega)
      exact ⟨i', by simpa using h1, by simpa using h2⟩) hB' hk hK)
end
/-- Such a region: S tells what is asked behind each operation; T, where what is read first is read. -/
theorem wp_region_readsX {P : Program} {Q : Exit → Act → World → Prop} {id : Nat} {a : Act} {w : World} {l : List Oper} (S : Nat → World → Prop) (T : World → Prop) (nT : Nat → Bool) (js : List Nat) (rest : Nat) (hm : P.follows .mixedOrders = true) (hlen : l.length = js.length + rest) (hB : (Region.noSelect l.toArray && lexV l.toArray nT js (js.filterMap (l[·]?)) (Array.replicate l.length false) && (js.all fun i => decide (i < l.length))) = true)
    (hnT : ∀ j, nT j = true → ∀ w, S j w → T w) (hTi : ∀ i ∈ js, ∀ w, T w → S i w) (hS : T w.drew)
    (h : wpQuiet P l.toArray (fun u => ∃ x : Wd T, u = x.w) (fun a' => wpAnyX P .any l.toArray (NoPanM Q) S rest (listedI js (Array.replicate l.length false)) a' w.drew) (js.filterMap (l[·]?)) a) : (Code.region id l.toArray true).wp P Q a w := by
  refine Code.wp_mono (fun _ _ _ h => h.2) (Q := NoPanM Q) ?_
  simp only [Bool.and_eq_true] at hB
  obtain ⟨⟨h1, h2⟩, h5⟩ := hB
  have e3 : Array.replicate l.toArray.size false = Array.replicate l.length false := by simp
  have e2 : l.toArray.size = js.length + rest := by simpa using hlen
  have eS : (fun u : World => ∃ x : Wd T, u = x.w) = T := by
    funext u; apply propext
    exact ⟨fun ⟨x, hx⟩ => hx ▸ x.2, fun h => ⟨⟨u, h⟩, rfl⟩⟩
  rw [eS] at h
  refine wp_region_any hm (wpAny_of_X _ _ _ _ (S := S) ?_)
  rw [e3, e2]
  exact wpAnyX_readsV nT hnT h1 (fun c _ _ _ _ h => absurd rfl (h.1 c)) hS js _ _ a (by intro k o hk; simp [Array.getElem?_replicate] at hk; split at hk <;> simp_all) hTi (hj_ofQ h5) h2 h (fun a' h => h)
/-- The same, one thing asked behind some operations (nS). -/
theorem wp_region_readsV {P : Program} {Q : Exit → Act → World → Prop} {id : Nat} {a : Act} {w : World} {l : List Oper} (S : World → Prop) (nS : Nat → Bool) (js : List Nat) (rest : Nat) (hm : P.follows .mixedOrders = true) (hlen : l.length = js.length + rest) (hB : (Region.noSelect l.toArray && lexV l.toArray nS js (js.filterMap (l[·]?)) (Array.replicate l.length false) && (js.all fun i => decide (i < l.length))) = true) (hS : S w.drew)
    (h : wpQuiet P l.toArray (fun u => ∃ x : Wd S, u = x.w) (fun a' => wpAnyX P .any l.toArray (NoPanM Q) (fun i q => nS i = true → S q) rest (listedI js (Array.replicate l.length false)) a' w.drew) (js.filterMap (l[·]?)) a) : (Code.region id l.toArray true).wp P Q a w :=
  wp_region_readsX (fun i q => nS i = true → S q) S nS js rest hm hlen hB (fun _ h _ k => k h) (fun _ _ _ h _ => h) hS h
theorem shut_rep (md : Region.Mode) (ops : Array Oper) (n : Nat) : Shut md ops (Array.replicate n false) := by
  intro k o hk
  simp [Array.getElem?_replicate] at hk
  split at hk <;> simp_all
def shutB (ops : Array Oper) (listed : Array Bool) : Bool := (List.range ops.size).all fun k => !(listed.getD k false) || match ops[k]? with
  | some o => o.after.all fun e => !(Region.binds .any e) || listed.getD e.on false
  | none => true
theorem shutB_spec {ops : Array Oper} {listed : Array Bool} (h : shutB ops listed = true) : Shut .any ops listed := by
  intro k o hk ho e he hb
  have h1 := List.all_eq_true.1 h k (List.mem_range.2 (Array.getElem?_eq_some_iff.1 ho).1)
  rw [hk, Bool.not_true, Bool.false_or, ho] at h1
  have h2 := Array.all_eq_true'.1 h1 e he
  rw [hb, Bool.not_true, Bool.false_or] at h2
  exact h2
/-- Further on in such a region: all that only reads. -/
theorem wpAnyX_mid {P : Program} {l : List Oper} {Q : Exit → Act → World → Prop} {S : Nat → World → Prop} (T : World → Prop) (nT : Nat → Bool) (js : List Nat) {rest fuel : Nat} {listed : Array Bool} {a : Act} {w : World} (hf : fuel = js.length + rest) (hB : (Region.noSelect l.toArray && lexV l.toArray nT js (js.filterMap (l[·]?)) listed && (js.all fun i => decide (i < l.length)) && shutB l.toArray listed) = true)
    (hnT : ∀ j, nT j = true → ∀ w, S j w → T w) (hTi : ∀ i ∈ js, ∀ w, T w → S i w) (hS : T w)
    (h : wpQuiet P l.toArray (fun u => ∃ x : Wd T, u = x.w) (fun a' => wpAnyX P .any l.toArray (NoPanM Q) S rest (listedI js listed) a' w) (js.filterMap (l[·]?)) a) : wpAnyX P .any l.toArray (NoPanM Q) S fuel listed a w := by
  simp only [Bool.and_eq_true] at hB
  obtain ⟨⟨⟨h1, h2⟩, h5⟩, h6⟩ := hB
  have eS : (fun u : World => ∃ x : Wd T, u = x.w) = T := by
    funext u; apply propext
    exact ⟨fun ⟨x, hx⟩ => hx ▸ x.2, fun h => ⟨⟨u, h⟩, rfl⟩⟩
  rw [eS] at h
  rw [hf]
  exact wpAnyX_readsV nT hnT h1 (fun c _ _ _ _ h => absurd rfl (h.1 c)) hS js _ _ a (shutB_spec h6) hTi (hj_ofQ h5) h2 h (fun a' h => h)
end Go.Proofs.YtmkncmmegjfipaaGreatDoor

/- Layer 18: the frame that runs, its cells; stores into parts of blocks. -/
namespace Go.Proofs.YtmkncmmegjfipaaGreatDoor
open Go Go.RowKit

theorem seg_step (c : List Value) (o : Nat) (v : Value) (vs : List Value) (h : o + (vs.length + 1) ≤ c.length) : (c.set o v).take (o + 1) ++ vs ++ (c.set o v).drop (o + 1 + vs.length) = c.take o ++ (v :: vs) ++ c.drop (o + (vs.length + 1)) := by
  rw [List.take_set, List.drop_set_of_lt (by omega)]
  have e1 : (c.take (o + 1)).set o v = c.take o ++ [v] := by
    apply List.ext_getElem?
    intro j
    rw [List.getElem?_set]
    by_cases e : o = j
    · subst e
      have e2 : (c.take o).length = o := by rw [List.length_take]; omega
      rw [if_pos rfl, if_pos (by rw [List.length_take]; omega), List.getElem?_append_right (by omega), e2, Nat.sub_self]
      rfl
    · rw [if_neg e, List.getElem?_take]
      by_cases hj : j < o
      · rw [if_pos (by omega), List.getElem?_append_left (by simp; omega), List.getElem?_take, if_pos hj]
      · rw [if_neg (by omega), List.getElem?_eq_none (by simp; omega)]
  rw [e1, show o + 1 + vs.length = o + (vs.length + 1) by omega]
  simp
theorem wroteV {B : Nat} {t : TypeId} : ∀ (vs : List Value) (o : Nat) (w : World) (c : List Value), Blk w B c t → o + vs.length ≤ c.length → WroteB w (w.setCells B o vs) B (c.take o ++ vs ++ c.drop (o + vs.length)) t
  | [], o, w, c, h, _ => by
    have e : c.take o ++ [] ++ c.drop (o + ([] : List Value).length) = c := by simp
    rw [e]
    exact ⟨h, fun _ _ => rfl, rfl, fun _ hb => hb⟩
  | v :: vs, o, w, c, h, hl => by
    have h1 := WroteB.cell1 h o v
    have h2 := wroteV vs (o + 1) _ _ h1.blk (by simp at hl ⊢; omega)
    rw [seg_step c o v vs (by simpa using hl)] at h2
    exact ⟨h2.blk, fun b hb => (h2.other b hb).trans (h1.other b hb), h2.size.trans h1.size, fun hB hb => h2.below hB (h1.below hB hb)⟩
theorem Ch.blk {R : Nat → Prop} {ρ ρ' : Nat → Nat} {w w' : World} {B : Nat} {c : List Value} {t : TypeId} (h : Ch R ρ ρ' w w') (hb : Blk w B c t) (hr : ¬ R (ρ B)) : Blk w' B c t := by unfold Blk; rw [h.block B hb.lt hr]; exact hb
theorem Ch.rl {R : Nat → Prop} {ρ ρ' : Nat → Nat} {w w' : World} {B : Nat} {c : List Value} {t : TypeId} {q : Nat} (h : Ch R ρ ρ' w w') (hb : Blk w B c t) (hr : ρ B = q) : ρ' B = q := (h.role B hb.lt).trans hr
theorem WroteB.over {w u x : World} {B : Nat} {c c' : List Value} {t : TypeId} (h : WroteB w u B c t) (k : WroteB u x B c' t) : WroteB w x B c' t :=
  ⟨k.blk, fun b hb => (k.other b hb).trans (h.other b hb), k.size.trans h.size, fun hB hb => k.below hB (h.below hB hb)⟩
theorem wp_store_seg {w : World} {o : Oper} {a : Act} {K : Act → World → Prop} {Q : Exit → Act → World → Prop} (t : TypeId) (p x : Operand) (ho : o.op = .store t p x) (hdst : o.dst = none) (B i : Nat) (vs : List Value)
    (hp : a.eval p = .pointer (some ⟨B, i, none⟩)) (hx : a.eval x = .agg vs.toArray) (h1 : vs.all (·.oneCell') = true) {c : List Value} {T : TypeId} (hb : Blk w B c T) (hl : i + vs.length ≤ c.length) (hi : (Tryz.prog.info? t).map (·.size) = some vs.toArray.size)
    (h : ∀ w', WroteB w w' B (c.take i ++ vs ++ c.drop (i + vs.length)) T → K a w') : o.wp Tryz.prog a w K Q := by
  refine wp_store_mid t p x ho B i vs.toArray hp hx ?_ hi (by simpa using h1) ?_
  · intro j hj
    have hj' : j < vs.length := by simpa using hj
    have := hb.there (i + j) (by omega)
    simpa using this
  · have e : a.put o.dst undef = a := by rw [hdst]; rfl
    rw [e]
    exact h _ (wroteV vs i w c hb hl)
/-- A few cells of a block stored. -/
theorem wpList_store_seg {w : World} {ops : Array Oper} {rest : List Oper} {o : Oper} {a : Act} {Q : Exit → Act → World → Prop} (hgd : o.guard = none) (hdst : o.dst = none) (t : TypeId) (p x : Operand) (ho : o.op = .store t p x) (B i : Nat) (vs : List Value)
    (hp : a.eval p = .pointer (some ⟨B, i, none⟩)) (hx : a.eval x = .agg vs.toArray) (h1 : vs.all (·.oneCell') = true) {c : List Value} {T : TypeId} (hb : Blk w B c T) (hl : i + vs.length ≤ c.length) (hi : (Tryz.prog.info? t).map (·.size) = some vs.toArray.size)
    (h : ∀ w', WroteB w w' B (c.take i ++ vs ++ c.drop (i + vs.length)) T → wpList Tryz.prog ops Q rest a w') : wpList Tryz.prog ops Q (o :: rest) a w := by
  refine wpList_store_mid hgd t p x ho B i vs.toArray hp hx ?_ hi (by simpa using h1) ?_
  · intro j hj
    have hj' : j < vs.length := by simpa using hj
    have := hb.there (i + j) (by omega)
    simpa using this
  · rw [hdst]
    exact h _ (wroteV vs i w c hb hl)
/-- The frame that runs: the last one, in block g. -/
structure Tp (cl : Kl) (w0 : World) (B : Nat) (ρ : Nat → Nat) (m : Mc) (r : List Fr) (f : Fr) (g : Nat) (w : World) : Prop where
  M : MAt cl w0 B ρ m w
  e : m.fs = r ++ [f]
  v : ∃ cap, m.fv = .slice (some ⟨g, 0, none⟩) (m.fs ++ m.dd).length cap
def Mc.top (m : Mc) (r : List Fr) (f : Fr) : Mc := { m with fs := r ++ [f] }
theorem Tp.pos {cl : Kl} {w0 : World} {B : Nat} {ρ : Nat → Nat} {m : Mc} {r : List Fr} {f : Fr} {g : Nat} {w : World} (h : Tp cl w0 B ρ m r f g w) : 0 < (m.fs ++ m.dd).length := by rw [h.e]; simp; omega
theorem Tp.blk {cl : Kl} {w0 : World} {B : Nat} {ρ : Nat → Nat} {m : Mc} {r : List Fr} {f : Fr} {g : Nat} {w : World} (h : Tp cl w0 B ρ m r f g w) : ∃ cap ys, m.fv = .slice (some ⟨g, 0, none⟩) (m.fs ++ m.dd).length cap ∧ w0.heap.size ≤ g ∧ Blk w g (frs cl (m.fs ++ m.dd) ++ ys) 120 ∧ (m.fs ++ m.dd).length ≤ cap ∧ cap ≤ maxLen ∧ (frs cl (m.fs ++ m.dd) ++ ys).length = cap * 7 ∧ ρ g = 2 := by
  obtain ⟨g2, cap, ys, e, rest⟩ := h.M.f.blk h.pos
  obtain ⟨cap2, e2⟩ := h.v
  rw [e] at e2
  simp only [Value.slice.injEq, Option.some.injEq, Addr.mk.injEq, and_true, true_and] at e2
  obtain ⟨rfl, rfl⟩ := e2
  exact ⟨cap, ys, e, rest⟩
theorem frs_top (cl : Kl) (r : List Fr) (f : Fr) (d : List Fr) (ys : List Value) : frs cl (r ++ [f] ++ d) ++ ys = frs cl r ++ (f.vs cl ++ (frs cl d ++ ys)) := by rw [frs_app, frs_app, frs_one, List.append_assoc, List.append_assoc, ← List.append_assoc (f.vs cl), List.append_assoc (f.vs cl)]
theorem Tp.cell {cl : Kl} {w0 : World} {B : Nat} {ρ : Nat → Nat} {m : Mc} {r : List Fr} {f : Fr} {g : Nat} {w : World} (h : Tp cl w0 B ρ m r f g w) (j : Nat) {v : Value} (hv : (f.vs cl)[j]? = some v) : w.cell? ⟨g, r.length * 7 + j, none⟩ = some v := by
  obtain ⟨cap, ys, _, _, hb, _⟩ := h.blk
  refine hb.cell _ ?_
  have hj : j < 7 := (List.getElem?_eq_some_iff.1 hv).1
  rw [h.e, frs_top, List.getElem?_append_right (by rw [frs_len]; omega), frs_len, show r.length * 7 + j - r.length * 7 = j by omega, List.getElem?_append_left (by rw [Fr.vs_len]; exact hj)]
  exact hv
theorem Tp.kept {cl : Kl} {w0 : World} {B : Nat} {ρ : Nat → Nat} {m : Mc} {r : List Fr} {f : Fr} {g : Nat} {w w' : World} (h : Tp cl w0 B ρ m r f g w) (hb : Below w.heap.size w w') : Tp cl w0 B ρ m r f g w' := ⟨h.M.kept hb, h.e, h.v⟩
theorem Tp.keep {cl : Kl} {w0 : World} {B : Nat} {ρ ρ' : Nat → Nat} {m : Mc} {r : List Fr} {f : Fr} {g : Nat} {w w' : World} (h : Tp cl w0 B ρ m r f g w) (k : Ch (fun r => r = 5) ρ ρ' w w') : Tp cl w0 B ρ' m r f g w' := ⟨h.M.keep k, h.e, h.v⟩
theorem Tp.fr {cl : Kl} {w0 : World} {B : Nat} {ρ : Nat → Nat} {m : Mc} {r : List Fr} {f : Fr} {g : Nat} {w : World} (h : Tp cl w0 B ρ m r f g w) : FrAt cl w0 ρ r.length f w := h.M.fr r.length f (by rw [h.e]; simp)
theorem Tp.gne {cl : Kl} {w0 : World} {B : Nat} {ρ : Nat → Nat} {m : Mc} {r : List Fr} {f : Fr} {g : Nat} {w : World} (h : Tp cl w0 B ρ m r f g w) : ρ g = 2 := by obtain ⟨_, _, _, _, _, _, _, _, e⟩ := h.blk; exact e
theorem Blk.inj {w : World} {B : Nat} {c d : List Value} {t u : TypeId} (h : Blk w B c t) (k : Blk w B d u) : c = d := by
  unfold Blk at h k
  rw [h] at k
  injection k with k
  injection k with k
  have := congrArg Array.toList k
  simpa using this
theorem Tp.there {cl : Kl} {w0 : World} {B : Nat} {ρ : Nat → Nat} {m : Mc} {r : List Fr} {f : Fr} {g : Nat} {w : World} (h : Tp cl w0 B ρ m r f g w) : ∃ c, Blk w g c 120 ∧ r.length * 7 + 7 ≤ c.length := by
  obtain ⟨cap, ys, _, _, hb, _⟩ := h.blk
  exact ⟨_, hb, by rw [h.e, frs_top, List.length_append, frs_len, List.length_append, Fr.vs_len]; omega⟩
/-- One of its cells stored, behind a change of its own rows alone. -/
theorem Tp.set {cl : Kl} {w0 : World} {B : Nat} {ρ ρ1 : Nat → Nat} {m : Mc} {r : List Fr} {f f' : Fr} {g j : Nat} {u : Value} {w w1 w' : World} (h : Tp cl w0 B ρ m r f g w) (k : Ch (fun x => x = 6 + 2 * r.length ∨ x = 7 + 2 * r.length) ρ ρ1 w w1) (hf' : FrAt cl w0 ρ1 r.length f' w1) (hj : j < 7) (he : f'.vs cl = (f.vs cl).set j u)
    {c : List Value} (hc : Blk w1 g c 120) (W : WroteB w1 w' g (c.set (r.length * 7 + j) u) 120) : Tp cl w0 B ρ1 (m.top r f') r f' g w' := by
  obtain ⟨cap, ys, ev, hg, hb, h1, h2, h3, hr⟩ := h.blk
  have hb1 : Blk w1 g (frs cl (m.fs ++ m.dd) ++ ys) 120 := by unfold Blk; rw [k.block g hb.lt (by rw [hr]; omega)]; exact hb
  have ec := Blk.inj hc hb1
  subst ec
  have W1 := W
  have e2 : (frs cl (m.fs ++ m.dd) ++ ys).set (r.length * 7 + j) u = frs cl (r ++ [f'] ++ m.dd) ++ ys := by
    rw [h.e, frs_top, frs_top, List.set_append_right _ _ (by rw [frs_len]; omega), frs_len, show r.length * 7 + j - r.length * 7 = j by omega, List.set_append_left _ _ (by rw [Fr.vs_len]; exact hj), he]
  rw [e2] at W1
  exact ⟨h.M.setTop h.e k hf' ev ⟨hg, hr, hb.lt⟩ ⟨h1, h2⟩ h3 W1, rfl, ⟨cap, by show m.fv = .slice _ (r ++ [f'] ++ m.dd).length cap; rw [ev, h.e]; simp⟩⟩
theorem results_row2V {T : TypeId} {d : TypeDesc} {fn : Func} {tmps : Array Value} {k q B : Nat} {vs : List Value} {w : World} (hu : Tryz.prog.underlying T = some d) (hd : d.isRow = true) (hi : (Tryz.prog.info? T).map (·.size) = some vs.length) (hf : fn.results = #[.cell k T, .tmp q]) (ht : tmps.getD k undef = .pointer (some ⟨B, 0, none⟩)) {v : Value} (hq : tmps.getD q undef = v) (h : w.rangeAt B 0 vs) : (results fn tmps).run Tryz.prog w = .ok (.tuple #[.agg vs.toArray, v]) w := by
  have h : (loadVar T ⟨B, 0, none⟩).run Tryz.prog w = .ok (.agg vs.toArray) w := run_loadAt_mid w B 0 T vs d h hu hd hi
  have ha : (asAddr (tmps[k]?.getD undef)).run Tryz.prog w = .ok ⟨B, 0, none⟩ w := by rw [show tmps[k]?.getD undef = .pointer (some ⟨B, 0, none⟩) by simpa using ht]; rfl
  have hv : tmps[q]?.getD undef = v := by simpa using hq
  unfold results
  rw [hf]
  simp [ha, h, hv]
theorem results_rowV {T : TypeId} {d : TypeDesc} {fn : Func} {tmps : Array Value} {k B : Nat} {vs : List Value} {w : World} (hu : Tryz.prog.underlying T = some d) (hd : d.isRow = true) (hi : (Tryz.prog.info? T).map (·.size) = some vs.length) (hf : fn.results = #[.cell k T]) (ht : tmps.getD k undef = .pointer (some ⟨B, 0, none⟩)) (h : w.rangeAt B 0 vs) : (results fn tmps).run Tryz.prog w = .ok (.agg vs.toArray) w := by
  have h : (loadVar T ⟨B, 0, none⟩).run Tryz.prog w = .ok (.agg vs.toArray) w := run_loadAt_mid w B 0 T vs d h hu hd hi
  have ha : (asAddr (tmps[k]?.getD undef)).run Tryz.prog w = .ok ⟨B, 0, none⟩ w := by rw [show tmps[k]?.getD undef = .pointer (some ⟨B, 0, none⟩) by simpa using ht]; rfl
  unfold results
  rw [hf]
  simp [ha, h]
theorem results_row3V {T : TypeId} {d : TypeDesc} {fn : Func} {tmps : Array Value} {k k2 q B B2 : Nat} {vs vs2 : List Value} {w : World} (hu : Tryz.prog.underlying T = some d) (hd : d.isRow = true) (hi : (Tryz.prog.info? T).map (·.size) = some vs.length) (hi2 : (Tryz.prog.info? T).map (·.size) = some vs2.length) (hf : fn.results = #[.cell k T, .cell k2 T, .tmp q]) (ht : tmps.getD k undef = .pointer (some ⟨B, 0, none⟩)) (ht2 : tmps.getD k2 undef = .pointer (some ⟨B2, 0, none⟩)) {v : Value} (hq : tmps.getD q undef = v) (h : w.rangeAt B 0 vs) (h2 : w.rangeAt B2 0 vs2) : (results fn tmps).run Tryz.prog w = .ok (.tuple #[.agg vs.toArray, .agg vs2.toArray, v]) w := by
  have h : (loadVar T ⟨B, 0, none⟩).run Tryz.prog w = .ok (.agg vs.toArray) w := run_loadAt_mid w B 0 T vs d h hu hd hi
  have h2 : (loadVar T ⟨B2, 0, none⟩).run Tryz.prog w = .ok (.agg vs2.toArray) w := run_loadAt_mid w B2 0 T vs2 d h2 hu hd hi2
  have ha : (asAddr (tmps[k]?.getD undef)).run Tryz.prog w = .ok ⟨B, 0, none⟩ w := by rw [show tmps[k]?.getD undef = .pointer (some ⟨B, 0, none⟩) by simpa using ht]; rfl
  have ha2 : (asAddr (tmps[k2]?.getD undef)).run Tryz.prog w = .ok ⟨B2, 0, none⟩ w := by rw [show tmps[k2]?.getD undef = .pointer (some ⟨B2, 0, none⟩) by simpa using ht2]; rfl
  have hv : tmps[q]?.getD undef = v := by simpa using hq
  unfold results
  rw [hf]
  simp [ha, h, ha2, h2, hv]
/-- The machine's own block stored into. -/
theorem Tp.box {cl : Kl} {w0 : World} {B : Nat} {ρ : Nat → Nat} {m m' : Mc} {r : List Fr} {f : Fr} {g : Nat} {w w' : World} (h : Tp cl w0 B ρ m r f g w) (W : WroteB w w' B (m'.vs cl) 83) (ec : m'.cv = m.cv ∧ m'.ce = m.ce) (et : m'.tv = m.tv ∧ m'.tr = m.tr) (ef : m'.fv = m.fv ∧ m'.fs = m.fs ∧ m'.dd = m.dd) (hl : VOk ρ w m'.la) : Tp cl w0 B ρ m' r f g w' :=
  ⟨h.M.box W ec et ef hl, by rw [ef.2.1]; exact h.e, by rw [ef.1, ef.2.1, ef.2.2]; exact h.v⟩
theorem quiet_load_rowV {C : World → Prop} {K : Act → Prop} {a : Act} {o : Oper} (ty : TypeId) (x : Operand) (ho : o.op = .load ty x) (b oo : Nat) (hx : a.eval x = .pointer (some ⟨b, oo, none⟩)) (cs : List Value) (d : TypeDesc) (hc : ∀ w, C w → w.rangeAt b oo cs)
    (hu : Tryz.prog.underlying ty = some d) (hd : d.isRow = true) (hi : (Tryz.prog.info? ty).map (·.size) = some cs.length) (h : K (a.put o.dst (.agg cs.toArray))) : o.quiet Tryz.prog a C K := by
  refine ⟨.agg cs.toArray, fun w hC => ?_, h⟩
  unfold Oper.quietAt execOp
  simp only [ho, hx, Sem.run_bind, run_loadAt_mid w b oo ty cs d (hc w hC) hu hd hi, Result.andThen_ok, Sem.run_pure]
  exact ⟨rfl, rfl⟩
end Go.Proofs.YtmkncmmegjfipaaGreatDoor

/- Layer 18: what all runs have alike: whether it goes, how it ends, a step. -/
namespace Go.Proofs.YtmkncmmegjfipaaGreatDoor
open Go Go.RowKit

set_option maxHeartbeats 1000000 in
theorem goes_any {cl : Kl} {w0 : World} {B : Nat} {ρ : Nat → Nat} {m : Mc} {w : World} (h : MAt cl w0 B ρ m w) : Calls Tryz.prog 47 #[.pointer (some ⟨B, 0, none⟩)] w fun e w' => e = .returned (.bool (m.en == 0)) ∧ Below w.heap.size w w' := by
  have c4 := h.blk.cell 4 rfl
  clear h
  generalize m.en = q at *
  go_enter Tryz.func47, Tryz.ntmps47
  go_wp2
  go_ret
  exact ⟨rfl, Below.refl _ _⟩
set_option maxRecDepth 100000 in
set_option maxHeartbeats 4000000 in
theorem end_any {cl : Kl} {w0 : World} {B : Nat} {ρ : Nat → Nat} {m : Mc} {w : World} (how : Int) (v : Vl) (h : MAt cl w0 B ρ m w) (hv : VOk ρ w v) : Calls Tryz.prog 70 #[.pointer (some ⟨B, 0, none⟩), .int .i64 how, .agg v.vs.toArray] w fun e w' => e = .returned (.tuple #[]) ∧ MAt cl w0 B ρ { m with en := how, la := v } w' ∧ Ch (fun r => r = 1) ρ ρ w w' := by
  have B0 := below_alloc w (.cells v.vs.toArray 31)
  have HM := hyd (h.kept B0)
  have HV := hyd (hv.kept (Ch.of_below (R := fun _ => False) B0) (fun x => x))
  have HC := hyd (Ch.of_below (R := fun r => r = 1) (ρ := ρ) B0)
  have HK := hyd (Blk.new w v.vs 31)
  have HD := hyd (show w.heap.size ≠ B by have := h.blk.lt; omega)
  have HE := hyd (show ((m.vs cl).set 4 (.int .i64 how)).take 5 ++ v.vs ++ ((m.vs cl).set 4 (.int .i64 how)).drop (5 + v.vs.length) = ({ m with en := how, la := v } : Mc).vs cl from rfl)
  have HB := hyd (fun (w1 w2 : World) (h1 : MAt cl w0 B ρ m w1) (W : WroteB w1 w2 B (({ m with en := how, la := v } : Mc).vs cl) 83) (hl : VOk ρ w1 v) => h1.box (m' := { m with en := how, la := v }) W ⟨rfl, rfl⟩ ⟨rfl, rfl⟩ ⟨rfl, rfl, rfl⟩ hl)
  have H1 := hyd v.vs_one
  have HL := hyd (show v.vs.length = 3 from rfl)
  clear B0 h hv
  go_enter Tryz.func70, Tryz.ntmps70
  go_upto_region 1 with fail
  generalize w.alloc (.cells v.vs.toArray 31) = u1 at *
  generalize w.heap.size = BX at *
  generalize hV : v.vs = V at *
  have rT : ∀ u, (∃ x : Wd (fun q => Blk q BX V 31), u = x.w) → u.rangeAt BX 0 V := fun _ hC => by obtain ⟨x, rfl⟩ := hC; exact Blk.range x.2
  have hNE : Nonempty (Wd (fun q => Blk q BX V 31)) := ⟨⟨_, HK.out⟩⟩
  refine wp_region_readsV (fun q => Blk q BX V 31) (fun i => i != 9) [0, 1, 2, 3, 4, 5] 4 (by kernel_rfl) rfl (by kernel_rfl) (HK.out.kept (Below.refl _ _).drew) ?_
  simp only [List.filterMap, List.getElem?_cons_zero, List.getElem?_cons_succ]
  iterate 3 go_big_quiet_step (fail)
  go_big_quiet_want
  refine quiet_load_rowV 31 (.tmp 5) rfl BX 0 (by kernel_rfl) V _ rT Tryz.underlying31 rfl (by rw [HL.out]; kernel_rfl) ?_
  simp only [Act.put, List.setIfInBounds_toArray, List.set_cons_succ, List.set_cons_zero]
  go_big_quiet_on
  iterate 2 go_big_quiet_step (fail)
  refine wpQuiet_nil ?_
  have D1 := (Below.refl u1.heap.size u1).drew
  have HM2 := hyd (HM.out.kept D1)
  have HV2 := hyd (HV.out.kept (Ch.of_below (R := fun _ => False) D1) (fun x => x))
  have HC2 := hyd (HC.out.trans (Ch.of_below D1))
  have HK2 := hyd (HK.out.kept D1)
  clear rT hNE D1 HM HV HC HK
  generalize u1.drew = u2 at *
  refine wpAnyX_ready (rs := [6]) (by kernel_rfl) (by simp) ?_
  refine AllReadyX.cons rfl (fun K hK => ?_) AllReadyX.nil
  rw [if_pos (by rfl)]
  refine wp_store1 3 (.tmp 11) (.tmp 8) rfl rfl B 4 (.int .i64 how) _ _ (by kernel_rfl) rfl (store_one _ _ (by kernel_rfl) rfl rfl _ _) HM2.out.blk (by show 4 < 15; omega) ?_
  intro u3 W3
  have HK3 := hyd (W3.keep HK2.out HD.out)
  have HC3 := hyd (HC2.out.trans (Ch.wrote W3 HM2.out.rB))
  have HW3 := hyd W3
  refine hK.out _ _ (fun _ => HK3.out) ?_
  clear hK K W3 HC2 HK2
  refine wpAnyX_ready (rs := [7]) (by kernel_rfl) (by simp) ?_
  refine AllReadyX.cons rfl (fun K hK => ?_) AllReadyX.nil
  rw [if_pos (by rfl)]
  go_simp
  refine hK.out _ _ (fun _ => HK3.out) ?_
  clear hK K
  refine wpAnyX_ready (rs := [8]) (by kernel_rfl) (by simp) ?_
  refine AllReadyX.cons rfl (fun K hK => ?_) AllReadyX.nil
  rw [if_pos (by rfl)]
  go_simp
  refine hK.out _ _ (fun _ => HK3.out) ?_
  clear hK K
  refine wpAnyX_ready (rs := [9]) (by kernel_rfl) (by simp) ?_
  refine AllReadyX.cons rfl (fun K hK => ?_) AllReadyX.nil
  rw [if_pos (by rfl)]
  refine wp_store_seg 31 (.tmp 13) (.tmp 9) rfl rfl B 5 V (by kernel_rfl) rfl H1.out HW3.out.blk (by rw [HL.out]; show 5 + 3 ≤ 15; omega) (by show _ = some V.length; rw [HL.out]; kernel_rfl) ?_
  intro u4 W4
  rw [HE.out] at W4
  have HR := hyd (HB.out _ _ HM2.out (WroteB.over HW3.out W4) HV2.out)
  have HC4 := hyd (HC3.out.trans (Ch.wrote W4 (R := fun r => r = 1) HM2.out.rB))
  refine hK.out _ _ (fun h => by cases h) ?_
  clear hK K
  refine wpAnyX_done (by kernel_rfl) ?_ _
  refine ⟨(fun c hc => by cases hc), ?_⟩
  go_wp2
  go_end0
  exact ⟨rfl, HR.out, HC4.out⟩
set_option maxHeartbeats 1000000 in
theorem stop_any {cl : Kl} {w0 : World} {B : Nat} {ρ : Nat → Nat} {m : Mc} {w : World} (how : Int) (h : MAt cl w0 B ρ m w) : Calls Tryz.prog 45 #[.pointer (some ⟨B, 0, none⟩), .int .i64 how] w fun e w' => e = .returned (.tuple #[]) ∧ MAt cl w0 B ρ { m with en := how, la := .zv } w' ∧ Ch (fun r => r = 1) ρ ρ w w' := by
  have hE := end_any how .zv h (VOk.lf ρ w (k := 0) (m := 0) ⟨by omega, by omega⟩ ⟨by omega, by omega⟩)
  clear h
  go_enter Tryz.func45, Tryz.ntmps45
  go_wp2_with fail
  refine hE.mono ?_
  rintro _ w1 ⟨rfl, hb⟩
  clear hE
  go_wp2
  go_end0
  exact ⟨rfl, hb⟩
set_option maxRecDepth 100000 in
set_option maxHeartbeats 2000000 in
theorem step_out {cl : Kl} {w0 : World} {B : Nat} {ρ : Nat → Nat} {m : Mc} {w : World} (h : MAt cl w0 B ρ m w) (e : m.steps = m.fuel) : Calls Tryz.prog 71 #[.pointer (some ⟨B, 0, none⟩)] w fun e w' => e = .returned (.bool false) ∧ MAt cl w0 B ρ { m with en := 3, la := .zv } w' ∧ Ch (fun r => r = 1) ρ ρ w w' := by
  have c2 := h.blk.cell 2 rfl
  have c3 := h.blk.cell 3 rfl
  have HM := hyd h
  have HC := hyd (Ch.refl (fun r => r = 1) ρ w)
  have HST := hyd (fun w1 (h1 : MAt cl w0 B ρ m w1) => stop_any (how := 3) h1)
  have HQ : Hid ((m.steps == m.fuel) = true) := by show _ = _; simp [e]
  clear h e
  go_enter Tryz.func71, Tryz.ntmps71
  have hq := HQ.out
  go_wp2
  go_quiet (fail)
  have D1 := below_drewN (Below.refl w.heap.size w) nq
  have HM1 := hyd (HM.out.kept D1)
  have HC1 := hyd (HC.out.trans (Ch.of_below D1))
  clear HM HC D1 c2 c3
  generalize w.drewN nq = w1 at *
  go_wp2_with fail
  refine (HST.out w1 HM1.out).mono ?_
  rintro _ w2 ⟨rfl, hm, hc⟩
  have HR := hyd (show MAt cl w0 B ρ { m with en := 3, la := .zv } w2 ∧ Ch (fun r => r = 1) ρ ρ w w2 from ⟨hm, HC1.out.trans hc⟩)
  clear hm hc
  go_wp2
  go_ret
  exact ⟨rfl, HR.out⟩
set_option maxRecDepth 100000 in
set_option maxHeartbeats 2000000 in
theorem step_any {cl : Kl} {w0 : World} {B : Nat} {ρ : Nat → Nat} {m : Mc} {w : World} (h : MAt cl w0 B ρ m w) (hs : 0 ≤ m.steps ∧ m.steps ≤ m.fuel ∧ m.fuel ≤ 65536) (e : ¬ m.steps = m.fuel) : Calls Tryz.prog 71 #[.pointer (some ⟨B, 0, none⟩)] w fun e w' => e = .returned (.bool true) ∧ MAt cl w0 B ρ { m with steps := m.steps + 1 } w' ∧ Ch (fun r => r = 1) ρ ρ w w' := by
  have c2 := h.blk.cell 2 rfl
  have c3 := h.blk.cell 3 rfl
  have HM := hyd h
  have HC := hyd (Ch.refl (fun r => r = 1) ρ w)
  have HB := hyd (fun (w1 w2 : World) (h1 : MAt cl w0 B ρ m w1) (W : WroteB w1 w2 B (({ m with steps := m.steps + 1 } : Mc).vs cl) 83) => h1.box (m' := { m with steps := m.steps + 1 }) W ⟨rfl, rfl⟩ ⟨rfl, rfl⟩ ⟨rfl, rfl, rfl⟩ h1.la)
  have HW : Hid (wrap64 (m.steps + 1) = m.steps + 1) := by show _ = _; unfold wrap64; omega
  have HE := hyd (show (m.vs cl).set 3 (.int .i64 (m.steps + 1)) = ({ m with steps := m.steps + 1 } : Mc).vs cl from rfl)
  have HQ : Hid ((m.steps == m.fuel) = false) := by show _ = _; simp [e]
  clear h hs e
  go_enter Tryz.func71, Tryz.ntmps71
  have hq := HQ.out
  go_wp2
  go_quiet (fail)
  have D1 := below_drewN (Below.refl w.heap.size w) nq
  have HM1 := hyd (HM.out.kept D1)
  have HC1 := hyd (HC.out.trans (Ch.of_below D1))
  clear HM HC D1 c2 c3
  generalize w.drewN nq = w1 at *
  have c3 := HM1.out.blk.cell 3 rfl
  go_wp2_with (refine wpList_store1 rfl 3 (.tmp 20) (.tmp 18) rfl rfl B 3 (.int .i64 (wrap64 (m.steps + 1))) _ _ (by kernel_rfl) (by kernel_rfl) (store_one _ _ (by kernel_rfl) rfl rfl _ _) HM1.out.blk (by show 3 < 15; omega) ?_; intro w2 W2; rw [HW.out, HE.out] at W2; have HR := hyd (show MAt cl w0 B ρ { m with steps := m.steps + 1 } w2 ∧ Ch (fun r => r = 1) ρ ρ w w2 from ⟨HB.out _ _ HM1.out W2, HC1.out.trans (Ch.wrote W2 HM1.out.rB)⟩); clear W2 c3)
  go_ret
  exact ⟨rfl, HR.out⟩
end Go.Proofs.YtmkncmmegjfipaaGreatDoor
