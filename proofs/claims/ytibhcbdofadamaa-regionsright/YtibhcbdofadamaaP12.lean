/- A region that draws its order, with one operation m behind all ahead of it and ahead of all behind it: all that only reads ahead of m comes first, in the worlds that meet S; from m on S is not asked. -/
import Derived.Test.YtibhcbdofadamaaP11
import Derived.Deep.DeepCutAuto
import Derived.Test.YtibhcbdofadamaaP5
import Derived.Deep.QuietTactic
import Derived.BigQuiet
import Derived.LoopN
import Derived.Laws.AppendOwn
import Derived.Laws.EntriesVeiled
import Derived.Carry
import Derived.Test.YtibhcbdofadamaaP8
namespace Go.Proofs.Ytibhcbdofadamaa
open Go Go.RowKit

section
variable {P : Program} {ops : Array Oper} {Q : Exit → Act → World → Prop} {md : Region.Mode} {S : World → Prop} {m : Nat}
/-- What only reads, and len. -/
def isLen (o : Oper) : Bool := match o.op with
  | .call c => (match c.callee with | .builtin .len => true | _ => false)
  | _ => false
def isReadG (o : Oper) : Bool := isReadQ o || isLen o
theorem readG_value {o : Oper} (h : isReadG o = true) (ρ : Operand → Value) (w w' : World) (n : Next) (hr : (execOp ρ o).run P w = .ok n w') : ∃ u, n = .value u := by
  unfold isReadG at h
  rw [Bool.or_eq_true] at h
  rcases h with h | h
  · exact readQ_value h ρ w w' n hr
  · unfold isLen at h
    split at h
    · rename_i c ho
      split at h
      · rename_i hc
        unfold execOp at hr
        simp only [ho, resolve, hc, invoke, builtin, Sem.run_bind, Sem.run_pure, Result.andThen_ok] at hr
        cases hq : (Builtin.len_ c.argTypes o.type (c.args.map ρ)).run P w with
        | ok v w2 => rw [hq] at hr; simp only [Result.andThen_ok] at hr; exact ⟨v, (Result.ok.inj hr).1.symm⟩
        | halt x w2 => rw [hq] at hr; simp [Result.andThen] at hr
      · cases h
    · cases h
theorem yieldsIf_of_quietG {S : World → Prop} {o : Oper} {a : Act} {K : Act → Prop} (hr : isReadG o = true) (h : if Region.wanted o (yielded ops a.tmps) then o.quiet P a S K else K (a.put o.dst undef)) : ∃ v, YieldsIf P ops S o v a ∧ K (a.put o.dst v) := by
  by_cases hw : Region.wanted o (yielded ops a.tmps) = true
  · rw [if_pos hw] at h
    obtain ⟨v, h1, h2⟩ := h
    refine ⟨v, Or.inl ⟨hw, fun w hS => ?_⟩, h2⟩
    have h3 := h1 w hS
    unfold Oper.quietAt at h3
    cases hq : (execOp a.eval o).run P w with
    | ok n w' =>
      obtain ⟨u, rfl⟩ := readG_value hr _ _ _ _ hq
      rw [hq] at h3
      simp only [Oper.quietUpon] at h3
      rw [h3.1, h3.2]
    | halt x w' => rw [hq] at h3; simp only [Oper.quietUpon] at h3
  · rw [if_neg hw] at h
    exact ⟨undef, Or.inr ⟨by simpa using hw, rfl⟩, h⟩
def lexG (ops : Array Oper) : List Nat → List Oper → Array Bool → Bool
  | [], [], _ => true
  | i :: js, o :: l, listed => isReadG o && (Region.ready .any ops listed).contains i && Region.free .any ops listed i && lexG ops js l (listed.setIfInBounds i true)
  | _, _, _ => false
/-- All behind m wait for m. -/
def behB (md : Region.Mode) (ops : Array Oper) (m : Nat) : Bool := (List.range ops.size).all fun t => decide (t ≤ m) || (List.range t).any fun s => decide (m ≤ s) && Region.waitsFor md ops t s
theorem beh_down (hg : behB md ops m = true) {listed : Array Bool} (hS : Shut md ops listed) : ∀ s, m ≤ s → s < ops.size → listed.getD s false = true → listed.getD m false = true := by
  simp only [behB, List.all_eq_true, List.mem_range, Bool.or_eq_true, decide_eq_true_eq, List.any_eq_true, Bool.and_eq_true] at hg
  intro s
  induction s using Nat.strongRecOn with
  | ind s ih =>
    intro h1 h2 h3
    by_cases e : s = m
    · rw [← e]; exact h3
    · rcases hg s h2 with h | ⟨x, hx, h4, h5⟩
      · omega
      · obtain ⟨oj, hj, e, he, hb, hon⟩ := Region.waitsFor_spec h5
        have := hS s oj h3 hj e he hb
        rw [hon] at this
        exact ih x hx h4 (by omega) this
theorem gate_all (hs : Region.sinkB md ops m = true) (hg : behB md ops m = true) {listed : Array Bool} (hS : Shut md ops listed) {j : Nat} {oj : Oper} (hoj : ops[j]? = some oj) (hall : ∀ e ∈ oj.after, Region.binds md e = true → listed.getD e.on false = true) (hj : ¬ j < m) : ∀ i, i < m → listed.getD i false = true := by
  intro i hi
  have hlt := (Array.getElem?_eq_some_iff.1 hoj).1
  have hmlt : m < ops.size := by omega
  have hom : ops[m]? = some ops[m] := Array.getElem?_eq_getElem hmlt
  have key : ∀ e ∈ ops[m].after, Region.binds md e = true → listed.getD e.on false = true := by
    by_cases e : j = m
    · subst e
      rw [hom] at hoj
      cases hoj
      exact hall
    · have hg' := hg
      simp only [behB, List.all_eq_true, List.mem_range, Bool.or_eq_true, decide_eq_true_eq, List.any_eq_true, Bool.and_eq_true] at hg'
      rcases hg' j hlt with h | ⟨x, hx, h4, h5⟩
      · omega
      · obtain ⟨oj', hj', e, he, hb, hon⟩ := Region.waitsFor_spec h5
        rw [hoj] at hj'
        cases hj'
        have h1 := hall e he hb
        rw [hon] at h1
        exact hS m ops[m] (beh_down hg hS x h4 (by omega) h1) hom
  exact sink_all hs hS hom key (m - 1 - i) i (by omega)
def wpAnyG (P : Program) (md : Region.Mode) (ops : Array Oper) (Q : Exit → Act → World → Prop) (S : World → Prop) (m : Nat) : Nat → Array Bool → Act → World → Prop
  | 0, listed, a, w => Region.ready md ops listed = [] ∧ Q .normal a w
  | fuel + 1, listed, a, w =>
    (Region.ready md ops listed = [] → Q .normal a w) ∧
    ∀ i ∈ Region.ready md ops listed, wpOp P ops Q i (fun a' w' => (i < m → S w') ∧ wpAnyG P md ops Q S m fuel (listed.setIfInBounds i true) a' w') a w
/-- Once all ahead of m is done. -/
theorem wpAnyG_of_any : ∀ (fuel : Nat) (listed : Array Bool) (a : Act) (w : World), (∀ i, i < m → listed.getD i true = true) → wpAny P md ops Q fuel listed a w → wpAnyG P md ops Q S m fuel listed a w
  | 0, _, _, _, _, h => h
  | fuel + 1, listed, _, _, hl, h => by
    refine ⟨h.1, fun i hi => ?_⟩
    have hn : ¬ i < m := fun him => by
      have h1 := (mem_ready.1 hi).1
      rw [hl i him] at h1
      cases h1
    refine wpOp_mono (fun a' w' h' => ⟨fun him => absurd him hn, wpAnyG_of_any fuel _ a' w' (fun k hk => ?_) h'⟩) (h.2 i hi)
    rw [getD_set_ne true (by omega)]
    exact hl k hk
theorem wpAny_of_G : ∀ (fuel : Nat) (listed : Array Bool) (a : Act) (w : World), wpAnyG P md ops Q S m fuel listed a w → wpAny P md ops Q fuel listed a w
  | 0, _, _, _, h => h
  | fuel + 1, _, _, _, h => ⟨h.1, fun i hi => wpOp_mono (fun a' w' h' => wpAny_of_G fuel _ a' w' h'.2) (h.2 i hi)⟩
theorem wpAnyG_first {i : Nat} {oi : Oper} {v : Value} (hi : ops[i]? = some oi) (hsel : ∀ (j : Nat) (o : Oper) cs b, ops[j]? = some o → o.op ≠ .select cs b)
    (hQ : ∀ c a w, Q (.panic c) (a.put oi.dst v) w → Q (.panic c) a w) (hsk : Region.sinkB md ops m = true) (hgt : behB md ops m = true) (him : i < m) :
    ∀ (fuel : Nat) (listed : Array Bool) (a : Act) (w : World), Shut md ops listed →
      (∀ j oj, ops[j]? = some oj → j ≠ i → listed.getD j true = false → (∀ e ∈ oj.after, Region.binds md e = true → e.on ≠ i) → oi.apart ops oj = true) →
      i ∈ Region.ready md ops listed → YieldsIf P ops S oi v a → S w →
      wpAnyG P md ops Q S m fuel (listed.setIfInBounds i true) (a.put oi.dst v) w → wpAnyG P md ops Q S m (fuel + 1) listed a w := by
  intro fuel
  induction fuel with
  | zero =>
    intro listed a w _ _ hr hy hS H
    refine ⟨fun h => (by rw [h] at hr; cases hr), fun j hj => ?_⟩
    by_cases hji : j = i
    · subst hji; exact hy.wpOp hi hS ⟨fun _ => hS, H⟩
    · have := ready_mono hj hji
      rw [H.1] at this
      cases this
  | succ fuel ih =>
    intro listed a w hShut hfree hr hy hS H
    refine ⟨fun h => (by rw [h] at hr; cases hr), fun j hj => ?_⟩
    by_cases hji : j = i
    · subst hji; exact hy.wpOp hi hS ⟨fun _ => hS, H⟩
    · have h1 := H.2 j (ready_mono hj hji)
      obtain ⟨hjun, oj, hoj, hall⟩ := mem_ready.1 hj
      have hjm : j < m := by
        apply Classical.byContradiction
        intro hge
        have hun := (mem_ready.1 hr).1
        have hin : listed.getD i false = true := gate_all hsk hgt hShut hoj hall hge i him
        rcases Nat.lt_or_ge i listed.size with h' | h'
        · simp [h'] at hin hun; rw [hin] at hun; cases hun
        · simp [Array.getElem?_eq_none h'] at hin
      have hnot : ∀ e ∈ oj.after, Region.binds md e = true → e.on ≠ i := fun e he hb heq => by
        have h1 := hall e he hb
        have h0 := (mem_ready.1 hr).1
        rw [heq] at h1
        rcases Nat.lt_or_ge i listed.size with h' | h'
        · simp [h'] at h0 h1; rw [h0] at h1; cases h1
        · simp [Array.getElem?_eq_none h'] at h1
      have h2 := wpOp_putIf hoj (hfree j oj hoj hji hjun hnot) (fun cs b => hsel i oi cs b hi) (fun cs b => hsel j oj cs b hoj) hQ hy h1
      have hfree' : ∀ k ok, ops[k]? = some ok → k ≠ i → (listed.setIfInBounds j true).getD k true = false →
          (∀ e ∈ ok.after, Region.binds md e = true → e.on ≠ i) → oi.apart ops ok = true := fun k ok hk hki hun hno => by
        refine hfree k ok hk hki ?_ hno
        by_cases hjk : j = k
        · subst hjk; exact hjun
        · rw [getD_set_ne true hjk] at hun; exact hun
      refine wpOp_mono (fun a' w' h3 => ⟨fun _ => h3.2.1 hjm, ih (listed.setIfInBounds j true) a' w' (hShut.put hj) hfree' (ready_mono hr (Ne.symm hji)) h3.1 (h3.2.1 hjm) ?_⟩) h2
      rw [Array.setIfInBounds_comm _ _ hji]
      exact h3.2.2
def AllReadyG (P : Program) (md : Region.Mode) (ops : Array Oper) (Q : Exit → Act → World → Prop) (S : World → Prop) (m : Nat) (fuel : Nat) (listed : Array Bool) (a : Act) (w : World) (rs : List Nat) : Prop :=
  ∀ i ∈ rs, wpOp P ops Q i (fun a' w' => (i < m → S w') ∧ wpAnyG P md ops Q S m fuel (listed.setIfInBounds i true) a' w') a w
theorem AllReadyG.nil {fuel : Nat} {listed : Array Bool} {a : Act} {w : World} : AllReadyG P md ops Q S m fuel listed a w [] := fun _ h => by cases h
theorem AllReadyG.cons {fuel : Nat} {listed : Array Bool} {a : Act} {w : World} {i : Nat} {o : Oper} {rs : List Nat} (ho : ops[i]? = some o)
    (h : ∀ K' : Act → World → Prop, Hid (∀ a w, (i < m → S w) → wpAnyG P md ops Q S m fuel (listed.setIfInBounds i true) a w → K' a w) → if Region.wanted o (yielded ops a.tmps) = true then Oper.wp P o a w K' Q else K' (a.put o.dst undef) w)
    (hs : AllReadyG P md ops Q S m fuel listed a w rs) : AllReadyG P md ops Q S m fuel listed a w (i :: rs) := fun j hj => by
  rcases List.mem_cons.1 hj with rfl | hj
  · exact wpOp_step ho (fun K' hK => h K' (fun a w hS hW => hK a w ⟨hS, hW⟩))
  · exact hs j hj
theorem wpAnyG_ready {rs : List Nat} {fuel : Nat} {listed : Array Bool} {a : Act} {w : World} (hr : Region.ready md ops listed = rs) (hne : rs ≠ [])
    (h : AllReadyG P md ops Q S m fuel listed a w rs) : wpAnyG P md ops Q S m (fuel + 1) listed a w := ⟨fun h0 => absurd (hr.symm.trans h0) hne, fun i hi => h i (by rw [← hr]; exact hi)⟩
theorem wpAnyG_done {listed : Array Bool} {a : Act} {w : World} (hr : Region.ready md ops listed = []) (h : Q .normal a w) : ∀ fuel, wpAnyG P md ops Q S m fuel listed a w
  | 0 => ⟨hr, h⟩
  | _ + 1 => ⟨fun _ => h, fun i hi => by rw [hr] at hi; cases hi⟩
theorem wpAnyG_readsQ {K : Act → Prop} {rest : Nat} {w : World} (hs : Region.noSelect ops = true) (hQ : ∀ c a d v w, Q (.panic c) (Act.put a d v) w → Q (.panic c) a w) (hsk : Region.sinkB .any ops m = true) (hgt : behB .any ops m = true) (hS : S w) : ∀ (js : List Nat) (l : List Oper) (listed : Array Bool) (a : Act), Shut .any ops listed → (js.all fun i => decide (i < m)) = true → (∀ j, j < l.length → ∃ i, js[j]? = some i ∧ ops[i]? = l[j]?) →
    lexG ops js l listed = true → wpQuiet P ops S K l a → (∀ a', K a' → wpAnyG P .any ops Q S m rest (listedI js listed) a' w) → wpAnyG P .any ops Q S m (js.length + rest) listed a w
  | [], [], _, _, _, _, _, _, h, hK => by simpa [listedI] using hK _ h
  | [], _ :: _, _, _, _, _, _, hB, _, _ => by simp [lexG] at hB
  | _ :: _, [], _, _, _, _, _, hB, _, _ => by simp [lexG] at hB
  | i :: js, o :: l, listed, a, hSh, hjm, hl, hB, h, hK => by
    have h0 : ops[i]? = some o := by
      obtain ⟨i', h1, h2⟩ := hl 0 (by simp)
      have : i = i' := by simpa using h1
      subst this
      simpa using h2
    simp only [lexG, Bool.and_eq_true] at hB
    obtain ⟨⟨⟨hr, hc⟩, hf⟩, hB'⟩ := hB
    simp only [List.all_cons, Bool.and_eq_true, decide_eq_true_eq] at hjm
    have h' : if Region.wanted o (yielded ops a.tmps) then o.quiet P a S (wpQuiet P ops S K l) else wpQuiet P ops S K l (a.put o.dst undef) := h
    obtain ⟨v, hy, hk⟩ := yieldsIf_of_quietG (ops := ops) hr h'
    rw [show (i :: js).length + rest = (js.length + rest) + 1 by simp; omega]
    have hmem : i ∈ Region.ready .any ops listed := by simpa using hc
    exact wpAnyG_first h0 (Region.noSelect_spec hs) (fun c a w => hQ c a _ _ w) hsk hgt hjm.1 _ listed a w hSh (Region.free_spec h0 hf) hmem hy hS (wpAnyG_readsQ hs hQ hsk hgt hS js l _ _ (hSh.put hmem) hjm.2 (fun j hj => by
      obtain ⟨i', h1, h2⟩ := hl (j + 1) (by simp; omega)
      exact ⟨i', by simpa using h1, by simpa using h2⟩) hB' hk hK)
end
/-- Such a region: first all that only reads; number m is the last. -/
theorem wp_region_readsG {P : Program} {Q : Exit → Act → World → Prop} {id : Nat} {a : Act} {w : World} {l : List Oper} (S : World → Prop) (m : Nat) (js : List Nat) (rest : Nat) (hm : P.follows .mixedOrders = true) (hlen : l.length = js.length + rest) (hB : (Region.noSelect l.toArray && lexG l.toArray js (js.filterMap (l[·]?)) (Array.replicate l.length false) && (Region.sinkB .any l.toArray m && behB .any l.toArray m) && (js.all fun i => decide (i < m)) && (js.all fun i => decide (i < l.length))) = true)
    (hS : S w.drew)
    (h : wpQuiet P l.toArray (fun u => ∃ x : Wd S, u = x.w) (fun a' => wpAnyG P .any l.toArray (NoPanM Q) S m rest (listedI js (Array.replicate l.length false)) a' w.drew) (js.filterMap (l[·]?)) a) : (Code.region id l.toArray true).wp P Q a w := by
  refine Code.wp_mono (fun _ _ _ h => h.2) (Q := NoPanM Q) ?_
  simp only [Bool.and_eq_true] at hB
  obtain ⟨⟨⟨⟨h1, h2⟩, h3⟩, h4⟩, h5⟩ := hB
  have h3 := Bool.and_eq_true_iff.2 h3
  have e3 : Array.replicate l.toArray.size false = Array.replicate l.length false := by simp
  have e2 : l.toArray.size = js.length + rest := by simpa using hlen
  have eS : (fun u : World => ∃ x : Wd S, u = x.w) = S := by
    funext u; apply propext
    exact ⟨fun ⟨x, hx⟩ => hx ▸ x.2, fun h => ⟨⟨u, h⟩, rfl⟩⟩
  rw [eS] at h
  refine wp_region_any hm (wpAny_of_G _ _ _ _ (S := S) (m := m) ?_)
  rw [e3, e2]
  exact wpAnyG_readsQ h1 (fun c _ _ _ _ h => absurd rfl (h.1 c)) (Bool.and_eq_true_iff.1 h3).1 (Bool.and_eq_true_iff.1 h3).2 hS js _ _ a (by intro k o hk; simp [Array.getElem?_replicate] at hk; split at hk <;> simp_all) h4 (hj_ofQ h5) h2 h (fun a' h => h)
/-- Once all ahead of m is done: the rest, with no world asked for. -/
theorem wpAnyG_rest {P : Program} {md : Region.Mode} {ops : Array Oper} {Q : Exit → Act → World → Prop} {S : World → Prop} {m fuel : Nat} {listed : Array Bool} {a : Act} {w : World} (hl : ((List.range m).all fun i => listed.getD i true) = true) (h : wpAnyH P md ops Q (fun _ => True) fuel listed a w) : wpAnyG P md ops Q S m fuel listed a w :=
  wpAnyG_of_any _ _ _ _ (fun i hi => List.all_eq_true.1 hl i (List.mem_range.2 hi)) (wpAny_of_held _ _ _ _ h)
end Go.Proofs.Ytibhcbdofadamaa

/- Layer 15: the ways from a place. -/
namespace Go.Proofs.Ytibhcbdofadamaa
open Go Go.RowKit

/-- A function in its box; nothing below is turned. -/
structure Fb (w0 : World) (f : Cf) (B : Nat) (w : World) : Prop where
  bl : Below w0.heap.size w0 w
  b : Blk w B f.vs 30
theorem Fb.kept {w0 : World} {f : Cf} {B : Nat} {w w' : World} (h : Fb w0 f B w) (hb : Below w.heap.size w w') : Fb w0 f B w' := ⟨Below.next h.bl hb, h.b.kept hb⟩
theorem Fb.grown {w0 : World} {f : Cf} {B : Nat} {w w' : World} {r : Option Nat} (h : Fb w0 f B w) (hg : w.grownBy w' r) (hr : ∀ k, r = some k → w0.heap.size ≤ k ∧ k ≠ B) : Fb w0 f B w' :=
  ⟨gb_bel h.bl hg (fun k hk => (hr k hk).1), by unfold Blk; rw [hg.block B h.b.lt (fun e => (hr B e.symm).2 rfl)]; exact h.b⟩
theorem Fb.new (w : World) (f : Cf) : Fb w f w.heap.size (w.alloc (.cells f.vs.toArray 30)) := ⟨below_alloc w _, Blk.new w f.vs 30⟩
/-- .. and numbers of one's own. -/
structure Wv (w0 : World) (f : Cf) (v : Value) (l : List Int) (w : World) : Prop where
  x : Fb w0 f w0.heap.size w
  o : Oi w (w0.heap.size + 1) v l
theorem Wv.kept {w0 : World} {f : Cf} {v : Value} {l : List Int} {w w' : World} (h : Wv w0 f v l w) (hb : Below w.heap.size w w') : Wv w0 f v l w' := ⟨h.x.kept hb, h.o.kept hb⟩
theorem Wv.size {w0 : World} {f : Cf} {v : Value} {l : List Int} {w : World} (h : Wv w0 f v l w) : w0.heap.size + 1 ≤ w.heap.size := h.x.b.lt
theorem Wv.to {w0 : World} {f : Cf} {v v' : Value} {l l' : List Int} {w w' : World} (h : Wv w0 f v l w) (ho : Oi w' (w0.heap.size + 1) v' l') (hg : w.grownBy w' v.ownBlock) : Wv w0 f v' l' w' :=
  ⟨h.x.grown hg (fun k hk => by have := (owb h.o hk).1; omega), ho⟩
theorem own_mono {w : World} {base b' : Nat} {v : Value} {l : List Int} (h : Oi w base v l) (hb : b' ≤ base) : Oi w b' v l := by
  obtain ⟨h0, h1 | ⟨g, cap, cur, h1, h2, h3⟩⟩ := h
  · exact ⟨h0, Or.inl h1⟩
  · exact ⟨h0, Or.inr ⟨g, cap, cur, h1, by omega, h3⟩⟩
theorem Cf.w1_t {f : Cf} {p : Nat} (h1 : nxO (f.cd.x p).op = true) (h2 : f.pl ((p : Int) + 1) = true) : f.w1 p = [(p : Int) + 1] := by
  unfold Cf.w1; rw [if_pos ⟨h1, by have := Cf.pl_iff.1 h2; omega⟩]
theorem Cf.w1_f {f : Cf} {p : Nat} (h : nxO (f.cd.x p).op = false ∨ f.pl ((p : Int) + 1) = false) : f.w1 p = [] := by
  unfold Cf.w1
  rw [if_neg]
  rintro ⟨h1, h2⟩
  rcases h with h | h
  · rw [h] at h1; cases h1
  · rw [Cf.pl_iff.2 ⟨by omega, by omega⟩] at h; cases h
theorem Cf.w3_t {f : Cf} {g : Rw Bool} {h : Int} {p : Nat} (h1 : f.rs g p = true) (h2 : f.pl h = true) : f.w3 g h p = [h] := by unfold Cf.w3; rw [if_pos ⟨h1, h2⟩]
theorem Cf.w3_f {f : Cf} {g : Rw Bool} {h : Int} {p : Nat} (k : f.rs g p = false ∨ f.pl h = false) : f.w3 g h p = [] := by
  unfold Cf.w3
  rw [if_neg]
  rintro ⟨h1, h2⟩
  rcases k with k | k
  · rw [k] at h1; cases h1
  · rw [k] at h2; cases h2
theorem Cf.w_len (f : Cf) (g : Rw Bool) (h : Int) (p : Nat) : (f.w1 p).length ≤ 1 ∧ (f.w2 p).length ≤ 1 ∧ (f.w3 g h p).length ≤ 1 := by
  unfold Cf.w1 Cf.w2 Cf.w3
  refine ⟨?_, ?_, ?_⟩ <;> split <;> simp

set_option maxRecDepth 100000 in
set_option maxHeartbeats 16000000 in
theorem waysWith_any (f : Cf) (g : Rw Bool) (p : Nat) (h : Int) (w : World) (hf : f.At w) (hg : BlAt w g) (hp : p < f.cd.len) : Calls Try.prog 33 #[.agg f.vs.toArray, .slice g.ao g.len g.cap, .int .i64 p, .int .i64 h] w fun e w' => ∃ v, e = .returned v ∧ Oi w' w.heap.size v (f.wsH g h p) ∧ Below w.heap.size w w' := by
  have H1 : Hid (Wv w f (.slice none 0 0) [] (w.alloc (.cells f.vs.toArray 30))) := ⟨Fb.new w f, Oi.nil _ _⟩
  have HD := hyd (show f.At w ∧ BlAt w g ∧ p < f.cd.len from ⟨hf, hg, hp⟩)
  have HW := hyd (f.wsH_eq g h p)
  have HLN := hyd (f.w_len g h p)
  have hbd := hf.cd.bound
  have ip : (p : Int) < f.cd.len := by omega
  have HN14 := hyd (hf.cd.nil (by omega))
  clear hf hg hp
  generalize f.wsH g h p = R at *
  generalize hw : w.alloc (.cells f.vs.toArray 30) = u1 at *
  go_enter Try.func33, Try.ntmps33
  go_upto_region 2 with fail
  clear hw
  go_cut [23] (fun c wx => ∃ b : Bool, c = .bool b ∧ Hid (Wv w f (.slice none 0 0) [] wx) ∧ Hid (f.w1 p = if b = true then [(p : Int) + 1] else []))
  case first =>
    have c14 := H1.out.x.b.cell 14 rfl
    rw [HN14.out] at c14
    have r0 := (Cf.At.kept H1.out.x.bl HD.out.1).cd.row p HD.out.2.2 0 _ rfl
    simp only [Nat.add_zero] at r0
    have HT := hyd (fun h1 h2 => Cf.w1_t (f := f) (p := p) h1 h2)
    have HFf := hyd (fun h => Cf.w1_f (f := f) (p := p) h)
    generalize (f.cd.x p).op = op at *
    have h0 := goesOn_any op u1
    generalize nxO op = nb at *
    go_wp2_with fail
    refine h0.mono ?_
    rintro _ u2 ⟨rfl, hb⟩
    have H2 := hyd (H1.out.kept hb)
    clear h0 hb H1 c14 r0
    cases nb
    · go_wp2
      go_meet
      case rel => exact ⟨false, rfl, H2.out, HFf.out (by simp)⟩
    · have rF := H2.out.x.b.range
      have h0 := fplace_any f ((p : Int) + 1) u2
      generalize f.pl ((p : Int) + 1) = pb at *
      go_wp2_with (refine wpList_loadW (by kernel_rfl) 30 (.tmp 4) rfl w.heap.size 0 (by kernel_rfl) f.vs _ rF Try.underlying30 rfl (by kernel_rfl) ?_)
      refine h0.mono ?_
      rintro _ u3 ⟨rfl, hb⟩
      have H3 := hyd (H2.out.kept hb)
      clear h0 hb H2 rF
      cases pb
      · go_wp2
        go_meet
        case rel => exact ⟨false, rfl, H3.out, HFf.out (by simp)⟩
      · go_wp2
        go_meet
        case rel => exact ⟨true, rfl, H3.out, HT.out (by simp) (by simp)⟩
  case rest =>
  obtain ⟨b, rfl, hV, hE⟩ := hcut
  have H2 := hyd hV.out
  have HE := hyd hE.out
  clear hV hE H1
  go_upto_if 23 with fail
  go_cut [9] (fun v wx => Hid (Wv w f v (f.w1 p) wx))
  case first =>
    cases b
    · have HE2 : Hid (f.w1 p = []) := HE.out
      go_wp2
      go_meet
      case rel => rw [HE2.out]; exact H2.out
    · have HE2 : Hid (f.w1 p = [(p : Int) + 1]) := HE.out
      clear HE
      go_wp2_with ((at_builtin; refine wpList_app1 rfl _ _ rfl (w.heap.size + 1) (.slice none 0 0) [] ((p : Int) + 1) rfl H2.out.o rfl (by simp) H2.out.size ?_; intro v6 w6 h6 g6; have H3 := hyd (H2.out.to h6 g6); clear h6 g6 H2))
      go_meet
      case rel => rw [HE2.out]; exact H3.out
  case rest =>
  clear H2 HE
  have H2 := hyd hcut.out
  clear hcut
  go_upto_region 4 with fail
  have rF := H2.out.x.b.range
  have h0 := target_any f p wc (Cf.At.kept H2.out.x.bl HD.out.1) HD.out.2.2
  have HT2 : Hid (f.w2 p = if f.tg p = -1 then [] else [f.tg p]) := rfl
  generalize f.tg p = tg at *
  go_upto_region 5 with (refine wpList_load_mid rfl 30 (.tmp 4) rfl w.heap.size 0 (by kernel_rfl) f.vs _ rF Try.underlying30 rfl (by kernel_rfl) ?_)
  refine h0.mono ?_
  rintro _ u3 ⟨rfl, hb⟩
  have H3 := hyd (H2.out.kept hb)
  clear h0 hb H2 rF
  go_upto_if 33 with fail
  go_cut [9] (fun v wx => Hid (Wv w f v (f.w1 p ++ f.w2 p) wx))
  case first =>
    by_cases ht : tg = -1
    · have e1 : (tg != -1) = false := by simpa using ht
      have HE2 : Hid (f.w1 p ++ f.w2 p = f.w1 p) := by show _ = _; rw [HT2.out, if_pos ht, List.append_nil]
      clear ht
      go_wp2
      go_meet
      case rel => rw [HE2.out]; exact H3.out
    · have e1 : (tg != -1) = true := by simpa using ht
      have HE2 : Hid (f.w1 p ++ f.w2 p = f.w1 p ++ [tg]) := by show _ = _; rw [HT2.out, if_neg ht]
      clear ht
      go_wp2_with ((at_builtin; refine wpList_app1 rfl _ _ rfl (w.heap.size + 1) u9 (f.w1 p) tg rfl H3.out.o rfl (by have := HLN.out; omega) H3.out.size ?_; intro v6 w6 h6 g6; have H4 := hyd (H3.out.to h6 g6); clear h6 g6 H3))
      go_meet
      case rel => rw [HE2.out]; exact H4.out
  case rest =>
  clear H3
  have H2 := hyd hcut.out
  clear hcut HT2
  go_upto_region 7 with fail
  go_cut [46] (fun c wx => ∃ b : Bool, c = .bool b ∧ Hid (Wv w f u9 (f.w1 p ++ f.w2 p) wx) ∧ Hid (f.w3 g h p = if b = true then [h] else []))
  case first =>
    have rF := H2.out.x.b.range
    have HT := hyd (fun h1 h2 => Cf.w3_t (f := f) (g := g) (h := h) (p := p) h1 h2)
    have HFf := hyd (fun k => Cf.w3_f (f := f) (g := g) (h := h) (p := p) k)
    have h0 := raises_any f g p wc (Cf.At.kept H2.out.x.bl HD.out.1) (BlAt.kept HD.out.2.1 H2.out.x.bl) HD.out.2.2
    generalize f.rs g p = nb at *
    go_wp2_with (refine wpList_load_mid rfl 30 (.tmp 4) rfl w.heap.size 0 (by kernel_rfl) f.vs _ rF Try.underlying30 rfl (by kernel_rfl) ?_)
    refine h0.mono ?_
    rintro _ u2 ⟨rfl, hb⟩
    have H3 := hyd (H2.out.kept hb)
    clear h0 hb H2 rF
    cases nb
    · go_wp2
      go_meet
      case rel => exact ⟨false, rfl, H3.out, HFf.out (by simp)⟩
    · have rF := H3.out.x.b.range
      have h0 := fplace_any f h u2
      generalize f.pl h = pb at *
      go_wp2_with (refine wpList_loadW (by kernel_rfl) 30 (.tmp 4) rfl w.heap.size 0 (by kernel_rfl) f.vs _ rF Try.underlying30 rfl (by kernel_rfl) ?_)
      refine h0.mono ?_
      rintro _ u3 ⟨rfl, hb⟩
      have H4 := hyd (H3.out.kept hb)
      clear h0 hb H3 rF
      cases pb
      · go_wp2
        go_meet
        case rel => exact ⟨false, rfl, H4.out, HFf.out (by simp)⟩
      · go_wp2
        go_meet
        case rel => exact ⟨true, rfl, H4.out, HT.out (by simp) (by simp)⟩
  case rest =>
  obtain ⟨b, rfl, hV, hE⟩ := hcut
  clear H2
  have H2 := hyd hV.out
  have HE := hyd hE.out
  clear hV hE
  go_upto_if 46 with fail
  go_cut [9] (fun v wx => Hid (Wv w f v (f.w1 p ++ f.w2 p ++ f.w3 g h p) wx))
  case first =>
    cases b
    · have HE2 : Hid (f.w1 p ++ f.w2 p ++ f.w3 g h p = f.w1 p ++ f.w2 p) := by show _ = _; rw [HE.out]; simp
      go_wp2
      go_meet
      case rel => rw [HE2.out]; exact H2.out
    · have HE2 : Hid (f.w1 p ++ f.w2 p ++ f.w3 g h p = f.w1 p ++ f.w2 p ++ [h]) := by show _ = _; rw [HE.out]; simp
      clear HE
      go_wp2_with ((at_builtin; refine wpList_app1 rfl _ _ rfl (w.heap.size + 1) u9 (f.w1 p ++ f.w2 p) h rfl H2.out.o rfl (by have := HLN.out; rw [List.length_append]; omega) H2.out.size ?_; intro v6 w6 h6 g6; have H4 := hyd (H2.out.to h6 g6); clear h6 g6 H2))
      go_meet
      case rel => rw [HE2.out]; exact H4.out
  case rest =>
  clear H2 HE
  have H2 := hyd hcut.out
  clear hcut
  have HLl : Hid ((f.w1 p ++ f.w2 p ++ f.w3 g h p).length ≤ 1000000) := by show _ ≤ _; have := HLN.out; rw [List.length_append, List.length_append]; omega
  generalize f.w1 p ++ f.w2 p ++ f.w3 g h p = L at *
  have h0 := sort_oi wc (w.heap.size + 1) u9 L H2.out.o HLl.out
  go_wp2_with fail
  refine h0.mono ?_
  rintro _ u3 ⟨rfl, h6, g6⟩
  have H3 := hyd (H2.out.to h6 g6)
  clear h0 h6 g6 H2
  have HLs : Hid ((L.mergeSort fun x y => decide (x ≤ y)).length ≤ 1000000) := by show _ ≤ _; rw [List.length_mergeSort]; exact HLl.out
  generalize (L.mergeSort fun x y => decide (x ≤ y)) = S at *
  have h0 := compact_oi u3 (w.heap.size + 1) u9 S H3.out.o HLs.out
  go_wp2_with fail
  refine h0.mono ?_
  rintro _ u4 ⟨v5, rfl, h6, g6⟩
  have H4 := hyd (H3.out.to h6 g6)
  clear h0 h6 g6 H3
  rw [HW.out] at H4
  go_wp2
  go_ret
  exact ⟨_, rfl, (own_mono H4.out.o (Nat.le_succ _)), H4.out.x.bl⟩
end Go.Proofs.Ytibhcbdofadamaa

/- Layer 15: Ways, Leaves. -/
namespace Go.Proofs.Ytibhcbdofadamaa
open Go Go.RowKit

theorem quiet_load_rowF {C : World → Prop} {K : Act → Prop} {a : Act} {o : Oper} (ty : TypeId) (x : Operand) (ho : o.op = .load ty x) (b oo : Nat) (hx : a.eval x = .pointer (some ⟨b, oo, none⟩)) (cs : List Value) (d : TypeDesc) (hc : ∀ w, C w → w.rangeAt b oo cs)
    (hu : Try.prog.underlying ty = some d) (hd : d.isRow = true) (hi : (Try.prog.info? ty).map (·.size) = some cs.length) (h : K (a.put o.dst (.agg cs.toArray))) : o.quiet Try.prog a C K := by
  refine ⟨.agg cs.toArray, fun w hC => ?_, h⟩
  unfold Oper.quietAt execOp
  simp only [ho, hx, Sem.run_bind, run_loadAt_mid w b oo ty cs d (hc w hC) hu hd hi, Result.andThen_ok, Sem.run_pure]
  exact ⟨rfl, rfl⟩

set_option maxRecDepth 100000 in
set_option maxHeartbeats 8000000 in
theorem ways_any (f : Cf) (g : Rw Bool) (p : Nat) (w : World) (hf : f.At w) (hg : BlAt w g) (hp : p < f.cd.len) : Calls Try.prog 16 #[.agg f.vs.toArray, .slice g.ao g.len g.cap, .int .i64 p] w fun e w' => ∃ v, e = .returned v ∧ Oi w' w.heap.size v (f.ws g p) ∧ Below w.heap.size w w' := by
  have HWS : Hid (f.ws g p = f.wsH g (f.han p) p) := rfl
  generalize f.ws g p = R at *
  have H1 := hyd (Fb.new w f)
  have hpl : f.pl p = true := Cf.pl_iff.2 ⟨by omega, by omega⟩
  have HD := hyd (show f.At w ∧ BlAt w g ∧ p < f.cd.len from ⟨hf, hg, hp⟩)
  have hbd := hf.cd.bound
  have ip : (p : Int) < f.cd.len := by omega
  have HN14 := hyd (hf.cd.nil (by omega))
  clear hf hg hp
  have h0 := fplace_any f p (w.alloc (.cells f.vs.toArray 30))
  rw [hpl] at h0
  have rF := H1.out.b.range
  generalize hw : w.alloc (.cells f.vs.toArray 30) = u1 at *
  go_enter Try.func16, Try.ntmps16
  go_wp2_with (refine wpList_load_mid rfl 30 (.tmp 3) rfl w.heap.size 0 (by kernel_rfl) f.vs _ rF Try.underlying30 rfl (by kernel_rfl) ?_)
  refine h0.mono ?_
  rintro _ u2 ⟨rfl, hb⟩
  have H2 := hyd (H1.out.kept hb)
  clear h0 hb H1 rF hpl hw
  go_upto_region 3 with fail
  have rF := H2.out.b.range
  have hh : ∀ x : Gr u2, Calls Try.prog 34 #[.agg f.vs.toArray, .int .i64 p] x.w fun e w' => e = .returned (.int .i64 (f.han p)) ∧ Below x.w.heap.size x.w w' := fun x => handler_any f p x.w (Cf.At.kept (Below.next H2.out.bl x.bl) HD.out.1) HD.out.2.2
  generalize f.han p = hn at *
  refine wp_region_gr_tail 6 (by kernel_rfl) (by kernel_rfl) ?_
  simp only [List.take, List.drop]
  go_big_quiet_want
  refine quiet_load_rowF 30 (.tmp 3) rfl w.heap.size 0 (by kernel_rfl) f.vs _ (fun _ hC => by obtain ⟨x, rfl⟩ := hC; exact range_kept rF (Gr.bl x)) Try.underlying30 rfl (by kernel_rfl) ?_
  simp only [Act.put, List.setIfInBounds_toArray, List.set_cons_succ, List.set_cons_zero]
  go_big_quiet_on
  iterate 2 go_big_quiet_step (fail)
  go_big_quiet_want
  refine quiet_load_rowF 30 (.tmp 3) rfl w.heap.size 0 (by kernel_rfl) f.vs _ (fun _ hC => by obtain ⟨x, rfl⟩ := hC; exact range_kept rF (Gr.bl x)) Try.underlying30 rfl (by kernel_rfl) ?_
  simp only [Act.put, List.setIfInBounds_toArray, List.set_cons_succ, List.set_cons_zero]
  go_big_quiet_on
  go_big_quiet_step (fail)
  go_big_quiet_step ((go_at_call 34; exact Calls.gr _ (hh _)))
  refine wpQuiet_nil ?_
  rintro y1 ⟨xg, rfl⟩
  have Bg := xg.bl
  generalize xg.w = y1 at Bg ⊢
  have H3 := hyd (H2.out.kept Bg)
  clear Bg xg H2 rF hh
  have h0 := waysWith_any f g p hn y1 (Cf.At.kept H3.out.bl HD.out.1) (BlAt.kept HD.out.2.1 H3.out.bl) HD.out.2.2
  go_wp2_with fail
  refine h0.mono ?_
  rintro _ u4 ⟨v, rfl, hO, hb⟩
  have H4 := hyd (show Below w.heap.size w u4 ∧ Oi u4 w.heap.size v R from ⟨Below.next H3.out.bl hb, by rw [HWS.out]; exact own_mono hO H3.out.bl.size⟩)
  clear h0 hO hb H3
  go_wp2
  go_ret
  exact ⟨_, rfl, H4.out.2, H4.out.1⟩

set_option maxRecDepth 100000 in
set_option maxHeartbeats 8000000 in
theorem leaves_any (f : Cf) (g : Rw Bool) (p : Nat) (w : World) (hf : f.At w) (hg : BlAt w g) (hp : p < f.cd.len) : Calls Try.prog 19 #[.agg f.vs.toArray, .slice g.ao g.len g.cap, .int .i64 p] w fun e w' => e = .returned (.bool (f.lv g p)) ∧ Below w.heap.size w w' := by
  have HWS : Hid (f.lv g p = (decide ((f.cd.x p).op = 27) || (f.rs g p && decide (f.han p = -1)))) := rfl
  generalize f.lv g p = R at *
  have H1 := hyd (Fb.new w f)
  have hpl : f.pl p = true := Cf.pl_iff.2 ⟨by omega, by omega⟩
  have HD := hyd (show f.At w ∧ BlAt w g ∧ p < f.cd.len from ⟨hf, hg, hp⟩)
  have hbd := hf.cd.bound
  have ip : (p : Int) < f.cd.len := by omega
  have HN14 := hyd (hf.cd.nil (by omega))
  clear hf hg hp
  have h0 := fplace_any f p (w.alloc (.cells f.vs.toArray 30))
  rw [hpl] at h0
  have rF := H1.out.b.range
  generalize hw : w.alloc (.cells f.vs.toArray 30) = u1 at *
  go_enter Try.func19, Try.ntmps19
  go_wp2_with (refine wpList_load_mid rfl 30 (.tmp 3) rfl w.heap.size 0 (by kernel_rfl) f.vs _ rF Try.underlying30 rfl (by kernel_rfl) ?_)
  refine h0.mono ?_
  rintro _ u2 ⟨rfl, hb⟩
  have H2 := hyd (H1.out.kept hb)
  clear h0 hb H1 rF hpl hw
  have c14 := H2.out.b.cell 14 rfl
  rw [HN14.out] at c14
  have r0 := (Cf.At.kept H2.out.bl HD.out.1).cd.row p HD.out.2.2 0 _ rfl
  simp only [Nat.add_zero] at r0
  have hr := raises_any f g p u2 (Cf.At.kept H2.out.bl HD.out.1) (BlAt.kept HD.out.2.1 H2.out.bl) HD.out.2.2
  have hh : Hid (∀ u, Below w.heap.size w u → Calls Try.prog 34 #[.agg f.vs.toArray, .int .i64 p] u fun e w' => e = .returned (.int .i64 (f.han p)) ∧ Below u.heap.size u w') := fun u hb => handler_any f p u (Cf.At.kept hb HD.out.1) HD.out.2.2
  generalize (f.cd.x p).op = op at *
  generalize f.rs g p = rb at *
  generalize f.han p = hn at *
  by_cases o1 : op = 27
  · subst o1
    have HE : Hid (R = true) := HWS.out
    go_wp2
    go_ret
    exact ⟨ret_bool HE.out.symm, H2.out.bl⟩
  have n1 : (op == 27) = false := by simpa using o1
  have HW2 : Hid (R = (rb && decide (hn = -1))) := by show _ = _; rw [HWS.out, decide_eq_false o1]; rfl
  clear o1 HWS
  have rF := H2.out.b.range
  go_wp2_with (refine wpList_loadW (by kernel_rfl) 30 (.tmp 3) rfl w.heap.size 0 (by kernel_rfl) f.vs _ rF Try.underlying30 rfl (by kernel_rfl) ?_)
  refine hr.mono ?_
  rintro _ u3 ⟨rfl, hb⟩
  have H3 := hyd (H2.out.kept hb)
  clear hr hb H2 rF r0 c14
  cases rb
  · have HE : Hid (R = false) := HW2.out
    go_wp2
    go_ret
    exact ⟨ret_bool HE.out.symm, H3.out.bl⟩
  have rF := H3.out.b.range
  have h0 := hh.out u3 H3.out.bl
  go_wp2_with (refine wpList_loadW (by kernel_rfl) 30 (.tmp 3) rfl w.heap.size 0 (by kernel_rfl) f.vs _ rF Try.underlying30 rfl (by kernel_rfl) ?_)
  refine h0.mono ?_
  rintro _ u4 ⟨rfl, hb⟩
  have H4 := hyd (H3.out.kept hb)
  clear h0 hb H3 rF
  by_cases e : hn = -1
  · have e1 : (hn == -1) = true := by simpa using e
    have HE : Hid (R = true) := by show _ = _; rw [HW2.out, decide_eq_true e]; rfl
    clear e
    go_wp2
    go_ret
    exact ⟨ret_bool HE.out.symm, H4.out.bl⟩
  · have e1 : (hn == -1) = false := by simpa using e
    have HE : Hid (R = false) := by show _ = _; rw [HW2.out, decide_eq_false e]; rfl
    clear e
    go_wp2
    go_ret
    exact ⟨ret_bool HE.out.symm, H4.out.bl⟩
end Go.Proofs.Ytibhcbdofadamaa

/- Layer 9: walk.Total at a function without Parts: what is counted on. -/
namespace Go.Proofs.Ytibhcbdofadamaa
open Go Go.RowKit

def zTE : Ty := .mk 0 0 0 0 none 0 0 0 0 fun _ => .dm
/-- A function without Parts. -/
def fnE : Ex := .mk 6 0 0 ⟨#[]⟩ ⟨#[]⟩ zTE zTE none 0 0 0 0 (fun _ => .dm) 0
theorem Blk.setE {w : World} {B : Nat} {c : List Value} {t : TypeId} (h : Blk w B c t) (i : Nat) (v : Value) : Blk (w.setCell ⟨B, i, none⟩ v) B (c.set i v) t := by
  unfold Blk at h ⊢
  simp [World.setCell, Array.getElem?_modify, h]
theorem WroteB.cell1 {w : World} {B : Nat} {c : List Value} {t : TypeId} (h : Blk w B c t) (i : Nat) (v : Value) : WroteB w (w.setCell ⟨B, i, none⟩ v) B (c.set i v) t :=
  ⟨h.setE i v, fun b hb => Below.heap_setCell _ _ _ _ hb, by simp [World.setCell], fun hB hb => hb.setCell hB v⟩
/-- One cell of a block stored. -/
theorem wp_store1 {o : Oper} {a : Act} {w : World} {K : Act → World → Prop} {Q : Exit → Act → World → Prop} (ty : TypeId) (p x : Operand) (ho : o.op = .store ty p x) (hdst : o.dst = none) (B i : Nat) (v : Value) (c : List Value) (t : TypeId) (hp : a.eval p = .pointer (some ⟨B, i, none⟩)) (hx : a.eval x = v)
    (hs : ∀ w : World, w.there B i 1 → (storeVar ty ⟨B, i, none⟩ v).run Try.prog w = .ok () (w.setCell ⟨B, i, none⟩ v))
    (hb : Blk w B c t) (hi : i < c.length) (h : ∀ w', WroteB w w' B (c.set i v) t → K a w') : o.wp Try.prog a w K Q := by
  have ht : w.there B i 1 := fun j hj => by
    have e : j = 0 := by omega
    subst e
    refine ⟨?_, hb.frozen _⟩
    rw [hb.cell (i + 0) (v := c[i]) (by simp [hi])]; rfl
  unfold Oper.wp execOp
  simp only [ho, hp, hx, Instr.storeAt, Instr.sureAddr, Sem.run_bind, Sem.run_pure, Result.andThen_ok, hs w ht]
  have e : a.put o.dst undef = a := by rw [hdst]; rfl
  show K (a.put o.dst undef) _
  rw [e]
  exact h _ (WroteB.cell1 hb i v)
theorem wpList_store1 {w : World} {ops : Array Oper} {rest : List Oper} {o : Oper} {a : Act} {Q : Exit → Act → World → Prop} (hgd : o.guard = none) (ty : TypeId) (p x : Operand) (ho : o.op = .store ty p x) (hdst : o.dst = none) (B i : Nat) (v : Value) (c : List Value) (t : TypeId) (hp : a.eval p = .pointer (some ⟨B, i, none⟩)) (hx : a.eval x = v)
    (hs : ∀ w : World, w.there B i 1 → (storeVar ty ⟨B, i, none⟩ v).run Try.prog w = .ok () (w.setCell ⟨B, i, none⟩ v))
    (hb : Blk w B c t) (hi : i < c.length) (h : ∀ w', WroteB w w' B (c.set i v) t → wpList Try.prog ops Q rest a w') : wpList Try.prog ops Q (o :: rest) a w :=
  wpList_plain hgd fun _ hK => wp_store1 ty p x ho hdst B i v c t hp hx hs hb hi (fun w' W => hK _ _ (h w' W))
/-- What is put behind a nil list. -/
theorem wp_append_new {w : World} {o : Oper} {a : Act} {K : Act → World → Prop} {Q : Exit → Act → World → Prop} (s x : Operand) (t e : TypeId) (z : Value) (size bytes : Nat)
    (hop : o.op = .call { callee := .builtin .append, args := #[s, x], argTypes := #[t, t] }) (ht : Try.prog.underlying t = some (.slice e)) (hinfo : (Try.prog.info? e).map (fun i => (i.zero, i.size, i.bytes)) = some (some z, size, bytes)) (hz : z.cells.size = size) (hsz : 0 < size) (hby : bytes ≤ 1000)
    (hs : a.eval s = .slice none 0 0) (b c : Nat) (xs : List Value) (e' : TypeId) (hx : a.eval x = .slice (some ⟨b, 0, none⟩) 1 c) (hb : Blk w b xs e') (hl : xs.length = size) (h1 : ∀ u ∈ xs, u.oneCell' = true)
    (h : ∀ g cap ys w', w.heap.size ≤ g → Blk w' g (xs ++ ys) e → Below w.heap.size w w' → K (a.put o.dst (.slice (some ⟨g, 0, none⟩) 1 cap)) w') : o.wp Try.prog a w K Q := by
  obtain ⟨i0, hi, hz0, hz1, hz2⟩ := info_parts hinfo
  obtain ⟨v', w', hr, h2, h3, _⟩ := run_append_own (P := Try.prog) w w.heap.size t o.type e i0 _ size bytes ht hi hz0 hz1 hz2 hz hsz (.slice none 0 0) 0 [] (World.ownsRow_nil _ _ _ _) ⟨b, 0, none⟩ 1 c xs (by omega)
    (fun j u hu => by rw [addr_add, Nat.zero_add]; exact hb.cell j hu) h1 (by decide) (by omega) (Nat.le_refl _)
  obtain ⟨_, ⟨rfl, e⟩ | ⟨g, cap, cur, rfl, hg, hcur, _, _, _, htk⟩⟩ := h2
  · simp at e
  unfold Oper.wp execOp
  simp only [hop, resolve, invoke, builtin, Sem.run_bind, Sem.run_pure, Result.andThen_ok, List.map_toArray, List.map_cons, List.map_nil, hs, hx, hr]
  refine h g cap (cur.toList.drop ((0 + 1) * size)) w' hg ?_ ((Below.refl _ _).grown h3 (Nat.le_refl _) (fun k hk => by cases hk))
  unfold Blk
  rw [hcur]
  have e : xs ++ cur.toList.drop ((0 + 1) * size) = cur.toList := by
    have := List.take_append_drop ((0 + 1) * size) cur.toList
    rw [htk] at this
    simpa using this
  rw [e]
theorem wpList_append_new {w : World} {ops : Array Oper} {rest : List Oper} {o : Oper} {a : Act} {Q : Exit → Act → World → Prop} (hgd : o.guard = none) (s x : Operand) (t e : TypeId) (z : Value) (size bytes : Nat)
    (hop : o.op = .call { callee := .builtin .append, args := #[s, x], argTypes := #[t, t] }) (ht : Try.prog.underlying t = some (.slice e)) (hinfo : (Try.prog.info? e).map (fun i => (i.zero, i.size, i.bytes)) = some (some z, size, bytes)) (hz : z.cells.size = size) (hsz : 0 < size) (hby : bytes ≤ 1000)
    (hs : a.eval s = .slice none 0 0) (b c : Nat) (xs : List Value) (e' : TypeId) (hx : a.eval x = .slice (some ⟨b, 0, none⟩) 1 c) (hb : Blk w b xs e') (hl : xs.length = size) (h1 : ∀ u ∈ xs, u.oneCell' = true)
    (h : ∀ g cap ys w', w.heap.size ≤ g → Blk w' g (xs ++ ys) e → Below w.heap.size w w' → wpList Try.prog ops Q rest (a.put o.dst (.slice (some ⟨g, 0, none⟩) 1 cap)) w') : wpList Try.prog ops Q (o :: rest) a w :=
  wpList_plain hgd fun _ hK => wp_append_new s x t e z size bytes hop ht hinfo hz hsz hby hs b c xs e' hx hb hl h1 (fun g cap ys w' h2 h3 h4 => hK _ _ (h g cap ys w' h2 h3 h4))

/-- The list's first node alone: so many are such, it holds some. -/
def lsV (n : Nat) (own : Int) (hd : Bool) (ys : List Value) : List Value := .slice (some ⟨n, 0, none⟩) 1 1 :: .int .i64 own :: .slice none 0 0 :: .bool hd :: ys
theorem Try.infoIntT : (Try.prog.info? 3).map (fun i => (i.zero, i.size, i.bytes)) = some (some (.int .i64 0), 1, 8) := by kernel_rfl
theorem run_slice_int (k : Int) (w : World) : (Instr.buildSlice 36 1 #[(0, .int .i64 k)]).run Try.prog w = .ok (.slice (some ⟨w.heap.size, 0, none⟩) 1 1) (w.alloc (.cells #[.int .i64 k] 3)) := by
  obtain ⟨i0, hi, hz0, hz1, hz2⟩ := info_parts Try.infoIntT
  have hf : Instr.fill (fun i => some (i, 1)) (Array.map (fun x => [Value.int IntKind.i64 0][x % 1]?.getD default) (Array.range 1)) [(0, .int .i64 k)] = some #[.int .i64 k] := by kernel_rfl
  simp [Instr.buildSlice, run_underlying Try.underlying36, sizeOf, typeInfo, hi, hz0, hz1, zeroValue, newRow, Value.cells, hf]
theorem store_one (ty : TypeId) (v : Value) (h1 : (Try.prog.info? ty).map (·.size) = some 1) (hv : v.oneCell' = true) (hc : v.cells = #[v]) (B i : Nat) (w : World) (h : w.there B i 1) : (storeVar ty ⟨B, i, none⟩ v).run Try.prog w = .ok () (w.setCell ⟨B, i, none⟩ v) := by
  cases hq : Try.prog.info? ty with
  | none => simp [hq] at h1
  | some j =>
    have hs : j.size = 1 := by simpa [hq] using h1
    have := run_storeCells_cells (P := Try.prog) B i [v] 0 w (fun j hj => by simpa using (h j (by simpa using hj)).1) (fun j hj => by simpa using (h j (by simpa using hj)).2) (fun u hu => by simp at hu; subst hu; exact hv)
    simp only [Nat.add_zero, World.setCells] at this
    simp [storeVar, sizeOf, typeInfo, hq, hc, hs, this]
theorem wpList_new_int {w : World} {ops : Array Oper} {rest : List Oper} {o : Oper} {a : Act} {Q : Exit → Act → World → Prop} (hgd : o.guard = none) (x : Operand) (ho : o.op = .buildSlice 36 1 #[(0, x)]) (k : Int) (hx : a.eval x = .int .i64 k)
    (h : ∀ w', Blk w' w.heap.size [.int .i64 k] 3 → Below w.heap.size w w' → wpList Try.prog ops Q rest (a.put o.dst (.slice (some ⟨w.heap.size, 0, none⟩) 1 1)) w') : wpList Try.prog ops Q (o :: rest) a w :=
  wpList_slice hgd 36 1 #[(0, x)] ho #[(0, .int .i64 k)] (by simp [hx]) (run_slice_int k w) (h _ (Blk.new w [.int .i64 k] 3) (below_alloc w _))
end Go.Proofs.Ytibhcbdofadamaa
