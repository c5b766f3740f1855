/- Layer 8: a row of names that grows, and what lies elsewhere. -/
import Derived.Test.YtnhoehiaphdomaaP6
import Derived.Test.YtnhoehiaphdomaaP4
import Derived.Deep.RegionHeld3
import Derived.Deep.MidRow
namespace Go.Proofs.Ytnhoehiaphdomaa
open Go.RowKit

/-- Nothing that was there is turned but the row of v, and v' is that row or a new one. -/
structure Gb (w w' : World) (v v' : Value) : Prop where
  gb : w.grownBy w' v.ownBlock
  own : v'.ownBlock = v.ownBlock ∨ ∃ g, v'.ownBlock = some g ∧ w.heap.size ≤ g
theorem Gb.of {w w' : World} (h : Below w.heap.size w w') (v : Value) : Gb w w' v v := ⟨⟨h.os, h.tape, h.output, h.size, fun k hk _ => h.block k hk⟩, Or.inl rfl⟩
theorem Gb.trans {a b c : World} {u v x : Value} (h : Gb a b u v) (k : Gb b c v x) : Gb a c u x := by
  have hs := h.gb.size
  refine ⟨⟨k.gb.os.trans h.gb.os, k.gb.tape.trans h.gb.tape, k.gb.output.trans h.gb.output, Nat.le_trans h.gb.size k.gb.size, fun i hi hne => ?_⟩, ?_⟩
  · rw [k.gb.block i (by omega) ?_, h.gb.block i hi hne]
    intro e
    rcases h.own with h1 | ⟨g, h1, h2⟩
    · exact hne (by rw [e, h1])
    · rw [h1] at e
      have : i = g := by simpa using e
      omega
  · rcases k.own with h1 | ⟨g, h1, h2⟩
    · rcases h.own with h3 | ⟨g, h3, h4⟩
      · exact Or.inl (h1.trans h3)
      · exact Or.inr ⟨g, h1.trans h3, h4⟩
    · exact Or.inr ⟨g, h1, by omega⟩
/-- A block that is apart from the row of v. -/
def Far (w : World) (v : Value) (b : Nat) : Prop := b < w.heap.size ∧ some b ≠ v.ownBlock
theorem Far.block {w w' : World} {v v' : Value} {b : Nat} (h : Far w v b) (k : Gb w w' v v') : w'.heap[b]? = w.heap[b]? := k.gb.block b h.1 h.2
theorem Far.step {w w' : World} {v v' : Value} {b : Nat} (h : Far w v b) (k : Gb w w' v v') : Far w' v' b := by
  refine ⟨Nat.lt_of_lt_of_le h.1 k.gb.size, fun e => ?_⟩
  have := h.1
  rcases k.own with h1 | ⟨g, h1, h2⟩
  · exact h.2 (by rw [e, h1])
  · rw [h1] at e
    have : b = g := by simpa using e
    omega
/-- What is known while names are gathered: w0 the world that the expression lies in, v the row of these names. -/
structure Gth (w0 w : World) (v : Value) (f : List ByteArray) : Prop where
  bl : Below w0.heap.size w0 w
  own : w.ownsRow w0.heap.size 9 1 v f.length (f.map .string)
theorem own_kept {w w' : World} {base : Nat} {e : TypeId} {size : Nat} {v : Value} {n : Nat} {xs : List Value} (h : w.ownsRow base e size v n xs) (hb : Below w.heap.size w w') : w'.ownsRow base e size v n xs := by
  have hl := fun k hk => (ap_own h (k := k) hk).2
  obtain ⟨h0, h⟩ := h
  refine ⟨h0, ?_⟩
  rcases h with ⟨rfl, hn⟩ | ⟨g, cap, cur, rfl, hg, hh, hr⟩
  · exact Or.inl ⟨rfl, hn⟩
  · exact Or.inr ⟨g, cap, cur, rfl, hg, (hb.block g (hl g rfl)).trans hh, hr⟩
theorem Gth.step {w0 w w' : World} {v : Value} {f : List ByteArray} (h : Gth w0 w v f) (hb : Below w.heap.size w w') : Gth w0 w' v f := ⟨Below.next h.bl hb, own_kept h.own hb⟩
theorem Gth.to {w0 w w' : World} {v v' : Value} {f f' : List ByteArray} (h : Gth w0 w v f) (k : Gb w w' v v') (ho : w'.ownsRow w0.heap.size 9 1 v' f'.length (f'.map .string)) : Gth w0 w' v' f' :=
  ⟨ap_bel h.bl k.gb (fun _ hb => (ap_own h.own hb).1), ho⟩
theorem Gth.far {w0 w : World} {v : Value} {f : List ByteArray} (h : Gth w0 w v f) {b : Nat} (hb : w.heap.size ≤ b) : some b ≠ v.ownBlock := fun e => by
  have := (ap_own h.own e.symm).2
  omega
/-- Names that lie apart from the row of v. -/
def SFar (w : World) (hv : Value) (h : List ByteArray) (v : Value) : Prop := ∃ ao b o cap, hv = .slice ao h.length cap ∧ (0 < h.length → ao = some ⟨b, o, none⟩) ∧ (ao = none → cap = 0) ∧ h.length ≤ 1000000 ∧ (∀ i s, h[i]? = some s → w.cell? ⟨b, o + i, none⟩ = some (.string s)) ∧ (0 < h.length → Far w v b)
theorem SFar.sat {w : World} {hv v : Value} {h : List ByteArray} (k : SFar w hv h v) : SAt w hv h := by
  obtain ⟨ao, b, o, cap, h1, h2, h3, h4, h5, _⟩ := k
  exact ⟨ao, b, o, cap, h1, h2, h3, h4, h5⟩
theorem SFar.step {w w' : World} {hv v v' : Value} {h : List ByteArray} (k : SFar w hv h v) (g : Gb w w' v v') : SFar w' hv h v' := by
  obtain ⟨ao, b, o, cap, h1, h2, h3, h4, h5, h6⟩ := k
  refine ⟨ao, b, o, cap, h1, h2, h3, h4, fun i s hs => ?_, fun hp => (h6 hp).step g⟩
  have hp : 0 < h.length := by
    rcases Nat.lt_or_ge i h.length with q | q
    · omega
    · rw [List.getElem?_eq_none q] at hs; cases hs
  rw [World.cell?_of_block (a := ⟨b, o + i, none⟩) ((h6 hp).block g)]
  exact h5 i s hs
/-- A row of one's own that was made later. -/
theorem sfar_own {w0 w w1 w2 : World} {v hv : Value} {f h : List ByteArray} (hg : Gth w0 w v f) (hb : Below w.heap.size w w1) (ho : w2.ownsRow w1.heap.size 9 1 hv h.length (h.map .string)) (hn : h.length ≤ 1000000) : SFar w2 hv h v := by
  have hs := hb.size
  obtain ⟨hl, ⟨rfl, hn0⟩ | ⟨g, cap, cur, rfl, hgg, hh, h1, h2, h3, ht⟩⟩ := ho
  · have : h = [] := List.eq_nil_of_length_eq_zero hn0
    subst this
    exact ⟨none, 0, 0, 0, rfl, fun h => absurd h (Nat.lt_irrefl 0), fun _ => rfl, Nat.zero_le _, by simp, fun h => absurd h (Nat.lt_irrefl 0)⟩
  · obtain ⟨ao, b, o, cap', e1, e2, e3, e4, e5⟩ := own_sat ⟨hl, Or.inr ⟨g, cap, cur, rfl, hgg, hh, h1, h2, h3, ht⟩⟩ hn
    cases e1
    refine ⟨_, g, 0, cap, rfl, fun _ => rfl, (fun h => by cases h), hn, fun i s hi => ?_, fun hp => ⟨(Array.getElem?_eq_some_iff.1 hh).1, hg.far (by omega)⟩⟩
    have hp : 0 < h.length := by
      rcases Nat.lt_or_ge i h.length with q | q
      · omega
      · rw [List.getElem?_eq_none q] at hi; cases hi
    have := e2 hp
    simp only [Option.some.injEq, Addr.mk.injEq] at this
    obtain ⟨rfl, rfl, _⟩ := this
    exact e5 i s hi
end Go.Proofs.Ytnhoehiaphdomaa

/- A region that draws its order: 'x := f(..)', reads ahead of a call, and a new variable that the call's answer goes into, the variable being made at any time. -/
namespace Go.Proofs.Ytnhoehiaphdomaa
open Go Go.RowKit

section
variable {P : Program} {ops : Array Oper} {Q : Exit → Act → World → Prop}

theorem if_wanted {o : Oper} {a : Act} (hg : o.guard = none) : Region.wanted o (yielded ops a.tmps) = true := by simp [Region.wanted, hg]

/-- What is known of the three last operations. -/
structure Three (P : Program) (ops : Array Oper) (m : Nat) (listed : Array Bool) (oc oa oz : Oper) (ty : TypeId) (zs : List Value) (c d : Nat) : Prop where
  hoc : ops[m]? = some oc
  hoa : ops[m + 1]? = some oa
  hoz : ops[m + 2]? = some oz
  gc : oc.guard = none
  ga : oa.guard = none
  gz : oz.guard = none
  dc : oc.dst = some c
  da : oa.dst = some d
  dz : oz.dst = none
  opa : oa.op = .alloc ty
  opz : oz.op = .store ty (.tmp d) (.tmp c)
  r0 : Region.ready .any ops listed = [m, m + 1]
  r1 : Region.ready .any ops (listed.setIfInBounds m true) = [m + 1]
  r2 : Region.ready .any ops (listed.setIfInBounds (m + 1) true) = [m]
  r3 : Region.ready .any ops ((listed.setIfInBounds m true).setIfInBounds (m + 1) true) = [m + 2]
  r4 : Region.ready .any ops (((listed.setIfInBounds m true).setIfInBounds (m + 1) true).setIfInBounds (m + 2) true) = []
  hi : (P.info? ty).map (·.size) = some zs.length
  hal : ∀ u : World, (Instr.alloc ty true (.tuple #[])).run P u = .ok (.pointer (some ⟨u.heap.size, 0, none⟩)) (u.alloc (.cells zs.toArray ty))

theorem there_of {u : World} {B : Nat} {zs : List Value} {ty : TypeId} (h : u.heap[B]? = some (.cells zs.toArray ty (0, 0))) : u.there B 0 zs.length := fun j hj => by
  refine ⟨?_, ?_⟩
  · simp [World.cell?, h, hj]
  · simp [World.frozen?, h]
theorem below_setCells {B b : Nat} {a : World} (hb : B ≤ b) : ∀ (vs : List Value) (o : Nat) (w : World), Below B a w → Below B a (w.setCells b o vs)
  | [], _, _, h => h
  | v :: vs, o, _, h => below_setCells hb vs (o + 1) _ (h.setCell hb v)

theorem wpAnyH_three {m : Nat} {listed : Array Bool} {oc oa oz : Oper} {ty : TypeId} {zs : List Value} {c d : Nat} (T : Three P ops m listed oc oa oz ty zs c d) (w0 : World) (a : Act) (f : FuncId) (args : Array Value) (G : Array Value → Prop) (Pn : List PanicEntry → Prop)
    (hc : ∀ u, Below w0.heap.size w0 u → (execOp a.eval oc).run P u = .ok (.enter f args) u)
    (hc2 : ∀ u v, Below w0.heap.size w0 u → (execOp (a.put (some d) v).eval oc).run P u = .ok (.enter f args) u)
    (hcall : ∀ u, Below w0.heap.size w0 u → Calls P f args u fun e u' => Below u.heap.size u u' ∧ ((∃ vals : Array Value, e = .returned (.agg vals) ∧ G vals) ∨ ∃ ch, e = .panicked ch ∧ Pn ch))
    (hG : ∀ vals, G vals → vals.size = zs.length ∧ vals.all (·.oneCell') = true)
    (hcomm : ∀ v v', (a.put (some d) v).put (some c) v' = (a.put (some c) v').put (some d) v)
    (hev : ∀ v v', ((a.put (some c) v').put (some d) v).eval (.tmp d) = v ∧ ((a.put (some c) v').put (some d) v).eval (.tmp c) = v')
    (hpan : ∀ ch (a1 : Act) u, Pn ch → Below w0.heap.size w0 u → a1.defers = a.defers → Q (.panic ch) a1 u)
    (hQ : ∀ vals B u, G vals → Below w0.heap.size w0 u → w0.heap.size ≤ B → u.rangeAt B 0 vals.toList → Q .normal ((a.put (some c) (.agg vals)).put (some d) (.pointer (some ⟨B, 0, none⟩))) u)
    (w : World) (hw : Below w0.heap.size w0 w) : wpAnyH P .any ops Q (fun u => Below w0.heap.size w0 u) 3 listed a w := by
  -- the store, wherever the block lies
  have hstore : ∀ vals B u, G vals → Below w0.heap.size w0 u → w0.heap.size ≤ B → u.heap[B]? = some (.cells zs.toArray ty (0, 0)) →
      wpAnyH P .any ops Q (fun u => Below w0.heap.size w0 u) 1 ((listed.setIfInBounds m true).setIfInBounds (m + 1) true) ((a.put (some c) (.agg vals)).put (some d) (.pointer (some ⟨B, 0, none⟩))) u := by
    intro vals B u hg hu hB hz
    obtain ⟨h1, h2⟩ := hG vals hg
    refine wpAnyH_ready T.r3 (by simp) ?_
    refine AllReadyH.cons T.hoz (fun K hK => ?_) AllReadyH.nil
    rw [if_pos (if_wanted T.gz)]
    have ht : u.there B 0 vals.size := by rw [h1]; exact there_of hz
    refine wp_store_mid ty (.tmp d) (.tmp c) T.opz B 0 vals (hev _ _).1 (hev _ _).2 ht (by rw [T.hi, h1]) h2 ?_
    have hB2 : Below w0.heap.size w0 (u.setCells B 0 vals.toList) := below_setCells hB _ _ _ hu
    refine hK.out _ _ hB2 fun _ => ?_
    rw [T.dz]
    refine wpAnyH_done T.r4 ?_ _
    exact hQ vals B _ hg hB2 hB (World.rangeAt_setCells_same _ _ _ _ (by simpa using ht))
  refine wpAnyH_ready T.r0 (by simp) ?_
  refine AllReadyH.cons T.hoc (fun K hK => ?_) (AllReadyH.cons T.hoa (fun K hK => ?_) AllReadyH.nil)
  · -- the call first
    rw [if_pos (if_wanted T.gc)]
    unfold Oper.wp
    rw [hc w hw, Oper.upon_enter]
    refine (hcall w hw).mono ?_
    rintro e u ⟨hb, ⟨vals, rfl, hg⟩ | ⟨ch, rfl, hp⟩⟩
    · have hu := Below.next hw hb
      refine hK.out _ _ hu fun _ => ?_
      refine wpAnyH_ready T.r1 (by simp) ?_
      refine AllReadyH.cons T.hoa (fun K2 hK2 => ?_) AllReadyH.nil
      rw [if_pos (if_wanted T.ga)]
      unfold Oper.wp execOp
      simp only [T.opa, Sem.run_bind, T.hal, Result.andThen_ok, Sem.run_pure]
      have hu2 : Below w0.heap.size w0 (u.alloc (.cells zs.toArray ty)) := hu.alloc hu.size _
      refine hK2.out _ _ hu2 fun _ => ?_
      rw [T.dc, T.da]
      exact hstore vals u.heap.size _ hg hu2 hu.size (heap_alloc_new _ _)
    · exact hpan ch _ _ hp (Below.next hw hb) rfl
  · -- the variable first
    rw [if_pos (if_wanted T.ga)]
    unfold Oper.wp execOp
    simp only [T.opa, Sem.run_bind, T.hal, Result.andThen_ok, Sem.run_pure]
    have hu2 : Below w0.heap.size w0 (w.alloc (.cells zs.toArray ty)) := hw.alloc hw.size _
    refine hK.out _ _ hu2 fun _ => ?_
    rw [T.da]
    refine wpAnyH_ready T.r2 (by simp) ?_
    refine AllReadyH.cons T.hoc (fun K2 hK2 => ?_) AllReadyH.nil
    rw [if_pos (if_wanted T.gc)]
    unfold Oper.wp
    rw [hc2 _ _ hu2, Oper.upon_enter]
    refine (hcall _ hu2).mono ?_
    rintro e u ⟨hb, ⟨vals, rfl, hg⟩ | ⟨ch, rfl, hp⟩⟩
    · have hu := Below.next hu2 hb
      refine hK2.out _ _ hu fun _ => ?_
      rw [T.dc, hcomm, Array.setIfInBounds_comm _ _ (by omega)]
      refine hstore vals w.heap.size u hg hu hw.size ?_
      rw [hb.block _ (by simp), heap_alloc_new]
    · exact hpan ch _ _ hp (Below.next hu2 hb) rfl

/-- It yields a value, if anything. -/
def isRead (o : Oper) : Bool := match o.op with
  | .load .. | .fieldAddr .. | .indexAddr .. | .extract .. => true
  | _ => false
theorem run_val {s : Sem Value} {w w' : World} {n : Next} (hr : (do pure (Next.value (← s)) : Sem Next).run P w = .ok n w') : ∃ u, n = .value u := by
  simp only [Sem.run_bind] at hr
  cases hq : s.run P w with
  | ok v w2 => rw [hq] at hr; simp only [Result.andThen_ok, Sem.run_pure] at hr; exact ⟨v, (Result.ok.inj hr).1.symm⟩
  | halt x w2 => rw [hq] at hr; simp [Result.andThen] at hr
theorem read_value {o : Oper} (h : isRead o = true) (ρ : Operand → Value) (w w' : World) (n : Next) (hr : (execOp ρ o).run P w = .ok n w') : ∃ u, n = .value u := by
  cases ho : o.op
  case load => unfold execOp at hr; rw [ho] at hr; exact run_val hr
  case fieldAddr => unfold execOp at hr; rw [ho] at hr; exact run_val hr
  case indexAddr => unfold execOp at hr; rw [ho] at hr; exact run_val hr
  case extract => unfold execOp at hr; rw [ho] at hr; exact run_val hr
  all_goals (unfold isRead at h; rw [ho] at h; cases h)
theorem yieldsIf_of_quiet {S : World → Prop} {o : Oper} {a : Act} {K : Act → Prop} (hr : isRead o = true) (h : if Region.wanted o (yielded ops a.tmps) then o.quiet P a S K else K (a.put o.dst undef)) : ∃ v, YieldsIf P ops S o v a ∧ K (a.put o.dst v) := by
  by_cases hw : Region.wanted o (yielded ops a.tmps) = true
  · rw [if_pos hw] at h
    obtain ⟨v, h1, h2⟩ := h
    refine ⟨v, Or.inl ⟨hw, fun w hS => ?_⟩, h2⟩
    have h3 := h1 w hS
    unfold Oper.quietAt at h3
    cases hq : (execOp a.eval o).run P w with
    | ok n w' =>
      obtain ⟨u, rfl⟩ := read_value hr _ _ _ _ hq
      rw [hq] at h3
      simp only [Oper.quietUpon] at h3
      rw [h3.1, h3.2]
    | halt x w' => rw [hq] at h3; simp only [Oper.quietUpon] at h3
  · rw [if_neg hw] at h
    exact ⟨undef, Or.inr ⟨by simpa using hw, rfl⟩, h⟩
def lexR (ops : Array Oper) : List Oper → Nat → Array Bool → Bool
  | [], _, _ => true
  | o :: l, k, listed => isRead o && (Region.ready .any ops listed).contains k && Region.free .any ops listed k && lexR ops l (k + 1) (listed.setIfInBounds k true)
theorem wpAnyH_reads {S : World → Prop} {K : Act → Prop} {rest : Nat} {w : World} (hs : Region.noSelect ops = true) (hQ : ∀ c a d v w, Q (.panic c) (Act.put a d v) w → Q (.panic c) a w) (hS : S w) : ∀ (l : List Oper) (k : Nat) (listed : Array Bool) (a : Act), (∀ j, j < l.length → l[j]? = ops[k + j]?) →
    lexR ops l k listed = true → wpQuiet P ops S K l a → (∀ a', K a' → wpAnyH P .any ops Q S rest (listedTo l.length k listed) a' w) → wpAnyH P .any ops Q S (l.length + rest) listed a w
  | [], _, _, _, _, _, h, hK => by simpa [listedTo] using hK _ h
  | o :: l, k, listed, a, hl, hB, h, hK => by
    have h0 : ops[k]? = some o := by simpa using (hl 0 (by simp)).symm
    simp only [lexR, Bool.and_eq_true] at hB
    obtain ⟨⟨⟨hr, hc⟩, hf⟩, hB'⟩ := hB
    have h' : if Region.wanted o (yielded ops a.tmps) then o.quiet P a S (wpQuiet P ops S K l) else wpQuiet P ops S K l (a.put o.dst undef) := h
    obtain ⟨v, hy, hk⟩ := yieldsIf_of_quiet (ops := ops) hr h'
    rw [show (o :: l).length + rest = (l.length + rest) + 1 by simp; omega]
    exact wpAnyH_take h0 hs hf hc (fun c a w => hQ c a _ _ w) hy hS (wpAnyH_reads hs hQ hS l (k + 1) _ _ (fun j hj => by have := hl (j + 1) (by simp; omega); simpa [Nat.add_assoc, Nat.add_comm 1 j] using this) hB' hk hK)
/-- Those of these places listed. -/
def listedI : List Nat → Array Bool → Array Bool
  | [], l => l
  | i :: js, l => listedI js (l.setIfInBounds i true)
def lexI (ops : Array Oper) : List Nat → List Oper → Array Bool → Bool
  | [], [], _ => true
  | i :: js, o :: l, listed => isRead o && (Region.ready .any ops listed).contains i && Region.free .any ops listed i && lexI ops js l (listed.setIfInBounds i true)
  | _, _, _ => false
theorem wpAnyH_readsI {S : World → Prop} {K : Act → Prop} {rest : Nat} {w : World} (hs : Region.noSelect ops = true) (hQ : ∀ c a d v w, Q (.panic c) (Act.put a d v) w → Q (.panic c) a w) (hS : S w) : ∀ (js : List Nat) (l : List Oper) (listed : Array Bool) (a : Act), (∀ j, j < l.length → ∃ i, js[j]? = some i ∧ ops[i]? = l[j]?) →
    lexI ops js l listed = true → wpQuiet P ops S K l a → (∀ a', K a' → wpAnyH P .any ops Q S rest (listedI js listed) a' w) → wpAnyH P .any ops Q S (js.length + rest) listed a w
  | [], [], _, _, _, _, h, hK => by simpa [listedI] using hK _ h
  | [], _ :: _, _, _, _, hB, _, _ => by simp [lexI] at hB
  | _ :: _, [], _, _, _, hB, _, _ => by simp [lexI] at hB
  | i :: js, o :: l, listed, a, hl, hB, h, hK => by
    have h0 : ops[i]? = some o := by
      obtain ⟨i', h1, h2⟩ := hl 0 (by simp)
      have : i = i' := by simpa using h1
      subst this
      simpa using h2
    simp only [lexI, Bool.and_eq_true] at hB
    obtain ⟨⟨⟨hr, hc⟩, hf⟩, hB'⟩ := hB
    have h' : if Region.wanted o (yielded ops a.tmps) then o.quiet P a S (wpQuiet P ops S K l) else wpQuiet P ops S K l (a.put o.dst undef) := h
    obtain ⟨v, hy, hk⟩ := yieldsIf_of_quiet (ops := ops) hr h'
    rw [show (i :: js).length + rest = (js.length + rest) + 1 by simp; omega]
    exact wpAnyH_take h0 hs hf hc (fun c a w => hQ c a _ _ w) hy hS (wpAnyH_readsI hs hQ hS js l _ _ (fun j hj => by
      obtain ⟨i', h1, h2⟩ := hl (j + 1) (by simp; omega)
      exact ⟨i', by simpa using h1, by simpa using h2⟩) hB' hk hK)
/-- The worlds that meet S. -/
def Wd (S : World → Prop) : Type := { u : World // S u }
def Wd.w {S : World → Prop} (x : Wd S) : World := x.1
/-- A region that draws: first all that only reads. -/
theorem wp_region_reads {id : Nat} {a : Act} {w : World} {l : List Oper} (S : World → Prop) (js : List Nat) (rest : Nat) (hm : P.follows .mixedOrders = true) (hlen : l.length = js.length + rest) (hB : (Region.noSelect l.toArray && lexI l.toArray js (js.filterMap (l[·]?)) (Array.replicate l.length false)) = true) (hj : ∀ j, j < (js.filterMap (l[·]?)).length → ∃ i, js[j]? = some i ∧ l.toArray[i]? = (js.filterMap (l[·]?))[j]?)
    (hQ : ∀ c a d v w, Q (.panic c) (Act.put a d v) w → Q (.panic c) a w) (hS : S w.drew)
    (h : wpQuiet P l.toArray (fun u => ∃ x : Wd S, u = x.w) (fun a' => wpAnyH P .any l.toArray Q S rest (listedI js (Array.replicate l.length false)) a' w.drew) (js.filterMap (l[·]?)) a) : (Code.region id l.toArray true).wp P Q a w := by
  simp only [Bool.and_eq_true] at hB
  refine wp_region_held_drew (S := S) hm hS fun hS => ?_
  have e3 : Array.replicate l.toArray.size false = Array.replicate l.length false := by simp
  have e2 : l.toArray.size = js.length + rest := by simpa using hlen
  have eS : (fun u : World => ∃ x : Wd S, u = x.w) = S := by
    funext u; apply propext
    exact ⟨fun ⟨x, hx⟩ => hx ▸ x.2, fun h => ⟨⟨u, h⟩, rfl⟩⟩
  rw [eS] at h
  rw [e3, e2]
  exact wpAnyH_readsI hB.1 hQ hS js _ _ a hj hB.2 h (fun a' h => h)
theorem wp_store_blk {o : Oper} {a : Act} {w : World} {K : Act → World → Prop} (t : TypeId) (p x : Operand) (ho : o.op = .store t p x) (hdst : o.dst = none) (B : Nat) (vs c : List Value) (hp : a.eval p = .pointer (some ⟨B, 0, none⟩)) (hx : a.eval x = .agg vs.toArray) (h1 : vs.all (·.oneCell') = true)
    (hb : w.heap[B]? = some (.cells c.toArray t (0, 0))) (hl : c.length = vs.length) (hi : (P.info? t).map (·.size) = some vs.toArray.size) (h : K a (w.setCells B 0 vs)) : o.wp P a w K Q := by
  refine wp_store_mid t p x ho B 0 vs.toArray hp hx ?_ hi (by simpa using h1) ?_
  · have := there_of hb; rw [hl] at this; simpa using this
  · rw [hdst]; exact h
/-- The whole region. -/
theorem wp_region_new {id : Nat} {a : Act} {w : World} {l : List Oper} (m : Nat) {oc oa oz : Oper} {ty : TypeId} {zs : List Value} {c d : Nat} (hm : P.follows .mixedOrders = true) (hlen : l.length = m + 3) (hB : (Region.noSelect l.toArray && lexR l.toArray (l.take m) 0 (Array.replicate l.length false)) = true)
    (T : Three P l.toArray m (listedTo m 0 (Array.replicate l.length false)) oc oa oz ty zs c d) (G : Array Value → Prop) (Pn : List PanicEntry → Prop)
    (hQ : ∀ c a d v w, Q (.panic c) (Act.put a d v) w → Q (.panic c) a w) (hG : ∀ vals, G vals → vals.size = zs.length ∧ vals.all (·.oneCell') = true)
    (h : wpQuiet P l.toArray (fun u => ∃ x : Gr w, u = x.w) (fun a' => ∃ f args,
      (∀ u, Below w.heap.size w u → (execOp a'.eval oc).run P u = .ok (.enter f args) u) ∧ (∀ u v, Below w.heap.size w u → (execOp (a'.put (some d) v).eval oc).run P u = .ok (.enter f args) u) ∧
      (∀ v v', (a'.put (some d) v).put (some c) v' = (a'.put (some c) v').put (some d) v) ∧ (∀ v v', ((a'.put (some c) v').put (some d) v).eval (.tmp d) = v ∧ ((a'.put (some c) v').put (some d) v).eval (.tmp c) = v') ∧
      (∀ u, Below w.heap.size w u → Calls P f args u fun e u' => Below u.heap.size u u' ∧ ((∃ vals : Array Value, e = .returned (.agg vals) ∧ G vals) ∨ ∃ ch, e = .panicked ch ∧ Pn ch)) ∧
      (∀ ch (a1 : Act) u, Pn ch → Below w.heap.size w u → a1.defers = a'.defers → Q (.panic ch) a1 u) ∧
      (∀ vals B u, G vals → Below w.heap.size w u → w.heap.size ≤ B → u.rangeAt B 0 vals.toList → Q .normal ((a'.put (some c) (.agg vals)).put (some d) (.pointer (some ⟨B, 0, none⟩))) u)) (l.take m) a) : (Code.region id l.toArray true).wp P Q a w := by
  simp only [Bool.and_eq_true] at hB
  have e1 : (l.take m).length = m := by simp; omega
  refine wp_region_held_drew (S := fun u => ∃ x : Gr w, u = x.w) hm ⟨⟨_, (Below.refl _ _).drew⟩, rfl⟩ fun hS => ?_
  have e2 : l.toArray.size = (l.take m).length + 3 := by rw [e1]; simpa using hlen
  have e3 : Array.replicate l.toArray.size false = Array.replicate l.length false := by simp
  rw [e3, e2]
  refine wpAnyH_reads hB.1 hQ hS (l.take m) 0 _ a (fun j hj => by rw [e1] at hj; simp [hj]) hB.2 h ?_
  rintro a' ⟨f, args, h1, h2, h3, h4, h5, h6, h7⟩
  rw [e1]
  have hw : Below w.heap.size w w.drew := (Below.refl _ _).drew
  have key := wpAnyH_three T w a' f args G Pn h1 h2 h5 hG h3 h4 h6 h7 w.drew hw
  have eS : (fun u : World => ∃ x : Gr w, u = x.w) = (fun u => Below w.heap.size w u) := by
    funext u; apply propext
    exact ⟨fun ⟨x, hx⟩ => hx ▸ x.bl, fun h => ⟨⟨u, h⟩, rfl⟩⟩
  rw [eS]
  exact key
end
end Go.Proofs.Ytnhoehiaphdomaa

/- A region that draws its order: all that only reads or moves comes first, wherever it stands; what is left is one behind the other. -/
namespace Go.Proofs.Ytnhoehiaphdomaa
open Go Go.RowKit

section
variable {P : Program} {ops : Array Oper} {Q : Exit → Act → World → Prop}
def isReadM (o : Oper) : Bool := match o.op with
  | .load .. | .fieldAddr .. | .indexAddr .. | .extract .. | .move .. => true
  | _ => false
theorem readM_value {o : Oper} (h : isReadM o = true) (ρ : Operand → Value) (w w' : World) (n : Next) (hr : (execOp ρ o).run P w = .ok n w') : ∃ u, n = .value u := by
  cases ho : o.op
  case load => unfold execOp at hr; rw [ho] at hr; exact run_val hr
  case fieldAddr => unfold execOp at hr; rw [ho] at hr; exact run_val hr
  case indexAddr => unfold execOp at hr; rw [ho] at hr; exact run_val hr
  case extract => unfold execOp at hr; rw [ho] at hr; exact run_val hr
  case move => unfold execOp at hr; rw [ho] at hr; exact ⟨_, (Result.ok.inj hr).1.symm⟩
  all_goals (unfold isReadM at h; rw [ho] at h; cases h)
theorem yieldsIf_of_quietM {S : World → Prop} {o : Oper} {a : Act} {K : Act → Prop} (hr : isReadM o = true) (h : if Region.wanted o (yielded ops a.tmps) then o.quiet P a S K else K (a.put o.dst undef)) : ∃ v, YieldsIf P ops S o v a ∧ K (a.put o.dst v) := by
  by_cases hw : Region.wanted o (yielded ops a.tmps) = true
  · rw [if_pos hw] at h
    obtain ⟨v, h1, h2⟩ := h
    refine ⟨v, Or.inl ⟨hw, fun w hS => ?_⟩, h2⟩
    have h3 := h1 w hS
    unfold Oper.quietAt at h3
    cases hq : (execOp a.eval o).run P w with
    | ok n w' =>
      obtain ⟨u, rfl⟩ := readM_value hr _ _ _ _ hq
      rw [hq] at h3
      simp only [Oper.quietUpon] at h3
      rw [h3.1, h3.2]
    | halt x w' => rw [hq] at h3; simp only [Oper.quietUpon] at h3
  · rw [if_neg hw] at h
    exact ⟨undef, Or.inr ⟨by simpa using hw, rfl⟩, h⟩
def lexM (ops : Array Oper) : List Nat → List Oper → Array Bool → Bool
  | [], [], _ => true
  | i :: js, o :: l, listed => isReadM o && (Region.ready .any ops listed).contains i && Region.free .any ops listed i && lexM ops js l (listed.setIfInBounds i true)
  | _, _, _ => false
theorem wpAnyH_readsM {S : World → Prop} {K : Act → Prop} {rest : Nat} {w : World} (hs : Region.noSelect ops = true) (hQ : ∀ c a d v w, Q (.panic c) (Act.put a d v) w → Q (.panic c) a w) (hS : S w) : ∀ (js : List Nat) (l : List Oper) (listed : Array Bool) (a : Act), (∀ j, j < l.length → ∃ i, js[j]? = some i ∧ ops[i]? = l[j]?) →
    lexM ops js l listed = true → wpQuiet P ops S K l a → (∀ a', K a' → wpAnyH P .any ops Q S rest (listedI js listed) a' w) → wpAnyH P .any ops Q S (js.length + rest) listed a w
  | [], [], _, _, _, _, h, hK => by simpa [listedI] using hK _ h
  | [], _ :: _, _, _, _, hB, _, _ => by simp [lexM] at hB
  | _ :: _, [], _, _, _, hB, _, _ => by simp [lexM] at hB
  | i :: js, o :: l, listed, a, hl, hB, h, hK => by
    have h0 : ops[i]? = some o := by
      obtain ⟨i', h1, h2⟩ := hl 0 (by simp)
      have : i = i' := by simpa using h1
      subst this
      simpa using h2
    simp only [lexM, Bool.and_eq_true] at hB
    obtain ⟨⟨⟨hr, hc⟩, hf⟩, hB'⟩ := hB
    have h' : if Region.wanted o (yielded ops a.tmps) then o.quiet P a S (wpQuiet P ops S K l) else wpQuiet P ops S K l (a.put o.dst undef) := h
    obtain ⟨v, hy, hk⟩ := yieldsIf_of_quietM (ops := ops) hr h'
    rw [show (i :: js).length + rest = (js.length + rest) + 1 by simp; omega]
    exact wpAnyH_take h0 hs hf hc (fun c a w => hQ c a _ _ w) hy hS (wpAnyH_readsM hs hQ hS js l _ _ (fun j hj => by
      obtain ⟨i', h1, h2⟩ := hl (j + 1) (by simp; omega)
      exact ⟨i', by simpa using h1, by simpa using h2⟩) hB' hk hK)
/-- A region that draws: first all that only reads. -/
theorem wp_region_readsM {id : Nat} {a : Act} {w : World} {l : List Oper} (S : World → Prop) (js : List Nat) (rest : Nat) (hm : P.follows .mixedOrders = true) (hlen : l.length = js.length + rest) (hB : (Region.noSelect l.toArray && lexM l.toArray js (js.filterMap (l[·]?)) (Array.replicate l.length false)) = true) (hj : ∀ j, j < (js.filterMap (l[·]?)).length → ∃ i, js[j]? = some i ∧ l.toArray[i]? = (js.filterMap (l[·]?))[j]?)
    (hQ : ∀ c a d v w, Q (.panic c) (Act.put a d v) w → Q (.panic c) a w) (hS : S w.drew)
    (h : wpQuiet P l.toArray (fun u => ∃ x : Wd S, u = x.w) (fun a' => wpAnyH P .any l.toArray Q S rest (listedI js (Array.replicate l.length false)) a' w.drew) (js.filterMap (l[·]?)) a) : (Code.region id l.toArray true).wp P Q a w := by
  simp only [Bool.and_eq_true] at hB
  refine wp_region_held_drew (S := S) hm hS fun hS => ?_
  have e3 : Array.replicate l.toArray.size false = Array.replicate l.length false := by simp
  have e2 : l.toArray.size = js.length + rest := by simpa using hlen
  have eS : (fun u : World => ∃ x : Wd S, u = x.w) = S := by
    funext u; apply propext
    exact ⟨fun ⟨x, hx⟩ => hx ▸ x.2, fun h => ⟨⟨u, h⟩, rfl⟩⟩
  rw [eS] at h
  rw [e3, e2]
  exact wpAnyH_readsM hB.1 hQ hS js _ _ a hj hB.2 h (fun a' h => h)
end
/-- The same where nothing panics. -/
def NoPanM (Q : Exit → Act → World → Prop) (e : Exit) (a : Act) (w : World) : Prop := (∀ c, e ≠ .panic c) ∧ Q e a w
theorem wp_region_readsMN {P : Program} {Q : Exit → Act → World → Prop} {id : Nat} {a : Act} {w : World} {l : List Oper} (S : World → Prop) (js : List Nat) (rest : Nat) (hm : P.follows .mixedOrders = true) (hlen : l.length = js.length + rest) (hB : (Region.noSelect l.toArray && lexM l.toArray js (js.filterMap (l[·]?)) (Array.replicate l.length false)) = true) (hj : ∀ j, j < (js.filterMap (l[·]?)).length → ∃ i, js[j]? = some i ∧ l.toArray[i]? = (js.filterMap (l[·]?))[j]?)
    (hS : S w.drew)
    (h : wpQuiet P l.toArray (fun u => ∃ x : Wd S, u = x.w) (fun a' => wpAnyH P .any l.toArray (NoPanM Q) S rest (listedI js (Array.replicate l.length false)) a' w.drew) (js.filterMap (l[·]?)) a) : (Code.region id l.toArray true).wp P Q a w :=
  Code.wp_mono (fun _ _ _ h => h.2) (wp_region_readsM S js rest hm hlen hB hj (fun c _ _ _ _ h => absurd rfl (h.1 c)) hS h)
end Go.Proofs.Ytnhoehiaphdomaa

/- Variables as whole blocks. -/
namespace Go.Proofs.Ytnhoehiaphdomaa
open Go Go.RowKit

/-- A block that holds just these values, unmarked. -/
def Blk (w : World) (B : Nat) (c : List Value) (t : TypeId) : Prop := w.heap[B]? = some (.cells c.toArray t (0, 0))
theorem Blk.lt {w : World} {B : Nat} {c : List Value} {t : TypeId} (h : Blk w B c t) : B < w.heap.size := eblock_lt h
theorem Blk.kept {w w' : World} {B : Nat} {c : List Value} {t : TypeId} (h : Blk w B c t) (hb : Below w.heap.size w w') : Blk w' B c t := by
  unfold Blk; rw [hb.block B h.lt]; exact h
theorem Blk.cell {w : World} {B : Nat} {c : List Value} {t : TypeId} (h : Blk w B c t) (i : Nat) {v : Value} (hv : c[i]? = some v) : w.cell? ⟨B, i, none⟩ = some v := by
  unfold Blk at h
  simp [World.cell?, h, hv]
theorem Blk.frozen {w : World} {B : Nat} {c : List Value} {t : TypeId} (h : Blk w B c t) (i : Nat) : w.frozen? ⟨B, i, none⟩ = false := by
  unfold Blk at h
  simp [World.frozen?, h]
theorem Blk.there {w : World} {B : Nat} {c : List Value} {t : TypeId} (h : Blk w B c t) : w.there B 0 c.length := there_of h
theorem Blk.range {w : World} {B : Nat} {c : List Value} {t : TypeId} (h : Blk w B c t) : w.rangeAt B 0 c := fun j v hv => by rw [Nat.zero_add]; exact h.cell j hv
theorem Blk.new (w : World) (c : List Value) (t : TypeId) : Blk (w.alloc (.cells c.toArray t)) w.heap.size c t := heap_alloc_new _ _
theorem Blk.plain {w : World} {B : Nat} {c : List Value} {t : TypeId} (h : Blk w B c t) : PlainAt w B := ⟨_, _, h⟩
/-- One block written, all else as it was. -/
structure WroteB (w w' : World) (B : Nat) (c : List Value) (t : TypeId) : Prop where
  blk : Blk w' B c t
  other : ∀ b, b ≠ B → w'.heap[b]? = w.heap[b]?
  size : w'.heap.size = w.heap.size
  below : ∀ {B0 : Nat} {a : World}, B0 ≤ B → Below B0 a w → Below B0 a w'
theorem WroteB.keep {w w' : World} {B B' : Nat} {c c' : List Value} {t t' : TypeId} (h : WroteB w w' B c t) (hb : Blk w B' c' t') (hne : B' ≠ B) : Blk w' B' c' t' := by unfold Blk; rw [h.other _ hne]; exact hb
theorem setCells_heap (b : Nat) : ∀ (vs : List Value) (o : Nat) (w : World) (k : Nat), k ≠ b → (w.setCells b o vs).heap[k]? = w.heap[k]?
  | [], _, _, _, _ => rfl
  | v :: vs, o, w, k, h => by
    rw [World.setCells, setCells_heap b vs (o + 1) _ k h, Below.heap_setCell _ _ _ _ h]
theorem setCells_size (b : Nat) : ∀ (vs : List Value) (o : Nat) (w : World), (w.setCells b o vs).heap.size = w.heap.size
  | [], _, _ => rfl
  | v :: vs, o, w => by rw [World.setCells, setCells_size b vs (o + 1)]; simp [World.setCell]
theorem setCells_blk (t : TypeId) : ∀ (vs pre post : List Value) (w : World) (B : Nat), post.length = vs.length → Blk w B (pre ++ post) t → Blk (w.setCells B pre.length vs) B (pre ++ vs) t
  | [], pre, post, w, B, h, hb => by
    have e : post = [] := List.eq_nil_of_length_eq_zero h
    subst e; exact hb
  | v :: vs, pre, [], w, B, h, hb => by simp at h
  | v :: vs, pre, p :: post, w, B, h, hb => by
    rw [World.setCells]
    have h1 : Blk (w.setCell ⟨B, pre.length, none⟩ v) B ((pre ++ [v]) ++ post) t := by
      have hl := hb.lt
      unfold Blk at hb ⊢
      have e : ((pre ++ p :: post).toArray.setIfInBounds pre.length v) = ((pre ++ [v]) ++ post).toArray := by
        apply Array.toList_inj.1
        simp
      rw [← e]
      simp [World.setCell, Array.getElem?_modify, hb]
    have k := setCells_blk t vs (pre ++ [v]) post _ B (by simpa using h) h1
    rw [show (pre ++ [v]).length = pre.length + 1 by simp] at k
    simpa using k
theorem wrote_setCells {w : World} {B : Nat} {c : List Value} {t : TypeId} (h : Blk w B c t) (vs : List Value) (hl : c.length = vs.length) : WroteB w (w.setCells B 0 vs) B vs t :=
  ⟨setCells_blk t vs [] c w B hl (by simpa using h), fun b hb => setCells_heap _ _ _ _ _ hb, setCells_size _ _ _ _, fun hB hb => below_setCells hB _ _ _ hb⟩
/-- A value stored whole. -/
theorem wpList_store_blk {w : World} {ops : Array Oper} {rest : List Oper} {o : Oper} {a : Act} {Q : Exit → Act → World → Prop} (hgd : o.guard = none) (hdst : o.dst = none) (t : TypeId) (p x : Operand) (ho : o.op = .store t p x) (B : Nat) (vs : List Value)
    (hp : a.eval p = .pointer (some ⟨B, 0, none⟩)) (hx : a.eval x = .agg vs.toArray) (h1 : vs.all (·.oneCell') = true) {c : List Value} (hb : Blk w B c t) (hl : c.length = vs.length) (hi : (Try.prog.info? t).map (·.size) = some vs.toArray.size)
    (h : ∀ w', WroteB w w' B vs t → wpList Try.prog ops Q rest a w') : wpList Try.prog ops Q (o :: rest) a w := by
  refine wpList_store_mid hgd t p x ho B 0 vs.toArray hp hx ?_ hi (by simpa using h1) ?_
  · have := hb.there; rw [hl] at this; simpa using this
  · rw [hdst]
    exact h _ (wrote_setCells hb vs hl)
/-- Blocks made one behind the other. -/
theorem allocs_heap : ∀ (os : List Obj) (w : World) (i : Nat), i < os.length → (os.foldl World.alloc w).heap[w.heap.size + i]? = os[i]?
  | [], _, i, h => absurd h (Nat.not_lt_zero i)
  | o :: os, w, 0, _ => by
    show (os.foldl World.alloc (w.alloc o)).heap[w.heap.size + 0]? = some o
    have key : ∀ (os : List Obj) (w : World) (k : Nat), k < w.heap.size → (os.foldl World.alloc w).heap[k]? = w.heap[k]? := by
      intro os
      induction os with
      | nil => intro w k _; rfl
      | cons o os ih => intro w k hk; show (os.foldl World.alloc (w.alloc o)).heap[k]? = _; rw [ih _ k (by simp; omega), Below.heap_alloc _ _ _ hk]
    rw [Nat.add_zero, key os _ _ (by simp), heap_alloc_new]
  | o :: os, w, i + 1, h => by
    have := allocs_heap os (w.alloc o) i (by simpa using h)
    show (os.foldl World.alloc (w.alloc o)).heap[w.heap.size + (i + 1)]? = os[i]?
    rw [alloc_size] at this
    rw [← this, show w.heap.size + 1 + i = w.heap.size + (i + 1) by omega]
theorem allocs_below : ∀ (os : List Obj) (w : World), Below w.heap.size w (os.foldl World.alloc w)
  | [], _ => Below.refl _ _
  | o :: os, w => Below.next (below_alloc w o) (allocs_below os (w.alloc o))
theorem allocs_size : ∀ (os : List Obj) (w : World), (os.foldl World.alloc w).heap.size = w.heap.size + os.length
  | [], _ => rfl
  | o :: os, w => by
    show (os.foldl World.alloc (w.alloc o)).heap.size = _
    rw [allocs_size os, alloc_size]; simp; omega
end Go.Proofs.Ytnhoehiaphdomaa
