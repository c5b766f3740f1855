/- A region that draws its order: 'x := f(..)', reads ahead of a call, and a new variable that the call's answer goes into, the variable being made at any time. -/
import Derived.Test.YtmkncmmegjfipaaGreatDoorP9
import Derived.Deep.RegionHeld3
import Derived.Deep.MidRow
import Derived.Test.YtmkncmmegjfipaaGreatDoorP8
import Derived.LaidEql
import Derived.Carry
namespace Go.Proofs.YtmkncmmegjfipaaGreatDoor
open Go Go.RowKit

section
variable {P : Program} {ops : Array Oper} {Q : Exit → Act → World → Prop}

theorem if_wanted {o : Oper} {a : Act} (hg : o.guard = none) : Region.wanted o (yielded ops a.tmps) = true := by simp [Region.wanted, hg]

/-- What is known of the three last operations. -/
structure Three (P : Program) (ops : Array Oper) (m : Nat) (listed : Array Bool) (oc oa oz : Oper) (ty : TypeId) (zs : List Value) (c d : Nat) : Prop where
  hoc : ops[m]? = some oc
  hoa : ops[m + 1]? = some oa
  hoz : ops[m + 2]? = some oz
  gc : oc.guard = none
  ga : oa.guard = none
  gz : oz.guard = none
  dc : oc.dst = some c
  da : oa.dst = some d
  dz : oz.dst = none
  opa : oa.op = .alloc ty
  opz : oz.op = .store ty (.tmp d) (.tmp c)
  r0 : Region.ready .any ops listed = [m, m + 1]
  r1 : Region.ready .any ops (listed.setIfInBounds m true) = [m + 1]
  r2 : Region.ready .any ops (listed.setIfInBounds (m + 1) true) = [m]
  r3 : Region.ready .any ops ((listed.setIfInBounds m true).setIfInBounds (m + 1) true) = [m + 2]
  r4 : Region.ready .any ops (((listed.setIfInBounds m true).setIfInBounds (m + 1) true).setIfInBounds (m + 2) true) = []
  hi : (P.info? ty).map (·.size) = some zs.length
  hal : ∀ u : World, (Instr.alloc ty true (.tuple #[])).run P u = .ok (.pointer (some ⟨u.heap.size, 0, none⟩)) (u.alloc (.cells zs.toArray ty))

theorem there_of {u : World} {B : Nat} {zs : List Value} {ty : TypeId} (h : u.heap[B]? = some (.cells zs.toArray ty (0, 0))) : u.there B 0 zs.length := fun j hj => by
  refine ⟨?_, ?_⟩
  · simp [World.cell?, h, hj]
  · simp [World.frozen?, h]
theorem below_setCells {B b : Nat} {a : World} (hb : B ≤ b) : ∀ (vs : List Value) (o : Nat) (w : World), Below B a w → Below B a (w.setCells b o vs)
  | [], _, _, h => h
  | v :: vs, o, _, h => below_setCells hb vs (o + 1) _ (h.setCell hb v)

theorem wpAnyH_three {m : Nat} {listed : Array Bool} {oc oa oz : Oper} {ty : TypeId} {zs : List Value} {c d : Nat} (T : Three P ops m listed oc oa oz ty zs c d) (w0 : World) (a : Act) (f : FuncId) (args : Array Value) (G : Array Value → Prop) (Pn : List PanicEntry → Prop)
    (hc : ∀ u, Below w0.heap.size w0 u → (execOp a.eval oc).run P u = .ok (.enter f args) u)
    (hc2 : ∀ u v, Below w0.heap.size w0 u → (execOp (a.put (some d) v).eval oc).run P u = .ok (.enter f args) u)
    (hcall : ∀ u, Below w0.heap.size w0 u → Calls P f args u fun e u' => Below u.heap.size u u' ∧ ((∃ vals : Array Value, e = .returned (.agg vals) ∧ G vals) ∨ ∃ ch, e = .panicked ch ∧ Pn ch))
    (hG : ∀ vals, G vals → vals.size = zs.length ∧ vals.all (·.oneCell') = true)
    (hcomm : ∀ v v', (a.put (some d) v).put (some c) v' = (a.put (some c) v').put (some d) v)
    (hev : ∀ v v', ((a.put (some c) v').put (some d) v).eval (.tmp d) = v ∧ ((a.put (some c) v').put (some d) v).eval (.tmp c) = v')
    (hpan : ∀ ch (a1 : Act) u, Pn ch → Below w0.heap.size w0 u → a1.defers = a.defers → Q (.panic ch) a1 u)
    (hQ : ∀ vals B u, G vals → Below w0.heap.size w0 u → w0.heap.size ≤ B → u.rangeAt B 0 vals.toList → Q .normal ((a.put (some c) (.agg vals)).put (some d) (.pointer (some ⟨B, 0, none⟩))) u)
    (w : World) (hw : Below w0.heap.size w0 w) : wpAnyH P .any ops Q (fun u => Below w0.heap.size w0 u) 3 listed a w := by
  -- the store, wherever the block lies
  have hstore : ∀ vals B u, G vals → Below w0.heap.size w0 u → w0.heap.size ≤ B → u.heap[B]? = some (.cells zs.toArray ty (0, 0)) →
      wpAnyH P .any ops Q (fun u => Below w0.heap.size w0 u) 1 ((listed.setIfInBounds m true).setIfInBounds (m + 1) true) ((a.put (some c) (.agg vals)).put (some d) (.pointer (some ⟨B, 0, none⟩))) u := by
    intro vals B u hg hu hB hz
    obtain ⟨h1, h2⟩ := hG vals hg
    refine wpAnyH_ready T.r3 (by simp) ?_
    refine AllReadyH.cons T.hoz (fun K hK => ?_) AllReadyH.nil
    rw [if_pos (if_wanted T.gz)]
    have ht : u.there B 0 vals.size := by rw [h1]; exact there_of hz
    refine wp_store_mid ty (.tmp d) (.tmp c) T.opz B 0 vals (hev _ _).1 (hev _ _).2 ht (by rw [T.hi, h1]) h2 ?_
    have hB2 : Below w0.heap.size w0 (u.setCells B 0 vals.toList) := below_setCells hB _ _ _ hu
    refine hK.out _ _ hB2 fun _ => ?_
    rw [T.dz]
    refine wpAnyH_done T.r4 ?_ _
    exact hQ vals B _ hg hB2 hB (World.rangeAt_setCells_same _ _ _ _ (by simpa using ht))
  refine wpAnyH_ready T.r0 (by simp) ?_
  refine AllReadyH.cons T.hoc (fun K hK => ?_) (AllReadyH.cons T.hoa (fun K hK => ?_) AllReadyH.nil)
  · -- the call first
    rw [if_pos (if_wanted T.gc)]
    unfold Oper.wp
    rw [hc w hw, Oper.upon_enter]
    refine (hcall w hw).mono ?_
    rintro e u ⟨hb, ⟨vals, rfl, hg⟩ | ⟨ch, rfl, hp⟩⟩
    · have hu := Below.next hw hb
      refine hK.out _ _ hu fun _ => ?_
      refine wpAnyH_ready T.r1 (by simp) ?_
      refine AllReadyH.cons T.hoa (fun K2 hK2 => ?_) AllReadyH.nil
      rw [if_pos (if_wanted T.ga)]
      unfold Oper.wp execOp
      simp only [T.opa, Sem.run_bind, T.hal, Result.andThen_ok, Sem.run_pure]
      have hu2 : Below w0.heap.size w0 (u.alloc (.cells zs.toArray ty)) := hu.alloc hu.size _
      refine hK2.out _ _ hu2 fun _ => ?_
      rw [T.dc, T.da]
      exact hstore vals u.heap.size _ hg hu2 hu.size (heap_alloc_new _ _)
    · exact hpan ch _ _ hp (Below.next hw hb) rfl
  · -- the variable first
    rw [if_pos (if_wanted T.ga)]
    unfold Oper.wp execOp
    simp only [T.opa, Sem.run_bind, T.hal, Result.andThen_ok, Sem.run_pure]
    have hu2 : Below w0.heap.size w0 (w.alloc (.cells zs.toArray ty)) := hw.alloc hw.size _
    refine hK.out _ _ hu2 fun _ => ?_
    rw [T.da]
    refine wpAnyH_ready T.r2 (by simp) ?_
    refine AllReadyH.cons T.hoc (fun K2 hK2 => ?_) AllReadyH.nil
    rw [if_pos (if_wanted T.gc)]
    unfold Oper.wp
    rw [hc2 _ _ hu2, Oper.upon_enter]
    refine (hcall _ hu2).mono ?_
    rintro e u ⟨hb, ⟨vals, rfl, hg⟩ | ⟨ch, rfl, hp⟩⟩
    · have hu := Below.next hu2 hb
      refine hK2.out _ _ hu fun _ => ?_
      rw [T.dc, hcomm, Array.setIfInBounds_comm _ _ (by omega)]
      refine hstore vals w.heap.size u hg hu hw.size ?_
      rw [hb.block _ (by simp), heap_alloc_new]
    · exact hpan ch _ _ hp (Below.next hu2 hb) rfl

/-- It yields a value, if anything. -/
def isRead (o : Oper) : Bool := match o.op with
  | .load .. | .fieldAddr .. | .indexAddr .. | .extract .. => true
  | _ => false
theorem run_val {s : Sem Value} {w w' : World} {n : Next} (hr : (do pure (Next.value (← s)) : Sem Next).run P w = .ok n w') : ∃ u, n = .value u := by
  simp only [Sem.run_bind] at hr
  cases hq : s.run P w with
  | ok v w2 => rw [hq] at hr; simp only [Result.andThen_ok, Sem.run_pure] at hr; exact ⟨v, (Result.ok.inj hr).1.symm⟩
  | halt x w2 => rw [hq] at hr; simp [Result.andThen] at hr
theorem read_value {o : Oper} (h : isRead o = true) (ρ : Operand → Value) (w w' : World) (n : Next) (hr : (execOp ρ o).run P w = .ok n w') : ∃ u, n = .value u := by
  cases ho : o.op
  case load => unfold execOp at hr; rw [ho] at hr; exact run_val hr
  case fieldAddr => unfold execOp at hr; rw [ho] at hr; exact run_val hr
  case indexAddr => unfold execOp at hr; rw [ho] at hr; exact run_val hr
  case extract => unfold execOp at hr; rw [ho] at hr; exact run_val hr
  all_goals (unfold isRead at h; rw [ho] at h; cases h)
theorem yieldsIf_of_quiet {S : World → Prop} {o : Oper} {a : Act} {K : Act → Prop} (hr : isRead o = true) (h : if Region.wanted o (yielded ops a.tmps) then o.quiet P a S K else K (a.put o.dst undef)) : ∃ v, YieldsIf P ops S o v a ∧ K (a.put o.dst v) := by
  by_cases hw : Region.wanted o (yielded ops a.tmps) = true
  · rw [if_pos hw] at h
    obtain ⟨v, h1, h2⟩ := h
    refine ⟨v, Or.inl ⟨hw, fun w hS => ?_⟩, h2⟩
    have h3 := h1 w hS
    unfold Oper.quietAt at h3
    cases hq : (execOp a.eval o).run P w with
    | ok n w' =>
      obtain ⟨u, rfl⟩ := read_value hr _ _ _ _ hq
      rw [hq] at h3
      simp only [Oper.quietUpon] at h3
      rw [h3.1, h3.2]
    | halt x w' => rw [hq] at h3; simp only [Oper.quietUpon] at h3
  · rw [if_neg hw] at h
    exact ⟨undef, Or.inr ⟨by simpa using hw, rfl⟩, h⟩
def lexR (ops : Array Oper) : List Oper → Nat → Array Bool → Bool
  | [], _, _ => true
  | o :: l, k, listed => isRead o && (Region.ready .any ops listed).contains k && Region.free .any ops listed k && lexR ops l (k + 1) (listed.setIfInBounds k true)
theorem wpAnyH_reads {S : World → Prop} {K : Act → Prop} {rest : Nat} {w : World} (hs : Region.noSelect ops = true) (hQ : ∀ c a d v w, Q (.panic c) (Act.put a d v) w → Q (.panic c) a w) (hS : S w) : ∀ (l : List Oper) (k : Nat) (listed : Array Bool) (a : Act), (∀ j, j < l.length → l[j]? = ops[k + j]?) →
    lexR ops l k listed = true → wpQuiet P ops S K l a → (∀ a', K a' → wpAnyH P .any ops Q S rest (listedTo l.length k listed) a' w) → wpAnyH P .any ops Q S (l.length + rest) listed a w
  | [], _, _, _, _, _, h, hK => by simpa [listedTo] using hK _ h
  | o :: l, k, listed, a, hl, hB, h, hK => by
    have h0 : ops[k]? = some o := by simpa using (hl 0 (by simp)).symm
    simp only [lexR, Bool.and_eq_true] at hB
    obtain ⟨⟨⟨hr, hc⟩, hf⟩, hB'⟩ := hB
    have h' : if Region.wanted o (yielded ops a.tmps) then o.quiet P a S (wpQuiet P ops S K l) else wpQuiet P ops S K l (a.put o.dst undef) := h
    obtain ⟨v, hy, hk⟩ := yieldsIf_of_quiet (ops := ops) hr h'
    rw [show (o :: l).length + rest = (l.length + rest) + 1 by simp; omega]
    exact wpAnyH_take h0 hs hf hc (fun c a w => hQ c a _ _ w) hy hS (wpAnyH_reads hs hQ hS l (k + 1) _ _ (fun j hj => by have := hl (j + 1) (by simp; omega); simpa [Nat.add_assoc, Nat.add_comm 1 j] using this) hB' hk hK)
/-- Those of these places listed. -/
def listedI : List Nat → Array Bool → Array Bool
  | [], l => l
  | i :: js, l => listedI js (l.setIfInBounds i true)
def lexI (ops : Array Oper) : List Nat → List Oper → Array Bool → Bool
  | [], [], _ => true
  | i :: js, o :: l, listed => isRead o && (Region.ready .any ops listed).contains i && Region.free .any ops listed i && lexI ops js l (listed.setIfInBounds i true)
  | _, _, _ => false
theorem wpAnyH_readsI {S : World → Prop} {K : Act → Prop} {rest : Nat} {w : World} (hs : Region.noSelect ops = true) (hQ : ∀ c a d v w, Q (.panic c) (Act.put a d v) w → Q (.panic c) a w) (hS : S w) : ∀ (js : List Nat) (l : List Oper) (listed : Array Bool) (a : Act), (∀ j, j < l.length → ∃ i, js[j]? = some i ∧ ops[i]? = l[j]?) →
    lexI ops js l listed = true → wpQuiet P ops S K l a → (∀ a', K a' → wpAnyH P .any ops Q S rest (listedI js listed) a' w) → wpAnyH P .any ops Q S (js.length + rest) listed a w
  | [], [], _, _, _, _, h, hK => by simpa [listedI] using hK _ h
  | [], _ :: _, _, _, _, hB, _, _ => by simp [lexI] at hB
  | _ :: _, [], _, _, _, hB, _, _ => by simp [lexI] at hB
  | i :: js, o :: l, listed, a, hl, hB, h, hK => by
    have h0 : ops[i]? = some o := by
      obtain ⟨i', h1, h2⟩ := hl 0 (by simp)
      have : i = i' := by simpa using h1
      subst this
      simpa using h2
    simp only [lexI, Bool.and_eq_true] at hB
    obtain ⟨⟨⟨hr, hc⟩, hf⟩, hB'⟩ := hB
    have h' : if Region.wanted o (yielded ops a.tmps) then o.quiet P a S (wpQuiet P ops S K l) else wpQuiet P ops S K l (a.put o.dst undef) := h
    obtain ⟨v, hy, hk⟩ := yieldsIf_of_quiet (ops := ops) hr h'
    rw [show (i :: js).length + rest = (js.length + rest) + 1 by simp; omega]
    exact wpAnyH_take h0 hs hf hc (fun c a w => hQ c a _ _ w) hy hS (wpAnyH_readsI hs hQ hS js l _ _ (fun j hj => by
      obtain ⟨i', h1, h2⟩ := hl (j + 1) (by simp; omega)
      exact ⟨i', by simpa using h1, by simpa using h2⟩) hB' hk hK)
/-- The worlds that meet S. -/
def Wd (S : World → Prop) : Type := { u : World // S u }
def Wd.w {S : World → Prop} (x : Wd S) : World := x.1
/-- A region that draws: first all that only reads. -/
theorem wp_region_reads {id : Nat} {a : Act} {w : World} {l : List Oper} (S : World → Prop) (js : List Nat) (rest : Nat) (hm : P.follows .mixedOrders = true) (hlen : l.length = js.length + rest) (hB : (Region.noSelect l.toArray && lexI l.toArray js (js.filterMap (l[·]?)) (Array.replicate l.length false)) = true) (hj : ∀ j, j < (js.filterMap (l[·]?)).length → ∃ i, js[j]? = some i ∧ l.toArray[i]? = (js.filterMap (l[·]?))[j]?)
    (hQ : ∀ c a d v w, Q (.panic c) (Act.put a d v) w → Q (.panic c) a w) (hS : S w.drew)
    (h : wpQuiet P l.toArray (fun u => ∃ x : Wd S, u = x.w) (fun a' => wpAnyH P .any l.toArray Q S rest (listedI js (Array.replicate l.length false)) a' w.drew) (js.filterMap (l[·]?)) a) : (Code.region id l.toArray true).wp P Q a w := by
  simp only [Bool.and_eq_true] at hB
  refine wp_region_held_drew (S := S) hm hS fun hS => ?_
  have e3 : Array.replicate l.toArray.size false = Array.replicate l.length false := by simp
  have e2 : l.toArray.size = js.length + rest := by simpa using hlen
  have eS : (fun u : World => ∃ x : Wd S, u = x.w) = S := by
    funext u; apply propext
    exact ⟨fun ⟨x, hx⟩ => hx ▸ x.2, fun h => ⟨⟨u, h⟩, rfl⟩⟩
  rw [eS] at h
  rw [e3, e2]
  exact wpAnyH_readsI hB.1 hQ hS js _ _ a hj hB.2 h (fun a' h => h)
theorem wp_store_blk {o : Oper} {a : Act} {w : World} {K : Act → World → Prop} (t : TypeId) (p x : Operand) (ho : o.op = .store t p x) (hdst : o.dst = none) (B : Nat) (vs c : List Value) (hp : a.eval p = .pointer (some ⟨B, 0, none⟩)) (hx : a.eval x = .agg vs.toArray) (h1 : vs.all (·.oneCell') = true)
    (hb : w.heap[B]? = some (.cells c.toArray t (0, 0))) (hl : c.length = vs.length) (hi : (P.info? t).map (·.size) = some vs.toArray.size) (h : K a (w.setCells B 0 vs)) : o.wp P a w K Q := by
  refine wp_store_mid t p x ho B 0 vs.toArray hp hx ?_ hi (by simpa using h1) ?_
  · have := there_of hb; rw [hl] at this; simpa using this
  · rw [hdst]; exact h
/-- The whole region. -/
theorem wp_region_new {id : Nat} {a : Act} {w : World} {l : List Oper} (m : Nat) {oc oa oz : Oper} {ty : TypeId} {zs : List Value} {c d : Nat} (hm : P.follows .mixedOrders = true) (hlen : l.length = m + 3) (hB : (Region.noSelect l.toArray && lexR l.toArray (l.take m) 0 (Array.replicate l.length false)) = true)
    (T : Three P l.toArray m (listedTo m 0 (Array.replicate l.length false)) oc oa oz ty zs c d) (G : Array Value → Prop) (Pn : List PanicEntry → Prop)
    (hQ : ∀ c a d v w, Q (.panic c) (Act.put a d v) w → Q (.panic c) a w) (hG : ∀ vals, G vals → vals.size = zs.length ∧ vals.all (·.oneCell') = true)
    (h : wpQuiet P l.toArray (fun u => ∃ x : Gr w, u = x.w) (fun a' => ∃ f args,
      (∀ u, Below w.heap.size w u → (execOp a'.eval oc).run P u = .ok (.enter f args) u) ∧ (∀ u v, Below w.heap.size w u → (execOp (a'.put (some d) v).eval oc).run P u = .ok (.enter f args) u) ∧
      (∀ v v', (a'.put (some d) v).put (some c) v' = (a'.put (some c) v').put (some d) v) ∧ (∀ v v', ((a'.put (some c) v').put (some d) v).eval (.tmp d) = v ∧ ((a'.put (some c) v').put (some d) v).eval (.tmp c) = v') ∧
      (∀ u, Below w.heap.size w u → Calls P f args u fun e u' => Below u.heap.size u u' ∧ ((∃ vals : Array Value, e = .returned (.agg vals) ∧ G vals) ∨ ∃ ch, e = .panicked ch ∧ Pn ch)) ∧
      (∀ ch (a1 : Act) u, Pn ch → Below w.heap.size w u → a1.defers = a'.defers → Q (.panic ch) a1 u) ∧
      (∀ vals B u, G vals → Below w.heap.size w u → w.heap.size ≤ B → u.rangeAt B 0 vals.toList → Q .normal ((a'.put (some c) (.agg vals)).put (some d) (.pointer (some ⟨B, 0, none⟩))) u)) (l.take m) a) : (Code.region id l.toArray true).wp P Q a w := by
  simp only [Bool.and_eq_true] at hB
  have e1 : (l.take m).length = m := by simp; omega
  refine wp_region_held_drew (S := fun u => ∃ x : Gr w, u = x.w) hm ⟨⟨_, (Below.refl _ _).drew⟩, rfl⟩ fun hS => ?_
  have e2 : l.toArray.size = (l.take m).length + 3 := by rw [e1]; simpa using hlen
  have e3 : Array.replicate l.toArray.size false = Array.replicate l.length false := by simp
  rw [e3, e2]
  refine wpAnyH_reads hB.1 hQ hS (l.take m) 0 _ a (fun j hj => by rw [e1] at hj; simp [hj]) hB.2 h ?_
  rintro a' ⟨f, args, h1, h2, h3, h4, h5, h6, h7⟩
  rw [e1]
  have hw : Below w.heap.size w w.drew := (Below.refl _ _).drew
  have key := wpAnyH_three T w a' f args G Pn h1 h2 h5 hG h3 h4 h6 h7 w.drew hw
  have eS : (fun u : World => ∃ x : Gr w, u = x.w) = (fun u => Below w.heap.size w u) := by
    funext u; apply propext
    exact ⟨fun ⟨x, hx⟩ => hx ▸ x.bl, fun h => ⟨⟨u, h⟩, rfl⟩⟩
  rw [eS]
  exact key
end
end Go.Proofs.YtmkncmmegjfipaaGreatDoor

/- Layer 6: expressions, as they lie in memory; what is told of them. -/
namespace Go.Proofs.YtmkncmmegjfipaaGreatDoor
open Go.RowKit

/-- An expression: its numbers, texts and types, where its Parts lie, they, and its place ('dm': none; it lies nowhere). -/
inductive Ex where
  | dm : Ex
  | mk (k n m : Int) (tx ar : ByteArray) (ty gv : Ty) (ao : Option Addr) (b o len cap : Nat) (ps : Nat → Ex) (pl : Int) : Ex
def Ex.k : Ex → Int | .dm => 0 | .mk k _ _ _ _ _ _ _ _ _ _ _ _ _ => k
def Ex.n : Ex → Int | .dm => 0 | .mk _ n _ _ _ _ _ _ _ _ _ _ _ _ => n
def Ex.m : Ex → Int | .dm => 0 | .mk _ _ m _ _ _ _ _ _ _ _ _ _ _ => m
def Ex.tx : Ex → ByteArray | .dm => ⟨#[]⟩ | .mk _ _ _ tx _ _ _ _ _ _ _ _ _ _ => tx
def Ex.ar : Ex → ByteArray | .dm => ⟨#[]⟩ | .mk _ _ _ _ ar _ _ _ _ _ _ _ _ _ => ar
def Ex.ty : Ex → Ty | .dm => .dm | .mk _ _ _ _ _ ty _ _ _ _ _ _ _ _ => ty
def Ex.gv : Ex → Ty | .dm => .dm | .mk _ _ _ _ _ _ gv _ _ _ _ _ _ _ => gv
def Ex.ao : Ex → Option Addr | .dm => none | .mk _ _ _ _ _ _ _ ao _ _ _ _ _ _ => ao
def Ex.b : Ex → Nat | .dm => 0 | .mk _ _ _ _ _ _ _ _ b _ _ _ _ _ => b
def Ex.o : Ex → Nat | .dm => 0 | .mk _ _ _ _ _ _ _ _ _ o _ _ _ _ => o
def Ex.len : Ex → Nat | .dm => 0 | .mk _ _ _ _ _ _ _ _ _ _ len _ _ _ => len
def Ex.cap : Ex → Nat | .dm => 0 | .mk _ _ _ _ _ _ _ _ _ _ _ cap _ _ => cap
def Ex.ps : Ex → Nat → Ex | .dm => fun _ => .dm | .mk _ _ _ _ _ _ _ _ _ _ _ _ ps _ => ps
def Ex.pl : Ex → Int | .dm => 0 | .mk _ _ _ _ _ _ _ _ _ _ _ _ _ pl => pl
/-- An expression's seventeen values. -/
def Ex.vs (e : Ex) : List Value := [.int .i64 e.k, .int .i64 e.n, .int .i64 e.m, .string e.tx, .string e.ar, .int .i64 e.ty.k, .int .i64 e.ty.l, .slice e.ty.ao e.ty.len e.ty.cap, .int .i64 e.ty.h, .int .i64 e.ty.e, .int .i64 e.gv.k, .int .i64 e.gv.l, .slice e.gv.ao e.gv.len e.gv.cap, .int .i64 e.gv.h, .int .i64 e.gv.e, .slice e.ao e.len e.cap, .int .i64 e.pl]
/-- Seventeen cells that hold an expression. -/
structure C17 (w : World) (b o : Nat) (e : Ex) : Prop where
  c0 : w.cell? ⟨b, o, none⟩ = some (.int .i64 e.k)
  c1 : w.cell? ⟨b, o + 1, none⟩ = some (.int .i64 e.n)
  c2 : w.cell? ⟨b, o + 2, none⟩ = some (.int .i64 e.m)
  c3 : w.cell? ⟨b, o + 3, none⟩ = some (.string e.tx)
  c4 : w.cell? ⟨b, o + 4, none⟩ = some (.string e.ar)
  c5 : w.cell? ⟨b, o + 5, none⟩ = some (.int .i64 e.ty.k)
  c6 : w.cell? ⟨b, o + 6, none⟩ = some (.int .i64 e.ty.l)
  c7 : w.cell? ⟨b, o + 7, none⟩ = some (.slice e.ty.ao e.ty.len e.ty.cap)
  c8 : w.cell? ⟨b, o + 8, none⟩ = some (.int .i64 e.ty.h)
  c9 : w.cell? ⟨b, o + 9, none⟩ = some (.int .i64 e.ty.e)
  c10 : w.cell? ⟨b, o + 10, none⟩ = some (.int .i64 e.gv.k)
  c11 : w.cell? ⟨b, o + 11, none⟩ = some (.int .i64 e.gv.l)
  c12 : w.cell? ⟨b, o + 12, none⟩ = some (.slice e.gv.ao e.gv.len e.gv.cap)
  c13 : w.cell? ⟨b, o + 13, none⟩ = some (.int .i64 e.gv.h)
  c14 : w.cell? ⟨b, o + 14, none⟩ = some (.int .i64 e.gv.e)
  c15 : w.cell? ⟨b, o + 15, none⟩ = some (.slice e.ao e.len e.cap)
  c16 : w.cell? ⟨b, o + 16, none⟩ = some (.int .i64 e.pl)
theorem C17.kept {w w' : World} {b o : Nat} {e : Ex} (h : C17 w b o e) (hb : Below w.heap.size w w') : C17 w' b o e := ⟨up hb h.c0, up hb h.c1, up hb h.c2, up hb h.c3, up hb h.c4, up hb h.c5, up hb h.c6, up hb h.c7, up hb h.c8, up hb h.c9, up hb h.c10, up hb h.c11, up hb h.c12, up hb h.c13, up hb h.c14, up hb h.c15, up hb h.c16⟩
theorem C17.range {w : World} {b o : Nat} {e : Ex} (h : C17 w b o e) : w.rangeAt b o e.vs := fun j v hv => by
  match j, hv with
  | 0, hv => rw [← hv]; exact h.c0
  | 1, hv => rw [← hv]; exact h.c1
  | 2, hv => rw [← hv]; exact h.c2
  | 3, hv => rw [← hv]; exact h.c3
  | 4, hv => rw [← hv]; exact h.c4
  | 5, hv => rw [← hv]; exact h.c5
  | 6, hv => rw [← hv]; exact h.c6
  | 7, hv => rw [← hv]; exact h.c7
  | 8, hv => rw [← hv]; exact h.c8
  | 9, hv => rw [← hv]; exact h.c9
  | 10, hv => rw [← hv]; exact h.c10
  | 11, hv => rw [← hv]; exact h.c11
  | 12, hv => rw [← hv]; exact h.c12
  | 13, hv => rw [← hv]; exact h.c13
  | 14, hv => rw [← hv]; exact h.c14
  | 15, hv => rw [← hv]; exact h.c15
  | 16, hv => rw [← hv]; exact h.c16
  | _ + 17, hv => simp [Ex.vs] at hv
theorem C17.of_range {w : World} {b o : Nat} {e : Ex} (h : w.rangeAt b o e.vs) : C17 w b o e :=
  ⟨h 0 _ rfl, h 1 _ rfl, h 2 _ rfl, h 3 _ rfl, h 4 _ rfl, h 5 _ rfl, h 6 _ rfl, h 7 _ rfl, h 8 _ rfl, h 9 _ rfl, h 10 _ rfl, h 11 _ rfl, h 12 _ rfl, h 13 _ rfl, h 14 _ rfl, h 15 _ rfl, h 16 _ rfl⟩
/-- A variable that holds an expression, at a block's beginning. -/
structure Bex (w : World) (B : Nat) (e : Ex) : Prop where
  c0 : w.cell? ⟨B, 0, none⟩ = some (.int .i64 e.k)
  c1 : w.cell? ⟨B, 1, none⟩ = some (.int .i64 e.n)
  c2 : w.cell? ⟨B, 2, none⟩ = some (.int .i64 e.m)
  c3 : w.cell? ⟨B, 3, none⟩ = some (.string e.tx)
  c4 : w.cell? ⟨B, 4, none⟩ = some (.string e.ar)
  c5 : w.cell? ⟨B, 5, none⟩ = some (.int .i64 e.ty.k)
  c6 : w.cell? ⟨B, 6, none⟩ = some (.int .i64 e.ty.l)
  c7 : w.cell? ⟨B, 7, none⟩ = some (.slice e.ty.ao e.ty.len e.ty.cap)
  c8 : w.cell? ⟨B, 8, none⟩ = some (.int .i64 e.ty.h)
  c9 : w.cell? ⟨B, 9, none⟩ = some (.int .i64 e.ty.e)
  c10 : w.cell? ⟨B, 10, none⟩ = some (.int .i64 e.gv.k)
  c11 : w.cell? ⟨B, 11, none⟩ = some (.int .i64 e.gv.l)
  c12 : w.cell? ⟨B, 12, none⟩ = some (.slice e.gv.ao e.gv.len e.gv.cap)
  c13 : w.cell? ⟨B, 13, none⟩ = some (.int .i64 e.gv.h)
  c14 : w.cell? ⟨B, 14, none⟩ = some (.int .i64 e.gv.e)
  c15 : w.cell? ⟨B, 15, none⟩ = some (.slice e.ao e.len e.cap)
  c16 : w.cell? ⟨B, 16, none⟩ = some (.int .i64 e.pl)
theorem Bex.kept {w w' : World} {B : Nat} {e : Ex} (h : Bex w B e) (hb : Below w.heap.size w w') : Bex w' B e := ⟨up hb h.c0, up hb h.c1, up hb h.c2, up hb h.c3, up hb h.c4, up hb h.c5, up hb h.c6, up hb h.c7, up hb h.c8, up hb h.c9, up hb h.c10, up hb h.c11, up hb h.c12, up hb h.c13, up hb h.c14, up hb h.c15, up hb h.c16⟩
theorem Bex.range {w : World} {B : Nat} {e : Ex} (h : Bex w B e) : w.rangeAt B 0 e.vs := fun j v hv => by
  rw [Nat.zero_add]
  match j, hv with
  | 0, hv => rw [← hv]; exact h.c0
  | 1, hv => rw [← hv]; exact h.c1
  | 2, hv => rw [← hv]; exact h.c2
  | 3, hv => rw [← hv]; exact h.c3
  | 4, hv => rw [← hv]; exact h.c4
  | 5, hv => rw [← hv]; exact h.c5
  | 6, hv => rw [← hv]; exact h.c6
  | 7, hv => rw [← hv]; exact h.c7
  | 8, hv => rw [← hv]; exact h.c8
  | 9, hv => rw [← hv]; exact h.c9
  | 10, hv => rw [← hv]; exact h.c10
  | 11, hv => rw [← hv]; exact h.c11
  | 12, hv => rw [← hv]; exact h.c12
  | 13, hv => rw [← hv]; exact h.c13
  | 14, hv => rw [← hv]; exact h.c14
  | 15, hv => rw [← hv]; exact h.c15
  | 16, hv => rw [← hv]; exact h.c16
  | _ + 17, hv => simp [Ex.vs] at hv
theorem Bex.of_range {w : World} {B : Nat} {e : Ex} (h : w.rangeAt B 0 e.vs) : Bex w B e := by
  have key : ∀ j v, e.vs[j]? = some v → w.cell? ⟨B, j, none⟩ = some v := fun j v hv => by have := h j v hv; rwa [Nat.zero_add] at this
  exact ⟨key 0 _ rfl, key 1 _ rfl, key 2 _ rfl, key 3 _ rfl, key 4 _ rfl, key 5 _ rfl, key 6 _ rfl, key 7 _ rfl, key 8 _ rfl, key 9 _ rfl, key 10 _ rfl, key 11 _ rfl, key 12 _ rfl, key 13 _ rfl, key 14 _ rfl, key 15 _ rfl, key 16 _ rfl⟩
theorem ex_one (e : Ex) : e.vs.toArray.all (·.oneCell') = true := by simp [Ex.vs, Value.oneCell']
/-- An expression lies: its types, its texts (no longer than Go's), its Parts. -/
def Ex.At (w : World) : Ex → Prop
  | .dm => False
  | .mk _ _ _ tx ar ty gv ao b o len _ ps _ => (tx.size ≤ 9223372036854775807 ∧ ar.size ≤ 9223372036854775807) ∧ (ty.At w ∧ gv.At w) ∧ (0 < len → ao = some ⟨b, o, none⟩) ∧ len ≤ 9223372036854775807 ∧ ∀ i, i < len → C17 w b (o + i * 17) (ps i) ∧ Ex.At w (ps i)
theorem Ex.At.kept {w w' : World} (hb : Below w.heap.size w w') : ∀ {e : Ex}, e.At w → e.At w'
  | .dm, h => h.elim
  | .mk _ _ _ _ _ _ _ _ _ _ _ _ _ _, h => ⟨h.1, ⟨h.2.1.1.kept hb, h.2.1.2.kept hb⟩, h.2.2.1, h.2.2.2.1, fun i hi => ⟨(h.2.2.2.2 i hi).1.kept hb, Ex.At.kept hb (h.2.2.2.2 i hi).2⟩⟩
theorem Ex.At.tx {w : World} : ∀ {e : Ex}, e.At w → e.tx.size ≤ 9223372036854775807
  | .dm, h => h.elim
  | .mk _ _ _ _ _ _ _ _ _ _ _ _ _ _, h => h.1.1
theorem Ex.At.ar {w : World} : ∀ {e : Ex}, e.At w → e.ar.size ≤ 9223372036854775807
  | .dm, h => h.elim
  | .mk _ _ _ _ _ _ _ _ _ _ _ _ _ _, h => h.1.2
theorem Ex.At.ty {w : World} : ∀ {e : Ex}, e.At w → e.ty.At w
  | .dm, h => h.elim
  | .mk _ _ _ _ _ _ _ _ _ _ _ _ _ _, h => h.2.1.1
theorem Ex.At.gv {w : World} : ∀ {e : Ex}, e.At w → e.gv.At w
  | .dm, h => h.elim
  | .mk _ _ _ _ _ _ _ _ _ _ _ _ _ _, h => h.2.1.2
theorem Ex.At.nil {w : World} : ∀ {e : Ex}, e.At w → 0 < e.len → e.ao = some ⟨e.b, e.o, none⟩
  | .dm, h => h.elim
  | .mk _ _ _ _ _ _ _ _ _ _ _ _ _ _, h => h.2.2.1
theorem Ex.At.bound {w : World} : ∀ {e : Ex}, e.At w → e.len ≤ 9223372036854775807
  | .dm, h => h.elim
  | .mk _ _ _ _ _ _ _ _ _ _ _ _ _ _, h => h.2.2.2.1
theorem Ex.At.cells {w : World} : ∀ {e : Ex}, e.At w → ∀ {i}, i < e.len → C17 w e.b (e.o + i * 17) (e.ps i)
  | .dm, h, _, _ => h.elim
  | .mk _ _ _ _ _ _ _ _ _ _ _ _ _ _, h, i, hi => (h.2.2.2.2 i hi).1
theorem Ex.At.part {w : World} : ∀ {e : Ex}, e.At w → ∀ {i}, i < e.len → (e.ps i).At w
  | .dm, h, _, _ => h.elim
  | .mk _ _ _ _ _ _ _ _ _ _ _ _ _ _, h, i, hi => (h.2.2.2.2 i hi).2
/-- How many nodes. -/
def Ex.nodes : Ex → Nat
  | .dm => 1
  | .mk _ _ _ _ _ _ _ _ _ _ len _ ps _ => 1 + sumTo (fun i => Ex.nodes (ps i)) len
/-- One node as another, the number of Parts too, places apart. -/
def Ex.like (a b : Ex) : Bool := ((((((a.k == b.k) && (a.n == b.n)) && (a.m == b.m)) && (a.tx == b.tx)) && (a.ar == b.ar)) && (a.ty.same b.ty && a.gv.same b.gv)) && (a.len == b.len)
/-- All alike, places apart. -/
def Ex.same : Ex → Ex → Bool
  | .dm, t => Ex.like .dm t
  | .mk k n m tx ar ty gv ao b o len cap ps pl, t => Ex.like (.mk k n m tx ar ty gv ao b o len cap ps pl) t && decide (∀ i, i < len → Ex.same (ps i) (t.ps i) = true)
/-- Its types, and all texts, are of a size that the statements look at. -/
def Ex.sm : Ex → Bool
  | .dm => true
  | .mk _ _ _ tx ar ty gv _ _ _ len _ ps _ => (((decide (ty.nodes ≤ 40) && decide (gv.nodes ≤ 40)) && decide (tx.size ≤ 1000)) && decide (ar.size ≤ 1000)) && decide (∀ i, i < len → Ex.sm (ps i) = true)
/-- How deep it nests. -/
def mxTo (f : Nat → Nat) : Nat → Nat
  | 0 => 0
  | k + 1 => max (mxTo f k) (f k)
def Ex.nest : Ex → Nat
  | .dm => 1
  | .mk _ _ _ _ _ _ _ _ _ _ len _ ps _ => 1 + mxTo (fun i => Ex.nest (ps i)) len
end Go.Proofs.YtmkncmmegjfipaaGreatDoor

/- Layer 6: an expression's seventeen values as one letter; a new variable that holds them. -/
namespace Go.Proofs.YtmkncmmegjfipaaGreatDoor
open Go.RowKit

/-- An expression's values, as a row. -/
def Ex.va (e : Ex) : Array Value := e.vs.toArray
theorem Ex.va_one (e : Ex) : e.va.all (·.oneCell') = true := ex_one e
theorem Ex.va_size (e : Ex) : e.va.size = 17 := rfl
theorem Ex.va_list (e : Ex) : e.va.toList = e.vs := rfl
theorem Ex.ind {P : Ex → Prop} (h : ∀ t : Ex, (∀ i, i < t.len → P (t.ps i)) → P t) : ∀ t, P t := by
  intro t
  induction t with
  | dm => exact h _ (fun i hi => absurd hi (Nat.not_lt_zero _))
  | mk k n m tx ar ty gv ao b o len cap ps pl ih => exact h _ (fun i _ => ih i)

theorem setCells_new (w : World) (t : TypeId) : ∀ (vs pre post : List Value), post.length = vs.length → (w.alloc (.cells (pre ++ post).toArray t)).setCells w.heap.size pre.length vs = w.alloc (.cells (pre ++ vs).toArray t)
  | [], pre, post, h => by
    have e : post = [] := List.eq_nil_of_length_eq_zero h
    subst e; rfl
  | v :: vs, pre, [], h => by simp at h
  | v :: vs, pre, p :: post, h => by
    rw [World.setCells, World.setCell_alloc_new]
    have e : ((pre ++ p :: post).toArray.setIfInBounds pre.length v) = ((pre ++ [v]) ++ post).toArray := by
      apply Array.toList_inj.1
      simp
    have h2 : post.length = vs.length := by simpa using h
    have k := setCells_new w t vs (pre ++ [v]) post h2
    rw [e]
    have e2 : (pre ++ [v]).length = pre.length + 1 := by simp
    rw [e2] at k
    rw [k]
    simp

/-- A new variable, filled at once. -/
theorem wpList_new_mid {ops : Array Oper} {rest : List Oper} {o1 o2 : Oper} {a : Act} {w : World} {Q : Exit → Act → World → Prop} (hg1 : o1.guard = none) (hg2 : o2.guard = none) (ty : TypeId) (h1 : o1.op = .alloc ty) (x y : Operand) (h2 : o2.op = .store ty x y)
    (zs : List Value) (hz : (Instr.alloc ty true (.tuple #[])).run Tryz.prog w = .ok (.pointer (some ⟨w.heap.size, 0, none⟩)) (w.alloc (.cells zs.toArray ty))) (hd2 : o2.dst = none)
    (cells : Array Value) (hx : (a.put o1.dst (.pointer (some ⟨w.heap.size, 0, none⟩))).eval x = .pointer (some ⟨w.heap.size, 0, none⟩)) (hy : (a.put o1.dst (.pointer (some ⟨w.heap.size, 0, none⟩))).eval y = .agg cells)
    (hl : zs.length = cells.size) (hi : (Tryz.prog.info? ty).map (·.size) = some cells.size) (hc : cells.all (·.oneCell') = true)
    (h : wpList Tryz.prog ops Q rest (a.put o1.dst (.pointer (some ⟨w.heap.size, 0, none⟩))) (w.alloc (.cells cells ty))) : wpList Tryz.prog ops Q (o1 :: o2 :: rest) a w := by
  refine wpList_plain hg1 fun _ hK => ?_
  unfold Oper.wp execOp
  simp only [h1, Sem.run_bind, hz, Result.andThen_ok, Sem.run_pure]
  refine hK _ _ ?_
  refine wpList_store_mid hg2 ty x y h2 w.heap.size 0 cells hx hy (fun j hj => ⟨?_, ?_⟩) hi hc ?_
  · have : j < zs.length := by omega
    show ((w.alloc (.cells zs.toArray ty)).cell? ⟨w.heap.size, 0 + j, none⟩).isSome = true
    simp [this]
  · simp
  · have k := setCells_new w ty cells.toList [] zs (by simpa using hl)
    simp only [List.nil_append, List.length_nil] at k
    rw [k, hd2]
    exact h

def zEx : List Value := [.int .i64 0, .int .i64 0, .int .i64 0, .string ⟨#[]⟩, .string ⟨#[]⟩, .int .i64 0, .int .i64 0, .slice none 0 0, .int .i64 0, .int .i64 0, .int .i64 0, .int .i64 0, .slice none 0 0, .int .i64 0, .int .i64 0, .slice none 0 0, .int .i64 0]
end Go.Proofs.YtmkncmmegjfipaaGreatDoor

/- The map of places: a key is an address, a nil pointer and a number. -/
namespace Go.Proofs.YtmkncmmegjfipaaGreatDoor
open Go.RowKit

def keyV (a : Addr) (n : Nat) : Value := .agg #[.pointer (some a), .pointer none, .int .i64 n]
/-- Blocks that bear no mark. -/
def PlainAt (w : World) (b : Nat) : Prop := ∃ c t, w.heap[b]? = some (.cells c t (0, 0))

theorem run_eqp_int (w : World) (d : Nat) (m n : Nat) : (Op.equalIn (d + 1) 3 (.int .i64 m) (.int .i64 n)).run Tryz.prog w = .ok (decide (m = n)) w := by
  simp [Op.equalIn, run_underlying Tryz.underlying3]
  by_cases h : m = n
  · simp [h]
  · have : ¬ (m : Int) = n := by omega
    simp [h, this]
theorem run_part_int (w : World) (x y z : Value) (i : Nat) (v : Value) (h : #[x, y, z][i]? = some v) : (part 3 #[x, y, z] i).run Tryz.prog w = .ok v w := by
  simp [part, isAgg, run_underlying Tryz.underlying3, h]
/-- The keys of a map of places. -/
structure Keys (w : World) (es : Array MapEntry) (ks : List (Addr × Nat)) : Prop where
  keys : es.toList.map (·.key) = ks.map fun k => keyV k.1 k.2
  vals : ∀ e ∈ es.toList, e.val = .agg #[]
  plain : ∀ k ∈ ks, PlainAt w k.1.block
end Go.Proofs.YtmkncmmegjfipaaGreatDoor

/- Layer 6: the counts of nodes, the sizes. -/
namespace Go.Proofs.YtmkncmmegjfipaaGreatDoor
open Go.RowKit

end Go.Proofs.YtmkncmmegjfipaaGreatDoor

/- Layer 6: walk's count of an expression's nodes. -/
namespace Go.Proofs.YtmkncmmegjfipaaGreatDoor
open Go.RowKit

theorem Ex.At.nodes_eq {w : World} : ∀ {t : Ex}, t.At w → t.nodes = 1 + sumTo (fun i => (t.ps i).nodes) t.len
  | .dm, h => h.elim
  | .mk _ _ _ _ _ _ _ _ _ _ _ _ _ _, _ => rfl
end Go.Proofs.YtmkncmmegjfipaaGreatDoor

/- Layer 6: how deep an expression nests, level by level. -/
namespace Go.Proofs.YtmkncmmegjfipaaGreatDoor
open Go.RowKit

def mx (l : List Nat) : Nat := l.foldr max 0
theorem le_mx : ∀ {l : List Nat} {x : Nat}, x ∈ l → x ≤ mx l
  | a :: l, x, h => by
    show x ≤ max a (mx l)
    rcases List.mem_cons.1 h with rfl | h
    · omega
    · have := le_mx h; omega
theorem mx_le : ∀ {l : List Nat} {n : Nat}, (∀ x ∈ l, x ≤ n) → mx l ≤ n
  | [], _, _ => Nat.zero_le _
  | a :: l, n, h => by
    show max a (mx l) ≤ n
    have h1 := h a (List.mem_cons_self ..)
    have h2 := mx_le (l := l) (fun x hx => h x (List.mem_cons_of_mem _ hx))
    omega
/-- The Parts of all these. -/
def kid (e : Ex) : List Ex := (List.range e.len).map e.ps
def kids (L : List Ex) : List Ex := L.flatMap kid
theorem mem_kid {e x : Ex} : x ∈ kid e ↔ ∃ i, i < e.len ∧ x = e.ps i := by
  unfold kid; simp only [List.mem_map, List.mem_range]
  exact ⟨fun ⟨i, h, e⟩ => ⟨i, h, e.symm⟩, fun ⟨i, h, e⟩ => ⟨i, h, e.symm⟩⟩
theorem mem_kids {L : List Ex} {x : Ex} : x ∈ kids L ↔ ∃ e ∈ L, x ∈ kid e := by unfold kids; simp only [List.mem_flatMap]
def dpth (L : List Ex) : Nat := mx ((kids L).map Ex.nest)
def nsum (L : List Ex) : Nat := (L.map Ex.nodes).sum
theorem nsum_append (a b : List Ex) : nsum (a ++ b) = nsum a + nsum b := by unfold nsum; simp
theorem nsum_one (x : Ex) : nsum [x] = x.nodes := by unfold nsum; simp
theorem nodes_pos : ∀ e : Ex, 1 ≤ e.nodes
  | .dm => Nat.le_refl _
  | .mk _ _ _ _ _ _ _ _ _ _ len _ ps _ => by show 1 ≤ 1 + sumTo _ len; omega
theorem len_le_nsum : ∀ L : List Ex, L.length ≤ nsum L
  | [] => Nat.le_refl _
  | e :: L => by
    have h1 := nodes_pos e
    have h2 := len_le_nsum L
    have : nsum (e :: L) = e.nodes + nsum L := by unfold nsum; simp
    simp; omega
theorem nsum_kid {w : World} : ∀ {e : Ex}, e.At w → nsum (kid e) + 1 = e.nodes
  | .dm, h => h.elim
  | .mk _ _ _ _ _ _ _ _ _ _ len _ ps _, _ => by
    show nsum ((List.range len).map ps) + 1 = 1 + sumTo (fun i => (ps i).nodes) len
    have : ∀ n, nsum ((List.range n).map ps) = sumTo (fun i => (ps i).nodes) n := by
      intro n
      induction n with
      | zero => rfl
      | succ n ih => rw [List.range_succ, List.map_append, nsum_append, ih]; simp [nsum, sumTo]
    rw [this]; omega
theorem nsum_kids {w : World} : ∀ {L : List Ex}, (∀ e ∈ L, e.At w) → nsum (kids L) + L.length = nsum L
  | [], _ => rfl
  | e :: L, h => by
    have h1 := nsum_kid (h e (List.mem_cons_self ..))
    have h2 := nsum_kids (L := L) (fun x hx => h x (List.mem_cons_of_mem _ hx))
    have e1 : kids (e :: L) = kid e ++ kids L := rfl
    have e2 : nsum (e :: L) = e.nodes + nsum L := by unfold nsum; simp
    rw [e1, nsum_append, e2]; simp; omega
theorem mxTo_le {f : Nat → Nat} : ∀ {n m : Nat}, (∀ i, i < n → f i ≤ m) → mxTo f n ≤ m
  | 0, _, _ => Nat.zero_le _
  | n + 1, m, h => by
    show max (mxTo f n) (f n) ≤ m
    have := mxTo_le (n := n) (m := m) (fun i hi => h i (by omega))
    have := h n (by omega)
    omega
theorem le_mxTo {f : Nat → Nat} : ∀ {n i : Nat}, i < n → f i ≤ mxTo f n
  | n + 1, i, h => by
    show f i ≤ max (mxTo f n) (f n)
    rcases Nat.lt_or_ge i n with h1 | h1
    · have := le_mxTo (f := f) h1; omega
    · have : i = n := by omega
      subst this; omega
theorem Ex.At.nest_eq {w : World} : ∀ {t : Ex}, t.At w → t.nest = 1 + mxTo (fun i => (t.ps i).nest) t.len
  | .dm, h => h.elim
  | .mk _ _ _ _ _ _ _ _ _ _ _ _ _ _, _ => rfl
theorem mxTo_congr {f g : Nat → Nat} : ∀ {n : Nat}, (∀ i, i < n → f i = g i) → mxTo f n = mxTo g n
  | 0, _ => rfl
  | n + 1, h => by
    show max (mxTo f n) (f n) = max (mxTo g n) (g n)
    rw [mxTo_congr (n := n) (fun i hi => h i (by omega)), h n (by omega)]
/-- Two that have their Parts at one place nest alike. -/
theorem nest_same {w : World} : ∀ (s t : Ex), s.At w → t.At w → s.len = t.len → (0 < s.len → s.b = t.b ∧ s.o = t.o) → s.nest = t.nest := by
  intro s
  induction s using Ex.ind with
  | h s ih =>
    intro t hs ht hl hb
    rw [hs.nest_eq, ht.nest_eq, ← hl]
    congr 1
    refine mxTo_congr fun i hi => ?_
    obtain ⟨eb, eo⟩ := hb (by omega)
    have cs := hs.cells hi
    have ct := ht.cells (hl ▸ hi)
    rw [← eb, ← eo] at ct
    have k15 := cs.c15.symm.trans ct.c15
    simp only [Option.some.injEq, Value.slice.injEq] at k15
    refine ih i hi (t.ps i) (hs.part hi) (ht.part (hl ▸ hi)) k15.2.1 fun hp => ?_
    have a1 := (hs.part hi).nil hp
    have a2 := (ht.part (hl ▸ hi)).nil (by omega)
    have := a1.symm.trans (k15.1.trans a2)
    simp at this
    exact this
/-- No block of its Parts bears a mark. -/
def Ex.Pl (w : World) : Ex → Prop
  | .dm => True
  | .mk _ _ _ _ _ _ _ _ b _ len _ ps _ => (0 < len → PlainAt w b) ∧ ∀ i, i < len → Ex.Pl w (ps i)
theorem Ex.Pl.b {w : World} : ∀ {e : Ex}, e.Pl w → 0 < e.len → PlainAt w e.b
  | .dm, _, h => absurd h (Nat.lt_irrefl 0)
  | .mk _ _ _ _ _ _ _ _ _ _ _ _ _ _, h, hl => h.1 hl
theorem Ex.Pl.part {w : World} : ∀ {e : Ex}, e.Pl w → ∀ {i}, i < e.len → (e.ps i).Pl w
  | .dm, _, _, h => absurd h (Nat.not_lt_zero _)
  | .mk _ _ _ _ _ _ _ _ _ _ _ _ _ _, h, _, hl => h.2 _ hl
theorem PlainAt.kept {w w' : World} {b : Nat} (h : PlainAt w b) (hb : Below w.heap.size w w') : PlainAt w' b := by
  obtain ⟨c, t, h⟩ := h
  refine ⟨c, t, ?_⟩
  rw [hb.block b ?_]; exact h
  rcases Nat.lt_or_ge b w.heap.size with h1 | h1
  · exact h1
  · rw [Array.getElem?_eq_none h1] at h; cases h
theorem Ex.Pl.kept {w w' : World} (hb : Below w.heap.size w w') : ∀ {e : Ex}, e.Pl w → e.Pl w'
  | .dm, _ => trivial
  | .mk _ _ _ _ _ _ _ _ _ _ _ _ _ _, h => ⟨fun hl => (h.1 hl).kept hb, fun i hi => Ex.Pl.kept hb (h.2 i hi)⟩
def ekey (e : Ex) : Addr × Nat := (⟨e.b, e.o, none⟩, e.len)
/-- What is known of the next level behind these nodes. -/
structure NM (done nx : List Ex) : Prop where
  pos : ∀ r ∈ nx, r ∈ done ∧ 0 < r.len
  met : ∀ e ∈ done, 0 < e.len → ekey e ∈ nx.map ekey
  sum : nsum nx ≤ nsum done
theorem NM.nil : NM [] [] := ⟨by simp, by simp, Nat.le_refl _⟩
theorem NM.empty {done nx : List Ex} (h : NM done nx) {x : Ex} (hx : x.len = 0) : NM (done ++ [x]) nx :=
  ⟨fun r hr => ⟨List.mem_append_left _ (h.pos r hr).1, (h.pos r hr).2⟩, fun e he hl => by
    rcases List.mem_append.1 he with h1 | h1
    · exact h.met e h1 hl
    · have : e = x := by simpa using h1
      subst this; omega, by rw [nsum_append]; have := h.sum; omega⟩
theorem NM.old {done nx : List Ex} (h : NM done nx) {x : Ex} (hx : ekey x ∈ nx.map ekey) : NM (done ++ [x]) nx :=
  ⟨fun r hr => ⟨List.mem_append_left _ (h.pos r hr).1, (h.pos r hr).2⟩, fun e he hl => by
    rcases List.mem_append.1 he with h1 | h1
    · exact h.met e h1 hl
    · have : e = x := by simpa using h1
      subst this; exact hx, by rw [nsum_append]; have := h.sum; omega⟩
theorem NM.new {done nx : List Ex} (h : NM done nx) {x : Ex} (hx : 0 < x.len) : NM (done ++ [x]) (nx ++ [x]) :=
  ⟨fun r hr => by
    rcases List.mem_append.1 hr with h1 | h1
    · exact ⟨List.mem_append_left _ (h.pos r h1).1, (h.pos r h1).2⟩
    · have : r = x := by simpa using h1
      subst this; exact ⟨List.mem_append_right _ h1, hx⟩, fun e he hl => by
    rw [List.map_append]
    rcases List.mem_append.1 he with h1 | h1
    · exact List.mem_append_left _ (h.met e h1 hl)
    · exact List.mem_append_right _ (List.mem_map_of_mem h1), by rw [nsum_append, nsum_append]; have := h.sum; omega⟩
theorem NM.deep {w : World} {L nx : List Ex} (h : NM (kids L) nx) (hA : ∀ e ∈ L, e.At w) (hne : kids L ≠ []) : dpth nx + 1 = dpth L := by
  have hk : ∀ x ∈ kids L, x.At w := fun x hx => by
    obtain ⟨e, he, hx⟩ := mem_kids.1 hx
    obtain ⟨i, hi, rfl⟩ := mem_kid.1 hx
    exact (hA e he).part hi
  apply Nat.le_antisymm
  · have h0 : 1 ≤ dpth L := by
      cases hq : kids L with
      | nil => exact absurd hq hne
      | cons x l =>
        have hx : x ∈ kids L := by rw [hq]; exact List.mem_cons_self ..
        have h1 : x.nest ≤ dpth L := le_mx (List.mem_map_of_mem hx)
        rw [(hk x hx).nest_eq] at h1
        omega
    have : dpth nx ≤ dpth L - 1 := by
      refine mx_le fun m hm => ?_
      obtain ⟨y, hy, rfl⟩ := List.mem_map.1 hm
      obtain ⟨r, hr, hy⟩ := mem_kids.1 hy
      obtain ⟨i, hi, rfl⟩ := mem_kid.1 hy
      have hr2 := (h.pos r hr).1
      have h1 : r.nest ≤ dpth L := le_mx (List.mem_map_of_mem hr2)
      rw [(hk r hr2).nest_eq] at h1
      have h2 := le_mxTo (f := fun i => (r.ps i).nest) hi
      omega
    omega
  · refine mx_le fun m hm => ?_
    obtain ⟨x, hx, rfl⟩ := List.mem_map.1 hm
    have e0 : ∀ r ∈ nx, r.nest ≤ dpth nx + 1 := fun r hr => by
      rw [(hk r (h.pos r hr).1).nest_eq]
      have : mxTo (fun i => (r.ps i).nest) r.len ≤ dpth nx := mxTo_le fun i hi => le_mx (List.mem_map_of_mem (mem_kids.2 ⟨r, hr, mem_kid.2 ⟨i, hi, rfl⟩⟩))
      omega
    rcases Nat.eq_zero_or_pos x.len with h1 | h1
    · rw [(hk x hx).nest_eq, h1]; show 1 + 0 ≤ _; omega
    · obtain ⟨r, hr, hq⟩ := List.mem_map.1 (h.met x hx h1)
      have hq' : r.b = x.b ∧ r.o = x.o ∧ r.len = x.len := by
        have : ((⟨r.b, r.o, none⟩ : Addr), r.len) = (⟨x.b, x.o, none⟩, x.len) := hq
        simp only [Prod.mk.injEq, Addr.mk.injEq] at this
        exact ⟨this.1.1, this.1.2.1, this.2⟩
      rw [← nest_same r x (hk r (h.pos r hr).1) (hk x hx) hq'.2.2 (fun _ => ⟨hq'.1, hq'.2.1⟩)]
      exact e0 r hr
end Go.Proofs.YtmkncmmegjfipaaGreatDoor
