/- A region that draws its order: 'x := f(..)', reads ahead of a call, and a new variable that the call's answer goes into, the variable being made at any time. -/
import Derived.Test.YtcoeefckldkbeaaGreatDoorP8
import Derived.Deep.RegionHeld3
import Derived.Deep.MidRow
import Derived.Test.YtcoeefckldkbeaaGreatDoorP9
import Derived.LaidEql
import Derived.Carry
namespace Go.Proofs.YtcoeefckldkbeaaGreatDoor
open Go Go.RowKit

section
variable {P : Program} {ops : Array Oper} {Q : Exit → Act → World → Prop}

theorem if_wanted {o : Oper} {a : Act} (hg : o.guard = none) : Region.wanted o (yielded ops a.tmps) = true := by simp [Region.wanted, hg]

/-- What is known of the three last operations. -/
structure Three (P : Program) (ops : Array Oper) (m : Nat) (listed : Array Bool) (oc oa oz : Oper) (ty : TypeId) (zs : List Value) (c d : Nat) : Prop where
  hoc : ops[m]? = some oc
  hoa : ops[m + 1]? = some oa
  hoz : ops[m + 2]? = some oz
  gc : oc.guard = none
  ga : oa.guard = none
  gz : oz.guard = none
  dc : oc.dst = some c
  da : oa.dst = some d
  dz : oz.dst = none
  opa : oa.op = .alloc ty
  opz : oz.op = .store ty (.tmp d) (.tmp c)
  r0 : Region.ready .any ops listed = [m, m + 1]
  r1 : Region.ready .any ops (listed.setIfInBounds m true) = [m + 1]
  r2 : Region.ready .any ops (listed.setIfInBounds (m + 1) true) = [m]
  r3 : Region.ready .any ops ((listed.setIfInBounds m true).setIfInBounds (m + 1) true) = [m + 2]
  r4 : Region.ready .any ops (((listed.setIfInBounds m true).setIfInBounds (m + 1) true).setIfInBounds (m + 2) true) = []
  hi : (P.info? ty).map (·.size) = some zs.length
  hal : ∀ u : World, (Instr.alloc ty true (.tuple #[])).run P u = .ok (.pointer (some ⟨u.heap.size, 0, none⟩)) (u.alloc (.cells zs.toArray ty))

theorem there_of {u : World} {B : Nat} {zs : List Value} {ty : TypeId} (h : u.heap[B]? = some (.cells zs.toArray ty (0, 0))) : u.there B 0 zs.length := fun j hj => by
  refine ⟨?_, ?_⟩
  · simp [World.cell?, h, hj]
  · simp [World.frozen?, h]
theorem below_setCells {B b : Nat} {a : World} (hb : B ≤ b) : ∀ (vs : List Value) (o : Nat) (w : World), Below B a w → Below B a (w.setCells b o vs)
  | [], _, _, h => h
  | v :: vs, o, _, h => below_setCells hb vs (o + 1) _ (h.setCell hb v)

theorem wpAnyH_three {m : Nat} {listed : Array Bool} {oc oa oz : Oper} {ty : TypeId} {zs : List Value} {c d : Nat} (T : Three P ops m listed oc oa oz ty zs c d) (w0 : World) (a : Act) (f : FuncId) (args : Array Value) (G : Array Value → Prop) (Pn : List PanicEntry → Prop)
    (hc : ∀ u, Below w0.heap.size w0 u → (execOp a.eval oc).run P u = .ok (.enter f args) u)
    (hc2 : ∀ u v, Below w0.heap.size w0 u → (execOp (a.put (some d) v).eval oc).run P u = .ok (.enter f args) u)
    (hcall : ∀ u, Below w0.heap.size w0 u → Calls P f args u fun e u' => Below u.heap.size u u' ∧ ((∃ vals : Array Value, e = .returned (.agg vals) ∧ G vals) ∨ ∃ ch, e = .panicked ch ∧ Pn ch))
    (hG : ∀ vals, G vals → vals.size = zs.length ∧ vals.all (·.oneCell') = true)
    (hcomm : ∀ v v', (a.put (some d) v).put (some c) v' = (a.put (some c) v').put (some d) v)
    (hev : ∀ v v', ((a.put (some c) v').put (some d) v).eval (.tmp d) = v ∧ ((a.put (some c) v').put (some d) v).eval (.tmp c) = v')
    (hpan : ∀ ch (a1 : Act) u, Pn ch → Below w0.heap.size w0 u → a1.defers = a.defers → Q (.panic ch) a1 u)
    (hQ : ∀ vals B u, G vals → Below w0.heap.size w0 u → w0.heap.size ≤ B → u.rangeAt B 0 vals.toList → Q .normal ((a.put (some c) (.agg vals)).put (some d) (.pointer (some ⟨B, 0, none⟩))) u)
    (w : World) (hw : Below w0.heap.size w0 w) : wpAnyH P .any ops Q (fun u => Below w0.heap.size w0 u) 3 listed a w := by
  -- the store, wherever the block lies
  have hstore : ∀ vals B u, G vals → Below w0.heap.size w0 u → w0.heap.size ≤ B → u.heap[B]? = some (.cells zs.toArray ty (0, 0)) →
      wpAnyH P .any ops Q (fun u => Below w0.heap.size w0 u) 1 ((listed.setIfInBounds m true).setIfInBounds (m + 1) true) ((a.put (some c) (.agg vals)).put (some d) (.pointer (some ⟨B, 0, none⟩))) u := by
    intro vals B u hg hu hB hz
    obtain ⟨h1, h2⟩ := hG vals hg
    refine wpAnyH_ready T.r3 (by simp) ?_
    refine AllReadyH.cons T.hoz (fun K hK => ?_) AllReadyH.nil
    rw [if_pos (if_wanted T.gz)]
    have ht : u.there B 0 vals.size := by rw [h1]; exact there_of hz
    refine wp_store_mid ty (.tmp d) (.tmp c) T.opz B 0 vals (hev _ _).1 (hev _ _).2 ht (by rw [T.hi, h1]) h2 ?_
    have hB2 : Below w0.heap.size w0 (u.setCells B 0 vals.toList) := below_setCells hB _ _ _ hu
    refine hK.out _ _ hB2 fun _ => ?_
    rw [T.dz]
    refine wpAnyH_done T.r4 ?_ _
    exact hQ vals B _ hg hB2 hB (World.rangeAt_setCells_same _ _ _ _ (by simpa using ht))
  refine wpAnyH_ready T.r0 (by simp) ?_
  refine AllReadyH.cons T.hoc (fun K hK => ?_) (AllReadyH.cons T.hoa (fun K hK => ?_) AllReadyH.nil)
  · -- the call first
    rw [if_pos (if_wanted T.gc)]
    unfold Oper.wp
    rw [hc w hw, Oper.upon_enter]
    refine (hcall w hw).mono ?_
    rintro e u ⟨hb, ⟨vals, rfl, hg⟩ | ⟨ch, rfl, hp⟩⟩
    · have hu := Below.next hw hb
      refine hK.out _ _ hu fun _ => ?_
      refine wpAnyH_ready T.r1 (by simp) ?_
      refine AllReadyH.cons T.hoa (fun K2 hK2 => ?_) AllReadyH.nil
      rw [if_pos (if_wanted T.ga)]
      unfold Oper.wp execOp
      simp only [T.opa, Sem.run_bind, T.hal, Result.andThen_ok, Sem.run_pure]
      have hu2 : Below w0.heap.size w0 (u.alloc (.cells zs.toArray ty)) := hu.alloc hu.size _
      refine hK2.out _ _ hu2 fun _ => ?_
      rw [T.dc, T.da]
      exact hstore vals u.heap.size _ hg hu2 hu.size (heap_alloc_new _ _)
    · exact hpan ch _ _ hp (Below.next hw hb) rfl
  · -- the variable first
    rw [if_pos (if_wanted T.ga)]
    unfold Oper.wp execOp
    simp only [T.opa, Sem.run_bind, T.hal, Result.andThen_ok, Sem.run_pure]
    have hu2 : Below w0.heap.size w0 (w.alloc (.cells zs.toArray ty)) := hw.alloc hw.size _
    refine hK.out _ _ hu2 fun _ => ?_
    rw [T.da]
    refine wpAnyH_ready T.r2 (by simp) ?_
    refine AllReadyH.cons T.hoc (fun K2 hK2 => ?_) AllReadyH.nil
    rw [if_pos (if_wanted T.gc)]
    unfold Oper.wp
    rw [hc2 _ _ hu2, Oper.upon_enter]
    refine (hcall _ hu2).mono ?_
    rintro e u ⟨hb, ⟨vals, rfl, hg⟩ | ⟨ch, rfl, hp⟩⟩
    · have hu := Below.next hu2 hb
      refine hK2.out _ _ hu fun _ => ?_
      rw [T.dc, hcomm, Array.setIfInBounds_comm _ _ (by omega)]
      refine hstore vals w.heap.size u hg hu hw.size ?_
      rw [hb.block _ (by simp), heap_alloc_new]
    · exact hpan ch _ _ hp (Below.next hu2 hb) rfl

/-- It yields a value, if anything. -/
def isRead (o : Oper) : Bool := match o.op with
  | .load .. | .fieldAddr .. | .indexAddr .. | .extract .. => true
  | _ => false
theorem run_val {s : Sem Value} {w w' : World} {n : Next} (hr : (do pure (Next.value (← s)) : Sem Next).run P w = .ok n w') : ∃ u, n = .value u := by
  simp only [Sem.run_bind] at hr
  cases hq : s.run P w with
  | ok v w2 => rw [hq] at hr; simp only [Result.andThen_ok, Sem.run_pure] at hr; exact ⟨v, (Result.ok.inj hr).1.symm⟩
  | halt x w2 => rw [hq] at hr; simp [Result.andThen] at hr
theorem read_value {o : Oper} (h : isRead o = true) (ρ : Operand → Value) (w w' : World) (n : Next) (hr : (execOp ρ o).run P w = .ok n w') : ∃ u, n = .value u := by
  cases ho : o.op
  case load => unfold execOp at hr; rw [ho] at hr; exact run_val hr
  case fieldAddr => unfold execOp at hr; rw [ho] at hr; exact run_val hr
  case indexAddr => unfold execOp at hr; rw [ho] at hr; exact run_val hr
  case extract => unfold execOp at hr; rw [ho] at hr; exact run_val hr
  all_goals (unfold isRead at h; rw [ho] at h; cases h)
theorem yieldsIf_of_quiet {S : World → Prop} {o : Oper} {a : Act} {K : Act → Prop} (hr : isRead o = true) (h : if Region.wanted o (yielded ops a.tmps) then o.quiet P a S K else K (a.put o.dst undef)) : ∃ v, YieldsIf P ops S o v a ∧ K (a.put o.dst v) := by
  by_cases hw : Region.wanted o (yielded ops a.tmps) = true
  · rw [if_pos hw] at h
    obtain ⟨v, h1, h2⟩ := h
    refine ⟨v, Or.inl ⟨hw, fun w hS => ?_⟩, h2⟩
    have h3 := h1 w hS
    unfold Oper.quietAt at h3
    cases hq : (execOp a.eval o).run P w with
    | ok n w' =>
      obtain ⟨u, rfl⟩ := read_value hr _ _ _ _ hq
      rw [hq] at h3
      simp only [Oper.quietUpon] at h3
      rw [h3.1, h3.2]
    | halt x w' => rw [hq] at h3; simp only [Oper.quietUpon] at h3
  · rw [if_neg hw] at h
    exact ⟨undef, Or.inr ⟨by simpa using hw, rfl⟩, h⟩
def lexR (ops : Array Oper) : List Oper → Nat → Array Bool → Bool
  | [], _, _ => true
  | o :: l, k, listed => isRead o && (Region.ready .any ops listed).contains k && Region.free .any ops listed k && lexR ops l (k + 1) (listed.setIfInBounds k true)
theorem wpAnyH_reads {S : World → Prop} {K : Act → Prop} {rest : Nat} {w : World} (hs : Region.noSelect ops = true) (hQ : ∀ c a d v w, Q (.panic c) (Act.put a d v) w → Q (.panic c) a w) (hS : S w) : ∀ (l : List Oper) (k : Nat) (listed : Array Bool) (a : Act), (∀ j, j < l.length → l[j]? = ops[k + j]?) →
    lexR ops l k listed = true → wpQuiet P ops S K l a → (∀ a', K a' → wpAnyH P .any ops Q S rest (listedTo l.length k listed) a' w) → wpAnyH P .any ops Q S (l.length + rest) listed a w
  | [], _, _, _, _, _, h, hK => by simpa [listedTo] using hK _ h
  | o :: l, k, listed, a, hl, hB, h, hK => by
    have h0 : ops[k]? = some o := by simpa using (hl 0 (by simp)).symm
    simp only [lexR, Bool.and_eq_true] at hB
    obtain ⟨⟨⟨hr, hc⟩, hf⟩, hB'⟩ := hB
    have h' : if Region.wanted o (yielded ops a.tmps) then o.quiet P a S (wpQuiet P ops S K l) else wpQuiet P ops S K l (a.put o.dst undef) := h
    obtain ⟨v, hy, hk⟩ := yieldsIf_of_quiet (ops := ops) hr h'
    rw [show (o :: l).length + rest = (l.length + rest) + 1 by simp; omega]
    exact wpAnyH_take h0 hs hf hc (fun c a w => hQ c a _ _ w) hy hS (wpAnyH_reads hs hQ hS l (k + 1) _ _ (fun j hj => by have := hl (j + 1) (by simp; omega); simpa [Nat.add_assoc, Nat.add_comm 1 j] using this) hB' hk hK)
/-- Those of these places listed. -/
def listedI : List Nat → Array Bool → Array Bool
  | [], l => l
  | i :: js, l => listedI js (l.setIfInBounds i true)
def lexI (ops : Array Oper) : List Nat → List Oper → Array Bool → Bool
  | [], [], _ => true
  | i :: js, o :: l, listed => isRead o && (Region.ready .any ops listed).contains i && Region.free .any ops listed i && lexI ops js l (listed.setIfInBounds i true)
  | _, _, _ => false
theorem wpAnyH_readsI {S : World → Prop} {K : Act → Prop} {rest : Nat} {w : World} (hs : Region.noSelect ops = true) (hQ : ∀ c a d v w, Q (.panic c) (Act.put a d v) w → Q (.panic c) a w) (hS : S w) : ∀ (js : List Nat) (l : List Oper) (listed : Array Bool) (a : Act), (∀ j, j < l.length → ∃ i, js[j]? = some i ∧ ops[i]? = l[j]?) →
    lexI ops js l listed = true → wpQuiet P ops S K l a → (∀ a', K a' → wpAnyH P .any ops Q S rest (listedI js listed) a' w) → wpAnyH P .any ops Q S (js.length + rest) listed a w
  | [], [], _, _, _, _, h, hK => by simpa [listedI] using hK _ h
  | [], _ :: _, _, _, _, hB, _, _ => by simp [lexI] at hB
  | _ :: _, [], _, _, _, hB, _, _ => by simp [lexI] at hB
  | i :: js, o :: l, listed, a, hl, hB, h, hK => by
    have h0 : ops[i]? = some o := by
      obtain ⟨i', h1, h2⟩ := hl 0 (by simp)
      have : i = i' := by simpa using h1
      subst this
      simpa using h2
    simp only [lexI, Bool.and_eq_true] at hB
    obtain ⟨⟨⟨hr, hc⟩, hf⟩, hB'⟩ := hB
    have h' : if Region.wanted o (yielded ops a.tmps) then o.quiet P a S (wpQuiet P ops S K l) else wpQuiet P ops S K l (a.put o.dst undef) := h
    obtain ⟨v, hy, hk⟩ := yieldsIf_of_quiet (ops := ops) hr h'
    rw [show (i :: js).length + rest = (js.length + rest) + 1 by simp; omega]
    exact wpAnyH_take h0 hs hf hc (fun c a w => hQ c a _ _ w) hy hS (wpAnyH_readsI hs hQ hS js l _ _ (fun j hj => by
      obtain ⟨i', h1, h2⟩ := hl (j + 1) (by simp; omega)
      exact ⟨i', by simpa using h1, by simpa using h2⟩) hB' hk hK)
/-- The worlds that meet S. -/
def Wd (S : World → Prop) : Type := { u : World // S u }
def Wd.w {S : World → Prop} (x : Wd S) : World := x.1
/-- A region that draws: first all that only reads. -/
theorem wp_region_reads {id : Nat} {a : Act} {w : World} {l : List Oper} (S : World → Prop) (js : List Nat) (rest : Nat) (hm : P.follows .mixedOrders = true) (hlen : l.length = js.length + rest) (hB : (Region.noSelect l.toArray && lexI l.toArray js (js.filterMap (l[·]?)) (Array.replicate l.length false)) = true) (hj : ∀ j, j < (js.filterMap (l[·]?)).length → ∃ i, js[j]? = some i ∧ l.toArray[i]? = (js.filterMap (l[·]?))[j]?)
    (hQ : ∀ c a d v w, Q (.panic c) (Act.put a d v) w → Q (.panic c) a w) (hS : S w.drew)
    (h : wpQuiet P l.toArray (fun u => ∃ x : Wd S, u = x.w) (fun a' => wpAnyH P .any l.toArray Q S rest (listedI js (Array.replicate l.length false)) a' w.drew) (js.filterMap (l[·]?)) a) : (Code.region id l.toArray true).wp P Q a w := by
  simp only [Bool.and_eq_true] at hB
  refine wp_region_held_drew (S := S) hm hS fun hS => ?_
  have e3 : Array.replicate l.toArray.size false = Array.replicate l.length false := by simp
  have e2 : l.toArray.size = js.length + rest := by simpa using hlen
  have eS : (fun u : World => ∃ x : Wd S, u = x.w) = S := by
    funext u; apply propext
    exact ⟨fun ⟨x, hx⟩ => hx ▸ x.2, fun h => ⟨⟨u, h⟩, rfl⟩⟩
  rw [eS] at h
  rw [e3, e2]
  exact wpAnyH_readsI hB.1 hQ hS js _ _ a hj hB.2 h (fun a' h => h)
theorem wp_store_blk {o : Oper} {a : Act} {w : World} {K : Act → World → Prop} (t : TypeId) (p x : Operand) (ho : o.op = .store t p x) (hdst : o.dst = none) (B : Nat) (vs c : List Value) (hp : a.eval p = .pointer (some ⟨B, 0, none⟩)) (hx : a.eval x = .agg vs.toArray) (h1 : vs.all (·.oneCell') = true)
    (hb : w.heap[B]? = some (.cells c.toArray t (0, 0))) (hl : c.length = vs.length) (hi : (P.info? t).map (·.size) = some vs.toArray.size) (h : K a (w.setCells B 0 vs)) : o.wp P a w K Q := by
  refine wp_store_mid t p x ho B 0 vs.toArray hp hx ?_ hi (by simpa using h1) ?_
  · have := there_of hb; rw [hl] at this; simpa using this
  · rw [hdst]; exact h
/-- The whole region. -/
theorem wp_region_new {id : Nat} {a : Act} {w : World} {l : List Oper} (m : Nat) {oc oa oz : Oper} {ty : TypeId} {zs : List Value} {c d : Nat} (hm : P.follows .mixedOrders = true) (hlen : l.length = m + 3) (hB : (Region.noSelect l.toArray && lexR l.toArray (l.take m) 0 (Array.replicate l.length false)) = true)
    (T : Three P l.toArray m (listedTo m 0 (Array.replicate l.length false)) oc oa oz ty zs c d) (G : Array Value → Prop) (Pn : List PanicEntry → Prop)
    (hQ : ∀ c a d v w, Q (.panic c) (Act.put a d v) w → Q (.panic c) a w) (hG : ∀ vals, G vals → vals.size = zs.length ∧ vals.all (·.oneCell') = true)
    (h : wpQuiet P l.toArray (fun u => ∃ x : Gr w, u = x.w) (fun a' => ∃ f args,
      (∀ u, Below w.heap.size w u → (execOp a'.eval oc).run P u = .ok (.enter f args) u) ∧ (∀ u v, Below w.heap.size w u → (execOp (a'.put (some d) v).eval oc).run P u = .ok (.enter f args) u) ∧
      (∀ v v', (a'.put (some d) v).put (some c) v' = (a'.put (some c) v').put (some d) v) ∧ (∀ v v', ((a'.put (some c) v').put (some d) v).eval (.tmp d) = v ∧ ((a'.put (some c) v').put (some d) v).eval (.tmp c) = v') ∧
      (∀ u, Below w.heap.size w u → Calls P f args u fun e u' => Below u.heap.size u u' ∧ ((∃ vals : Array Value, e = .returned (.agg vals) ∧ G vals) ∨ ∃ ch, e = .panicked ch ∧ Pn ch)) ∧
      (∀ ch (a1 : Act) u, Pn ch → Below w.heap.size w u → a1.defers = a'.defers → Q (.panic ch) a1 u) ∧
      (∀ vals B u, G vals → Below w.heap.size w u → w.heap.size ≤ B → u.rangeAt B 0 vals.toList → Q .normal ((a'.put (some c) (.agg vals)).put (some d) (.pointer (some ⟨B, 0, none⟩))) u)) (l.take m) a) : (Code.region id l.toArray true).wp P Q a w := by
  simp only [Bool.and_eq_true] at hB
  have e1 : (l.take m).length = m := by simp; omega
  refine wp_region_held_drew (S := fun u => ∃ x : Gr w, u = x.w) hm ⟨⟨_, (Below.refl _ _).drew⟩, rfl⟩ fun hS => ?_
  have e2 : l.toArray.size = (l.take m).length + 3 := by rw [e1]; simpa using hlen
  have e3 : Array.replicate l.toArray.size false = Array.replicate l.length false := by simp
  rw [e3, e2]
  refine wpAnyH_reads hB.1 hQ hS (l.take m) 0 _ a (fun j hj => by rw [e1] at hj; simp [hj]) hB.2 h ?_
  rintro a' ⟨f, args, h1, h2, h3, h4, h5, h6, h7⟩
  rw [e1]
  have hw : Below w.heap.size w w.drew := (Below.refl _ _).drew
  have key := wpAnyH_three T w a' f args G Pn h1 h2 h5 hG h3 h4 h6 h7 w.drew hw
  have eS : (fun u : World => ∃ x : Gr w, u = x.w) = (fun u => Below w.heap.size w u) := by
    funext u; apply propext
    exact ⟨fun ⟨x, hx⟩ => hx ▸ x.bl, fun h => ⟨⟨u, h⟩, rfl⟩⟩
  rw [eS]
  exact key
end
end Go.Proofs.YtcoeefckldkbeaaGreatDoor

/- The map of places: a key is an address, a nil pointer and a number. -/
namespace Go.Proofs.YtcoeefckldkbeaaGreatDoor
open Go.RowKit

def keyV (a : Addr) (n : Nat) : Value := .agg #[.pointer (some a), .pointer none, .int .i64 n]
/-- Blocks that bear no mark. -/
def PlainAt (w : World) (b : Nat) : Prop := ∃ c t, w.heap[b]? = some (.cells c t (0, 0))

theorem Tryz.exSize : (Tryz.prog.info? 27).map (·.size) = some 17 := by kernel_rfl
theorem run_eqp_ptr (w : World) (d : Nat) (a b : Addr) (ha : PlainAt w a.block) (hb : PlainAt w b.block) : (Op.equalIn (d + 1) 90 (.pointer (some a)) (.pointer (some b))).run Tryz.prog w = .ok (decide (a = b)) w := by
  obtain ⟨ca, ta, ha⟩ := ha
  obtain ⟨cb, tb, hb⟩ := hb
  have hz := Tryz.exSize
  cases hq : Tryz.prog.info? 27 with
  | none => rw [hq] at hz; simp at hz
  | some i =>
    rw [hq] at hz
    have hz : i.size = 17 := by simpa using hz
    by_cases hab : a = b
    · subst hab
      simp [Op.equalIn, run_underlying Tryz.underlying90, sizeOf, typeInfo, hq, run_sameAddr_same]
    · simp [Op.equalIn, run_underlying Tryz.underlying90, sizeOf, typeInfo, hq, hz, run_sameAddr_other w hab ha hb, hab]
theorem run_eqp_nil (w : World) (d : Nat) : (Op.equalIn (d + 1) 90 (.pointer none) (.pointer none)).run Tryz.prog w = .ok true w := by
  simp [Op.equalIn, run_underlying Tryz.underlying90]
theorem run_eqp_int (w : World) (d : Nat) (m n : Nat) : (Op.equalIn (d + 1) 3 (.int .i64 m) (.int .i64 n)).run Tryz.prog w = .ok (decide (m = n)) w := by
  simp [Op.equalIn, run_underlying Tryz.underlying3]
  by_cases h : m = n
  · simp [h]
  · have : ¬ (m : Int) = n := by omega
    simp [h, this]
theorem run_part_ptr (w : World) (x y z : Value) (i : Nat) (v : Value) (h : #[x, y, z][i]? = some v) : (part 90 #[x, y, z] i).run Tryz.prog w = .ok v w := by
  simp [part, isAgg, run_underlying Tryz.underlying90, h]
theorem run_part_int (w : World) (x y z : Value) (i : Nat) (v : Value) (h : #[x, y, z][i]? = some v) : (part 3 #[x, y, z] i).run Tryz.prog w = .ok v w := by
  simp [part, isAgg, run_underlying Tryz.underlying3, h]
theorem run_eq_place' (w : World) (d : Nat) (a b : Addr) (m n : Nat) (ha : PlainAt w a.block) (hb : PlainAt w b.block) : (Op.equalIn (d + 2) 92 (keyV a m) (keyV b n)).run Tryz.prog w = .ok (decide (a = b) && decide (m = n)) w := by
  unfold keyV
  have e1 := run_eqp_ptr w d a b ha hb
  have e2 := run_eqp_nil w d
  have e3 := run_eqp_int w d m n
  have p1 := fun a' n' => run_part_ptr w (.pointer (some a')) (.pointer none) (.int .i64 n') 0 _ rfl
  have p2 := fun a' n' => run_part_ptr w (.pointer (some a')) (.pointer none) (.int .i64 n') 1 _ rfl
  have p3 := fun a' n' => run_part_int w (.pointer (some a')) (.pointer none) (.int .i64 n') 2 _ rfl
  rw [Op.equalIn]
  simp only [Sem.run_bind, run_underlying Tryz.underlying92, Result.andThen_ok]
  simp [e1, e2, e3, p1, p2, p3]
  by_cases hab : a = b
  · by_cases hmn : m = n
    · simp [hab, hmn]
    · simp [hab, hmn]
  · simp [hab]
theorem run_eq_place (w : World) (a b : Addr) (m n : Nat) (ha : PlainAt w a.block) (hb : PlainAt w b.block) : (Op.equal 92 (keyV a m) (keyV b n)).run Tryz.prog w = .ok (decide (a = b) && decide (m = n)) w :=
  run_eq_place' w 9998 a b m n ha hb

theorem run_checkKey (w : World) (e : Bool) (d : Nat) (a : Addr) (n : Nat) : (Instr.checkKey e (d + 2) 92 (keyV a n)).run Tryz.prog w = .ok () w := by
  unfold keyV
  have p1 := run_part_ptr w (.pointer (some a)) (.pointer none) (.int .i64 n) 0 _ rfl
  have p2 := run_part_ptr w (.pointer (some a)) (.pointer none) (.int .i64 n) 1 _ rfl
  have p3 := run_part_int w (.pointer (some a)) (.pointer none) (.int .i64 n) 2 _ rfl
  have c1 : ∀ v, (Instr.checkKey e (d + 1) 90 v).run Tryz.prog w = .ok () w := fun v => by simp [Instr.checkKey, run_underlying Tryz.underlying90]
  have c2 : ∀ v, (Instr.checkKey e (d + 1) 3 v).run Tryz.prog w = .ok () w := fun v => by simp [Instr.checkKey, run_underlying Tryz.underlying3]
  rw [Instr.checkKey]
  simp only [Sem.run_bind, run_underlying Tryz.underlying92, Result.andThen_ok]
  simp [c1, c2, p1, p2, p3]
/-- The keys of a map of places. -/
structure Keys (w : World) (es : Array MapEntry) (ks : List (Addr × Nat)) : Prop where
  keys : es.toList.map (·.key) = ks.map fun k => keyV k.1 k.2
  vals : ∀ e ∈ es.toList, e.val = .agg #[]
  plain : ∀ k ∈ ks, PlainAt w k.1.block
theorem run_findAsking (w : World) (a : Addr) (n : Nat) (ha : PlainAt w a.block) : ∀ (es : List MapEntry) (ks : List (Addr × Nat)) (i : Nat), es.map (·.key) = ks.map (fun k => keyV k.1 k.2) → (∀ e ∈ es, e.val = .agg #[]) → (∀ k ∈ ks, PlainAt w k.1.block) →
    ∃ r, (Instr.findAsking 92 (keyV a n) es i).run Tryz.prog w = .ok r w ∧ ((a, n) ∈ ks → ∃ j, r = some (j, .agg #[])) ∧ ((a, n) ∉ ks → r = none)
  | [], ks, i, hk, _, _ => by
    have e : ks = [] := by cases ks with | nil => rfl | cons _ _ => simp at hk
    subst e
    exact ⟨none, by simp [Instr.findAsking], by simp, fun _ => rfl⟩
  | e :: es, [], i, hk, _, _ => by simp at hk
  | e :: es, (b, m) :: ks, i, hk, hv, hp => by
    simp only [List.map_cons, List.cons.injEq] at hk
    have hq := run_eq_place w a b n m ha (hp _ (List.mem_cons_self ..))
    by_cases h : a = b ∧ n = m
    · obtain ⟨rfl, rfl⟩ := h
      refine ⟨some (i, e.val), ?_, fun _ => ⟨i, by rw [hv e (List.mem_cons_self ..)]⟩, fun h2 => absurd (List.mem_cons_self ..) h2⟩
      rw [Instr.findAsking, hk.1]
      simp [hq]
    · obtain ⟨r, h1, h2, h3⟩ := run_findAsking w a n ha es ks (i + 1) hk.2 (fun x hx => hv x (List.mem_cons_of_mem _ hx)) (fun x hx => hp x (List.mem_cons_of_mem _ hx))
      have hn : ¬ (a, n) = (b, m) := fun q => h (by simpa using q)
      have hd : (decide (a = b) && decide (n = m)) = false := by simpa using h
      refine ⟨r, ?_, fun q => h2 (by simpa [h] using q), fun q => h3 (fun z => q (List.mem_cons_of_mem _ z))⟩
      rw [Instr.findAsking, hk.1]
      simp only [Sem.run_bind, hq, hd, Result.andThen_ok]
      simpa using h1
theorem run_findKey (w : World) (a : Addr) (n : Nat) (ha : PlainAt w a.block) (es : Array MapEntry) (ks : List (Addr × Nat)) (h : Keys w es ks) :
    ∃ r, (Instr.findKey 92 (keyV a n) es.toList).run Tryz.prog w = .ok r w ∧ ((a, n) ∈ ks → ∃ j, r = some (j, .agg #[])) ∧ ((a, n) ∉ ks → r = none) := by
  obtain ⟨r, h1, h2, h3⟩ := run_findAsking w a n ha es.toList ks 0 h.keys h.vals h.plain
  have hu := run_underlying (w := w) Tryz.underlying92
  cases hl : es.toList with
  | nil =>
    have e : ks = [] := by have := h.keys; rw [hl] at this; cases ks with | nil => rfl | cons _ _ => simp at this
    subst e
    exact ⟨none, by simp [Instr.findKey, hu, Instr.findNow], by simp, fun _ => rfl⟩
  | cons e l =>
    rw [hl] at h1
    refine ⟨r, ?_, h2, h3⟩
    simp [Instr.findKey, hu, Instr.findNow, Instr.sameNow, h1]
theorem run_look_place (w : World) (m : Nat) (es : Array MapEntry) (c : Nat) (hm : w.heap[m]? = some (.map es c)) (a : Addr) (n : Nat) (ha : PlainAt w a.block) (ks : List (Addr × Nat)) (h : Keys w es ks) :
    (Instr.lookup 51 (.map (some m)) (keyV a n) true).run Tryz.prog w = .ok (.tuple #[.agg #[], .bool (decide ((a, n) ∈ ks))]) w := by
  obtain ⟨r, h1, h2, h3⟩ := run_findKey w a n ha es ks h
  have hc' : ∀ e, (Instr.checkKey e 10000 92 (keyV a n)).run Tryz.prog w = .ok () w := fun e => run_checkKey w e 9998 a n
  have hg : (getObj m).run Tryz.prog w = .ok (.map es c) w := by simp [getObj, Sem.run, hm]
  have hz : (Tryz.prog.info? 93).map (·.zero) = some (some (.agg #[])) := by kernel_rfl
  cases hq : Tryz.prog.info? 93 with
  | none => rw [hq] at hz; simp at hz
  | some i =>
    rw [hq] at hz
    have hz : i.zero = some (.agg #[]) := by simpa using hz
    by_cases hin : (a, n) ∈ ks
    · obtain ⟨j, rfl⟩ := h2 hin
      simp [Instr.lookup, run_underlying Tryz.underlying51, hg, hc', h1, hin]
    · have := h3 hin
      subst this
      simp [Instr.lookup, run_underlying Tryz.underlying51, hg, hc', h1, hin, zeroValue, typeInfo, hq, hz]
theorem run_put_place (w : World) (m : Nat) (es : Array MapEntry) (c : Nat) (hm : w.heap[m]? = some (.map es c)) (a : Addr) (n : Nat) (ha : PlainAt w a.block) (ks : List (Addr × Nat)) (h : Keys w es ks) (hin : (a, n) ∉ ks) :
    (Instr.mapUpdate 51 (.map (some m)) (keyV a n) (.agg #[])).run Tryz.prog w = .ok () { w with heap := w.heap.setIfInBounds m (.map (es.push { key := keyV a n, val := .agg #[], born := c }) (c + 1)) } := by
  obtain ⟨r, h1, h2, h3⟩ := run_findKey w a n ha es ks h
  have hc' : ∀ e, (Instr.checkKey e 10000 92 (keyV a n)).run Tryz.prog w = .ok () w := fun e => run_checkKey w e 9998 a n
  have hg : (getObj m).run Tryz.prog w = .ok (.map es c) w := by simp [getObj, Sem.run, hm]
  have := h3 hin
  have hs : ∀ o, (setObj m o).run Tryz.prog w = .ok () { w with heap := w.heap.setIfInBounds m o } := fun o => by simp [setObj, Sem.run, hm]
  subst this
  simp [Instr.mapUpdate, run_underlying Tryz.underlying51, hg, hc', h1, hs]
end Go.Proofs.YtcoeefckldkbeaaGreatDoor

/- Layer 6: how deep an expression nests, level by level. -/
namespace Go.Proofs.YtcoeefckldkbeaaGreatDoor
open Go.RowKit

def mx (l : List Nat) : Nat := l.foldr max 0
theorem le_mx : ∀ {l : List Nat} {x : Nat}, x ∈ l → x ≤ mx l
  | a :: l, x, h => by
    show x ≤ max a (mx l)
    rcases List.mem_cons.1 h with rfl | h
    · omega
    · have := le_mx h; omega
theorem mx_le : ∀ {l : List Nat} {n : Nat}, (∀ x ∈ l, x ≤ n) → mx l ≤ n
  | [], _, _ => Nat.zero_le _
  | a :: l, n, h => by
    show max a (mx l) ≤ n
    have h1 := h a (List.mem_cons_self ..)
    have h2 := mx_le (l := l) (fun x hx => h x (List.mem_cons_of_mem _ hx))
    omega
/-- The Parts of all these. -/
def kid (e : Ex) : List Ex := (List.range e.len).map e.ps
def kids (L : List Ex) : List Ex := L.flatMap kid
theorem mem_kid {e x : Ex} : x ∈ kid e ↔ ∃ i, i < e.len ∧ x = e.ps i := by
  unfold kid; simp only [List.mem_map, List.mem_range]
  exact ⟨fun ⟨i, h, e⟩ => ⟨i, h, e.symm⟩, fun ⟨i, h, e⟩ => ⟨i, h, e.symm⟩⟩
theorem mem_kids {L : List Ex} {x : Ex} : x ∈ kids L ↔ ∃ e ∈ L, x ∈ kid e := by unfold kids; simp only [List.mem_flatMap]
def dpth (L : List Ex) : Nat := mx ((kids L).map Ex.nest)
def nsum (L : List Ex) : Nat := (L.map Ex.nodes).sum
theorem nsum_append (a b : List Ex) : nsum (a ++ b) = nsum a + nsum b := by unfold nsum; simp
theorem nsum_one (x : Ex) : nsum [x] = x.nodes := by unfold nsum; simp
theorem nodes_pos : ∀ e : Ex, 1 ≤ e.nodes
  | .dm => Nat.le_refl _
  | .mk _ _ _ _ _ _ _ _ _ _ len _ ps _ => by show 1 ≤ 1 + sumTo _ len; omega
theorem len_le_nsum : ∀ L : List Ex, L.length ≤ nsum L
  | [] => Nat.le_refl _
  | e :: L => by
    have h1 := nodes_pos e
    have h2 := len_le_nsum L
    have : nsum (e :: L) = e.nodes + nsum L := by unfold nsum; simp
    simp; omega
theorem nsum_kid {w : World} : ∀ {e : Ex}, e.At w → nsum (kid e) + 1 = e.nodes
  | .dm, h => h.elim
  | .mk _ _ _ _ _ _ _ _ _ _ len _ ps _, _ => by
    show nsum ((List.range len).map ps) + 1 = 1 + sumTo (fun i => (ps i).nodes) len
    have : ∀ n, nsum ((List.range n).map ps) = sumTo (fun i => (ps i).nodes) n := by
      intro n
      induction n with
      | zero => rfl
      | succ n ih => rw [List.range_succ, List.map_append, nsum_append, ih]; simp [nsum, sumTo]
    rw [this]; omega
theorem nsum_kids {w : World} : ∀ {L : List Ex}, (∀ e ∈ L, e.At w) → nsum (kids L) + L.length = nsum L
  | [], _ => rfl
  | e :: L, h => by
    have h1 := nsum_kid (h e (List.mem_cons_self ..))
    have h2 := nsum_kids (L := L) (fun x hx => h x (List.mem_cons_of_mem _ hx))
    have e1 : kids (e :: L) = kid e ++ kids L := rfl
    have e2 : nsum (e :: L) = e.nodes + nsum L := by unfold nsum; simp
    rw [e1, nsum_append, e2]; simp; omega
theorem mxTo_le {f : Nat → Nat} : ∀ {n m : Nat}, (∀ i, i < n → f i ≤ m) → mxTo f n ≤ m
  | 0, _, _ => Nat.zero_le _
  | n + 1, m, h => by
    show max (mxTo f n) (f n) ≤ m
    have := mxTo_le (n := n) (m := m) (fun i hi => h i (by omega))
    have := h n (by omega)
    omega
theorem le_mxTo {f : Nat → Nat} : ∀ {n i : Nat}, i < n → f i ≤ mxTo f n
  | n + 1, i, h => by
    show f i ≤ max (mxTo f n) (f n)
    rcases Nat.lt_or_ge i n with h1 | h1
    · have := le_mxTo (f := f) h1; omega
    · have : i = n := by omega
      subst this; omega
theorem Ex.At.nest_eq {w : World} : ∀ {t : Ex}, t.At w → t.nest = 1 + mxTo (fun i => (t.ps i).nest) t.len
  | .dm, h => h.elim
  | .mk _ _ _ _ _ _ _ _ _ _ _ _ _ _, _ => rfl
theorem mxTo_congr {f g : Nat → Nat} : ∀ {n : Nat}, (∀ i, i < n → f i = g i) → mxTo f n = mxTo g n
  | 0, _ => rfl
  | n + 1, h => by
    show max (mxTo f n) (f n) = max (mxTo g n) (g n)
    rw [mxTo_congr (n := n) (fun i hi => h i (by omega)), h n (by omega)]
/-- Two that have their Parts at one place nest alike. -/
theorem nest_same {w : World} : ∀ (s t : Ex), s.At w → t.At w → s.len = t.len → (0 < s.len → s.b = t.b ∧ s.o = t.o) → s.nest = t.nest := by
  intro s
  induction s using Ex.ind with
  | h s ih =>
    intro t hs ht hl hb
    rw [hs.nest_eq, ht.nest_eq, ← hl]
    congr 1
    refine mxTo_congr fun i hi => ?_
    obtain ⟨eb, eo⟩ := hb (by omega)
    have cs := hs.cells hi
    have ct := ht.cells (hl ▸ hi)
    rw [← eb, ← eo] at ct
    have k15 := cs.c15.symm.trans ct.c15
    simp only [Option.some.injEq, Value.slice.injEq] at k15
    refine ih i hi (t.ps i) (hs.part hi) (ht.part (hl ▸ hi)) k15.2.1 fun hp => ?_
    have a1 := (hs.part hi).nil hp
    have a2 := (ht.part (hl ▸ hi)).nil (by omega)
    have := a1.symm.trans (k15.1.trans a2)
    simp at this
    exact this
/-- No block of its Parts bears a mark. -/
def Ex.Pl (w : World) : Ex → Prop
  | .dm => True
  | .mk _ _ _ _ _ _ _ _ b _ len _ ps _ => (0 < len → PlainAt w b) ∧ ∀ i, i < len → Ex.Pl w (ps i)
theorem Ex.Pl.b {w : World} : ∀ {e : Ex}, e.Pl w → 0 < e.len → PlainAt w e.b
  | .dm, _, h => absurd h (Nat.lt_irrefl 0)
  | .mk _ _ _ _ _ _ _ _ _ _ _ _ _ _, h, hl => h.1 hl
theorem Ex.Pl.part {w : World} : ∀ {e : Ex}, e.Pl w → ∀ {i}, i < e.len → (e.ps i).Pl w
  | .dm, _, _, h => absurd h (Nat.not_lt_zero _)
  | .mk _ _ _ _ _ _ _ _ _ _ _ _ _ _, h, _, hl => h.2 _ hl
theorem PlainAt.kept {w w' : World} {b : Nat} (h : PlainAt w b) (hb : Below w.heap.size w w') : PlainAt w' b := by
  obtain ⟨c, t, h⟩ := h
  refine ⟨c, t, ?_⟩
  rw [hb.block b ?_]; exact h
  rcases Nat.lt_or_ge b w.heap.size with h1 | h1
  · exact h1
  · rw [Array.getElem?_eq_none h1] at h; cases h
theorem Ex.Pl.kept {w w' : World} (hb : Below w.heap.size w w') : ∀ {e : Ex}, e.Pl w → e.Pl w'
  | .dm, _ => trivial
  | .mk _ _ _ _ _ _ _ _ _ _ _ _ _ _, h => ⟨fun hl => (h.1 hl).kept hb, fun i hi => Ex.Pl.kept hb (h.2 i hi)⟩
def ekey (e : Ex) : Addr × Nat := (⟨e.b, e.o, none⟩, e.len)
/-- What is known of the next level behind these nodes. -/
structure NM (done nx : List Ex) : Prop where
  pos : ∀ r ∈ nx, r ∈ done ∧ 0 < r.len
  met : ∀ e ∈ done, 0 < e.len → ekey e ∈ nx.map ekey
  sum : nsum nx ≤ nsum done
theorem NM.nil : NM [] [] := ⟨by simp, by simp, Nat.le_refl _⟩
theorem NM.empty {done nx : List Ex} (h : NM done nx) {x : Ex} (hx : x.len = 0) : NM (done ++ [x]) nx :=
  ⟨fun r hr => ⟨List.mem_append_left _ (h.pos r hr).1, (h.pos r hr).2⟩, fun e he hl => by
    rcases List.mem_append.1 he with h1 | h1
    · exact h.met e h1 hl
    · have : e = x := by simpa using h1
      subst this; omega, by rw [nsum_append]; have := h.sum; omega⟩
theorem NM.old {done nx : List Ex} (h : NM done nx) {x : Ex} (hx : ekey x ∈ nx.map ekey) : NM (done ++ [x]) nx :=
  ⟨fun r hr => ⟨List.mem_append_left _ (h.pos r hr).1, (h.pos r hr).2⟩, fun e he hl => by
    rcases List.mem_append.1 he with h1 | h1
    · exact h.met e h1 hl
    · have : e = x := by simpa using h1
      subst this; exact hx, by rw [nsum_append]; have := h.sum; omega⟩
theorem NM.new {done nx : List Ex} (h : NM done nx) {x : Ex} (hx : 0 < x.len) : NM (done ++ [x]) (nx ++ [x]) :=
  ⟨fun r hr => by
    rcases List.mem_append.1 hr with h1 | h1
    · exact ⟨List.mem_append_left _ (h.pos r h1).1, (h.pos r h1).2⟩
    · have : r = x := by simpa using h1
      subst this; exact ⟨List.mem_append_right _ h1, hx⟩, fun e he hl => by
    rw [List.map_append]
    rcases List.mem_append.1 he with h1 | h1
    · exact List.mem_append_left _ (h.met e h1 hl)
    · exact List.mem_append_right _ (List.mem_map_of_mem h1), by rw [nsum_append, nsum_append]; have := h.sum; omega⟩
theorem NM.deep {w : World} {L nx : List Ex} (h : NM (kids L) nx) (hA : ∀ e ∈ L, e.At w) (hne : kids L ≠ []) : dpth nx + 1 = dpth L := by
  have hk : ∀ x ∈ kids L, x.At w := fun x hx => by
    obtain ⟨e, he, hx⟩ := mem_kids.1 hx
    obtain ⟨i, hi, rfl⟩ := mem_kid.1 hx
    exact (hA e he).part hi
  apply Nat.le_antisymm
  · have h0 : 1 ≤ dpth L := by
      cases hq : kids L with
      | nil => exact absurd hq hne
      | cons x l =>
        have hx : x ∈ kids L := by rw [hq]; exact List.mem_cons_self ..
        have h1 : x.nest ≤ dpth L := le_mx (List.mem_map_of_mem hx)
        rw [(hk x hx).nest_eq] at h1
        omega
    have : dpth nx ≤ dpth L - 1 := by
      refine mx_le fun m hm => ?_
      obtain ⟨y, hy, rfl⟩ := List.mem_map.1 hm
      obtain ⟨r, hr, hy⟩ := mem_kids.1 hy
      obtain ⟨i, hi, rfl⟩ := mem_kid.1 hy
      have hr2 := (h.pos r hr).1
      have h1 : r.nest ≤ dpth L := le_mx (List.mem_map_of_mem hr2)
      rw [(hk r hr2).nest_eq] at h1
      have h2 := le_mxTo (f := fun i => (r.ps i).nest) hi
      omega
    omega
  · refine mx_le fun m hm => ?_
    obtain ⟨x, hx, rfl⟩ := List.mem_map.1 hm
    have e0 : ∀ r ∈ nx, r.nest ≤ dpth nx + 1 := fun r hr => by
      rw [(hk r (h.pos r hr).1).nest_eq]
      have : mxTo (fun i => (r.ps i).nest) r.len ≤ dpth nx := mxTo_le fun i hi => le_mx (List.mem_map_of_mem (mem_kids.2 ⟨r, hr, mem_kid.2 ⟨i, hi, rfl⟩⟩))
      omega
    rcases Nat.eq_zero_or_pos x.len with h1 | h1
    · rw [(hk x hx).nest_eq, h1]; show 1 + 0 ≤ _; omega
    · obtain ⟨r, hr, hq⟩ := List.mem_map.1 (h.met x hx h1)
      have hq' : r.b = x.b ∧ r.o = x.o ∧ r.len = x.len := by
        have : ((⟨r.b, r.o, none⟩ : Addr), r.len) = (⟨x.b, x.o, none⟩, x.len) := hq
        simp only [Prod.mk.injEq, Addr.mk.injEq] at this
        exact ⟨this.1.1, this.1.2.1, this.2⟩
      rw [← nest_same r x (hk r (h.pos r hr).1) (hk x hx) hq'.2.2 (fun _ => ⟨hq'.1, hq'.2.1⟩)]
      exact e0 r hr
end Go.Proofs.YtcoeefckldkbeaaGreatDoor
