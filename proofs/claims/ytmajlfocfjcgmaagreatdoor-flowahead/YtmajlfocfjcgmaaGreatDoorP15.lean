/- Layer 15: numbers of the call's own: one more appended, sorted, compacted. -/
import Derived.Test.YtmajlfocfjcgmaaGreatDoorP14
import Derived.Test.YtmajlfocfjcgmaaGreatDoorP1
import Derived.Sort.OwnSortedInts
import Derived.Lib.OwnBridge
import Derived.Test.YtmajlfocfjcgmaaGreatDoorP9
namespace Go.Proofs.YtmajlfocfjcgmaaGreatDoor
open Go Go.RowKit

theorem wpList_wantF {P : Program} {ops : Array Oper} {rest : List Oper} {o : Oper} {a : Act} {w : World} {Q : Exit → Act → World → Prop} (hw : Region.wanted o (yielded ops a.tmps) = true) (h : o.wp P a w (wpList P ops Q rest) Q) : wpList P ops Q (o :: rest) a w := by
  unfold wpList; rw [if_pos hw]; exact .inl h
theorem wpList_loadW {P : Program} {ops : Array Oper} {rest : List Oper} {op : Oper} {a : Act} {w : World} {Q : Exit → Act → World → Prop} (hw : Region.wanted op (yielded ops a.tmps) = true) (ty : TypeId) (x : Operand) (ho : op.op = .load ty x)
    (b o : Nat) (hx : a.eval x = .pointer (some ⟨b, o, none⟩)) (cs : List Value) (d : TypeDesc) (hc : w.rangeAt b o cs)
    (hu : P.underlying ty = some d) (hd : d.isRow = true) (hi : (P.info? ty).map (·.size) = some cs.length)
    (h : wpList P ops Q rest (a.put op.dst (.agg cs.toArray)) w) : wpList P ops Q (op :: rest) a w :=
  wpList_wantF hw (wp_load_mid ty x ho b o hx cs d hc hu hd hi h)
theorem ivL_len (l : List Int) : (ivL l).length = l.length := by simp [ivL]
theorem ivL_one (l : List Int) : ∀ u ∈ ivL l, u.oneCell' = true := by
  intro u hu
  obtain ⟨a, _, rfl⟩ := List.mem_map.1 hu
  rfl
theorem Tryz.infoI : (Tryz.prog.info? 3).map (fun i => (i.zero, i.size, i.bytes)) = some (some (.int .i64 0), 1, 8) := by kernel_rfl
theorem new_row {w : World} {cs : List Value} {t : TypeId} : ∀ a : Addr, some (⟨w.heap.size, 0, none⟩ : Addr) = some a → ∀ j u, cs[j]? = some u → (w.alloc (.cells cs.toArray t)).cell? (a.add j) = some u := by
  intro a ha j u hj
  cases ha
  rw [adp]
  simp only [Nat.zero_add]
  exact (Blk.new w cs t).cell j hj
/-- One number more. -/
theorem wpList_app1 {w : World} {ops : Array Oper} {rest : List Oper} {o : Oper} {a : Act} {Q : Exit → Act → World → Prop} (hgd : o.guard = none) (s x : Operand)
    (hop : o.op = .call { callee := .builtin .append, args := #[s, x], argTypes := #[44, 44] }) (base : Nat) (v : Value) (l : List Int) (z : Int) (hs : a.eval s = v) (ho : Oi w base v l) (hx : a.eval x = .slice (some ⟨w.heap.size, 0, none⟩) 1 1) (hl : l.length ≤ 1000000) (hb : base ≤ w.heap.size)
    (h : ∀ v' w', Oi w' base v' (l ++ [z]) → w.grownBy w' v.ownBlock → wpList Tryz.prog ops Q rest (a.put o.dst v') w') : wpList Tryz.prog ops Q (o :: rest) a (w.alloc (.cells #[.int .i64 z] 3)) := by
  have hE : (w.alloc (.cells #[.int .i64 z] 3)).ownsRow base 3 1 v l.length (ivL l) := ho.alloc _
  refine wpList_append_any Tryz.underlying44 Tryz.infoI rfl (by decide) hgd s x hop base v l.length (ivL l) hs hE (some ⟨w.heap.size, 0, none⟩) 1 1 [.int .i64 z] hx (fun h => by cases h) rfl (new_row (cs := [.int .i64 z])) (ivL_one [z]) (by unfold maxLen; omega) (by omega) (by rw [alloc_size]; omega) ?_
  intro v' w' h1 h2
  refine h v' w' ?_ ?_
  · unfold Oi
    rw [List.length_append, ivL, List.map_append]
    exact h1
  · have g0 := World.grownBy_alloc w (.cells #[.int .i64 z] 3) v.ownBlock
    refine ⟨h2.os.trans g0.os, h2.tape.trans g0.tape, h2.output.trans g0.output, Nat.le_trans g0.size h2.size, fun k hk hne => ?_⟩
    rw [h2.block k (by rw [alloc_size]; omega) hne]
    exact g0.block k hk hne
theorem sort_oi (w : World) (base : Nat) (v : Value) (l : List Int) (h : Oi w base v l) (hl : l.length ≤ 1000000) : Calls Tryz.prog 31 #[v] w fun e w' => e = .returned (.tuple #[]) ∧ Oi w' base v (l.mergeSort fun x y => decide (x ≤ y)) ∧ w.grownBy w' v.ownBlock := by
  have hlen : (l.mergeSort fun x y => decide (x ≤ y)).length = l.length := List.length_mergeSort l
  have h' := h
  obtain ⟨_, ⟨rfl, h0⟩ | ⟨g, cap, cur, rfl, hb, hg, hn, hc, hs, ht⟩⟩ := h
  · have e : l = [] := List.eq_nil_of_length_eq_zero h0
    subst e
    refine (Tryz.slices_Sort_int_none none 0 w).mono ?_
    rintro e w' ⟨rfl, rfl⟩
    exact ⟨rfl, by rw [List.mergeSort_nil]; exact h', gbr _ _⟩
  · have hH := holds_of_blockI (ss := l) hg (by rw [Nat.mul_one] at ht; exact ht)
    refine (Tryz.slices_Sort_int g 0 cap l w hH (Array.getElem?_eq_some_iff.1 hg).1 (by omega)).mono ?_
    rintro e w' ⟨rfl, n, os, rfl⟩
    refine ⟨rfl, ?_, grownBy_sortedI _⟩
    have := ownsRow_sortedI (n := n) (os := os) (ts := l.mergeSort fun x y => decide (x ≤ y)) hlen hb hg hn hc hs
    unfold Oi
    rw [hlen]
    exact this
theorem compact_le (l : List Int) : (Lib.compact l).length ≤ l.length := by
  show (List.map _ (List.filter _ _)).length ≤ _
  rw [List.length_map]
  exact Nat.le_trans (List.length_filter_le _ _) (by simp)
theorem compact_oi (w : World) (base : Nat) (v : Value) (l : List Int) (h : Oi w base v l) (hl : l.length ≤ 1000000) : Calls Tryz.prog 32 #[v] w fun e w' => ∃ v', e = .returned v' ∧ Oi w' base v' (Lib.compact l) ∧ w.grownBy w' v.ownBlock := by
  have h' := h
  obtain ⟨_, ⟨rfl, h0⟩ | ⟨g, cap, cur, rfl, hb, hg, hn, hc, hs, ht⟩⟩ := h
  · have e : l = [] := List.eq_nil_of_length_eq_zero h0
    subst e
    refine (Tryz.slices_Compact_int_empty none 0 w).mono ?_
    rintro e w' ⟨rfl, rfl⟩
    exact ⟨_, rfl, h', gbr _ _⟩
  · have hH := holds_of_blockI (ss := l) hg (by rw [Nat.mul_one] at ht; exact ht)
    have hcl := compact_le l
    refine (Tryz.slices_Compact_int g 0 cap l w hH (by omega) hn).mono ?_
    rintro e w' ⟨rfl, q, rfl⟩
    refine ⟨_, rfl, ?_, ?_⟩
    · have := Lib.ownsRow_putRow (enc := Value.int .i64) (q := q) (k := (Lib.compact l).length) (ys := Lib.compact l ++ List.replicate (l.length - (Lib.compact l).length) 0) (zs := l) (cap := cap) (g := g) (w := w) (base := base) (e := 3) (n := l.length) h' (by simp; omega) hcl
      rw [List.take_left] at this
      exact this
    · have := grownBy_sortedI (w := w) (g := g) (n := q) (os := #[]) (Lib.compact l ++ List.replicate (l.length - (Lib.compact l).length) 0).toArray
      rw [Sort.grow_empty] at this
      exact this
end Go.Proofs.YtmajlfocfjcgmaaGreatDoor

/- A region that draws its order: all that only reads or moves comes first, wherever it stands; what is left is one behind the other. -/
namespace Go.Proofs.YtmajlfocfjcgmaaGreatDoor
open Go Go.RowKit

section
variable {P : Program} {ops : Array Oper} {Q : Exit → Act → World → Prop}
def isReadM (o : Oper) : Bool := match o.op with
  | .load .. | .fieldAddr .. | .indexAddr .. | .extract .. | .move .. => true
  | _ => false
theorem readM_value {o : Oper} (h : isReadM o = true) (ρ : Operand → Value) (w w' : World) (n : Next) (hr : (execOp ρ o).run P w = .ok n w') : ∃ u, n = .value u := by
  cases ho : o.op
  case load => unfold execOp at hr; rw [ho] at hr; exact run_val hr
  case fieldAddr => unfold execOp at hr; rw [ho] at hr; exact run_val hr
  case indexAddr => unfold execOp at hr; rw [ho] at hr; exact run_val hr
  case extract => unfold execOp at hr; rw [ho] at hr; exact run_val hr
  case move => unfold execOp at hr; rw [ho] at hr; exact ⟨_, (Result.ok.inj hr).1.symm⟩
  all_goals (unfold isReadM at h; rw [ho] at h; cases h)
theorem yieldsIf_of_quietM {S : World → Prop} {o : Oper} {a : Act} {K : Act → Prop} (hr : isReadM o = true) (h : if Region.wanted o (yielded ops a.tmps) then o.quiet P a S K else K (a.put o.dst undef)) : ∃ v, YieldsIf P ops S o v a ∧ K (a.put o.dst v) := by
  by_cases hw : Region.wanted o (yielded ops a.tmps) = true
  · rw [if_pos hw] at h
    obtain ⟨v, h1, h2⟩ := h
    refine ⟨v, Or.inl ⟨hw, fun w hS => ?_⟩, h2⟩
    have h3 := h1 w hS
    unfold Oper.quietAt at h3
    cases hq : (execOp a.eval o).run P w with
    | ok n w' =>
      obtain ⟨u, rfl⟩ := readM_value hr _ _ _ _ hq
      rw [hq] at h3
      simp only [Oper.quietUpon] at h3
      rw [h3.1, h3.2]
    | halt x w' => rw [hq] at h3; simp only [Oper.quietUpon] at h3
  · rw [if_neg hw] at h
    exact ⟨undef, Or.inr ⟨by simpa using hw, rfl⟩, h⟩
def lexM (ops : Array Oper) : List Nat → List Oper → Array Bool → Bool
  | [], [], _ => true
  | i :: js, o :: l, listed => isReadM o && (Region.ready .any ops listed).contains i && Region.free .any ops listed i && lexM ops js l (listed.setIfInBounds i true)
  | _, _, _ => false
theorem wpAnyH_readsM {S : World → Prop} {K : Act → Prop} {rest : Nat} {w : World} (hs : Region.noSelect ops = true) (hQ : ∀ c a d v w, Q (.panic c) (Act.put a d v) w → Q (.panic c) a w) (hS : S w) : ∀ (js : List Nat) (l : List Oper) (listed : Array Bool) (a : Act), (∀ j, j < l.length → ∃ i, js[j]? = some i ∧ ops[i]? = l[j]?) →
    lexM ops js l listed = true → wpQuiet P ops S K l a → (∀ a', K a' → wpAnyH P .any ops Q S rest (listedI js listed) a' w) → wpAnyH P .any ops Q S (js.length + rest) listed a w
  | [], [], _, _, _, _, h, hK => by simpa [listedI] using hK _ h
  | [], _ :: _, _, _, _, hB, _, _ => by simp [lexM] at hB
  | _ :: _, [], _, _, _, hB, _, _ => by simp [lexM] at hB
  | i :: js, o :: l, listed, a, hl, hB, h, hK => by
    have h0 : ops[i]? = some o := by
      obtain ⟨i', h1, h2⟩ := hl 0 (by simp)
      have : i = i' := by simpa using h1
      subst this
      simpa using h2
    simp only [lexM, Bool.and_eq_true] at hB
    obtain ⟨⟨⟨hr, hc⟩, hf⟩, hB'⟩ := hB
    have h' : if Region.wanted o (yielded ops a.tmps) then o.quiet P a S (wpQuiet P ops S K l) else wpQuiet P ops S K l (a.put o.dst undef) := h
    obtain ⟨v, hy, hk⟩ := yieldsIf_of_quietM (ops := ops) hr h'
    rw [show (i :: js).length + rest = (js.length + rest) + 1 by simp; omega]
    exact wpAnyH_take h0 hs hf hc (fun c a w => hQ c a _ _ w) hy hS (wpAnyH_readsM hs hQ hS js l _ _ (fun j hj => by
      obtain ⟨i', h1, h2⟩ := hl (j + 1) (by simp; omega)
      exact ⟨i', by simpa using h1, by simpa using h2⟩) hB' hk hK)
/-- A region that draws: first all that only reads. -/
theorem wp_region_readsM {id : Nat} {a : Act} {w : World} {l : List Oper} (S : World → Prop) (js : List Nat) (rest : Nat) (hm : P.follows .mixedOrders = true) (hlen : l.length = js.length + rest) (hB : (Region.noSelect l.toArray && lexM l.toArray js (js.filterMap (l[·]?)) (Array.replicate l.length false)) = true) (hj : ∀ j, j < (js.filterMap (l[·]?)).length → ∃ i, js[j]? = some i ∧ l.toArray[i]? = (js.filterMap (l[·]?))[j]?)
    (hQ : ∀ c a d v w, Q (.panic c) (Act.put a d v) w → Q (.panic c) a w) (hS : S w.drew)
    (h : wpQuiet P l.toArray (fun u => ∃ x : Wd S, u = x.w) (fun a' => wpAnyH P .any l.toArray Q S rest (listedI js (Array.replicate l.length false)) a' w.drew) (js.filterMap (l[·]?)) a) : (Code.region id l.toArray true).wp P Q a w := by
  simp only [Bool.and_eq_true] at hB
  refine wp_region_held_drew (S := S) hm hS fun hS => ?_
  have e3 : Array.replicate l.toArray.size false = Array.replicate l.length false := by simp
  have e2 : l.toArray.size = js.length + rest := by simpa using hlen
  have eS : (fun u : World => ∃ x : Wd S, u = x.w) = S := by
    funext u; apply propext
    exact ⟨fun ⟨x, hx⟩ => hx ▸ x.2, fun h => ⟨⟨u, h⟩, rfl⟩⟩
  rw [eS] at h
  rw [e3, e2]
  exact wpAnyH_readsM hB.1 hQ hS js _ _ a hj hB.2 h (fun a' h => h)
end
/-- The same where nothing panics. -/
def NoPanM (Q : Exit → Act → World → Prop) (e : Exit) (a : Act) (w : World) : Prop := (∀ c, e ≠ .panic c) ∧ Q e a w
theorem wp_region_readsMN {P : Program} {Q : Exit → Act → World → Prop} {id : Nat} {a : Act} {w : World} {l : List Oper} (S : World → Prop) (js : List Nat) (rest : Nat) (hm : P.follows .mixedOrders = true) (hlen : l.length = js.length + rest) (hB : (Region.noSelect l.toArray && lexM l.toArray js (js.filterMap (l[·]?)) (Array.replicate l.length false)) = true) (hj : ∀ j, j < (js.filterMap (l[·]?)).length → ∃ i, js[j]? = some i ∧ l.toArray[i]? = (js.filterMap (l[·]?))[j]?)
    (hS : S w.drew)
    (h : wpQuiet P l.toArray (fun u => ∃ x : Wd S, u = x.w) (fun a' => wpAnyH P .any l.toArray (NoPanM Q) S rest (listedI js (Array.replicate l.length false)) a' w.drew) (js.filterMap (l[·]?)) a) : (Code.region id l.toArray true).wp P Q a w :=
  Code.wp_mono (fun _ _ _ h => h.2) (wp_region_readsM S js rest hm hlen hB hj (fun c _ _ _ _ h => absurd rfl (h.1 c)) hS h)
end Go.Proofs.YtmajlfocfjcgmaaGreatDoor

/- A region that draws its order: all that reads, moves, reckons or asks for nil comes first, wherever it stands; what is left is one behind the other. -/
namespace Go.Proofs.YtmajlfocfjcgmaaGreatDoor
open Go Go.RowKit

section
variable {P : Program} {ops : Array Oper} {Q : Exit → Act → World → Prop}
theorem bind_val {A : Type} {s : Sem A} {k : A → Sem Next} {w w' : World} {n : Next} (hk : ∀ a u u', (k a).run P u = .ok n u' → ∃ v, n = .value v) (hr : (do k (← s) : Sem Next).run P w = .ok n w') : ∃ u, n = .value u := by
  simp only [Sem.run_bind] at hr
  cases hq : s.run P w with
  | ok a w2 => rw [hq] at hr; simp only [Result.andThen_ok] at hr; exact hk _ _ _ hr
  | halt x w2 => rw [hq] at hr; simp [Result.andThen] at hr
def isReadQ (o : Oper) : Bool := match o.op with
  | .load .. | .fieldAddr .. | .indexAddr .. | .extract .. | .move .. | .binOp .. | .convert .. | .build .. | .slice .. | .nilCheck .. | .unOp .. | .pick .. | .field .. => true
  | _ => false
theorem readQ_value {o : Oper} (h : isReadQ o = true) (ρ : Operand → Value) (w w' : World) (n : Next) (hr : (execOp ρ o).run P w = .ok n w') : ∃ u, n = .value u := by
  cases ho : o.op
  case load => unfold execOp at hr; rw [ho] at hr; exact run_val hr
  case fieldAddr => unfold execOp at hr; rw [ho] at hr; exact run_val hr
  case indexAddr => unfold execOp at hr; rw [ho] at hr; exact run_val hr
  case extract => unfold execOp at hr; rw [ho] at hr; exact run_val hr
  case move => unfold execOp at hr; rw [ho] at hr; exact ⟨_, (Result.ok.inj hr).1.symm⟩
  case binOp => unfold execOp at hr; rw [ho] at hr; exact run_val hr
  case convert => unfold execOp at hr; rw [ho] at hr; exact run_val hr
  case build => unfold execOp at hr; rw [ho] at hr; exact run_val hr
  case slice => unfold execOp at hr; rw [ho] at hr; exact run_val hr
  case unOp => unfold execOp at hr; rw [ho] at hr; exact run_val hr
  case field => unfold execOp at hr; rw [ho] at hr; exact run_val hr
  case pick c x y =>
    unfold execOp at hr; rw [ho] at hr
    simp only [Sem.run_bind] at hr
    cases hq : (asBool (ρ c)).run P w with
    | ok v w2 => rw [hq] at hr; simp only [Result.andThen_ok, Sem.run_pure] at hr; exact ⟨_, (Result.ok.inj hr).1.symm⟩
    | halt x w2 => rw [hq] at hr; simp [Result.andThen] at hr
  case nilCheck x =>
    unfold execOp at hr; rw [ho] at hr
    simp only at hr
    split at hr
    · cases hr
    · cases hr
    · cases hr
    · split at hr
      · cases hr
      · refine bind_val (fun a u u' h1 => ?_) hr
        refine bind_val (fun b v v' h2 => ?_) h1
        split at h2
        · refine bind_val (fun c x x' h3 => ?_) h2
          exact ⟨_, (Result.ok.inj h3).1.symm⟩
        · exact ⟨_, (Result.ok.inj h2).1.symm⟩
      · exact ⟨_, (Result.ok.inj hr).1.symm⟩
    · exact ⟨_, (Result.ok.inj hr).1.symm⟩
  all_goals (unfold isReadQ at h; rw [ho] at h; cases h)
theorem yieldsIf_of_quietQ {S : World → Prop} {o : Oper} {a : Act} {K : Act → Prop} (hr : isReadQ o = true) (h : if Region.wanted o (yielded ops a.tmps) then o.quiet P a S K else K (a.put o.dst undef)) : ∃ v, YieldsIf P ops S o v a ∧ K (a.put o.dst v) := by
  by_cases hw : Region.wanted o (yielded ops a.tmps) = true
  · rw [if_pos hw] at h
    obtain ⟨v, h1, h2⟩ := h
    refine ⟨v, Or.inl ⟨hw, fun w hS => ?_⟩, h2⟩
    have h3 := h1 w hS
    unfold Oper.quietAt at h3
    cases hq : (execOp a.eval o).run P w with
    | ok n w' =>
      obtain ⟨u, rfl⟩ := readQ_value hr _ _ _ _ hq
      rw [hq] at h3
      simp only [Oper.quietUpon] at h3
      rw [h3.1, h3.2]
    | halt x w' => rw [hq] at h3; simp only [Oper.quietUpon] at h3
  · rw [if_neg hw] at h
    exact ⟨undef, Or.inr ⟨by simpa using hw, rfl⟩, h⟩
def lexQ (ops : Array Oper) : List Nat → List Oper → Array Bool → Bool
  | [], [], _ => true
  | i :: js, o :: l, listed => isReadQ o && (Region.ready .any ops listed).contains i && Region.free .any ops listed i && lexQ ops js l (listed.setIfInBounds i true)
  | _, _, _ => false
theorem wpAnyH_readsQ {S : World → Prop} {K : Act → Prop} {rest : Nat} {w : World} (hs : Region.noSelect ops = true) (hQ : ∀ c a d v w, Q (.panic c) (Act.put a d v) w → Q (.panic c) a w) (hS : S w) : ∀ (js : List Nat) (l : List Oper) (listed : Array Bool) (a : Act), (∀ j, j < l.length → ∃ i, js[j]? = some i ∧ ops[i]? = l[j]?) →
    lexQ ops js l listed = true → wpQuiet P ops S K l a → (∀ a', K a' → wpAnyH P .any ops Q S rest (listedI js listed) a' w) → wpAnyH P .any ops Q S (js.length + rest) listed a w
  | [], [], _, _, _, _, h, hK => by simpa [listedI] using hK _ h
  | [], _ :: _, _, _, _, hB, _, _ => by simp [lexQ] at hB
  | _ :: _, [], _, _, _, hB, _, _ => by simp [lexQ] at hB
  | i :: js, o :: l, listed, a, hl, hB, h, hK => by
    have h0 : ops[i]? = some o := by
      obtain ⟨i', h1, h2⟩ := hl 0 (by simp)
      have : i = i' := by simpa using h1
      subst this
      simpa using h2
    simp only [lexQ, Bool.and_eq_true] at hB
    obtain ⟨⟨⟨hr, hc⟩, hf⟩, hB'⟩ := hB
    have h' : if Region.wanted o (yielded ops a.tmps) then o.quiet P a S (wpQuiet P ops S K l) else wpQuiet P ops S K l (a.put o.dst undef) := h
    obtain ⟨v, hy, hk⟩ := yieldsIf_of_quietQ (ops := ops) hr h'
    rw [show (i :: js).length + rest = (js.length + rest) + 1 by simp; omega]
    exact wpAnyH_take h0 hs hf hc (fun c a w => hQ c a _ _ w) hy hS (wpAnyH_readsQ hs hQ hS js l _ _ (fun j hj => by
      obtain ⟨i', h1, h2⟩ := hl (j + 1) (by simp; omega)
      exact ⟨i', by simpa using h1, by simpa using h2⟩) hB' hk hK)
/-- A region that draws: first all that only reads. -/
theorem wp_region_readsQ {id : Nat} {a : Act} {w : World} {l : List Oper} (S : World → Prop) (js : List Nat) (rest : Nat) (hm : P.follows .mixedOrders = true) (hlen : l.length = js.length + rest) (hB : (Region.noSelect l.toArray && lexQ l.toArray js (js.filterMap (l[·]?)) (Array.replicate l.length false)) = true) (hj : ∀ j, j < (js.filterMap (l[·]?)).length → ∃ i, js[j]? = some i ∧ l.toArray[i]? = (js.filterMap (l[·]?))[j]?)
    (hQ : ∀ c a d v w, Q (.panic c) (Act.put a d v) w → Q (.panic c) a w) (hS : S w.drew)
    (h : wpQuiet P l.toArray (fun u => ∃ x : Wd S, u = x.w) (fun a' => wpAnyH P .any l.toArray Q S rest (listedI js (Array.replicate l.length false)) a' w.drew) (js.filterMap (l[·]?)) a) : (Code.region id l.toArray true).wp P Q a w := by
  simp only [Bool.and_eq_true] at hB
  refine wp_region_held_drew (S := S) hm hS fun hS => ?_
  have e3 : Array.replicate l.toArray.size false = Array.replicate l.length false := by simp
  have e2 : l.toArray.size = js.length + rest := by simpa using hlen
  have eS : (fun u : World => ∃ x : Wd S, u = x.w) = S := by
    funext u; apply propext
    exact ⟨fun ⟨x, hx⟩ => hx ▸ x.2, fun h => ⟨⟨u, h⟩, rfl⟩⟩
  rw [eS] at h
  rw [e3, e2]
  exact wpAnyH_readsQ hB.1 hQ hS js _ _ a hj hB.2 h (fun a' h => h)
end
theorem wp_region_readsQN {P : Program} {Q : Exit → Act → World → Prop} {id : Nat} {a : Act} {w : World} {l : List Oper} (S : World → Prop) (js : List Nat) (rest : Nat) (hm : P.follows .mixedOrders = true) (hlen : l.length = js.length + rest) (hB : (Region.noSelect l.toArray && lexQ l.toArray js (js.filterMap (l[·]?)) (Array.replicate l.length false)) = true) (hj : ∀ j, j < (js.filterMap (l[·]?)).length → ∃ i, js[j]? = some i ∧ l.toArray[i]? = (js.filterMap (l[·]?))[j]?)
    (hS : S w.drew)
    (h : wpQuiet P l.toArray (fun u => ∃ x : Wd S, u = x.w) (fun a' => wpAnyH P .any l.toArray (NoPanM Q) S rest (listedI js (Array.replicate l.length false)) a' w.drew) (js.filterMap (l[·]?)) a) : (Code.region id l.toArray true).wp P Q a w :=
  Code.wp_mono (fun _ _ _ h => h.2) (wp_region_readsQ S js rest hm hlen hB hj (fun c _ _ _ _ h => absurd rfl (h.1 c)) hS h)
theorem hj_ofQ {l : List Oper} {js : List Nat} (h : (js.all fun i => decide (i < l.length)) = true) : ∀ j, j < (js.filterMap (l[·]?)).length → ∃ i, js[j]? = some i ∧ l.toArray[i]? = (js.filterMap (l[·]?))[j]? := by
  induction js with
  | nil => intro j hj; simp at hj
  | cons i js ih =>
    simp only [List.all_cons, Bool.and_eq_true, decide_eq_true_eq] at h
    have e : l[i]? = some l[i] := List.getElem?_eq_getElem h.1
    intro j hj
    cases j with
    | zero => exact ⟨i, rfl, by simp [e]⟩
    | succ j =>
      rw [List.filterMap_cons, e] at hj
      obtain ⟨i', h1, h2⟩ := ih h.2 j (by simpa using hj)
      refine ⟨i', by simpa using h1, ?_⟩
      rw [h2, List.filterMap_cons, e]
      simp
/-- In the middle of a region: all that only reads, first. -/
theorem wpAnyH_readsQm {P : Program} {l : List Oper} {Q : Exit → Act → World → Prop} {S : World → Prop} (js : List Nat) {rest fuel : Nat} {listed : Array Bool} {a : Act} {w : World} (hf : fuel = js.length + rest) (hj : (js.all fun i => decide (i < l.length)) = true) (hB : (Region.noSelect l.toArray && lexQ l.toArray js (js.filterMap (l[·]?)) listed) = true) (hS : S w)
    (h : wpQuiet P l.toArray (fun u => ∃ x : Wd S, u = x.w) (fun a' => wpAnyH P .any l.toArray (NoPanM Q) S rest (listedI js listed) a' w) (js.filterMap (l[·]?)) a) : wpAnyH P .any l.toArray (NoPanM Q) S fuel listed a w := by
  simp only [Bool.and_eq_true] at hB
  have eS : (fun u : World => ∃ x : Wd S, u = x.w) = S := by
    funext u; apply propext
    exact ⟨fun ⟨x, hx⟩ => hx ▸ x.2, fun h => ⟨⟨u, h⟩, rfl⟩⟩
  rw [eS] at h
  rw [hf]
  exact wpAnyH_readsQ hB.1 (fun c _ _ _ _ h => absurd rfl (h.1 c)) hS js _ _ a (hj_ofQ hj) hB.2 h (fun a' h => h)
end Go.Proofs.YtmajlfocfjcgmaaGreatDoor

/- A region that draws its order, with one operation m behind all ahead of it and ahead of all behind it: all that only reads ahead of m comes first, in the worlds that meet S; from m on S is not asked. -/
namespace Go.Proofs.YtmajlfocfjcgmaaGreatDoor
open Go Go.RowKit

section
variable {P : Program} {ops : Array Oper} {Q : Exit → Act → World → Prop} {md : Region.Mode} {S : World → Prop} {m : Nat}
/-- What only reads, and len. -/
def isLen (o : Oper) : Bool := match o.op with
  | .call c => (match c.callee with | .builtin .len => true | _ => false)
  | _ => false
def isReadG (o : Oper) : Bool := isReadQ o || isLen o
theorem readG_value {o : Oper} (h : isReadG o = true) (ρ : Operand → Value) (w w' : World) (n : Next) (hr : (execOp ρ o).run P w = .ok n w') : ∃ u, n = .value u := by
  unfold isReadG at h
  rw [Bool.or_eq_true] at h
  rcases h with h | h
  · exact readQ_value h ρ w w' n hr
  · unfold isLen at h
    split at h
    · rename_i c ho
      split at h
      · rename_i hc
        unfold execOp at hr
        simp only [ho, resolve, hc, invoke, builtin, Sem.run_bind, Sem.run_pure, Result.andThen_ok] at hr
        cases hq : (Builtin.len_ c.argTypes o.type (c.args.map ρ)).run P w with
        | ok v w2 => rw [hq] at hr; simp only [Result.andThen_ok] at hr; exact ⟨v, (Result.ok.inj hr).1.symm⟩
        | halt x w2 => rw [hq] at hr; simp [Result.andThen] at hr
      · cases h
    · cases h
theorem yieldsIf_of_quietG {S : World → Prop} {o : Oper} {a : Act} {K : Act → Prop} (hr : isReadG o = true) (h : if Region.wanted o (yielded ops a.tmps) then o.quiet P a S K else K (a.put o.dst undef)) : ∃ v, YieldsIf P ops S o v a ∧ K (a.put o.dst v) := by
  by_cases hw : Region.wanted o (yielded ops a.tmps) = true
  · rw [if_pos hw] at h
    obtain ⟨v, h1, h2⟩ := h
    refine ⟨v, Or.inl ⟨hw, fun w hS => ?_⟩, h2⟩
    have h3 := h1 w hS
    unfold Oper.quietAt at h3
    cases hq : (execOp a.eval o).run P w with
    | ok n w' =>
      obtain ⟨u, rfl⟩ := readG_value hr _ _ _ _ hq
      rw [hq] at h3
      simp only [Oper.quietUpon] at h3
      rw [h3.1, h3.2]
    | halt x w' => rw [hq] at h3; simp only [Oper.quietUpon] at h3
  · rw [if_neg hw] at h
    exact ⟨undef, Or.inr ⟨by simpa using hw, rfl⟩, h⟩
def lexG (ops : Array Oper) : List Nat → List Oper → Array Bool → Bool
  | [], [], _ => true
  | i :: js, o :: l, listed => isReadG o && (Region.ready .any ops listed).contains i && Region.free .any ops listed i && lexG ops js l (listed.setIfInBounds i true)
  | _, _, _ => false
/-- All behind m wait for m. -/
def behB (md : Region.Mode) (ops : Array Oper) (m : Nat) : Bool := (List.range ops.size).all fun t => decide (t ≤ m) || (List.range t).any fun s => decide (m ≤ s) && Region.waitsFor md ops t s
theorem beh_down (hg : behB md ops m = true) {listed : Array Bool} (hS : Shut md ops listed) : ∀ s, m ≤ s → s < ops.size → listed.getD s false = true → listed.getD m false = true := by
  simp only [behB, List.all_eq_true, List.mem_range, Bool.or_eq_true, decide_eq_true_eq, List.any_eq_true, Bool.and_eq_true] at hg
  intro s
  induction s using Nat.strongRecOn with
  | ind s ih =>
    intro h1 h2 h3
    by_cases e : s = m
    · rw [← e]; exact h3
    · rcases hg s h2 with h | ⟨x, hx, h4, h5⟩
      · omega
      · obtain ⟨oj, hj, e, he, hb, hon⟩ := Region.waitsFor_spec h5
        have := hS s oj h3 hj e he hb
        rw [hon] at this
        exact ih x hx h4 (by omega) this
theorem gate_all (hs : Region.sinkB md ops m = true) (hg : behB md ops m = true) {listed : Array Bool} (hS : Shut md ops listed) {j : Nat} {oj : Oper} (hoj : ops[j]? = some oj) (hall : ∀ e ∈ oj.after, Region.binds md e = true → listed.getD e.on false = true) (hj : ¬ j < m) : ∀ i, i < m → listed.getD i false = true := by
  intro i hi
  have hlt := (Array.getElem?_eq_some_iff.1 hoj).1
  have hmlt : m < ops.size := by omega
  have hom : ops[m]? = some ops[m] := Array.getElem?_eq_getElem hmlt
  have key : ∀ e ∈ ops[m].after, Region.binds md e = true → listed.getD e.on false = true := by
    by_cases e : j = m
    · subst e
      rw [hom] at hoj
      cases hoj
      exact hall
    · have hg' := hg
      simp only [behB, List.all_eq_true, List.mem_range, Bool.or_eq_true, decide_eq_true_eq, List.any_eq_true, Bool.and_eq_true] at hg'
      rcases hg' j hlt with h | ⟨x, hx, h4, h5⟩
      · omega
      · obtain ⟨oj', hj', e, he, hb, hon⟩ := Region.waitsFor_spec h5
        rw [hoj] at hj'
        cases hj'
        have h1 := hall e he hb
        rw [hon] at h1
        exact hS m ops[m] (beh_down hg hS x h4 (by omega) h1) hom
  exact sink_all hs hS hom key (m - 1 - i) i (by omega)
def wpAnyG (P : Program) (md : Region.Mode) (ops : Array Oper) (Q : Exit → Act → World → Prop) (S : World → Prop) (m : Nat) : Nat → Array Bool → Act → World → Prop
  | 0, listed, a, w => Region.ready md ops listed = [] ∧ Q .normal a w
  | fuel + 1, listed, a, w =>
    (Region.ready md ops listed = [] → Q .normal a w) ∧
    ∀ i ∈ Region.ready md ops listed, wpOp P ops Q i (fun a' w' => (i < m → S w') ∧ wpAnyG P md ops Q S m fuel (listed.setIfInBounds i true) a' w') a w
/-- Once all ahead of m is done. -/
theorem wpAnyG_of_any : ∀ (fuel : Nat) (listed : Array Bool) (a : Act) (w : World), (∀ i, i < m → listed.getD i true = true) → wpAny P md ops Q fuel listed a w → wpAnyG P md ops Q S m fuel listed a w
  | 0, _, _, _, _, h => h
  | fuel + 1, listed, _, _, hl, h => by
    refine ⟨h.1, fun i hi => ?_⟩
    have hn : ¬ i < m := fun him => by
      have h1 := (mem_ready.1 hi).1
      rw [hl i him] at h1
      cases h1
    refine wpOp_mono (fun a' w' h' => ⟨fun him => absurd him hn, wpAnyG_of_any fuel _ a' w' (fun k hk => ?_) h'⟩) (h.2 i hi)
    rw [getD_set_ne true (by omega)]
    exact hl k hk
theorem wpAny_of_G : ∀ (fuel : Nat) (listed : Array Bool) (a : Act) (w : World), wpAnyG P md ops Q S m fuel listed a w → wpAny P md ops Q fuel listed a w
  | 0, _, _, _, h => h
  | fuel + 1, _, _, _, h => ⟨h.1, fun i hi => wpOp_mono (fun a' w' h' => wpAny_of_G fuel _ a' w' h'.2) (h.2 i hi)⟩
theorem wpAnyG_first {i : Nat} {oi : Oper} {v : Value} (hi : ops[i]? = some oi) (hsel : ∀ (j : Nat) (o : Oper) cs b, ops[j]? = some o → o.op ≠ .select cs b)
    (hQ : ∀ c a w, Q (.panic c) (a.put oi.dst v) w → Q (.panic c) a w) (hsk : Region.sinkB md ops m = true) (hgt : behB md ops m = true) (him : i < m) :
    ∀ (fuel : Nat) (listed : Array Bool) (a : Act) (w : World), Shut md ops listed →
      (∀ j oj, ops[j]? = some oj → j ≠ i → listed.getD j true = false → (∀ e ∈ oj.after, Region.binds md e = true → e.on ≠ i) → oi.apart ops oj = true) →
      i ∈ Region.ready md ops listed → YieldsIf P ops S oi v a → S w →
      wpAnyG P md ops Q S m fuel (listed.setIfInBounds i true) (a.put oi.dst v) w → wpAnyG P md ops Q S m (fuel + 1) listed a w := by
  intro fuel
  induction fuel with
  | zero =>
    intro listed a w _ _ hr hy hS H
    refine ⟨fun h => (by rw [h] at hr; cases hr), fun j hj => ?_⟩
    by_cases hji : j = i
    · subst hji; exact hy.wpOp hi hS ⟨fun _ => hS, H⟩
    · have := ready_mono hj hji
      rw [H.1] at this
      cases this
  | succ fuel ih =>
    intro listed a w hShut hfree hr hy hS H
    refine ⟨fun h => (by rw [h] at hr; cases hr), fun j hj => ?_⟩
    by_cases hji : j = i
    · subst hji; exact hy.wpOp hi hS ⟨fun _ => hS, H⟩
    · have h1 := H.2 j (ready_mono hj hji)
      obtain ⟨hjun, oj, hoj, hall⟩ := mem_ready.1 hj
      have hjm : j < m := by
        apply Classical.byContradiction
        intro hge
        have hun := (mem_ready.1 hr).1
        have hin : listed.getD i false = true := gate_all hsk hgt hShut hoj hall hge i him
        rcases Nat.lt_or_ge i listed.size with h' | h'
        · simp [h'] at hin hun; rw [hin] at hun; cases hun
        · simp [Array.getElem?_eq_none h'] at hin
      have hnot : ∀ e ∈ oj.after, Region.binds md e = true → e.on ≠ i := fun e he hb heq => by
        have h1 := hall e he hb
        have h0 := (mem_ready.1 hr).1
        rw [heq] at h1
        rcases Nat.lt_or_ge i listed.size with h' | h'
        · simp [h'] at h0 h1; rw [h0] at h1; cases h1
        · simp [Array.getElem?_eq_none h'] at h1
      have h2 := wpOp_putIf hoj (hfree j oj hoj hji hjun hnot) (fun cs b => hsel i oi cs b hi) (fun cs b => hsel j oj cs b hoj) hQ hy h1
      have hfree' : ∀ k ok, ops[k]? = some ok → k ≠ i → (listed.setIfInBounds j true).getD k true = false →
          (∀ e ∈ ok.after, Region.binds md e = true → e.on ≠ i) → oi.apart ops ok = true := fun k ok hk hki hun hno => by
        refine hfree k ok hk hki ?_ hno
        by_cases hjk : j = k
        · subst hjk; exact hjun
        · rw [getD_set_ne true hjk] at hun; exact hun
      refine wpOp_mono (fun a' w' h3 => ⟨fun _ => h3.2.1 hjm, ih (listed.setIfInBounds j true) a' w' (hShut.put hj) hfree' (ready_mono hr (Ne.symm hji)) h3.1 (h3.2.1 hjm) ?_⟩) h2
      rw [Array.setIfInBounds_comm _ _ hji]
      exact h3.2.2
def AllReadyG (P : Program) (md : Region.Mode) (ops : Array Oper) (Q : Exit → Act → World → Prop) (S : World → Prop) (m : Nat) (fuel : Nat) (listed : Array Bool) (a : Act) (w : World) (rs : List Nat) : Prop :=
  ∀ i ∈ rs, wpOp P ops Q i (fun a' w' => (i < m → S w') ∧ wpAnyG P md ops Q S m fuel (listed.setIfInBounds i true) a' w') a w
theorem AllReadyG.nil {fuel : Nat} {listed : Array Bool} {a : Act} {w : World} : AllReadyG P md ops Q S m fuel listed a w [] := fun _ h => by cases h
theorem AllReadyG.cons {fuel : Nat} {listed : Array Bool} {a : Act} {w : World} {i : Nat} {o : Oper} {rs : List Nat} (ho : ops[i]? = some o)
    (h : ∀ K' : Act → World → Prop, Hid (∀ a w, (i < m → S w) → wpAnyG P md ops Q S m fuel (listed.setIfInBounds i true) a w → K' a w) → if Region.wanted o (yielded ops a.tmps) = true then Oper.wp P o a w K' Q else K' (a.put o.dst undef) w)
    (hs : AllReadyG P md ops Q S m fuel listed a w rs) : AllReadyG P md ops Q S m fuel listed a w (i :: rs) := fun j hj => by
  rcases List.mem_cons.1 hj with rfl | hj
  · exact wpOp_step ho (fun K' hK => h K' (fun a w hS hW => hK a w ⟨hS, hW⟩))
  · exact hs j hj
theorem wpAnyG_ready {rs : List Nat} {fuel : Nat} {listed : Array Bool} {a : Act} {w : World} (hr : Region.ready md ops listed = rs) (hne : rs ≠ [])
    (h : AllReadyG P md ops Q S m fuel listed a w rs) : wpAnyG P md ops Q S m (fuel + 1) listed a w := ⟨fun h0 => absurd (hr.symm.trans h0) hne, fun i hi => h i (by rw [← hr]; exact hi)⟩
theorem wpAnyG_done {listed : Array Bool} {a : Act} {w : World} (hr : Region.ready md ops listed = []) (h : Q .normal a w) : ∀ fuel, wpAnyG P md ops Q S m fuel listed a w
  | 0 => ⟨hr, h⟩
  | _ + 1 => ⟨fun _ => h, fun i hi => by rw [hr] at hi; cases hi⟩
theorem wpAnyG_readsQ {K : Act → Prop} {rest : Nat} {w : World} (hs : Region.noSelect ops = true) (hQ : ∀ c a d v w, Q (.panic c) (Act.put a d v) w → Q (.panic c) a w) (hsk : Region.sinkB .any ops m = true) (hgt : behB .any ops m = true) (hS : S w) : ∀ (js : List Nat) (l : List Oper) (listed : Array Bool) (a : Act), Shut .any ops listed → (js.all fun i => decide (i < m)) = true → (∀ j, j < l.length → ∃ i, js[j]? = some i ∧ ops[i]? = l[j]?) →
    lexG ops js l listed = true → wpQuiet P ops S K l a → (∀ a', K a' → wpAnyG P .any ops Q S m rest (listedI js listed) a' w) → wpAnyG P .any ops Q S m (js.length + rest) listed a w
  | [], [], _, _, _, _, _, _, h, hK => by simpa [listedI] using hK _ h
  | [], _ :: _, _, _, _, _, _, hB, _, _ => by simp [lexG] at hB
  | _ :: _, [], _, _, _, _, _, hB, _, _ => by simp [lexG] at hB
  | i :: js, o :: l, listed, a, hSh, hjm, hl, hB, h, hK => by
    have h0 : ops[i]? = some o := by
      obtain ⟨i', h1, h2⟩ := hl 0 (by simp)
      have : i = i' := by simpa using h1
      subst this
      simpa using h2
    simp only [lexG, Bool.and_eq_true] at hB
    obtain ⟨⟨⟨hr, hc⟩, hf⟩, hB'⟩ := hB
    simp only [List.all_cons, Bool.and_eq_true, decide_eq_true_eq] at hjm
    have h' : if Region.wanted o (yielded ops a.tmps) then o.quiet P a S (wpQuiet P ops S K l) else wpQuiet P ops S K l (a.put o.dst undef) := h
    obtain ⟨v, hy, hk⟩ := yieldsIf_of_quietG (ops := ops) hr h'
    rw [show (i :: js).length + rest = (js.length + rest) + 1 by simp; omega]
    have hmem : i ∈ Region.ready .any ops listed := by simpa using hc
    exact wpAnyG_first h0 (Region.noSelect_spec hs) (fun c a w => hQ c a _ _ w) hsk hgt hjm.1 _ listed a w hSh (Region.free_spec h0 hf) hmem hy hS (wpAnyG_readsQ hs hQ hsk hgt hS js l _ _ (hSh.put hmem) hjm.2 (fun j hj => by
      obtain ⟨i', h1, h2⟩ := hl (j + 1) (by simp; omega)
      exact ⟨i', by simpa using h1, by simpa using h2⟩) hB' hk hK)
end
/-- Such a region: first all that only reads; number m is the last. -/
theorem wp_region_readsG {P : Program} {Q : Exit → Act → World → Prop} {id : Nat} {a : Act} {w : World} {l : List Oper} (S : World → Prop) (m : Nat) (js : List Nat) (rest : Nat) (hm : P.follows .mixedOrders = true) (hlen : l.length = js.length + rest) (hB : (Region.noSelect l.toArray && lexG l.toArray js (js.filterMap (l[·]?)) (Array.replicate l.length false) && (Region.sinkB .any l.toArray m && behB .any l.toArray m) && (js.all fun i => decide (i < m)) && (js.all fun i => decide (i < l.length))) = true)
    (hS : S w.drew)
    (h : wpQuiet P l.toArray (fun u => ∃ x : Wd S, u = x.w) (fun a' => wpAnyG P .any l.toArray (NoPanM Q) S m rest (listedI js (Array.replicate l.length false)) a' w.drew) (js.filterMap (l[·]?)) a) : (Code.region id l.toArray true).wp P Q a w := by
  refine Code.wp_mono (fun _ _ _ h => h.2) (Q := NoPanM Q) ?_
  simp only [Bool.and_eq_true] at hB
  obtain ⟨⟨⟨⟨h1, h2⟩, h3⟩, h4⟩, h5⟩ := hB
  have h3 := Bool.and_eq_true_iff.2 h3
  have e3 : Array.replicate l.toArray.size false = Array.replicate l.length false := by simp
  have e2 : l.toArray.size = js.length + rest := by simpa using hlen
  have eS : (fun u : World => ∃ x : Wd S, u = x.w) = S := by
    funext u; apply propext
    exact ⟨fun ⟨x, hx⟩ => hx ▸ x.2, fun h => ⟨⟨u, h⟩, rfl⟩⟩
  rw [eS] at h
  refine wp_region_any hm (wpAny_of_G _ _ _ _ (S := S) (m := m) ?_)
  rw [e3, e2]
  exact wpAnyG_readsQ h1 (fun c _ _ _ _ h => absurd rfl (h.1 c)) (Bool.and_eq_true_iff.1 h3).1 (Bool.and_eq_true_iff.1 h3).2 hS js _ _ a (by intro k o hk; simp [Array.getElem?_replicate] at hk; split at hk <;> simp_all) h4 (hj_ofQ h5) h2 h (fun a' h => h)
/-- Once all ahead of m is done: the rest, with no world asked for. -/
theorem wpAnyG_rest {P : Program} {md : Region.Mode} {ops : Array Oper} {Q : Exit → Act → World → Prop} {S : World → Prop} {m fuel : Nat} {listed : Array Bool} {a : Act} {w : World} (hl : ((List.range m).all fun i => listed.getD i true) = true) (h : wpAnyH P md ops Q (fun _ => True) fuel listed a w) : wpAnyG P md ops Q S m fuel listed a w :=
  wpAnyG_of_any _ _ _ _ (fun i hi => List.all_eq_true.1 hl i (List.mem_range.2 hi)) (wpAny_of_held _ _ _ _ h)
end Go.Proofs.YtmajlfocfjcgmaaGreatDoor
