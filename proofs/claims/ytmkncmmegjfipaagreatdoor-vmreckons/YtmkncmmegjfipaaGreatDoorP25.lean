/- Layer 18: a run that ends within so many steps. -/
import Derived.Test.YtmkncmmegjfipaaGreatDoorP23
import Derived.Test.YtmkncmmegjfipaaGreatDoorP24
import Derived.Test.YtmkncmmegjfipaaGreatDoorP14
import Derived.Test.YtmkncmmegjfipaaGreatDoorP18
import Derived.Test.YtmkncmmegjfipaaGreatDoorP15
import Derived.Deep.AppendLies
namespace Go.Proofs.YtmkncmmegjfipaaGreatDoor
open Go Go.RowKit

set_option maxRecDepth 100000 in
set_option maxHeartbeats 4000000 in
theorem toEnd_any {B : Nat} (St : Nat → World → Prop) (μ : World → Nat) (hμ : ∀ k u, St k u → μ u = k) (hK : ∀ k u u', St k u → Below u.heap.size u u' → St k u') (hgoes : ∀ k u, St k u → Calls Tryz.prog 47 #[.pointer (some ⟨B, 0, none⟩)] u fun e u' => e = .returned (.bool (decide (k ≠ 0))) ∧ Below u.heap.size u u')
    (hgo : ∀ k u, St (k + 1) u → Calls Tryz.prog 48 #[.pointer (some ⟨B, 0, none⟩)] u fun e u' => e = .returned (.tuple #[]) ∧ St k u') (n : Nat) (w : World) (hw : St n w) :
    Calls Tryz.prog 26 #[.pointer (some ⟨B, 0, none⟩)] w fun e w' => e = .returned (.tuple #[]) ∧ St 0 w' := by
  have HM := hyd hμ
  have HK := hyd hK
  have HG := hyd hgoes
  have HO := hyd hgo
  have HW := hyd hw
  clear hμ hK hgoes hgo hw
  go_enter Tryz.func26, Tryz.ntmps26
  go_wp2
  go_loopw [2] (fun _ wr => ∃ k, St k wr) (fun _ wr => μ wr)
  case atStart => exact ⟨n, HW.out⟩
  case round =>
    clear HW
    obtain ⟨k, hk⟩ := hrel
    have HS := hyd hk
    clear hk
    have hg := HG.out k wr HS.out
    cases k with
    | zero =>
      go_wp2_with fail
      refine hg.mono ?_
      rintro _ u1 ⟨rfl, hb⟩
      have HS1 := hyd (HK.out _ _ _ HS.out hb)
      clear hg hb HS
      go_wp2
      go_end0
      exact ⟨rfl, HS1.out⟩
    | succ k =>
      go_wp2_with fail
      refine hg.mono ?_
      rintro _ u1 ⟨rfl, hb⟩
      have HS1 := hyd (HK.out _ _ _ HS.out hb)
      have HMU := hyd (HM.out _ _ HS.out)
      clear hg hb
      go_wp2_with fail
      refine (HO.out _ _ HS1.out).mono ?_
      rintro _ u2 ⟨rfl, h2⟩
      have HS2 := hyd h2
      clear h2
      go_wp2
      go_roundw
      case rel => exact ⟨k, HS2.out⟩
      case measure => rw [HMU.out, HM.out _ _ HS2.out]; omega
end Go.Proofs.YtmkncmmegjfipaaGreatDoor

/- Layer 18: how a run has ended, without cells. -/
namespace Go.Proofs.YtmkncmmegjfipaaGreatDoor
open Go Go.RowKit

def zO7 : List Value := [.int .i64 0, .int .i64 0, .int .i64 0, .slice none 0 0, .slice none 0 0, .slice none 0 0, .int .i64 0]
def Mc.out (m : Mc) (k n : Int) : List Value := [.int .i64 m.en, .int .i64 k, .int .i64 n, .slice none 0 0, m.tv, m.cv, .int .i64 m.steps]
set_option maxRecDepth 100000 in
set_option maxHeartbeats 4000000 in
theorem outcome_leaf {cl : Kl} {w0 : World} {B : Nat} {ρ : Nat → Nat} {m : Mc} {w : World} (k n : Int) (h : MAt cl w0 B ρ m w) (hce : m.ce = []) (hla : m.la = .lf k n) : Calls Tryz.prog 27 #[.pointer (some ⟨B, 0, none⟩)] w fun e w' => e = .returned (.agg (m.out k n).toArray) ∧ Below w.heap.size w w' := by
  obtain ⟨ao, cap, ev⟩ := owform h.c.own
  rw [hce] at ev
  obtain ⟨aot, capt, evt⟩ := owform h.t.own
  have HK := hyd (Blk.new w zO7 42)
  have HB := hyd (below_alloc w (.cells zO7.toArray 42))
  have hM := h.kept (below_alloc w (.cells zO7.toArray 42))
  have c0 := hM.blk.cell 0 (v := .slice ao 0 cap) (by rw [← show m.cv = .slice ao 0 cap from ev]; rfl)
  have c1 := hM.blk.cell 1 (v := .slice aot m.tr.length capt) (by rw [← evt]; rfl)
  have c3 := hM.blk.cell 3 rfl
  have c4 := hM.blk.cell 4 rfl
  have HLA := hyd (show (w.alloc (.cells zO7.toArray 42)).rangeAt B 5 [.int .i64 k, .int .i64 n, .slice none 0 0] from fun j v hj => by
    refine hM.blk.cell (5 + j) ?_
    match j with
    | 0 => rw [← hj]; show some (Value.int .i64 m.la.k) = _; rw [hla]; rfl
    | 1 => rw [← hj]; show some (Value.int .i64 m.la.m) = _; rw [hla]; rfl
    | 2 => rw [← hj]; show some (Value.slice m.la.ao m.la.len m.la.cap) = _; rw [hla]; rfl
    | j + 3 => simp at hj)
  have HOUT : Hid (m.out k n = [.int .i64 m.en, .int .i64 k, .int .i64 n, .slice none 0 0, .slice aot m.tr.length capt, .slice ao 0 cap, .int .i64 m.steps]) := by
    show _ = _
    unfold Mc.out
    rw [evt, show m.cv = .slice ao 0 cap from ev]
  clear h hM hce hla ev evt
  generalize m.out k n = OUT at *
  go_enter Tryz.func27, Tryz.ntmps27
  go_upto_region 1 with fail
  unfold zO7 at HK HB HLA c0 c1 c3 c4
  have c0 : (w.alloc (.cells #[.int .i64 0, .int .i64 0, .int .i64 0, .slice none 0 0, .slice none 0 0, .slice none 0 0, .int .i64 0] 42)).cell? ⟨B, 0, none⟩ = some (.slice ao 0 cap) := c0
  generalize w.alloc (.cells #[.int .i64 0, .int .i64 0, .int .i64 0, .slice none 0 0, .slice none 0 0, .slice none 0 0, .int .i64 0] 42) = u1 at *
  generalize hBZ : w.heap.size = BZ at *
  have HBZ := hyd hBZ
  clear hBZ
  go_wp2
  go_loopw [10] (fun i wr => i = .int .i64 0 ∧ wr = u1) (fun _ _ => 0)
  case atStart => exact ⟨rfl, rfl⟩
  case round =>
    obtain ⟨rfl, rfl⟩ := hrel
    go_upto_region 6 with fail
    have q0 := fun x : Gr wr => x.cell c0
    have q1 := fun x : Gr wr => x.cell c1
    have q3 := fun x : Gr wr => x.cell c3
    have q4 := fun x : Gr wr => x.cell c4
    have rL : ∀ u, (∃ x : Gr wr, u = x.w) → u.rangeAt B 5 [.int .i64 k, .int .i64 n, .slice none 0 0] := fun _ hC => by obtain ⟨x, rfl⟩ := hC; exact range_kept HLA.out (Gr.bl x)
    have hNE : Nonempty (Gr wr) := ⟨⟨_, Below.refl _ _⟩⟩
    have hO := fun x : Gr wr => ownV_leaf k n x.w
    refine wp_region_gr_tail 21 (by kernel_rfl) (by kernel_rfl) ?_
    simp only [List.take, List.drop]
    iterate 7 go_big_quiet_step (fail)
    go_big_quiet_want
    refine quiet_load_rowV 31 (.tmp 35) rfl B 5 (by kernel_rfl) [.int .i64 k, .int .i64 n, .slice none 0 0] _ rL Tryz.underlying31 rfl (by kernel_rfl) ?_
    simp only [Act.put, List.setIfInBounds_toArray, List.set_cons_succ, List.set_cons_zero]
    go_big_quiet_on
    go_big_quiet_step ((go_at_call 50; exact Calls.gr _ (hO _)))
    iterate 12 go_big_quiet_step (fail)
    refine wpQuiet_nil ?_
    rintro u2 ⟨xg, rfl⟩
    have Bg := xg.bl
    generalize xg.w = u2 at Bg ⊢
    have HK2 := hyd (HK.out.kept Bg)
    have HB2 := hyd (show Below BZ w u2 from by have h1 : Below w.heap.size w wr := by { rw [HBZ.out]; exact HB.out }; have h2 := Below.next h1 Bg; rw [HBZ.out] at h2; exact h2)
    have hb1 : ([.int .i64 m.en, .int .i64 k, .int .i64 n, .slice none 0 0, .slice aot m.tr.length capt, .slice ao 0 cap, .int .i64 m.steps] : List Value).all (·.oneCell') = true := by simp [Value.oneCell']
    clear xg Bg q0 q1 q3 q4 rL hNE hO c0 c1 c3 c4 HLA HK HB
    go_wp2_with (refine wpList_store_seg rfl rfl 42 (.tmp 2) (.tmp 50) rfl BZ 0 [.int .i64 m.en, .int .i64 k, .int .i64 n, .slice none 0 0, .slice aot m.tr.length capt, .slice ao 0 cap, .int .i64 m.steps] (by kernel_rfl) (by kernel_rfl) hb1 HK2.out (by show 0 + 7 ≤ 7; omega) (by kernel_rfl) ?_; intro u3 W3)
    have W3 : WroteB u2 u3 BZ [.int .i64 m.en, .int .i64 k, .int .i64 n, .slice none 0 0, .slice aot m.tr.length capt, .slice ao 0 cap, .int .i64 m.steps] 42 := W3
    rw [← HOUT.out] at W3
    exact bodyPost_ret (v := .agg OUT.toArray) (results_rowV (vs := OUT) Tryz.underlying42 rfl (by rw [HOUT.out]; kernel_rfl) Tryz.results27 rfl W3.blk.range) rfl ⟨rfl, by rw [HBZ.out]; exact W3.below (Nat.le_refl _) HB2.out⟩
end Go.Proofs.YtmkncmmegjfipaaGreatDoor

/- Layer 13: what is put into a pool: what was there stays, and it grows by no more than there are nodes. -/
namespace Go.Proofs.YtmkncmmegjfipaaGreatDoor
open Go.RowKit

theorem itr_pre {f : Nat → List Ty → List Ty} (hf : ∀ i R (a : Nat) (s : Ty), R[a]? = some s → (f i R)[a]? = some s) : ∀ (j : Nat) (R : List Ty) (a : Nat) (s : Ty), R[a]? = some s → (itr f j R)[a]? = some s
  | 0, _, _, _, h => h
  | j + 1, R, a, s, h => hf j _ a s (itr_pre hf j R a s h)
theorem putT_pre : ∀ (t : Ty) (R : List Ty) (a : Nat) (s : Ty), R[a]? = some s → (putT t R)[a]? = some s
  | .dm, _, _, _, h => h
  | .mk k l hh e ao b o len cap ps, R, a, s, h => by
    have h1 := itr_pre (f := fun i => putT (ps i)) (fun i R a s => putT_pre (ps i) R a s) len R a s h
    rw [putT]
    split
    · exact h1
    · exact pre_get h1
theorem itr_len {f : Nat → List Ty → List Ty} {c : Nat → Nat} (hf : ∀ i R, (f i R).length ≤ R.length + c i) : ∀ (j : Nat) (R : List Ty), (itr f j R).length ≤ R.length + sumTo c j
  | 0, R => by simp [itr, sumTo]
  | j + 1, R => by
    have h1 := hf j (itr f j R)
    have h2 := itr_len hf j R
    show (f j (itr f j R)).length ≤ R.length + (sumTo c j + c j)
    omega
theorem putT_len : ∀ (t : Ty) (R : List Ty), (putT t R).length ≤ R.length + t.nodes
  | .dm, R => by simp [putT]
  | .mk k l hh e ao b o len cap ps, R => by
    have h1 := itr_len (f := fun i => putT (ps i)) (c := fun i => (ps i).nodes) (fun i R => putT_len (ps i) R) len R
    have h2 : (Ty.mk k l hh e ao b o len cap ps).nodes = 1 + sumTo (fun i => (ps i).nodes) len := rfl
    rw [putT]
    split
    · omega
    · rw [List.length_append]
      have : [Ty.mk k l hh e ao b o len cap ps].length = 1 := rfl
      omega
/-- A Part's place, wherever. -/
def PrtAt (R : List Ty) (t : Ty) (x : Int) : Prop := ∃ (a : Nat) (s : Ty), x = a ∧ R[a]? = some s ∧ s.same t = true
theorem PrtAt.pre {R R' : List Ty} {t : Ty} {x : Int} (h : PrtAt R t x) (hR : ∀ (a : Nat) (s : Ty), R[a]? = some s → R'[a]? = some s) : PrtAt R' t x := by
  obtain ⟨a, s, h1, h2, h3⟩ := h
  exact ⟨a, s, h1, hR a s h2, h3⟩
theorem PrtAt.prt {R : List Ty} {t : Ty} {j : Nat} {x : Int} (h1 : j < t.len → PrtAt R (t.ps j) x) (h2 : ¬ j < t.len → x = -1) : Prt R R.length t j x :=
  ⟨fun hj => by obtain ⟨a, s, e, hs, hss⟩ := h1 hj; exact ⟨a, s, e, (List.getElem?_eq_some_iff.1 hs).1, hs, hss⟩, h2⟩
theorem takeT_len (R : List Ty) (t : Ty) : (takeT R t).length ≤ R.length + t.nodes := by
  unfold takeT
  split
  · omega
  · exact putT_len t R
end Go.Proofs.YtmkncmmegjfipaaGreatDoor

/- A region that draws its order, with one operation m behind all ahead of it and ahead of all behind it: all that only reads ahead of m comes first, in the worlds that meet S; from m on S is not asked. -/
namespace Go.Proofs.YtmkncmmegjfipaaGreatDoor
open Go Go.RowKit

section
variable {P : Program} {ops : Array Oper} {Q : Exit → Act → World → Prop} {md : Region.Mode} {S : World → Prop} {m : Nat}
/-- What only reads, and len. -/
def isLen (o : Oper) : Bool := match o.op with
  | .call c => (match c.callee with | .builtin .len => true | _ => false)
  | _ => false
def isReadG (o : Oper) : Bool := isReadQ o || isLen o
theorem readG_value {o : Oper} (h : isReadG o = true) (ρ : Operand → Value) (w w' : World) (n : Next) (hr : (execOp ρ o).run P w = .ok n w') : ∃ u, n = .value u := by
  unfold isReadG at h
  rw [Bool.or_eq_true] at h
  rcases h with h | h
  · exact readQ_value h ρ w w' n hr
  · unfold isLen at h
    split at h
    · rename_i c ho
      split at h
      · rename_i hc
        unfold execOp at hr
        simp only [ho, resolve, hc, invoke, builtin, Sem.run_bind, Sem.run_pure, Result.andThen_ok] at hr
        cases hq : (Builtin.len_ c.argTypes o.type (c.args.map ρ)).run P w with
        | ok v w2 => rw [hq] at hr; simp only [Result.andThen_ok] at hr; exact ⟨v, (Result.ok.inj hr).1.symm⟩
        | halt x w2 => rw [hq] at hr; simp [Result.andThen] at hr
      · cases h
    · cases h
theorem yieldsIf_of_quietG {S : World → Prop} {o : Oper} {a : Act} {K : Act → Prop} (hr : isReadG o = true) (h : if Region.wanted o (yielded ops a.tmps) then o.quiet P a S K else K (a.put o.dst undef)) : ∃ v, YieldsIf P ops S o v a ∧ K (a.put o.dst v) := by
  by_cases hw : Region.wanted o (yielded ops a.tmps) = true
  · rw [if_pos hw] at h
    obtain ⟨v, h1, h2⟩ := h
    refine ⟨v, Or.inl ⟨hw, fun w hS => ?_⟩, h2⟩
    have h3 := h1 w hS
    unfold Oper.quietAt at h3
    cases hq : (execOp a.eval o).run P w with
    | ok n w' =>
      obtain ⟨u, rfl⟩ := readG_value hr _ _ _ _ hq
      rw [hq] at h3
      simp only [Oper.quietUpon] at h3
      rw [h3.1, h3.2]
    | halt x w' => rw [hq] at h3; simp only [Oper.quietUpon] at h3
  · rw [if_neg hw] at h
    exact ⟨undef, Or.inr ⟨by simpa using hw, rfl⟩, h⟩
def lexG (ops : Array Oper) : List Nat → List Oper → Array Bool → Bool
  | [], [], _ => true
  | i :: js, o :: l, listed => isReadG o && (Region.ready .any ops listed).contains i && Region.free .any ops listed i && lexG ops js l (listed.setIfInBounds i true)
  | _, _, _ => false
/-- All behind m wait for m. -/
def behB (md : Region.Mode) (ops : Array Oper) (m : Nat) : Bool := (List.range ops.size).all fun t => decide (t ≤ m) || (List.range t).any fun s => decide (m ≤ s) && Region.waitsFor md ops t s
theorem beh_down (hg : behB md ops m = true) {listed : Array Bool} (hS : Shut md ops listed) : ∀ s, m ≤ s → s < ops.size → listed.getD s false = true → listed.getD m false = true := by
  simp only [behB, List.all_eq_true, List.mem_range, Bool.or_eq_true, decide_eq_true_eq, List.any_eq_true, Bool.and_eq_true] at hg
  intro s
  induction s using Nat.strongRecOn with
  | ind s ih =>
    intro h1 h2 h3
    by_cases e : s = m
    · rw [← e]; exact h3
    · rcases hg s h2 with h | ⟨x, hx, h4, h5⟩
      · omega
      · obtain ⟨oj, hj, e, he, hb, hon⟩ := Region.waitsFor_spec h5
        have := hS s oj h3 hj e he hb
        rw [hon] at this
        exact ih x hx h4 (by omega) this
theorem gate_all (hs : Region.sinkB md ops m = true) (hg : behB md ops m = true) {listed : Array Bool} (hS : Shut md ops listed) {j : Nat} {oj : Oper} (hoj : ops[j]? = some oj) (hall : ∀ e ∈ oj.after, Region.binds md e = true → listed.getD e.on false = true) (hj : ¬ j < m) : ∀ i, i < m → listed.getD i false = true := by
  intro i hi
  have hlt := (Array.getElem?_eq_some_iff.1 hoj).1
  have hmlt : m < ops.size := by omega
  have hom : ops[m]? = some ops[m] := Array.getElem?_eq_getElem hmlt
  have key : ∀ e ∈ ops[m].after, Region.binds md e = true → listed.getD e.on false = true := by
    by_cases e : j = m
    · subst e
      rw [hom] at hoj
      cases hoj
      exact hall
    · have hg' := hg
      simp only [behB, List.all_eq_true, List.mem_range, Bool.or_eq_true, decide_eq_true_eq, List.any_eq_true, Bool.and_eq_true] at hg'
      rcases hg' j hlt with h | ⟨x, hx, h4, h5⟩
      · omega
      · obtain ⟨oj', hj', e, he, hb, hon⟩ := Region.waitsFor_spec h5
        rw [hoj] at hj'
        cases hj'
        have h1 := hall e he hb
        rw [hon] at h1
        exact hS m ops[m] (beh_down hg hS x h4 (by omega) h1) hom
  exact sink_all hs hS hom key (m - 1 - i) i (by omega)
def wpAnyG (P : Program) (md : Region.Mode) (ops : Array Oper) (Q : Exit → Act → World → Prop) (S : World → Prop) (m : Nat) : Nat → Array Bool → Act → World → Prop
  | 0, listed, a, w => Region.ready md ops listed = [] ∧ Q .normal a w
  | fuel + 1, listed, a, w =>
    (Region.ready md ops listed = [] → Q .normal a w) ∧
    ∀ i ∈ Region.ready md ops listed, wpOp P ops Q i (fun a' w' => (i < m → S w') ∧ wpAnyG P md ops Q S m fuel (listed.setIfInBounds i true) a' w') a w
/-- Once all ahead of m is done. -/
theorem wpAnyG_of_any : ∀ (fuel : Nat) (listed : Array Bool) (a : Act) (w : World), (∀ i, i < m → listed.getD i true = true) → wpAny P md ops Q fuel listed a w → wpAnyG P md ops Q S m fuel listed a w
  | 0, _, _, _, _, h => h
  | fuel + 1, listed, _, _, hl, h => by
    refine ⟨h.1, fun i hi => ?_⟩
    have hn : ¬ i < m := fun him => by
      have h1 := (mem_ready.1 hi).1
      rw [hl i him] at h1
      cases h1
    refine wpOp_mono (fun a' w' h' => ⟨fun him => absurd him hn, wpAnyG_of_any fuel _ a' w' (fun k hk => ?_) h'⟩) (h.2 i hi)
    rw [getD_set_ne true (by omega)]
    exact hl k hk
theorem wpAny_of_G : ∀ (fuel : Nat) (listed : Array Bool) (a : Act) (w : World), wpAnyG P md ops Q S m fuel listed a w → wpAny P md ops Q fuel listed a w
  | 0, _, _, _, h => h
  | fuel + 1, _, _, _, h => ⟨h.1, fun i hi => wpOp_mono (fun a' w' h' => wpAny_of_G fuel _ a' w' h'.2) (h.2 i hi)⟩
theorem wpAnyG_first {i : Nat} {oi : Oper} {v : Value} (hi : ops[i]? = some oi) (hsel : ∀ (j : Nat) (o : Oper) cs b, ops[j]? = some o → o.op ≠ .select cs b)
    (hQ : ∀ c a w, Q (.panic c) (a.put oi.dst v) w → Q (.panic c) a w) (hsk : Region.sinkB md ops m = true) (hgt : behB md ops m = true) (him : i < m) :
    ∀ (fuel : Nat) (listed : Array Bool) (a : Act) (w : World), Shut md ops listed →
      (∀ j oj, ops[j]? = some oj → j ≠ i → listed.getD j true = false → (∀ e ∈ oj.after, Region.binds md e = true → e.on ≠ i) → oi.apart ops oj = true) →
      i ∈ Region.ready md ops listed → YieldsIf P ops S oi v a → S w →
      wpAnyG P md ops Q S m fuel (listed.setIfInBounds i true) (a.put oi.dst v) w → wpAnyG P md ops Q S m (fuel + 1) listed a w := by
  intro fuel
  induction fuel with
  | zero =>
    intro listed a w _ _ hr hy hS H
    refine ⟨fun h => (by rw [h] at hr; cases hr), fun j hj => ?_⟩
    by_cases hji : j = i
    · subst hji; exact hy.wpOp hi hS ⟨fun _ => hS, H⟩
    · have := ready_mono hj hji
      rw [H.1] at this
      cases this
  | succ fuel ih =>
    intro listed a w hShut hfree hr hy hS H
    refine ⟨fun h => (by rw [h] at hr; cases hr), fun j hj => ?_⟩
    by_cases hji : j = i
    · subst hji; exact hy.wpOp hi hS ⟨fun _ => hS, H⟩
    · have h1 := H.2 j (ready_mono hj hji)
      obtain ⟨hjun, oj, hoj, hall⟩ := mem_ready.1 hj
      have hjm : j < m := by
        apply Classical.byContradiction
        intro hge
        have hun := (mem_ready.1 hr).1
        have hin : listed.getD i false = true := gate_all hsk hgt hShut hoj hall hge i him
        rcases Nat.lt_or_ge i listed.size with h' | h'
        · simp [h'] at hin hun; rw [hin] at hun; cases hun
        · simp [Array.getElem?_eq_none h'] at hin
      have hnot : ∀ e ∈ oj.after, Region.binds md e = true → e.on ≠ i := fun e he hb heq => by
        have h1 := hall e he hb
        have h0 := (mem_ready.1 hr).1
        rw [heq] at h1
        rcases Nat.lt_or_ge i listed.size with h' | h'
        · simp [h'] at h0 h1; rw [h0] at h1; cases h1
        · simp [Array.getElem?_eq_none h'] at h1
      have h2 := wpOp_putIf hoj (hfree j oj hoj hji hjun hnot) (fun cs b => hsel i oi cs b hi) (fun cs b => hsel j oj cs b hoj) hQ hy h1
      have hfree' : ∀ k ok, ops[k]? = some ok → k ≠ i → (listed.setIfInBounds j true).getD k true = false →
          (∀ e ∈ ok.after, Region.binds md e = true → e.on ≠ i) → oi.apart ops ok = true := fun k ok hk hki hun hno => by
        refine hfree k ok hk hki ?_ hno
        by_cases hjk : j = k
        · subst hjk; exact hjun
        · rw [getD_set_ne true hjk] at hun; exact hun
      refine wpOp_mono (fun a' w' h3 => ⟨fun _ => h3.2.1 hjm, ih (listed.setIfInBounds j true) a' w' (hShut.put hj) hfree' (ready_mono hr (Ne.symm hji)) h3.1 (h3.2.1 hjm) ?_⟩) h2
      rw [Array.setIfInBounds_comm _ _ hji]
      exact h3.2.2
def AllReadyG (P : Program) (md : Region.Mode) (ops : Array Oper) (Q : Exit → Act → World → Prop) (S : World → Prop) (m : Nat) (fuel : Nat) (listed : Array Bool) (a : Act) (w : World) (rs : List Nat) : Prop :=
  ∀ i ∈ rs, wpOp P ops Q i (fun a' w' => (i < m → S w') ∧ wpAnyG P md ops Q S m fuel (listed.setIfInBounds i true) a' w') a w
theorem AllReadyG.nil {fuel : Nat} {listed : Array Bool} {a : Act} {w : World} : AllReadyG P md ops Q S m fuel listed a w [] := fun _ h => by cases h
theorem AllReadyG.cons {fuel : Nat} {listed : Array Bool} {a : Act} {w : World} {i : Nat} {o : Oper} {rs : List Nat} (ho : ops[i]? = some o)
    (h : ∀ K' : Act → World → Prop, Hid (∀ a w, (i < m → S w) → wpAnyG P md ops Q S m fuel (listed.setIfInBounds i true) a w → K' a w) → if Region.wanted o (yielded ops a.tmps) = true then Oper.wp P o a w K' Q else K' (a.put o.dst undef) w)
    (hs : AllReadyG P md ops Q S m fuel listed a w rs) : AllReadyG P md ops Q S m fuel listed a w (i :: rs) := fun j hj => by
  rcases List.mem_cons.1 hj with rfl | hj
  · exact wpOp_step ho (fun K' hK => h K' (fun a w hS hW => hK a w ⟨hS, hW⟩))
  · exact hs j hj
theorem wpAnyG_ready {rs : List Nat} {fuel : Nat} {listed : Array Bool} {a : Act} {w : World} (hr : Region.ready md ops listed = rs) (hne : rs ≠ [])
    (h : AllReadyG P md ops Q S m fuel listed a w rs) : wpAnyG P md ops Q S m (fuel + 1) listed a w := ⟨fun h0 => absurd (hr.symm.trans h0) hne, fun i hi => h i (by rw [← hr]; exact hi)⟩
theorem wpAnyG_done {listed : Array Bool} {a : Act} {w : World} (hr : Region.ready md ops listed = []) (h : Q .normal a w) : ∀ fuel, wpAnyG P md ops Q S m fuel listed a w
  | 0 => ⟨hr, h⟩
  | _ + 1 => ⟨fun _ => h, fun i hi => by rw [hr] at hi; cases hi⟩
theorem wpAnyG_readsQ {K : Act → Prop} {rest : Nat} {w : World} (hs : Region.noSelect ops = true) (hQ : ∀ c a d v w, Q (.panic c) (Act.put a d v) w → Q (.panic c) a w) (hsk : Region.sinkB .any ops m = true) (hgt : behB .any ops m = true) (hS : S w) : ∀ (js : List Nat) (l : List Oper) (listed : Array Bool) (a : Act), Shut .any ops listed → (js.all fun i => decide (i < m)) = true → (∀ j, j < l.length → ∃ i, js[j]? = some i ∧ ops[i]? = l[j]?) →
    lexG ops js l listed = true → wpQuiet P ops S K l a → (∀ a', K a' → wpAnyG P .any ops Q S m rest (listedI js listed) a' w) → wpAnyG P .any ops Q S m (js.length + rest) listed a w
  | [], [], _, _, _, _, _, _, h, hK => by simpa [listedI] using hK _ h
  | [], _ :: _, _, _, _, _, _, hB, _, _ => by simp [lexG] at hB
  | _ :: _, [], _, _, _, _, _, hB, _, _ => by simp [lexG] at hB
  | i :: js, o :: l, listed, a, hSh, hjm, hl, hB, h, hK => by
    have h0 : ops[i]? = some o := by
      obtain ⟨i', h1, h2⟩ := hl 0 (by simp)
      have : i = i' := by simpa using h1
      subst this
      simpa using h2
    simp only [lexG, Bool.and_eq_true] at hB
    obtain ⟨⟨⟨hr, hc⟩, hf⟩, hB'⟩ := hB
    simp only [List.all_cons, Bool.and_eq_true, decide_eq_true_eq] at hjm
    have h' : if Region.wanted o (yielded ops a.tmps) then o.quiet P a S (wpQuiet P ops S K l) else wpQuiet P ops S K l (a.put o.dst undef) := h
    obtain ⟨v, hy, hk⟩ := yieldsIf_of_quietG (ops := ops) hr h'
    rw [show (i :: js).length + rest = (js.length + rest) + 1 by simp; omega]
    have hmem : i ∈ Region.ready .any ops listed := by simpa using hc
    exact wpAnyG_first h0 (Region.noSelect_spec hs) (fun c a w => hQ c a _ _ w) hsk hgt hjm.1 _ listed a w hSh (Region.free_spec h0 hf) hmem hy hS (wpAnyG_readsQ hs hQ hsk hgt hS js l _ _ (hSh.put hmem) hjm.2 (fun j hj => by
      obtain ⟨i', h1, h2⟩ := hl (j + 1) (by simp; omega)
      exact ⟨i', by simpa using h1, by simpa using h2⟩) hB' hk hK)
end
/-- Such a region: first all that only reads; number m is the last. -/
theorem wp_region_readsG {P : Program} {Q : Exit → Act → World → Prop} {id : Nat} {a : Act} {w : World} {l : List Oper} (S : World → Prop) (m : Nat) (js : List Nat) (rest : Nat) (hm : P.follows .mixedOrders = true) (hlen : l.length = js.length + rest) (hB : (Region.noSelect l.toArray && lexG l.toArray js (js.filterMap (l[·]?)) (Array.replicate l.length false) && (Region.sinkB .any l.toArray m && behB .any l.toArray m) && (js.all fun i => decide (i < m)) && (js.all fun i => decide (i < l.length))) = true)
    (hS : S w.drew)
    (h : wpQuiet P l.toArray (fun u => ∃ x : Wd S, u = x.w) (fun a' => wpAnyG P .any l.toArray (NoPanM Q) S m rest (listedI js (Array.replicate l.length false)) a' w.drew) (js.filterMap (l[·]?)) a) : (Code.region id l.toArray true).wp P Q a w := by
  refine Code.wp_mono (fun _ _ _ h => h.2) (Q := NoPanM Q) ?_
  simp only [Bool.and_eq_true] at hB
  obtain ⟨⟨⟨⟨h1, h2⟩, h3⟩, h4⟩, h5⟩ := hB
  have h3 := Bool.and_eq_true_iff.2 h3
  have e3 : Array.replicate l.toArray.size false = Array.replicate l.length false := by simp
  have e2 : l.toArray.size = js.length + rest := by simpa using hlen
  have eS : (fun u : World => ∃ x : Wd S, u = x.w) = S := by
    funext u; apply propext
    exact ⟨fun ⟨x, hx⟩ => hx ▸ x.2, fun h => ⟨⟨u, h⟩, rfl⟩⟩
  rw [eS] at h
  refine wp_region_any hm (wpAny_of_G _ _ _ _ (S := S) (m := m) ?_)
  rw [e3, e2]
  exact wpAnyG_readsQ h1 (fun c _ _ _ _ h => absurd rfl (h.1 c)) (Bool.and_eq_true_iff.1 h3).1 (Bool.and_eq_true_iff.1 h3).2 hS js _ _ a (by intro k o hk; simp [Array.getElem?_replicate] at hk; split at hk <;> simp_all) h4 (hj_ofQ h5) h2 h (fun a' h => h)
/-- Once all ahead of m is done: the rest, with no world asked for. -/
theorem wpAnyG_rest {P : Program} {md : Region.Mode} {ops : Array Oper} {Q : Exit → Act → World → Prop} {S : World → Prop} {m fuel : Nat} {listed : Array Bool} {a : Act} {w : World} (hl : ((List.range m).all fun i => listed.getD i true) = true) (h : wpAnyH P md ops Q (fun _ => True) fuel listed a w) : wpAnyG P md ops Q S m fuel listed a w :=
  wpAnyG_of_any _ _ _ _ (fun i hi => List.all_eq_true.1 hl i (List.mem_range.2 hi)) (wpAny_of_held _ _ _ _ h)
end Go.Proofs.YtmkncmmegjfipaaGreatDoor

/- Layer 13: a type put into a pool: put. -/
namespace Go.Proofs.YtmkncmmegjfipaaGreatDoor
open Go Go.RowKit

theorem setCells_mid (t : TypeId) : ∀ (vs pre mid rest : List Value) (w : World) (B : Nat), mid.length = vs.length → Blk w B (pre ++ (mid ++ rest)) t → Blk (w.setCells B pre.length vs) B (pre ++ (vs ++ rest)) t
  | [], pre, mid, rest, w, B, h, hb => by
    have e : mid = [] := List.eq_nil_of_length_eq_zero h
    subst e; exact hb
  | v :: vs, pre, [], rest, w, B, h, hb => by simp at h
  | v :: vs, pre, p :: mid, rest, w, B, h, hb => by
    rw [World.setCells]
    have h1 : Blk (w.setCell ⟨B, pre.length, none⟩ v) B ((pre ++ [v]) ++ (mid ++ rest)) t := by
      have hl := hb.lt
      unfold Blk at hb ⊢
      have e : ((pre ++ ((p :: mid) ++ rest)).toArray.setIfInBounds pre.length v) = ((pre ++ [v]) ++ (mid ++ rest)).toArray := by
        apply Array.toList_inj.1
        simp
      rw [← e]
      simp [World.setCell, Array.getElem?_modify, hb]
    have k := setCells_mid t vs (pre ++ [v]) mid rest _ B (by simpa using h) h1
    rw [show (pre ++ [v]).length = pre.length + 1 by simp] at k
    simpa using k
/-- The last of an own row written. -/
theorem own_fill {w : World} {base : Nat} {e : TypeId} {size : Nat} {v : Value} {n : Nat} {xs zs vs : List Value} (h : w.ownsRow base e size v (n + 1) (xs ++ zs)) (hx : xs.length = n * size) (hz : zs.length = size) (hv : vs.length = size) :
    ∃ g cap, v = .slice (some ⟨g, 0, none⟩) (n + 1) cap ∧ base ≤ g ∧ (w.setCells g (n * size) vs).ownsRow base e size v (n + 1) (xs ++ vs) ∧ w.there g (n * size) size := by
  obtain ⟨h0, ⟨_, h1⟩ | ⟨g, cap, cur, hv1, hg, hh, hc, hm, hs, ht⟩⟩ := h
  · omega
  have hd : cur.toList = xs ++ (zs ++ cur.toList.drop ((n + 1) * size)) := by
    have := List.take_append_drop ((n + 1) * size) cur.toList
    rw [ht, List.append_assoc] at this
    exact this.symm
  have hb : Blk w g (xs ++ (zs ++ cur.toList.drop ((n + 1) * size))) e := by
    unfold Blk
    rw [hh, ← hd]
  have hk := setCells_mid e vs xs zs (cur.toList.drop ((n + 1) * size)) w g (by omega) hb
  rw [hx] at hk
  have hcs : (n + 1) * size ≤ cur.size := by rw [hs]; exact Nat.mul_le_mul_right _ hc
  refine ⟨g, cap, hv1, hg, ⟨by rw [List.length_append, hx, hv, Nat.add_mul, Nat.one_mul], Or.inr ⟨g, cap, _, hv1, hg, hk, hc, hm, ?_, ?_⟩⟩, fun j hj => ⟨?_, hb.frozen _⟩⟩
  · simp only [List.size_toArray, List.length_append, List.length_drop, Array.length_toList, hx, hv]
    have : (n + 1) * size = n * size + size := by rw [Nat.add_mul, Nat.one_mul]
    omega
  · have e1 : (n + 1) * size = (xs ++ vs).length := by rw [List.length_append, hx, hv, Nat.add_mul, Nat.one_mul]
    show List.take ((n + 1) * size) (xs ++ (vs ++ _)) = xs ++ vs
    rw [← List.append_assoc, e1, List.take_left]
  · have : (xs ++ (zs ++ cur.toList.drop ((n + 1) * size)))[n * size + j]? = some zs[j] := by
      rw [List.getElem?_append_right (by omega), hx, show n * size + j - n * size = j by omega, List.getElem?_append_left (by omega)]
      exact List.getElem?_eq_getElem (by omega)
    rw [hb.cell _ this]
    rfl
/-- Where put stands behind a type's Parts: the pool, the type's and the node's variables. -/
structure Pu (w0 : World) (n : Strs) (g : Grid) (p : Nat) (S : Nat → Prop) (w : World) (m : Nat) (v : Value) (es : Array MapEntry) (c : Nat) (Q : List (List Int)) (R : List Ty) (A : Nat) (tv : List Value) (B : Nat) (nd : List Value) (q : World) : Prop where
  pw : Pw w0 n g p m v es c Q R q
  ft : Ftp S w q
  ss : ∀ x, x < w.heap.size → PS p m v x → S x
  bA : Blk q A tv 53
  bB : Blk q B nd 212
  nA : ¬ PS p m v A
  nB : ¬ PS p m v B
  gA : w.heap.size ≤ A
  gB : w.heap.size ≤ B
  g0 : w0.heap.size ≤ w.heap.size
theorem Pu.kept {w0 : World} {n : Strs} {g : Grid} {p : Nat} {S : Nat → Prop} {w : World} {m : Nat} {v : Value} {es : Array MapEntry} {c : Nat} {Q : List (List Int)} {R : List Ty} {A : Nat} {tv : List Value} {B : Nat} {nd : List Value} {q q' : World} (h : Pu w0 n g p S w m v es c Q R A tv B nd q) (hb : Below q.heap.size q q') : Pu w0 n g p S w m v es c Q R A tv B nd q' :=
  ⟨h.pw.kept hb, h.ft.next (Ftp.of_below (S := fun _ => False) hb) (fun _ _ x => x.elim), h.ss, h.bA.kept hb, h.bB.kept hb, h.nA, h.nB, h.gA, h.gB, h.g0⟩
/-- Behind the map's update, ahead of the row's. -/
structure Pv (w0 : World) (n : Strs) (g : Grid) (p : Nat) (S : Nat → Prop) (w : World) (m : Nat) (v : Value) (es : Array MapEntry) (c : Nat) (R : List Ty) (A : Nat) (tv : List Value) (q : World) : Prop where
  bl : Below w0.heap.size w0 q
  blk : Blk q p [.slice n.ao n.len n.cap, .slice g.ao g.len g.cap, v, .map (some m)] 131
  mp : q.heap[m]? = some (.map es c)
  own : q.ownsRow w0.heap.size 53 5 v R.length (flatL R)
  ft : Ftp S w q
  ss : ∀ x, x < w.heap.size → PS p m v x → S x
  bA : Blk q A tv 53
  nA : ¬ PS p m v A
  gA : w.heap.size ≤ A
  lp : w0.heap.size ≤ p
  lm : w0.heap.size ≤ m
  npm : p ≠ m
theorem Pv.kept {w0 : World} {n : Strs} {g : Grid} {p : Nat} {S : Nat → Prop} {w : World} {m : Nat} {v : Value} {es : Array MapEntry} {c : Nat} {R : List Ty} {A : Nat} {tv : List Value} {q q' : World} (h : Pv w0 n g p S w m v es c R A tv q) (hb : Below q.heap.size q q') : Pv w0 n g p S w m v es c R A tv q' :=
  ⟨Below.next h.bl hb, h.blk.kept hb, by rw [hb.block m (Array.getElem?_eq_some_iff.1 h.mp).1]; exact h.mp, owk h.own hb, h.ft.next (Ftp.of_below (S := fun _ => False) hb) (fun _ _ x => x.elim), h.ss, h.bA.kept hb, h.nA, h.gA, h.lp, h.lm, h.npm⟩
theorem Pu.upd {w0 : World} {n : Strs} {g : Grid} {p : Nat} {S : Nat → Prop} {w : World} {m : Nat} {v : Value} {es : Array MapEntry} {c : Nat} {Q : List (List Int)} {R : List Ty} {A : Nat} {tv : List Value} {B : Nat} {nd : List Value} {q : World} (h : Pu w0 n g p S w m v es c Q R A tv B nd q) (es' : Array MapEntry) (c' : Nat) :
    Pv w0 n g p S w m v es' c' R A tv { q with heap := q.heap.setIfInBounds m (.map es' c') } := by
  have hm := (Array.getElem?_eq_some_iff.1 h.pw.mp).1
  have oth : ∀ b, b ≠ m → ({ q with heap := q.heap.setIfInBounds m (.map es' c') } : World).heap[b]? = q.heap[b]? := fun b hb => by
    show (q.heap.setIfInBounds m (.map es' c'))[b]? = q.heap[b]?
    rw [Array.getElem?_setIfInBounds, if_neg (fun e => hb e.symm)]
  refine ⟨⟨h.pw.bl.os, h.pw.bl.tape, h.pw.bl.output, by simpa using h.pw.bl.size, fun k hk => ?_⟩, ?_, ?_, own_same h.pw.own (fun b hb => oth b (fun e => h.pw.nvm (e ▸ hb))), ⟨h.ft.os, h.ft.tape, h.ft.output, by simpa using h.ft.size, fun k hk hn => ?_⟩, h.ss, ?_, h.nA, h.gA, h.pw.lp, h.pw.lm, h.pw.npm⟩
  · rw [oth k (by have := h.pw.lm; omega)]; exact h.pw.bl.block k hk
  · unfold Blk; rw [oth p h.pw.npm]; exact h.pw.blk
  · show (q.heap.setIfInBounds m (.map es' c'))[m]? = _
    simp [hm]
  · rw [oth k (fun e => hn (h.ss k hk (e ▸ Or.inr (Or.inl rfl))))]; exact h.ft.block k hk hn
  · unfold Blk; rw [oth A (fun e => h.nA (Or.inr (Or.inl e)))]; exact h.bA
/-- What put answers. -/
def PutR (w0 : World) (n : Strs) (g : Grid) (p : Nat) (S : Nat → Prop) (w : World) (t : Ty) (R : List Ty) (e : Ending) (w' : World) : Prop :=
  ∃ (i : Nat) (S' : Nat → Prop), e = .returned (.int .i64 i) ∧ (∃ s, (putT t R)[i]? = some s ∧ s.same t = true) ∧ Pg w0 n g p S w S' (putT t R) w'
/-- The pool with one more. -/
theorem Pv.done {w0 : World} {n : Strs} {g : Grid} {p : Nat} {S : Nat → Prop} {w : World} {m : Nat} {v v' : Value} {es : Array MapEntry} {c : Nat} {Q : List (List Int)} {R : List Ty} {t : Ty} {A : Nat} {tv : List Value} {q q' : World} (h : Pv w0 n g p S w m v es c R A tv q) (hk : NKeys es Q) (hg : Good n.len (R ++ [t]) Q) (hat : ∀ s ∈ R ++ [t], s.At w0)
    (hbl : Below w0.heap.size w0 q') (hp : Blk q' p [.slice n.ao n.len n.cap, .slice g.ao g.len g.cap, v', .map (some m)] 131) (hm : q'.heap[m]? = q.heap[m]?) (ho : q'.ownsRow w0.heap.size 53 5 v' (R ++ [t]).length (flatL (R ++ [t])))
    (hf : Ftp (PS p m v) q q') (hv : ∀ b, v'.ownBlock = some b → v.ownBlock = some b ∨ q.heap.size ≤ b) : ∃ S', Pg w0 n g p S w S' (R ++ [t]) q' := by
  refine ⟨PS p m v', ⟨m, v', es, c, Q, ⟨hbl, hp, hm.trans h.mp, hk, hg, ho, hat, h.lp, h.lm⟩, rfl⟩, h.ft.next hf h.ss, fun x hx hs => h.ss x hx ?_⟩
  rcases hs with e | e | e
  · exact Or.inl e
  · exact Or.inr (Or.inl e)
  · rcases hv x e with e | e
    · exact Or.inr (Or.inr e)
    · have := h.ft.size; omega
end Go.Proofs.YtmkncmmegjfipaaGreatDoor

/- Layer 13: the pool's row with one more type: append in place. -/
namespace Go.Proofs.YtmkncmmegjfipaaGreatDoor
open Go Go.RowKit

theorem quiet_row {C : World → Prop} {K : Act → Prop} {a : Act} {o : Oper} (ty : TypeId) (x : Operand) (ho : o.op = .load ty x) (b oo : Nat) (hx : a.eval x = .pointer (some ⟨b, oo, none⟩)) (cs : List Value) (d : TypeDesc) (hc : ∀ w, C w → w.rangeAt b oo cs)
    (hu : Tryz.prog.underlying ty = some d) (hd : d.isRow = true) (hi : (Tryz.prog.info? ty).map (·.size) = some cs.length) (h : K (a.put o.dst (.agg cs.toArray))) : o.quiet Tryz.prog a C K := by
  refine ⟨.agg cs.toArray, fun w hC => ?_, h⟩
  unfold Oper.quietAt execOp
  simp only [ho, hx, Sem.run_bind, run_loadAt_mid w b oo ty cs d (hc w hC) hu hd hi, Result.andThen_ok, Sem.run_pure]
  exact ⟨rfl, rfl⟩
/-- The pool behind the append, whichever of the two stores came first. -/
theorem Pv.core {w0 : World} {n : Strs} {g : Grid} {p : Nat} {S : Nat → Prop} {w : World} {m : Nat} {v : Value} {es : Array MapEntry} {c : Nat} {Q : List (List Int)} {R : List Ty} {t : Ty} {A : Nat} {tv : List Value} {q q1 q3 : World} {gg cap : Nat} (h : Pv w0 n g p S w m v es c R A tv q) (hk : NKeys es Q) (hg : Good n.len (R ++ [t]) Q) (hat : ∀ s ∈ R ++ [t], s.At w0)
    (hgrow : q.grownBy q1 v.ownBlock) (hgg : v.ownBlock = some gg ∨ gg = q.heap.size) (hb : Below 0 q1 q3) (hoth : ∀ k, k ≠ p → k ≠ gg → q3.heap[k]? = q1.heap[k]?) (hp : Blk q3 p [.slice n.ao n.len n.cap, .slice g.ao g.len g.cap, .slice (some ⟨gg, 0, none⟩) (R.length + 1) cap, .map (some m)] 131)
    (ho : q3.ownsRow w0.heap.size 53 5 (.slice (some ⟨gg, 0, none⟩) (R.length + 1) cap) (R.length + 1) (flatL R ++ t.vs)) : ∃ S', Pg w0 n g p S w S' (R ++ [t]) q3 := by
  have hlt := (Array.getElem?_eq_some_iff.1 h.mp).1
  have hnm : some m ≠ v.ownBlock := fun e => by
    obtain ⟨cur, h1⟩ := own_blk h.own e.symm
    rw [h.mp] at h1
    cases h1
  have hge : w0.heap.size ≤ gg := by
    rcases hgg with e | e
    · exact (owb h.own e).1
    · rw [e]; exact h.bl.size
  have hmg : m ≠ gg := by
    rcases hgg with e | e
    · exact fun z => hnm (by rw [e, z])
    · omega
  refine Pv.done (v' := .slice (some ⟨gg, 0, none⟩) (R.length + 1) cap) h hk hg hat ?_ hp ?_ ?_ ?_ ?_
  · have h1 := gb_bel h.bl hgrow (fun k hk => (owb h.own hk).1)
    refine ⟨hb.os.trans h1.os, hb.tape.trans h1.tape, hb.output.trans h1.output, Nat.le_trans h1.size hb.size, fun k hk => ?_⟩
    rw [hoth k (by have := h.lp; omega) (by omega)]
    exact h1.block k hk
  · rw [hoth m (fun e => h.npm e.symm) hmg]
    exact hgrow.block m hlt hnm
  · rw [flatL_snoc, List.length_append]
    exact ho
  · refine ⟨hb.os.trans hgrow.os, hb.tape.trans hgrow.tape, hb.output.trans hgrow.output, Nat.le_trans hgrow.size hb.size, fun k hk hn => ?_⟩
    have h1 : some k ≠ v.ownBlock := fun e => hn (Or.inr (Or.inr e.symm))
    rw [hoth k (fun e => hn (Or.inl e)) (fun e => by
      rcases hgg with z | z
      · exact h1 (by rw [e, z])
      · omega)]
    exact hgrow.block k hk h1
  · intro b hb2
    have : gg = b := by simpa [Value.ownBlock] using hb2
    subst this
    rcases hgg with z | z
    · exact Or.inl z
    · exact Or.inr (by omega)
/-- What the walk asks of the world behind the append. -/
structure Pz (w0 : World) (n : Strs) (g : Grid) (p : Nat) (m : Nat) (v : Value) (R : List Ty) (gg cap : Nat) (t : Ty) (q1 : World) : Prop where
  blk : Blk q1 p [.slice n.ao n.len n.cap, .slice g.ao g.len g.cap, v, .map (some m)] 131
  there : q1.there gg (R.length * 5) 5
  ne : p ≠ gg
  own : (q1.setCells gg (R.length * 5) t.vs).ownsRow w0.heap.size 53 5 (.slice (some ⟨gg, 0, none⟩) (R.length + 1) cap) (R.length + 1) (flatL R ++ t.vs)
theorem Pv.next {w0 : World} {n : Strs} {g : Grid} {p : Nat} {S : Nat → Prop} {w : World} {m : Nat} {v : Value} {es : Array MapEntry} {c : Nat} {R : List Ty} {A : Nat} {tv : List Value} {q q1 : World} {gg cap : Nat} (h : Pv w0 n g p S w m v es c R A tv q) (hgrow : q.grownBy q1 v.ownBlock) (hgg : v.ownBlock = some gg ∨ gg = q.heap.size) (t : Ty) {zs : List Value} (hz : zs.length = 5)
    (ho : q1.ownsRow w0.heap.size 53 5 (.slice (some ⟨gg, 0, none⟩) (R.length + 1) cap) (R.length + 1) (flatL R ++ zs)) : Pz w0 n g p m v R gg cap t q1 := by
  have hnp : some p ≠ v.ownBlock := fun e => by
    obtain ⟨cur, h1⟩ := own_blk h.own e.symm
    have h2 := h.blk
    unfold Blk at h2
    rw [h1] at h2
    injection h2 with h2
    injection h2 with _ h2
    exact absurd h2 (by decide)
  have hpg : p ≠ gg := by
    rcases hgg with e | e
    · exact fun z => hnp (by rw [e, z])
    · have := h.blk.lt; omega
  obtain ⟨g', cap', e, _, h3, h4⟩ := own_fill (vs := t.vs) ho (flatL_len R) hz rfl
  injection e with e1 _ e3
  injection e1 with e1
  injection e1 with e1
  subst e1 e3
  exact ⟨by unfold Blk; rw [hgrow.block p h.blk.lt hnp]; exact h.blk, h4, hpg, h3⟩
/-- First the type, then the row's value. -/
theorem Pz.endA {w0 : World} {n : Strs} {g : Grid} {p : Nat} {S : Nat → Prop} {w : World} {m : Nat} {v : Value} {es : Array MapEntry} {c : Nat} {Q : List (List Int)} {R : List Ty} {t : Ty} {A : Nat} {tv : List Value} {q q1 : World} {gg cap : Nat} (z : Pz w0 n g p m v R gg cap t q1) (h : Pv w0 n g p S w m v es c R A tv q) (hk : NKeys es Q) (hg : Good n.len (R ++ [t]) Q) (hat : ∀ s ∈ R ++ [t], s.At w0)
    (hgrow : q.grownBy q1 v.ownBlock) (hgg : v.ownBlock = some gg ∨ gg = q.heap.size) : Blk (q1.setCells gg (R.length * 5) t.vs) p [.slice n.ao n.len n.cap, .slice g.ao g.len g.cap, v, .map (some m)] 131 ∧ ∃ S', Pg w0 n g p S w S' (R ++ [t]) ((q1.setCells gg (R.length * 5) t.vs).setCell ⟨p, 2, none⟩ (.slice (some ⟨gg, 0, none⟩) (R.length + 1) cap)) := by
  have hb2 : Blk (q1.setCells gg (R.length * 5) t.vs) p [.slice n.ao n.len n.cap, .slice g.ao g.len g.cap, v, .map (some m)] 131 := by unfold Blk; rw [setCells_heap _ _ _ _ _ z.ne]; exact z.blk
  have W := wrote_cell (i := 2) hb2 (.slice (some ⟨gg, 0, none⟩) (R.length + 1) cap)
  refine ⟨hb2, Pv.core h hk hg hat hgrow hgg (W.below (Nat.zero_le _) (below_setCells (Nat.zero_le _) _ _ _ (Below.refl _ _))) (fun k h1 h2 => ?_) W.blk (own_same z.own (fun b hb => W.other b (fun e => ?_)))⟩
  · rw [W.other k h1, setCells_heap _ _ _ _ _ h2]
  · have : gg = b := by simpa [Value.ownBlock] using hb
    exact z.ne (by rw [this, e])
theorem there_other {w w' : World} {b o k : Nat} (h : w.there b o k) (e : w'.heap[b]? = w.heap[b]?) : w'.there b o k := fun j hj => by
  have h1 : w'.cell? ⟨b, o + j, none⟩ = w.cell? ⟨b, o + j, none⟩ := World.cell?_of_block (w := w) e
  have h2 : w'.frozen? ⟨b, o + j, none⟩ = w.frozen? ⟨b, o + j, none⟩ := World.frozen?_of_block (w := w) e
  rw [h1, h2]; exact h j hj
/-- First the row's value, then the type. -/
theorem Pz.endB {w0 : World} {n : Strs} {g : Grid} {p : Nat} {S : Nat → Prop} {w : World} {m : Nat} {v : Value} {es : Array MapEntry} {c : Nat} {Q : List (List Int)} {R : List Ty} {t : Ty} {A : Nat} {tv : List Value} {q q1 : World} {gg cap : Nat} {zs : List Value} (hz : zs.length = 5) (z : Pz w0 n g p m v R gg cap t q1) (ho : q1.ownsRow w0.heap.size 53 5 (.slice (some ⟨gg, 0, none⟩) (R.length + 1) cap) (R.length + 1) (flatL R ++ zs)) (h : Pv w0 n g p S w m v es c R A tv q) (hk : NKeys es Q) (hg : Good n.len (R ++ [t]) Q) (hat : ∀ s ∈ R ++ [t], s.At w0)
    (hgrow : q.grownBy q1 v.ownBlock) (hgg : v.ownBlock = some gg ∨ gg = q.heap.size) : (q1.setCell ⟨p, 2, none⟩ (.slice (some ⟨gg, 0, none⟩) (R.length + 1) cap)).there gg (R.length * 5) 5 ∧ ∃ S', Pg w0 n g p S w S' (R ++ [t]) ((q1.setCell ⟨p, 2, none⟩ (.slice (some ⟨gg, 0, none⟩) (R.length + 1) cap)).setCells gg (R.length * 5) t.vs) := by
  have W := wrote_cell (i := 2) z.blk (.slice (some ⟨gg, 0, none⟩) (R.length + 1) cap)
  have ho2 := own_same ho (fun b hb => W.other b (fun e => by
    have : gg = b := by simpa [Value.ownBlock] using hb
    exact z.ne (by rw [this, e])))
  obtain ⟨g', cap', e, _, h3, h4⟩ := own_fill (vs := t.vs) ho2 (flatL_len R) hz rfl
  injection e with e1 _ e3
  injection e1 with e1
  injection e1 with e1
  subst e1 e3
  refine ⟨h4, Pv.core h hk hg hat hgrow hgg (below_setCells (Nat.zero_le _) _ _ _ (W.below (Nat.zero_le _) (Below.refl _ _))) (fun k h1 h2 => ?_) ?_ h3⟩
  · rw [setCells_heap _ _ _ _ _ h2, W.other k h1]
  · unfold Blk; rw [setCells_heap _ _ _ _ _ z.ne]; exact W.blk
end Go.Proofs.YtmkncmmegjfipaaGreatDoor
