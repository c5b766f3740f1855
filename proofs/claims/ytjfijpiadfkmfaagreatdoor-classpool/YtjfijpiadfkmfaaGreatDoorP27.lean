/- Layer 13: a writer's handler, region, point, instruction, typ. -/
import Derived.Test.YtjfijpiadfkmfaaGreatDoorP26
import Derived.Test.YtjfijpiadfkmfaaGreatDoorP20
namespace Go.Proofs.YtjfijpiadfkmfaaGreatDoor
open Go Go.RowKit

/-- A writer's call stands here: its variable is as it was. -/
structure Wb (wE : World) (p q : Nat) (S : Nat → Prop) (w : World) (A : Nat) (vs : List Value) (T : TypeId) (S1 : Nat → Prop) (st : Option (List Nat)) (u : World) : Prop where
  wg : Wg wE p q S w S1 st u
  bA : Blk u A vs T
  nA : ¬ S1 A
theorem Wb.next {wE : World} {p q : Nat} {S : Nat → Prop} {w : World} {A : Nat} {vs : List Value} {T : TypeId} {S1 S2 : Nat → Prop} {st st2 : Option (List Nat)} {u u2 : World} (h : Wb wE p q S w A vs T S1 st u) (k : Wg wE p q S1 u S2 st2 u2) : Wb wE p q S w A vs T S2 st2 u2 := by
  obtain ⟨h1, h2⟩ := k.blk h.bA h.nA
  exact ⟨h.wg.trans k, h1, h2⟩
theorem Wb.new {wE : World} {p q : Nat} {S : Nat → Prop} {w : World} {st : Option (List Nat)} (h : Wl wE p q S st w) (vs : List Value) (T : TypeId) : Wb wE p q S w w.heap.size vs T S st (w.alloc (.cells vs.toArray T)) :=
  ⟨Wg.of h (below_alloc _ _), Blk.new w vs T, fun hx => absurd (h.ge hx).2 (Nat.lt_irrefl _)⟩
theorem Wb.kept {wE : World} {p q : Nat} {S : Nat → Prop} {w : World} {A : Nat} {vs : List Value} {T : TypeId} {S1 : Nat → Prop} {st : Option (List Nat)} {u u2 : World} (h : Wb wE p q S w A vs T S1 st u) (hb : Below u.heap.size u u2) : Wb wE p q S w A vs T S1 st u2 := ⟨h.wg.kept hb, h.bA.kept hb, h.nA⟩
def wHn (h : Hn) (st : Option (List Nat)) : Option (List Nat) := wSh h.at_ (wSh h.to (wSh h.fr st))
def wRn (r : Rn) (st : Option (List Nat)) : Option (List Nat) := iterS (fun i => wSh (r.ps.x i)) r.ps.len (wSh r.ps.len (wSh (r.join + 1) (wSh r.at_ st)))
def wPs (Q : List (List Int)) (T : Ty) (st : Option (List Nat)) : Option (List Nat) := iterS (fun i => wSh (plc Q (T.ps i) 1)) T.len st
def wPt (Q : List (List Int)) (x : Pt) (st : Option (List Nat)) : Option (List Nat) := wSh x.env (iterS (fun i => wSh (plc Q (x.sl.ps i) 1 + 1)) x.sl.len (wPs Q x.st (wSh x.st.len st)))
def wTy (Q : List (List Int)) (t : Ty) (st : Option (List Nat)) : Option (List Nat) := if t.k = 4 then wSh (t.e + 1) (wSh t.h (wPs Q t (wSh t.l (wSh t.k st)))) else wPs Q t (wSh t.l (wSh t.k st))
def wOp (Q : List (List Int)) (i : In) (st : Option (List Nat)) : Option (List Nat) := if opr i.op = 1 then wAdd (By.be 8 (By.uns i.a)) st else if opr i.op = 2 ∨ opr i.op = 3 then wSh i.a st else if opr i.op = 4 then wSh (plc Q i.t 1) st else st
def wIn (Q : List (List Int)) (i : In) (st : Option (List Nat)) : Option (List Nat) := wOp Q i (wSh i.op st)
theorem iterS_nil {G : Nat → Option (List Nat) → Option (List Nat)} (hG : ∀ k, G k none = none) (len : Nat) : iterS G len none = none := iterS_none hG (j := 0) rfl (Nat.zero_le _)
theorem wPs_none (Q : List (List Int)) (T : Ty) : wPs Q T none = none := iterS_nil (fun _ => wSh_none _) _
theorem wHn_none (h : Hn) : wHn h none = none := by unfold wHn; rw [wSh_none, wSh_none, wSh_none]
theorem wRn_none (r : Rn) : wRn r none = none := by unfold wRn; rw [wSh_none, wSh_none, wSh_none]; exact iterS_nil (fun _ => wSh_none _) _
theorem wPt_none (Q : List (List Int)) (x : Pt) : wPt Q x none = none := by unfold wPt; rw [wSh_none, wPs_none, iterS_nil (fun _ => wSh_none _), wSh_none]
theorem wTy_none (Q : List (List Int)) (t : Ty) : wTy Q t none = none := by unfold wTy; rw [wSh_none, wSh_none, wPs_none, wSh_none, wSh_none]; split <;> rfl
theorem wIn_none (Q : List (List Int)) (i : In) : wIn Q i none = none := by
  unfold wIn wOp
  rw [wSh_none, wSh_none, wSh_none]
  repeat' split
  all_goals rfl
/-- Types' places, each behind the other. -/
theorem wplaces_any {w0 wE w : World} {n : Strs} {g : Grid} {p q m : Nat} {v : Value} {es : Array MapEntry} {c : Nat} {Q : List (List Int)} {R : List Ty} {S : Nat → Prop} {st : Option (List Nat)} (hP : Pw w0 n g p m v es c Q R wE) (h : Wl wE p q S st w) (T : Ty) (hT : T.At wE) :
    Calls Tryz.prog 59 #[.pointer (some ⟨q, 0, none⟩), .slice T.ao T.len T.cap, .func (.func 60) #[.pointer (some ⟨q, 0, none⟩)] #[]] w fun r w' => WR wE p q S w (wPs Q T st) r w' :=
  put_place _ (fun _ => wSh_none _) T.ao T.b T.o T.len T.cap (fun i => (T.ps i).vs) w S st hT.nil hT.bound (fun _ _ => rfl) (fun _ _ => tvs_one _) (fun _ _ hi hb => c5row ((hT.kept hb).cells hi)) (fun i _ _ _ hi h1 => wplace_any hP h1 (T.ps i) (hT.part hi)) h
theorem wslots_any {w0 wE w : World} {n : Strs} {g : Grid} {p q m : Nat} {v : Value} {es : Array MapEntry} {c : Nat} {Q : List (List Int)} {R : List Ty} {S : Nat → Prop} {st : Option (List Nat)} (hP : Pw w0 n g p m v es c Q R wE) (hR : R.length ≤ 2000000000) (h : Wl wE p q S st w) (T : Ty) (hT : T.At wE) :
    Calls Tryz.prog 59 #[.pointer (some ⟨q, 0, none⟩), .slice T.ao T.len T.cap, .func (.func 99) #[.pointer (some ⟨q, 0, none⟩)] #[]] w fun r w' => WR wE p q S w (iterS (fun i => wSh (plc Q (T.ps i) 1 + 1)) T.len st) r w' :=
  put_slot _ (fun _ => wSh_none _) T.ao T.b T.o T.len T.cap (fun i => (T.ps i).vs) w S st hT.nil hT.bound (fun _ _ => rfl) (fun _ _ => tvs_one _) (fun _ _ hi hb => c5row ((hT.kept hb).cells hi)) (fun i _ _ _ hi h1 => wslot_any hP h1 (T.ps i) (hT.part hi) hR) h
theorem wplaceL_any {w0 wE w : World} {n : Strs} {g : Grid} {p q m : Nat} {v : Value} {es : Array MapEntry} {c : Nat} {Q : List (List Int)} {R : List Ty} {S : Nat → Prop} {st : Option (List Nat)} (hP : Pw w0 n g p m v es c Q R wE) (h : Wl wE p q S st w) (T : Ty) (hT : T.At wE) :
    Calls Tryz.prog 31 #[.pointer (some ⟨q, 0, none⟩), .slice T.ao T.len T.cap, .func (.func 60) #[.pointer (some ⟨q, 0, none⟩)] #[]] w fun r w' => WR wE p q S w (wPs Q T (wSh T.len st)) r w' :=
  putList_place _ T.ao T.len T.cap w S st h (fun _ _ _ h1 => wplaces_any hP h1 T hT)
theorem wnumsL_any {wE w : World} {p q : Nat} {S : Nat → Prop} {st : Option (List Nat)} (h : Wl wE p q S st w) (r : Rw Int) (hr : NmAt wE r) :
    Calls Tryz.prog 101 #[.pointer (some ⟨q, 0, none⟩), .slice r.ao r.len r.cap, .func (.func 26) #[.pointer (some ⟨q, 0, none⟩)] #[]] w fun x w' => WR wE p q S w (iterS (fun i => wSh (r.x i)) r.len (wSh r.len st)) x w' :=
  putList_short _ r.ao r.len r.cap w S st h (fun u S1 st1 h1 => put_short _ (fun _ => wSh_none _) r.ao r.b r.o r.len r.cap r.x u S1 st1 hr.nil hr.bound (fun i _ hi hb => by have := range_kept (hr.row i hi) hb 0 _ rfl; simpa using this) (fun i _ _ _ _ h2 => wshort_any h2 (r.x i)) h1)

set_option maxRecDepth 100000 in
set_option maxHeartbeats 8000000 in
theorem whand_any {wE w : World} {p q : Nat} {S : Nat → Prop} {st : Option (List Nat)} (h : Wl wE p q S st w) (x : Hn) : Calls Tryz.prog 66 #[.pointer (some ⟨q, 0, none⟩), .agg #[.int .i64 x.fr, .int .i64 x.to, .int .i64 x.at_]] w fun r w' => WR wE p q S w (wHn x st) r w' := by
  have H0 := hyd (Wb.new h [.int .i64 x.fr, .int .i64 x.to, .int .i64 x.at_] 98)

  have hmf : ∀ (fn : Fn) (first cap : Array Value) (w : World), (Instr.makeFunc fn first cap).run Tryz.prog w = .ok (.func fn first cap) w := fun _ _ _ _ => rfl
  clear h
  go_enter Tryz.func66, Tryz.ntmps66
  have c0 := H0.out.bA.cell 0 rfl
  have hc := wshort_any H0.out.wg.wl x.fr
  go_wp2_with fail
  refine Calls.mono hc ?_
  rintro _ u1 ⟨rfl, S1, hg⟩
  have H1 := hyd (H0.out.next hg)
  clear hc hg c0 H0
  have c1 := H1.out.bA.cell 1 rfl
  have hc := wshort_any H1.out.wg.wl x.to
  go_wp2_with fail
  refine Calls.mono hc ?_
  rintro _ u2 ⟨rfl, S2, hg⟩
  have H2 := hyd (H1.out.next hg)
  clear hc hg c1 H1
  have c2 := H2.out.bA.cell 2 rfl
  have hc := wshort_any H2.out.wg.wl x.at_
  go_wp2_with fail
  refine Calls.mono hc ?_
  rintro _ u3 ⟨rfl, S3, hg⟩
  have H3 := hyd (H2.out.next hg)
  clear hc hg c2 H2
  go_wp2
  go_end0
  exact ⟨rfl, _, H3.out.wg⟩

set_option maxRecDepth 100000 in
set_option maxHeartbeats 8000000 in
theorem wregion_any {wE w : World} {p q : Nat} {S : Nat → Prop} {st : Option (List Nat)} (h : Wl wE p q S st w) (x : Rn) (hx : x.At wE) (hj : -1 ≤ x.join) (hj2 : x.join ≤ 65534) : Calls Tryz.prog 70 #[.pointer (some ⟨q, 0, none⟩), .agg #[.int .i64 x.at_, .int .i64 x.join, .slice x.ps.ao x.ps.len x.ps.cap]] w fun r w' => WR wE p q S w (wRn x st) r w' := by
  have H0 := hyd (Wb.new h [.int .i64 x.at_, .int .i64 x.join, .slice x.ps.ao x.ps.len x.ps.cap] 57)

  have hmf : ∀ (fn : Fn) (first cap : Array Value) (w : World), (Instr.makeFunc fn first cap).run Tryz.prog w = .ok (.func fn first cap) w := fun _ _ _ _ => rfl
  have HX := hyd (show x.At wE ∧ -1 ≤ x.join ∧ x.join ≤ 65534 from ⟨hx, hj, hj2⟩)
  clear hx hj hj2
  clear h
  go_enter Tryz.func70, Tryz.ntmps70
  have c0 := H0.out.bA.cell 0 rfl
  have hc := wshort_any H0.out.wg.wl x.at_
  go_wp2_with fail
  refine Calls.mono hc ?_
  rintro _ u1 ⟨rfl, S1, hg⟩
  have H1 := hyd (H0.out.next hg)
  clear hc hg c0 H0
  have c1 := H1.out.bA.cell 1 rfl
  have hc := worNone_any H1.out.wg.wl x.join HX.out.2.1 (by have := HX.out.2.2; omega)
  go_wp2_with fail
  refine Calls.mono hc ?_
  rintro _ u2 ⟨rfl, S2, hg⟩
  have H2 := hyd (H1.out.next hg)
  clear hc hg c1 H1
  have c2 := H2.out.bA.cell 2 rfl
  have hc := wnumsL_any H2.out.wg.wl x.ps HX.out.1.ps
  go_wp2_with fail
  refine Calls.mono hc ?_
  rintro _ u3 ⟨rfl, S3, hg⟩
  have H3 := hyd (H2.out.next hg)
  clear hc hg c2 H2
  go_wp2
  go_end0
  exact ⟨rfl, _, H3.out.wg⟩

set_option maxRecDepth 100000 in
set_option maxHeartbeats 8000000 in
theorem wpoint_any {w0 wE w : World} {n : Strs} {g : Grid} {p q m : Nat} {v : Value} {es : Array MapEntry} {c : Nat} {Q : List (List Int)} {R : List Ty} {S : Nat → Prop} {st : Option (List Nat)} (hP : Pw w0 n g p m v es c Q R wE) (hR : R.length ≤ 2000000000) (h : Wl wE p q S st w) (x : Pt) (hx : x.At wE) : Calls Tryz.prog 68 #[.pointer (some ⟨q, 0, none⟩), .agg #[.slice x.st.ao x.st.len x.st.cap, .slice x.sl.ao x.sl.len x.sl.cap, .int .i64 x.env]] w fun r w' => WR wE p q S w (wPt Q x st) r w' := by
  have H0 := hyd (Wb.new h [.slice x.st.ao x.st.len x.st.cap, .slice x.sl.ao x.sl.len x.sl.cap, .int .i64 x.env] 44)
  have HP := hyd hP
  have hmf : ∀ (fn : Fn) (first cap : Array Value) (w : World), (Instr.makeFunc fn first cap).run Tryz.prog w = .ok (.func fn first cap) w := fun _ _ _ _ => rfl
  have HX := hyd hx
  have HR := hyd hR
  clear hx hP hR
  clear h
  go_enter Tryz.func68, Tryz.ntmps68
  have c0 := H0.out.bA.cell 0 rfl
  have hc := wplaceL_any HP.out H0.out.wg.wl x.st HX.out.st
  go_wp2_with fail
  refine Calls.mono hc ?_
  rintro _ u1 ⟨rfl, S1, hg⟩
  have H1 := hyd (H0.out.next hg)
  clear hc hg c0 H0
  have c1 := H1.out.bA.cell 1 rfl
  have hc := wslots_any HP.out HR.out H1.out.wg.wl x.sl HX.out.sl
  go_wp2_with fail
  refine Calls.mono hc ?_
  rintro _ u2 ⟨rfl, S2, hg⟩
  have H2 := hyd (H1.out.next hg)
  clear hc hg c1 H1
  have c2 := H2.out.bA.cell 2 rfl
  have hc := wshort_any H2.out.wg.wl x.env
  go_wp2_with fail
  refine Calls.mono hc ?_
  rintro _ u3 ⟨rfl, S3, hg⟩
  have H3 := hyd (H2.out.next hg)
  clear hc hg c2 H2
  go_wp2
  go_end0
  exact ⟨rfl, _, H3.out.wg⟩

set_option maxRecDepth 100000 in
set_option maxHeartbeats 8000000 in
theorem wtyp_any {w0 wE w : World} {n : Strs} {g : Grid} {p q m : Nat} {v : Value} {es : Array MapEntry} {c : Nat} {Q : List (List Int)} {R : List Ty} {S : Nat → Prop} {st : Option (List Nat)} (hP : Pw w0 n g p m v es c Q R wE) (h : Wl wE p q S st w) (x : Ty) (hx : x.At wE) (hk : x.k = 4 → -1 ≤ x.e ∧ x.e ≤ 100) : Calls Tryz.prog 32 #[.pointer (some ⟨q, 0, none⟩), .agg #[.int .i64 x.k, .int .i64 x.l, .slice x.ao x.len x.cap, .int .i64 x.h, .int .i64 x.e]] w fun r w' => WR wE p q S w (wTy Q x st) r w' := by
  have H0 := hyd (Wb.new h [.int .i64 x.k, .int .i64 x.l, .slice x.ao x.len x.cap, .int .i64 x.h, .int .i64 x.e] 36)
  have HP := hyd hP
  have hmf : ∀ (fn : Fn) (first cap : Array Value) (w : World), (Instr.makeFunc fn first cap).run Tryz.prog w = .ok (.func fn first cap) w := fun _ _ _ _ => rfl
  have HX := hyd (show x.At wE ∧ (x.k = 4 → -1 ≤ x.e ∧ x.e ≤ 100) from ⟨hx, hk⟩)
  clear hx hk hP
  clear h
  go_enter Tryz.func32, Tryz.ntmps32
  have c0 := H0.out.bA.cell 0 rfl
  have hc := wshort_any H0.out.wg.wl x.k
  go_wp2_with fail
  refine Calls.mono hc ?_
  rintro _ u1 ⟨rfl, S1, hg⟩
  have H1 := hyd (H0.out.next hg)
  clear hc hg c0 H0
  have c1 := H1.out.bA.cell 1 rfl
  have hc := wshort_any H1.out.wg.wl x.l
  go_wp2_with fail
  refine Calls.mono hc ?_
  rintro _ u2 ⟨rfl, S2, hg⟩
  have H2 := hyd (H1.out.next hg)
  clear hc hg c1 H1
  have c2 := H2.out.bA.cell 2 rfl
  have hc := wplaces_any HP.out H2.out.wg.wl x HX.out.1
  go_wp2_with fail
  refine Calls.mono hc ?_
  rintro _ u3 ⟨rfl, S3, hg⟩
  have H3 := hyd (H2.out.next hg)
  clear hc hg c2 H2
  have c0 := H3.out.bA.cell 0 rfl
  by_cases hk : x.k = 4
  · have dk : (x.k == 4) = true := by simpa using hk
    have c3 := H3.out.bA.cell 3 rfl
    have hc := wshort_any H3.out.wg.wl x.h
    have HE : Hid (wTy Q x st = wSh (x.e + 1) (wSh x.h (wPs Q x (wSh x.l (wSh x.k st))))) := by show _ = _; unfold wTy; rw [if_pos hk]
    have HK := hyd (HX.out.2 hk)
    clear hk
    go_wp2_with fail
    refine Calls.mono hc ?_
    rintro _ u4 ⟨rfl, S4, hg⟩
    have H4 := hyd (H3.out.next hg)
    clear hc hg c0 c3 H3 dk
    have c4 := H4.out.bA.cell 4 rfl
    have hc := worNone_any H4.out.wg.wl x.e HK.out.1 (by have := HK.out.2; omega)
    go_wp2_with fail
    refine Calls.mono hc ?_
    rintro _ u5 ⟨rfl, S5, hg⟩
    have H5 := hyd (H4.out.next hg)
    clear hc hg c4 H4
    go_wp2
    go_end0
    rw [HE.out]
    exact ⟨rfl, _, H5.out.wg⟩
  · have dk : (x.k == 4) = false := by simpa using hk
    have HE : Hid (wTy Q x st = wPs Q x (wSh x.l (wSh x.k st))) := by show _ = _; unfold wTy; rw [if_neg hk]
    clear hk
    go_wp2
    go_end0
    rw [HE.out]
    exact ⟨rfl, _, H3.out.wg⟩

set_option maxRecDepth 100000 in
set_option maxHeartbeats 8000000 in
theorem wins_any {w0 wE w : World} {n : Strs} {g : Grid} {p q m : Nat} {v : Value} {es : Array MapEntry} {c : Nat} {Q : List (List Int)} {R : List Ty} {S : Nat → Prop} {st : Option (List Nat)} (hP : Pw w0 n g p m v es c Q R wE) (h : Wl wE p q S st w) (x : In) (k : Nat) (hk : x.op = k) (hk2 : k ≤ 27) (hO : Og wE) (hx : x.t.At wE) : Calls Tryz.prog 64 #[.pointer (some ⟨q, 0, none⟩), .agg #[.int .i64 k, .int .i64 x.a, .int .i64 x.t.k, .int .i64 x.t.l, .slice x.t.ao x.t.len x.t.cap, .int .i64 x.t.h, .int .i64 x.t.e]] w fun r w' => WR wE p q S w (wIn Q x st) r w' := by
  have H0 := hyd (Wb.new h [.int .i64 k, .int .i64 x.a, .int .i64 x.t.k, .int .i64 x.t.l, .slice x.t.ao x.t.len x.t.cap, .int .i64 x.t.h, .int .i64 x.t.e] 54)
  have HP := hyd hP
  have hmf : ∀ (fn : Fn) (first cap : Array Value) (w : World), (Instr.makeFunc fn first cap).run Tryz.prog w = .ok (.func fn first cap) w := fun _ _ _ _ => rfl
  have HO := hyd (show x.op = k ∧ k ≤ 27 ∧ Og wE ∧ x.t.At wE from ⟨hk, hk2, hO, hx⟩)
  clear hx hk hk2 hO hP
  clear h
  go_enter Tryz.func64, Tryz.ntmps64
  have c0 := H0.out.bA.cell 0 rfl
  have hc := wshort_any H0.out.wg.wl k
  go_wp2_with fail
  refine Calls.mono hc ?_
  rintro _ u1 ⟨rfl, S1, hg⟩
  have H1 := hyd (H0.out.next hg)
  clear hc hg c0 H0
  have c0 := H1.out.bA.cell 0 rfl
  have o0 := (HO.out.2.2.1.kept H1.out.wg.wl.bl) k (by have := HO.out.2.1; omega)
  have hk28 : (k : Int) < 28 := by have := HO.out.2.1; omega
  have HOP : Hid (wIn Q x st = if opr (k : Int) = 1 then wAdd (By.be 8 (By.uns x.a)) (wSh k st) else if opr (k : Int) = 2 ∨ opr (k : Int) = 3 then wSh x.a (wSh k st) else if opr (k : Int) = 4 then wSh (plc Q x.t 1) (wSh k st) else wSh k st) := by show _ = _; unfold wIn wOp; rw [HO.out.1]
  generalize opr (k : Int) = has at *
  by_cases h1 : has = 1
  · subst h1
    have HE : Hid (wIn Q x st = wAdd (By.be 8 (By.uns x.a)) (wSh k st)) := HOP.out
    have c1 := H1.out.bA.cell 1 rfl
    have hl := By.wlong_any nilB x.a u1 (nilB_at u1) (by show 0 ≤ 999000; omega)
    have HL : Hid ((By.mkB u1.heap.size (nilB.len + 8) (By.numG nilB 8 (By.uns x.a))).l = By.be 8 (By.uns x.a)) := by show _ = _; rw [By.numG_l]; rfl
    go_wp2_with fail
    refine Calls.mono hl ?_
    rintro _ u2 ⟨rfl, hA, hb2⟩
    have H2 := hyd (H1.out.kept hb2)
    have hc := add_yes H2.out.wg.wl (By.mkB u1.heap.size (nilB.len + 8) (By.numG nilB 8 (By.uns x.a))) hA (by show 0 < 0 + 8; omega) (by show 0 + 8 ≤ 1000000; omega)
    rw [HL.out] at hc
    clear hl hA hb2 c0 c1 o0 H1
    go_wp2_with fail
    refine Calls.mono hc ?_
    rintro _ u3 ⟨rfl, S3, hg⟩
    have H3 := hyd (H2.out.next hg)
    clear hc hg H2
    go_wp2
    go_end0
    rw [HE.out]
    exact ⟨rfl, _, H3.out.wg⟩
  have d1 : ((has : Int) == 1) = false := by simp; omega
  by_cases h2 : has = 2
  · subst h2
    have HE : Hid (wIn Q x st = wSh x.a (wSh k st)) := HOP.out
    have c1 := H1.out.bA.cell 1 rfl
    have hc := wshort_any H1.out.wg.wl x.a
    go_wp2_with fail
    refine Calls.mono hc ?_
    rintro _ u3 ⟨rfl, S3, hg⟩
    have H3 := hyd (H1.out.next hg)
    clear hc hg H1 c0 c1 o0
    go_wp2
    go_end0
    rw [HE.out]
    exact ⟨rfl, _, H3.out.wg⟩
  have d2 : ((has : Int) == 2) = false := by simp; omega
  by_cases h3 : has = 3
  · subst h3
    have HE : Hid (wIn Q x st = wSh x.a (wSh k st)) := HOP.out
    have c1 := H1.out.bA.cell 1 rfl
    have hc := wshort_any H1.out.wg.wl x.a
    go_wp2_with fail
    refine Calls.mono hc ?_
    rintro _ u3 ⟨rfl, S3, hg⟩
    have H3 := hyd (H1.out.next hg)
    clear hc hg H1 c0 c1 o0
    go_wp2
    go_end0
    rw [HE.out]
    exact ⟨rfl, _, H3.out.wg⟩
  have d3 : ((has : Int) == 3) = false := by simp; omega
  by_cases h4 : has = 4
  · subst h4
    have HE : Hid (wIn Q x st = wSh (plc Q x.t 1) (wSh k st)) := HOP.out
    have c2 := H1.out.bA.cell 2 rfl
    have c3 := H1.out.bA.cell 3 rfl
    have c4 := H1.out.bA.cell 4 rfl
    have c5 := H1.out.bA.cell 5 rfl
    have c6 := H1.out.bA.cell 6 rfl
    have hc := wplace_any HP.out H1.out.wg.wl x.t HO.out.2.2.2
    go_wp2_with fail
    refine Calls.mono hc ?_
    rintro _ u3 ⟨rfl, S3, hg⟩
    have H3 := hyd (H1.out.next hg)
    clear hc hg H1 c0 c2 c3 c4 c5 c6 o0
    go_wp2
    go_end0
    rw [HE.out]
    exact ⟨rfl, _, H3.out.wg⟩
  have d4 : ((has : Int) == 4) = false := by simp; omega
  have HE : Hid (wIn Q x st = wSh k st) := by show _ = _; rw [HOP.out, if_neg h1, if_neg (by omega), if_neg h4]
  clear h1 h2 h3 h4 HOP
  go_wp2
  go_end0
  rw [HE.out]
  exact ⟨rfl, _, H1.out.wg⟩
end Go.Proofs.YtjfijpiadfkmfaaGreatDoor

/- Layer 13: a writer's function. -/
namespace Go.Proofs.YtjfijpiadfkmfaaGreatDoor
open Go Go.RowKit

def wFa (Q : List (List Int)) (f : Cf) (st : Option (List Nat)) : Option (List Nat) := wSh f.sl (wSh (f.e + 1) (wSh f.h (wPs Q f.c (wSh f.c.len (wSh (plc Q f.r 1) (wSh (plc Q f.p 1) st))))))
def wFb (Q : List (List Int)) (f : Cf) (st : Option (List Nat)) : Option (List Nat) := iterS (fun i => wHn (f.hd.x i)) f.hd.len (wSh f.hd.len (iterS (fun i => wIn Q (f.cd.x i)) f.cd.len (wSh f.cd.len st)))
def wFc (Q : List (List Int)) (f : Cf) (st : Option (List Nat)) : Option (List Nat) := iterS (fun i => wRn (f.rg.x i)) f.rg.len (wSh f.rg.len (iterS (fun i => wPt Q (f.pt.x i)) f.pt.len (wSh f.pt.len st)))
def wFn (Q : List (List Int)) (f : Cf) (st : Option (List Nat)) : Option (List Nat) := wFc Q f (wFb Q f (wFa Q f st))
theorem wFn_none (Q : List (List Int)) (f : Cf) : wFn Q f none = none := by
  unfold wFn wFa wFb wFc
  simp only [wSh_none, wPs_none, iterS_nil (fun _ => wIn_none Q _), iterS_nil (fun _ => wHn_none _), iterS_nil (fun _ => wPt_none Q _), iterS_nil (fun _ => wRn_none _)]

theorem winsL_any {w0 wE w : World} {n : Strs} {g : Grid} {p q m : Nat} {v : Value} {es : Array MapEntry} {c : Nat} {Q : List (List Int)} {R : List Ty} {S : Nat → Prop} {st : Option (List Nat)} (hP : Pw w0 n g p m v es c Q R wE) (h : Wl wE p q S st w) (hO : Og wE) (r : Rw In) (hr : InsAt wE r) (hf : ∀ i, i < r.len → ∃ k : Nat, (r.x i).op = k ∧ k ≤ 27) : Calls Tryz.prog 63 #[.pointer (some ⟨q, 0, none⟩), .slice r.ao r.len r.cap, .func (.func 64) #[.pointer (some ⟨q, 0, none⟩)] #[]] w fun x w' => WR wE p q S w (iterS (fun i => wIn Q (r.x i)) r.len (wSh r.len st)) x w' :=
  putList_ins _ r.ao r.len r.cap w S st h (fun u S1 st1 h1 => put_ins _ (fun _ => wIn_none _ _) r.ao r.b r.o r.len r.cap (fun i => (r.x i).vs) u S1 st1 hr.nil hr.bound (fun _ _ => rfl) (fun _ _ => In.vs_one _) (fun i _ hi hb => range_kept (hr.row i hi) hb) (fun i _ _ _ hi h2 => by
    obtain ⟨k, hk, hk2⟩ := hf i hi
    show Calls _ _ #[_, .agg #[.int .i64 (r.x i).op, .int .i64 (r.x i).a, .int .i64 (r.x i).t.k, .int .i64 (r.x i).t.l, .slice (r.x i).t.ao (r.x i).t.len (r.x i).t.cap, .int .i64 (r.x i).t.h, .int .i64 (r.x i).t.e]] _ _
    rw [hk]
    exact wins_any hP h2 (r.x i) k hk hk2 hO (hr.each i hi).t) h1)

theorem whandL_any {wE w : World} {p q : Nat} {S : Nat → Prop} {st : Option (List Nat)} (h : Wl wE p q S st w) (r : Rw Hn) (hr : HnsAt wE r) : Calls Tryz.prog 65 #[.pointer (some ⟨q, 0, none⟩), .slice r.ao r.len r.cap, .func (.func 66) #[.pointer (some ⟨q, 0, none⟩)] #[]] w fun x w' => WR wE p q S w (iterS (fun i => wHn (r.x i)) r.len (wSh r.len st)) x w' :=
  putList_hand _ r.ao r.len r.cap w S st h (fun u S1 st1 h1 => put_hand _ (fun _ => wHn_none _) r.ao r.b r.o r.len r.cap (fun i => (r.x i).vs) u S1 st1 hr.nil hr.bound (fun _ _ => rfl) (fun _ _ => Hn.vs_one _) (fun i _ hi hb => range_kept (hr.row i hi) hb) (fun i _ _ _ _ h2 => whand_any h2 (r.x i)) h1)

theorem wptL_any {w0 wE w : World} {n : Strs} {g : Grid} {p q m : Nat} {v : Value} {es : Array MapEntry} {c : Nat} {Q : List (List Int)} {R : List Ty} {S : Nat → Prop} {st : Option (List Nat)} (hP : Pw w0 n g p m v es c Q R wE) (hR : R.length ≤ 2000000000) (h : Wl wE p q S st w) (r : Rw Pt) (hr : PtsAt wE r) : Calls Tryz.prog 67 #[.pointer (some ⟨q, 0, none⟩), .slice r.ao r.len r.cap, .func (.func 68) #[.pointer (some ⟨q, 0, none⟩)] #[]] w fun x w' => WR wE p q S w (iterS (fun i => wPt Q (r.x i)) r.len (wSh r.len st)) x w' :=
  putList_point _ r.ao r.len r.cap w S st h (fun u S1 st1 h1 => put_point _ (fun _ => wPt_none _ _) r.ao r.b r.o r.len r.cap (fun i => (r.x i).vs) u S1 st1 hr.nil hr.bound (fun _ _ => rfl) (fun _ _ => Pt.vs_one _) (fun i _ hi hb => range_kept (hr.row i hi) hb) (fun i _ _ _ hi h2 => wpoint_any hP hR h2 (r.x i) (hr.each i hi)) h1)

theorem wrnL_any {wE w : World} {p q : Nat} {S : Nat → Prop} {st : Option (List Nat)} (h : Wl wE p q S st w) (r : Rw Rn) (hr : RnsAt wE r) (hf : ∀ i, i < r.len → -1 ≤ (r.x i).join ∧ (r.x i).join ≤ 65534) : Calls Tryz.prog 69 #[.pointer (some ⟨q, 0, none⟩), .slice r.ao r.len r.cap, .func (.func 70) #[.pointer (some ⟨q, 0, none⟩)] #[]] w fun x w' => WR wE p q S w (iterS (fun i => wRn (r.x i)) r.len (wSh r.len st)) x w' :=
  putList_region _ r.ao r.len r.cap w S st h (fun u S1 st1 h1 => put_region _ (fun _ => wRn_none _) r.ao r.b r.o r.len r.cap (fun i => (r.x i).vs) u S1 st1 hr.nil hr.bound (fun _ _ => rfl) (fun _ _ => Rn.vs_one _) (fun i _ hi hb => range_kept (hr.row i hi) hb) (fun i _ _ _ hi h2 => wregion_any h2 (r.x i) (hr.each i hi) (hf i hi).1 (hf i hi).2) h1)

/-- What a formed function's writing asks for. -/
structure Wok (f : Cf) : Prop where
  e0 : -1 ≤ f.e
  e1 : f.e ≤ 100
  cd : ∀ i, i < f.cd.len → ∃ k : Nat, (f.cd.x i).op = k ∧ k ≤ 27
  rg : ∀ i, i < f.rg.len → -1 ≤ (f.rg.x i).join ∧ (f.rg.x i).join ≤ 65534

set_option maxRecDepth 100000 in
set_option maxHeartbeats 8000000 in
theorem wfunc_any {w0 wE w : World} {n : Strs} {g : Grid} {p q m : Nat} {v : Value} {es : Array MapEntry} {c : Nat} {Q : List (List Int)} {R : List Ty} {S : Nat → Prop} {st : Option (List Nat)} (hP : Pw w0 n g p m v es c Q R wE) (hR : R.length ≤ 2000000000) (h : Wl wE p q S st w) (x : Cf) (hx : x.At wE) (hk : Wok x) (hO : Og wE) : Calls Tryz.prog 34 #[.pointer (some ⟨q, 0, none⟩), .agg #[.int .i64 x.p.k, .int .i64 x.p.l, .slice x.p.ao x.p.len x.p.cap, .int .i64 x.p.h, .int .i64 x.p.e, .int .i64 x.r.k, .int .i64 x.r.l, .slice x.r.ao x.r.len x.r.cap, .int .i64 x.r.h, .int .i64 x.r.e, .slice x.c.ao x.c.len x.c.cap, .int .i64 x.h, .int .i64 x.e, .int .i64 x.sl, .slice x.cd.ao x.cd.len x.cd.cap, .slice x.hd.ao x.hd.len x.hd.cap, .slice x.pt.ao x.pt.len x.pt.cap, .slice x.rg.ao x.rg.len x.rg.cap]] w fun r w' => WR wE p q S w (wFn Q x st) r w' := by
  have H0 := hyd (Wb.new h [.int .i64 x.p.k, .int .i64 x.p.l, .slice x.p.ao x.p.len x.p.cap, .int .i64 x.p.h, .int .i64 x.p.e, .int .i64 x.r.k, .int .i64 x.r.l, .slice x.r.ao x.r.len x.r.cap, .int .i64 x.r.h, .int .i64 x.r.e, .slice x.c.ao x.c.len x.c.cap, .int .i64 x.h, .int .i64 x.e, .int .i64 x.sl, .slice x.cd.ao x.cd.len x.cd.cap, .slice x.hd.ao x.hd.len x.hd.cap, .slice x.pt.ao x.pt.len x.pt.cap, .slice x.rg.ao x.rg.len x.rg.cap] 42)
  have HP := hyd hP
  have hmf : ∀ (fn : Fn) (first cap : Array Value) (w : World), (Instr.makeFunc fn first cap).run Tryz.prog w = .ok (.func fn first cap) w := fun _ _ _ _ => rfl
  have HX := hyd hx
  have HK := hyd hk
  have HO := hyd hO
  have HR := hyd hR
  clear hx hk hO hP hR
  clear h
  go_enter Tryz.func34, Tryz.ntmps34
  have c0 := H0.out.bA.cell 0 rfl
  have c1 := H0.out.bA.cell 1 rfl
  have c2 := H0.out.bA.cell 2 rfl
  have c3 := H0.out.bA.cell 3 rfl
  have c4 := H0.out.bA.cell 4 rfl
  have hc := wplace_any HP.out H0.out.wg.wl x.p HX.out.p
  go_wp2_with fail
  refine Calls.mono hc ?_
  rintro _ u1 ⟨rfl, S1, hg⟩
  have H1 := hyd (H0.out.next hg)
  clear hc hg c0 c1 c2 c3 c4 H0
  have c5 := H1.out.bA.cell 5 rfl
  have c6 := H1.out.bA.cell 6 rfl
  have c7 := H1.out.bA.cell 7 rfl
  have c8 := H1.out.bA.cell 8 rfl
  have c9 := H1.out.bA.cell 9 rfl
  have hc := wplace_any HP.out H1.out.wg.wl x.r HX.out.r
  go_wp2_with fail
  refine Calls.mono hc ?_
  rintro _ u2 ⟨rfl, S2, hg⟩
  have H2 := hyd (H1.out.next hg)
  clear hc hg c5 c6 c7 c8 c9 H1
  have c10 := H2.out.bA.cell 10 rfl
  have hc := wplaceL_any HP.out H2.out.wg.wl x.c HX.out.c
  go_wp2_with fail
  refine Calls.mono hc ?_
  rintro _ u3 ⟨rfl, S3, hg⟩
  have H3 := hyd (H2.out.next hg)
  clear hc hg c10 H2
  have c11 := H3.out.bA.cell 11 rfl
  have hc := wshort_any H3.out.wg.wl x.h
  go_wp2_with fail
  refine Calls.mono hc ?_
  rintro _ u4 ⟨rfl, S4, hg⟩
  have H4 := hyd (H3.out.next hg)
  clear hc hg c11 H3
  have c12 := H4.out.bA.cell 12 rfl
  have hc := worNone_any H4.out.wg.wl x.e HK.out.e0 (by have := HK.out.e1; omega)
  go_wp2_with fail
  refine Calls.mono hc ?_
  rintro _ u5 ⟨rfl, S5, hg⟩
  have H5 := hyd (H4.out.next hg)
  clear hc hg c12 H4
  have c13 := H5.out.bA.cell 13 rfl
  have hc := wshort_any H5.out.wg.wl x.sl
  go_wp2_with fail
  refine Calls.mono hc ?_
  rintro _ u6 ⟨rfl, S6, hg⟩
  have H6 := hyd (H5.out.next hg)
  clear hc hg c13 H5
  have c14 := H6.out.bA.cell 14 rfl
  have hc := winsL_any HP.out H6.out.wg.wl HO.out x.cd HX.out.cd HK.out.cd
  go_wp2_with fail
  refine Calls.mono hc ?_
  rintro _ u7 ⟨rfl, S7, hg⟩
  have H7 := hyd (H6.out.next hg)
  clear hc hg c14 H6
  have c15 := H7.out.bA.cell 15 rfl
  have hc := whandL_any H7.out.wg.wl x.hd HX.out.hd
  go_wp2_with fail
  refine Calls.mono hc ?_
  rintro _ u8 ⟨rfl, S8, hg⟩
  have H8 := hyd (H7.out.next hg)
  clear hc hg c15 H7
  have c16 := H8.out.bA.cell 16 rfl
  have hc := wptL_any HP.out HR.out H8.out.wg.wl x.pt HX.out.pt
  go_wp2_with fail
  refine Calls.mono hc ?_
  rintro _ u9 ⟨rfl, S9, hg⟩
  have H9 := hyd (H8.out.next hg)
  clear hc hg c16 H8
  have c17 := H9.out.bA.cell 17 rfl
  have hc := wrnL_any H9.out.wg.wl x.rg HX.out.rg HK.out.rg
  go_wp2_with fail
  refine Calls.mono hc ?_
  rintro _ u10 ⟨rfl, S10, hg⟩
  have H10 := hyd (H9.out.next hg)
  clear hc hg c17 H9
  go_wp2
  go_end0
  exact ⟨rfl, _, H10.out.wg⟩
end Go.Proofs.YtjfijpiadfkmfaaGreatDoor

/- Layer 13: a writer's row of the order. -/
namespace Go.Proofs.YtjfijpiadfkmfaaGreatDoor
open Go Go.RowKit

def rowN (B : Nat → Bool) : Nat → Nat
  | 0 => 0
  | k + 1 => rowN B k + (if B k then 2 ^ k else 0)
theorem rowN_lt (B : Nat → Bool) : ∀ k, rowN B k < 2 ^ k
  | 0 => by show 0 < 1; omega
  | k + 1 => by
    have h := rowN_lt B k
    show rowN B k + _ < 2 ^ (k + 1)
    rw [Nat.pow_succ]
    split <;> omega
theorem shl8i (a : Nat) (ha : a < 8) : IntKind.i64.wrap (2 ^ a) = ((2 ^ a : Nat) : Int) := by
  have hp : (2 : Nat) ^ a ≤ 2 ^ 8 := Nat.pow_le_pow_right (by omega) (by omega)
  have hc : ((2 : Int) ^ a) = ((2 ^ a : Nat) : Int) := by simp
  rw [hc, IntKind.wrap_i64]
  generalize (2 : Nat) ^ a = p at *
  omega

set_option maxRecDepth 100000 in
set_option maxHeartbeats 4000000 in
theorem wrow_any {wE w : World} {p q : Nat} {S : Nat → Prop} {st : Option (List Nat)} (h : Wl wE p q S st w) (ao : Option Addr) (b o len cap : Nat) (B : Nat → Bool) (h8 : len ≤ 8) (hnil : 0 < len → ao = some ⟨b, o, none⟩) (hrow : ∀ i, i < len → wE.cell? ⟨b, o + i, none⟩ = some (.bool (B i))) :
    Calls Tryz.prog 30 #[.pointer (some ⟨q, 0, none⟩), .slice ao len cap] w fun r w' => WR wE p q S w (wSh (rowN B len : Nat) st) r w' := by
  have HI := hyd h
  have HH := hyd hrow
  clear h hrow
  go_enter Tryz.func30, Tryz.ntmps30
  go_wp2
  go_loopw [4, 9] (fun s i wr => ∃ (k : Nat), k ≤ len ∧ i = .int .i64 k ∧ s = .int .i64 (rowN B k : Nat) ∧ Wg wE p q S w S st wr) (fun _ i _ => len - (intOf i).toNat)
  case atStart => exact ⟨0, Nat.zero_le _, rfl, rfl, Wg.of HI.out (Below.refl _ _)⟩
  case round =>
    clear HI
    obtain ⟨k, hk, rfl, rfl, hB⟩ := hrel
    have HI := hyd hB
    clear hB
    by_cases hlt : k < len
    · have ij : (k : Int) < len := by omega
      have a0 := hnil (by omega)
      subst a0
      have r1 := up HI.out.wl.bl (HH.out k hlt)
      have g4 := shl8i k (by omega)
      have k8 : (k : Int) < 8 := by omega
      have HL := hyd (rowN_lt B k)
      have HP : Hid ((2 : Nat) ^ k ≤ 2 ^ 8) := Nat.pow_le_pow_right (by omega) (by omega)
      have HE : Hid (rowN B (k + 1) = rowN B k + (if B k then 2 ^ k else 0)) := rfl
      have hs : rowN B k < 1000 := by have h1 := HL.out; have h2 := HP.out; omega
      cases hb : B k
      · rw [hb] at r1
        go_wp2
        go_roundw
        case rel => exact ⟨k + 1, by omega, by go_num, by rw [HE.out, hb]; rfl, HI.out⟩
        case measure => simp [intOf]; omega
      · rw [hb] at r1
        have hp : (2 : Nat) ^ k < 1000 := by have h2 := HP.out; omega
        go_wp2
        go_roundw
        case rel =>
          refine ⟨k + 1, by omega, by go_num, ?_, HI.out⟩
          have hc : ((2 : Int) ^ k) = ((2 ^ k : Nat) : Int) := by simp
          rw [HE.out, if_pos hb]
          simp only [hc]
          have h9 : wrap64 ((rowN B k : Int) + ((2 ^ k : Nat) : Int)) = ((rowN B k + 2 ^ k : Nat) : Int) := by
            generalize (2 : Nat) ^ k = z at *
            unfold wrap64
            omega
          rw [h9]
        case measure => simp [intOf]; omega
    · have e2 : k = len := by omega
      subst e2
      have d : ¬ (k : Int) < k := by omega
      have hc := wshort_any HI.out.wl (rowN B k : Nat)
      go_wp2_with fail
      refine Calls.mono hc ?_
      rintro _ u2 ⟨rfl, S2, hg⟩
      have HG2 := hyd (HI.out.trans hg)
      clear hc hg
      go_wp2
      go_end0
      exact ⟨rfl, S2, HG2.out⟩
end Go.Proofs.YtjfijpiadfkmfaaGreatDoor

/- Layer 13: a writer's class. -/
namespace Go.Proofs.YtjfijpiadfkmfaaGreatDoor
open Go Go.RowKit

theorem flatL_get : ∀ {R : List Ty} {i : Nat} {t : Ty}, R[i]? = some t → ∀ {j : Nat} {v : Value}, t.vs[j]? = some v → (flatL R)[i * 5 + j]? = some v
  | [], _, _, h, _, _, _ => by simp at h
  | a :: R, 0, t, h, j, v, hv => by
    simp at h
    subst h
    have hj := (List.getElem?_eq_some_iff.1 hv).1
    unfold flatL
    rw [List.flatMap_cons, Nat.zero_mul, Nat.zero_add, List.getElem?_append_left hj]
    exact hv
  | a :: R, i + 1, t, h, j, v, hv => by
    have ih := flatL_get (R := R) (i := i) (t := t) (by simpa using h) hv
    unfold flatL at ih ⊢
    have h5 : a.vs.length = 5 := rfl
    rw [List.flatMap_cons, List.getElem?_append_right (by rw [h5]; omega), h5, show (i + 1) * 5 + j - 5 = i * 5 + j by omega]
    exact ih
theorem pool_rows {w : World} {base : Nat} {v : Value} {R : List Ty} (h : w.ownsRow base 36 5 v R.length (flatL R)) :
    ∃ ao b cap, v = .slice ao R.length cap ∧ (0 < R.length → ao = some ⟨b, 0, none⟩) ∧ R.length ≤ 9223372036854775807 ∧ ∀ i t, R[i]? = some t → w.rangeAt b (0 + i * 5) t.vs := by
  obtain ⟨_, ⟨rfl, h2⟩ | ⟨gg, cap, cur, rfl, _, hh, h3, h4, h5, h6⟩⟩ := h
  · refine ⟨none, 0, 0, by rw [h2], fun h => absurd h (by omega), by omega, fun i t ht => ?_⟩
    have := (List.getElem?_eq_some_iff.1 ht).1
    omega
  · refine ⟨_, gg, cap, rfl, fun _ => rfl, Nat.le_trans h3 h4, fun i t ht j v hv => ?_⟩
    have h7 := flatL_get ht hv
    rw [← h6] at h7
    rw [List.getElem?_take] at h7
    have h9 : cur[i * 5 + j]? = some v := by
      rw [← Array.getElem?_toList]
      split at h7
      · exact h7
      · cases h7
    simp only [World.cell?, Nat.zero_add, hh]
    exact h9
theorem ok_exc {N : Nat} (hN : N ≤ 8) {t : Ty} (h : t.ok N = true) : t.k = 4 → -1 ≤ t.e ∧ t.e ≤ 100 := by
  intro hk
  have h1 := (ok_fm h).1
  cases t with
  | dm => simp [Ty.fm] at h1
  | mk k l hh e ao b o len cap ps =>
    have hk4 : k = 4 := hk
    subst hk4
    rw [fm_eq] at h1
    simp only [Bool.and_eq_true, decide_eq_true_eq, beq_iff_eq] at h1
    have h2 := h1.1.2
    show -1 ≤ e ∧ e ≤ 100
    simp [bndI, inR] at h2
    omega
theorem fm_wok {N : Nat} (hN : N ≤ 8) {f : Cf} (h : f.fm N = true) : Wok f := by
  unfold Cf.fm at h
  simp only [Bool.and_eq_true, decide_eq_true_eq] at h
  obtain ⟨⟨h1, _⟩, _, _, h2, _, _, h3⟩ := h
  unfold Cf.bnds inR at h1
  simp only [Bool.and_eq_true, Bool.or_eq_true, decide_eq_true_eq] at h1
  refine ⟨by omega, by omega, fun i hi => ?_, fun i hi => ?_⟩
  · have h4 := h2 i hi
    unfold In.fm at h4
    simp only [Bool.and_eq_true, decide_eq_true_eq] at h4
    exact ⟨(f.cd.x i).op.toNat, by omega, by omega⟩
  · have h4 := h3 i hi
    unfold Rn.fm at h4
    simp only [Bool.and_eq_true, decide_eq_true_eq] at h4
    omega
def wCa (c : Kl) (st : Option (List Nat)) : Option (List Nat) := iterS (fun i => wSh (rowN (c.g.B i) (c.g.L i) : Nat)) c.g.len (iterS (fun i => wTx (c.n.s i)) c.n.len (wSh c.n.len (wSh 1 (wSh 20563 st))))
def wCb (Q : List (List Int)) (R : List Ty) (st : Option (List Nat)) : Option (List Nat) := iterS (fun i => wTy Q (R.getD i .dm)) R.length (wSh R.length st)
def wCl (Q : List (List Int)) (R : List Ty) (c : Kl) (st : Option (List Nat)) : Option (List Nat) := iterS (fun i => wFn Q (c.fs.x i)) c.fs.len (wSh c.fs.len (wCb Q R (wCa c st)))
theorem wnames_any {wE w : World} {p q : Nat} {S : Nat → Prop} {st : Option (List Nat)} (h : Wl wE p q S st w) (n : Strs) (hn : n.At wE) : Calls Tryz.prog 27 #[.pointer (some ⟨q, 0, none⟩), .slice n.ao n.len n.cap, .func (.func 28) #[.pointer (some ⟨q, 0, none⟩)] #[]] w fun x w' => WR wE p q S w (iterS (fun i => wTx (n.s i)) n.len (wSh n.len st)) x w' :=
  putList_text _ n.ao n.len n.cap w S st h (fun u S1 st1 h1 => put_text _ (fun _ => wTx_none _) n.ao n.b n.o n.len n.cap n.s u S1 st1 hn.nil hn.bound (fun i _ hi hb => (hn.kept hb).cell i hi) (fun i _ _ _ hi h2 => wtext_any h2 (n.s i) (hn.sz i hi)) h1)
theorem wrows_any {wE w : World} {p q : Nat} {S : Nat → Prop} {st : Option (List Nat)} (h : Wl wE p q S st w) (g : Grid) (hg : g.At wE) (h8 : ∀ i, i < g.len → g.L i ≤ 8) : Calls Tryz.prog 29 #[.pointer (some ⟨q, 0, none⟩), .slice g.ao g.len g.cap, .func (.func 30) #[.pointer (some ⟨q, 0, none⟩)] #[]] w fun x w' => WR wE p q S w (iterS (fun i => wSh (rowN (g.B i) (g.L i) : Nat)) g.len st) x w' :=
  put_row _ (fun _ => wSh_none _) g.ao g.gb g.go g.len g.cap (fun i => (g.A i, g.L i, g.C i)) w S st hg.nil hg.bound (fun i _ hi hb => (hg.kept hb).row i hi) (fun i _ _ _ hi h2 => wrow_any h2 (g.A i) (g.AB i) (g.AO i) (g.L i) (g.C i) (g.B i) (h8 i hi) (hg.adr i hi) (hg.cell i hi)) h
theorem wtypL_any {w0 wE w : World} {n : Strs} {g : Grid} {p q m : Nat} {v : Value} {es : Array MapEntry} {c : Nat} {Q : List (List Int)} {R : List Ty} {S : Nat → Prop} {st : Option (List Nat)} (hP : Pw w0 n g p m v es c Q R wE) (h : Wl wE p q S st w) (h8 : n.len ≤ 8) (ao : Option Addr) (b cap : Nat) (hnil : 0 < R.length → ao = some ⟨b, 0, none⟩) (hbd : R.length ≤ 9223372036854775807) (hrow : ∀ i t, R[i]? = some t → wE.rangeAt b (0 + i * 5) t.vs) : Calls Tryz.prog 31 #[.pointer (some ⟨q, 0, none⟩), .slice ao R.length cap, .func (.func 32) #[.pointer (some ⟨q, 0, none⟩)] #[]] w fun x w' => WR wE p q S w (wCb Q R st) x w' := by
  have hget : ∀ i, i < R.length → R[i]? = some (R.getD i .dm) := fun i hi => by rw [List.getD_eq_getElem?_getD, List.getElem?_eq_getElem hi]; rfl
  exact putList_typ _ ao R.length cap w S st h (fun u S1 st1 h1 => put_typ _ (fun _ => wTy_none _ _) ao b 0 R.length cap (fun i => (R.getD i .dm).vs) u S1 st1 hnil hbd (fun _ _ => rfl) (fun _ _ => tvs_one _) (fun i _ hi hb => range_kept (hrow i _ (hget i hi)) hb) (fun i _ _ _ hi h2 => wtyp_any hP h2 (R.getD i .dm) ((hP.at_ _ (List.mem_of_getElem? (hget i hi))).kept hP.bl) (ok_exc h8 (hP.good.ok _ (List.mem_of_getElem? (hget i hi))))) h1)
theorem wfnL_any {w0 wE w : World} {n : Strs} {g : Grid} {p q m : Nat} {v : Value} {es : Array MapEntry} {c : Nat} {Q : List (List Int)} {R : List Ty} {S : Nat → Prop} {st : Option (List Nat)} (hP : Pw w0 n g p m v es c Q R wE) (hR : R.length ≤ 2000000000) (h : Wl wE p q S st w) (hO : Og wE) (r : Rw Cf) (hr : CfsAt wE r) (hk : ∀ i, i < r.len → Wok (r.x i)) : Calls Tryz.prog 33 #[.pointer (some ⟨q, 0, none⟩), .slice r.ao r.len r.cap, .func (.func 34) #[.pointer (some ⟨q, 0, none⟩)] #[]] w fun x w' => WR wE p q S w (iterS (fun i => wFn Q (r.x i)) r.len (wSh r.len st)) x w' :=
  putList_func _ r.ao r.len r.cap w S st h (fun u S1 st1 h1 => put_func _ (fun _ => wFn_none _ _) r.ao r.b r.o r.len r.cap (fun i => (r.x i).vs) u S1 st1 hr.nil hr.bound (fun _ _ => rfl) (fun _ _ => Cf.vs_one _) (fun i _ hi hb => range_kept (hr.row i hi) hb) (fun i _ _ _ hi h2 => wfunc_any hP hR h2 (r.x i) (hr.each i hi) (hk i hi) hO) h1)
theorem Wl.c0 {wE w : World} {p q : Nat} {S : Nat → Prop} {st : Option (List Nat)} (h : Wl wE p q S st w) : w.cell? ⟨q, 0, none⟩ = some (.pointer (some ⟨p, 0, none⟩)) := by
  obtain ⟨v, lg, l, hW, _⟩ := h
  exact hW.blk.cell 0 rfl

set_option maxRecDepth 100000 in
set_option maxHeartbeats 8000000 in
theorem wclass_any {w0 wE w : World} {n : Strs} {g : Grid} {p q m : Nat} {v : Value} {es : Array MapEntry} {c : Nat} {Q : List (List Int)} {R : List Ty} {S : Nat → Prop} {st : Option (List Nat)} (hP : Pw w0 n g p m v es c Q R wE) (hR : R.length ≤ 2000000000) (h : Wl wE p q S st w) (x : Kl) (hx : x.At wE) (hk : n.len ≤ 8 ∧ (∀ i, i < x.g.len → x.g.L i ≤ 8) ∧ ∀ i, i < x.fs.len → Wok (x.fs.x i)) (hO : Og wE) : Calls Tryz.prog 17 #[.pointer (some ⟨q, 0, none⟩), .agg #[.slice x.n.ao x.n.len x.n.cap, .slice x.g.ao x.g.len x.g.cap, .slice x.fs.ao x.fs.len x.fs.cap]] w fun r w' => WR wE p q S w (wCl Q R x st) r w' := by
  have H0 := hyd (Wb.new h [.slice x.n.ao x.n.len x.n.cap, .slice x.g.ao x.g.len x.g.cap, .slice x.fs.ao x.fs.len x.fs.cap] 28)
  have HP := hyd hP
  have hmf : ∀ (fn : Fn) (first cap : Array Value) (w : World), (Instr.makeFunc fn first cap).run Tryz.prog w = .ok (.func fn first cap) w := fun _ _ _ _ => rfl
  have HX := hyd hx
  have HK := hyd hk
  have HO := hyd hO
  have HR := hyd hR
  clear hx hk hO hP hR
  clear h
  go_enter Tryz.func17, Tryz.ntmps17
  have hc := wshort_any H0.out.wg.wl 20563
  go_wp2_with fail
  refine Calls.mono hc ?_
  rintro _ u1 ⟨rfl, S1, hg⟩
  have H1 := hyd (H0.out.next hg)
  clear hc hg  H0
  have hc := wshort_any H1.out.wg.wl 1
  go_wp2_with fail
  refine Calls.mono hc ?_
  rintro _ u2 ⟨rfl, S2, hg⟩
  have H2 := hyd (H1.out.next hg)
  clear hc hg  H1
  have c0 := H2.out.bA.cell 0 rfl
  have hc := wnames_any H2.out.wg.wl x.n HX.out.n
  go_wp2_with fail
  refine Calls.mono hc ?_
  rintro _ u3 ⟨rfl, S3, hg⟩
  have H3 := hyd (H2.out.next hg)
  clear hc hg c0 H2
  have c1 := H3.out.bA.cell 1 rfl
  have hc := wrows_any H3.out.wg.wl x.g HX.out.g HK.out.2.1
  go_wp2_with fail
  refine Calls.mono hc ?_
  rintro _ u4 ⟨rfl, S4, hg⟩
  have H4 := hyd (H3.out.next hg)
  clear hc hg c1 H3
  have c0 := H4.out.wg.wl.c0
  have c9 := (HP.out.blk.kept H4.out.wg.wl.bl).cell 2 rfl
  obtain ⟨ao, b, cap, hv, hr⟩ := pool_rows HP.out.own
  have HV := hyd hr
  clear hr
  rw [hv] at c9
  have hc := wtypL_any HP.out H4.out.wg.wl HK.out.1 ao b cap HV.out.1 HV.out.2.1 HV.out.2.2
  clear hv
  go_wp2_with fail
  refine Calls.mono hc ?_
  rintro _ u5 ⟨rfl, S5, hg⟩
  have H5 := hyd (H4.out.next hg)
  clear hc hg c0 c9 H4
  have c2 := H5.out.bA.cell 2 rfl
  have hc := wfnL_any HP.out HR.out H5.out.wg.wl HO.out x.fs HX.out.fs HK.out.2.2
  go_wp2_with fail
  refine Calls.mono hc ?_
  rintro _ u6 ⟨rfl, S6, hg⟩
  have H6 := hyd (H5.out.next hg)
  clear hc hg c2 H5
  go_wp2
  go_end0
  exact ⟨rfl, _, H6.out.wg⟩
end Go.Proofs.YtjfijpiadfkmfaaGreatDoor
