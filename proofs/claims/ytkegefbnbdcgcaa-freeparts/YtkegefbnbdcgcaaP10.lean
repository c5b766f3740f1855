/- Layer 8: the expressions that the statement FreeParts writes out. -/
import Derived.Test.YtkegefbnbdcgcaaP9
import Derived.Deep.QuietTactic
import Derived.BigQuiet
import Derived.Test.YtkegefbnbdcgcaaP1
import Derived.ProofKit
import Derived.Deep.Grids
import Derived.Lib.SmallJoins
import Derived.Test.YtkegefbnbdcgcaaP3
namespace Go.Proofs.Ytkegefbnbdcgcaa
open Go Go.RowKit

theorem range_midF {w : World} {B : Nat} (pre vs post : List Value) (h : w.rangeAt B 0 (pre ++ vs ++ post)) : w.rangeAt B pre.length vs := fun j v hv => by
  have hj : j < vs.length := by
    rcases Nat.lt_or_ge j vs.length with h | h
    · exact h
    · rw [List.getElem?_eq_none h] at hv; cases hv
  have := h (pre.length + j) v (by rw [List.append_assoc, List.getElem?_append_right (by omega), List.getElem?_append_left (by omega)]; simpa using hv)
  simpa using this
/-- It lies there, and may be counted. -/
structure Ly (w : World) (e : Ex) : Prop where
  a : e.At w
  z : e.Nz w
theorem Ly.kept {w w' : World} {e : Ex} (h : Ly w e) (hb : Below w.heap.size w w') : Ly w' e := ⟨h.a.kept hb, h.z.kept hb⟩
theorem Blk.nfz {w : World} {B : Nat} {c : List Value} {t : TypeId} (h : Blk w B c t) : Nfz w ⟨B, 0, none⟩ := ⟨⟨_, _, _, h⟩, h.frozen 0⟩
def twoE (k : Int) (tx : ByteArray) (B : Nat) (a b : Ex) : Ex := .mk k 0 0 tx ⟨#[]⟩ zTF zTF (some ⟨B, 0, none⟩) B 0 2 2 (fun i => match i with | 0 => a | _ => b) 0
def funE (tx ar : ByteArray) (B : Nat) (a : Ex) : Ex := .mk 6 0 0 tx ar zTF zTF (some ⟨B, 0, none⟩) B 0 1 1 (fun _ => a) 0
theorem ly_two {w : World} {k : Int} {tx : ByteArray} {B : Nat} {a b : Ex} (h : Blk w B (a.vs ++ b.vs) 27) (hx : tx.size ≤ 9223372036854775807) (ha : Ly w a) (hb : Ly w b) : Ly w (twoE k tx B a b) :=
  ⟨⟨⟨hx, by decide⟩, ⟨zTF_at _, zTF_at _⟩, fun _ => rfl, by decide, fun i hi => by
    match i, hi with
    | 0, _ => exact ⟨C17.of_range (range_midF [] a.vs b.vs (by rw [List.nil_append]; exact h.range)), ha.a⟩
    | 1, _ => exact ⟨C17.of_range (range_midF a.vs b.vs [] (by rw [List.append_nil]; exact h.range)), hb.a⟩⟩, fun _ => h.nfz, fun i hi => by
    match i, hi with
    | 0, _ => exact ha.z
    | 1, _ => exact hb.z⟩
theorem ly_fun {w : World} {tx ar : ByteArray} {B : Nat} {a : Ex} (h : Blk w B a.vs 27) (hx : tx.size ≤ 9223372036854775807) (hy : ar.size ≤ 9223372036854775807) (ha : Ly w a) : Ly w (funE tx ar B a) :=
  ⟨⟨⟨hx, hy⟩, ⟨zTF_at _, zTF_at _⟩, fun _ => rfl, by decide, fun i hi => by
    have : i = 0 := by have : i < 1 := hi; omega
    subst this
    exact ⟨C17.of_range (by simpa using h.range), ha.a⟩⟩, fun _ => h.nfz, fun _ _ => ha.z⟩
theorem two_nodes (k : Int) (tx : ByteArray) (B : Nat) (a b : Ex) : (twoE k tx B a b).nodes = 1 + (a.nodes + b.nodes) := by
  show 1 + sumTo _ 2 = _
  simp [sumTo]
theorem two_nest (k : Int) (tx : ByteArray) (B : Nat) (a b : Ex) : (twoE k tx B a b).nest = 1 + max a.nest b.nest := by
  show 1 + mxTo _ 2 = _
  simp [mxTo]
theorem fun_nodes (tx ar : ByteArray) (B : Nat) (a : Ex) : (funE tx ar B a).nodes = 1 + a.nodes := by
  show 1 + sumTo _ 1 = _
  simp [sumTo]
theorem fun_nest (tx ar : ByteArray) (B : Nat) (a : Ex) : (funE tx ar B a).nest = 1 + a.nest := by
  show 1 + mxTo _ 1 = _
  simp [mxTo]
theorem pair_fr (B : Nat) (a b : Ex) (s : ByteArray) : (twoE 8 ⟨#[]⟩ B a b).fr s = (a.fr s || b.fr s) := by
  have e0 : ∀ i, bnd (twoE 8 ⟨#[]⟩ B a b) i = [] := fun i => rfl
  show (((8 : Int) == 3) && _ || anyTo (fun i => _ && !inL s (bnd (twoE 8 ⟨#[]⟩ B a b) i)) 2) = _
  simp [anyTo, e0, inL]
theorem let_fr (tx : ByteArray) (B : Nat) (a b : Ex) (s : ByteArray) : (twoE 4 tx B a b).fr s = (a.fr s || (b.fr s && !(s.toList == tx.toList))) := by
  have e0 : bnd (twoE 4 tx B a b) 0 = [] := rfl
  have e1 : bnd (twoE 4 tx B a b) 1 = [tx] := rfl
  show (((4 : Int) == 3) && _ || anyTo (fun i => _ && !inL s (bnd (twoE 4 tx B a b) i)) 2) = _
  simp [anyTo, e0, e1, inL]
theorem fun_fr (tx ar : ByteArray) (B : Nat) (a : Ex) (s : ByteArray) : (funE tx ar B a).fr s = (a.fr s && !(s.toList == tx.toList) && !(s.toList == ar.toList)) := by
  have e0 : bnd (funE tx ar B a) 0 = [tx, ar] := rfl
  show (((6 : Int) == 3) && _ || anyTo (fun i => _ && !inL s (bnd (funE tx ar B a) i)) 1) = _
  simp [anyTo, e0, inL, Bool.and_assoc]
section
variable {ops : Array Oper} {rest : List Oper} {o o1 o2 : Oper} {a : Act} {w : World} {Q : Exit → Act → World → Prop}
theorem newF_ex (hg1 : o1.guard = none) (hg2 : o2.guard = none) (h1 : o1.op = .alloc 27) (x y : Operand) (h2 : o2.op = .store 27 x y) (hd2 : o2.dst = none)
    (hx : (a.put o1.dst (.pointer (some ⟨w.heap.size, 0, none⟩))).eval x = .pointer (some ⟨w.heap.size, 0, none⟩)) (e : Ex) (hy : (a.put o1.dst (.pointer (some ⟨w.heap.size, 0, none⟩))).eval y = .agg e.va)
    (h : ∀ w', Blk w' w.heap.size e.vs 27 → Below w.heap.size w w' → wpList Try.prog ops Q rest (a.put o1.dst (.pointer (some ⟨w.heap.size, 0, none⟩))) w') : wpList Try.prog ops Q (o1 :: o2 :: rest) a w :=
  wpList_new_ex hg1 hg2 h1 x y h2 hd2 hx e hy (h _ (Blk.new _ _ _) (below_alloc _ _))
theorem newF_slice1 (hgd : o.guard = none) (x : Operand) (ho : o.op = .buildSlice 25 1 #[(0, x)]) (t : Ex) (hv : (#[(0, x)].map fun (i, x) => (i, a.eval x)) = #[(0, .agg t.va)])
    (h : ∀ w', Blk w' w.heap.size t.vs 27 → Below w.heap.size w w' → wpList Try.prog ops Q rest (a.put o.dst (.slice (some ⟨w.heap.size, 0, none⟩) 1 1)) w') : wpList Try.prog ops Q (o :: rest) a w :=
  wpList_slice hgd 25 1 _ ho _ hv (run_slice1_ex t w) (h _ (Blk.new _ _ _) (below_alloc _ _))
theorem newF_slice2 (hgd : o.guard = none) (x y : Operand) (ho : o.op = .buildSlice 25 2 #[(0, x), (1, y)]) (s t : Ex) (hv : (#[(0, x), (1, y)].map fun (i, x) => (i, a.eval x)) = #[(0, .agg s.va), (1, .agg t.va)])
    (h : ∀ w', Blk w' w.heap.size (s.vs ++ t.vs) 27 → Below w.heap.size w w' → wpList Try.prog ops Q rest (a.put o.dst (.slice (some ⟨w.heap.size, 0, none⟩) 2 2)) w') : wpList Try.prog ops Q (o :: rest) a w :=
  wpList_slice hgd 25 2 _ ho _ hv (run_slice2_ex s t w) (h _ (by rw [show s.va ++ t.va = (s.vs ++ t.vs).toArray by unfold Ex.va; simp]; exact Blk.new _ _ _) (below_alloc _ _))
end
theorem run_build_pair (B : Nat) (a b : Ex) (w : World) : (Instr.build 27 #[(0, .int .i64 8), (7, .slice (some ⟨B, 0, none⟩) 2 2)]).run Try.prog w = .ok (.agg (twoE 8 ⟨#[]⟩ B a b).va) w := by kernel_rfl
theorem run_build_let (tx : ByteArray) (B : Nat) (a b : Ex) (w : World) : (Instr.build 27 #[(0, .int .i64 4), (3, .string tx), (7, .slice (some ⟨B, 0, none⟩) 2 2)]).run Try.prog w = .ok (.agg (twoE 4 tx B a b).va) w := by kernel_rfl
theorem run_build_fun (tx ar : ByteArray) (B : Nat) (a : Ex) (w : World) : (Instr.build 27 #[(0, .int .i64 6), (3, .string tx), (4, .string ar), (7, .slice (some ⟨B, 0, none⟩) 1 1)]).run Try.prog w = .ok (.agg (funE tx ar B a).va) w := by kernel_rfl
end Go.Proofs.Ytkegefbnbdcgcaa

/- Layer 8: the walk of the statement FreeParts. -/
namespace Go.Proofs.Ytkegefbnbdcgcaa
open Go Go.RowKit

def StopF (p : Prop) : Prop := p
theorem StopF.go {p : Prop} (h : StopF p) : p := h
theorem StopF.mk {p : Prop} (h : p) : StopF p := h
/-- The statement's variables. -/
structure FP (w wx : World) (a b : Ex) (s bd ar : ByteArray) : Prop where
  xa : Blk wx w.heap.size a.vs 27
  xb : Blk wx (w.heap.size + 1) b.vs 27
  xx : Blk wx (w.heap.size + 2) [.string s, .string bd, .string ar] 48
  la : Ly wx a
  lb : Ly wx b
  bl : Below w.heap.size w wx
theorem FP.step {w wx w' : World} {a b : Ex} {s bd ar : ByteArray} (h : FP w wx a b s bd ar) (hb : Below wx.heap.size wx w') : FP w w' a b s bd ar :=
  ⟨h.xa.kept hb, h.xb.kept hb, h.xx.kept hb, h.la.kept hb, h.lb.kept hb, Below.next h.bl hb⟩
/-- And the expressions that it has written out. -/
structure FX (w wx : World) (a b : Ex) (s bd ar : ByteArray) (P p L l F f : Nat) : Prop where
  v : FP w wx a b s bd ar
  p1 : Blk wx p (a.vs ++ b.vs) 27
  p2 : Blk wx P (twoE 8 ⟨#[]⟩ p a b).vs 27
  l1 : Blk wx l (a.vs ++ b.vs) 27
  l2 : Blk wx L (twoE 4 bd l a b).vs 27
  f1 : Blk wx f a.vs 27
  f2 : Blk wx F (funE bd ar f a).vs 27
theorem FX.step {w wx w' : World} {a b : Ex} {s bd ar : ByteArray} {P p L l F f : Nat} (h : FX w wx a b s bd ar P p L l F f) (hb : Below wx.heap.size wx w') : FX w w' a b s bd ar P p L l F f :=
  ⟨h.v.step hb, h.p1.kept hb, h.p2.kept hb, h.l1.kept hb, h.l2.kept hb, h.f1.kept hb, h.f2.kept hb⟩
theorem FX.pair {w wx : World} {a b : Ex} {s bd ar : ByteArray} {P p L l F f : Nat} (h : FX w wx a b s bd ar P p L l F f) (hc : a.nodes ≤ 300 ∧ b.nodes ≤ 300 ∧ a.nest ≤ 20 ∧ b.nest ≤ 20) :
    Calls Try.prog 14 #[.agg (twoE 8 ⟨#[]⟩ p a b).va, .string s] wx fun e w' => e = .returned (.bool (a.fr s || b.fr s)) ∧ Below wx.heap.size wx w' := by
  have k := ly_two (k := 8) (tx := ⟨#[]⟩) h.p1 (by decide) h.v.la h.v.lb
  have := fStands_yes _ s wx k.a k.z (by rw [two_nodes]; omega) (by rw [two_nest]; omega)
  rwa [pair_fr] at this
theorem FX.lets {w wx : World} {a b : Ex} {s bd ar : ByteArray} {P p L l F f : Nat} (h : FX w wx a b s bd ar P p L l F f) (hc : a.nodes ≤ 300 ∧ b.nodes ≤ 300 ∧ a.nest ≤ 20 ∧ b.nest ≤ 20) (hx : bd.size ≤ 9223372036854775807) :
    Calls Try.prog 14 #[.agg (twoE 4 bd l a b).va, .string s] wx fun e w' => e = .returned (.bool (a.fr s || (b.fr s && !(s.toList == bd.toList)))) ∧ Below wx.heap.size wx w' := by
  have k := ly_two (k := 4) (tx := bd) h.l1 hx h.v.la h.v.lb
  have := fStands_yes _ s wx k.a k.z (by rw [two_nodes]; omega) (by rw [two_nest]; omega)
  rwa [let_fr] at this
theorem FX.funs {w wx : World} {a b : Ex} {s bd ar : ByteArray} {P p L l F f : Nat} (h : FX w wx a b s bd ar P p L l F f) (hc : a.nodes ≤ 300 ∧ b.nodes ≤ 300 ∧ a.nest ≤ 20 ∧ b.nest ≤ 20) (hx : bd.size ≤ 9223372036854775807 ∧ ar.size ≤ 9223372036854775807) :
    Calls Try.prog 14 #[.agg (funE bd ar f a).va, .string s] wx fun e w' => e = .returned (.bool (a.fr s && !(s.toList == bd.toList) && !(s.toList == ar.toList))) ∧ Below wx.heap.size wx w' := by
  have k := ly_fun h.f1 hx.1 hx.2 h.v.la
  have := fStands_yes _ s wx k.a k.z (by rw [fun_nodes]; omega) (by rw [fun_nest]; omega)
  rwa [fun_fr] at this
set_option maxRecDepth 100000 in
set_option maxHeartbeats 8000000 in
theorem freeParts_any (a b : Ex) (s bd ar : ByteArray) (w : World) (ha : Ly w a) (hb : Ly w b) (h1 : bd.size ≤ 9223372036854775807) (h2 : ar.size ≤ 9223372036854775807) :
    Calls Try.prog 7 #[.agg a.va, .agg b.va, .agg #[.string s, .string bd, .string ar]] w fun e w' => e = .returned (.bool true) ∧ Below w.heap.size w w' := by
  have H := allocs_heap [.cells a.va 27, .cells b.va 27, .cells #[.string s, .string bd, .string ar] 48] w
  have B0 := allocs_below [.cells a.va 27, .cells b.va 27, .cells #[.string s, .string bd, .string ar] 48] w
  simp only [List.foldl] at H B0
  have HI : Hid (FP w _ a b s bd ar) := ⟨H 0 (by simp), H 1 (by simp), H 2 (by simp), ha.kept B0, hb.kept B0, B0⟩
  have HH : Hid (bd.size ≤ 9223372036854775807 ∧ ar.size ≤ 9223372036854775807) := ⟨h1, h2⟩
  clear H B0 ha hb h1 h2
  go_enter Try.func7, Try.ntmps7
  go_upto_region 1 with fail
  generalize ((w.alloc (.cells a.va 27)).alloc (.cells b.va 27)).alloc (.cells #[.string s, .string bd, .string ar] 48) = w1 at *
  go_cut [36] (fun c wx => c = .bool (!decide (a.nodes ≤ 300) || !decide (b.nodes ≤ 300) || decide (20 < a.nest) || decide (20 < b.nest)) ∧ Hid (FP w wx a b s bd ar))
  case first =>
    go_wp2_with fail
    refine (fawake_any _).mono ?_
    rintro _ w2 ⟨rfl, hb⟩
    have HI2 : Hid (FP w w2 a b s bd ar) := HI.out.step hb
    clear HI hb
    go_wp2_with (refine wpList_load_exGF (by kernel_rfl) (.tmp 3) rfl _ _ (by kernel_rfl) a (C17.of_range HI2.out.xa.range) ?_)
    refine (few_any a w2 HI2.out.la.a).mono ?_
    rintro _ w3 ⟨rfl, hb⟩
    have HI : Hid (FP w w3 a b s bd ar) := HI2.out.step hb
    clear HI2 hb
    by_cases c1 : a.nodes ≤ 300
    rotate_left
    · rw [decide_eq_false c1]
      have K1 : Hid (¬ a.nodes ≤ 300) := c1
      clear c1
      go_wp2
      go_meet
      case rel => exact ⟨congrArg Value.bool (by rw [decide_eq_false K1.out]; rfl), HI.out⟩
    rw [decide_eq_true c1]
    have HC1 : Hid (a.nodes ≤ 300) := c1
    clear c1
    go_wp2_with (refine wpList_load_exGF (by kernel_rfl) (.tmp 4) rfl _ _ (by kernel_rfl) b (C17.of_range HI.out.xb.range) ?_)
    refine (few_any b w3 HI.out.lb.a).mono ?_
    rintro _ w4 ⟨rfl, hb⟩
    have HI2 : Hid (FP w w4 a b s bd ar) := HI.out.step hb
    clear HI hb
    by_cases c2 : b.nodes ≤ 300
    rotate_left
    · rw [decide_eq_false c2]
      have K2 : Hid (¬ b.nodes ≤ 300) := c2
      clear c2
      go_wp2
      go_meet
      case rel => exact ⟨congrArg Value.bool (by rw [decide_eq_true HC1.out, decide_eq_false K2.out]; rfl), HI2.out⟩
    rw [decide_eq_true c2]
    have HC2 : Hid (b.nodes ≤ 300) := c2
    clear c2
    go_wp2_with (refine wpList_load_exGF (by kernel_rfl) (.tmp 3) rfl _ _ (by kernel_rfl) a (C17.of_range HI2.out.xa.range) ?_)
    refine (rNest_any a w4 HI2.out.la.a).mono ?_
    rintro _ w5 ⟨rfl, hb⟩
    have HI : Hid (FP w w5 a b s bd ar) := HI2.out.step hb
    clear HI2 hb
    by_cases c3 : 20 < a.nest
    · have i3 : (20 : Int) < (min a.nest 31 : Nat) := by omega
      generalize min a.nest 31 = q3 at *
      have j3 : decide ((20 : Int) < q3) = true := decide_eq_true i3
      have K3 : Hid (20 < a.nest) := c3
      clear c3
      go_wp2
      go_meet
      case rel => exact ⟨congrArg Value.bool (by rw [decide_eq_true HC1.out, decide_eq_true HC2.out, decide_eq_true K3.out]; rfl), HI.out⟩
    have i3 : ¬ (20 : Int) < (min a.nest 31 : Nat) := by omega
    generalize min a.nest 31 = q3 at *
    have j3 : decide ((20 : Int) < q3) = false := decide_eq_false i3
    have K3 : Hid (¬ 20 < a.nest) := c3
    clear c3
    go_wp2_with (refine wpList_load_exGF (by kernel_rfl) (.tmp 4) rfl _ _ (by kernel_rfl) b (C17.of_range HI.out.xb.range) ?_)
    refine (rNest_any b w5 HI.out.lb.a).mono ?_
    rintro _ w6 ⟨rfl, hb⟩
    have HI2 : Hid (FP w w6 a b s bd ar) := HI.out.step hb
    clear HI hb
    by_cases c4 : 20 < b.nest
    · have i4 : (20 : Int) < (min b.nest 31 : Nat) := by omega
      generalize min b.nest 31 = q4 at *
      have j4 : decide ((20 : Int) < q4) = true := decide_eq_true i4
      have K4 : Hid (20 < b.nest) := c4
      clear c4
      go_wp2
      go_meet
      case rel => exact ⟨congrArg Value.bool (by rw [decide_eq_true HC1.out, decide_eq_true HC2.out, decide_eq_false K3.out, decide_eq_true K4.out]; rfl), HI2.out⟩
    have i4 : ¬ (20 : Int) < (min b.nest 31 : Nat) := by omega
    generalize min b.nest 31 = q4 at *
    have j4 : decide ((20 : Int) < q4) = false := decide_eq_false i4
    have K4 : Hid (¬ 20 < b.nest) := c4
    clear c4
    go_wp2
    go_meet
    case rel => exact ⟨congrArg Value.bool (by rw [decide_eq_true HC1.out, decide_eq_true HC2.out, decide_eq_false K3.out, decide_eq_false K4.out]; rfl), HI2.out⟩
  case rest =>
    obtain ⟨rfl, hI⟩ := hcut
    clear HI
    have HI : Hid (FP w wc a b s bd ar) := hI
    clear hI
    cases hc : (!decide (a.nodes ≤ 300) || !decide (b.nodes ≤ 300) || decide (20 < a.nest) || decide (20 < b.nest))
    rotate_left
    · clear hc
      go_wp2_with fail
      refine (fawake_any _).mono ?_
      rintro _ w2 ⟨rfl, hb⟩
      go_wp2
      go_ret
      exact ⟨rfl, Below.next HI.out.bl hb⟩
    have HC : Hid (a.nodes ≤ 300 ∧ b.nodes ≤ 300 ∧ a.nest ≤ 20 ∧ b.nest ≤ 20) := by
      simp only [Bool.or_eq_false_iff, Bool.not_eq_false', decide_eq_true_eq, decide_eq_false_iff_not] at hc
      exact ⟨hc.1.1.1, hc.1.1.2, by omega, by omega⟩
    clear hc
    go_upto_region 3 with fail
    have s0 := fun z => Gr.cell z (HI.out.xx.cell 0 rfl)
    have s1 := fun z => Gr.cell z (HI.out.xx.cell 1 rfl)
    have s2 := fun z => Gr.cell z (HI.out.xx.cell 2 rfl)
    have hNE : Nonempty (Gr wc) := ⟨⟨_, Below.refl _ _⟩⟩
    refine wp_region_gr (by kernel_rfl) (by kernel_rfl) ?_
    repeat (first | go_big_quiet_step (fail))
    refine wpQuiet_nil ?_
    rintro w3 ⟨x3, rfl⟩
    have HI3 : Hid (FP w x3.w a b s bd ar) := HI.out.step x3.bl
    generalize x3.w = w3 at HI3 ⊢
    clear x3 hNE s0 s1 s2 HI
    go_upto_region 4 with fail
    obtain ⟨p, hp⟩ : ∃ p, a.fr s = p := ⟨_, rfl⟩
    obtain ⟨q, hq⟩ : ∃ q, b.fr s = q := ⟨_, rfl⟩
    have H1 : ∀ u, Below w3.heap.size w3 u → Calls Try.prog 14 #[.agg a.va, .string s] u fun e w' => e = .returned (.bool p) ∧ Below u.heap.size u w' := fun u hu => by
      have h1 := HI3.out.la.kept hu
      have := fStands_yes a s u h1.a h1.z (by have := HC.out; omega) (by have := HC.out; omega)
      rwa [hp] at this
    have H2 : ∀ u, Below w3.heap.size w3 u → Calls Try.prog 14 #[.agg b.va, .string s] u fun e w' => e = .returned (.bool q) ∧ Below u.heap.size u w' := fun u hu => by
      have h1 := HI3.out.lb.kept hu
      have := fStands_yes b s u h1.a h1.z (by have := HC.out; omega) (by have := HC.out; omega)
      rwa [hq] at this
    have hCa : ∀ u, (∃ x : Gr w3, u = x.w) → C17 u w.heap.size 0 a := by
      rintro _ ⟨x, rfl⟩
      exact C17.of_range (HI3.out.xa.kept x.bl).range
    have hCb : ∀ u, (∃ x : Gr w3, u = x.w) → C17 u (w.heap.size + 1) 0 b := by
      rintro _ ⟨x, rfl⟩
      exact C17.of_range (HI3.out.xb.kept x.bl).range
    have HPQ : Hid (a.fr s = p ∧ b.fr s = q) := ⟨hp, hq⟩
    clear hp hq
    have hNE : Nonempty (Gr w3) := ⟨⟨_, Below.refl _ _⟩⟩
    refine wp_region_gr (by kernel_rfl) (by kernel_rfl) ?_
    go_big_quiet_want
    refine quiet_load_exF (.tmp 3) rfl _ _ (by kernel_rfl) a hCa ?_
    simp only [Act.put, List.setIfInBounds_toArray, List.set_cons_succ, List.set_cons_zero]
    go_big_quiet_on
    go_big_quiet_step (fail)
    go_big_quiet_step ((go_at_call 14; with_reducible exact Calls.gr _ (H1 _ (Gr.bl _))))
    go_big_quiet_want
    refine quiet_load_exF (.tmp 4) rfl _ _ (by kernel_rfl) b hCb ?_
    simp only [Act.put, List.setIfInBounds_toArray, List.set_cons_succ, List.set_cons_zero]
    go_big_quiet_on
    go_big_quiet_step (fail)
    go_big_quiet_step ((go_at_call 14; with_reducible exact Calls.gr _ (H2 _ (Gr.bl _))))
    repeat (first | go_big_quiet_step (fail))
    refine wpQuiet_nil ?_
    rintro w4 ⟨x4, rfl⟩
    have HI4 : Hid (FP w x4.w a b s bd ar) := HI3.out.step x4.bl
    generalize x4.w = w4 at HI4 ⊢
    clear x4 hNE H1 H2 hCa hCb HI3
    go_wp2_with (refine wpList_load_ex rfl (.tmp 3) rfl w.heap.size 0 (by kernel_rfl) a (C17.of_range HI4.out.xa.range) ?_; refine StopF.go ?_)
    refine StopF.mk ?_
    refine wpList_load_ex rfl (.tmp 4) rfl (w.heap.size + 1) 0 (by kernel_rfl) b (C17.of_range HI4.out.xb.range) ?_
    refine newF_slice2 rfl (.tmp 50) (.tmp 51) rfl a b (by kernel_rfl) ?_
    intro w5 p5 k
    have HI5 : Hid (FP w w5 a b s bd ar) := HI4.out.step k
    clear HI4 k
    refine wpList_buildF rfl 27 #[(0, .const (.int .i64 8)), (7, .tmp 52)] rfl _ (by kernel_rfl) (run_build_pair w4.heap.size a b _) ?_
    refine newF_ex rfl rfl rfl (.tmp 12) (.tmp 53) rfl rfl (by kernel_rfl) (twoE 8 ⟨#[]⟩ w4.heap.size a b) (by kernel_rfl) ?_
    intro w6 e6 k
    have p6 := p5.kept k
    have HI6 : Hid (FP w w6 a b s bd ar) := HI5.out.step k
    clear HI5 k p5
    go_wp2_with (refine wpList_load_ex rfl (.tmp 3) rfl w.heap.size 0 (by kernel_rfl) a (C17.of_range HI6.out.xa.range) ?_; refine StopF.go ?_)
    refine StopF.mk ?_
    refine wpList_load_ex rfl (.tmp 4) rfl (w.heap.size + 1) 0 (by kernel_rfl) b (C17.of_range HI6.out.xb.range) ?_
    refine newF_slice2 rfl (.tmp 55) (.tmp 56) rfl a b (by kernel_rfl) ?_
    intro w7 l7 k
    have HI7 : Hid (FP w w7 a b s bd ar) := HI6.out.step k
    have p7 := p6.kept k
    have e7 := e6.kept k
    clear HI6 k p6 e6
    refine wpList_buildF rfl 27 #[(0, .const (.int .i64 4)), (3, .tmp 54), (7, .tmp 57)] rfl _ (by kernel_rfl) (run_build_let bd w6.heap.size a b _) ?_
    refine newF_ex rfl rfl rfl (.tmp 13) (.tmp 58) rfl rfl (by kernel_rfl) (twoE 4 bd w6.heap.size a b) (by kernel_rfl) ?_
    intro w8 f8 k
    have HI8 : Hid (FP w w8 a b s bd ar) := HI7.out.step k
    have p8 := p7.kept k
    have e8 := e7.kept k
    have l8 := l7.kept k
    clear HI7 k p7 e7 l7
    go_wp2_with (refine wpList_load_ex rfl (.tmp 3) rfl w.heap.size 0 (by kernel_rfl) a (C17.of_range HI8.out.xa.range) ?_; refine StopF.go ?_)
    refine StopF.mk ?_
    refine newF_slice1 rfl (.tmp 61) rfl a (by kernel_rfl) ?_
    intro w9 g9 k
    have HI9 : Hid (FP w w9 a b s bd ar) := HI8.out.step k
    have p9 := p8.kept k
    have e9 := e8.kept k
    have l9 := l8.kept k
    have f9 := f8.kept k
    clear HI8 k p8 e8 l8 f8
    refine wpList_buildF rfl 27 #[(0, .const (.int .i64 6)), (3, .tmp 59), (4, .tmp 60), (7, .tmp 62)] rfl _ (by kernel_rfl) (run_build_fun bd ar w8.heap.size a _) ?_
    refine newF_ex rfl rfl rfl (.tmp 14) (.tmp 63) rfl rfl (by kernel_rfl) (funE bd ar w8.heap.size a) (by kernel_rfl) ?_
    intro wx hx k
    have HX : Hid (FX w wx a b s bd ar w5.heap.size w4.heap.size w7.heap.size w6.heap.size w9.heap.size w8.heap.size) := ⟨HI9.out.step k, p9.kept k, e9.kept k, l9.kept k, f9.kept k, g9.kept k, hx⟩
    clear HI9 p9 e9 l9 f9 g9 hx k
    go_wp2_with (refine wpList_load_ex rfl (.tmp 12) rfl w5.heap.size 0 (by kernel_rfl) (twoE 8 ⟨#[]⟩ w4.heap.size a b) (C17.of_range HX.out.p2.range) ?_)
    have hS := HX.out.pair HC.out
    rw [HPQ.out.1, HPQ.out.2] at hS
    refine hS.mono ?_
    rintro _ wy ⟨rfl, k⟩
    have HY : Hid (FX w wy a b s bd ar w5.heap.size w4.heap.size w7.heap.size w6.heap.size w9.heap.size w8.heap.size) := HX.out.step k
    clear HX hS k
    have hL := HY.out.lets HC.out HH.out.1
    rw [HPQ.out.1, HPQ.out.2] at hL
    obtain ⟨e1, he1⟩ : ∃ e, (s.toList == bd.toList) = e := ⟨_, rfl⟩
    obtain ⟨e2, he2⟩ : ∃ e, (s.toList == ar.toList) = e := ⟨_, rfl⟩
    have HE1 : Hid ((s.toList == bd.toList) = e1) := he1
    have HE2 : Hid ((s.toList == ar.toList) = e2) := he2
    rw [he1] at hL
    cases p <;> cases q <;> cases e1 <;> cases e2
    · go_wp2_with (refine wpList_load_exGF (by kernel_rfl) (.tmp 13) rfl w7.heap.size 0 (by kernel_rfl) (twoE 4 bd w6.heap.size a b) (C17.of_range HY.out.l2.range) ?_)
      refine hL.mono ?_
      rintro _ wz ⟨rfl, k⟩
      have HZ : Hid (FX w wz a b s bd ar w5.heap.size w4.heap.size w7.heap.size w6.heap.size w9.heap.size w8.heap.size) := HY.out.step k
      clear HY hL k
      have hF := HZ.out.funs HC.out HH.out
      rw [HPQ.out.1, HE1.out, HE2.out] at hF
      go_wp2_with (refine wpList_load_exGF (by kernel_rfl) (.tmp 14) rfl w9.heap.size 0 (by kernel_rfl) (funE bd ar w8.heap.size a) (C17.of_range HZ.out.f2.range) ?_)
      refine hF.mono ?_
      rintro _ wq ⟨rfl, k⟩
      have HB : Hid (Below w.heap.size w wq) := Below.next HZ.out.v.bl k
      clear HZ hF k
      go_wp2
      go_ret
      exact ⟨rfl, HB.out⟩
    · go_wp2_with (refine wpList_load_exGF (by kernel_rfl) (.tmp 13) rfl w7.heap.size 0 (by kernel_rfl) (twoE 4 bd w6.heap.size a b) (C17.of_range HY.out.l2.range) ?_)
      refine hL.mono ?_
      rintro _ wz ⟨rfl, k⟩
      have HZ : Hid (FX w wz a b s bd ar w5.heap.size w4.heap.size w7.heap.size w6.heap.size w9.heap.size w8.heap.size) := HY.out.step k
      clear HY hL k
      have hF := HZ.out.funs HC.out HH.out
      rw [HPQ.out.1, HE1.out, HE2.out] at hF
      go_wp2_with (refine wpList_load_exGF (by kernel_rfl) (.tmp 14) rfl w9.heap.size 0 (by kernel_rfl) (funE bd ar w8.heap.size a) (C17.of_range HZ.out.f2.range) ?_)
      refine hF.mono ?_
      rintro _ wq ⟨rfl, k⟩
      have HB : Hid (Below w.heap.size w wq) := Below.next HZ.out.v.bl k
      clear HZ hF k
      go_wp2
      go_ret
      exact ⟨rfl, HB.out⟩
    · go_wp2_with (refine wpList_load_exGF (by kernel_rfl) (.tmp 13) rfl w7.heap.size 0 (by kernel_rfl) (twoE 4 bd w6.heap.size a b) (C17.of_range HY.out.l2.range) ?_)
      refine hL.mono ?_
      rintro _ wz ⟨rfl, k⟩
      have HZ : Hid (FX w wz a b s bd ar w5.heap.size w4.heap.size w7.heap.size w6.heap.size w9.heap.size w8.heap.size) := HY.out.step k
      clear HY hL k
      have hF := HZ.out.funs HC.out HH.out
      rw [HPQ.out.1, HE1.out, HE2.out] at hF
      go_wp2_with (refine wpList_load_exGF (by kernel_rfl) (.tmp 14) rfl w9.heap.size 0 (by kernel_rfl) (funE bd ar w8.heap.size a) (C17.of_range HZ.out.f2.range) ?_)
      refine hF.mono ?_
      rintro _ wq ⟨rfl, k⟩
      have HB : Hid (Below w.heap.size w wq) := Below.next HZ.out.v.bl k
      clear HZ hF k
      go_wp2
      go_ret
      exact ⟨rfl, HB.out⟩
    · go_wp2_with (refine wpList_load_exGF (by kernel_rfl) (.tmp 13) rfl w7.heap.size 0 (by kernel_rfl) (twoE 4 bd w6.heap.size a b) (C17.of_range HY.out.l2.range) ?_)
      refine hL.mono ?_
      rintro _ wz ⟨rfl, k⟩
      have HZ : Hid (FX w wz a b s bd ar w5.heap.size w4.heap.size w7.heap.size w6.heap.size w9.heap.size w8.heap.size) := HY.out.step k
      clear HY hL k
      have hF := HZ.out.funs HC.out HH.out
      rw [HPQ.out.1, HE1.out, HE2.out] at hF
      go_wp2_with (refine wpList_load_exGF (by kernel_rfl) (.tmp 14) rfl w9.heap.size 0 (by kernel_rfl) (funE bd ar w8.heap.size a) (C17.of_range HZ.out.f2.range) ?_)
      refine hF.mono ?_
      rintro _ wq ⟨rfl, k⟩
      have HB : Hid (Below w.heap.size w wq) := Below.next HZ.out.v.bl k
      clear HZ hF k
      go_wp2
      go_ret
      exact ⟨rfl, HB.out⟩
    · go_wp2_with (refine wpList_load_exGF (by kernel_rfl) (.tmp 13) rfl w7.heap.size 0 (by kernel_rfl) (twoE 4 bd w6.heap.size a b) (C17.of_range HY.out.l2.range) ?_)
      refine hL.mono ?_
      rintro _ wz ⟨rfl, k⟩
      have HZ : Hid (FX w wz a b s bd ar w5.heap.size w4.heap.size w7.heap.size w6.heap.size w9.heap.size w8.heap.size) := HY.out.step k
      clear HY hL k
      have hF := HZ.out.funs HC.out HH.out
      rw [HPQ.out.1, HE1.out, HE2.out] at hF
      go_wp2_with (refine wpList_load_exGF (by kernel_rfl) (.tmp 14) rfl w9.heap.size 0 (by kernel_rfl) (funE bd ar w8.heap.size a) (C17.of_range HZ.out.f2.range) ?_)
      refine hF.mono ?_
      rintro _ wq ⟨rfl, k⟩
      have HB : Hid (Below w.heap.size w wq) := Below.next HZ.out.v.bl k
      clear HZ hF k
      go_wp2
      go_ret
      exact ⟨rfl, HB.out⟩
    · go_wp2_with (refine wpList_load_exGF (by kernel_rfl) (.tmp 13) rfl w7.heap.size 0 (by kernel_rfl) (twoE 4 bd w6.heap.size a b) (C17.of_range HY.out.l2.range) ?_)
      refine hL.mono ?_
      rintro _ wz ⟨rfl, k⟩
      have HZ : Hid (FX w wz a b s bd ar w5.heap.size w4.heap.size w7.heap.size w6.heap.size w9.heap.size w8.heap.size) := HY.out.step k
      clear HY hL k
      have hF := HZ.out.funs HC.out HH.out
      rw [HPQ.out.1, HE1.out, HE2.out] at hF
      go_wp2_with (refine wpList_load_exGF (by kernel_rfl) (.tmp 14) rfl w9.heap.size 0 (by kernel_rfl) (funE bd ar w8.heap.size a) (C17.of_range HZ.out.f2.range) ?_)
      refine hF.mono ?_
      rintro _ wq ⟨rfl, k⟩
      have HB : Hid (Below w.heap.size w wq) := Below.next HZ.out.v.bl k
      clear HZ hF k
      go_wp2
      go_ret
      exact ⟨rfl, HB.out⟩
    · go_wp2_with (refine wpList_load_exGF (by kernel_rfl) (.tmp 13) rfl w7.heap.size 0 (by kernel_rfl) (twoE 4 bd w6.heap.size a b) (C17.of_range HY.out.l2.range) ?_)
      refine hL.mono ?_
      rintro _ wz ⟨rfl, k⟩
      have HZ : Hid (FX w wz a b s bd ar w5.heap.size w4.heap.size w7.heap.size w6.heap.size w9.heap.size w8.heap.size) := HY.out.step k
      clear HY hL k
      have hF := HZ.out.funs HC.out HH.out
      rw [HPQ.out.1, HE1.out, HE2.out] at hF
      go_wp2_with (refine wpList_load_exGF (by kernel_rfl) (.tmp 14) rfl w9.heap.size 0 (by kernel_rfl) (funE bd ar w8.heap.size a) (C17.of_range HZ.out.f2.range) ?_)
      refine hF.mono ?_
      rintro _ wq ⟨rfl, k⟩
      have HB : Hid (Below w.heap.size w wq) := Below.next HZ.out.v.bl k
      clear HZ hF k
      go_wp2
      go_ret
      exact ⟨rfl, HB.out⟩
    · go_wp2_with (refine wpList_load_exGF (by kernel_rfl) (.tmp 13) rfl w7.heap.size 0 (by kernel_rfl) (twoE 4 bd w6.heap.size a b) (C17.of_range HY.out.l2.range) ?_)
      refine hL.mono ?_
      rintro _ wz ⟨rfl, k⟩
      have HZ : Hid (FX w wz a b s bd ar w5.heap.size w4.heap.size w7.heap.size w6.heap.size w9.heap.size w8.heap.size) := HY.out.step k
      clear HY hL k
      have hF := HZ.out.funs HC.out HH.out
      rw [HPQ.out.1, HE1.out, HE2.out] at hF
      go_wp2_with (refine wpList_load_exGF (by kernel_rfl) (.tmp 14) rfl w9.heap.size 0 (by kernel_rfl) (funE bd ar w8.heap.size a) (C17.of_range HZ.out.f2.range) ?_)
      refine hF.mono ?_
      rintro _ wq ⟨rfl, k⟩
      have HB : Hid (Below w.heap.size w wq) := Below.next HZ.out.v.bl k
      clear HZ hF k
      go_wp2
      go_ret
      exact ⟨rfl, HB.out⟩
    · go_wp2_with (refine wpList_load_exGF (by kernel_rfl) (.tmp 13) rfl w7.heap.size 0 (by kernel_rfl) (twoE 4 bd w6.heap.size a b) (C17.of_range HY.out.l2.range) ?_)
      refine hL.mono ?_
      rintro _ wz ⟨rfl, k⟩
      have HZ : Hid (FX w wz a b s bd ar w5.heap.size w4.heap.size w7.heap.size w6.heap.size w9.heap.size w8.heap.size) := HY.out.step k
      clear HY hL k
      have hF := HZ.out.funs HC.out HH.out
      rw [HPQ.out.1, HE1.out, HE2.out] at hF
      go_wp2_with (refine wpList_load_exGF (by kernel_rfl) (.tmp 14) rfl w9.heap.size 0 (by kernel_rfl) (funE bd ar w8.heap.size a) (C17.of_range HZ.out.f2.range) ?_)
      refine hF.mono ?_
      rintro _ wq ⟨rfl, k⟩
      have HB : Hid (Below w.heap.size w wq) := Below.next HZ.out.v.bl k
      clear HZ hF k
      go_wp2
      go_ret
      exact ⟨rfl, HB.out⟩
    · go_wp2_with (refine wpList_load_exGF (by kernel_rfl) (.tmp 13) rfl w7.heap.size 0 (by kernel_rfl) (twoE 4 bd w6.heap.size a b) (C17.of_range HY.out.l2.range) ?_)
      refine hL.mono ?_
      rintro _ wz ⟨rfl, k⟩
      have HZ : Hid (FX w wz a b s bd ar w5.heap.size w4.heap.size w7.heap.size w6.heap.size w9.heap.size w8.heap.size) := HY.out.step k
      clear HY hL k
      have hF := HZ.out.funs HC.out HH.out
      rw [HPQ.out.1, HE1.out, HE2.out] at hF
      go_wp2_with (refine wpList_load_exGF (by kernel_rfl) (.tmp 14) rfl w9.heap.size 0 (by kernel_rfl) (funE bd ar w8.heap.size a) (C17.of_range HZ.out.f2.range) ?_)
      refine hF.mono ?_
      rintro _ wq ⟨rfl, k⟩
      have HB : Hid (Below w.heap.size w wq) := Below.next HZ.out.v.bl k
      clear HZ hF k
      go_wp2
      go_ret
      exact ⟨rfl, HB.out⟩
    · go_wp2_with (refine wpList_load_exGF (by kernel_rfl) (.tmp 13) rfl w7.heap.size 0 (by kernel_rfl) (twoE 4 bd w6.heap.size a b) (C17.of_range HY.out.l2.range) ?_)
      refine hL.mono ?_
      rintro _ wz ⟨rfl, k⟩
      have HZ : Hid (FX w wz a b s bd ar w5.heap.size w4.heap.size w7.heap.size w6.heap.size w9.heap.size w8.heap.size) := HY.out.step k
      clear HY hL k
      have hF := HZ.out.funs HC.out HH.out
      rw [HPQ.out.1, HE1.out, HE2.out] at hF
      go_wp2_with (refine wpList_load_exGF (by kernel_rfl) (.tmp 14) rfl w9.heap.size 0 (by kernel_rfl) (funE bd ar w8.heap.size a) (C17.of_range HZ.out.f2.range) ?_)
      refine hF.mono ?_
      rintro _ wq ⟨rfl, k⟩
      have HB : Hid (Below w.heap.size w wq) := Below.next HZ.out.v.bl k
      clear HZ hF k
      go_wp2
      go_ret
      exact ⟨rfl, HB.out⟩
    · go_wp2_with (refine wpList_load_exGF (by kernel_rfl) (.tmp 13) rfl w7.heap.size 0 (by kernel_rfl) (twoE 4 bd w6.heap.size a b) (C17.of_range HY.out.l2.range) ?_)
      refine hL.mono ?_
      rintro _ wz ⟨rfl, k⟩
      have HZ : Hid (FX w wz a b s bd ar w5.heap.size w4.heap.size w7.heap.size w6.heap.size w9.heap.size w8.heap.size) := HY.out.step k
      clear HY hL k
      have hF := HZ.out.funs HC.out HH.out
      rw [HPQ.out.1, HE1.out, HE2.out] at hF
      go_wp2_with (refine wpList_load_exGF (by kernel_rfl) (.tmp 14) rfl w9.heap.size 0 (by kernel_rfl) (funE bd ar w8.heap.size a) (C17.of_range HZ.out.f2.range) ?_)
      refine hF.mono ?_
      rintro _ wq ⟨rfl, k⟩
      have HB : Hid (Below w.heap.size w wq) := Below.next HZ.out.v.bl k
      clear HZ hF k
      go_wp2
      go_ret
      exact ⟨rfl, HB.out⟩
    · go_wp2_with (refine wpList_load_exGF (by kernel_rfl) (.tmp 13) rfl w7.heap.size 0 (by kernel_rfl) (twoE 4 bd w6.heap.size a b) (C17.of_range HY.out.l2.range) ?_)
      refine hL.mono ?_
      rintro _ wz ⟨rfl, k⟩
      have HZ : Hid (FX w wz a b s bd ar w5.heap.size w4.heap.size w7.heap.size w6.heap.size w9.heap.size w8.heap.size) := HY.out.step k
      clear HY hL k
      have hF := HZ.out.funs HC.out HH.out
      rw [HPQ.out.1, HE1.out, HE2.out] at hF
      go_wp2_with (refine wpList_load_exGF (by kernel_rfl) (.tmp 14) rfl w9.heap.size 0 (by kernel_rfl) (funE bd ar w8.heap.size a) (C17.of_range HZ.out.f2.range) ?_)
      refine hF.mono ?_
      rintro _ wq ⟨rfl, k⟩
      have HB : Hid (Below w.heap.size w wq) := Below.next HZ.out.v.bl k
      clear HZ hF k
      go_wp2
      go_ret
      exact ⟨rfl, HB.out⟩
    · go_wp2_with (refine wpList_load_exGF (by kernel_rfl) (.tmp 13) rfl w7.heap.size 0 (by kernel_rfl) (twoE 4 bd w6.heap.size a b) (C17.of_range HY.out.l2.range) ?_)
      refine hL.mono ?_
      rintro _ wz ⟨rfl, k⟩
      have HZ : Hid (FX w wz a b s bd ar w5.heap.size w4.heap.size w7.heap.size w6.heap.size w9.heap.size w8.heap.size) := HY.out.step k
      clear HY hL k
      have hF := HZ.out.funs HC.out HH.out
      rw [HPQ.out.1, HE1.out, HE2.out] at hF
      go_wp2_with (refine wpList_load_exGF (by kernel_rfl) (.tmp 14) rfl w9.heap.size 0 (by kernel_rfl) (funE bd ar w8.heap.size a) (C17.of_range HZ.out.f2.range) ?_)
      refine hF.mono ?_
      rintro _ wq ⟨rfl, k⟩
      have HB : Hid (Below w.heap.size w wq) := Below.next HZ.out.v.bl k
      clear HZ hF k
      go_wp2
      go_ret
      exact ⟨rfl, HB.out⟩
    · go_wp2_with (refine wpList_load_exGF (by kernel_rfl) (.tmp 13) rfl w7.heap.size 0 (by kernel_rfl) (twoE 4 bd w6.heap.size a b) (C17.of_range HY.out.l2.range) ?_)
      refine hL.mono ?_
      rintro _ wz ⟨rfl, k⟩
      have HZ : Hid (FX w wz a b s bd ar w5.heap.size w4.heap.size w7.heap.size w6.heap.size w9.heap.size w8.heap.size) := HY.out.step k
      clear HY hL k
      have hF := HZ.out.funs HC.out HH.out
      rw [HPQ.out.1, HE1.out, HE2.out] at hF
      go_wp2_with (refine wpList_load_exGF (by kernel_rfl) (.tmp 14) rfl w9.heap.size 0 (by kernel_rfl) (funE bd ar w8.heap.size a) (C17.of_range HZ.out.f2.range) ?_)
      refine hF.mono ?_
      rintro _ wq ⟨rfl, k⟩
      have HB : Hid (Below w.heap.size w wq) := Below.next HZ.out.v.bl k
      clear HZ hF k
      go_wp2
      go_ret
      exact ⟨rfl, HB.out⟩
    · go_wp2_with (refine wpList_load_exGF (by kernel_rfl) (.tmp 13) rfl w7.heap.size 0 (by kernel_rfl) (twoE 4 bd w6.heap.size a b) (C17.of_range HY.out.l2.range) ?_)
      refine hL.mono ?_
      rintro _ wz ⟨rfl, k⟩
      have HZ : Hid (FX w wz a b s bd ar w5.heap.size w4.heap.size w7.heap.size w6.heap.size w9.heap.size w8.heap.size) := HY.out.step k
      clear HY hL k
      have hF := HZ.out.funs HC.out HH.out
      rw [HPQ.out.1, HE1.out, HE2.out] at hF
      go_wp2_with (refine wpList_load_exGF (by kernel_rfl) (.tmp 14) rfl w9.heap.size 0 (by kernel_rfl) (funE bd ar w8.heap.size a) (C17.of_range HZ.out.f2.range) ?_)
      refine hF.mono ?_
      rintro _ wq ⟨rfl, k⟩
      have HB : Hid (Below w.heap.size w wq) := Below.next HZ.out.v.bl k
      clear HZ hF k
      go_wp2
      go_ret
      exact ⟨rfl, HB.out⟩
end Go.Proofs.Ytkegefbnbdcgcaa

/- A lattice that comes in, opened into its names and its table. -/
namespace Go.Proofs.Ytkegefbnbdcgcaa
open Go.ChangeShapes Go.WideShapes Go.ChangeAt Go.RowKit Go.Deep Go.Joins

theorem Try.own : ownKnob Try.prog.godebug = none := by kernel_rfl
theorem Try.laidOut : laidOutB Try.prog = true := by kernel_rfl
theorem Try.cellsString : Try.prog.cellsOf 9 = 1 := by kernel_rfl
theorem Try.cellsBool : Try.prog.cellsOf 4 = 1 := by kernel_rfl
theorem addr_plain (b off i : Nat) : (⟨b, off, none⟩ : Addr).add i = ⟨b, off + i, none⟩ := by unfold Addr.add; split <;> simp_all

section
variable {H : Type} {enc : TypeId × Value → H} {W : World} {base : Nat}

set_option maxRecDepth 100000 in
theorem open_strs {fuel : Nat} {v : Value} {x : DataW H × List MemPlace} (h : DataW.trod enc Try.prog W base (fun _ => true) true fuel 32 [v] = some x) :
    ∃ n : Strs, v = .slice n.ao n.len n.cap ∧ n.At W := by
  rcases open_strings Try.underlying32 Try.underlying9 Try.cellsString h with ⟨hcs, _⟩ | ⟨a, len, cap, ss, hcs, _, hl, hm, hz, _, hcell, hws⟩
  · exact ⟨⟨none, 0, 0, 0, 0, fun _ => ByteArray.empty⟩, by simpa using hcs, ⟨Nat.le_refl _, fun h => absurd h (Nat.lt_irrefl _), Nat.zero_le _, fun _ h => absurd h (Nat.not_lt_zero _), fun _ h => absurd h (Nat.not_lt_zero _)⟩⟩
  · have hv : v = .slice (some a) len cap := by simpa using hcs
    simp only [if_true] at hz
    unfold maxLen at hm hws
    refine ⟨⟨some a, a.block, a.off, len, cap, fun i => ss.getD i ByteArray.empty⟩, hv, ⟨hl, fun hp => ?_, Nat.le_trans hl hm, fun i hi => ?_, fun i hi => ?_⟩⟩
    · have hp' : 0 < len := hp
      have hs := World.cell?_spot (hcell 0 (by omega))
      obtain ⟨ab, ao, asp⟩ := a
      have : asp = none := by simpa [Addr.add] using hs
      subst this; rfl
    · have hi' : i < len := hi
      have hs := World.cell?_spot (hcell 0 (by omega))
      obtain ⟨ab, ao, asp⟩ := a
      have : asp = none := by simpa [Addr.add] using hs
      subst this
      have := hcell i (by omega)
      rw [addr_plain] at this
      exact this
    · have hi' : i < len := hi
      have hmem : ss.getD i ByteArray.empty ∈ ss := by
        rw [List.getD_eq_getElem?_getD, List.getElem?_eq_getElem (by omega)]
        exact List.getElem_mem _
      exact hws _ hmem

end
end Go.Proofs.Ytkegefbnbdcgcaa

/- A type that comes in, opened. -/
namespace Go.Proofs.Ytkegefbnbdcgcaa
open Go.ChangeShapes Go.WideShapes Go.ChangeAt Go.RowKit Go.Deep Go.Joins

theorem Try.cellsInt' : Try.prog.cellsOf 3 = 1 := by kernel_rfl
theorem Try.cellsTys : Try.prog.cellsOf 22 = 1 := by kernel_rfl
theorem Try.cellsTy : Try.prog.cellsOf 24 = 5 := by kernel_rfl

section
variable {H : Type} {enc : TypeId × Value → H} {W : World} {base : Nat}

def Ty.cs (t : Ty) : List Value := [.int .i64 t.k, .int .i64 t.l, .slice t.ao t.len t.cap, .int .i64 t.h, .int .i64 t.e]

set_option maxRecDepth 100000 in
theorem open_ty : ∀ (fuel : Nat) (cs : List Value) (x : DataW H × List MemPlace), DataW.trod enc Try.prog W base (fun _ => true) true fuel 24 cs = some x → ∃ t : Ty, cs = t.cs ∧ t.At W := by
  intro fuel
  induction fuel using Nat.strongRecOn with
  | _ fuel ih =>
    intro cs x h
    obtain ⟨xs, n, rfl, _, hl, hlen, hf⟩ := DataW.trod_struct Try.underlying24 h
    rw [Try.cellsTy] at hl
    match cs, hl with
    | [c0, c1, c2, c3, c4], _ =>
      have hlen5 : xs.length = 5 := hlen
      match xs, hlen5 with
      | [y0, y1, y2, y3, y4], _ =>
        have f0 : DataW.trod enc Try.prog W base (fun _ => true) true n 3 [c0] = some y0 := by simpa [Try.cellsInt'] using hf 0 _ rfl
        have f1 : DataW.trod enc Try.prog W base (fun _ => true) true n 3 [c1] = some y1 := by simpa [Try.cellsInt'] using hf 1 _ rfl
        have f2 : DataW.trod enc Try.prog W base (fun _ => true) true n 22 [c2] = some y2 := by simpa [Try.cellsTys] using hf 2 _ rfl
        have f3 : DataW.trod enc Try.prog W base (fun _ => true) true n 3 [c3] = some y3 := by simpa [Try.cellsInt'] using hf 3 _ rfl
        have f4 : DataW.trod enc Try.prog W base (fun _ => true) true n 3 [c4] = some y4 := by simpa [Try.cellsInt'] using hf 4 _ rfl
        obtain ⟨k, q0, _⟩ := DataW.trod_int Try.underlying3 f0
        obtain ⟨l, q1, _⟩ := DataW.trod_int Try.underlying3 f1
        obtain ⟨hh, q3, _⟩ := DataW.trod_int Try.underlying3 f3
        obtain ⟨e, q4, _⟩ := DataW.trod_int Try.underlying3 f4
        simp only [List.cons.injEq, and_true] at q0 q1 q3 q4
        subst q0 q1 q3 q4
        rcases DataW.trod_slice Try.underlying22 f2 with ⟨hcs, _⟩ | ⟨a, len, cap, elems, rest, m, hm, hcs, _, _, hlc, hmx, hel, hx, _, _⟩
        · simp only [List.cons.injEq, and_true] at hcs
          subst hcs
          exact ⟨.mk k l hh e none 0 0 0 0 (fun _ => .dm), rfl, ⟨fun h => absurd h (Nat.lt_irrefl _), Nat.zero_le _, fun _ h => absurd h (Nat.not_lt_zero _)⟩⟩
        · simp only [List.cons.injEq, and_true] at hcs
          subst hcs hm
          unfold maxLen at hmx
          have each : ∀ i, i < len → ∃ t : Ty, (∀ j, j < 5 → W.cell? (a.add (i * 5 + j)) = t.cs[j]?) ∧ t.At W := by
            intro i hi
            have h1 := hx i hi
            rw [Try.cellsTy] at h1
            cases hc : W.cells? base (a.add (i * 5)) 5 with
            | none => rw [hc] at h1; simp at h1; omega
            | some cs' =>
              rw [hc] at h1
              have h2 : DataW.trod enc Try.prog W base (fun _ => true) true m 24 cs' = some elems[i] := by
                rw [List.getElem?_eq_getElem (by omega)] at h1
                simpa using h1
              obtain ⟨t, rfl, hA⟩ := ih m (by omega) cs' _ h2
              obtain ⟨_, _, hcell⟩ := World.cells?_some hc
              exact ⟨t, fun j hj => by rw [← hcell j hj, add_add], hA⟩
          have hspot : 0 < len → a = ⟨a.block, a.off, none⟩ := fun hp => by
            obtain ⟨t, ht, _⟩ := each 0 hp
            have hs := World.cell?_spot (a := a.add (0 * 5 + 0)) (v := .int .i64 t.k) (by rw [ht 0 (by omega)]; rfl)
            obtain ⟨ab, ao, asp⟩ := a
            have : asp = none := by simpa [Addr.add] using hs
            subst this; rfl
          refine ⟨.mk k l hh e (some a) a.block a.off len cap (fun i => if h : i < len then Classical.choose (each i h) else .dm), rfl, ⟨fun hp => congrArg some (hspot hp), by omega, fun i hi => ?_⟩⟩
          simp only [dif_pos hi]
          obtain ⟨ht, hA⟩ := Classical.choose_spec (each i hi)
          generalize Classical.choose (each i hi) = t at ht hA
          have ea := hspot (by omega)
          have get : ∀ j, j < 5 → W.cell? ⟨a.block, a.off + i * 5 + j, none⟩ = t.cs[j]? := fun j hj => by
            have := ht j hj
            rw [ea, addr_plain, ← Nat.add_assoc] at this
            exact this
          exact ⟨⟨get 0 (by omega), get 1 (by omega), get 2 (by omega), get 3 (by omega), get 4 (by omega)⟩, hA⟩
set_option maxRecDepth 100000 in
theorem open_type {v : Value} {d : DataW H} {p : List MemPlace} {b0 : Nat} (hv : Value.okWide Try.prog W .any b0 24 v) (h : DataW.Trod enc Try.prog W base (fun _ => true) true 24 v d p) :
    ∃ t : Ty, v = .agg #[.int .i64 t.k, .int .i64 t.l, .slice t.ao t.len t.cap, .int .i64 t.h, .int .i64 t.e] ∧ t.At W := by
  obtain ⟨cs, rfl, _⟩ := okWide_struct Try.underlying24 hv
  obtain ⟨fuel, hf⟩ := h
  obtain ⟨t, ht, hA⟩ := open_ty fuel _ _ hf
  refine ⟨t, ?_, hA⟩
  have : cs.toList = t.cs := by simpa [Value.cells] using ht
  obtain ⟨l⟩ := cs
  have e : l = t.cs := this
  rw [e]; rfl

end
end Go.Proofs.Ytkegefbnbdcgcaa
