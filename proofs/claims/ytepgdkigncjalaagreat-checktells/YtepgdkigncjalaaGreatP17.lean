/- Layer 7: a name's type. -/
import Derived.Test.YtepgdkigncjalaaGreatP16
import Derived.BigQuiet
namespace Go.Proofs.YtepgdkigncjalaaGreat
open Go Go.RowKit

/-- Names with types that have no Parts. -/
structure Nm where
  s : ByteArray
  k : Int
  l : Int
def Nm.vs (x : Nm) : List Value := [.string x.s, .int .i64 x.k, .int .i64 x.l, .slice none 0 0, .int .i64 0, .int .i64 0]
def evL (env : List Nm) : List Value := env.flatMap Nm.vs
theorem evL_at : ∀ (env : List Nm) (q j : Nat) (x : Nm) (v : Value), env[q]? = some x → x.vs[j]? = some v → (evL env)[q * 6 + j]? = some v
  | [], q, _, _, _, h, _ => by simp at h
  | y :: env, 0, j, x, v, h, hv => by
    have : y = x := by simpa using h
    subst this
    have hj : j < 6 := by
      rcases Nat.lt_or_ge j 6 with h1 | h1
      · exact h1
      · rw [List.getElem?_eq_none (by simpa [Nm.vs] using h1)] at hv; cases hv
    show (y.vs ++ evL env)[0 * 6 + j]? = some v
    rw [List.getElem?_append_left (by simp [Nm.vs]; omega)]
    simpa using hv
  | y :: env, q + 1, j, x, v, h, hv => by
    have := evL_at env q j x v (by simpa using h) hv
    show (y.vs ++ evL env)[(q + 1) * 6 + j]? = some v
    rw [List.getElem?_append_right (by simp [Nm.vs]; omega)]
    have e : (q + 1) * 6 + j - y.vs.length = q * 6 + j := by simp [Nm.vs]; omega
    rw [e]; exact this
/-- Where names stand: one scope, in block sb, its names in block eb. -/
structure Sc (w : World) (sb eb : Nat) (env : List Nm) : Prop where
  sc : Blk w sb [.slice (some ⟨eb, 0, none⟩) env.length env.length, .int .i64 (-1), .pointer none] 71
  ev : Blk w eb (evL env) 47
theorem Sc.kept {w w' : World} {sb eb : Nat} {env : List Nm} (h : Sc w sb eb env) (hb : Below w.heap.size w w') : Sc w' sb eb env := ⟨h.sc.kept hb, h.ev.kept hb⟩

set_option maxRecDepth 100000 in
set_option maxHeartbeats 8000000 in
theorem jname (n : Strs) (g : Grid) (e : Ex) (sb eb : Nat) (env : List Nm) (pc hp : Int) (w : World) (hn : n.At w) (hg : g.At w) (hF : formedB n g = true) (hS : Sc w sb eb env) (hlen : env.length ≤ 1000) (m : Nat) (x : Nm) (hm : env[m]? = some x) (hx : x.s = e.tx) (hlast : ∀ j y, m < j → env[j]? = some y → (y.s.toList == e.tx.toList) = false)
    (hk : x.k = 1 ∨ x.k = 2) (hl : inR n.len x.l = true) (hpc : inR n.len pc = true) :
    Calls Tryz.prog 90 #[.agg #[.slice n.ao n.len n.cap, .slice g.ao g.len g.cap], .agg e.va, .agg #[.pointer (some ⟨sb, 0, none⟩), .int .i64 pc, .int .i64 hp]] w fun r w' => ∃ ao cap, r = .returned (.agg #[.int .i64 x.k, .int .i64 (joinI n g x.l pc), .slice ao 0 cap, .int .i64 0, .int .i64 0]) ∧ Below w.heap.size w w' := by
  have H := allocs_heap [.cells #[.slice n.ao n.len n.cap, .slice g.ao g.len g.cap] 92, .cells e.va 37, .cells #[.pointer (some ⟨sb, 0, none⟩), .int .i64 pc, .int .i64 hp] 73, .cells #[.int .i64 0, .int .i64 0, .slice none 0 0, .int .i64 0, .int .i64 0] 34] w
  have B0 := allocs_below [.cells #[.slice n.ao n.len n.cap, .slice g.ao g.len g.cap] 92, .cells e.va 37, .cells #[.pointer (some ⟨sb, 0, none⟩), .int .i64 pc, .int .i64 hp] 73, .cells #[.int .i64 0, .int .i64 0, .slice none 0 0, .int .i64 0, .int .i64 0] 34] w
  simp only [List.foldl] at H B0
  have bA : Blk _ w.heap.size [.slice n.ao n.len n.cap, .slice g.ao g.len g.cap] 92 := H 0 (by simp)
  have bE : Blk _ (w.heap.size + 1) e.vs 37 := H 1 (by simp)
  have bW : Blk _ (w.heap.size + 2) [.pointer (some ⟨sb, 0, none⟩), .int .i64 pc, .int .i64 hp] 73 := H 2 (by simp)
  have bZ : Blk _ (w.heap.size + 3) [.int .i64 0, .int .i64 0, .slice none 0 0, .int .i64 0, .int .i64 0] 34 := H 3 (by simp)
  clear H
  have HI : Hid (_ ∧ _ ∧ _ ∧ _ ∧ _) := (⟨B0, bA, bE, bZ, hS.kept B0⟩ : _ ∧ _ ∧ _ ∧ _ ∧ _)
  have HN : Hid (n.At w ∧ g.At w) := ⟨hn, hg⟩
  have HM : Hid (env[m]? = some x ∧ x.s = e.tx ∧ (∀ j y, m < j → env[j]? = some y → (y.s.toList == e.tx.toList) = false) ∧ (x.k = 1 ∨ x.k = 2) ∧ inR n.len x.l = true ∧ inR n.len pc = true ∧ formedB n g = true) := ⟨hm, hx, hlast, hk, hl, hpc, hF⟩
  have hml : m < env.length := by
    rcases Nat.lt_or_ge m env.length with h | h
    · exact h
    · rw [List.getElem?_eq_none h] at hm; cases hm
  have w0 := bW.cell 0 rfl
  have w1' := bW.cell 1 rfl
  clear bA bE bW bZ hS hn hg hm hx hlast hk hl hpc hF B0
  go_enter Tryz.func90, Tryz.ntmps90
  go_wp2
  clear w0 w1'
  go_loopw [7, 8] (fun r s wr => r = .int .i64 pc ∧ s = .pointer (some ⟨sb, 0, none⟩) ∧ Below w.heap.size w wr ∧ Blk wr w.heap.size [.slice n.ao n.len n.cap, .slice g.ao g.len g.cap] 92 ∧ Blk wr (w.heap.size + 1) e.vs 37 ∧ Blk wr (w.heap.size + 3) [.int .i64 0, .int .i64 0, .slice none 0 0, .int .i64 0, .int .i64 0] 34 ∧ Sc wr sb eb env) (fun _ _ _ => 0)
  case atStart => exact ⟨rfl, rfl, HI.out⟩
  case round =>
    clear HI
    obtain ⟨rfl, rfl, hI⟩ := hrel
    have HI : Hid (Below w.heap.size w wr ∧ Blk wr w.heap.size [.slice n.ao n.len n.cap, .slice g.ao g.len g.cap] 92 ∧ Blk wr (w.heap.size + 1) e.vs 37 ∧ Blk wr (w.heap.size + 3) [.int .i64 0, .int .i64 0, .slice none 0 0, .int .i64 0, .int .i64 0] 34 ∧ Sc wr sb eb env) := hI
    have s0 := hI.2.2.2.2.sc.cell 0 rfl
    clear hI
    go_wp2
    clear s0
    go_loopw [9] (fun i wr => ∃ q : Nat, m ≤ q ∧ q < env.length ∧ i = .int .i64 q ∧ Below w.heap.size w wr ∧ Blk wr w.heap.size [.slice n.ao n.len n.cap, .slice g.ao g.len g.cap] 92 ∧ Blk wr (w.heap.size + 1) e.vs 37 ∧ Blk wr (w.heap.size + 3) [.int .i64 0, .int .i64 0, .slice none 0 0, .int .i64 0, .int .i64 0] 34 ∧ Sc wr sb eb env) (fun i _ => (intOf i).toNat)
    case atStart => exact ⟨env.length - 1, by omega, by omega, by go_num, HI.out⟩
    case round =>
      clear HI
      obtain ⟨q, hmq, hq, rfl, hI⟩ := hrel
      have HI : Hid (Below w.heap.size w wr ∧ Blk wr w.heap.size [.slice n.ao n.len n.cap, .slice g.ao g.len g.cap] 92 ∧ Blk wr (w.heap.size + 1) e.vs 37 ∧ Blk wr (w.heap.size + 3) [.int .i64 0, .int .i64 0, .slice none 0 0, .int .i64 0, .int .i64 0] 34 ∧ Sc wr sb eb env) := hI
      obtain ⟨y, hy⟩ : ∃ y, env[q]? = some y := ⟨_, List.getElem?_eq_getElem hq⟩
      have q0 : (0 : Int) ≤ q := by omega
      have q1 : (q : Int) < env.length := by omega
      have s0 := fun z => Gr.cell (w0 := wr) z (hI.2.2.2.2.sc.cell 0 rfl)
      have y0 := fun z => Gr.cell (w0 := wr) z (hI.2.2.2.2.ev.cell (q * 6 + 0) (evL_at env q 0 y _ hy rfl))
      have e3 := fun z => Gr.cell (w0 := wr) z (hI.2.2.1.cell 3 rfl)
      have hNE : Nonempty (Gr wr) := ⟨⟨_, Below.refl _ _⟩⟩
      have HY : Hid (env[q]? = some y) := hy
      simp only [Nat.add_zero] at y0
      clear hI hy
      go_wp2
      by_cases hqm : q = m
      · subst hqm
        have hyx : y = x := by have h1 := HY.out; have h2 := HM.out.1; rw [h1] at h2; exact Option.some.inj h2
        subst hyx
        have hbe : (y.s.toList == e.tx.toList) = true := by rw [HM.out.2.1]; exact beq_self_eq_true _
        refine wp_region_gr (by kernel_rfl) (by kernel_rfl) ?_
        repeat go_big_quiet_step (fail)
        refine wpQuiet_nil ?_
        rintro w4 ⟨q4, rfl⟩
        have B4 := q4.bl
        generalize q4.w = w4 at B4 ⊢
        clear q4 s0 y0 e3 hNE
        have HI4 : Hid (Below w.heap.size w w4 ∧ Blk w4 w.heap.size [.slice n.ao n.len n.cap, .slice g.ao g.len g.cap] 92 ∧ Blk w4 (w.heap.size + 3) [.int .i64 0, .int .i64 0, .slice none 0 0, .int .i64 0, .int .i64 0] 34 ∧ Sc w4 sb eb env) := ⟨Below.next HI.out.1 B4, HI.out.2.1.kept B4, HI.out.2.2.2.1.kept B4, HI.out.2.2.2.2.kept B4⟩
        clear HI B4
        go_wp2
        have s0 := fun z => Gr.cell (w0 := w4) z (HI4.out.2.2.2.sc.cell 0 rfl)
        have a0 := fun z => Gr.cell (w0 := w4) z (HI4.out.2.1.cell 0 rfl)
        have a1 := fun z => Gr.cell (w0 := w4) z (HI4.out.2.1.cell 1 rfl)
        have y1 := fun z => Gr.cell (w0 := w4) z (HI4.out.2.2.2.ev.cell (q * 6 + 1) (evL_at env q 1 y _ HY.out rfl))
        have y2 := fun z => Gr.cell (w0 := w4) z (HI4.out.2.2.2.ev.cell (q * 6 + 2) (evL_at env q 2 y _ HY.out rfl))
        have y3 := fun z => Gr.cell (w0 := w4) z (HI4.out.2.2.2.ev.cell (q * 6 + 3) (evL_at env q 3 y _ HY.out rfl))
        have y4 := fun z => Gr.cell (w0 := w4) z (HI4.out.2.2.2.ev.cell (q * 6 + 4) (evL_at env q 4 y _ HY.out rfl))
        have y5 := fun z => Gr.cell (w0 := w4) z (HI4.out.2.2.2.ev.cell (q * 6 + 5) (evL_at env q 5 y _ HY.out rfl))
        have hNE : Nonempty (Gr w4) := ⟨⟨_, Below.refl _ _⟩⟩
        refine wp_region_gr_tail 10 (by kernel_rfl) (by kernel_rfl) ?_
        simp only [List.take, List.drop]
        repeat go_big_quiet_step (fail)
        refine wpQuiet_nil ?_
        rintro w5 ⟨q5, rfl⟩
        have B5 := q5.bl
        generalize q5.w = w5 at B5 ⊢
        clear q5 s0 a0 a1 y1 y2 y3 y4 y5 hNE
        have b5 := Below.next HI4.out.1 B5
        have hR := jraise_fl n g y.k y.l none 0 pc w5 (HN.out.1.kept b5) (HN.out.2.kept b5) HM.out.2.2.2.2.2.2 HM.out.2.2.2.1 HM.out.2.2.2.2.1 HM.out.2.2.2.2.2.1
        go_wp2_with fail
        refine hR.mono ?_
        rintro _ w6 ⟨ao', cap', rfl, b6⟩
        have bZ6 := (HI4.out.2.2.1.kept B5).kept b6
        have B6 := Below.next b5 b6
        clear hR b6 b5 B5
        go_wp2_with (refine wpList_store_blk rfl rfl 34 (.tmp 6) (.tmp 51) rfl (w.heap.size + 3) [.int .i64 y.k, .int .i64 (joinI n g y.l pc), .slice ao' 0 cap', .int .i64 0, .int .i64 0] rfl rfl rfl bZ6 rfl (by kernel_rfl) ?_; intro w7 W7)
        have c0 := W7.blk.cell 0 rfl
        have c1 := W7.blk.cell 1 rfl
        have c2 := W7.blk.cell 2 rfl
        have c3 := W7.blk.cell 3 rfl
        have c4 := W7.blk.cell 4 rfl
        refine bodyPost_ret (v := .agg #[.int .i64 y.k, .int .i64 (joinI n g y.l pc), .slice ao' 0 cap', .int .i64 0, .int .i64 0]) (by simp [results, Tryz.results90, go_sem, c0, c1, c2, c3, c4]) rfl ⟨ao', cap', rfl, W7.below (by omega) B6⟩
      · have hbe : (y.s.toList == e.tx.toList) = false := HM.out.2.2.1 q y (by omega) HY.out
        refine wp_region_gr (by kernel_rfl) (by kernel_rfl) ?_
        repeat go_big_quiet_step (fail)
        refine wpQuiet_nil ?_
        rintro w4 ⟨q4, rfl⟩
        have B4 := q4.bl
        generalize q4.w = w4 at B4 ⊢
        clear q4 s0 y0 e3 hNE
        have HI4 : Hid (Below w.heap.size w w4 ∧ Blk w4 w.heap.size [.slice n.ao n.len n.cap, .slice g.ao g.len g.cap] 92 ∧ Blk w4 (w.heap.size + 1) e.vs 37 ∧ Blk w4 (w.heap.size + 3) [.int .i64 0, .int .i64 0, .slice none 0 0, .int .i64 0, .int .i64 0] 34 ∧ Sc w4 sb eb env) := ⟨Below.next HI.out.1 B4, HI.out.2.1.kept B4, HI.out.2.2.1.kept B4, HI.out.2.2.2.1.kept B4, HI.out.2.2.2.2.kept B4⟩
        clear HI B4 hbe
        go_wp2
        go_roundw
        case rel => exact ⟨q - 1, by omega, by omega, by go_num, HI4.out⟩
        case measure => simp [intOf]; omega
end Go.Proofs.YtepgdkigncjalaaGreat

/- Layer 7: expr: what is alike in all rules. -/
namespace Go.Proofs.YtepgdkigncjalaaGreat
open Go Go.RowKit

/-- What a rule answers: a type without Parts, and an exception label. -/
def RuleOk (n : Strs) (g : Grid) (e : Ex) (sb : Nat) (pc hp k l x : Int) (w : World) : Prop := Calls Tryz.prog 61 #[.agg #[.slice n.ao n.len n.cap, .slice g.ao g.len g.cap], .agg e.va, .agg #[.pointer (some ⟨sb, 0, none⟩), .int .i64 pc, .int .i64 hp]] w fun r w' => (∃ ao cap, r = .returned (.tuple #[.agg #[.int .i64 k, .int .i64 l, .slice ao 0 cap, .int .i64 0, .int .i64 0], .int .i64 x])) ∧ Below w.heap.size w w'
def RuleNo (n : Strs) (g : Grid) (e : Ex) (sb : Nat) (pc hp pl c : Int) (w : World) : Prop := Calls Tryz.prog 61 #[.agg #[.slice n.ao n.len n.cap, .slice g.ao g.len g.cap], .agg e.va, .agg #[.pointer (some ⟨sb, 0, none⟩), .int .i64 pc, .int .i64 hp]] w fun r w' => r = .panicked (fault pl c) ∧ Below w.heap.size w w'
/-- A judgement. -/
def ExprOk (n : Strs) (g : Grid) (e : Ex) (sb : Nat) (pc hp k l x b : Int) (w : World) : Prop := Calls Tryz.prog 40 #[.agg #[.slice n.ao n.len n.cap, .slice g.ao g.len g.cap], .agg e.va, .agg #[.pointer (some ⟨sb, 0, none⟩), .int .i64 pc, .int .i64 hp]] w fun r w' => (∃ ao cap, r = .returned (.agg #[.int .i64 k, .int .i64 l, .slice ao 0 cap, .int .i64 0, .int .i64 0, .int .i64 x, .int .i64 b])) ∧ Below w.heap.size w w'
def ExprNo (n : Strs) (g : Grid) (e : Ex) (sb : Nat) (pc hp pl c : Int) (w : World) : Prop := Calls Tryz.prog 40 #[.agg #[.slice n.ao n.len n.cap, .slice g.ao g.len g.cap], .agg e.va, .agg #[.pointer (some ⟨sb, 0, none⟩), .int .i64 pc, .int .i64 hp]] w fun r w' => r = .panicked (fault pl c) ∧ Below w.heap.size w w'

set_option maxRecDepth 100000 in
set_option maxHeartbeats 4000000 in
theorem expr_no (n : Strs) (g : Grid) (e : Ex) (sb : Nat) (pc hp pl c : Int) (w : World) (hR : ∀ u, Below w.heap.size w u → RuleNo n g e sb pc hp pl c u) : ExprNo n g e sb pc hp pl c w := by
  have H := allocs_heap [.cells #[.slice n.ao n.len n.cap, .slice g.ao g.len g.cap] 92, .cells e.va 37, .cells #[.pointer (some ⟨sb, 0, none⟩), .int .i64 pc, .int .i64 hp] 73, .cells #[.int .i64 0, .int .i64 0, .slice none 0 0, .int .i64 0, .int .i64 0, .int .i64 0, .int .i64 0] 90] w
  have B0 := allocs_below [.cells #[.slice n.ao n.len n.cap, .slice g.ao g.len g.cap] 92, .cells e.va 37, .cells #[.pointer (some ⟨sb, 0, none⟩), .int .i64 pc, .int .i64 hp] 73, .cells #[.int .i64 0, .int .i64 0, .slice none 0 0, .int .i64 0, .int .i64 0, .int .i64 0, .int .i64 0] 90] w
  simp only [List.foldl] at H B0
  have bA : Blk _ w.heap.size [.slice n.ao n.len n.cap, .slice g.ao g.len g.cap] 92 := H 0 (by simp)
  have bE : Blk _ (w.heap.size + 1) e.vs 37 := H 1 (by simp)
  have bW : Blk _ (w.heap.size + 2) [.pointer (some ⟨sb, 0, none⟩), .int .i64 pc, .int .i64 hp] 73 := H 2 (by simp)
  clear H
  have a0 := bA.cell 0 rfl
  have a1 := bA.cell 1 rfl
  have X0 := C17.of_range bE.range
  have w0 := bW.cell 0 rfl
  have w1 := bW.cell 1 rfl
  have w2 := bW.cell 2 rfl
  have h := hR _ B0
  clear bA bE bW hR
  unfold RuleNo at h
  unfold ExprNo
  go_enter Tryz.func40, Tryz.ntmps40
  go_wp2_with (refine wpList_load_ex rfl (.tmp 4) rfl _ _ rfl e X0 ?_)
  refine h.mono ?_
  rintro _ w3 ⟨rfl, hb3⟩
  clear a0 a1 X0 w0 w1 w2 h
  go_wp2
  exact ⟨rfl, rfl, Below.next B0 hb3⟩

set_option maxRecDepth 100000 in
set_option maxHeartbeats 8000000 in
theorem expr_ok (n : Strs) (g : Grid) (e : Ex) (sb : Nat) (pc hp k l x b : Int) (w : World) (hn : n.At w) (hg : g.At w) (hF : formedB n g = true) (hk : k = 1 ∨ k = 2) (hl : inR n.len l = true) (hbe : jfold n g [pc, x] = b) (hb : inR n.len b = true)
    (hR : ∀ u, Below w.heap.size w u → RuleOk n g e sb pc hp k l x u) : ExprOk n g e sb pc hp k (joinI n g l b) x b w := by
  have H := allocs_heap [.cells #[.slice n.ao n.len n.cap, .slice g.ao g.len g.cap] 92, .cells e.va 37, .cells #[.pointer (some ⟨sb, 0, none⟩), .int .i64 pc, .int .i64 hp] 73, .cells #[.int .i64 0, .int .i64 0, .slice none 0 0, .int .i64 0, .int .i64 0, .int .i64 0, .int .i64 0] 90] w
  have B0 := allocs_below [.cells #[.slice n.ao n.len n.cap, .slice g.ao g.len g.cap] 92, .cells e.va 37, .cells #[.pointer (some ⟨sb, 0, none⟩), .int .i64 pc, .int .i64 hp] 73, .cells #[.int .i64 0, .int .i64 0, .slice none 0 0, .int .i64 0, .int .i64 0, .int .i64 0, .int .i64 0] 90] w
  have SZ := allocs_size [.cells #[.slice n.ao n.len n.cap, .slice g.ao g.len g.cap] 92, .cells e.va 37, .cells #[.pointer (some ⟨sb, 0, none⟩), .int .i64 pc, .int .i64 hp] 73, .cells #[.int .i64 0, .int .i64 0, .slice none 0 0, .int .i64 0, .int .i64 0, .int .i64 0, .int .i64 0] 90] w
  simp only [List.foldl, List.length] at H B0 SZ
  have bA : Blk _ w.heap.size [.slice n.ao n.len n.cap, .slice g.ao g.len g.cap] 92 := H 0 (by simp)
  have bE : Blk _ (w.heap.size + 1) e.vs 37 := H 1 (by simp)
  have bW : Blk _ (w.heap.size + 2) [.pointer (some ⟨sb, 0, none⟩), .int .i64 pc, .int .i64 hp] 73 := H 2 (by simp)
  have bZ : Blk _ (w.heap.size + 3) [.int .i64 0, .int .i64 0, .slice none 0 0, .int .i64 0, .int .i64 0, .int .i64 0, .int .i64 0] 90 := H 3 (by simp)
  clear H
  have a0 := bA.cell 0 rfl
  have a1 := bA.cell 1 rfl
  have X0 := C17.of_range bE.range
  have w0 := bW.cell 0 rfl
  have w1 := bW.cell 1 rfl
  have w2 := bW.cell 2 rfl
  have h := hR _ B0
  have HI : Hid (_ ∧ _ ∧ _ ∧ _ ∧ _) := (⟨B0, bA, bE, bW, bZ⟩ : _ ∧ _ ∧ _ ∧ _ ∧ _)
  have HN : Hid (n.At w ∧ g.At w ∧ formedB n g = true ∧ (k = 1 ∨ k = 2) ∧ inR n.len l = true ∧ jfold n g [pc, x] = b ∧ inR n.len b = true) := ⟨hn, hg, hF, hk, hl, hbe, hb⟩
  clear bA bE bW bZ hR hn hg hF hk hl hbe hb B0 SZ
  unfold RuleOk at h
  unfold ExprOk
  go_enter Tryz.func40, Tryz.ntmps40
  go_wp2_with (refine wpList_load_ex rfl (.tmp 4) rfl _ _ rfl e X0 ?_)
  refine h.mono ?_
  rintro _ w3 ⟨⟨ao, cap, rfl⟩, hb3⟩
  have B4 := Below.next hb3 (below_alloc w3 (.cells #[.int .i64 k, .int .i64 l, .slice ao 0 cap, .int .i64 0, .int .i64 0] 34))
  have N4 : Blk (w3.alloc (.cells #[.int .i64 k, .int .i64 l, .slice ao 0 cap, .int .i64 0, .int .i64 0] 34)) w3.heap.size [.int .i64 k, .int .i64 l, .slice ao 0 cap, .int .i64 0, .int .i64 0] 34 := Blk.new w3 _ _
  have HJ : Hid (_ ∧ _ ∧ _ ∧ _ ∧ _ ∧ _) := (⟨Below.next HI.out.1 B4, HI.out.2.1.kept B4, HI.out.2.2.1.kept B4, HI.out.2.2.2.1.kept B4, HI.out.2.2.2.2.kept B4, N4⟩ : _ ∧ _ ∧ _ ∧ _ ∧ _ ∧ _)
  clear a0 a1 X0 w0 w1 w2 h B4 N4 hb3 HI
  have a0 := HJ.out.2.1.cell 0 rfl
  have a1 := HJ.out.2.1.cell 1 rfl
  have X0 := C17.of_range HJ.out.2.2.1.range
  have t0 := HJ.out.2.2.2.2.2.cell 0 rfl
  have t1 := HJ.out.2.2.2.2.2.cell 1 rfl
  have t2 := HJ.out.2.2.2.2.2.cell 2 rfl
  have t3 := HJ.out.2.2.2.2.2.cell 3 rfl
  have t4 := HJ.out.2.2.2.2.2.cell 4 rfl
  have hL := jlimit n g e k l ao cap _ (HN.out.1.kept HJ.out.1) (HN.out.2.1.kept HJ.out.1) HN.out.2.2.1 HN.out.2.2.2.1 HN.out.2.2.2.2.1
  go_wp2_with (refine wpList_load_ex rfl (.tmp 4) rfl _ _ rfl e X0 ?_)
  refine hL.mono ?_
  rintro _ w5 ⟨rfl, hb5⟩
  generalize w3.heap.size = T at *
  have HK : Hid (Below w.heap.size w w5 ∧ Blk w5 w.heap.size [.slice n.ao n.len n.cap, .slice g.ao g.len g.cap] 92 ∧ Blk w5 (w.heap.size + 2) [.pointer (some ⟨sb, 0, none⟩), .int .i64 pc, .int .i64 hp] 73 ∧ Blk w5 (w.heap.size + 3) [.int .i64 0, .int .i64 0, .slice none 0 0, .int .i64 0, .int .i64 0, .int .i64 0, .int .i64 0] 90 ∧ Blk w5 T [.int .i64 k, .int .i64 l, .slice ao 0 cap, .int .i64 0, .int .i64 0] 34) := ⟨Below.next HJ.out.1 hb5, HJ.out.2.1.kept hb5, HJ.out.2.2.2.1.kept hb5, HJ.out.2.2.2.2.1.kept hb5, HJ.out.2.2.2.2.2.kept hb5⟩
  clear a0 a1 X0 t0 t1 t2 t3 t4 hL HJ hb5
  have a0 := HK.out.2.1.cell 0 rfl
  have a1 := HK.out.2.1.cell 1 rfl
  have w1 := HK.out.2.2.1.cell 1 rfl
  have B6 := below_alloc w5 (.cells #[.int .i64 pc, .int .i64 x] 3)
  have N6 : Blk (w5.alloc (.cells #[.int .i64 pc, .int .i64 x] 3)) w5.heap.size ([pc, x].map (Value.int .i64)) 3 := Blk.new w5 _ _
  have b6 := Below.next HK.out.1 B6
  have hJn := jjoin n g [pc, x] w5.heap.size _ (HN.out.1.kept b6) (HN.out.2.1.kept b6) N6 (by simp) (by simp)
  rw [HN.out.2.2.2.2.2.1] at hJn
  simp only [List.length] at hJn
  go_wp2_with fail
  refine hJn.mono ?_
  rintro _ w7 ⟨rfl, hb7⟩
  have B7 := Below.next B6 hb7
  have HM : Hid (Below w.heap.size w w7 ∧ Blk w7 w.heap.size [.slice n.ao n.len n.cap, .slice g.ao g.len g.cap] 92 ∧ Blk w7 (w.heap.size + 3) [.int .i64 0, .int .i64 0, .slice none 0 0, .int .i64 0, .int .i64 0, .int .i64 0, .int .i64 0] 90 ∧ Blk w7 T [.int .i64 k, .int .i64 l, .slice ao 0 cap, .int .i64 0, .int .i64 0] 34) := ⟨Below.next HK.out.1 B7, HK.out.2.1.kept B7, HK.out.2.2.2.1.kept B7, HK.out.2.2.2.2.kept B7⟩
  clear a0 a1 w1 B6 N6 b6 hJn HK hb7 B7
  have a0 := HM.out.2.1.cell 0 rfl
  have a1 := HM.out.2.1.cell 1 rfl
  have t0 := HM.out.2.2.2.cell 0 rfl
  have t1 := HM.out.2.2.2.cell 1 rfl
  have t2 := HM.out.2.2.2.cell 2 rfl
  have t3 := HM.out.2.2.2.cell 3 rfl
  have t4 := HM.out.2.2.2.cell 4 rfl
  have hRs := jraise_fl n g k l ao cap b w7 (HN.out.1.kept HM.out.1) (HN.out.2.1.kept HM.out.1) HN.out.2.2.1 HN.out.2.2.2.1 HN.out.2.2.2.2.1 HN.out.2.2.2.2.2.2
  go_wp2_with fail
  refine hRs.mono ?_
  rintro _ w8 ⟨ao', cap', rfl, hb8⟩
  have bZ := HM.out.2.2.1.kept hb8
  have B8 := Below.next HM.out.1 hb8
  clear a0 a1 t0 t1 t2 t3 t4 hRs HM hb8
  go_wp2_with (refine wpList_store_blk rfl rfl 90 (.tmp 6) (.tmp 33) rfl (w.heap.size + 3) [.int .i64 k, .int .i64 (joinI n g l b), .slice ao' 0 cap', .int .i64 0, .int .i64 0, .int .i64 x, .int .i64 b] rfl rfl rfl bZ rfl (by kernel_rfl) ?_; intro w9 W9)
  have c0 := W9.blk.cell 0 rfl
  have c1 := W9.blk.cell 1 rfl
  have c2 := W9.blk.cell 2 rfl
  have c3 := W9.blk.cell 3 rfl
  have c4 := W9.blk.cell 4 rfl
  have c5 := W9.blk.cell 5 rfl
  have c6 := W9.blk.cell 6 rfl
  refine bodyPost_ret (v := .agg #[.int .i64 k, .int .i64 (joinI n g l b), .slice ao' 0 cap', .int .i64 0, .int .i64 0, .int .i64 x, .int .i64 b]) (by simp [results, Tryz.results40, go_sem, c0, c1, c2, c3, c4, c5, c6]) rfl ⟨⟨ao', cap', rfl⟩, W9.below (by omega) B8⟩
end Go.Proofs.YtepgdkigncjalaaGreat
