/- Layer 2: Same's question of two nodes. -/
import Derived.Test.YtbdhbgilaeldgaaGreatP8
import Derived.Deep.Quiet
import Derived.OrdersHeld
import Derived.StillTail
namespace Go.Proofs.YtbdhbgilaeldgaaGreat
open Go.RowKit

def hdEq (s t : Ty) : Bool := ((((s.k == t.k) && (s.l == t.l)) && (s.h == t.h)) && (s.e == t.e)) && (s.len == t.len)
theorem same_eq (s t : Ty) : s.same t = (hdEq s t && decide (∀ i, i < s.len → (s.ps i).same (t.ps i) = true)) := by
  rcases s with _ | ⟨k, l, h, e, ao, b, o, len, cap, ps⟩
  · show ((((0 == t.k) && (0 == t.l)) && ((0 == t.h) && (0 == t.e))) && (0 == t.len)) = ((((((0 : Int) == t.k) && ((0 : Int) == t.l)) && ((0 : Int) == t.h)) && ((0 : Int) == t.e)) && (0 == t.len) && decide (∀ i : Nat, i < 0 → Ty.same (Ty.dm.ps i) (t.ps i) = true))
    have e : decide (∀ i : Nat, i < 0 → Ty.same (Ty.dm.ps i) (t.ps i) = true) = true := decide_eq_true (fun _ h => absurd h (Nat.not_lt_zero _))
    rw [e]
    cases ((0 : Int) == t.k) <;> cases ((0 : Int) == t.l) <;> cases ((0 : Int) == t.h) <;> cases ((0 : Int) == t.e) <;> simp
  show (((((k == t.k) && (l == t.l)) && ((h == t.h) && (e == t.e))) && (len == t.len)) && decide (∀ i, i < len → Ty.same (ps i) (t.ps i) = true)) = (((((k == t.k) && (l == t.l)) && (h == t.h)) && (e == t.e)) && (len == t.len) && decide (∀ i, i < len → Ty.same (ps i) (t.ps i) = true))
  cases (k == t.k) <;> cases (l == t.l) <;> cases (h == t.h) <;> cases (e == t.e) <;> rfl
theorem hd_cases (s t : Ty) : ((s.k == t.k) = false ∧ hdEq s t = false) ∨ ((s.k == t.k) = true ∧ (s.l == t.l) = false ∧ hdEq s t = false) ∨ ((s.k == t.k) = true ∧ (s.l == t.l) = true ∧ (s.h == t.h) = false ∧ hdEq s t = false) ∨ ((s.k == t.k) = true ∧ (s.l == t.l) = true ∧ (s.h == t.h) = true ∧ (s.e == t.e) = false ∧ hdEq s t = false) ∨ ((s.k == t.k) = true ∧ (s.l == t.l) = true ∧ (s.h == t.h) = true ∧ (s.e == t.e) = true ∧ hdEq s t = ((s.len : Int) == t.len)) := by
  unfold hdEq
  have : ((s.len : Int) == t.len) = (s.len == t.len) := by
    by_cases h : s.len = t.len
    · rw [h]; simp
    · rw [beq_eq_false_iff_ne.2 h, beq_eq_false_iff_ne.2 (by omega)]
  rw [this]
  cases (s.k == t.k) <;> cases (s.l == t.l) <;> cases (s.h == t.h) <;> cases (s.e == t.e) <;> simp

set_option maxHeartbeats 2000000 in
theorem same1_any (s t : Ty) (w : World) (hs : s.At w) (ht : t.At w) :
    Calls Tryz.prog 110 #[.agg #[.int .i64 s.k, .int .i64 s.l, .slice s.ao s.len s.cap, .int .i64 s.h, .int .i64 s.e], .agg #[.int .i64 t.k, .int .i64 t.l, .slice t.ao t.len t.cap, .int .i64 t.h, .int .i64 t.e]] w fun e w' => e = .returned (.bool (hdEq s t)) ∧ Below w.heap.size w w' := by
  obtain ⟨X0, Y0, B0⟩ := start_tt w s t
  have b1 := hs.bound
  have b2 := ht.bound
  unfold tyO at *
  rcases hd_cases s t with ⟨h1, hE⟩ | ⟨h1, h2, hE⟩ | ⟨h1, h2, h3, hE⟩ | ⟨h1, h2, h3, h4, hE⟩ | ⟨h1, h2, h3, h4, hE⟩
  all_goals rw [hE]
  all_goals clear hE
  all_goals
    go_enter Tryz.func110, Tryz.ntmps110
    go_wp2
    go_ret
    exact ⟨rfl, B0⟩

set_option maxRecDepth 100000 in
set_option maxHeartbeats 4000000 in
theorem rSame_any2 : ∀ (s t : Ty) (w : World), s.At w → t.At w →
    Calls Tryz.prog 12 #[.agg #[.int .i64 s.k, .int .i64 s.l, .slice s.ao s.len s.cap, .int .i64 s.h, .int .i64 s.e], .agg #[.int .i64 t.k, .int .i64 t.l, .slice t.ao t.len t.cap, .int .i64 t.h, .int .i64 t.e]] w fun e w' => e = .returned (.bool (s.same t)) ∧ Below w.heap.size w w' := by
  intro s
  induction s with
  | dm => intro t w hs; exact hs.elim
  | mk sk sl sh se sao sb so slen scap sps ih =>
    intro t w hs ht
    rcases t with _ | ⟨tk, tl, th, te, tao, tb, to', tlen, tcap, tps⟩
    · exact ht.elim
    rw [same_eq]
    have hc := hd_cases (.mk sk sl sh se sao sb so slen scap sps) (.mk tk tl th te tao tb to' tlen tcap tps)
    obtain ⟨X0, Y0, B0⟩ := start_tt w (.mk sk sl sh se sao sb so slen scap sps) (.mk tk tl th te tao tb to' tlen tcap tps)
    have b1 : slen ≤ 9223372036854775807 := hs.bound
    have b2 : tlen ≤ 9223372036854775807 := ht.bound
    have n1 : 0 < slen → sao = some ⟨sb, so, none⟩ := hs.nil
    have n2 : 0 < tlen → tao = some ⟨tb, to', none⟩ := ht.nil
    have hs2 := hs.kept B0
    have ht2 := ht.kept B0
    unfold tyO at *
    generalize hdEq (.mk sk sl sh se sao sb so slen scap sps) (.mk tk tl th te tao tb to' tlen tcap tps) = HE at *
    simp only [Ty.k, Ty.l, Ty.h, Ty.e, Ty.ao, Ty.len, Ty.cap, Ty.ps] at *
    clear hs ht
    rcases hc with ⟨h1, hE⟩ | ⟨h1, h2, hE⟩ | ⟨h1, h2, h3, hE⟩ | ⟨h1, h2, h3, h4, hE⟩ | ⟨h1, h2, h3, h4, hE⟩
    · subst hE
      have h1 : (sk != tk) = true := by simp [bne, h1]
      go_enter Tryz.func12, Tryz.ntmps12
      go_wp2
      go_ret
      exact ⟨rfl, B0⟩
    · subst hE
      have h1 : (sk != tk) = false := by simp [bne, h1]
      have h2 : (sl != tl) = true := by simp [bne, h2]
      go_enter Tryz.func12, Tryz.ntmps12
      go_wp2
      go_ret
      exact ⟨rfl, B0⟩
    · subst hE
      have h1 : (sk != tk) = false := by simp [bne, h1]
      have h2 : (sl != tl) = false := by simp [bne, h2]
      have h3 : (sh != th) = true := by simp [bne, h3]
      go_enter Tryz.func12, Tryz.ntmps12
      go_wp2
      go_ret
      exact ⟨rfl, B0⟩
    · subst hE
      have h1 : (sk != tk) = false := by simp [bne, h1]
      have h2 : (sl != tl) = false := by simp [bne, h2]
      have h3 : (sh != th) = false := by simp [bne, h3]
      have h4 : (se != te) = true := by simp [bne, h4]
      go_enter Tryz.func12, Tryz.ntmps12
      go_wp2
      go_ret
      exact ⟨rfl, B0⟩
    · have e1 : sk = tk := by simpa using h1
      have e2 : sl = tl := by simpa using h2
      have e3 : sh = th := by simpa using h3
      have e4 : se = te := by simpa using h4
      subst e1 e2 e3 e4
      clear h1 h2 h3 h4
      by_cases hl : slen = tlen
      · subst hl
        have hE : HE = true := by rw [hE]; simp
        subst hE
        clear hE
        go_enter Tryz.func12, Tryz.ntmps12
        go_wp2
        clear b2
        go_loopw [5] (fun i wr => ∃ j : Nat, j ≤ slen ∧ i = .int .i64 j ∧ (∀ i, i < j → (sps i).same (tps i) = true) ∧ Bx wr w.heap.size (.mk sk sl sh se sao sb so slen scap sps) ∧ Bx wr (w.heap.size + 1) (.mk sk sl sh se tao tb to' slen tcap tps) ∧ Ty.At wr (.mk sk sl sh se sao sb so slen scap sps) ∧ Ty.At wr (.mk sk sl sh se tao tb to' slen tcap tps) ∧ Below w.heap.size w wr) (fun i _ => slen - (intOf i).toNat)
        case atStart => exact ⟨0, Nat.zero_le _, rfl, fun _ h => absurd h (Nat.not_lt_zero _), X0, Y0, hs2, ht2, B0⟩
        case round =>
          obtain ⟨j, hj, rfl, hdone, X1, Y1, hs3, ht3, B1⟩ := hrel
          clear X0 Y0 hs2 ht2 B0
          have HD : Hid (∀ i, i < j → (sps i).same (tps i) = true) := hdone
          clear hdone
          have x2 : wr.cell? ⟨w.heap.size, 2, none⟩ = some (.slice sao slen scap) := X1.c2
          have y2 : wr.cell? ⟨w.heap.size + 1, 2, none⟩ = some (.slice tao slen tcap) := Y1.c2
          by_cases hlt : j < slen
          · have ij : (j : Int) < slen := by omega
            have a1 := n1 (by omega)
            have a2 := n2 (by omega)
            subst a1 a2
            have C : C5 wr sb (so + j * 5) (sps j) := hs3.cells hlt
            have D : C5 wr tb (to' + j * 5) (tps j) := ht3.cells hlt
            have P : (sps j).At wr := hs3.part hlt
            have R : (tps j).At wr := ht3.part hlt
            have X2 := fun x => Gr.cell x x2
            have Y2 := fun x => Gr.cell x y2
            have p0 := fun x => Gr.cell x C.c0
            have p1 := fun x => Gr.cell x C.c1
            have p2 := fun x => Gr.cell x C.c2
            have p3 := fun x => Gr.cell x C.c3
            have p4 := fun x => Gr.cell x C.c4
            have q0 := fun x => Gr.cell x D.c0
            have q1 := fun x => Gr.cell x D.c1
            have q2 := fun x => Gr.cell x D.c2
            have q3 := fun x => Gr.cell x D.c3
            have q4 := fun x => Gr.cell x D.c4
            have hNE : Nonempty (Gr wr) := ⟨⟨_, Below.refl _ _⟩⟩
            go_wp2
            refine wp_region_gr (by kernel_rfl) (by kernel_rfl) ?_
            repeat (first | go_big_quiet_step ((go_at_call 12; exact Calls.gr _ (ih j (tps j) _ (P.kept (Gr.bl _)) (R.kept (Gr.bl _))))))
            refine wpQuiet_nil ?_
            rintro w4 ⟨x4, rfl⟩
            have B4 := x4.bl
            generalize x4.w = w4 at B4 ⊢
            clear x4 X2 Y2 p0 p1 p2 p3 p4 q0 q1 q2 q3 q4 hNE C D P R x2 y2
            have B5 := Below.next B1 B4
            cases hf : (sps j).same (tps j)
            · go_wp2
              go_ret
              exact ⟨ret_bool (by rw [Bool.true_and]; exact (decide_eq_false (fun hh => by rw [hh j hlt] at hf; cases hf)).symm), B5⟩
            · go_wp2
              go_roundw
              case rel => exact ⟨j + 1, by omega, by go_num, fun i hi => (by
                  by_cases e : i = j
                  · subst e; exact hf
                  · exact HD.out i (by omega)), X1.kept B4, Y1.kept B4, hs3.kept B4, ht3.kept B4, B5⟩
              case measure => simp [intOf]; omega
          · have e : slen = j := by omega
            subst e
            have dl : ¬ (slen : Int) < slen := by omega
            go_wp2
            go_ret
            exact ⟨ret_bool (decide_eq_true HD.out).symm, B1⟩
      · have hE : HE = false := by rw [hE]; simp; omega
        subst hE
        have h5 : ((slen : Int) != tlen) = true := by simp; omega
        clear hE
        go_enter Tryz.func12, Tryz.ntmps12
        go_wp2
        go_ret
        exact ⟨rfl, B0⟩
end Go.Proofs.YtbdhbgilaeldgaaGreat

/- A region that draws its order, whose first operations are quiet in a class of worlds, and whose others all wait for them: the first ones are walked once, then the rest is walked from every world of the class. -/
namespace Go.Proofs.YtbdhbgilaeldgaaGreat
open Go

section
variable {P : Program} {ops : Array Oper} {md : Region.Mode} {C : World → Prop} {m : Nat} {R : Array Bool → Act → Prop}

/-- Whatever order is picked for the first m. -/
def wpAnyP (P : Program) (md : Region.Mode) (ops : Array Oper) (C : World → Prop) (m : Nat) (R : Array Bool → Act → Prop) : Nat → Array Bool → Act → Prop
  | 0, listed, a => (∀ i ∈ Region.ready md ops listed, ¬ i < m) ∧ R listed a
  | fuel + 1, listed, a => ((∀ i ∈ Region.ready md ops listed, ¬ i < m) → R listed a) ∧
    ∀ i ∈ Region.ready md ops listed, i < m → qOp P ops C i (wpAnyP P md ops C m R fuel (listed.setIfInBounds i true)) a

theorem wpAnyP_first {i : Nat} {oi : Oper} {v : Value} (hi : ops[i]? = some oi) (him : i < m) (hsel : ∀ (j : Nat) (o : Oper) cs b, ops[j]? = some o → o.op ≠ .select cs b) :
    ∀ (fuel : Nat) (listed : Array Bool) (a : Act),
      (∀ j oj, ops[j]? = some oj → j ≠ i → listed.getD j true = false → (∀ e ∈ oj.after, Region.binds md e = true → e.on ≠ i) → oi.apart ops oj = true) →
      i ∈ Region.ready md ops listed → YieldsIn P ops C oi v a →
      wpAnyP P md ops C m R fuel (listed.setIfInBounds i true) (a.put oi.dst v) → wpAnyP P md ops C m R (fuel + 1) listed a := by
  intro fuel
  induction fuel with
  | zero =>
    intro listed a _ hr hy H
    refine ⟨fun h => absurd him (h i hr), fun j hj hjm => ?_⟩
    by_cases hji : j = i
    · subst hji; exact hy.qOp hi H
    · exact absurd hjm (H.1 j (ready_mono hj hji))
  | succ fuel ih =>
    intro listed a hfree hr hy H
    refine ⟨fun h => absurd him (h i hr), fun j hj hjm => ?_⟩
    by_cases hji : j = i
    · subst hji; exact hy.qOp hi H
    · have h1 := H.2 j (ready_mono hj hji) hjm
      obtain ⟨hjun, oj, hoj, hall⟩ := mem_ready.1 hj
      have hnot : ∀ e ∈ oj.after, Region.binds md e = true → e.on ≠ i := fun e he hb heq => by
        have h1 := hall e he hb
        have h0 := (mem_ready.1 hr).1
        rw [heq] at h1
        rcases Nat.lt_or_ge i listed.size with h' | h'
        · simp [h'] at h0 h1; rw [h0] at h1; cases h1
        · simp [Array.getElem?_eq_none h'] at h1
      have h2 := qOp_put hoj (hfree j oj hoj hji hjun hnot) (fun cs b => hsel i oi cs b hi) (fun cs b => hsel j oj cs b hoj) hy h1
      have hfree' : ∀ k ok, ops[k]? = some ok → k ≠ i → (listed.setIfInBounds j true).getD k true = false →
          (∀ e ∈ ok.after, Region.binds md e = true → e.on ≠ i) → oi.apart ops ok = true := fun k ok hk hki hun hno => by
        refine hfree k ok hk hki ?_ hno
        by_cases hjk : j = k
        · subst hjk; exact hjun
        · rw [getD_set_ne true hjk] at hun; exact hun
      refine qOp_mono (fun a' h3 => ih (listed.setIfInBounds j true) a' hfree' (ready_mono hr (Ne.symm hji)) h3.1 ?_) h2
      rw [Array.setIfInBounds_comm _ _ hji]
      exact h3.2

def lexTo (md : Region.Mode) (ops : Array Oper) (m : Nat) : Nat → Nat → Array Bool → Bool
  | 0, _, listed => (Region.ready md ops listed).all fun i => decide (m ≤ i)
  | fuel + 1, k, listed => (Region.ready md ops listed).contains k && decide (k < m) && Region.free md ops listed k && lexTo md ops m fuel (k + 1) (listed.setIfInBounds k true)
def listedTo : Nat → Nat → Array Bool → Array Bool
  | 0, _, l => l
  | fuel + 1, k, l => listedTo fuel (k + 1) (l.setIfInBounds k true)

theorem wpAnyP_lex (hs : Region.noSelect ops = true) : ∀ (l : List Oper) (k : Nat) (listed : Array Bool) (a : Act), (∀ j, j < l.length → l[j]? = ops[k + j]?) →
    lexTo md ops m l.length k listed = true → wpQuiet P ops C (R (listedTo l.length k listed)) l a → wpAnyP P md ops C m R l.length listed a
  | [], _, _, _, _, hB, h => ⟨fun i hi hm => by simp only [List.length_nil, lexTo, List.all_eq_true, decide_eq_true_eq] at hB; have := hB i hi; omega, h⟩
  | o :: l, k, listed, a, hl, hB, h => by
    have h0 : ops[k]? = some o := by simpa using (hl 0 (by simp)).symm
    simp only [List.length_cons, lexTo, Bool.and_eq_true, decide_eq_true_eq] at hB
    obtain ⟨⟨⟨hr, hk⟩, hf⟩, hB'⟩ := hB
    have hst : qOp P ops C k (wpQuiet P ops C (R (listedTo (o :: l).length k listed)) l) a := by unfold qOp; simp only [h0]; exact h
    obtain ⟨v, hy, hK⟩ := yieldsIn_of_qOp h0 hst
    exact wpAnyP_first h0 hk (Region.noSelect_spec hs) l.length listed a (Region.free_spec h0 hf) (by simpa using hr) hy
      (wpAnyP_lex hs l (k + 1) _ _ (fun j hj => by have := hl (j + 1) (by simp; omega); simpa [Nat.add_assoc, Nat.add_comm 1 j] using this) hB' hK)

/-- What is listed has all that it waits for listed. -/
def Shut (md : Region.Mode) (ops : Array Oper) (listed : Array Bool) : Prop := ∀ (k : Nat) (o : Oper), listed.getD k false = true → ops[k]? = some o → ∀ e ∈ o.after, Region.binds md e = true → listed.getD e.on false = true

theorem Shut.put {listed : Array Bool} {i : Nat} (h : Shut md ops listed) (hi : i ∈ Region.ready md ops listed) : Shut md ops (listed.setIfInBounds i true) := by
  intro k o hk ho e he hb
  by_cases hki : i = k
  · subst hki
    obtain ⟨_, o', ho', hall⟩ := mem_ready.1 hi
    rw [ho] at ho'
    cases ho'
    exact getD_set_true (hall e he hb)
  · rw [getD_set_ne false hki] at hk
    exact getD_set_true (h k o hk ho e he hb)

/-- Each of the first m but the last is waited for by a later one of them; each of the others waits for the last of them, or for another of the others ahead of it. -/
def gateB (md : Region.Mode) (ops : Array Oper) (m : Nat) : Bool :=
  ((List.range (m - 1)).all fun k => (List.range m).any fun p => decide (k < p) && match ops[p]? with
    | some o => o.after.any fun e => Region.binds md e && e.on == k
    | none => false) &&
  ((List.range ops.size).all fun j => decide (j < m) || match ops[j]? with
    | some o => o.after.any fun e => Region.binds md e && decide (m - 1 ≤ e.on) && decide (e.on < j)
    | none => false)

theorem gate_up (hg : gateB md ops m = true) {listed : Array Bool} (hS : Shut md ops listed) (h : listed.getD (m - 1) false = true) : ∀ d k, k + d + 1 = m → listed.getD k false = true := by
  simp only [gateB, Bool.and_eq_true, List.all_eq_true, List.mem_range, List.any_eq_true] at hg
  intro d
  induction d using Nat.strongRecOn with
  | ind d ih =>
    intro k hk
    by_cases h0 : d = 0
    · subst h0
      have : k = m - 1 := by omega
      rw [this]; exact h
    · obtain ⟨p, hp, hkp, hm⟩ := hg.1 k (by omega)
      simp only [decide_eq_true_eq] at hkp
      have hpl : listed.getD p false = true := ih (m - 1 - p) (by omega) p (by omega)
      split at hm
      · rename_i o ho
        obtain ⟨e, he, hb⟩ := Array.any_eq_true'.1 hm
        simp only [Bool.and_eq_true, beq_iff_eq] at hb
        have := hS p o hpl ho e he hb.1
        rwa [hb.2] at this
      · cases hm

theorem gate_at (hg : gateB md ops m = true) {listed : Array Bool} (hS : Shut md ops listed) : ∀ (j : Nat) (o : Oper), m ≤ j → ops[j]? = some o → (∀ e ∈ o.after, Region.binds md e = true → listed.getD e.on false = true) → listed.getD (m - 1) false = true := by
  have hg2 := hg
  simp only [gateB, Bool.and_eq_true, List.all_eq_true, List.mem_range] at hg2
  intro j
  induction j using Nat.strongRecOn with
  | ind j ih =>
    intro o hj ho hall
    have h1 := hg2.2 j (Array.getElem?_eq_some_iff.1 ho).1
    simp only [ho, Bool.or_eq_true, decide_eq_true_eq] at h1
    rcases h1 with h1 | h1
    · omega
    · obtain ⟨e, he, hb⟩ := Array.any_eq_true'.1 h1
      simp only [Bool.and_eq_true, decide_eq_true_eq] at hb
      obtain ⟨⟨hb1, hb2⟩, hb3⟩ := hb
      have hl := hall e he hb1
      by_cases hq : e.on = m - 1
      · rw [← hq]; exact hl
      · cases hx : ops[e.on]? with
        | none =>
          have : ops.size ≤ e.on := by
            rcases Nat.lt_or_ge e.on ops.size with h' | h'
            · rw [Array.getElem?_eq_getElem h'] at hx; cases hx
            · exact h'
          have := (Array.getElem?_eq_some_iff.1 ho).1
          omega
        | some o' => exact ih e.on hb3 o' (by omega) hx (fun e' he' hb' => hS e.on o' hl hx e' he' hb')

theorem gate (hg : gateB md ops m = true) {listed : Array Bool} (hS : Shut md ops listed) {j : Nat} (hj : j ∈ Region.ready md ops listed) (hm : ¬ j < m) : ∀ i ∈ Region.ready md ops listed, ¬ i < m := by
  intro i hi him
  obtain ⟨_, o, ho, hall⟩ := mem_ready.1 hj
  have h1 := gate_at hg hS j o (by omega) ho hall
  have h2 := gate_up hg hS h1 (m - 1 - i) i (by omega)
  have h3 := (mem_ready.1 hi).1
  rcases Nat.lt_or_ge i listed.size with h' | h'
  · simp [h'] at h2 h3; rw [h2] at h3; cases h3
  · simp [Array.getElem?_eq_none h'] at h2

theorem wpAny_more {Q : Exit → Act → World → Prop} : ∀ (fuel : Nat) (listed : Array Bool) (a : Act) (w : World), wpAny P md ops Q fuel listed a w → wpAny P md ops Q (fuel + 1) listed a w
  | 0, _, _, _, h => wpAny_done h.1 h.2 _
  | fuel + 1, _, _, _, h => ⟨h.1, fun i hi => wpOp_mono (fun a' w' h' => wpAny_more fuel _ a' w' h') (h.2 i hi)⟩
theorem wpAny_plus {Q : Exit → Act → World → Prop} {rest : Nat} {listed : Array Bool} {a : Act} {w : World} (h : wpAny P md ops Q rest listed a w) : ∀ d, wpAny P md ops Q (d + rest) listed a w
  | 0 => by simpa using h
  | d + 1 => by have := wpAny_more _ _ _ _ (wpAny_plus h d); rwa [show d + 1 + rest = d + rest + 1 by omega]

theorem wpAny_normal {Q : Exit → Act → World → Prop} {rest : Nat} {listed : Array Bool} {a : Act} {w : World} (h : wpAny P md ops Q rest listed a w) (h0 : Region.ready md ops listed = []) : Q .normal a w := by
  cases rest with
  | zero => exact h.2
  | succ r => exact h.1 h0

theorem wpAny_of_prefix {Q : Exit → Act → World → Prop} {rest : Nat} (hg : gateB md ops m = true) : ∀ (fuel : Nat) (listed : Array Bool) (a : Act) (w : World), Shut md ops listed → C w →
    wpAnyP P md ops C m (fun listed a => ∀ w, C w → wpAny P md ops Q rest listed a w) fuel listed a → wpAny P md ops Q (fuel + rest) listed a w
  | 0, _, _, w, _, hw, h => by simpa using h.2 w hw
  | fuel + 1, listed, a, w, hS, hw, h => by
    rw [show fuel + 1 + rest = fuel + rest + 1 by omega]
    by_cases hx : ∃ j ∈ Region.ready md ops listed, ¬ j < m
    · obtain ⟨j, hj, hjm⟩ := hx
      have := wpAny_plus (h.1 (gate hg hS hj hjm) w hw) (fuel + 1)
      rwa [show fuel + 1 + rest = fuel + rest + 1 by omega] at this
    · have hall : ∀ j ∈ Region.ready md ops listed, j < m := fun j hj => Classical.byContradiction fun hc => hx ⟨j, hj, hc⟩
      refine ⟨fun h0 => ?_, fun i hi => ?_⟩
      · exact wpAny_normal (h.1 (by rw [h0]; intro i hi; cases hi) w hw) h0
      · exact wpOp_of_qOp hw (fun a' w' hw' h' => wpAny_of_prefix hg fuel _ a' w' (hS.put hi) hw' h') (h.2 i hi (hall i hi))

def prefixB (l1 l2 : List Oper) : Bool := Region.noSelect (l1 ++ l2).toArray && gateB .any (l1 ++ l2).toArray l1.length && lexTo .any (l1 ++ l2).toArray l1.length l1.length 0 (Array.replicate (l1.length + l2.length) false)

theorem wp_region_prefix {l1 l2 l : List Oper} {id : Nat} {Q : Exit → Act → World → Prop} {a : Act} {w : World} (hl : l = l1 ++ l2) (hm : P.follows .mixedOrders = true) (hB : prefixB l1 l2 = true) (hC : C { w with drawn := w.drawn + 1 })
    (h : wpQuiet P l.toArray C (fun a' => ∀ w', C w' → wpAny P .any l.toArray Q l2.length (listedTo l1.length 0 (Array.replicate (l1.length + l2.length) false)) a' w') l1 a) : (Code.region id l.toArray true).wp P Q a w := by
  subst hl
  simp only [prefixB, Bool.and_eq_true] at hB
  obtain ⟨⟨h1, h2⟩, h3⟩ := hB
  refine wp_region_any hm ?_
  have key := wpAnyP_lex (P := P) (C := C) (md := .any) (m := l1.length) (R := fun listed a => ∀ w, C w → wpAny P .any (l1 ++ l2).toArray Q l2.length listed a w) h1 l1 0 (Array.replicate (l1.length + l2.length) false) a
    (by intro j hj; simp [List.getElem?_append_left hj]) h3 h
  have := wpAny_of_prefix (Q := Q) (rest := l2.length) h2 l1.length (Array.replicate (l1.length + l2.length) false) a { w with drawn := w.drawn + 1 } (by intro k o hk; simp [Array.getElem?_replicate] at hk; split at hk <;> simp_all) hC key
  simpa using this
end
end Go.Proofs.YtbdhbgilaeldgaaGreat

/- A region that draws its order, whose head is quiet in a class of worlds and whose tail is one behind the other: the head is walked once, then the tail from every world of the class. -/
namespace Go.Proofs.YtbdhbgilaeldgaaGreat
open Go Go.RowKit

section
variable {P : Program} {ops : Array Oper} {md : Region.Mode} {C : World → Prop} {m : Nat}

theorem chain_down (hc : Region.chainB md ops m = true) {listed : Array Bool} (hS : Shut md ops listed) : ∀ t, m ≤ t → t < ops.size → listed.getD t false = true → listed.getD m false = true := by
  simp only [Region.chainB, List.all_eq_true, List.mem_range, Bool.or_eq_true, decide_eq_true_eq] at hc
  intro t
  induction t with
  | zero => intro h1 _ h3; have : m = 0 := by omega
            subst this; exact h3
  | succ t ih =>
    intro h1 h2 h3
    by_cases e : m = t + 1
    · rw [e]; exact h3
    rcases hc (t + 1) h2 with h | h
    · omega
    · obtain ⟨oj, hj, e, he, hb, hon⟩ := Region.waitsFor_spec h
      have := hS (t + 1) oj h3 hj e he hb
      rw [hon] at this
      exact ih (by omega) (by omega) this

theorem sink_all (hs : Region.sinkB md ops m = true) {listed : Array Bool} (hS : Shut md ops listed) {om : Oper} (hom : ops[m]? = some om) (hall : ∀ e ∈ om.after, Region.binds md e = true → listed.getD e.on false = true) : ∀ d i, i + d + 1 = m → listed.getD i false = true := by
  simp only [Region.sinkB, List.all_eq_true, List.mem_range, List.any_eq_true, Bool.and_eq_true, decide_eq_true_eq] at hs
  intro d
  induction d using Nat.strongRecOn with
  | ind d ih =>
    intro i hi
    obtain ⟨j, hj, hij, hw⟩ := hs i (by omega)
    obtain ⟨oj, hoj, e, he, hb, hon⟩ := Region.waitsFor_spec hw
    by_cases hjm : j = m
    · subst hjm
      rw [hom] at hoj
      cases hoj
      have := hall e he hb
      rwa [hon] at this
    · have hl := ih (m - 1 - j) (by omega) j (by omega)
      have := hS j oj hl hoj e he hb
      rwa [hon] at this

theorem gate2 (hs : Region.sinkB md ops m = true) (hc : Region.chainB md ops m = true) (listed : Array Bool) (j : Nat) (hS : Shut md ops listed) (hj : j ∈ Region.ready md ops listed) (hm : ¬ j < m) : ∀ i ∈ Region.ready md ops listed, ¬ i < m := by
  intro i hi him
  obtain ⟨_, oj, hoj, hall⟩ := mem_ready.1 hj
  have hlt := (Array.getElem?_eq_some_iff.1 hoj).1
  have hmlt : m < ops.size := by omega
  have hom : ops[m]? = some ops[m] := Array.getElem?_eq_getElem hmlt
  have key : ∀ e ∈ ops[m].after, Region.binds md e = true → listed.getD e.on false = true := by
    by_cases e : j = m
    · subst e
      rw [hom] at hoj
      cases hoj
      exact hall
    · have h1 : listed.getD m false = true := by
        have hc' := hc
        simp only [Region.chainB, List.all_eq_true, List.mem_range, Bool.or_eq_true, decide_eq_true_eq] at hc'
        rcases hc' j hlt with h | h
        · omega
        · obtain ⟨oj', hj', e', he', hb', hon'⟩ := Region.waitsFor_spec h
          rw [hoj] at hj'
          cases hj'
          have := hall e' he' hb'
          rw [hon'] at this
          exact chain_down hc hS (j - 1) (by omega) (by omega) this
      exact fun e he hb => hS m ops[m] h1 hom e he hb
  have h2 := sink_all hs hS hom key (m - 1 - i) i (by omega)
  have h3 := (mem_ready.1 hi).1
  rcases Nat.lt_or_ge i listed.size with h' | h'
  · simp [h'] at h2 h3; rw [h2] at h3; cases h3
  · simp [Array.getElem?_eq_none h'] at h2

theorem wpAny_of_prefix2 {R : Array Bool → Act → Prop} {Q : Exit → Act → World → Prop} {rest : Nat} (hg : ∀ (listed : Array Bool) (j : Nat), Shut md ops listed → j ∈ Region.ready md ops listed → ¬ j < m → ∀ i ∈ Region.ready md ops listed, ¬ i < m) : ∀ (fuel : Nat) (listed : Array Bool) (a : Act) (w : World), Shut md ops listed → C w →
    wpAnyP P md ops C m (fun listed a => ∀ w, C w → wpAny P md ops Q rest listed a w) fuel listed a → wpAny P md ops Q (fuel + rest) listed a w
  | 0, _, _, w, _, hw, h => by simpa using h.2 w hw
  | fuel + 1, listed, a, w, hS, hw, h => by
    rw [show fuel + 1 + rest = fuel + rest + 1 by omega]
    by_cases hx : ∃ j ∈ Region.ready md ops listed, ¬ j < m
    · obtain ⟨j, hj, hjm⟩ := hx
      have := wpAny_plus (h.1 (hg _ _ hS hj hjm) w hw) (fuel + 1)
      rwa [show fuel + 1 + rest = fuel + rest + 1 by omega] at this
    · have hall : ∀ j ∈ Region.ready md ops listed, j < m := fun j hj => Classical.byContradiction fun hc => hx ⟨j, hj, hc⟩
      refine ⟨fun h0 => ?_, fun i hi => ?_⟩
      · exact wpAny_normal (h.1 (by rw [h0]; intro i hi; cases hi) w hw) h0
      · exact wpOp_of_qOp hw (fun a' w' hw' h' => wpAny_of_prefix2 (R := R) hg fuel _ a' w' (hS.put hi) hw' h') (h.2 i hi (hall i hi))

def tailB (n : Nat) (l : List Oper) : Bool := decide (n ≤ l.length) && Region.noSelect l.toArray && Region.sinkB .any l.toArray n && Region.chainB .any l.toArray n && lexTo .any l.toArray n n 0 (Array.replicate l.length false) && Region.seqB .any l.toArray (l.length - n) n (listedTo n 0 (Array.replicate l.length false))

theorem wp_region_tail {l : List Oper} {id : Nat} {Q : Exit → Act → World → Prop} {a : Act} {w : World} (n : Nat) (hm : P.follows .mixedOrders = true) (hB : tailB n l = true) (hC : C { w with drawn := w.drawn + 1 })
    (h : wpQuiet P l.toArray C (fun a' => ∀ w', C w' → wpList P l.toArray Q (l.drop n) a' w') (l.take n) a) : (Code.region id l.toArray true).wp P Q a w := by
  simp only [tailB, Bool.and_eq_true, decide_eq_true_eq] at hB
  obtain ⟨⟨⟨⟨⟨hn, h1⟩, h2⟩, h3⟩, h4⟩, h5⟩ := hB
  have e1 : (l.take n).length = n := by simp; omega
  have e2 : (l.drop n).length = l.length - n := by simp
  refine wp_region_any hm ?_
  have key := wpAnyP_lex (P := P) (C := C) (md := .any) (ops := l.toArray) (m := n) (R := fun listed a => ∀ w, C w → wpAny P .any l.toArray Q (l.length - n) listed a w) h1 (l.take n) 0 (Array.replicate l.length false) a
    (by intro j hj; rw [e1] at hj; simp [hj]) (by rw [e1]; exact h4) (by
      rw [e1]
      have mono : ∀ (l' : List Oper) (a : Act) (Q1 Q2 : Act → Prop), (∀ a, Q1 a → Q2 a) → wpQuiet P l.toArray C Q1 l' a → wpQuiet P l.toArray C Q2 l' a := by
        intro l'
        induction l' with
        | nil => intro a Q1 Q2 h12 hq; exact h12 a hq
        | cons o l' ih =>
          intro a Q1 Q2 h12 hq
          unfold wpQuiet at hq ⊢
          split
          · rename_i hw; rw [if_pos hw] at hq; exact Oper.quiet_mono (fun a' h' => ih a' Q1 Q2 h12 h') hq
          · rename_i hw; rw [if_neg hw] at hq; exact ih _ Q1 Q2 h12 hq
      refine mono _ _ _ _ (fun a' ha' w' hw' => ?_) h
      have := wpAny_of_seq (P := P) (md := .any) (ops := l.toArray) (Q' := Q) (l.drop n) n (listedTo n 0 (Array.replicate l.length false)) a' w' (by intro j; simp) (by rw [e2]; exact h5) (ha' w' hw')
      rwa [e2] at this)
  have := wpAny_of_prefix2 (R := fun _ _ => True) (Q := Q) (rest := l.length - n) (gate2 h2 h3) n (Array.replicate l.length false) a { w with drawn := w.drawn + 1 } (by intro k o hk; simp [Array.getElem?_replicate] at hk; split at hk <;> simp_all) hC (by rw [e1] at key; exact key)
  have e3 : n + (l.length - n) = l.length := by omega
  rw [e3] at this
  simpa using this
end

theorem wp_region_gr_tail {P : Program} {id : Nat} {Q : Exit → Act → World → Prop} {a : Act} {w : World} {l : List Oper} (n : Nat) (hm : P.follows .mixedOrders = true) (hB : tailB n l = true)
    (h : wpQuiet P l.toArray (fun w' => ∃ x : Gr w, w' = x.w) (fun a' => ∀ w', (∃ x : Gr w, w' = x.w) → wpList P l.toArray Q (l.drop n) a' w') (l.take n) a) : (Code.region id l.toArray true).wp P Q a w :=
  wp_region_tail (C := fun w' => ∃ x : Gr w, w' = x.w) n hm hB ⟨⟨_, (Below.refl _ _).drew⟩, rfl⟩ h
end Go.Proofs.YtbdhbgilaeldgaaGreat

/- Layer 2: Same, by the walk through two types at once, where it puts nothing off. -/
namespace Go.Proofs.YtbdhbgilaeldgaaGreat
open Go.RowKit

/-- The walk's variable: asked is Same's question, L nodes may still be gone through, nothing is put off. -/
structure Wk (w : World) (X L : Nat) : Prop where
  c0 : w.cell? ⟨X, 0, none⟩ = some (.func (.func 109) #[] #[])
  c1 : w.cell? ⟨X, 1, none⟩ = some (.func (.func 110) #[] #[])
  c2 : w.cell? ⟨X, 2, none⟩ = some (.int .i64 L)
  c3 : w.cell? ⟨X, 3, none⟩ = some (.slice none 0 0)
  f2 : w.frozen? ⟨X, 2, none⟩ = false
theorem Wk.kept {w w' : World} {X L : Nat} (h : Wk w X L) (hb : Below w.heap.size w w') : Wk w' X L :=
  ⟨up hb h.c0, up hb h.c1, up hb h.c2, up hb h.c3, by rw [hb.frozen (p := ⟨X, 2, none⟩) (by have := World.block_lt_of_cell? w _ h.c0; exact this)]; exact h.f2⟩
theorem Wk.set {w : World} {X L : Nat} (h : Wk w X L) (L' : Nat) : Wk (w.setCell ⟨X, 2, none⟩ (.int .i64 L')) X L' :=
  ⟨by rw [World.cell?_setCell_other _ _ _ _ (by simp)]; exact h.c0, by rw [World.cell?_setCell_other _ _ _ _ (by simp)]; exact h.c1, World.cell?_setCell_same _ _ _ h.c2, by rw [World.cell?_setCell_other _ _ _ _ (by simp)]; exact h.c3, by rw [World.frozen?_setCell]; exact h.f2⟩

theorem hd_len {s t : Ty} (h : hdEq s t = true) : s.len = t.len := by
  unfold hdEq at h
  simp only [Bool.and_eq_true, beq_iff_eq] at h
  exact h.2
/-- How many nodes the Parts have. -/
def Ty.pn (t : Ty) : Nat := sumTo (fun i => (t.ps i).nodes) t.len
theorem pn_nodes (t : Ty) : t.nodes = 1 + t.pn := by
  cases t <;> rfl

/-- What the walk answers of the Parts of s and t, and what it leaves. -/
def PP (w0 : World) (X : Nat) (s t : Ty) (L : Nat) (e : Ending) (w' : World) : Prop :=
  ∃ r : Bool, e = .returned (.bool r) ∧ r = decide (∀ i, i < s.len → (s.ps i).same (t.ps i) = true) ∧ Below w0.heap.size w0 w' ∧ ∃ L', Wk w' X L' ∧ (r = true → L' + s.pn = L)
theorem PP.intro {w0 : World} {X : Nat} {s t : Ty} {L : Nat} {e : Ending} {w' : World} (r : Bool) (h1 : e = .returned (.bool r)) (h2 : r = decide (∀ i, i < s.len → (s.ps i).same (t.ps i) = true)) (h3 : Below w0.heap.size w0 w') (L' : Nat) (h4 : Wk w' X L') (h5 : r = true → L' + s.pn = L) : PP w0 X s t L e w' := ⟨r, h1, h2, h3, L', h4, h5⟩

set_option maxRecDepth 100000 in
set_option maxHeartbeats 8000000 in
theorem parts_any (w0 : World) (X : Nat) (hX : w0.heap.size ≤ X) : ∀ (s t : Ty) (w : World) (L : Nat), s.At w0 → t.At w0 → s.len = t.len → s.pn ≤ L → L ≤ 4000 → Wk w X L → Below w0.heap.size w0 w →
    Calls Tryz.prog 132 #[.pointer (some ⟨X, 0, none⟩), .slice s.ao s.len s.cap, .slice t.ao t.len t.cap] w fun e w' => PP w0 X s t L e w' := by
  intro s
  induction s with
  | dm => intro t w L hs; exact hs.elim
  | mk sk sl sh se sao sb so slen scap sps ih =>
    intro t w L hs ht hl hL h4000 hW hB
    rcases t with _ | ⟨tk, tl, th, te, tao, tb, to', tlen, tcap, tps⟩
    · exact ht.elim
    have hl' : slen = tlen := hl
    subst hl'
    show Calls Tryz.prog 132 #[.pointer (some ⟨X, 0, none⟩), .slice sao slen scap, .slice tao slen tcap] w fun e w' => PP w0 X (.mk sk sl sh se sao sb so slen scap sps) (.mk tk tl th te tao tb to' slen tcap tps) L e w'
    have HL : Hid (sumTo (fun i => (sps i).nodes) slen ≤ L) := hL
    have b1 : slen ≤ 9223372036854775807 := hs.bound
    have n1 : 0 < slen → sao = some ⟨sb, so, none⟩ := hs.nil
    have n2 : 0 < slen → tao = some ⟨tb, to', none⟩ := ht.nil
    have HW : Hid (Wk w X L ∧ Below w0.heap.size w0 w) := ⟨hW, hB⟩
    clear hL hl hW hB
    go_enter Tryz.func132, Tryz.ntmps132
    go_wp2
    go_loopw [10] (fun i wr => ∃ j l : Nat, j ≤ slen ∧ i = .int .i64 j ∧ (∀ i, i < j → (sps i).same (tps i) = true) ∧ l + sumTo (fun i => (sps i).nodes) j = L ∧ Wk wr X l ∧ Below w0.heap.size w0 wr) (fun i _ => slen - (intOf i).toNat)
    case atStart => exact ⟨0, L, Nat.zero_le _, rfl, fun _ h => absurd h (Nat.not_lt_zero _), rfl, HW.out.1, HW.out.2⟩
    case round =>
      obtain ⟨j, l, hj, rfl, hdone, hl, hW, hB⟩ := hrel
      clear HW
      have HD : Hid ((∀ i, i < j → (sps i).same (tps i) = true) ∧ l + sumTo (fun i => (sps i).nodes) j = L) := ⟨hdone, hl⟩
      clear hdone
      by_cases hlt : j < slen
      · have ij : (j : Int) < slen := by omega
        have hsum := sumTo_le (fun i => (sps i).nodes) hlt
        have hnod := pn_nodes (sps j)
        have hLL := HL.out
        have hl0 : 1 ≤ l := by omega
        have HN : Hid ((sps j).pn ≤ l - 1 ∧ l ≤ 4000 ∧ (sps j).nodes = 1 + (sps j).pn) := ⟨by omega, by omega, hnod⟩
        clear hsum hnod hLL hl
        have a1 := n1 (by omega)
        have a2 := n2 (by omega)
        subst a1 a2
        have e0 : ((l : Int) == 0) = false := by simp; omega
        have k1 := hW.c2
        have kf := hW.f2
        have i1 : (1 : Int) ≤ l := by omega
        have i2 : (l : Int) ≤ 4000 := by have := HN.out.2.1; omega
        have W2 : Wk (wr.setCell ⟨X, 2, none⟩ (.int .i64 ((l : Int) - 1))) X (l - 1) := by
          have := hW.set (l - 1)
          rwa [show ((l - 1 : Nat) : Int) = (l : Int) - 1 by omega] at this
        have B2 : Below w0.heap.size w0 (wr.setCell ⟨X, 2, none⟩ (.int .i64 ((l : Int) - 1))) := hB.setCell hX _
        clear hW hB
        have C : C5 _ sb (so + j * 5) (sps j) := (hs.kept B2).cells hlt
        have D : C5 _ tb (to' + j * 5) (tps j) := (ht.kept B2).cells hlt
        have P : (sps j).At w0 := hs.part hlt
        have R : (tps j).At w0 := ht.part hlt
        go_wp2
        generalize wr.setCell ⟨X, 2, none⟩ (.int .i64 ((l : Int) - 1)) = w2 at *
        cases hq : hdEq (sps j) (tps j)
        · have k0 := fun x => Gr.cell x W2.c1
          have p0 := fun x => Gr.cell x C.c0
          have p1 := fun x => Gr.cell x C.c1
          have p2 := fun x => Gr.cell x C.c2
          have p3 := fun x => Gr.cell x C.c3
          have p4 := fun x => Gr.cell x C.c4
          have q0 := fun x => Gr.cell x D.c0
          have q1 := fun x => Gr.cell x D.c1
          have q2 := fun x => Gr.cell x D.c2
          have q3 := fun x => Gr.cell x D.c3
          have q4 := fun x => Gr.cell x D.c4
          have hNE : Nonempty (Gr w2) := ⟨⟨_, Below.refl _ _⟩⟩
          have H1 : ∀ u, Below w0.heap.size w0 u → Calls Tryz.prog 110 #[.agg #[.int .i64 (sps j).k, .int .i64 (sps j).l, .slice (sps j).ao (sps j).len (sps j).cap, .int .i64 (sps j).h, .int .i64 (sps j).e], .agg #[.int .i64 (tps j).k, .int .i64 (tps j).l, .slice (tps j).ao (tps j).len (tps j).cap, .int .i64 (tps j).h, .int .i64 (tps j).e]] u fun e w' => e = .returned (.bool false) ∧ Below u.heap.size u w' := fun u hu => by
            have := same1_any (sps j) (tps j) u (P.kept hu) (R.kept hu)
            rwa [hq] at this
          have HQ : Hid ((sps j).same (tps j) = false) := by show (sps j).same (tps j) = false; rw [same_eq, hq]; rfl
          clear hq
          refine wp_region_gr (by kernel_rfl) (by kernel_rfl) ?_
          repeat (first | go_big_quiet_step ((go_at_call 110; exact Calls.gr _ (H1 _ (Below.next B2 (Gr.bl _))))))
          refine wpQuiet_nil ?_
          rintro w4 ⟨x4, rfl⟩
          have B4 := x4.bl
          generalize x4.w = w4 at B4 ⊢
          clear x4 k0 p0 p1 p2 p3 p4 q0 q1 q2 q3 q4 hNE C D P R H1
          go_wp2
          go_ret
          exact PP.intro false rfl (decide_eq_false (fun hh => absurd (HQ.out.symm.trans (hh j hlt)) (by decide))).symm (Below.next B2 B4) (l - 1) (W2.kept B4) (fun h => Bool.noConfusion h)
        · have H1 : ∀ u, Below w0.heap.size w0 u → Calls Tryz.prog 110 #[.agg #[.int .i64 (sps j).k, .int .i64 (sps j).l, .slice (sps j).ao (sps j).len (sps j).cap, .int .i64 (sps j).h, .int .i64 (sps j).e], .agg #[.int .i64 (tps j).k, .int .i64 (tps j).l, .slice (tps j).ao (tps j).len (tps j).cap, .int .i64 (tps j).h, .int .i64 (tps j).e]] u fun e w' => e = .returned (.bool true) ∧ Below u.heap.size u w' := fun u hu => by
            have := same1_any (sps j) (tps j) u (P.kept hu) (R.kept hu)
            rwa [hq] at this
          have H2 := fun u (hu : Wk u X (l - 1)) (hv : Below w0.heap.size w0 u) => ih j (tps j) u (l - 1) P R (hd_len hq) HN.out.1 (by have := HN.out.2.1; omega) hu hv
          have HQ : Hid ((sps j).same (tps j) = decide (∀ i, i < (sps j).len → ((sps j).ps i).same ((tps j).ps i) = true)) := by show (sps j).same (tps j) = _; rw [same_eq, hq]; rfl
          clear hq
          have k0 := fun x => Gr.cell x W2.c1
          have k9 := fun x => Gr.cell x W2.c0
          have p0 := fun x => Gr.cell x C.c0
          have p1 := fun x => Gr.cell x C.c1
          have p2 := fun x => Gr.cell x C.c2
          have p3 := fun x => Gr.cell x C.c3
          have p4 := fun x => Gr.cell x C.c4
          have q0 := fun x => Gr.cell x D.c0
          have q1 := fun x => Gr.cell x D.c1
          have q2 := fun x => Gr.cell x D.c2
          have q3 := fun x => Gr.cell x D.c3
          have q4 := fun x => Gr.cell x D.c4
          have hNE : Nonempty (Gr w2) := ⟨⟨_, Below.refl _ _⟩⟩
          refine wp_region_gr_tail 34 (by kernel_rfl) (by kernel_rfl) ?_
          simp only [List.take, List.drop]
          repeat (first | go_big_quiet_step ((first | (go_at_call 110; exact Calls.gr _ (H1 _ (Below.next B2 (Gr.bl _)))) | (go_at_call 109; first | with_reducible exact Calls.gr _ (partsOf_any (sps j) _) | with_reducible exact Calls.gr _ (partsOf_any (tps j) _)))))
          refine wpQuiet_nil ?_
          rintro w4 ⟨x4, rfl⟩
          have B4 := x4.bl
          generalize x4.w = w4 at B4 ⊢
          clear x4 k0 k9 p0 p1 p2 p3 p4 q0 q1 q2 q3 q4 hNE C D P R H1
          have H3 := H2 w4 (W2.kept B4) (Below.next B2 B4)
          clear H2 W2 B2 B4
          go_wp2_with fail
          refine H3.mono ?_
          intro e w6 hPP
          obtain ⟨r, rfl, hr, B6, L6, W6, hr6⟩ := hPP
          have HR : Hid (r = decide (∀ i, i < (sps j).len → ((sps j).ps i).same ((tps j).ps i) = true) ∧ (r = true → L6 + (sps j).pn = l - 1)) := ⟨hr, hr6⟩
          clear hr hr6 H3
          cases r
          · go_wp2
            go_ret
            exact PP.intro false rfl (decide_eq_false (fun hh => absurd ((HR.out.1.trans HQ.out.symm).trans (hh j hlt)) (by decide))).symm B6 L6 W6 (fun h => Bool.noConfusion h)
          · go_wp2
            go_roundw
            case rel => exact ⟨j + 1, L6, by omega, by go_num, fun i hi => (by
                by_cases e : i = j
                · subst e; rw [HQ.out, ← HR.out.1]
                · exact HD.out.1 i (by omega)), by have h1 := HD.out.2; have h2 := HR.out.2 (by simp); have h3 := HN.out; simp only [sumTo]; omega, W6, B6⟩
            case measure => simp [intOf]; omega
      · have e : slen = j := by omega
        subst e
        have dl : ¬ (slen : Int) < slen := by omega
        go_wp2
        go_ret
        exact PP.intro true rfl (decide_eq_true HD.out.1).symm hB l hW (fun _ => HD.out.2)
end Go.Proofs.YtbdhbgilaeldgaaGreat
