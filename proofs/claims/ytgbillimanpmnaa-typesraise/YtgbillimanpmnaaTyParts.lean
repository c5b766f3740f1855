/- Layer 2: Same, by the walk through two types at once, where it puts nothing off. -/
import Derived.Test.YtgbillimanpmnaaTySame1
import Derived.Test.YtgbillimanpmnaaGate
namespace Go.Proofs.Ytgbillimanpmnaa
open Go.RowKit

/-- The walk's variable: asked is Same's question, L nodes may still be gone through, nothing is put off. -/
structure Wk (w : World) (X L : Nat) : Prop where
  c0 : w.cell? ⟨X, 0, none⟩ = some (.func (.func 38) #[] #[])
  c1 : w.cell? ⟨X, 1, none⟩ = some (.func (.func 42) #[] #[])
  c2 : w.cell? ⟨X, 2, none⟩ = some (.int .i64 L)
  c3 : w.cell? ⟨X, 3, none⟩ = some (.slice none 0 0)
  f2 : w.frozen? ⟨X, 2, none⟩ = false
theorem Wk.kept {w w' : World} {X L : Nat} (h : Wk w X L) (hb : Below w.heap.size w w') : Wk w' X L :=
  ⟨up hb h.c0, up hb h.c1, up hb h.c2, up hb h.c3, by rw [hb.frozen (p := ⟨X, 2, none⟩) (by have := World.block_lt_of_cell? w _ h.c0; exact this)]; exact h.f2⟩
theorem Wk.set {w : World} {X L : Nat} (h : Wk w X L) (L' : Nat) : Wk (w.setCell ⟨X, 2, none⟩ (.int .i64 L')) X L' :=
  ⟨by rw [World.cell?_setCell_other _ _ _ _ (by simp)]; exact h.c0, by rw [World.cell?_setCell_other _ _ _ _ (by simp)]; exact h.c1, World.cell?_setCell_same _ _ _ h.c2, by rw [World.cell?_setCell_other _ _ _ _ (by simp)]; exact h.c3, by rw [World.frozen?_setCell]; exact h.f2⟩

theorem hd_len {s t : Ty} (h : hdEq s t = true) : s.len = t.len := by
  unfold hdEq at h
  simp only [Bool.and_eq_true, beq_iff_eq] at h
  exact h.2
set_option maxHeartbeats 1000000 in
theorem partsOf_any (t : Ty) (w : World) :
    Calls Try.prog 38 #[.agg #[.int .i64 t.k, .int .i64 t.l, .slice t.ao t.len t.cap, .int .i64 t.h, .int .i64 t.e]] w fun e w' => e = .returned (.slice t.ao t.len t.cap) ∧ Below w.heap.size w w' := by
  have X0 := Bx.new w t
  have B0 := below_alloc w (.cells #[.int .i64 t.k, .int .i64 t.l, .slice t.ao t.len t.cap, .int .i64 t.h, .int .i64 t.e] 28)
  have x2 := X0.c2
  clear X0
  go_enter Try.func38, Try.ntmps38
  go_wp2
  go_ret
  exact ⟨rfl, B0⟩

/-- How many nodes the Parts have. -/
def Ty.pn (t : Ty) : Nat := sumTo (fun i => (t.ps i).nodes) t.len
theorem pn_nodes (t : Ty) : t.nodes = 1 + t.pn := by
  cases t <;> rfl

/-- What the walk answers of the Parts of s and t, and what it leaves. -/
def PP (w0 : World) (X : Nat) (s t : Ty) (L : Nat) (e : Ending) (w' : World) : Prop :=
  ∃ r : Bool, e = .returned (.bool r) ∧ r = decide (∀ i, i < s.len → (s.ps i).same (t.ps i) = true) ∧ Below w0.heap.size w0 w' ∧ ∃ L', Wk w' X L' ∧ (r = true → L' + s.pn = L)
theorem PP.intro {w0 : World} {X : Nat} {s t : Ty} {L : Nat} {e : Ending} {w' : World} (r : Bool) (h1 : e = .returned (.bool r)) (h2 : r = decide (∀ i, i < s.len → (s.ps i).same (t.ps i) = true)) (h3 : Below w0.heap.size w0 w') (L' : Nat) (h4 : Wk w' X L') (h5 : r = true → L' + s.pn = L) : PP w0 X s t L e w' := ⟨r, h1, h2, h3, L', h4, h5⟩

set_option maxRecDepth 100000 in
set_option maxHeartbeats 8000000 in
theorem parts_any (w0 : World) (X : Nat) (hX : w0.heap.size ≤ X) : ∀ (s t : Ty) (w : World) (L : Nat), s.At w0 → t.At w0 → s.len = t.len → s.pn ≤ L → L ≤ 1000 → Wk w X L → Below w0.heap.size w0 w →
    Calls Try.prog 55 #[.pointer (some ⟨X, 0, none⟩), .slice s.ao s.len s.cap, .slice t.ao t.len t.cap] w fun e w' => PP w0 X s t L e w' := by
  intro s
  induction s with
  | dm => intro t w L hs; exact hs.elim
  | mk sk sl sh se sao sb so slen scap sps ih =>
    intro t w L hs ht hl hL h1000 hW hB
    rcases t with _ | ⟨tk, tl, th, te, tao, tb, to', tlen, tcap, tps⟩
    · exact ht.elim
    have hl' : slen = tlen := hl
    subst hl'
    show Calls Try.prog 55 #[.pointer (some ⟨X, 0, none⟩), .slice sao slen scap, .slice tao slen tcap] w fun e w' => PP w0 X (.mk sk sl sh se sao sb so slen scap sps) (.mk tk tl th te tao tb to' slen tcap tps) L e w'
    have HL : Hid (sumTo (fun i => (sps i).nodes) slen ≤ L) := hL
    have b1 : slen ≤ 9223372036854775807 := hs.bound
    have n1 : 0 < slen → sao = some ⟨sb, so, none⟩ := hs.nil
    have n2 : 0 < slen → tao = some ⟨tb, to', none⟩ := ht.nil
    have HW : Hid (Wk w X L ∧ Below w0.heap.size w0 w) := ⟨hW, hB⟩
    clear hL hl hW hB
    go_enter Try.func55, Try.ntmps55
    go_wp2
    go_loopw [10] (fun i wr => ∃ j l : Nat, j ≤ slen ∧ i = .int .i64 j ∧ (∀ i, i < j → (sps i).same (tps i) = true) ∧ l + sumTo (fun i => (sps i).nodes) j = L ∧ Wk wr X l ∧ Below w0.heap.size w0 wr) (fun i _ => slen - (intOf i).toNat)
    case atStart => exact ⟨0, L, Nat.zero_le _, rfl, fun _ h => absurd h (Nat.not_lt_zero _), rfl, HW.out.1, HW.out.2⟩
    case round =>
      obtain ⟨j, l, hj, rfl, hdone, hl, hW, hB⟩ := hrel
      clear HW
      have HD : Hid ((∀ i, i < j → (sps i).same (tps i) = true) ∧ l + sumTo (fun i => (sps i).nodes) j = L) := ⟨hdone, hl⟩
      clear hdone
      by_cases hlt : j < slen
      · have ij : (j : Int) < slen := by omega
        have hsum := sumTo_le (fun i => (sps i).nodes) hlt
        have hnod := pn_nodes (sps j)
        have hLL := HL.out
        have hl0 : 1 ≤ l := by omega
        have HN : Hid ((sps j).pn ≤ l - 1 ∧ l ≤ 1000 ∧ (sps j).nodes = 1 + (sps j).pn) := ⟨by omega, by omega, hnod⟩
        clear hsum hnod hLL hl
        have a1 := n1 (by omega)
        have a2 := n2 (by omega)
        subst a1 a2
        have e0 : ((l : Int) == 0) = false := by simp; omega
        have k1 := hW.c2
        have kf := hW.f2
        have i1 : (1 : Int) ≤ l := by omega
        have i2 : (l : Int) ≤ 1000 := by have := HN.out.2.1; omega
        have W2 : Wk (wr.setCell ⟨X, 2, none⟩ (.int .i64 ((l : Int) - 1))) X (l - 1) := by
          have := hW.set (l - 1)
          rwa [show ((l - 1 : Nat) : Int) = (l : Int) - 1 by omega] at this
        have B2 : Below w0.heap.size w0 (wr.setCell ⟨X, 2, none⟩ (.int .i64 ((l : Int) - 1))) := hB.setCell hX _
        clear hW hB
        have C : C5 _ sb (so + j * 5) (sps j) := (hs.kept B2).cells hlt
        have D : C5 _ tb (to' + j * 5) (tps j) := (ht.kept B2).cells hlt
        have P : (sps j).At w0 := hs.part hlt
        have R : (tps j).At w0 := ht.part hlt
        go_wp2
        generalize wr.setCell ⟨X, 2, none⟩ (.int .i64 ((l : Int) - 1)) = w2 at *
        cases hq : hdEq (sps j) (tps j)
        · have k0 := fun x => Gr.cell x W2.c1
          have p0 := fun x => Gr.cell x C.c0
          have p1 := fun x => Gr.cell x C.c1
          have p2 := fun x => Gr.cell x C.c2
          have p3 := fun x => Gr.cell x C.c3
          have p4 := fun x => Gr.cell x C.c4
          have q0 := fun x => Gr.cell x D.c0
          have q1 := fun x => Gr.cell x D.c1
          have q2 := fun x => Gr.cell x D.c2
          have q3 := fun x => Gr.cell x D.c3
          have q4 := fun x => Gr.cell x D.c4
          have hNE : Nonempty (Gr w2) := ⟨⟨_, Below.refl _ _⟩⟩
          have H1 : ∀ u, Below w0.heap.size w0 u → Calls Try.prog 42 #[.agg #[.int .i64 (sps j).k, .int .i64 (sps j).l, .slice (sps j).ao (sps j).len (sps j).cap, .int .i64 (sps j).h, .int .i64 (sps j).e], .agg #[.int .i64 (tps j).k, .int .i64 (tps j).l, .slice (tps j).ao (tps j).len (tps j).cap, .int .i64 (tps j).h, .int .i64 (tps j).e]] u fun e w' => e = .returned (.bool false) ∧ Below u.heap.size u w' := fun u hu => by
            have := same1_any (sps j) (tps j) u (P.kept hu) (R.kept hu)
            rwa [hq] at this
          have HQ : Hid ((sps j).same (tps j) = false) := by show (sps j).same (tps j) = false; rw [same_eq, hq]; rfl
          clear hq
          refine wp_region_gr (by kernel_rfl) (by kernel_rfl) ?_
          repeat (first | go_big_quiet_step ((go_at_call 42; exact Calls.gr _ (H1 _ (Below.next B2 (Gr.bl _))))))
          refine wpQuiet_nil ?_
          rintro w4 ⟨x4, rfl⟩
          have B4 := x4.bl
          generalize x4.w = w4 at B4 ⊢
          clear x4 k0 p0 p1 p2 p3 p4 q0 q1 q2 q3 q4 hNE C D P R H1
          go_wp2
          go_ret
          exact PP.intro false rfl (decide_eq_false (fun hh => absurd (HQ.out.symm.trans (hh j hlt)) (by decide))).symm (Below.next B2 B4) (l - 1) (W2.kept B4) (fun h => Bool.noConfusion h)
        · have H1 : ∀ u, Below w0.heap.size w0 u → Calls Try.prog 42 #[.agg #[.int .i64 (sps j).k, .int .i64 (sps j).l, .slice (sps j).ao (sps j).len (sps j).cap, .int .i64 (sps j).h, .int .i64 (sps j).e], .agg #[.int .i64 (tps j).k, .int .i64 (tps j).l, .slice (tps j).ao (tps j).len (tps j).cap, .int .i64 (tps j).h, .int .i64 (tps j).e]] u fun e w' => e = .returned (.bool true) ∧ Below u.heap.size u w' := fun u hu => by
            have := same1_any (sps j) (tps j) u (P.kept hu) (R.kept hu)
            rwa [hq] at this
          have H2 := fun u (hu : Wk u X (l - 1)) (hv : Below w0.heap.size w0 u) => ih j (tps j) u (l - 1) P R (hd_len hq) HN.out.1 (by have := HN.out.2.1; omega) hu hv
          have HQ : Hid ((sps j).same (tps j) = decide (∀ i, i < (sps j).len → ((sps j).ps i).same ((tps j).ps i) = true)) := by show (sps j).same (tps j) = _; rw [same_eq, hq]; rfl
          clear hq
          have k0 := fun x => Gr.cell x W2.c1
          have k9 := fun x => Gr.cell x W2.c0
          have p0 := fun x => Gr.cell x C.c0
          have p1 := fun x => Gr.cell x C.c1
          have p2 := fun x => Gr.cell x C.c2
          have p3 := fun x => Gr.cell x C.c3
          have p4 := fun x => Gr.cell x C.c4
          have q0 := fun x => Gr.cell x D.c0
          have q1 := fun x => Gr.cell x D.c1
          have q2 := fun x => Gr.cell x D.c2
          have q3 := fun x => Gr.cell x D.c3
          have q4 := fun x => Gr.cell x D.c4
          have hNE : Nonempty (Gr w2) := ⟨⟨_, Below.refl _ _⟩⟩
          refine wp_region_gr_tail 34 (by kernel_rfl) (by kernel_rfl) ?_
          simp only [List.take, List.drop]
          repeat (first | go_big_quiet_step ((first | (go_at_call 42; exact Calls.gr _ (H1 _ (Below.next B2 (Gr.bl _)))) | (go_at_call 38; first | with_reducible exact Calls.gr _ (partsOf_any (sps j) _) | with_reducible exact Calls.gr _ (partsOf_any (tps j) _)))))
          refine wpQuiet_nil ?_
          rintro w4 ⟨x4, rfl⟩
          have B4 := x4.bl
          generalize x4.w = w4 at B4 ⊢
          clear x4 k0 k9 p0 p1 p2 p3 p4 q0 q1 q2 q3 q4 hNE C D P R H1
          have H3 := H2 w4 (W2.kept B4) (Below.next B2 B4)
          clear H2 W2 B2 B4
          go_wp2_with fail
          refine H3.mono ?_
          intro e w6 hPP
          obtain ⟨r, rfl, hr, B6, L6, W6, hr6⟩ := hPP
          have HR : Hid (r = decide (∀ i, i < (sps j).len → ((sps j).ps i).same ((tps j).ps i) = true) ∧ (r = true → L6 + (sps j).pn = l - 1)) := ⟨hr, hr6⟩
          clear hr hr6 H3
          cases r
          · go_wp2
            go_ret
            exact PP.intro false rfl (decide_eq_false (fun hh => absurd ((HR.out.1.trans HQ.out.symm).trans (hh j hlt)) (by decide))).symm B6 L6 W6 (fun h => Bool.noConfusion h)
          · go_wp2
            go_roundw
            case rel => exact ⟨j + 1, L6, by omega, by go_num, fun i hi => (by
                by_cases e : i = j
                · subst e; rw [HQ.out, ← HR.out.1]
                · exact HD.out.1 i (by omega)), by have h1 := HD.out.2; have h2 := HR.out.2 (by simp); have h3 := HN.out; simp only [sumTo]; omega, W6, B6⟩
            case measure => simp [intOf]; omega
      · have e : slen = j := by omega
        subst e
        have dl : ¬ (slen : Int) < slen := by omega
        go_wp2
        go_ret
        exact PP.intro true rfl (decide_eq_true HD.out.1).symm hB l hW (fun _ => HD.out.2)
end Go.Proofs.Ytgbillimanpmnaa
