/- Layer 2: Same's question of two nodes. -/
import Derived.Test.YtgbillimanpmnaaTyAll
namespace Go.Proofs.Ytgbillimanpmnaa
open Go.RowKit

def hdEq (s t : Ty) : Bool := ((((s.k == t.k) && (s.l == t.l)) && (s.h == t.h)) && (s.e == t.e)) && (s.len == t.len)
theorem same_eq (s t : Ty) : s.same t = (hdEq s t && decide (∀ i, i < s.len → (s.ps i).same (t.ps i) = true)) := by
  rcases s with _ | ⟨k, l, h, e, ao, b, o, len, cap, ps⟩
  · show ((((0 == t.k) && (0 == t.l)) && ((0 == t.h) && (0 == t.e))) && (0 == t.len)) = ((((((0 : Int) == t.k) && ((0 : Int) == t.l)) && ((0 : Int) == t.h)) && ((0 : Int) == t.e)) && (0 == t.len) && decide (∀ i : Nat, i < 0 → Ty.same (Ty.dm.ps i) (t.ps i) = true))
    have e : decide (∀ i : Nat, i < 0 → Ty.same (Ty.dm.ps i) (t.ps i) = true) = true := decide_eq_true (fun _ h => absurd h (Nat.not_lt_zero _))
    rw [e]
    cases ((0 : Int) == t.k) <;> cases ((0 : Int) == t.l) <;> cases ((0 : Int) == t.h) <;> cases ((0 : Int) == t.e) <;> simp
  show (((((k == t.k) && (l == t.l)) && ((h == t.h) && (e == t.e))) && (len == t.len)) && decide (∀ i, i < len → Ty.same (ps i) (t.ps i) = true)) = (((((k == t.k) && (l == t.l)) && (h == t.h)) && (e == t.e)) && (len == t.len) && decide (∀ i, i < len → Ty.same (ps i) (t.ps i) = true))
  cases (k == t.k) <;> cases (l == t.l) <;> cases (h == t.h) <;> cases (e == t.e) <;> rfl
theorem hd_cases (s t : Ty) : ((s.k == t.k) = false ∧ hdEq s t = false) ∨ ((s.k == t.k) = true ∧ (s.l == t.l) = false ∧ hdEq s t = false) ∨ ((s.k == t.k) = true ∧ (s.l == t.l) = true ∧ (s.h == t.h) = false ∧ hdEq s t = false) ∨ ((s.k == t.k) = true ∧ (s.l == t.l) = true ∧ (s.h == t.h) = true ∧ (s.e == t.e) = false ∧ hdEq s t = false) ∨ ((s.k == t.k) = true ∧ (s.l == t.l) = true ∧ (s.h == t.h) = true ∧ (s.e == t.e) = true ∧ hdEq s t = ((s.len : Int) == t.len)) := by
  unfold hdEq
  have : ((s.len : Int) == t.len) = (s.len == t.len) := by
    by_cases h : s.len = t.len
    · rw [h]; simp
    · rw [beq_eq_false_iff_ne.2 h, beq_eq_false_iff_ne.2 (by omega)]
  rw [this]
  cases (s.k == t.k) <;> cases (s.l == t.l) <;> cases (s.h == t.h) <;> cases (s.e == t.e) <;> simp

set_option maxHeartbeats 2000000 in
theorem same1_any (s t : Ty) (w : World) (hs : s.At w) (ht : t.At w) :
    Calls Try.prog 42 #[.agg #[.int .i64 s.k, .int .i64 s.l, .slice s.ao s.len s.cap, .int .i64 s.h, .int .i64 s.e], .agg #[.int .i64 t.k, .int .i64 t.l, .slice t.ao t.len t.cap, .int .i64 t.h, .int .i64 t.e]] w fun e w' => e = .returned (.bool (hdEq s t)) ∧ Below w.heap.size w w' := by
  obtain ⟨X0, Y0, B0⟩ := start_tt w s t
  have b1 := hs.bound
  have b2 := ht.bound
  unfold tyO at *
  rcases hd_cases s t with ⟨h1, hE⟩ | ⟨h1, h2, hE⟩ | ⟨h1, h2, h3, hE⟩ | ⟨h1, h2, h3, h4, hE⟩ | ⟨h1, h2, h3, h4, hE⟩
  all_goals rw [hE]
  all_goals clear hE
  all_goals
    go_enter Try.func42, Try.ntmps42
    go_wp2
    go_ret
    exact ⟨rfl, B0⟩

set_option maxRecDepth 100000 in
set_option maxHeartbeats 4000000 in
theorem rSame_any2 : ∀ (s t : Ty) (w : World), s.At w → t.At w →
    Calls Try.prog 20 #[.agg #[.int .i64 s.k, .int .i64 s.l, .slice s.ao s.len s.cap, .int .i64 s.h, .int .i64 s.e], .agg #[.int .i64 t.k, .int .i64 t.l, .slice t.ao t.len t.cap, .int .i64 t.h, .int .i64 t.e]] w fun e w' => e = .returned (.bool (s.same t)) ∧ Below w.heap.size w w' := by
  intro s
  induction s with
  | dm => intro t w hs; exact hs.elim
  | mk sk sl sh se sao sb so slen scap sps ih =>
    intro t w hs ht
    rcases t with _ | ⟨tk, tl, th, te, tao, tb, to', tlen, tcap, tps⟩
    · exact ht.elim
    rw [same_eq]
    have hc := hd_cases (.mk sk sl sh se sao sb so slen scap sps) (.mk tk tl th te tao tb to' tlen tcap tps)
    obtain ⟨X0, Y0, B0⟩ := start_tt w (.mk sk sl sh se sao sb so slen scap sps) (.mk tk tl th te tao tb to' tlen tcap tps)
    have b1 : slen ≤ 9223372036854775807 := hs.bound
    have b2 : tlen ≤ 9223372036854775807 := ht.bound
    have n1 : 0 < slen → sao = some ⟨sb, so, none⟩ := hs.nil
    have n2 : 0 < tlen → tao = some ⟨tb, to', none⟩ := ht.nil
    have hs2 := hs.kept B0
    have ht2 := ht.kept B0
    unfold tyO at *
    generalize hdEq (.mk sk sl sh se sao sb so slen scap sps) (.mk tk tl th te tao tb to' tlen tcap tps) = HE at *
    simp only [Ty.k, Ty.l, Ty.h, Ty.e, Ty.ao, Ty.len, Ty.cap, Ty.ps] at *
    clear hs ht
    rcases hc with ⟨h1, hE⟩ | ⟨h1, h2, hE⟩ | ⟨h1, h2, h3, hE⟩ | ⟨h1, h2, h3, h4, hE⟩ | ⟨h1, h2, h3, h4, hE⟩
    · subst hE
      have h1 : (sk != tk) = true := by simp [bne, h1]
      go_enter Try.func20, Try.ntmps20
      go_wp2
      go_ret
      exact ⟨rfl, B0⟩
    · subst hE
      have h1 : (sk != tk) = false := by simp [bne, h1]
      have h2 : (sl != tl) = true := by simp [bne, h2]
      go_enter Try.func20, Try.ntmps20
      go_wp2
      go_ret
      exact ⟨rfl, B0⟩
    · subst hE
      have h1 : (sk != tk) = false := by simp [bne, h1]
      have h2 : (sl != tl) = false := by simp [bne, h2]
      have h3 : (sh != th) = true := by simp [bne, h3]
      go_enter Try.func20, Try.ntmps20
      go_wp2
      go_ret
      exact ⟨rfl, B0⟩
    · subst hE
      have h1 : (sk != tk) = false := by simp [bne, h1]
      have h2 : (sl != tl) = false := by simp [bne, h2]
      have h3 : (sh != th) = false := by simp [bne, h3]
      have h4 : (se != te) = true := by simp [bne, h4]
      go_enter Try.func20, Try.ntmps20
      go_wp2
      go_ret
      exact ⟨rfl, B0⟩
    · have e1 : sk = tk := by simpa using h1
      have e2 : sl = tl := by simpa using h2
      have e3 : sh = th := by simpa using h3
      have e4 : se = te := by simpa using h4
      subst e1 e2 e3 e4
      clear h1 h2 h3 h4
      by_cases hl : slen = tlen
      · subst hl
        have hE : HE = true := by rw [hE]; simp
        subst hE
        clear hE
        go_enter Try.func20, Try.ntmps20
        go_wp2
        clear b2
        go_loopw [5] (fun i wr => ∃ j : Nat, j ≤ slen ∧ i = .int .i64 j ∧ (∀ i, i < j → (sps i).same (tps i) = true) ∧ Bx wr w.heap.size (.mk sk sl sh se sao sb so slen scap sps) ∧ Bx wr (w.heap.size + 1) (.mk sk sl sh se tao tb to' slen tcap tps) ∧ Ty.At wr (.mk sk sl sh se sao sb so slen scap sps) ∧ Ty.At wr (.mk sk sl sh se tao tb to' slen tcap tps) ∧ Below w.heap.size w wr) (fun i _ => slen - (intOf i).toNat)
        case atStart => exact ⟨0, Nat.zero_le _, rfl, fun _ h => absurd h (Nat.not_lt_zero _), X0, Y0, hs2, ht2, B0⟩
        case round =>
          obtain ⟨j, hj, rfl, hdone, X1, Y1, hs3, ht3, B1⟩ := hrel
          clear X0 Y0 hs2 ht2 B0
          have HD : Hid (∀ i, i < j → (sps i).same (tps i) = true) := hdone
          clear hdone
          have x2 : wr.cell? ⟨w.heap.size, 2, none⟩ = some (.slice sao slen scap) := X1.c2
          have y2 : wr.cell? ⟨w.heap.size + 1, 2, none⟩ = some (.slice tao slen tcap) := Y1.c2
          by_cases hlt : j < slen
          · have ij : (j : Int) < slen := by omega
            have a1 := n1 (by omega)
            have a2 := n2 (by omega)
            subst a1 a2
            have C : C5 wr sb (so + j * 5) (sps j) := hs3.cells hlt
            have D : C5 wr tb (to' + j * 5) (tps j) := ht3.cells hlt
            have P : (sps j).At wr := hs3.part hlt
            have R : (tps j).At wr := ht3.part hlt
            have X2 := fun x => Gr.cell x x2
            have Y2 := fun x => Gr.cell x y2
            have p0 := fun x => Gr.cell x C.c0
            have p1 := fun x => Gr.cell x C.c1
            have p2 := fun x => Gr.cell x C.c2
            have p3 := fun x => Gr.cell x C.c3
            have p4 := fun x => Gr.cell x C.c4
            have q0 := fun x => Gr.cell x D.c0
            have q1 := fun x => Gr.cell x D.c1
            have q2 := fun x => Gr.cell x D.c2
            have q3 := fun x => Gr.cell x D.c3
            have q4 := fun x => Gr.cell x D.c4
            have hNE : Nonempty (Gr wr) := ⟨⟨_, Below.refl _ _⟩⟩
            go_wp2
            refine wp_region_gr (by kernel_rfl) (by kernel_rfl) ?_
            repeat (first | go_big_quiet_step ((go_at_call 20; exact Calls.gr _ (ih j (tps j) _ (P.kept (Gr.bl _)) (R.kept (Gr.bl _))))))
            refine wpQuiet_nil ?_
            rintro w4 ⟨x4, rfl⟩
            have B4 := x4.bl
            generalize x4.w = w4 at B4 ⊢
            clear x4 X2 Y2 p0 p1 p2 p3 p4 q0 q1 q2 q3 q4 hNE C D P R x2 y2
            have B5 := Below.next B1 B4
            cases hf : (sps j).same (tps j)
            · go_wp2
              go_ret
              exact ⟨ret_bool (by rw [Bool.true_and]; exact (decide_eq_false (fun hh => by rw [hh j hlt] at hf; cases hf)).symm), B5⟩
            · go_wp2
              go_roundw
              case rel => exact ⟨j + 1, by omega, by go_num, fun i hi => (by
                  by_cases e : i = j
                  · subst e; exact hf
                  · exact HD.out i (by omega)), X1.kept B4, Y1.kept B4, hs3.kept B4, ht3.kept B4, B5⟩
              case measure => simp [intOf]; omega
          · have e : slen = j := by omega
            subst e
            have dl : ¬ (slen : Int) < slen := by omega
            go_wp2
            go_ret
            exact ⟨ret_bool (decide_eq_true HD.out).symm, B1⟩
      · have hE : HE = false := by rw [hE]; simp; omega
        subst hE
        have h5 : ((slen : Int) != tlen) = true := by simp; omega
        clear hE
        go_enter Try.func20, Try.ntmps20
        go_wp2
        go_ret
        exact ⟨rfl, B0⟩
end Go.Proofs.Ytgbillimanpmnaa
