/- The walk of the statement LatticeMakes. -/
import Derived.Test.YtomjippaokakcaaRefMake
import Derived.Test.YtomjippaokakcaaAwake
namespace Go.Proofs.Ytomjippaokakcaa
open Go.RowKit

theorem eqS_of {p q : Strs} (h1 : p.len = q.len) (h2 : p.s = q.s) : eqSB p q = true := by
  unfold eqSB
  rw [h1, h2]
  simp
theorem made_same {n : Strs} {p : Prs} {e : Int} {n1 n2 : Strs} {g1 g2 : Grid} {w1 w2 : World} (h1 : Made n p e n1 g1 w1) (h2 : RMade n p e n2 g2 w2) : sameB n1 g1 n2 g2 = true := by
  unfold sameB
  by_cases h0 : e = 0
  · obtain ⟨a1, a2, T, rfl⟩ := h1.yes h0
    obtain ⟨b1, b2, ao, gg, cap, R, rfl⟩ := h2.yes h0
    rw [eqS_of (a1.trans b1.symm) (a2.trans b2.symm), Bool.true_and]
    unfold eqGB
    rw [Bool.and_eq_true, decide_eq_true_eq]
    refine ⟨by simp [gridOf, gridR], fun r _ => ?_⟩
    unfold eqRB
    rw [Bool.and_eq_true, decide_eq_true_eq]
    exact ⟨by simp [Grid.row, gridOf, gridR], fun _ _ => rfl⟩
  · obtain ⟨a1, a2⟩ := h1.no h0
    obtain ⟨b1, b2⟩ := h2.no h0
    unfold eqSB eqGB
    rw [a1, a2, b1, b2]
    simp
theorem made_formed {n : Strs} {p : Prs} {e : Int} {n1 : Strs} {g1 : Grid} {w1 : World} (h1 : Made n p e n1 g1 w1) : formedB n1 g1 = decide (e = 0) := by
  by_cases h0 : e = 0
  · obtain ⟨a1, a2, T, rfl⟩ := h1.yes h0
    rw [formed_canon a1 a2, decide_eq_true h0]
    have := h1.er
    rw [h0] at this
    unfold makeE at this
    split at this
    · cases this
    · split at this
      · cases this
      · split at this
        · cases this
        · rename_i h; simpa using h
  · obtain ⟨a1, a2⟩ := h1.no h0
    rw [decide_eq_false h0]
    unfold formedB namesB
    rw [a1]
    simp

set_option maxRecDepth 100000 in
set_option maxHeartbeats 4000000 in
theorem latticeMakes_core (nao : Option Addr) (nb no nlen ncap : Nat) (ns : Nat → ByteArray) (p : Prs) (w : World) (hn : Strs.At ⟨nao, nb, no, nlen, ncap, ns⟩ w) (hp : p.At w) (hs : (nao = none ∧ ncap = 0) ∨ nao = some ⟨nb, no, none⟩) :
    Calls Try.prog 5 #[.slice nao nlen ncap, .slice p.ao p.len p.cap] w fun e w' => e = .returned (.bool true) ∧ Below w.heap.size w w' := by
  have hnb : nlen ≤ 9223372036854775807 := hn.bound
  have hpb := hp.bound
  have HS : Hid ((nao = none ∧ ncap = 0) ∨ nao = some ⟨nb, no, none⟩) := hs
  clear hs
  by_cases h1 : 100 < nlen ∨ 300 < p.len
  · by_cases h100 : 100 < nlen
    · have d1 : decide ((100 : Int) < nlen) = true := by simp; omega
      clear h1
      go_enter Try.func5, Try.ntmps5
      go_wp2_with fail
      refine (awake_any _).mono ?_
      rintro e w1 ⟨rfl, hb1⟩
      go_wp2_with fail
      refine (awake_any _).mono ?_
      rintro e w2 ⟨rfl, hb2⟩
      go_wp2
      go_ret
      exact ⟨rfl, hb1.trans (hb2.mono hb1.size)⟩
    · have d1 : decide ((100 : Int) < nlen) = false := by simp; omega
      have d2 : decide ((300 : Int) < p.len) = true := by simp; omega
      clear h1
      go_enter Try.func5, Try.ntmps5
      go_wp2_with fail
      refine (awake_any _).mono ?_
      rintro e w1 ⟨rfl, hb1⟩
      go_wp2_with fail
      refine (awake_any _).mono ?_
      rintro e w2 ⟨rfl, hb2⟩
      go_wp2
      go_ret
      exact ⟨rfl, hb1.trans (hb2.mono hb1.size)⟩
  have d1 : decide ((100 : Int) < nlen) = false := by simp; omega
  have d2 : decide ((300 : Int) < p.len) = false := by simp; omega
  clear h1
  go_enter Try.func5, Try.ntmps5
  go_wp2_with fail
  refine (awake_any _).mono ?_
  rintro e w1 ⟨rfl, hb1⟩
  have hn1 := hn.kept hb1
  have hp1 := hp.kept hb1
  go_wp2
  clear d1 d2
  go_loopw [5] (fun i wr => ∃ k : Nat, k ≤ nlen ∧ i = .int .i64 k ∧ wr = w1) (fun i _ => nlen - (intOf i).toNat)
  case atStart => exact ⟨0, Nat.zero_le _, rfl, rfl⟩
  case round =>
    obtain ⟨k, hk, rfl, rfl⟩ := hrel
    by_cases hlt : k < nlen
    · have c0 : wr.cell? ⟨nb, no + k, none⟩ = some (.string (ns k)) := hn1.cell k hlt
      have a0 : nao = some ⟨nb, no, none⟩ := hn1.nil (by show 0 < nlen; omega)
      subst a0
      have sz : (ns k).size ≤ 9223372036854775807 := hn1.sz k hlt
      have ik : (k : Int) < nlen := by omega
      by_cases h1000 : 1000 < (ns k).size
      · have d3 : decide ((1000 : Int) < (ns k).size) = true := by simp; omega
        go_wp2
        go_ret
        exact ⟨rfl, hb1⟩
      · have d3 : decide ((1000 : Int) < (ns k).size) = false := by simp; omega
        go_wp2
        go_roundw
        case rel => exact ⟨k + 1, by omega, by go_num, True.intro⟩
        case measure => simp [intOf]; omega
    · have hle : ¬ (k : Int) < nlen := by omega
      go_wp2_with fail
      refine (make_any ⟨nao, nb, no, nlen, ncap, ns⟩ p _ hn1 hp1 (HS.out.imp (fun h => h.1) (fun h => h))).mono ?_
      rintro e w2 ⟨er, n1, g1, rfl, hM1, hb2⟩
      have X2 := Box2.start w2 (.slice n1.ao n1.len n1.cap) (.slice g1.ao g1.len g1.cap) 25
      have hB2 := hb1.trans (hb2.mono hb1.size)
      have hn2 := (hn1.kept hb2).kept X2.bl
      have hp2 := (hp1.kept hb2).kept X2.bl
      go_wp2_with fail
      refine (rmake_any ⟨nao, nb, no, nlen, ncap, ns⟩ p _ hn2 hp2 HS.out).mono ?_
      rintro e w3 ⟨er2, n2, g2, rfl, hM2, hb3⟩
      have er' : er2 = er := hM2.er.trans hM1.er.symm
      subst er'
      have X3 := X2.step hb3
      have hB3 := hB2.trans (X3.bl.mono hB2.size)
      have Y3 := Box2.start w3 (.slice n2.ao n2.len n2.cap) (.slice g2.ao g2.len g2.cap) 25
      have X4 := X3.step Y3.bl
      have HM : Hid (sameB n1 g1 n2 g2 = true ∧ formedB n1 g1 = decide (er2 = 0)) := ⟨made_same hM1 hM2, made_formed hM1⟩
      have n1a := (hM1.nat.kept X3.bl).kept Y3.bl
      have g1a := (hM1.gat.kept X3.bl).kept Y3.bl
      have n2a := hM2.nat.kept Y3.bl
      have g2a := hM2.gat.kept Y3.bl
      have x0 := X4.c0
      have x1 := X4.c1
      clear hM1 hM2 hb3 hb2 X2 X3 hn2 hp2 hn1 hp1
      go_wp2_with fail
      refine (rsame_any n1 g1 n2 g2 _ n1a g1a n2a g2a).mono ?_
      rintro e w5 ⟨rfl, hb5⟩
      rw [HM.out.1]
      have X5 := X4.step hb5
      have y0 := X5.c0
      have y1 := X5.c1
      go_wp2_with fail
      refine (formed_any n1 g1 _ (n1a.kept hb5) (g1a.kept hb5)).mono ?_
      rintro e w6 ⟨rfl, hb6⟩
      rw [HM.out.2]
      have X6 := X5.step hb6
      have e : (decide (er2 = 0) == (er2 == 0)) = true := by by_cases h : er2 = 0 <;> simp [h]
      go_wp2
      go_ret
      exact ⟨rfl, hB2.trans (X6.bl.mono hB2.size)⟩

theorem latticeMakes_any (n : Strs) (p : Prs) (w : World) (hn : n.At w) (hp : p.At w) (hs : (n.ao = none ∧ n.cap = 0) ∨ n.ao = some ⟨n.b, n.o, none⟩) :
    Calls Try.prog 5 #[.slice n.ao n.len n.cap, .slice p.ao p.len p.cap] w fun e w' => e = .returned (.bool true) ∧ Below w.heap.size w w' :=
  latticeMakes_core n.ao n.b n.o n.len n.cap n.s p w hn hp hs
end Go.Proofs.Ytomjippaokakcaa
