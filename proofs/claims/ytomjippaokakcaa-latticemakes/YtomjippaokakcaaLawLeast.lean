/- The walk of the statement LatticeLeast. -/
import Derived.Test.YtomjippaokakcaaCls
namespace Go.Proofs.Ytomjippaokakcaa
open Go.RowKit

theorem leq_is (n : Strs) (g : Grid) (a b : Int) (w : World) (hn : n.At w) (hg : g.At w) (r : Bool) (h : leqB n g a b = r) :
    Calls Try.prog 15 #[.agg #[.slice n.ao n.len n.cap, .slice g.ao g.len g.cap], .int .i64 a, .int .i64 b] w fun e w' => e = .returned (.bool r) ∧ Below w.heap.size w w' := by
  subst h; exact leq_any n g a b w hn hg

theorem leq_in {n : Strs} {g : Grid} {a b : Int} (h : leqB n g a b = true) : inR n.len a = true ∧ inR n.len b = true ∧ formedB n g = true ∧ g.B a.toNat b.toNat = true := by
  unfold leqB at h
  rw [Bool.and_eq_true, Bool.and_eq_true, Bool.and_eq_true] at h
  exact ⟨h.1.1.1, h.1.1.2, h.1.2, h.2⟩
theorem prs_yes {n : Strs} {g : Grid} {p : Prs} (h : ∀ i, i < p.len → leqB n g (p.x i) (p.y i) = true) : prsB p n.len = true := by
  unfold prsB
  rw [decide_eq_true_eq]
  intro i hi
  have := leq_in (h i hi)
  rw [this.1, this.2.1]; rfl

theorem war_in {n : Strs} {g : Grid} (hF : formedB n g = true) {M : Nat → Nat → Bool} (hM : ∀ r c, r < n.len → c < n.len → M r c = true → Lq g r c) : ∀ k, k ≤ n.len → ∀ r c, r < n.len → c < n.len → war M k r c = true → Lq g r c
  | 0, _, r, c, hr, hc, h => hM r c hr hc h
  | k + 1, hk, r, c, hr, hc, h => by
    unfold war warStep at h
    rw [Bool.or_eq_true, Bool.and_eq_true] at h
    rcases h with h | ⟨h1, h2⟩
    · exact war_in hF hM k (by omega) r c hr hc h
    · exact lq_trans hF hr (by omega) hc (war_in hF hM k (by omega) r k hr (by omega) h1) (war_in hF hM k (by omega) k c (by omega) hc h2)
theorem war_has (M : Nat → Nat → Bool) (r c : Nat) (h : M r c = true) : ∀ k, war M k r c = true
  | 0 => h
  | k + 1 => by unfold war warStep; rw [war_has M r c h k]; rfl
theorem least_in {n : Strs} {g : Grid} {p : Prs} (hF : formedB n g = true) (h : ∀ i, i < p.len → leqB n g (p.x i) (p.y i) = true) {r c : Nat} (hr : r < n.len) (hc : c < n.len) (hl : leastM p n.len r c = true) : g.B r c = true := by
  refine war_in hF (M := prsM p p.len) (fun r c hr hc hm => ?_) n.len (Nat.le_refl _) r c hr hc hl
  unfold prsM at hm
  rw [Bool.or_eq_true, decide_eq_true_eq, beq_iff_eq] at hm
  rcases hm with rfl | ⟨i, hi, h1, h2⟩
  · exact lq_refl hF hr
  · have := (leq_in (h i hi)).2.2.2
    rw [h1, h2] at this
    exact this
theorem least_has {n : Strs} {g : Grid} {p : Prs} (h : ∀ i, i < p.len → leqB n g (p.x i) (p.y i) = true) {i : Nat} (hi : i < p.len) : leastM p n.len (p.x i).toNat (p.y i).toNat = true := by
  refine war_has _ _ _ ?_ _
  unfold prsM
  rw [Bool.or_eq_true, decide_eq_true_eq]
  have q := leq_in (h i hi)
  obtain ⟨a, ha, _⟩ := inR_nat q.1
  obtain ⟨b, hb, _⟩ := inR_nat q.2.1
  exact Or.inr ⟨i, hi, by rw [ha]; rfl, by rw [hb]; rfl⟩

theorem made_leq {n n' : Strs} {p : Prs} {T : Nat} (h1 : n'.len = n.len) (h2 : n'.s = n.s) (hE : makeE n p = 0) : formedB n' (gridOf T n.len (leastM p n.len)) = true := by
  rw [formed_canon h1 h2]
  by_cases h : 8 < n.len ∨ 64 < p.len
  · rw [makeE_1 h] at hE; omega
  cases h2 : prsB p n.len
  · rw [makeE_10 h h2] at hE; omega
  cases h3 : formedM n.len n.s (leastM p n.len)
  · rw [makeE_4 h h2 h3] at hE; omega
  · rfl
theorem make_04 {n : Strs} {p : Prs} (h : ¬ (8 < n.len ∨ 64 < p.len)) (h2 : prsB p n.len = true) : makeE n p = 0 ∨ makeE n p = 4 := by
  cases h3 : formedM n.len n.s (leastM p n.len)
  · exact Or.inr (makeE_4 h h2 h3)
  · exact Or.inl (makeE_0 h h2 h3)
theorem leqB_grid {n : Strs} {T N : Nat} {M : Nat → Nat → Bool} (hF : formedB n (gridOf T N M) = true) {a b : Nat} (ha : a < n.len) (hb : b < n.len) {r : Bool} (h : M a b = r) : leqB n (gridOf T N M) a b = r := by
  rw [leqB_nat hF ha hb]; exact h

set_option maxRecDepth 100000 in
set_option maxHeartbeats 4000000 in
theorem latticeLeast_any (n : Strs) (g : Grid) (p : Prs) (w : World) (hn : n.At w) (hg : g.At w) (hp : p.At w) :
    Calls Try.prog 8 #[.agg #[.slice n.ao n.len n.cap, .slice g.ao g.len g.cap], .slice p.ao p.len p.cap] w fun e w' => e = .returned (.bool true) ∧ Below w.heap.size w w' := by
  have B0 := Box2.start w (.slice n.ao n.len n.cap) (.slice g.ao g.len g.cap) 25
  have hnb := hn.bound
  have hpb := hp.bound
  go_enter Try.func8, Try.ntmps8
  go_wp2_with fail
  refine (awake_any _).mono ?_
  rintro e w1 ⟨rfl, hb1⟩
  have B1 := B0.step hb1
  clear hb1 B0
  have c0 := B1.c0
  have c1 := B1.c1
  go_wp2_with fail
  refine (small_any n g _ (hn.kept B1.bl) (hg.kept B1.bl)).mono ?_
  rintro e w2 ⟨rfl, hb2⟩
  have B2 := B1.step hb2
  clear hb2 c0 c1
  have c0 := B2.c0
  have c1 := B2.c1
  cases hsm : smallB n g
  · go_wp2_with fail
    refine (awake_any _).mono ?_
    rintro e w3 ⟨rfl, hb3⟩
    go_wp2
    go_ret
    exact ⟨rfl, (B2.step hb3).bl⟩
  go_wp2_with fail
  refine (formed_any n g _ (hn.kept B2.bl) (hg.kept B2.bl)).mono ?_
  rintro e w3 ⟨rfl, hb3⟩
  have B3 := B2.step hb3
  clear hb3 c0 c1
  have c0 := B3.c0
  have c1 := B3.c1
  cases hF : formedB n g
  · go_wp2_with fail
    refine (awake_any _).mono ?_
    rintro e w4 ⟨rfl, hb4⟩
    go_wp2
    go_ret
    exact ⟨rfl, (B3.step hb4).bl⟩
  have HF : Hid (formedB n g = true) := hF
  clear hF hsm B1 B2
  by_cases h64 : 64 < p.len
  · have d64 : decide ((64 : Int) < p.len) = true := by simp; omega
    go_wp2_with fail
    refine (awake_any _).mono ?_
    rintro e w4 ⟨rfl, hb4⟩
    go_wp2
    go_ret
    exact ⟨rfl, (B3.step hb4).bl⟩
  have d64 : decide ((64 : Int) < p.len) = false := by simp; omega
  go_wp2
  clear c0 c1 d64
  go_loopw [5] (fun i wr => ∃ k : Nat, k ≤ p.len ∧ i = .int .i64 k ∧ (∀ i, i < k → leqB n g (p.x i) (p.y i) = true) ∧ Box2 w wr (.slice n.ao n.len n.cap) (.slice g.ao g.len g.cap)) (fun i _ => p.len - (intOf i).toNat)
  case atStart => exact ⟨0, Nat.zero_le _, rfl, fun _ h => absurd h (Nat.not_lt_zero _), B3⟩
  case round =>
    obtain ⟨k, hk, rfl, hdone, hB⟩ := hrel
    clear B3
    have HD : Hid (∀ i, i < k → leqB n g (p.x i) (p.y i) = true) := hdone
    clear hdone
    by_cases hlt : k < p.len
    · have ne : Nonempty (Cls w (.slice n.ao n.len n.cap) (.slice g.ao g.len g.cap)) := ⟨⟨_, hB⟩⟩
      have d0 := fun x : Cls w (.slice n.ao n.len n.cap) (.slice g.ao g.len g.cap) => x.box.c0
      have d1 := fun x : Cls w (.slice n.ao n.len n.cap) (.slice g.ao g.len g.cap) => x.box.c1
      have d2 := fun x : Cls w (.slice n.ao n.len n.cap) (.slice g.ao g.len g.cap) => (hp.kept x.box.bl).fst k hlt
      have d3 := fun x : Cls w (.slice n.ao n.len n.cap) (.slice g.ao g.len g.cap) => (hp.kept x.box.bl).snd k hlt
      have r0 := hp.nil (by omega)
      have ik : (k : Int) < p.len := by omega
      cases hl : leqB n g (p.x k) (p.y k)
      · go_wp2
        refine wp_region_cls hB (by kernel_rfl) (by kernel_rfl) ?_
        repeat (first | go_big_quiet_step ((go_at_call 15; exact Calls.cls _ (leq_is n g _ _ _ (hn.kept (Cls.box _).bl) (hg.kept (Cls.box _).bl) false hl))))
        refine wpQuiet_nil ?_
        rintro w4 ⟨x4, rfl⟩
        have B4 := x4.box
        go_wp2
        go_ret
        exact ⟨rfl, B4.bl⟩
      · go_wp2
        refine wp_region_cls hB (by kernel_rfl) (by kernel_rfl) ?_
        repeat (first | go_big_quiet_step ((go_at_call 15; exact Calls.cls _ (leq_is n g _ _ _ (hn.kept (Cls.box _).bl) (hg.kept (Cls.box _).bl) true hl))))
        refine wpQuiet_nil ?_
        rintro w4 ⟨x4, rfl⟩
        have B4 := x4.box
        generalize x4.w = w4 at B4 ⊢
        clear x4 d0 d1 d2 d3 r0
        go_wp2
        go_roundw
        case rel =>
          refine ⟨k + 1, by omega, by go_num, fun i hi => ?_, B4⟩
          rcases Nat.lt_succ_iff_lt_or_eq.1 hi with h | h
          · exact HD.out i h
          · subst h; exact hl
        case measure => simp [intOf]; omega
    · have HA : Hid (∀ i, i < p.len → leqB n g (p.x i) (p.y i) = true) := fun i hi => HD.out i (by omega)
      clear HD
      have c0 := hB.c0
      have c1 := hB.c1
      have hf := formed_parts HF.out
      go_wp2_with fail
      refine (make_any n p _ (hn.kept hB.bl) (hp.kept hB.bl) (Or.inr (hn.nil hf.2.1))).mono ?_
      rintro e w5 ⟨er, n', g', rfl, hM, hb5⟩
      have B5 := hB.step hb5
      clear hb5 c0 c1 hB
      have l8 := hf.2.2.1
      clear hf
      rcases make_04 (n := n) (p := p) (by omega) (prs_yes HA.out) with hE | hE
      · have h0 : er = 0 := hM.er.trans hE
        subst h0
        obtain ⟨q1, q2, T, rfl⟩ := hM.yes rfl
        obtain ⟨ao', b', o', l', c', s'⟩ := n'
        dsimp only at q1 q2
        subst q1 q2
        have hn5 := hM.nat
        have hg5 := hM.gat
        have HK : Hid (formedB ⟨ao', b', o', n.len, c', n.s⟩ (gridOf T n.len (leastM p n.len)) = true) := made_leq (n' := ⟨ao', b', o', n.len, c', n.s⟩) rfl rfl hE
        have HL : Hid (∀ r c, r < n.len → c < n.len → leastM p n.len r c = true → g.B r c = true) := fun r c hr hc h => least_in HF.out HA.out hr hc h
        have HP : Hid (∀ i, i < p.len → leastM p n.len (p.x i).toNat (p.y i).toNat = true) := fun i hi => least_has HA.out hi
        clear hM hE
        generalize leastM p n.len = M at *
        have X5 := Box2.start w5 (.slice ao' n.len c') (.slice (some ⟨T, 0, none⟩) n.len n.len) 25
        have c0 := (B5.step X5.bl).c0
        have c1 := (B5.step X5.bl).c1
        go_wp2
        clear c0 c1
        go_loopw [8] (fun i wr => ∃ a : Nat, a ≤ n.len ∧ i = .int .i64 a ∧ Box2 w5 wr (.slice ao' n.len c') (.slice (some ⟨T, 0, none⟩) n.len n.len)) (fun i _ => n.len - (intOf i).toNat)
        case atStart => exact ⟨0, Nat.zero_le _, rfl, X5⟩
        case round =>
          obtain ⟨a, ha, rfl, hX⟩ := hrel
          clear X5
          have c0 := (B5.step hX.bl).c0
          have c1 := (B5.step hX.bl).c1
          by_cases hlta : a < n.len
          · go_wp2
            clear c0 c1
            go_loopw [9] (fun i wr => ∃ b : Nat, b ≤ n.len ∧ i = .int .i64 b ∧ Box2 w5 wr (.slice ao' n.len c') (.slice (some ⟨T, 0, none⟩) n.len n.len)) (fun i _ => n.len - (intOf i).toNat)
            case atStart => exact ⟨0, Nat.zero_le _, rfl, hX⟩
            case round =>
              obtain ⟨b, hb, rfl, hX2⟩ := hrel
              clear hX
              have c0 := (B5.step hX2.bl).c0
              have c1 := (B5.step hX2.bl).c1
              have e0 := hX2.c0
              have e1 := hX2.c1
              by_cases hltb : b < n.len
              · cases hm : M a b
                · go_wp2_with fail
                  refine (leq_is ⟨ao', b', o', n.len, c', n.s⟩ (gridOf T n.len M) a b _ (hn5.kept hX2.bl) (hg5.kept hX2.bl) false (leqB_grid HK.out hlta hltb hm)).mono ?_
                  rintro e w6 ⟨rfl, hb6⟩
                  have X6 := hX2.step hb6
                  clear hb6 c0 c1 e0 e1
                  go_wp2
                  go_roundw
                  case rel => exact ⟨b + 1, by omega, by go_num, X6⟩
                  case measure => simp [intOf]; omega
                · go_wp2_with fail
                  refine (leq_is ⟨ao', b', o', n.len, c', n.s⟩ (gridOf T n.len M) a b _ (hn5.kept hX2.bl) (hg5.kept hX2.bl) true (leqB_grid HK.out hlta hltb hm)).mono ?_
                  rintro e w6 ⟨rfl, hb6⟩
                  have X6 := hX2.step hb6
                  have B6 := B5.step X6.bl
                  clear hb6 c0 c1 e0 e1
                  have c0 := B6.c0
                  have c1 := B6.c1
                  go_wp2_with fail
                  refine (leq_is n g a b _ (hn.kept B6.bl) (hg.kept B6.bl) true ((leqB_nat HF.out hlta hltb).trans (HL.out a b hlta hltb hm))).mono ?_
                  rintro e w7 ⟨rfl, hb7⟩
                  have X7 := X6.step hb7
                  clear hb7 c0 c1
                  go_wp2
                  go_roundw
                  case rel => exact ⟨b + 1, by omega, by go_num, X7⟩
                  case measure => simp [intOf]; omega
              · go_wp2
                go_roundw
                case rel => exact ⟨a + 1, by omega, by go_num, hX2⟩
                case measure => simp [intOf]; omega
          · go_wp2
            clear c0 c1
            go_loopw [10] (fun i wr => ∃ m : Nat, m ≤ p.len ∧ i = .int .i64 m ∧ Box2 w5 wr (.slice ao' n.len c') (.slice (some ⟨T, 0, none⟩) n.len n.len)) (fun i _ => p.len - (intOf i).toNat)
            case atStart => exact ⟨0, Nat.zero_le _, rfl, hX⟩
            case round =>
              obtain ⟨m, hm, rfl, hX2⟩ := hrel
              clear hX
              by_cases hltm : m < p.len
              · have ne : Nonempty (Cls w5 (.slice ao' n.len c') (.slice (some ⟨T, 0, none⟩) n.len n.len)) := ⟨⟨_, hX2⟩⟩
                have d0 := fun x : Cls w5 (.slice ao' n.len c') (.slice (some ⟨T, 0, none⟩) n.len n.len) => x.box.c0
                have d1 := fun x : Cls w5 (.slice ao' n.len c') (.slice (some ⟨T, 0, none⟩) n.len n.len) => x.box.c1
                have d2 := fun x : Cls w5 (.slice ao' n.len c') (.slice (some ⟨T, 0, none⟩) n.len n.len) => (hp.kept (B5.step x.box.bl).bl).fst m hltm
                have d3 := fun x : Cls w5 (.slice ao' n.len c') (.slice (some ⟨T, 0, none⟩) n.len n.len) => (hp.kept (B5.step x.box.bl).bl).snd m hltm
                have r0 := hp.nil (by omega)
                have ik : (m : Int) < p.len := by omega
                have q := leq_in (HA.out m hltm)
                obtain ⟨x, hx, hx1⟩ := inR_nat q.1
                obtain ⟨y, hy, hy1⟩ := inR_nat q.2.1
                have hxy := HP.out m hltm
                rw [hx, hy] at hxy
                have HXY : Hid (leqB ⟨ao', b', o', n.len, c', n.s⟩ (gridOf T n.len M) x y = true) := leqB_grid HK.out hx1 hy1 hxy
                rw [hx] at d2
                rw [hy] at d3
                clear q hx hy hxy
                go_wp2
                refine wp_region_cls hX2 (by kernel_rfl) (by kernel_rfl) ?_
                repeat (first | go_big_quiet_step ((go_at_call 15; exact Calls.cls _ (leq_is ⟨ao', b', o', n.len, c', n.s⟩ (gridOf T n.len M) x y _ (hn5.kept (Cls.box _).bl) (hg5.kept (Cls.box _).bl) true HXY.out))))
                refine wpQuiet_nil ?_
                rintro w6 ⟨x6, rfl⟩
                have X6 := x6.box
                generalize x6.w = w6 at X6 ⊢
                clear x6 d0 d1 d2 d3 r0
                go_wp2
                go_roundw
                case rel => exact ⟨m + 1, by omega, by go_num, X6⟩
                case measure => simp [intOf]; omega
              · go_wp2
                go_ret
                exact ⟨rfl, (B5.step hX2.bl).bl⟩
      · have h4 : er = 4 := hM.er.trans hE
        subst h4
        clear hM hE
        go_wp2
        go_ret
        exact ⟨rfl, (B5.step ((Below.refl _ _).alloc (Nat.le_refl _) _)).bl⟩
end Go.Proofs.Ytomjippaokakcaa
