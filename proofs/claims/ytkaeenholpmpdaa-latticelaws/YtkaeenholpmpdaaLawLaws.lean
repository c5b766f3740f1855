/- The walk of the statement LatticeLaws. -/
import Derived.Test.YtkaeenholpmpdaaCls
namespace Go.Proofs.Ytkaeenholpmpdaa
open Go.RowKit

set_option maxRecDepth 100000 in
set_option maxHeartbeats 4000000 in
theorem latticeLaws_any (n : Strs) (g : Grid) (w : World) (hn : n.At w) (hg : g.At w) :
    Calls Try.prog 6 #[.agg #[.slice n.ao n.len n.cap, .slice g.ao g.len g.cap]] w fun e w' => e = .returned (.bool true) ∧ Below w.heap.size w w' := by
  have B0 := Box2.start w (.slice n.ao n.len n.cap) (.slice g.ao g.len g.cap) 25
  have hnb := hn.bound
  go_enter Try.func6, Try.ntmps6
  go_wp2_with fail
  refine (awake_any _).mono ?_
  rintro e w1 ⟨rfl, hb1⟩
  have B1 := B0.step hb1
  clear hb1 B0
  have c0 := B1.c0
  have c1 := B1.c1
  go_wp2_with fail
  refine (small_any n g _ (hn.kept B1.bl) (hg.kept B1.bl)).mono ?_
  rintro e w2 ⟨rfl, hb2⟩
  have B2 := B1.step hb2
  clear hb2 c0 c1
  have c0 := B2.c0
  have c1 := B2.c1
  cases hsm : smallB n g
  · go_wp2_with fail
    refine (awake_any _).mono ?_
    rintro e w3 ⟨rfl, hb3⟩
    go_wp2
    go_ret
    exact ⟨rfl, (B2.step hb3).bl⟩
  go_wp2_with fail
  refine (formed_any n g _ (hn.kept B2.bl) (hg.kept B2.bl)).mono ?_
  rintro e w3 ⟨rfl, hb3⟩
  have B3 := B2.step hb3
  clear hb3 c0 c1
  have c0 := B3.c0
  have c1 := B3.c1
  cases hF : formedB n g
  · go_wp2_with fail
    refine (awake_any _).mono ?_
    rintro e w4 ⟨rfl, hb4⟩
    go_wp2
    go_ret
    exact ⟨rfl, (B3.step hb4).bl⟩
  have HF : Hid (formedB n g = true) := hF
  clear hF hsm B1 B2
  go_wp2
  clear c0 c1
  go_loopw [4] (fun i wr => ∃ a : Nat, a ≤ n.len ∧ i = .int .i64 a ∧ Box2 w wr (.slice n.ao n.len n.cap) (.slice g.ao g.len g.cap)) (fun i _ => n.len - (intOf i).toNat)
  case atStart => exact ⟨0, Nat.zero_le _, rfl, B3⟩
  case round =>
    obtain ⟨a, ha, rfl, hB⟩ := hrel
    clear B3
    by_cases hlt : a < n.len
    · go_wp2
      go_loopw [5] (fun i wr => ∃ b : Nat, b ≤ n.len ∧ i = .int .i64 b ∧ Box2 w wr (.slice n.ao n.len n.cap) (.slice g.ao g.len g.cap)) (fun i _ => n.len - (intOf i).toNat)
      case atStart => exact ⟨0, Nat.zero_le _, rfl, hB⟩
      case round =>
        obtain ⟨b, hb, rfl, hB2⟩ := hrel
        clear hB
        have ne : Nonempty (Cls w (.slice n.ao n.len n.cap) (.slice g.ao g.len g.cap)) := ⟨⟨_, hB2⟩⟩
        have d0 := fun x : Cls w (.slice n.ao n.len n.cap) (.slice g.ao g.len g.cap) => x.box.c0
        have d1 := fun x : Cls w (.slice n.ao n.len n.cap) (.slice g.ao g.len g.cap) => x.box.c1
        by_cases hltb : b < n.len
        · go_wp2
          refine wp_region_cls hB2 (by kernel_rfl) (by kernel_rfl) ?_
          repeat (first | go_big_quiet_step ((first | (go_at_call 17; exact JoinC hn hg HF _ hlt hltb) | (go_at_call 19; exact MeetC hn hg HF _ hlt hltb))))
          refine wpQuiet_nil ?_
          rintro w4 ⟨x4, rfl⟩
          have B4 := x4.box
          generalize x4.w = w4 at B4 ⊢
          clear x4
          have hj := jn_lt HF.out hlt hltb
          have hm := mt_lt HF.out hlt hltb
          have e1 := int_bne (jn_comm HF.out hlt hltb)
          have e2 := int_bne (mt_comm HF.out hlt hltb)
          have e3 := int_bne (mt_jn HF.out hlt hltb)
          have e4 := int_bne (jn_mt HF.out hlt hltb)
          have e5 := (jn_leq HF.out hlt hltb).trans (int_beq _ _).symm
          have e6 := ((int_beq _ _).trans (mt_leq HF.out hlt hltb).symm).trans e5
          have c0 := B4.c0
          have c1 := B4.c1
          go_wp2_with fail
          refine (JoinB hn hg HF B4 hltb hlt).mono ?_
          rintro e w5 ⟨rfl, B5⟩
          clear c0 c1
          have c0 := B5.c0
          have c1 := B5.c1
          go_wp2_with fail
          refine (MeetB hn hg HF B5 hltb hlt).mono ?_
          rintro e w6 ⟨rfl, B6⟩
          clear c0 c1
          have c0 := B6.c0
          have c1 := B6.c1
          go_wp2_with fail
          refine (MeetB hn hg HF B6 hlt hj).mono ?_
          rintro e w7 ⟨rfl, B7⟩
          clear c0 c1
          have c0 := B7.c0
          have c1 := B7.c1
          go_wp2_with fail
          refine (JoinB hn hg HF B7 hlt hm).mono ?_
          rintro e w8 ⟨rfl, B8⟩
          clear c0 c1
          have c0 := B8.c0
          have c1 := B8.c1
          go_wp2_with fail
          refine (LeqB hn hg HF B8 hlt hltb).mono ?_
          rintro e w9 ⟨rfl, B9⟩
          clear c0 c1
          have c0 := B9.c0
          have c1 := B9.c1
          go_wp2_with fail
          refine (LeqB hn hg HF B9 hlt hltb).mono ?_
          rintro e w10 ⟨rfl, B10⟩
          clear c0 c1 B4 B5 B6 B7 B8 B9
          go_wp2
          clear e1 e2 e3 e4 e5 e6
          go_loopw [8] (fun i wr => ∃ c : Nat, c ≤ n.len ∧ i = .int .i64 c ∧ Box2 w wr (.slice n.ao n.len n.cap) (.slice g.ao g.len g.cap)) (fun i _ => n.len - (intOf i).toNat)
          case atStart => exact ⟨0, Nat.zero_le _, rfl, B10⟩
          case round =>
            obtain ⟨c, hc, rfl, hB3⟩ := hrel
            clear B10
            by_cases hltc : c < n.len
            · have hbc := jn_lt HF.out hltb hltc
              have mbc := mt_lt HF.out hltb hltc
              have e1 := int_bne (jn_assoc HF.out hlt hltb hltc)
              have e2 := int_bne (mt_assoc HF.out hlt hltb hltc)
              go_wp2
              refine wp_region_cls hB3 (by kernel_rfl) (by kernel_rfl) ?_
              repeat (first | go_big_quiet_step ((first
                | (go_at_call 17; exact JoinC hn hg HF _ (by assumption) (by assumption))
                | (go_at_call 19; exact MeetC hn hg HF _ (by assumption) (by assumption)))))
              refine wpQuiet_nil ?_
              rintro w11 ⟨x11, rfl⟩
              have B11 := x11.box
              generalize x11.w = w11 at B11 ⊢
              clear x11 e1 e2
              go_wp2
              go_roundw
              case rel => exact ⟨c + 1, by omega, by go_num, B11⟩
              case measure => simp [intOf]; omega
            · clear d0 d1
              go_wp2
              go_roundw
              case rel => exact ⟨b + 1, by omega, by go_num, hB3⟩
              case measure => simp [intOf]; omega
        · obtain ⟨m, m1, m2, m3⟩ := bot_is HF.out
          obtain ⟨t, t1, t2, t3⟩ := top_is HF.out
          have H1 : Hid (botI n g = m) := m1
          have H2 : Hid (topI n g = t) := t1
          have h3 : Hid (g.B m a = true) := m3 a hlt
          have h4 : Hid (g.B a t = true) := t3 a hlt
          clear m1 t1 m3 t3
          go_wp2
          refine wp_region_cls hB2 (by kernel_rfl) (by kernel_rfl) ?_
          repeat (first | go_big_quiet_step ((first
            | (go_at_call 23; exact BottomC hn hg _ m H1.out)
            | (go_at_call 25; exact TopC hn hg _ t H2.out)
            | (go_at_call_of 15 (Value.int .i64 (m : Int)); exact LeqC hn hg HF _ m2 hlt true h3.out)
            | (go_at_call_of 15 (Value.int .i64 (t : Int)); exact LeqC hn hg HF _ hlt t2 true h4.out))))
          refine wpQuiet_nil ?_
          rintro w11 ⟨x11, rfl⟩
          have B11 := x11.box
          generalize x11.w = w11 at B11 ⊢
          clear x11 d0 d1
          go_wp2
          go_roundw
          case rel => exact ⟨a + 1, by omega, by go_num, B11⟩
          case measure => simp [intOf]; omega
    · go_wp2
      go_ret
      exact ⟨rfl, hB.bl⟩
end Go.Proofs.Ytkaeenholpmpdaa
