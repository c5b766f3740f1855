/- The walk of the statement TypesOrder. -/
import Derived.Test.YtlknlnhbmamcbaaP11
import Derived.Test.YtlknlnhbmamcbaaP1
import Derived.ProofKit
import Derived.Deep.Grids
import Derived.Lib.SmallJoins
import Derived.Test.YtlknlnhbmamcbaaP8
namespace Go.Proofs.Ytlknlnhbmamcbaa
open Go.RowKit

/-- A variable that holds three types. -/
structure B15 (w : World) (B : Nat) (sp : Nat → Ty) : Prop where
  a0 : w.cell? ⟨B, 0, none⟩ = some (.int .i64 (sp 0).k)
  a1 : w.cell? ⟨B, 1, none⟩ = some (.int .i64 (sp 0).l)
  a2 : w.cell? ⟨B, 2, none⟩ = some (.slice (sp 0).ao (sp 0).len (sp 0).cap)
  a3 : w.cell? ⟨B, 3, none⟩ = some (.int .i64 (sp 0).h)
  a4 : w.cell? ⟨B, 4, none⟩ = some (.int .i64 (sp 0).e)
  b0 : w.cell? ⟨B, 5, none⟩ = some (.int .i64 (sp 1).k)
  b1 : w.cell? ⟨B, 6, none⟩ = some (.int .i64 (sp 1).l)
  b2 : w.cell? ⟨B, 7, none⟩ = some (.slice (sp 1).ao (sp 1).len (sp 1).cap)
  b3 : w.cell? ⟨B, 8, none⟩ = some (.int .i64 (sp 1).h)
  b4 : w.cell? ⟨B, 9, none⟩ = some (.int .i64 (sp 1).e)
  d0 : w.cell? ⟨B, 10, none⟩ = some (.int .i64 (sp 2).k)
  d1 : w.cell? ⟨B, 11, none⟩ = some (.int .i64 (sp 2).l)
  d2 : w.cell? ⟨B, 12, none⟩ = some (.slice (sp 2).ao (sp 2).len (sp 2).cap)
  d3 : w.cell? ⟨B, 13, none⟩ = some (.int .i64 (sp 2).h)
  d4 : w.cell? ⟨B, 14, none⟩ = some (.int .i64 (sp 2).e)
  row : ∀ k, k < 3 → C5 w B (k * 5) (sp k)
theorem B15.kept {w w' : World} {B : Nat} {sp : Nat → Ty} (h : B15 w B sp) (hb : Below w.heap.size w w') : B15 w' B sp := ⟨up hb h.a0, up hb h.a1, up hb h.a2, up hb h.a3, up hb h.a4, up hb h.b0, up hb h.b1, up hb h.b2, up hb h.b3, up hb h.b4, up hb h.d0, up hb h.d1, up hb h.d2, up hb h.d3, up hb h.d4, fun k hk => (h.row k hk).kept hb⟩
def o15 (sp : Nat → Ty) : Obj := .cells #[.int .i64 (sp 0).k, .int .i64 (sp 0).l, .slice (sp 0).ao (sp 0).len (sp 0).cap, .int .i64 (sp 0).h, .int .i64 (sp 0).e, .int .i64 (sp 1).k, .int .i64 (sp 1).l, .slice (sp 1).ao (sp 1).len (sp 1).cap, .int .i64 (sp 1).h, .int .i64 (sp 1).e, .int .i64 (sp 2).k, .int .i64 (sp 2).l, .slice (sp 2).ao (sp 2).len (sp 2).cap, .int .i64 (sp 2).h, .int .i64 (sp 2).e] 39
theorem B15.new (w : World) (sp : Nat → Ty) : B15 (w.alloc (o15 sp)) w.heap.size sp := by
  refine ⟨?_, ?_, ?_, ?_, ?_, ?_, ?_, ?_, ?_, ?_, ?_, ?_, ?_, ?_, ?_, fun k hk => ?_⟩
  case refine_16 =>
    match k, hk with
    | 0, _ => constructor <;> simp [o15]
    | 1, _ => constructor <;> simp [o15]
    | 2, _ => constructor <;> simp [o15]
  all_goals simp [o15]
theorem start_l15 (w : World) (n : Strs) (g : Grid) (sp : Nat → Ty) : Bl ((w.alloc (latO n g)).alloc (o15 sp)) w.heap.size n g ∧ B15 ((w.alloc (latO n g)).alloc (o15 sp)) (w.heap.size + 1) sp ∧ Below w.heap.size w ((w.alloc (latO n g)).alloc (o15 sp)) :=
  ⟨(Bl.new w n g).kept (below_alloc _ _), (alloc_size w (latO n g)) ▸ B15.new (w.alloc (latO n g)) sp, Below.next (below_alloc _ _) (below_alloc _ _)⟩

set_option maxRecDepth 100000 in
set_option maxHeartbeats 8000000 in
theorem typesOrder_any (n : Strs) (g : Grid) (sp : Nat → Ty) (w : World) (hn : n.At w) (hg : g.At w) (hs : ∀ k, k < 3 → (sp k).At w) :
    Calls Try.prog 6 #[.agg #[.slice n.ao n.len n.cap, .slice g.ao g.len g.cap], .agg #[.int .i64 (sp 0).k, .int .i64 (sp 0).l, .slice (sp 0).ao (sp 0).len (sp 0).cap, .int .i64 (sp 0).h, .int .i64 (sp 0).e, .int .i64 (sp 1).k, .int .i64 (sp 1).l, .slice (sp 1).ao (sp 1).len (sp 1).cap, .int .i64 (sp 1).h, .int .i64 (sp 1).e, .int .i64 (sp 2).k, .int .i64 (sp 2).l, .slice (sp 2).ao (sp 2).len (sp 2).cap, .int .i64 (sp 2).h, .int .i64 (sp 2).e]] w fun e w' => e = .returned (.bool true) ∧ Below w.heap.size w w' := by
  obtain ⟨L0, T0, B0⟩ := start_l15 w n g sp
  unfold latO o15 at *
  go_enter Try.func6, Try.ntmps6
  go_wp2_with fail
  refine (awake2_any _).mono ?_
  rintro e w1 ⟨rfl, hb1⟩
  have L1 := L0.kept hb1
  have T1 := T0.kept hb1
  have B1 := Below.next B0 hb1
  clear L0 T0 B0 hb1
  have l0 := L1.c0
  have l1 := L1.c1
  have a0 := T1.a0
  have a1 := T1.a1
  have a2 := T1.a2
  have a3 := T1.a3
  have a4 := T1.a4
  have b0 := T1.b0
  have b1 := T1.b1
  have b2 := T1.b2
  have b3 := T1.b3
  have b4 := T1.b4
  have d0 := T1.d0
  have d1 := T1.d1
  have d2 := T1.d2
  have d3 := T1.d3
  have d4 := T1.d4
  go_wp2_with fail
  refine (few_any n g (sp 0) (sp 1) _ (hn.kept B1) (hg.kept B1) ((hs 0 (by omega)).kept B1) ((hs 1 (by omega)).kept B1)).mono ?_
  rintro e w2 ⟨rfl, hb2⟩
  have L2 := L1.kept hb2
  have T2 := T1.kept hb2
  have B2 := Below.next B1 hb2
  clear L1 T1 B1 hb2 l0 l1 a0 a1 a2 a3 a4 b0 b1 b2 b3 b4 d0 d1 d2 d3 d4
  cases hfew : fewB n g (sp 0) (sp 1)
  · go_wp2_with fail
    refine (awake2_any _).mono ?_
    rintro e w3 ⟨rfl, hb3⟩
    go_wp2
    go_ret
    exact ⟨rfl, Below.next B2 hb3⟩
  clear hfew
  have d0 := T2.d0
  have d1 := T2.d1
  have d2 := T2.d2
  have d3 := T2.d3
  have d4 := T2.d4
  go_wp2_with fail
  refine (rSmall2_any (sp 2) _ ((hs 2 (by omega)).kept B2)).mono ?_
  rintro e w3 ⟨rfl, hb3⟩
  have L3 := L2.kept hb3
  have T3 := T2.kept hb3
  have B3 := Below.next B2 hb3
  clear L2 T2 B2 hb3 d0 d1 d2 d3 d4
  cases hsm : decide ((sp 2).nodes ≤ 40)
  · go_wp2_with fail
    refine (awake2_any _).mono ?_
    rintro e w4 ⟨rfl, hb4⟩
    go_wp2
    go_ret
    exact ⟨rfl, Below.next B3 hb4⟩
  clear hsm
  have HN : Hid (n.At w3 ∧ g.At w3 ∧ ∀ k, k < 3 → (sp k).At w3) := ⟨hn.kept B3, hg.kept B3, fun k hk => (hs k hk).kept B3⟩
  clear hn hg hs
  go_wp2
  go_loopw [5] (fun i wr => ∃ k : Nat, k ≤ 3 ∧ i = .int .i64 k ∧ Below w3.heap.size w3 wr) (fun i _ => 3 - (intOf i).toNat)
  case atStart => exact ⟨0, Nat.zero_le _, rfl, Below.refl _ _⟩
  case round =>
    obtain ⟨k, hk, rfl, hB⟩ := hrel
    have L4 := L3.kept hB
    have T4 := T3.kept hB
    by_cases hlt : k < 3
    · have ik : (k : Int) < 3 := by omega
      have C := T4.row k hlt
      have l0 := fun x => Gr.cell x L4.c0
      have l1 := fun x => Gr.cell x L4.c1
      have p0 := fun x => Gr.cell x C.c0
      have p1 := fun x => Gr.cell x C.c1
      have p2 := fun x => Gr.cell x C.c2
      have p3 := fun x => Gr.cell x C.c3
      have p4 := fun x => Gr.cell x C.c4
      have H1 : ∀ u, Below wr.heap.size wr u → Calls Try.prog 17 #[.agg #[.slice n.ao n.len n.cap, .slice g.ao g.len g.cap], .agg #[.int .i64 (sp k).k, .int .i64 (sp k).l, .slice (sp k).ao (sp k).len (sp k).cap, .int .i64 (sp k).h, .int .i64 (sp k).e], .agg #[.int .i64 (sp k).k, .int .i64 (sp k).l, .slice (sp k).ao (sp k).len (sp k).cap, .int .i64 (sp k).h, .int .i64 (sp k).e]] u fun e w' => e = .returned (.bool (okB n g (sp k))) ∧ Below u.heap.size u w' := fun u hu => by
        have hb := Below.next hB hu
        have := Below_any2 n g (sp k) (sp k) u (HN.out.1.kept hb) (HN.out.2.1.kept hb) ((HN.out.2.2 k hlt).kept hb) ((HN.out.2.2 k hlt).kept hb)
        rwa [belB_refl] at this
      have H2 : ∀ u, Below wr.heap.size wr u → Calls Try.prog 11 #[.agg #[.slice n.ao n.len n.cap, .slice g.ao g.len g.cap], .agg #[.int .i64 (sp k).k, .int .i64 (sp k).l, .slice (sp k).ao (sp k).len (sp k).cap, .int .i64 (sp k).h, .int .i64 (sp k).e]] u fun e w' => e = .returned (.bool (okB n g (sp k))) ∧ Below u.heap.size u w' := fun u hu => by
        have hb := Below.next hB hu
        exact Formed2_any n g (sp k) u (HN.out.1.kept hb) (HN.out.2.1.kept hb) ((HN.out.2.2 k hlt).kept hb)
      generalize okB n g (sp k) = V at H1 H2
      have hNE : Nonempty (Gr wr) := ⟨⟨_, Below.refl _ _⟩⟩
      clear C T4 L4
      go_wp2
      refine wp_region_gr (by kernel_rfl) (by kernel_rfl) ?_
      repeat (first | go_big_quiet_step ((first | (go_at_call 17; exact Calls.gr _ (H1 _ (Gr.bl _))) | (go_at_call 11; exact Calls.gr _ (H2 _ (Gr.bl _))))))
      refine wpQuiet_nil ?_
      rintro w6 ⟨x6w, rfl⟩
      have B6 := x6w.bl
      generalize x6w.w = w6 at B6 ⊢
      clear x6w hNE l0 l1 p0 p1 p2 p3 p4 H1 H2
      go_wp2
      go_roundw
      case rel => exact ⟨k + 1, by omega, by go_num, Below.next hB B6⟩
      case measure => simp [intOf]; omega
    · have e : k = 3 := by omega
      subst e
      have hb3 := Below.next B3 hB
      have dl : ¬ ((3 : Nat) : Int) < 3 := by omega
      have l0 := fun x => Gr.cell x L4.c0
      have l1 := fun x => Gr.cell x L4.c1
      have a0 := fun x => Gr.cell x T4.a0
      have a1 := fun x => Gr.cell x T4.a1
      have a2 := fun x => Gr.cell x T4.a2
      have a3 := fun x => Gr.cell x T4.a3
      have a4 := fun x => Gr.cell x T4.a4
      have b0 := fun x => Gr.cell x T4.b0
      have b1 := fun x => Gr.cell x T4.b1
      have b2 := fun x => Gr.cell x T4.b2
      have b3 := fun x => Gr.cell x T4.b3
      have b4 := fun x => Gr.cell x T4.b4
      have d0 := fun x => Gr.cell x T4.d0
      have d1 := fun x => Gr.cell x T4.d1
      have d2 := fun x => Gr.cell x T4.d2
      have d3 := fun x => Gr.cell x T4.d3
      have d4 := fun x => Gr.cell x T4.d4
      have HC : ∀ (i j : Nat), i < 3 → j < 3 → ∀ u, Below wr.heap.size wr u → Calls Try.prog 17 #[.agg #[.slice n.ao n.len n.cap, .slice g.ao g.len g.cap], .agg #[.int .i64 (sp i).k, .int .i64 (sp i).l, .slice (sp i).ao (sp i).len (sp i).cap, .int .i64 (sp i).h, .int .i64 (sp i).e], .agg #[.int .i64 (sp j).k, .int .i64 (sp j).l, .slice (sp j).ao (sp j).len (sp j).cap, .int .i64 (sp j).h, .int .i64 (sp j).e]] u fun e w' => e = .returned (.bool (belB n g (sp i) (sp j))) ∧ Below u.heap.size u w' := fun i j hi hj u hu => by
        have hb := Below.next hB hu
        exact Below_any2 n g (sp i) (sp j) u (HN.out.1.kept hb) (HN.out.2.1.kept hb) ((HN.out.2.2 i hi).kept hb) ((HN.out.2.2 j hj).kept hb)
      have H1 := HC 0 1 (by omega) (by omega)
      have H2 := HC 1 2 (by omega) (by omega)
      have H3 := HC 1 0 (by omega) (by omega)
      have H4 := HC 0 2 (by omega) (by omega)
      have HS : ∀ u, Below wr.heap.size wr u → Calls Try.prog 20 #[.agg #[.int .i64 (sp 0).k, .int .i64 (sp 0).l, .slice (sp 0).ao (sp 0).len (sp 0).cap, .int .i64 (sp 0).h, .int .i64 (sp 0).e], .agg #[.int .i64 (sp 1).k, .int .i64 (sp 1).l, .slice (sp 1).ao (sp 1).len (sp 1).cap, .int .i64 (sp 1).h, .int .i64 (sp 1).e]] u fun e w' => e = .returned (.bool ((sp 0).same (sp 1))) ∧ Below u.heap.size u w' := fun u hu => by
        have hb := Below.next hB hu
        exact rSame_any2 (sp 0) (sp 1) u ((HN.out.2.2 0 (by omega)).kept hb) ((HN.out.2.2 1 (by omega)).kept hb)
      have HM : Hid ((belB n g (sp 0) (sp 1) = true → belB n g (sp 1) (sp 2) = true → belB n g (sp 0) (sp 2) = true) ∧ (belB n g (sp 0) (sp 1) = true → belB n g (sp 1) (sp 0) = true → (sp 0).same (sp 1) = true)) := ⟨fun h1 h2 => belB_trans h1 h2, fun h1 h2 => belB_anti h1 h2⟩
      generalize belB n g (sp 0) (sp 1) = ab at H1 HM
      generalize belB n g (sp 1) (sp 2) = bc at H2 HM
      generalize belB n g (sp 1) (sp 0) = ba at H3 HM
      generalize belB n g (sp 0) (sp 2) = ac at H4 HM
      generalize (sp 0).same (sp 1) = sm at HS HM
      have hNE : Nonempty (Gr wr) := ⟨⟨_, Below.refl _ _⟩⟩
      clear HC
      go_wp2
      refine wp_region_gr (by kernel_rfl) (by kernel_rfl) ?_
      repeat (first | go_big_quiet_step ((first | (go_at_call 17; with_reducible exact Calls.gr _ (H1 _ (Gr.bl _))) | (go_at_call 17; with_reducible exact Calls.gr _ (H2 _ (Gr.bl _))) | (go_at_call 17; with_reducible exact Calls.gr _ (H3 _ (Gr.bl _))))))
      refine wpQuiet_nil ?_
      rintro w6 ⟨x6w, rfl⟩
      have B6 := x6w.bl
      generalize x6w.w = w6 at B6 ⊢
      clear x6w hNE l0 l1 a0 a1 a2 a3 a4 b0 b1 b2 b3 b4 d0 d1 d2 d3 d4 H1 H2 H3
      have L6 := L4.kept B6
      have T6 := T4.kept B6
      have b6 := Below.next hb3 B6
      have H4' := H4 w6 B6
      clear H4 L4 T4
      have l0 := L6.c0
      have l1 := L6.c1
      have a0 := T6.a0
      have a1 := T6.a1
      have a2 := T6.a2
      have a3 := T6.a3
      have a4 := T6.a4
      have b0 := T6.b0
      have b1 := T6.b1
      have b2 := T6.b2
      have b3 := T6.b3
      have b4 := T6.b4
      have d0 := T6.d0
      have d1 := T6.d1
      have d2 := T6.d2
      have d3 := T6.d3
      have d4 := T6.d4
      cases ab
      · go_wp2
        go_ret
        exact ⟨rfl, b6⟩
      · cases bc
        · have HS' := HS w6 B6
          cases ba
          · go_wp2
            go_ret
            exact ⟨rfl, b6⟩
          · have e := HM.out.2 (by first | rfl | trivial) (by first | rfl | trivial)
            subst e
            go_wp2_with fail
            refine HS'.mono ?_
            rintro e w7 ⟨rfl, hb7⟩
            go_wp2
            go_ret
            exact ⟨rfl, Below.next b6 hb7⟩
        · have e := HM.out.1 rfl rfl
          subst e
          go_wp2_with fail
          refine H4'.mono ?_
          rintro e w7 ⟨rfl, hb7⟩
          have b7 := Below.next b6 hb7
          have HS' := HS w7 (Below.next B6 hb7)
          have T7 := T6.kept hb7
          clear a0 a1 a2 a3 a4 b0 b1 b2 b3 b4 d0 d1 d2 d3 d4 l0 l1
          have a0 := T7.a0
          have a1 := T7.a1
          have a2 := T7.a2
          have a3 := T7.a3
          have a4 := T7.a4
          have b0 := T7.b0
          have b1 := T7.b1
          have b2 := T7.b2
          have b3 := T7.b3
          have b4 := T7.b4
          have d0 := T7.d0
          have d1 := T7.d1
          have d2 := T7.d2
          have d3 := T7.d3
          have d4 := T7.d4
          cases ba
          · go_wp2
            go_ret
            exact ⟨rfl, b7⟩
          · have e := HM.out.2 (by first | rfl | trivial) (by first | rfl | trivial)
            subst e
            go_wp2_with fail
            refine HS'.mono ?_
            rintro e w8 ⟨rfl, hb8⟩
            go_wp2
            go_ret
            exact ⟨rfl, Below.next b7 hb8⟩
end Go.Proofs.Ytlknlnhbmamcbaa

/- A lattice that comes in, opened into its names and its table. -/
namespace Go.Proofs.Ytlknlnhbmamcbaa
open Go.ChangeShapes Go.WideShapes Go.ChangeAt Go.RowKit Go.Deep Go.Joins

theorem Try.own : ownKnob Try.prog.godebug = none := by kernel_rfl
theorem Try.laidOut : laidOutB Try.prog = true := by kernel_rfl
theorem Try.cellsString : Try.prog.cellsOf 9 = 1 := by kernel_rfl
theorem Try.cellsBool : Try.prog.cellsOf 4 = 1 := by kernel_rfl
theorem Try.cellsRow : Try.prog.cellsOf 54 = 1 := by kernel_rfl
theorem Try.cellsLat : Try.prog.cellsOf 25 = 2 := by kernel_rfl
theorem addr_plain (b off i : Nat) : (⟨b, off, none⟩ : Addr).add i = ⟨b, off + i, none⟩ := by unfold Addr.add; split <;> simp_all

section
variable {H : Type} {enc : TypeId × Value → H} {W : World} {base : Nat}

theorem open_strs {fuel : Nat} {v : Value} {x : DataW H × List MemPlace} (h : DataW.trod enc Try.prog W base (fun _ => true) true fuel 22 [v] = some x) :
    ∃ n : Strs, v = .slice n.ao n.len n.cap ∧ n.At W := by
  rcases open_strings Try.underlying22 Try.underlying9 Try.cellsString h with ⟨hcs, _⟩ | ⟨a, len, cap, ss, hcs, _, hl, hm, hz, _, hcell, hws⟩
  · exact ⟨⟨none, 0, 0, 0, 0, fun _ => ByteArray.empty⟩, by simpa using hcs, ⟨Nat.le_refl _, fun h => absurd h (Nat.lt_irrefl _), Nat.zero_le _, fun _ h => absurd h (Nat.not_lt_zero _), fun _ h => absurd h (Nat.not_lt_zero _)⟩⟩
  · have hv : v = .slice (some a) len cap := by simpa using hcs
    simp only [if_true] at hz
    unfold maxLen at hm hws
    refine ⟨⟨some a, a.block, a.off, len, cap, fun i => ss.getD i ByteArray.empty⟩, hv, ⟨hl, fun hp => ?_, Nat.le_trans hl hm, fun i hi => ?_, fun i hi => ?_⟩⟩
    · have hp' : 0 < len := hp
      have hs := World.cell?_spot (hcell 0 (by omega))
      obtain ⟨ab, ao, asp⟩ := a
      have : asp = none := by simpa [Addr.add] using hs
      subst this; rfl
    · have hi' : i < len := hi
      have hs := World.cell?_spot (hcell 0 (by omega))
      obtain ⟨ab, ao, asp⟩ := a
      have : asp = none := by simpa [Addr.add] using hs
      subst this
      have := hcell i (by omega)
      rw [addr_plain] at this
      exact this
    · have hi' : i < len := hi
      have hmem : ss.getD i ByteArray.empty ∈ ss := by
        rw [List.getD_eq_getElem?_getD, List.getElem?_eq_getElem (by omega)]
        exact List.getElem_mem _
      exact hws _ hmem

theorem open_grid {fuel : Nat} {v : Value} {x : DataW H × List MemPlace} (h : DataW.trod enc Try.prog W base (fun _ => true) true fuel 23 [v] = some x) :
    ∃ g : Grid, v = .slice g.ao g.len g.cap ∧ g.At W := by
  rcases open_bool_rows Try.underlying23 Try.underlying54 Try.underlying4 Try.cellsRow Try.cellsBool h with ⟨hcs, _⟩ | ⟨a, len, cap, A, L, C, B, hcs, _, hl, hm, _, hrows⟩
  · exact ⟨⟨none, 0, 0, 0, 0, fun _ => none, fun _ => 0, fun _ => 0, fun _ => 0, fun _ => 0, fun _ _ => false⟩, by simpa using hcs,
      ⟨Nat.le_refl _, fun h => absurd h (Nat.lt_irrefl _), Nat.zero_le _, fun _ h => absurd h (Nat.not_lt_zero _), fun _ h => absurd h (Nat.not_lt_zero _), fun _ h => absurd h (Nat.not_lt_zero _), fun _ h => absurd h (Nat.not_lt_zero _)⟩⟩
  · have hv : v = .slice (some a) len cap := by simpa using hcs
    unfold maxLen at hm
    have hadr : ∀ r, r < len → 0 < L r → A r = some ⟨((A r).getD default).block, ((A r).getD default).off, none⟩ ∧ ∀ c, c < L r → W.cell? ⟨((A r).getD default).block, ((A r).getD default).off + c, none⟩ = some (.bool (B r c)) := fun r hr hp => by
      obtain ⟨_, h1, _, h3, h4⟩ := hrows r (by omega)
      cases hA : A r with
      | none => have := h3 hA; omega
      | some a' =>
        obtain ⟨ab, ao, asp⟩ := a'
        obtain ⟨_, hcell⟩ := h4 _ hA
        have has : asp = none := by simpa [Addr.add] using World.cell?_spot (hcell 0 (by omega))
        subst has
        exact ⟨rfl, fun c hc => by have := hcell c (by omega); rwa [addr_plain] at this⟩
    have hspot : 0 < len → a = ⟨a.block, a.off, none⟩ := fun hp => by
      have hs := World.cell?_spot (hrows 0 (by omega)).1
      obtain ⟨ab, ao, asp⟩ := a
      have : asp = none := by simpa [Addr.add] using hs
      subst this; rfl
    refine ⟨⟨some a, a.block, a.off, len, cap, A, L, C, fun r => ((A r).getD default).block, fun r => ((A r).getD default).off, B⟩, hv, ⟨hl, fun hp => congrArg some (hspot hp), Nat.le_trans hl hm, fun r hr => ?_, fun r hr => ?_, fun r hr hp => (hadr r hr hp).1, fun r hr c hc => (hadr r hr (Nat.lt_of_le_of_lt (Nat.zero_le _) hc)).2 c hc⟩⟩
    · have hr' : r < len := hr
      obtain ⟨_, h1, h2, _⟩ := hrows r (by omega)
      unfold maxLen at h2
      exact Nat.le_trans h1 h2
    · have hr' : r < len := hr
      have := (hrows r (by omega)).1
      rw [hspot (by omega), addr_plain] at this
      exact this

theorem open_lat {v : Value} {d : DataW H} {p : List MemPlace} {b0 : Nat} (hv : Value.okWide Try.prog W .any b0 25 v) (h : DataW.Trod enc Try.prog W base (fun _ => true) true 25 v d p) :
    ∃ (n : Strs) (g : Grid), v = .agg #[.slice n.ao n.len n.cap, .slice g.ao g.len g.cap] ∧ n.At W ∧ g.At W := by
  obtain ⟨c0, c1, y0, y1, m, rfl, _, _, hy0, hy1⟩ := open_agg2 Try.underlying25 (by kernel_rfl) Try.cellsLat hv h
  obtain ⟨n, rfl, hn⟩ := open_strs hy0
  obtain ⟨g, rfl, hg⟩ := open_grid hy1
  exact ⟨n, g, rfl, hn, hg⟩
end
end Go.Proofs.Ytlknlnhbmamcbaa

/- A type that comes in, opened. -/
namespace Go.Proofs.Ytlknlnhbmamcbaa
open Go.ChangeShapes Go.WideShapes Go.ChangeAt Go.RowKit Go.Deep Go.Joins

theorem Try.cellsInt' : Try.prog.cellsOf 3 = 1 := by kernel_rfl
theorem Try.cellsTys : Try.prog.cellsOf 26 = 1 := by kernel_rfl
theorem Try.cellsTy : Try.prog.cellsOf 28 = 5 := by kernel_rfl

section
variable {H : Type} {enc : TypeId × Value → H} {W : World} {base : Nat}

def Ty.cs (t : Ty) : List Value := [.int .i64 t.k, .int .i64 t.l, .slice t.ao t.len t.cap, .int .i64 t.h, .int .i64 t.e]

theorem open_ty : ∀ (fuel : Nat) (cs : List Value) (x : DataW H × List MemPlace), DataW.trod enc Try.prog W base (fun _ => true) true fuel 28 cs = some x → ∃ t : Ty, cs = t.cs ∧ t.At W := by
  intro fuel
  induction fuel using Nat.strongRecOn with
  | _ fuel ih =>
    intro cs x h
    obtain ⟨xs, n, rfl, _, hl, hlen, hf⟩ := DataW.trod_struct Try.underlying28 h
    rw [Try.cellsTy] at hl
    match cs, hl with
    | [c0, c1, c2, c3, c4], _ =>
      have hlen5 : xs.length = 5 := hlen
      match xs, hlen5 with
      | [y0, y1, y2, y3, y4], _ =>
        have f0 : DataW.trod enc Try.prog W base (fun _ => true) true n 3 [c0] = some y0 := by simpa [Try.cellsInt'] using hf 0 _ rfl
        have f1 : DataW.trod enc Try.prog W base (fun _ => true) true n 3 [c1] = some y1 := by simpa [Try.cellsInt'] using hf 1 _ rfl
        have f2 : DataW.trod enc Try.prog W base (fun _ => true) true n 26 [c2] = some y2 := by simpa [Try.cellsTys] using hf 2 _ rfl
        have f3 : DataW.trod enc Try.prog W base (fun _ => true) true n 3 [c3] = some y3 := by simpa [Try.cellsInt'] using hf 3 _ rfl
        have f4 : DataW.trod enc Try.prog W base (fun _ => true) true n 3 [c4] = some y4 := by simpa [Try.cellsInt'] using hf 4 _ rfl
        obtain ⟨k, q0, _⟩ := DataW.trod_int Try.underlying3 f0
        obtain ⟨l, q1, _⟩ := DataW.trod_int Try.underlying3 f1
        obtain ⟨hh, q3, _⟩ := DataW.trod_int Try.underlying3 f3
        obtain ⟨e, q4, _⟩ := DataW.trod_int Try.underlying3 f4
        simp only [List.cons.injEq, and_true] at q0 q1 q3 q4
        subst q0 q1 q3 q4
        rcases DataW.trod_slice Try.underlying26 f2 with ⟨hcs, _⟩ | ⟨a, len, cap, elems, rest, m, hm, hcs, _, _, hlc, hmx, hel, hx, _, _⟩
        · simp only [List.cons.injEq, and_true] at hcs
          subst hcs
          exact ⟨.mk k l hh e none 0 0 0 0 (fun _ => .dm), rfl, ⟨fun h => absurd h (Nat.lt_irrefl _), Nat.zero_le _, fun _ h => absurd h (Nat.not_lt_zero _)⟩⟩
        · simp only [List.cons.injEq, and_true] at hcs
          subst hcs hm
          unfold maxLen at hmx
          have each : ∀ i, i < len → ∃ t : Ty, (∀ j, j < 5 → W.cell? (a.add (i * 5 + j)) = t.cs[j]?) ∧ t.At W := by
            intro i hi
            have h1 := hx i hi
            rw [Try.cellsTy] at h1
            cases hc : W.cells? base (a.add (i * 5)) 5 with
            | none => rw [hc] at h1; simp at h1; omega
            | some cs' =>
              rw [hc] at h1
              have h2 : DataW.trod enc Try.prog W base (fun _ => true) true m 28 cs' = some elems[i] := by
                rw [List.getElem?_eq_getElem (by omega)] at h1
                simpa using h1
              obtain ⟨t, rfl, hA⟩ := ih m (by omega) cs' _ h2
              obtain ⟨_, _, hcell⟩ := World.cells?_some hc
              exact ⟨t, fun j hj => by rw [← hcell j hj, add_add], hA⟩
          have hspot : 0 < len → a = ⟨a.block, a.off, none⟩ := fun hp => by
            obtain ⟨t, ht, _⟩ := each 0 hp
            have hs := World.cell?_spot (a := a.add (0 * 5 + 0)) (v := .int .i64 t.k) (by rw [ht 0 (by omega)]; rfl)
            obtain ⟨ab, ao, asp⟩ := a
            have : asp = none := by simpa [Addr.add] using hs
            subst this; rfl
          refine ⟨.mk k l hh e (some a) a.block a.off len cap (fun i => if h : i < len then Classical.choose (each i h) else .dm), rfl, ⟨fun hp => congrArg some (hspot hp), by omega, fun i hi => ?_⟩⟩
          simp only [dif_pos hi]
          obtain ⟨ht, hA⟩ := Classical.choose_spec (each i hi)
          generalize Classical.choose (each i hi) = t at ht hA
          have ea := hspot (by omega)
          have get : ∀ j, j < 5 → W.cell? ⟨a.block, a.off + i * 5 + j, none⟩ = t.cs[j]? := fun j hj => by
            have := ht j hj
            rw [ea, addr_plain, ← Nat.add_assoc] at this
            exact this
          exact ⟨⟨get 0 (by omega), get 1 (by omega), get 2 (by omega), get 3 (by omega), get 4 (by omega)⟩, hA⟩
theorem open_type {v : Value} {d : DataW H} {p : List MemPlace} {b0 : Nat} (hv : Value.okWide Try.prog W .any b0 28 v) (h : DataW.Trod enc Try.prog W base (fun _ => true) true 28 v d p) :
    ∃ t : Ty, v = .agg #[.int .i64 t.k, .int .i64 t.l, .slice t.ao t.len t.cap, .int .i64 t.h, .int .i64 t.e] ∧ t.At W := by
  obtain ⟨cs, rfl, _⟩ := okWide_struct Try.underlying28 hv
  obtain ⟨fuel, hf⟩ := h
  obtain ⟨t, ht, hA⟩ := open_ty fuel _ _ hf
  refine ⟨t, ?_, hA⟩
  have : cs.toList = t.cs := by simpa [Value.cells] using ht
  obtain ⟨l⟩ := cs
  have e : l = t.cs := this
  rw [e]; rfl

theorem Try.cellsTy3 : Try.prog.cellsOf 39 = 15 := by kernel_rfl
theorem open_ty3 {v : Value} {d : DataW H} {p : List MemPlace} {b0 : Nat} (hv : Value.okWide Try.prog W .any b0 39 v) (h : DataW.Trod enc Try.prog W base (fun _ => true) true 39 v d p) :
    ∃ sp : Nat → Ty, v = .agg #[.int .i64 (sp 0).k, .int .i64 (sp 0).l, .slice (sp 0).ao (sp 0).len (sp 0).cap, .int .i64 (sp 0).h, .int .i64 (sp 0).e, .int .i64 (sp 1).k, .int .i64 (sp 1).l, .slice (sp 1).ao (sp 1).len (sp 1).cap, .int .i64 (sp 1).h, .int .i64 (sp 1).e, .int .i64 (sp 2).k, .int .i64 (sp 2).l, .slice (sp 2).ao (sp 2).len (sp 2).cap, .int .i64 (sp 2).h, .int .i64 (sp 2).e] ∧ ∀ k, k < 3 → (sp k).At W := by
  simp only [Value.okWide, Try.underlying39] at hv
  obtain ⟨⟨cs⟩, rfl, _, _⟩ := hv
  obtain ⟨fuel, hf⟩ := h
  cases fuel with
  | zero => simp [DataW.trod] at hf
  | succ n =>
    unfold DataW.trod at hf
    rw [Try.underlying39] at hf
    have r3 : List.range 3 = [0, 1, 2] := rfl
    simp [r3, Try.cellsTy, Try.cellsTy3, Value.cells] at hf
    obtain ⟨hlen, hf⟩ := hf
    cases h0 : DataW.trod enc Try.prog W base (fun _ => true) true n 28 (List.take 5 cs) with
    | none => simp [h0] at hf
    | some y0 =>
      cases h1 : DataW.trod enc Try.prog W base (fun _ => true) true n 28 (List.take 5 (List.drop 5 cs)) with
      | none => simp [h0, h1] at hf
      | some y1 =>
        cases h2 : DataW.trod enc Try.prog W base (fun _ => true) true n 28 (List.take 5 (List.drop 10 cs)) with
        | none => simp [h0, h1, h2] at hf
        | some y2 =>
          obtain ⟨t0, e0, A0⟩ := open_ty n _ _ h0
          obtain ⟨t1, e1, A1⟩ := open_ty n _ _ h1
          obtain ⟨t2, e2, A2⟩ := open_ty n _ _ h2
          have ec : cs = t0.cs ++ (t1.cs ++ t2.cs) := by
            have q1 := List.take_append_drop 5 cs
            have q2 := List.take_append_drop 5 (List.drop 5 cs)
            have q3 : List.take 5 (List.drop 10 cs) = List.drop 10 cs := List.take_of_length_le (by simp [hlen])
            rw [List.drop_drop] at q2
            rw [← e0, ← e1, ← e2, q3, q2, q1]
          refine ⟨fun k => if k = 0 then t0 else if k = 1 then t1 else t2, ?_, fun k hk => ?_⟩
          · subst ec; rfl
          · match k, hk with
            | 0, _ => exact A0
            | 1, _ => exact A1
            | 2, _ => exact A2
end
end Go.Proofs.Ytlknlnhbmamcbaa
