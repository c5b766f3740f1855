/- Layer 2: bound. -/
import Derived.Test.YtepgdkigncjalaaGreatP21
import Derived.Test.YtepgdkigncjalaaGreatP9
import Derived.Deep.RegionHeld3
import Derived.Deep.DeepCutAuto
namespace Go.Proofs.YtepgdkigncjalaaGreat
open Go.RowKit

set_option maxRecDepth 100000 in
set_option maxHeartbeats 8000000 in
theorem bound_any (n : Strs) (g : Grid) : ∀ (s t : Ty) (up : Bool) (w : World), (∃ d, s.fm n.len d = true) → (∃ d, t.fm n.len d = true) → s.nodes ≤ 1000 → n.At w → g.At w → s.At w → t.At w →
    Calls Tryz.prog 126 #[.agg #[.slice n.ao n.len n.cap, .slice g.ao g.len g.cap], .agg #[.int .i64 s.k, .int .i64 s.l, .slice s.ao s.len s.cap, .int .i64 s.h, .int .i64 s.e], .agg #[.int .i64 t.k, .int .i64 t.l, .slice t.ao t.len t.cap, .int .i64 t.h, .int .i64 t.e], .bool up] w fun e w' => BP w n g s t up e w' := by
  intro s
  induction s with
  | dm => intro t up w ⟨d, h⟩; cases h
  | mk sk sl sh se sao sb so slen scap sps ih =>
    intro t up w ⟨d, hd⟩ ⟨d', hd'⟩ hN hn hg hs ht
    rcases t with _ | ⟨tk, tl, th, te, tao, tb, to', tlen, tcap, tps⟩
    · exact ht.elim
    have fs := fd_of hd
    have ft := fd_of hd'
    have K0 := bbox_new w n g (.mk sk sl sh se sao sb so slen scap sps) (.mk tk tl th te tao tb to' tlen tcap tps)
    have HN : Hid (n.At w ∧ g.At w ∧ Ty.At w (.mk sk sl sh se sao sb so slen scap sps) ∧ Ty.At w (.mk tk tl th te tao tb to' tlen tcap tps)) := ⟨hn, hg, hs, ht⟩
    have HP : Hid (∀ j, j < slen → (sps j).nodes ≤ 1000 ∧ j < 1000) := fun j hj => by
      have h1 : (sps j).nodes < _ := nodes_part (t := (.mk sk sl sh se sao sb so slen scap sps)) hj
      have h2 : 1 + sumTo (fun i => (sps i).nodes) slen ≤ 1000 := hN
      have h3 : ∀ m, m ≤ sumTo (fun i => (sps i).nodes) m := fun m => by
        induction m with
        | zero => exact Nat.le_refl _
        | succ m ihm =>
          have : 1 ≤ (sps m).nodes := by rw [pn_nodes]; omega
          show m + 1 ≤ sumTo (fun i => (sps i).nodes) m + (sps m).nodes
          omega
      have h4 := h3 slen
      exact ⟨by omega, by omega⟩
    have b1 : slen ≤ 9223372036854775807 := hs.bound
    have n1 : 0 < slen → sao = some ⟨sb, so, none⟩ := hs.nil
    have n2 : 0 < tlen → tao = some ⟨tb, to', none⟩ := ht.nil
    show Calls Tryz.prog 126 #[.agg #[.slice n.ao n.len n.cap, .slice g.ao g.len g.cap], .agg #[.int .i64 sk, .int .i64 sl, .slice sao slen scap, .int .i64 sh, .int .i64 se], .agg #[.int .i64 tk, .int .i64 tl, .slice tao tlen tcap, .int .i64 th, .int .i64 te], .bool up] w fun e w' => BP w n g (.mk sk sl sh se sao sb so slen scap sps) (.mk tk tl th te tao tb to' tlen tcap tps) up e w'
    unfold latO tyO at K0
    simp only [Ty.k, Ty.l, Ty.h, Ty.e, Ty.ao, Ty.len, Ty.cap] at K0
    clear hn hg hs ht hN
    by_cases hk : sk = tk
    · subst hk
      have bk : (sk != sk) = false := by simp
      have HL : Hid (slen = tlen) := by
        have a1 := fs.gd.ar
        have a2 := ft.gd.ar
        have a1' : (slen : Int) = arityI sk := a1
        have a2' : (tlen : Int) = arityI sk := a2
        show slen = tlen
        omega
      have H5 : Hid (sk = 5 → slen = 1) := fun h => fs.one h
      have HF : Hid (Fd n.len (.mk sk sl sh se sao sb so slen scap sps) ∧ Fd n.len (.mk sk tl th te tao tb to' tlen tcap tps)) := ⟨fs, ft⟩
      clear fs ft hd hd'
      go_enter Tryz.func126, Tryz.ntmps126
      go_upto_region 1 with fail
      generalize ((((w.alloc (.cells #[.slice n.ao n.len n.cap, .slice g.ao g.len g.cap] 25)).alloc (.cells #[.int .i64 sk, .int .i64 sl, .slice sao slen scap, .int .i64 sh, .int .i64 se] 34)).alloc (.cells #[.int .i64 sk, .int .i64 tl, .slice tao tlen tcap, .int .i64 th, .int .i64 te] 34)).alloc (.cells #[.int .i64 0, .int .i64 0, .slice none 0 0, .int .i64 0, .int .i64 0] 34)) = W0 at K0 ⊢
      go_cut [36] (fun c wx => c = .bool (decide (sk = 5) && !((sps 0).same (tps 0))) ∧ BBox w wx n g (.mk sk sl sh se sao sb so slen scap sps) (.mk sk tl th te tao tb to' tlen tcap tps))
      case first =>
        have l0 := fun q => Gr.cell q K0.l.c0
        have l1 := fun q => Gr.cell q K0.l.c1
        have x0 := fun q => Gr.cell q K0.x.c0
        have x1 := fun q => Gr.cell q K0.x.c1
        have x2 := fun q => Gr.cell q K0.x.c2
        have x3 := fun q => Gr.cell q K0.x.c3
        have x4 := fun q => Gr.cell q K0.x.c4
        have y0 := fun q => Gr.cell q K0.y.c0
        have y1 := fun q => Gr.cell q K0.y.c1
        have y2 := fun q => Gr.cell q K0.y.c2
        have y3 := fun q => Gr.cell q K0.y.c3
        have y4 := fun q => Gr.cell q K0.y.c4
        simp only [Ty.k, Ty.l, Ty.h, Ty.e, Ty.ao, Ty.len, Ty.cap] at x0 x1 x2 x3 x4 y0 y1 y2 y3 y4
        have hNE : Nonempty (Gr W0) := ⟨⟨_, Below.refl _ _⟩⟩
        by_cases h5 : sk = 5
        · have b5 : (sk == 5) = true := by simp [h5]
          have o1 := H5.out h5
          have o2 := HL.out
          have a1 := n1 (by omega)
          have a2 := n2 (by omega)
          subst a1 a2
          have i1 : (0 : Int) < slen := by omega
          have i2 : (0 : Int) < tlen := by omega
          have hs0 := HN.out.2.2.1.kept K0.bl
          have ht0 := HN.out.2.2.2.kept K0.bl
          have C0 : C5 W0 sb so (sps 0) := hs0.cells (i := 0) (by show 0 < slen; omega)
          have D0 : C5 W0 tb to' (tps 0) := ht0.cells (i := 0) (by show 0 < tlen; omega)
          have P0 : (sps 0).At W0 := hs0.part (i := 0) (by show 0 < slen; omega)
          have R0 : (tps 0).At W0 := ht0.part (i := 0) (by show 0 < tlen; omega)
          have hpn : (sps 0).pn ≤ 1000 := by have := (HP.out 0 (by omega)).1; have := pn_nodes (sps 0); omega
          have c0 := fun q => Gr.cell q C0.c0
          have c1 := fun q => Gr.cell q C0.c1
          have c2 := fun q => Gr.cell q C0.c2
          have c3 := fun q => Gr.cell q C0.c3
          have c4 := fun q => Gr.cell q C0.c4
          have d0 := fun q => Gr.cell q D0.c0
          have d1 := fun q => Gr.cell q D0.c1
          have d2 := fun q => Gr.cell q D0.c2
          have d3 := fun q => Gr.cell q D0.c3
          have d4 := fun q => Gr.cell q D0.c4
          have HV : Hid ((decide (sk = 5) && !((sps 0).same (tps 0))) = !((sps 0).same (tps 0))) := by show (decide (sk = 5) && !((sps 0).same (tps 0))) = _; rw [decide_eq_true h5, Bool.true_and]
          clear h5 C0 D0 o1 o2 hs0 ht0
          refine wp_region_gr (by kernel_rfl) (by kernel_rfl) ?_
          repeat (first | go_big_quiet_step ((go_at_call 44; exact Calls.gr _ (Same_any2 (sps 0) (tps 0) _ (P0.kept (Gr.bl _)) (R0.kept (Gr.bl _)) hpn))))
          refine wpQuiet_nil ?_
          rintro w1 ⟨q1, rfl⟩
          have B1 := q1.bl
          generalize q1.w = w1 at B1 ⊢
          clear q1 l0 l1 x0 x1 x2 x3 x4 y0 y1 y2 y3 y4 hNE
          clear c0 c1 c2 c3 c4 d0 d1 d2 d3 d4 P0 R0
          go_wp2
          go_meet
          case rel => exact ⟨by rw [HV.out], K0.step B1⟩
        · have b5 : (sk == 5) = false := beq_eq_false_iff_ne.2 h5
          have HV : Hid ((decide (sk = 5) && !((sps 0).same (tps 0))) = false) := by show (decide (sk = 5) && !((sps 0).same (tps 0))) = _; rw [decide_eq_false h5, Bool.false_and]
          clear h5
          refine wp_region_gr (by kernel_rfl) (by kernel_rfl) ?_
          repeat (first | go_big_quiet_step (fail))
          refine wpQuiet_nil ?_
          rintro w1 ⟨q1, rfl⟩
          have B1 := q1.bl
          generalize q1.w = w1 at B1 ⊢
          clear q1 l0 l1 x0 x1 x2 x3 x4 y0 y1 y2 y3 y4 hNE
          go_wp2
          go_meet
          case rel => exact ⟨by rw [HV.out], K0.step B1⟩
      case rest =>
        obtain ⟨hc, K1⟩ := hcut
        clear K0
        cases hG : (decide (sk = 5) && !((sps 0).same (tps 0)))
        · rw [hG] at hc
          subst hc
          have HG : Hid (sk = 5 → (sps 0).same (tps 0) = true) := fun h => by
            rw [decide_eq_true h, Bool.true_and] at hG
            cases hx : (sps 0).same (tps 0)
            · rw [hx] at hG; cases hG
            · rfl
          clear hG
          go_upto_region 3 with fail
          go_cut [10] (fun p wx => ∃ B : Nat, p = .pointer (some ⟨B, 0, none⟩) ∧ BBox w wx n g (.mk sk sl sh se sao sb so slen scap sps) (.mk sk tl th te tao tb to' tlen tcap tps) ∧ BV w wx B sk (bndL n g sl tl up) 0 0 (.slice none 0 0))
          case first =>
            have D1 : Below wc.heap.size wc wc.drew := (Below.refl _ _).drew
            have D2 : Below wc.heap.size wc (wc.alloc (.cells #[.int .i64 0, .int .i64 0, .slice none 0 0, .int .i64 0, .int .i64 0] 34)).drew := ((Below.refl _ _).alloc (Nat.le_refl _) _).drew
            have H1 := fun u (hu : Below wc.heap.size wc u) => boundLabel_any n g sl tl up u (HN.out.1.kept (K1.step hu).bl) (HN.out.2.1.kept (K1.step hu).bl)
            have N2 : Bx (wc.alloc (.cells #[.int .i64 0, .int .i64 0, .slice none 0 0, .int .i64 0, .int .i64 0] 34)).drew wc.heap.size (leafT 0 0) := (Bx.new wc (leafT 0 0)).kept ((Below.refl _ _).drew)
            have F2 : ∀ i : Nat, (wc.alloc (.cells #[.int .i64 0, .int .i64 0, .slice none 0 0, .int .i64 0, .int .i64 0] 34)).drew.frozen? ⟨wc.heap.size, i, none⟩ = false := fun i => frozen_new _ _ _ _
            have S2 : wc.heap.size < (wc.alloc (.cells #[.int .i64 0, .int .i64 0, .slice none 0 0, .int .i64 0, .int .i64 0] 34)).drew.heap.size := by show wc.heap.size < (wc.alloc _).heap.size; rw [alloc_size]; exact Nat.lt_succ_self _
            have hw : wc.heap.size ≤ wc.heap.size := Nat.le_refl _
            have key := fun u (hu : Below wc.heap.size wc u) => (⟨(K1.step hu).l.c0, (K1.step hu).l.c1, (K1.step hu).x.c0, (K1.step hu).x.c1, (K1.step hu).y.c1⟩ : (fun q : World => q.cell? ⟨w.heap.size, 0, none⟩ = some (.slice n.ao n.len n.cap) ∧ q.cell? ⟨w.heap.size, 1, none⟩ = some (.slice g.ao g.len g.cap) ∧ q.cell? ⟨w.heap.size + 1, 0, none⟩ = some (.int .i64 sk) ∧ q.cell? ⟨w.heap.size + 1, 1, none⟩ = some (.int .i64 sl) ∧ q.cell? ⟨w.heap.size + 2, 1, none⟩ = some (.int .i64 tl)) u)
            have hS := key _ D1
            go_region_held3 (fun q : World => q.cell? ⟨w.heap.size, 0, none⟩ = some (.slice n.ao n.len n.cap) ∧ q.cell? ⟨w.heap.size, 1, none⟩ = some (.slice g.ao g.len g.cap) ∧ q.cell? ⟨w.heap.size + 1, 0, none⟩ = some (.int .i64 sk) ∧ q.cell? ⟨w.heap.size + 1, 1, none⟩ = some (.int .i64 sl) ∧ q.cell? ⟨w.heap.size + 2, 1, none⟩ = some (.int .i64 tl)) (first | with_reducible assumption | with_reducible exact key _ D2 | with_reducible exact key _ (C5.alloc C5.size _) | with_reducible exact key _ (((((C5.setCell hw _).setCell hw _).setCell hw _).setCell hw _).setCell hw _)) ((go_at_call 127; refine (H1 _ (by first | exact D1 | exact D2)).mono ?_; rintro e w5 ⟨rfl, hb5⟩; have C5 : Below wc.heap.size wc w5 := (by first | exact Below.next D1 hb5 | exact Below.next D2 hb5); have hS5 := key _ C5; try (have Z5 := N2.kept hb5; have z0 : w5.cell? ⟨wc.heap.size, 0, none⟩ = some (.int .i64 0) := Z5.c0; have z1 : w5.cell? ⟨wc.heap.size, 1, none⟩ = some (.int .i64 0) := Z5.c1; have z2 : w5.cell? ⟨wc.heap.size, 2, none⟩ = some (.slice none 0 0) := Z5.c2; have z3 : w5.cell? ⟨wc.heap.size, 3, none⟩ = some (.int .i64 0) := Z5.c3; have z4 : w5.cell? ⟨wc.heap.size, 4, none⟩ = some (.int .i64 0) := Z5.c4; have f0 : w5.frozen? ⟨wc.heap.size, 0, none⟩ = false := (hb5.frozen (p := ⟨wc.heap.size, 0, none⟩) S2).trans (F2 0); have f1 : w5.frozen? ⟨wc.heap.size, 1, none⟩ = false := (hb5.frozen (p := ⟨wc.heap.size, 1, none⟩) S2).trans (F2 1); have f2 : w5.frozen? ⟨wc.heap.size, 2, none⟩ = false := (hb5.frozen (p := ⟨wc.heap.size, 2, none⟩) S2).trans (F2 2); have f3 : w5.frozen? ⟨wc.heap.size, 3, none⟩ = false := (hb5.frozen (p := ⟨wc.heap.size, 3, none⟩) S2).trans (F2 3); have f4 : w5.frozen? ⟨wc.heap.size, 4, none⟩ = false := (hb5.frozen (p := ⟨wc.heap.size, 4, none⟩) S2).trans (F2 4))))
            · go_wp2
              go_meet
              case rel => exact ⟨w5.heap.size, rfl, (K1.step C5).step (below_alloc _ _), BV.new w w5 (by have := K1.sz; have := C5.size; omega) sk _⟩
            · have Z5 : Bx w5 wc.heap.size (leafT 0 0) := N2.kept hb5
              have G5 : ∀ i, i < 5 → w5.frozen? ⟨wc.heap.size, i, none⟩ = false := fun i _ => (hb5.frozen (p := ⟨wc.heap.size, i, none⟩) S2).trans (F2 i)
              have h4 := K1.sz
              have KK : BBox w (World.put5 w5 wc.heap.size (.int .i64 sk) (.int .i64 (bndL n g sl tl up)) (.slice none 0 0) (.int .i64 0) (.int .i64 0)) n g (.mk sk sl sh se sao sb so slen scap sps) (.mk sk tl th te tao tb to' tlen tcap tps) := (K1.step C5).agree (put5_below (by omega) (K1.step C5).bl _ _ _ _ _) (by simp [World.put5, World.setCell]) (fun b hb => put5_heap _ _ _ _ _ _ _ (by omega))
              have VV := BV.put (w := w) Z5 G5 h4 sk (bndL n g sl tl up)
              go_wp2
              go_meet
              case rel => exact ⟨wc.heap.size, rfl, KK, VV⟩
          case rest =>
            obtain ⟨B, hp, K3, V3⟩ := hcut
            subst hp
            clear K1
            have x0 := K3.x.c0
            simp only [Ty.k] at x0
            go_upto_if 50 with fail
            clear x0
            go_cut [10] (fun p wx => p = .pointer (some ⟨B, 0, none⟩) ∧ BBox w wx n g (.mk sk sl sh se sao sb so slen scap sps) (.mk sk tl th te tao tb to' tlen tcap tps) ∧ BV w wx B sk (bndL n g sl tl up) (if sk = 4 then bndL n g sh th (!up) else 0) (if sk = 4 then bndE n g se te up else 0) (.slice none 0 0))
            case first =>
              by_cases h4 : sk = 4
              · have b4 : (sk == 4) = true := by simp [h4]
                have HV : Hid ((if sk = 4 then bndL n g sh th (!up) else 0) = bndL n g sh th (!up) ∧ (if sk = 4 then bndE n g se te up else 0) = bndE n g se te up) := ⟨if_pos h4, if_pos h4⟩
                clear h4
                have l0 := K3.l.c0
                have l1 := K3.l.c1
                have x3 := K3.x.c3
                have y3 := K3.y.c3
                simp only [Ty.h] at x3 y3
                have H1 := boundLabel_any n g sh th (!up) _ (HN.out.1.kept K3.bl) (HN.out.2.1.kept K3.bl)
                go_wp2_with fail
                refine H1.mono ?_
                rintro e w6 ⟨rfl, hb6⟩
                clear H1 l0 l1 x3 y3
                have K4 := K3.step hb6
                have V4 := V3.kept hb6
                clear K3 V3 hb6
                have v3 := V4.c3
                have f3 := V4.f 3 (by omega)
                have K5 := K4.set V4.ge 3 (.int .i64 (bndL n g sh th (!up)))
                have V5 := V4.set3 (bndL n g sh th (!up))
                have l0 := K5.l.c0
                have l1 := K5.l.c1
                have x4 := K5.x.c4
                have y4 := K5.y.c4
                simp only [Ty.e] at x4 y4
                have H2 := boundExc_any n g se te up _ (HN.out.1.kept K5.bl) (HN.out.2.1.kept K5.bl)
                clear K4 V4
                go_wp2_with fail
                refine H2.mono ?_
                rintro e w7 ⟨rfl, hb7⟩
                have K6 := K5.step hb7
                have V6 := V5.kept hb7
                clear H2 l0 l1 x4 y4 v3 f3 K5 V5 hb7
                have v4 := V6.c4
                have f4 := V6.f 4 (by omega)
                have K7 := K6.set V6.ge 4 (.int .i64 (bndE n g se te up))
                have V7 := V6.set4 (bndE n g se te up)
                clear K6 V6
                go_wp2
                go_meet
                case rel => exact ⟨rfl, K7, by rw [HV.out.1, HV.out.2]; exact V7⟩
              · have b4 : (sk == 4) = false := beq_eq_false_iff_ne.2 h4
                have HV : Hid ((if sk = 4 then bndL n g sh th (!up) else 0) = 0 ∧ (if sk = 4 then bndE n g se te up else 0) = 0) := ⟨if_neg h4, if_neg h4⟩
                clear h4
                go_wp2
                go_meet
                case rel => exact ⟨rfl, K3, by rw [HV.out.1, HV.out.2]; exact V3⟩
            case rest =>
              obtain ⟨hp, K6, V6⟩ := hcut
              subst hp
              clear K3 V3
              generalize hHB : (if sk = 4 then bndL n g sh th (!up) else 0) = HB at V6
              generalize hEB : (if sk = 4 then bndE n g se te up else 0) = EB at V6
              have HH : Hid ((if sk = 4 then bndL n g sh th (!up) else 0) = HB ∧ (if sk = 4 then bndE n g se te up else 0) = EB) := ⟨hHB, hEB⟩
              clear hHB hEB
              have x2 := K6.x.c2
              simp only [Ty.ao, Ty.len, Ty.cap] at x2
              go_wp2
              clear x2
              obtain ⟨i0, hi, hz0, hz1, hz2⟩ := info_parts Tryz.infoTy
              have HB6 : Hid (B < wc.heap.size) := V6.lt
              have hbase : ∃ base : Nat, base = wc.heap.size := ⟨_, rfl⟩
              obtain ⟨base, hbase⟩ := hbase
              have HBB : Hid (B < base ∧ w.heap.size + 4 ≤ B) := ⟨by have := HB6.out; omega, V6.ge⟩
              go_loopw [71] (fun i wr => ∃ (j : Nat) (v : Value) (ts : Nat → Ty), j ≤ slen ∧ i = .int .i64 j ∧ BBox w wr n g (.mk sk sl sh se sao sb so slen scap sps) (.mk sk tl th te tao tb to' tlen tcap tps) ∧ BV w wr B sk (bndL n g sl tl up) HB EB v ∧ base ≤ wr.heap.size ∧ GR base wr v j ts ∧ (∀ i, i < j → (sps i).bok (tps i) = true) ∧ (∀ i, i < j → (ts i).same (Ty.bnd n g (sps i) (tps i) (up != (decide (sk = 4) && decide (i = 0)))) = true)) (fun i _ => slen - (intOf i).toNat)
              case atStart => exact ⟨0, _, fun _ => .dm, Nat.zero_le _, rfl, K6, V6, Nat.le_of_eq hbase, GR.start _ _ _, fun _ h => absurd h (Nat.not_lt_zero _), fun _ h => absurd h (Nat.not_lt_zero _)⟩
              case round =>
                obtain ⟨j, v, ts, hj, rfl, KR, VR, hbs, hGR, hok, hsame⟩ := hrel
                clear K6 V6 hbase HB6
                have HS : Hid ((∀ i, i < j → (sps i).bok (tps i) = true) ∧ (∀ i, i < j → (ts i).same (Ty.bnd n g (sps i) (tps i) (up != (decide (sk = 4) && decide (i = 0)))) = true)) := ⟨hok, hsame⟩
                clear hok hsame
                have HGR : Hid (GR base wr v j ts) := hGR
                clear hGR
                by_cases hlt : j < slen
                · have ij : (j : Int) < slen := by omega
                  have hlt2 : j < tlen := by have := HL.out; omega
                  have ij2 : (j : Int) < tlen := by omega
                  have a1 := n1 (by omega)
                  have a2 := n2 (by omega)
                  subst a1 a2
                  go_upto_region 10 with fail
                  go_cut [12] from 72 to 108 (fun c wx => c = .bool (decide (sk = 4) && decide (j = 0)) ∧ wx = wr)
                  case first =>
                    have x0 := KR.x.c0
                    simp only [Ty.k] at x0
                    by_cases h4 : sk = 4
                    · have b4 : (sk == 4) = true := by simp [h4]
                      by_cases h0 : j = 0
                      · have b0 : ((j : Int) == 0) = true := by simp [h0]
                        have HV : Hid ((decide (sk = 4) && decide (j = 0)) = true) := by show (decide (sk = 4) && decide (j = 0)) = true; rw [decide_eq_true h4, decide_eq_true h0]; rfl
                        clear h4 h0
                        go_wp2
                        go_meet
                        case rel => exact ⟨by rw [HV.out], rfl⟩
                      · have b0 : ((j : Int) == 0) = false := by simp; omega
                        have HV : Hid ((decide (sk = 4) && decide (j = 0)) = false) := by show (decide (sk = 4) && decide (j = 0)) = false; rw [decide_eq_true h4, decide_eq_false h0]; rfl
                        clear h4 h0
                        go_wp2
                        go_meet
                        case rel => exact ⟨by rw [HV.out], rfl⟩
                    · have b4 : (sk == 4) = false := beq_eq_false_iff_ne.2 h4
                      have HV : Hid ((decide (sk = 4) && decide (j = 0)) = false) := by show (decide (sk = 4) && decide (j = 0)) = false; rw [decide_eq_false h4]; rfl
                      clear h4
                      go_wp2
                      go_meet
                      case rel => exact ⟨by rw [HV.out], rfl⟩
                  case rest =>
                    obtain ⟨rfl, hwc⟩ := hcut
                    subst hwc
                    rename World => wb
                    generalize hT : (decide (sk = 4) && decide (j = 0)) = tkb
                    have HT : Hid ((decide (sk = 4) && decide (j = 0)) = tkb) := hT
                    clear hT
                    go_upto_region 11 with fail
                    go_cut [13, 14] from 72 to 108 (fun p c wx => ∃ (PB : Nat) (u : Ty), p = .pointer (some ⟨PB, 0, none⟩) ∧ c = .bool ((sps j).bok (tps j)) ∧ Below wb.heap.size wb wx ∧ Bx wx PB u ∧ u.At wx ∧ u.Blk (fun b => wb.heap.size ≤ b) ∧ ((sps j).bok (tps j) = true → u.same (Ty.bnd n g (sps j) (tps j) (up != tkb)) = true))
                    case first =>
                      have D1 : Below wb.heap.size wb wb.drew := (Below.refl _ _).drew
                      have D2 : Below wb.heap.size wb (wb.alloc (.cells #[.int .i64 0, .int .i64 0, .slice none 0 0, .int .i64 0, .int .i64 0] 34)).drew := ((Below.refl _ _).alloc (Nat.le_refl _) _).drew
                      have hs0 := HN.out.2.2.1.kept KR.bl
                      have ht0 := HN.out.2.2.2.kept KR.bl
                      have CJ : C5 wb sb (so + j * 5) (sps j) := hs0.cells hlt
                      have DJ : C5 wb tb (to' + j * 5) (tps j) := ht0.cells hlt2
                      have PJ : (sps j).At wb := hs0.part hlt
                      have RJ : (tps j).At wb := ht0.part hlt2
                      have H1 := fun u (hu : Below wb.heap.size wb u) => ih j (tps j) (up != tkb) u (HF.out.1.part j hlt) (HF.out.2.part j hlt2) (HP.out j hlt).1 (HN.out.1.kept (KR.step hu).bl) (HN.out.2.1.kept (KR.step hu).bl) (PJ.kept hu) (RJ.kept hu)
                      have N2 : Bx (wb.alloc (.cells #[.int .i64 0, .int .i64 0, .slice none 0 0, .int .i64 0, .int .i64 0] 34)).drew wb.heap.size (leafT 0 0) := (Bx.new wb (leafT 0 0)).kept ((Below.refl _ _).drew)
                      have F2 : ∀ i : Nat, (wb.alloc (.cells #[.int .i64 0, .int .i64 0, .slice none 0 0, .int .i64 0, .int .i64 0] 34)).drew.frozen? ⟨wb.heap.size, i, none⟩ = false := fun i => frozen_new _ _ _ _
                      have S2 : wb.heap.size < (wb.alloc (.cells #[.int .i64 0, .int .i64 0, .slice none 0 0, .int .i64 0, .int .i64 0] 34)).drew.heap.size := by show wb.heap.size < (wb.alloc _).heap.size; rw [alloc_size]; exact Nat.lt_succ_self _
                      have hw : wb.heap.size ≤ wb.heap.size := Nat.le_refl _
                      have key := fun u (hu : Below wb.heap.size wb u) => (⟨(KR.step hu).l.c0, (KR.step hu).l.c1, (KR.step hu).x.c2, (KR.step hu).y.c2, (CJ.kept hu).c0, (CJ.kept hu).c1, (CJ.kept hu).c2, (CJ.kept hu).c3, (CJ.kept hu).c4, (DJ.kept hu).c0, (DJ.kept hu).c1, (DJ.kept hu).c2, (DJ.kept hu).c3, (DJ.kept hu).c4⟩ : (fun q : World => q.cell? ⟨w.heap.size, 0, none⟩ = some (.slice n.ao n.len n.cap) ∧ q.cell? ⟨w.heap.size, 1, none⟩ = some (.slice g.ao g.len g.cap) ∧ q.cell? ⟨w.heap.size + 1, 2, none⟩ = some (.slice (some ⟨sb, so, none⟩) slen scap) ∧ q.cell? ⟨w.heap.size + 2, 2, none⟩ = some (.slice (some ⟨tb, to', none⟩) tlen tcap) ∧ q.cell? ⟨sb, so + j * 5, none⟩ = some (.int .i64 (sps j).k) ∧ q.cell? ⟨sb, so + j * 5 + 1, none⟩ = some (.int .i64 (sps j).l) ∧ q.cell? ⟨sb, so + j * 5 + 2, none⟩ = some (.slice (sps j).ao (sps j).len (sps j).cap) ∧ q.cell? ⟨sb, so + j * 5 + 3, none⟩ = some (.int .i64 (sps j).h) ∧ q.cell? ⟨sb, so + j * 5 + 4, none⟩ = some (.int .i64 (sps j).e) ∧ q.cell? ⟨tb, to' + j * 5, none⟩ = some (.int .i64 (tps j).k) ∧ q.cell? ⟨tb, to' + j * 5 + 1, none⟩ = some (.int .i64 (tps j).l) ∧ q.cell? ⟨tb, to' + j * 5 + 2, none⟩ = some (.slice (tps j).ao (tps j).len (tps j).cap) ∧ q.cell? ⟨tb, to' + j * 5 + 3, none⟩ = some (.int .i64 (tps j).h) ∧ q.cell? ⟨tb, to' + j * 5 + 4, none⟩ = some (.int .i64 (tps j).e)) u)
                      have hS := key _ D1
                      clear CJ DJ PJ RJ hs0 ht0
                      go_region_held3 (fun q : World => q.cell? ⟨w.heap.size, 0, none⟩ = some (.slice n.ao n.len n.cap) ∧ q.cell? ⟨w.heap.size, 1, none⟩ = some (.slice g.ao g.len g.cap) ∧ q.cell? ⟨w.heap.size + 1, 2, none⟩ = some (.slice (some ⟨sb, so, none⟩) slen scap) ∧ q.cell? ⟨w.heap.size + 2, 2, none⟩ = some (.slice (some ⟨tb, to', none⟩) tlen tcap) ∧ q.cell? ⟨sb, so + j * 5, none⟩ = some (.int .i64 (sps j).k) ∧ q.cell? ⟨sb, so + j * 5 + 1, none⟩ = some (.int .i64 (sps j).l) ∧ q.cell? ⟨sb, so + j * 5 + 2, none⟩ = some (.slice (sps j).ao (sps j).len (sps j).cap) ∧ q.cell? ⟨sb, so + j * 5 + 3, none⟩ = some (.int .i64 (sps j).h) ∧ q.cell? ⟨sb, so + j * 5 + 4, none⟩ = some (.int .i64 (sps j).e) ∧ q.cell? ⟨tb, to' + j * 5, none⟩ = some (.int .i64 (tps j).k) ∧ q.cell? ⟨tb, to' + j * 5 + 1, none⟩ = some (.int .i64 (tps j).l) ∧ q.cell? ⟨tb, to' + j * 5 + 2, none⟩ = some (.slice (tps j).ao (tps j).len (tps j).cap) ∧ q.cell? ⟨tb, to' + j * 5 + 3, none⟩ = some (.int .i64 (tps j).h) ∧ q.cell? ⟨tb, to' + j * 5 + 4, none⟩ = some (.int .i64 (tps j).e)) (first | with_reducible assumption | with_reducible exact key _ D2 | with_reducible exact key _ (C5.alloc C5.size _) | with_reducible exact key _ (((((C5.setCell hw _).setCell hw _).setCell hw _).setCell hw _).setCell hw _)) ((go_at_call 126; refine (H1 _ (by first | with_reducible exact D1 | with_reducible exact D2)).mono ?_; intro e w5 hBP; obtain ⟨u, rfl, uA, uB, uS, hb5⟩ := hBP; have C5 : Below wb.heap.size wb w5 := (by first | exact Below.next D1 hb5 | exact Below.next D2 hb5); have hS5 := key _ C5; have uB1 : u.Blk (fun b => wb.heap.size ≤ b) := (by first | exact uB.mono (fun b hq => Nat.le_trans D1.size hq) | exact uB.mono (fun b hq => Nat.le_trans D2.size hq)); (try (have Z5 := N2.kept hb5; have z0 : w5.cell? ⟨wb.heap.size, 0, none⟩ = some (.int .i64 0) := Z5.c0; have z1 : w5.cell? ⟨wb.heap.size, 1, none⟩ = some (.int .i64 0) := Z5.c1; have z2 : w5.cell? ⟨wb.heap.size, 2, none⟩ = some (.slice none 0 0) := Z5.c2; have z3 : w5.cell? ⟨wb.heap.size, 3, none⟩ = some (.int .i64 0) := Z5.c3; have z4 : w5.cell? ⟨wb.heap.size, 4, none⟩ = some (.int .i64 0) := Z5.c4; have f0 : w5.frozen? ⟨wb.heap.size, 0, none⟩ = false := (hb5.frozen (p := ⟨wb.heap.size, 0, none⟩) S2).trans (F2 0); have f1 : w5.frozen? ⟨wb.heap.size, 1, none⟩ = false := (hb5.frozen (p := ⟨wb.heap.size, 1, none⟩) S2).trans (F2 1); have f2 : w5.frozen? ⟨wb.heap.size, 2, none⟩ = false := (hb5.frozen (p := ⟨wb.heap.size, 2, none⟩) S2).trans (F2 2); have f3 : w5.frozen? ⟨wb.heap.size, 3, none⟩ = false := (hb5.frozen (p := ⟨wb.heap.size, 3, none⟩) S2).trans (F2 3); have f4 : w5.frozen? ⟨wb.heap.size, 4, none⟩ = false := (hb5.frozen (p := ⟨wb.heap.size, 4, none⟩) S2).trans (F2 4); have HB2 : Hid (u.Blk (fun b => wb.heap.size < b)) := uB.mono (fun b hq => Nat.lt_of_lt_of_le S2 hq))); have HU : Hid (u.At w5 ∧ u.Blk (fun b => wb.heap.size ≤ b) ∧ ((sps j).bok (tps j) = true → u.same (Ty.bnd n g (sps j) (tps j) (up != tkb)) = true)) := ⟨uA, uB1, uS.1⟩; clear uA uB uB1 uS))
                      · go_wp2
                        go_meet
                        case rel => exact ⟨w5.heap.size, u, rfl, rfl, C5.alloc C5.size _, Bx.new w5 u, HU.out.1.kept (below_alloc _ _), HU.out.2.1, HU.out.2.2⟩
                      · have Z5 : Bx w5 wb.heap.size (leafT 0 0) := N2.kept hb5
                        have G5 : ∀ i, i < 5 → w5.frozen? ⟨wb.heap.size, i, none⟩ = false := fun i _ => (hb5.frozen (p := ⟨wb.heap.size, i, none⟩) S2).trans (F2 i)
                        obtain ⟨e0, e1, e2, e3, e4⟩ := put5_cells (.int .i64 u.k) (.int .i64 u.l) (.slice u.ao u.len u.cap) (.int .i64 u.h) (.int .i64 u.e) Z5 G5
                        have YY : Bx (World.put5 w5 wb.heap.size (.int .i64 u.k) (.int .i64 u.l) (.slice u.ao u.len u.cap) (.int .i64 u.h) (.int .i64 u.e)) wb.heap.size u := ⟨e0, e1, e2, e3, e4⟩
                        have BB : Below wb.heap.size wb (World.put5 w5 wb.heap.size (.int .i64 u.k) (.int .i64 u.l) (.slice u.ao u.len u.cap) (.int .i64 u.h) (.int .i64 u.e)) := put5_below (Nat.le_refl _) C5 _ _ _ _ _
                        have UU : u.At (World.put5 w5 wb.heap.size (.int .i64 u.k) (.int .i64 u.l) (.slice u.ao u.len u.cap) (.int .i64 u.h) (.int .i64 u.e)) := Ty.At.agree (Q := fun b => wb.heap.size < b) (fun b hq => put5_heap _ _ _ _ _ _ _ (by omega)) HU.out.1 HB2.out
                        clear e0 e1 e2 e3 e4
                        go_wp2
                        go_meet
                        case rel => exact ⟨wb.heap.size, u, rfl, rfl, BB, YY, UU, HU.out.2.1, HU.out.2.2⟩
                    case rest =>
                      obtain ⟨PB, u, hp, hc, hb5, NB, uA, uB, uS⟩ := hcut
                      subst hp
                      have KX := KR.step hb5
                      cases hbk : (sps j).bok (tps j)
                      · rw [hbk] at hc
                        subst hc
                        have HK : Hid (Ty.bok (.mk sk sl sh se (some ⟨sb, so, none⟩) sb so slen scap sps) (.mk sk tl th te (some ⟨tb, to', none⟩) tb to' tlen tcap tps) = false) := by
                          show Ty.bok (.mk sk sl sh se (some ⟨sb, so, none⟩) sb so slen scap sps) (.mk sk tl th te (some ⟨tb, to', none⟩) tb to' tlen tcap tps) = false
                          cases hq : Ty.bok (.mk sk sl sh se (some ⟨sb, so, none⟩) sb so slen scap sps) (.mk sk tl th te (some ⟨tb, to', none⟩) tb to' tlen tcap tps)
                          · rfl
                          · have : (sps j).bok (tps j) = true := (bok_parts hq).2.2 j hlt
                            rw [this] at hbk; cases hbk
                        clear hbk uA uB uS NB
                        have HR : Hid (Bx wc (w.heap.size + 3) (leafT 0 0) ∧ ∀ i, i < 5 → wc.frozen? ⟨w.heap.size + 3, i, none⟩ = false) := ⟨KX.r, KX.fr⟩
                        have HBE : Hid (Below w.heap.size w (World.put5 wc (w.heap.size + 3) (.int .i64 0) (.int .i64 0) (.slice none 0 0) (.int .i64 0) (.int .i64 0))) := put5_below (by omega) KX.bl _ _ _ _ _
                        clear KX KR VR hb5
                        go_wp2_with (refine wpList_store5 rfl rfl _ _ rfl (w.heap.size + 3) _ _ _ _ _ rfl rfl rfl rfl rfl rfl rfl HR.out.1 HR.out.2 ?_)
                        obtain ⟨e0, e1, e2, e3, e4⟩ := put5_cells (.int .i64 0) (.int .i64 0) (.slice none 0 0) (.int .i64 0) (.int .i64 0) HR.out.1 HR.out.2
                        exact bodyPost_ret (v := .tuple #[.agg #[.int .i64 0, .int .i64 0, .slice none 0 0, .int .i64 0, .int .i64 0], .bool false]) (by simp [results, Tryz.results126, go_sem, e0, e1, e2, e3, e4]) rfl (BP.no HK.out HBE.out)
                      · rw [hbk] at hc
                        subst hc
                        have HU : Hid (u.At wc ∧ u.Blk (fun b => wb.heap.size ≤ b) ∧ (sps j).bok (tps j) = true ∧ u.same (Ty.bnd n g (sps j) (tps j) (up != tkb)) = true ∧ Below wb.heap.size wb wc) := ⟨uA, uB, hbk, uS hbk, hb5⟩
                        have hownA := own_kept HGR.out.own (Below.next hb5 (below_alloc wc (.cells #[.int .i64 u.k, .int .i64 u.l, .slice u.ao u.len u.cap, .int .i64 u.h, .int .i64 u.e] 34)))
                        have v2 := (VR.kept hb5).c2
                        have y0 := NB.c0
                        have y1 := NB.c1
                        have y2 := NB.c2
                        have y3 := NB.c3
                        have y4 := NB.c4
                        have hs1 : base ≤ wc.heap.size := Nat.le_trans hbs hb5.size
                        have j1000 := (HP.out j hlt).2
                        have HVR : Hid (BV w wb B sk (bndL n g sl tl up) HB EB v ∧ BBox w wb n g (.mk sk sl sh se (some ⟨sb, so, none⟩) sb so slen scap sps) (.mk sk tl th te (some ⟨tb, to', none⟩) tb to' tlen tcap tps)) := ⟨VR, KR⟩
                        clear hbk uA uB uS NB KX VR KR hb5
                        go_wp2_with ((at_builtin; refine wpList_append_lies _ rfl _ _ 32 rfl base 34 i0 _ 5 56 Tryz.underlying32 hi hz0 hz1 hz2 rfl (by decide) v j (flatT ts j) rfl hownA ⟨wc.heap.size, 0, none⟩ 1 1 u.vs rfl rfl (World.news_of_block (cs := #[.int .i64 u.k, .int .i64 u.l, .slice u.ao u.len u.cap, .int .i64 u.h, .int .i64 u.e]) (t := 34) (fr := (0, 0)) (heap_alloc_new wc _)) (by intro x hx; simp [Ty.vs] at hx; rcases hx with rfl | rfl | rfl | rfl | rfl <;> rfl) (by omega) (by unfold maxLen; omega) (by omega) (by rw [alloc_size]; omega) (wc.heap.size + 1) (alloc_size _ _) ?_; intro gg cap3 w3 hown3 hgrow hat hltg; have HW : Hid (GR base w3 (.slice (some ⟨gg, 0, none⟩) (j + 1) cap3) (j + 1) (fun i => if i < j then ts i else u) ∧ (∀ b, b < base → w3.heap[b]? = wb.heap[b]?) ∧ wb.heap.size ≤ w3.heap.size ∧ (∀ x : World, x.heap.size ≤ base → Below x.heap.size x wb → Below x.heap.size x w3)) := HGR.out.push hbs HU.out.2.2.2.2 HU.out.1 HU.out.2.1 hown3 hgrow hat; have VB : BV w w3 B sk (bndL n g sl tl up) HB EB v := HVR.out.1.agree (HW.out.2.1 B HBB.out.1); have v2' := VB.c2; have f2' := VB.f 2 (by omega); clear hown3 hgrow hat hltg v2 y0 y1 y2 y3 y4 hownA))
                        have KB : BBox w w3 n g (.mk sk sl sh se (some ⟨sb, so, none⟩) sb so slen scap sps) (.mk sk tl th te (some ⟨tb, to', none⟩) tb to' tlen tcap tps) := HVR.out.2.agree (HW.out.2.2.2 w (by have := HBB.out; omega) HVR.out.2.bl) HW.out.2.2.1 (fun b hb => HW.out.2.1 b (by have := HBB.out; omega))
                        go_roundw
                        case rel => exact ⟨j + 1, _, (fun i => if i < j then ts i else u), by omega, by go_num, KB.set HBB.out.2 2 _, VB.set2 _, by have := HW.out.2.2.1; simp [World.setCell]; omega, HW.out.1.agree (fun b hb _ => Below.heap_setCell _ _ _ _ (by have := HBB.out; show b ≠ B; omega)), fun i hi => (by
                            by_cases hij : i < j
                            · exact HS.out.1 i hij
                            · have e : i = j := by omega
                              subst e
                              exact HU.out.2.2.1), fun i hi => (by
                            by_cases hij : i < j
                            · simp only [hij, if_true]; exact HS.out.2 i hij
                            · have e : i = j := by omega
                              subst e
                              simp only [Nat.lt_irrefl, if_false]
                              rw [HT.out]; exact HU.out.2.2.2.1)⟩
                        case measure => simp [intOf]; omega
                · have e : slen = j := by omega
                  subst e
                  have dl : ¬ (slen : Int) < slen := by omega
                  obtain ⟨gao, gg, gcap, hv, hTy⟩ := HGR.out.ty b1
                  subst hv
                  have HTY : Hid (Ty.At wr (.mk sk (bndL n g sl tl up) HB EB gao gg 0 slen gcap ts) ∧ Ty.Blk (fun b => base ≤ b) (.mk sk (bndL n g sl tl up) HB EB gao gg 0 slen gcap ts)) := hTy _ _ _ _
                  have HBK : Hid (Ty.bok (.mk sk sl sh se sao sb so slen scap sps) (.mk sk tl th te tao tb to' tlen tcap tps) = true) := bok_intro HF.out.1 rfl HG.out HS.out.1
                  have HSM : Hid (Ty.same (.mk sk (bndL n g sl tl up) HB EB gao gg 0 slen gcap ts) (Ty.bnd n g (.mk sk sl sh se sao sb so slen scap sps) (.mk sk tl th te tao tb to' tlen tcap tps) up) = true) := by
                    show Ty.same (.mk sk (bndL n g sl tl up) HB EB gao gg 0 slen gcap ts) (Ty.bnd n g (.mk sk sl sh se sao sb so slen scap sps) (.mk sk tl th te tao tb to' tlen tcap tps) up) = true
                    rw [bnd_eq]
                    exact (same_iff _ _).2 ⟨⟨rfl, rfl, HH.out.1.symm, HH.out.2.symm, rfl⟩, HS.out.2⟩
                  have v0 := VR.c0
                  have v1 := VR.c1
                  have v2 := VR.c2
                  have v3 := VR.c3
                  have v4 := VR.c4
                  have HR : Hid (Bx wr (w.heap.size + 3) (leafT 0 0) ∧ ∀ i, i < 5 → wr.frozen? ⟨w.heap.size + 3, i, none⟩ = false) := ⟨KR.r, KR.fr⟩
                  have HBE : Hid (Below w.heap.size w (World.put5 wr (w.heap.size + 3) (.int .i64 sk) (.int .i64 (bndL n g sl tl up)) (.slice gao slen gcap) (.int .i64 HB) (.int .i64 EB))) := put5_below (by omega) KR.bl _ _ _ _ _
                  have HAT : Hid (Ty.At (World.put5 wr (w.heap.size + 3) (.int .i64 sk) (.int .i64 (bndL n g sl tl up)) (.slice gao slen gcap) (.int .i64 HB) (.int .i64 EB)) (.mk sk (bndL n g sl tl up) HB EB gao gg 0 slen gcap ts)) := Ty.At.agree (Q := fun b => base ≤ b) (fun b hq => put5_heap _ _ _ _ _ _ _ (by have := HBB.out; omega)) HTY.out.1 HTY.out.2
                  clear KR VR hTy
                  go_wp2_with (refine wpList_store5 rfl rfl _ _ rfl (w.heap.size + 3) _ _ _ _ _ rfl rfl rfl rfl rfl rfl rfl HR.out.1 HR.out.2 ?_)
                  obtain ⟨e0, e1, e2, e3, e4⟩ := put5_cells (.int .i64 sk) (.int .i64 (bndL n g sl tl up)) (.slice gao slen gcap) (.int .i64 HB) (.int .i64 EB) HR.out.1 HR.out.2
                  exact bodyPost_ret (v := .tuple #[.agg #[.int .i64 sk, .int .i64 (bndL n g sl tl up), .slice gao slen gcap, .int .i64 HB, .int .i64 EB], .bool true]) (by simp [results, Tryz.results126, go_sem, e0, e1, e2, e3, e4]) rfl (BP.intro (.mk sk (bndL n g sl tl up) HB EB gao gg 0 slen gcap ts) (by rw [HBK.out]; rfl) HAT.out (HTY.out.2.mono (fun b hq => by have := HBB.out; omega)) ⟨fun _ => HSM.out, fun h => absurd (HBK.out.symm.trans h) (by decide)⟩ HBE.out)
        · rw [hG] at hc
          subst hc
          have HK : Hid (Ty.bok (.mk sk sl sh se sao sb so slen scap sps) (.mk sk tl th te tao tb to' tlen tcap tps) = false) := by
            show Ty.bok (.mk sk sl sh se sao sb so slen scap sps) (.mk sk tl th te tao tb to' tlen tcap tps) = false
            cases hq : Ty.bok (.mk sk sl sh se sao sb so slen scap sps) (.mk sk tl th te tao tb to' tlen tcap tps)
            · rfl
            · rw [Bool.and_eq_true, decide_eq_true_eq] at hG
              have : (sps 0).same (tps 0) = true := (bok_parts hq).2.1 hG.1
              rw [this] at hG
              exact absurd hG.2 (by decide)
          clear hG
          have HR : Hid (Bx wc (w.heap.size + 3) (leafT 0 0) ∧ ∀ i, i < 5 → wc.frozen? ⟨w.heap.size + 3, i, none⟩ = false) := ⟨K1.r, K1.fr⟩
          have HB : Hid (Below w.heap.size w (World.put5 wc (w.heap.size + 3) (.int .i64 0) (.int .i64 0) (.slice none 0 0) (.int .i64 0) (.int .i64 0))) := put5_below (by omega) K1.bl _ _ _ _ _
          clear K1
          go_wp2_with (refine wpList_store5 rfl rfl _ _ rfl (w.heap.size + 3) _ _ _ _ _ rfl rfl rfl rfl rfl rfl rfl HR.out.1 HR.out.2 ?_)
          obtain ⟨e0, e1, e2, e3, e4⟩ := put5_cells (.int .i64 0) (.int .i64 0) (.slice none 0 0) (.int .i64 0) (.int .i64 0) HR.out.1 HR.out.2
          exact bodyPost_ret (v := .tuple #[.agg #[.int .i64 0, .int .i64 0, .slice none 0 0, .int .i64 0, .int .i64 0], .bool false]) (by simp [results, Tryz.results126, go_sem, e0, e1, e2, e3, e4]) rfl (BP.no HK.out HB.out)
    · have bk : (sk != tk) = true := by simp [hk]
      have HK : Hid (Ty.bok (.mk sk sl sh se sao sb so slen scap sps) (.mk tk tl th te tao tb to' tlen tcap tps) = false) := by
        show Ty.bok (.mk sk sl sh se sao sb so slen scap sps) (.mk tk tl th te tao tb to' tlen tcap tps) = false
        cases hq : Ty.bok (.mk sk sl sh se sao sb so slen scap sps) (.mk tk tl th te tao tb to' tlen tcap tps)
        · rfl
        · exact absurd (bok_parts hq).1 hk
      go_enter Tryz.func126, Tryz.ntmps126
      go_wp2
      generalize ((((w.alloc (.cells #[.slice n.ao n.len n.cap, .slice g.ao g.len g.cap] 25)).alloc (.cells #[.int .i64 sk, .int .i64 sl, .slice sao slen scap, .int .i64 sh, .int .i64 se] 34)).alloc (.cells #[.int .i64 tk, .int .i64 tl, .slice tao tlen tcap, .int .i64 th, .int .i64 te] 34)).alloc (.cells #[.int .i64 0, .int .i64 0, .slice none 0 0, .int .i64 0, .int .i64 0] 34)) = W0 at K0 ⊢
      have l0 := fun q => Gr.cell q K0.l.c0
      have l1 := fun q => Gr.cell q K0.l.c1
      have x0 := fun q => Gr.cell q K0.x.c0
      have x1 := fun q => Gr.cell q K0.x.c1
      have x2 := fun q => Gr.cell q K0.x.c2
      have x3 := fun q => Gr.cell q K0.x.c3
      have x4 := fun q => Gr.cell q K0.x.c4
      have y0 := fun q => Gr.cell q K0.y.c0
      have y1 := fun q => Gr.cell q K0.y.c1
      have y2 := fun q => Gr.cell q K0.y.c2
      have y3 := fun q => Gr.cell q K0.y.c3
      have y4 := fun q => Gr.cell q K0.y.c4
      simp only [Ty.k, Ty.l, Ty.h, Ty.e, Ty.ao, Ty.len, Ty.cap] at x0 x1 x2 x3 x4 y0 y1 y2 y3 y4
      have hNE : Nonempty (Gr W0) := ⟨⟨_, Below.refl _ _⟩⟩
      refine wp_region_gr (by kernel_rfl) (by kernel_rfl) ?_
      repeat (first | go_big_quiet_step (fail))
      refine wpQuiet_nil ?_
      rintro w1 ⟨q1, rfl⟩
      have B1 := q1.bl
      generalize q1.w = w1 at B1 ⊢
      clear q1 l0 l1 x0 x1 x2 x3 x4 y0 y1 y2 y3 y4 hNE
      have K1 := K0.step B1
      have HR : Hid (Bx w1 (w.heap.size + 3) (leafT 0 0) ∧ ∀ i, i < 5 → w1.frozen? ⟨w.heap.size + 3, i, none⟩ = false) := ⟨K1.r, K1.fr⟩
      have HB : Hid (Below w.heap.size w (World.put5 w1 (w.heap.size + 3) (.int .i64 0) (.int .i64 0) (.slice none 0 0) (.int .i64 0) (.int .i64 0))) := put5_below (by omega) K1.bl _ _ _ _ _
      clear K0 K1 B1
      go_wp2_with (refine wpList_store5 rfl rfl _ _ rfl (w.heap.size + 3) _ _ _ _ _ rfl rfl rfl rfl rfl rfl rfl HR.out.1 HR.out.2 ?_)
      obtain ⟨e0, e1, e2, e3, e4⟩ := put5_cells (.int .i64 0) (.int .i64 0) (.slice none 0 0) (.int .i64 0) (.int .i64 0) HR.out.1 HR.out.2
      exact bodyPost_ret (v := .tuple #[.agg #[.int .i64 0, .int .i64 0, .slice none 0 0, .int .i64 0, .int .i64 0], .bool false]) (by simp [results, Tryz.results126, go_sem, e0, e1, e2, e3, e4]) rfl (BP.no HK.out HB.out)
end Go.Proofs.YtepgdkigncjalaaGreat
