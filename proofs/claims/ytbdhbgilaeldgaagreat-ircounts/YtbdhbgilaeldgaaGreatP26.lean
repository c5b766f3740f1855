/- Layer 10: the shape of nodes. -/
import Derived.Test.YtbdhbgilaeldgaaGreatP25
namespace Go.Proofs.YtbdhbgilaeldgaaGreat
open Go Go.RowKit

structure Tv (w : World) (n : Strs) (g : Grid) (many : Int) (f : Fc) (BN : Nat) (nd : Nd) (u : World) : Prop where
  bl : Below w.heap.size w u
  H : Blk u w.heap.size (shV n g many f) 64
  N : Blk u BN nd.vs 44
theorem Tv.kept {w : World} {n : Strs} {g : Grid} {many : Int} {f : Fc} {BN : Nat} {nd : Nd} {u u' : World} (h : Tv w n g many f BN nd u) (hb : Below u.heap.size u u') : Tv w n g many f BN nd u' := ⟨Below.next h.bl hb, h.H.kept hb, h.N.kept hb⟩
set_option maxRecDepth 100000 in
set_option maxHeartbeats 16000000 in
theorem nodes_list (n : Strs) (g : Grid) (many : Int) (f : Fc) (b : Ns) (ih : ∀ i, i < b.len → NodesC n g many f (b.ps i).bd ∧ NodesC n g many f (b.ps i).el) : NodesC n g many f b := by
  intro w hn hg hb
  have B0 := below_alloc w (.cells (shV n g many f).toArray 64)
  have HI := hid (show Below w.heap.size w (w.alloc (.cells (shV n g many f).toArray 64)) ∧ Blk (w.alloc (.cells (shV n g many f).toArray 64)) w.heap.size (shV n g many f) 64 from ⟨B0, Blk.new w _ _⟩)
  have HH := hid (show n.At w ∧ g.At w ∧ b.At w ∧ (∀ i, i < b.len → NodesC n g many f (b.ps i).bd ∧ NodesC n g many f (b.ps i).el) from ⟨hn, hg, hb, ih⟩)
  have HG : Hid (b.shp n g many f.slots.len = decide (∀ i, i < b.len → (b.ps i).shp n g many f.slots.len = true)) := by show _ = _; rfl
  have hnil : 0 < b.len → b.ao = some ⟨b.b, b.o, none⟩ := hb.nil
  have hbd : b.len ≤ 9223372036854775807 := hb.bound
  clear ih hn hg hb B0
  generalize b.shp n g many f.slots.len = R at *
  generalize hlen : b.len = len at *
  have HL : Hid (b.len = len) := hlen
  clear hlen
  generalize b.ao = ao at *
  generalize b.cap = cap at *
  go_enter Tryz.func45, Tryz.ntmps45
  go_wp2
  go_loopw [9] (fun i wr => ∃ (k : Nat), k ≤ len ∧ i = .int .i64 k ∧ (∀ i, i < k → (b.ps i).shp n g many f.slots.len = true) ∧ Below w.heap.size w wr ∧ Blk wr w.heap.size (shV n g many f) 64) (fun i _ => len - (intOf i).toNat)
  case atStart => exact ⟨0, Nat.zero_le _, rfl, fun i hi => absurd hi (Nat.not_lt_zero _), HI.out⟩
  case round =>
    clear HI
    obtain ⟨k, hk, rfl, hall, hB⟩ := hrel
    have HA := hid hall
    have HI := hid hB
    clear hall hB
    by_cases hlt : k < len
    · have ij : (k : Int) < len := by omega
      have a0 := hnil (by omega)
      subst a0
      have hlt' : k < b.len := by rw [HL.out]; exact hlt
      have rN : wr.rangeAt b.b (b.o + k * 14) (b.ps k).vs := (HH.out.2.2.1.kept HI.out.1).cells k hlt'
      have HN0 := hid (show (b.ps k).At w ∧ NodesC n g many f (b.ps k).bd ∧ NodesC n g many f (b.ps k).el from ⟨HH.out.2.2.1.part k hlt', HH.out.2.2.2 k hlt⟩)
      have HAs : Hid (∀ x, x = (b.ps k).shp n g many f.slots.len → (x = true → ∀ i, i < k + 1 → (b.ps i).shp n g many f.slots.len = true) ∧ (x = false → R = false)) := by
        intro x hx
        refine ⟨fun h1 i hi => ?_, fun h1 => ?_⟩
        · rcases Nat.lt_or_ge i k with h2 | h2
          · exact HA.out i h2
          · have : i = k := by omega
            subst this; rw [← hx]; exact h1
        · rw [HG.out, decide_eq_false_iff_not]
          intro hh
          have := hh k hlt
          rw [← hx, h1] at this
          cases this
      clear hlt'
      generalize b.ps k = nd at *
      have HE : Hid (nd.shp n g many f.slots.len = shpB n g many f.slots.len nd.h (nd.bd.shp n g many f.slots.len) (nd.el.shp n g many f.slots.len)) := Nd.shp_eq HN0.out.1
      have hN := below_alloc wr (.cells nd.vs.toArray 44)
      have HB := hid (show (Below w.heap.size w (wr.alloc (.cells nd.vs.toArray 44)) ∧ Blk (wr.alloc (.cells nd.vs.toArray 44)) w.heap.size (shV n g many f) 64) ∧ Blk (wr.alloc (.cells nd.vs.toArray 44)) wr.heap.size nd.vs 44 from ⟨⟨Below.next HI.out.1 hN, HI.out.2.kept hN⟩, Blk.new wr _ _⟩)
      clear HI hN
      go_upto_region 4 with (first | (refine wpList_load_mid rfl 44 (.tmp 11) rfl b.b (b.o + k * 14) (by kernel_rfl) nd.vs _ rN Tryz.underlying44 rfl (by kernel_rfl) ?_) | (refine wpList_new_mid rfl rfl 44 rfl (.tmp 6) (.tmp 12) rfl zNv (alloc_nd _) rfl nd.vs.toArray (by kernel_rfl) (by kernel_rfl) rfl (by kernel_rfl) (by simpa using nd.va_one) ?_))
      clear rN
      generalize (wr.alloc (.cells nd.vs.toArray 44)) = w2 at *
      generalize wr.heap.size = BN at *
      simp only [Act.put, List.setIfInBounds_toArray, List.set_cons_succ, List.set_cons_zero]
      have HB0 := hid (show Tv w n g many f BN nd w2 from ⟨HB.out.1.1, HB.out.1.2, HB.out.2⟩)
      clear HB
      go_cut [45] (fun c wx => c = .bool (!(nd.shp n g many f.slots.len)) ∧ Hid (Tv w n g many f BN nd wx))
      case first =>
        have HB := hid (show Tv w n g many f BN nd w2 ∧ True from ⟨HB0.out, trivial⟩)
        have HN := hid (show nd.At w2 ∧ (∀ u, Below w2.heap.size w2 u → Calls Tryz.prog 79 #[.agg (shV n g many f).toArray, .agg nd.vs.toArray] u fun e w' => e = .returned (.bool (needB n g many nd.h (nd.bd.shp n g many f.slots.len) (nd.el.shp n g many f.slots.len))) ∧ Below u.heap.size u w') from ⟨HN0.out.1.kept HB0.out.bl, fun u hu => needed_any n g many f nd u ((HH.out.1.kept HB0.out.bl).kept hu) ((HH.out.2.1.kept HB0.out.bl).kept hu) ((HN0.out.1.kept HB0.out.bl).kept hu) HN0.out.2.1 HN0.out.2.2⟩)
        have hCH : ∀ q, (∃ x : Wd (fun q => Below w2.heap.size w2 q), q = x.w) → q.rangeAt w.heap.size 0 (shV n g many f) := by rintro _ ⟨x, rfl⟩; exact (HB0.out.H.kept x.2).range
        have hCN : ∀ q, (∃ x : Wd (fun q => Below w2.heap.size w2 q), q = x.w) → q.rangeAt BN 0 nd.vs := by rintro _ ⟨x, rfl⟩; exact (HB0.out.N.kept x.2).range
        have p5 : ∀ x : Wd (fun q => Below w2.heap.size w2 q), x.w.cell? ⟨BN, 5, none⟩ = some (.int .i64 nd.h.env) := fun x => (HB0.out.N.kept x.2).cell 5 rfl
        have p1 : ∀ x : Wd (fun q => Below w2.heap.size w2 q), x.w.cell? ⟨BN, 1, none⟩ = some (.int .i64 nd.h.dst) := fun x => (HB0.out.N.kept x.2).cell 1 rfl
        have q0 : ∀ x : Wd (fun q => Below w2.heap.size w2 q), x.w.cell? ⟨w.heap.size, 0, none⟩ = some (.slice n.ao n.len n.cap) := fun x => (HB0.out.H.kept x.2).cell 0 rfl
        have hNE : Nonempty (Wd (fun q => Below w2.heap.size w2 q)) := ⟨⟨_, Below.refl _ _⟩⟩
        refine wp_region_readsMN (fun q => Below w2.heap.size w2 q) [0, 1, 2, 3, 4] 28 (by kernel_rfl) rfl (by kernel_rfl) (hj_of (by kernel_rfl)) ((Below.refl _ _).drew) ?_
        simp only [List.filterMap, List.getElem?_cons_zero, List.getElem?_cons_succ]
        go_big_quiet_step (fail)
        go_big_quiet_step (fail)
        go_big_quiet_step (fail)
        go_big_quiet_step (fail)
        go_big_quiet_step (fail)
        refine wpQuiet_nil ?_
        have HV0 := hid (show Below w2.heap.size w2 w2.drew from (Below.refl _ _).drew)
        generalize w2.drew = v0 at *
        refine wpAnyH_ready (rs := [5]) (by kernel_rfl) (by simp) ?_
        refine AllReadyH.cons rfl (fun K hK => ?_) AllReadyH.nil
        rw [if_pos (by rfl)]
        go_simp
        refine hK.out _ _ HV0.out (fun _ => ?_)
        clear hK K
        refine wpAnyH_ready (rs := [6]) (by kernel_rfl) (by simp) ?_
        refine AllReadyH.cons rfl (fun K hK => ?_) AllReadyH.nil
        rw [if_pos (by rfl)]
        go_simp
        refine (within_any nd.h.env n.len v0).mono ?_
        rintro _ v1 ⟨rfl, hb9⟩
        have HV1 := hid (Below.next HV0.out hb9)
        refine hK.out _ _ HV1.out (fun _ => ?_)
        clear hK K hb9
        generalize hb1 : wthB nd.h.env n.len = b1 at *
        have HB1 := hid hb1
        clear hb1
        cases b1
        · refine wpAnyH_ready (rs := [7]) (by kernel_rfl) (by simp) ?_
          refine AllReadyH.cons rfl (fun K hK => ?_) AllReadyH.nil
          rw [if_pos (by rfl)]
          go_simp
          refine hK.out _ _ HV1.out (fun _ => ?_)
          clear hK K
          refine wpAnyH_ready (rs := [8]) (by kernel_rfl) (by simp) ?_
          refine AllReadyH.cons rfl (fun K hK => ?_) AllReadyH.nil
          rw [if_pos (by rfl)]
          go_simp
          refine hK.out _ _ HV1.out (fun _ => ?_)
          clear hK K
          refine wpAnyH_readsN [9, 10] (rest := 22) rfl (by kernel_rfl) (by kernel_rfl) HV1.out ?_
          simp only [List.filterMap, List.getElem?_cons_zero, List.getElem?_cons_succ]
          go_big_quiet_step (fail)
          go_big_quiet_step (fail)
          refine wpQuiet_nil ?_
          refine wpAnyH_ready (rs := [11]) (by kernel_rfl) (by simp) ?_
          refine AllReadyH.cons rfl (fun K hK => ?_) AllReadyH.nil
          rw [if_neg (unwanted (by kernel_rfl))]
          refine hK.out _ _ HV1.out (fun _ => ?_)
          clear hK K
          refine wpAnyH_ready (rs := [12]) (by kernel_rfl) (by simp) ?_
          refine AllReadyH.cons rfl (fun K hK => ?_) AllReadyH.nil
          rw [if_neg (unwanted (by kernel_rfl))]
          refine hK.out _ _ HV1.out (fun _ => ?_)
          clear hK K
          refine wpAnyH_ready (rs := [13]) (by kernel_rfl) (by simp) ?_
          refine AllReadyH.cons rfl (fun K hK => ?_) AllReadyH.nil
          rw [if_neg (unwanted (by kernel_rfl))]
          refine hK.out _ _ HV1.out (fun _ => ?_)
          clear hK K
          refine wpAnyH_ready (rs := [14]) (by kernel_rfl) (by simp) ?_
          refine AllReadyH.cons rfl (fun K hK => ?_) AllReadyH.nil
          rw [if_pos (by rfl)]
          go_simp
          refine hK.out _ _ HV1.out (fun _ => ?_)
          clear hK K
          refine wpAnyH_ready (rs := [15]) (by kernel_rfl) (by simp) ?_
          refine AllReadyH.cons rfl (fun K hK => ?_) AllReadyH.nil
          rw [if_pos (by rfl)]
          go_simp
          refine hK.out _ _ HV1.out (fun _ => ?_)
          clear hK K
          refine wpAnyH_readsN [16] (rest := 16) rfl (by kernel_rfl) (by kernel_rfl) HV1.out ?_
          simp only [List.filterMap, List.getElem?_cons_zero, List.getElem?_cons_succ]
          go_big_quiet_step (fail)
          refine wpQuiet_nil ?_
          refine wpAnyH_ready (rs := [17]) (by kernel_rfl) (by simp) ?_
          refine AllReadyH.cons rfl (fun K hK => ?_) AllReadyH.nil
          rw [if_neg (unwanted (by kernel_rfl))]
          refine hK.out _ _ HV1.out (fun _ => ?_)
          clear hK K
          refine wpAnyH_ready (rs := [18]) (by kernel_rfl) (by simp) ?_
          refine AllReadyH.cons rfl (fun K hK => ?_) AllReadyH.nil
          rw [if_neg (unwanted (by kernel_rfl))]
          refine hK.out _ _ HV1.out (fun _ => ?_)
          clear hK K
          simp only [Act.put, List.getElem_toArray, List.getElem_cons_zero, List.getElem_cons_succ, List.setIfInBounds_toArray, List.set_cons_succ, List.set_cons_zero]
          refine wpAnyH_readsN [19, 20, 21] (rest := 11) rfl (by kernel_rfl) (by kernel_rfl) HV1.out ?_
          simp only [List.filterMap, List.getElem?_cons_zero, List.getElem?_cons_succ]
          go_big_quiet_step (fail)
          go_big_quiet_step (fail)
          go_big_quiet_step (fail)
          refine wpQuiet_nil ?_
          refine wpAnyH_ready (rs := [22]) (by kernel_rfl) (by simp) ?_
          refine AllReadyH.cons rfl (fun K hK => ?_) AllReadyH.nil
          rw [if_neg (unwanted (by kernel_rfl))]
          refine hK.out _ _ HV1.out (fun _ => ?_)
          clear hK K
          refine wpAnyH_ready (rs := [23]) (by kernel_rfl) (by simp) ?_
          refine AllReadyH.cons rfl (fun K hK => ?_) AllReadyH.nil
          rw [if_neg (unwanted (by kernel_rfl))]
          refine hK.out _ _ HV1.out (fun _ => ?_)
          clear hK K
          refine wpAnyH_ready (rs := [24]) (by kernel_rfl) (by simp) ?_
          refine AllReadyH.cons rfl (fun K hK => ?_) AllReadyH.nil
          rw [if_neg (unwanted (by kernel_rfl))]
          refine hK.out _ _ HV1.out (fun _ => ?_)
          clear hK K
          refine wpAnyH_ready (rs := [25]) (by kernel_rfl) (by simp) ?_
          refine AllReadyH.cons rfl (fun K hK => ?_) AllReadyH.nil
          rw [if_neg (unwanted (by kernel_rfl))]
          refine hK.out _ _ HV1.out (fun _ => ?_)
          clear hK K
          refine wpAnyH_ready (rs := [26]) (by kernel_rfl) (by simp) ?_
          refine AllReadyH.cons rfl (fun K hK => ?_) AllReadyH.nil
          rw [if_pos (by rfl)]
          go_simp
          refine hK.out _ _ HV1.out (fun _ => ?_)
          clear hK K
          refine wpAnyH_ready (rs := [27]) (by kernel_rfl) (by simp) ?_
          refine AllReadyH.cons rfl (fun K hK => ?_) AllReadyH.nil
          rw [if_pos (by rfl)]
          go_simp
          refine hK.out _ _ HV1.out (fun _ => ?_)
          clear hK K
          refine wpAnyH_readsN [28, 29] (rest := 3) rfl (by kernel_rfl) (by kernel_rfl) HV1.out ?_
          simp only [List.filterMap, List.getElem?_cons_zero, List.getElem?_cons_succ]
          go_big_quiet_step (fail)
          go_big_quiet_step (fail)
          refine wpQuiet_nil ?_
          refine wpAnyH_ready (rs := [30]) (by kernel_rfl) (by simp) ?_
          refine AllReadyH.cons rfl (fun K hK => ?_) AllReadyH.nil
          rw [if_neg (unwanted (by kernel_rfl))]
          refine hK.out _ _ HV1.out (fun _ => ?_)
          clear hK K
          refine wpAnyH_ready (rs := [31]) (by kernel_rfl) (by simp) ?_
          refine AllReadyH.cons rfl (fun K hK => ?_) AllReadyH.nil
          rw [if_neg (unwanted (by kernel_rfl))]
          refine hK.out _ _ HV1.out (fun _ => ?_)
          clear hK K
          refine wpAnyH_ready (rs := [32]) (by kernel_rfl) (by simp) ?_
          refine AllReadyH.cons rfl (fun K hK => ?_) AllReadyH.nil
          rw [if_pos (by rfl)]
          go_simp
          refine hK.out _ _ HV1.out (fun _ => ?_)
          clear hK K
          refine wpAnyH_done (by kernel_rfl) ?_ _
          refine ⟨(fun c hc => by cases hc), ?_⟩
          go_wp2
          go_meet
          case rel => exact ⟨by rw [HE.out]; unfold shpB; rw [HB1.out]; rfl, HB.out.1.kept HV1.out⟩
        · refine wpAnyH_ready (rs := [7]) (by kernel_rfl) (by simp) ?_
          refine AllReadyH.cons rfl (fun K hK => ?_) AllReadyH.nil
          rw [if_pos (by rfl)]
          go_simp
          refine hK.out _ _ HV1.out (fun _ => ?_)
          clear hK K
          refine wpAnyH_ready (rs := [8]) (by kernel_rfl) (by simp) ?_
          refine AllReadyH.cons rfl (fun K hK => ?_) AllReadyH.nil
          rw [if_pos (by rfl)]
          go_simp
          refine hK.out _ _ HV1.out (fun _ => ?_)
          clear hK K
          refine wpAnyH_readsN [9, 10] (rest := 22) rfl (by kernel_rfl) (by kernel_rfl) HV1.out ?_
          simp only [List.filterMap, List.getElem?_cons_zero, List.getElem?_cons_succ]
          go_big_quiet_want
          refine quiet_load_row 64 (.tmp 2) rfl _ 0 (by kernel_rfl) (shV n g many f) _ hCH Tryz.underlying64 rfl (by kernel_rfl) ?_
          simp only [Act.put, List.setIfInBounds_toArray, List.set_cons_succ, List.set_cons_zero]
          go_big_quiet_on
          go_big_quiet_want
          refine quiet_load_row 44 (.tmp 6) rfl _ 0 (by kernel_rfl) nd.vs _ hCN Tryz.underlying44 rfl (by kernel_rfl) ?_
          simp only [Act.put, List.setIfInBounds_toArray, List.set_cons_succ, List.set_cons_zero]
          go_big_quiet_on
          refine wpQuiet_nil ?_
          refine wpAnyH_ready (rs := [11]) (by kernel_rfl) (by simp) ?_
          refine AllReadyH.cons rfl (fun K hK => ?_) AllReadyH.nil
          rw [if_pos (by rfl)]
          go_simp
          refine (reads_any nd v1 (HN.out.1.kept HV1.out)).mono ?_
          rintro _ v2 ⟨rv, rfl, hrv, hb9⟩
          have HV2 := hid (Below.next HV1.out hb9)
          have HRV := hid hrv
          refine hK.out _ _ HV2.out (fun _ => ?_)
          clear hK K hb9 hrv
          refine wpAnyH_ready (rs := [12]) (by kernel_rfl) (by simp) ?_
          refine AllReadyH.cons rfl (fun K hK => ?_) AllReadyH.nil
          rw [if_pos (by rfl)]
          go_simp
          refine (slots_any n g many f nd.h.rds rv v2 HRV.out).mono ?_
          rintro _ v3 ⟨rfl, hb9⟩
          have HV3 := hid (Below.next HV2.out hb9)
          refine hK.out _ _ HV3.out (fun _ => ?_)
          clear hK K hb9
          generalize hb2 : slotsB f.slots.len nd.h.rds = b2 at *
          have HB2 := hid hb2
          clear hb2
          cases b2
          · refine wpAnyH_ready (rs := [13]) (by kernel_rfl) (by simp) ?_
            refine AllReadyH.cons rfl (fun K hK => ?_) AllReadyH.nil
            rw [if_pos (by rfl)]
            go_simp
            refine hK.out _ _ HV3.out (fun _ => ?_)
            clear hK K
            refine wpAnyH_ready (rs := [14]) (by kernel_rfl) (by simp) ?_
            refine AllReadyH.cons rfl (fun K hK => ?_) AllReadyH.nil
            rw [if_pos (by rfl)]
            go_simp
            refine hK.out _ _ HV3.out (fun _ => ?_)
            clear hK K
            refine wpAnyH_ready (rs := [15]) (by kernel_rfl) (by simp) ?_
            refine AllReadyH.cons rfl (fun K hK => ?_) AllReadyH.nil
            rw [if_pos (by rfl)]
            go_simp
            refine hK.out _ _ HV3.out (fun _ => ?_)
            clear hK K
            refine wpAnyH_readsN [16] (rest := 16) rfl (by kernel_rfl) (by kernel_rfl) HV3.out ?_
            simp only [List.filterMap, List.getElem?_cons_zero, List.getElem?_cons_succ]
            go_big_quiet_step (fail)
            refine wpQuiet_nil ?_
            refine wpAnyH_ready (rs := [17]) (by kernel_rfl) (by simp) ?_
            refine AllReadyH.cons rfl (fun K hK => ?_) AllReadyH.nil
            rw [if_neg (unwanted (by kernel_rfl))]
            refine hK.out _ _ HV3.out (fun _ => ?_)
            clear hK K
            refine wpAnyH_ready (rs := [18]) (by kernel_rfl) (by simp) ?_
            refine AllReadyH.cons rfl (fun K hK => ?_) AllReadyH.nil
            rw [if_neg (unwanted (by kernel_rfl))]
            refine hK.out _ _ HV3.out (fun _ => ?_)
            clear hK K
            simp only [Act.put, List.getElem_toArray, List.getElem_cons_zero, List.getElem_cons_succ, List.setIfInBounds_toArray, List.set_cons_succ, List.set_cons_zero]
            refine wpAnyH_readsN [19, 20, 21] (rest := 11) rfl (by kernel_rfl) (by kernel_rfl) HV3.out ?_
            simp only [List.filterMap, List.getElem?_cons_zero, List.getElem?_cons_succ]
            go_big_quiet_step (fail)
            go_big_quiet_step (fail)
            go_big_quiet_step (fail)
            refine wpQuiet_nil ?_
            refine wpAnyH_ready (rs := [22]) (by kernel_rfl) (by simp) ?_
            refine AllReadyH.cons rfl (fun K hK => ?_) AllReadyH.nil
            rw [if_neg (unwanted (by kernel_rfl))]
            refine hK.out _ _ HV3.out (fun _ => ?_)
            clear hK K
            refine wpAnyH_ready (rs := [23]) (by kernel_rfl) (by simp) ?_
            refine AllReadyH.cons rfl (fun K hK => ?_) AllReadyH.nil
            rw [if_neg (unwanted (by kernel_rfl))]
            refine hK.out _ _ HV3.out (fun _ => ?_)
            clear hK K
            refine wpAnyH_ready (rs := [24]) (by kernel_rfl) (by simp) ?_
            refine AllReadyH.cons rfl (fun K hK => ?_) AllReadyH.nil
            rw [if_neg (unwanted (by kernel_rfl))]
            refine hK.out _ _ HV3.out (fun _ => ?_)
            clear hK K
            refine wpAnyH_ready (rs := [25]) (by kernel_rfl) (by simp) ?_
            refine AllReadyH.cons rfl (fun K hK => ?_) AllReadyH.nil
            rw [if_neg (unwanted (by kernel_rfl))]
            refine hK.out _ _ HV3.out (fun _ => ?_)
            clear hK K
            refine wpAnyH_ready (rs := [26]) (by kernel_rfl) (by simp) ?_
            refine AllReadyH.cons rfl (fun K hK => ?_) AllReadyH.nil
            rw [if_pos (by rfl)]
            go_simp
            refine hK.out _ _ HV3.out (fun _ => ?_)
            clear hK K
            refine wpAnyH_ready (rs := [27]) (by kernel_rfl) (by simp) ?_
            refine AllReadyH.cons rfl (fun K hK => ?_) AllReadyH.nil
            rw [if_pos (by rfl)]
            go_simp
            refine hK.out _ _ HV3.out (fun _ => ?_)
            clear hK K
            refine wpAnyH_readsN [28, 29] (rest := 3) rfl (by kernel_rfl) (by kernel_rfl) HV3.out ?_
            simp only [List.filterMap, List.getElem?_cons_zero, List.getElem?_cons_succ]
            go_big_quiet_step (fail)
            go_big_quiet_step (fail)
            refine wpQuiet_nil ?_
            refine wpAnyH_ready (rs := [30]) (by kernel_rfl) (by simp) ?_
            refine AllReadyH.cons rfl (fun K hK => ?_) AllReadyH.nil
            rw [if_neg (unwanted (by kernel_rfl))]
            refine hK.out _ _ HV3.out (fun _ => ?_)
            clear hK K
            refine wpAnyH_ready (rs := [31]) (by kernel_rfl) (by simp) ?_
            refine AllReadyH.cons rfl (fun K hK => ?_) AllReadyH.nil
            rw [if_neg (unwanted (by kernel_rfl))]
            refine hK.out _ _ HV3.out (fun _ => ?_)
            clear hK K
            refine wpAnyH_ready (rs := [32]) (by kernel_rfl) (by simp) ?_
            refine AllReadyH.cons rfl (fun K hK => ?_) AllReadyH.nil
            rw [if_pos (by rfl)]
            go_simp
            refine hK.out _ _ HV3.out (fun _ => ?_)
            clear hK K
            refine wpAnyH_done (by kernel_rfl) ?_ _
            refine ⟨(fun c hc => by cases hc), ?_⟩
            go_wp2
            go_meet
            case rel => exact ⟨by rw [HE.out]; unfold shpB; rw [HB1.out, HB2.out]; rfl, HB.out.1.kept HV3.out⟩
          · refine wpAnyH_ready (rs := [13]) (by kernel_rfl) (by simp) ?_
            refine AllReadyH.cons rfl (fun K hK => ?_) AllReadyH.nil
            rw [if_pos (by rfl)]
            go_simp
            refine hK.out _ _ HV3.out (fun _ => ?_)
            clear hK K
            refine wpAnyH_ready (rs := [14]) (by kernel_rfl) (by simp) ?_
            refine AllReadyH.cons rfl (fun K hK => ?_) AllReadyH.nil
            rw [if_pos (by rfl)]
            go_simp
            refine hK.out _ _ HV3.out (fun _ => ?_)
            clear hK K
            refine wpAnyH_ready (rs := [15]) (by kernel_rfl) (by simp) ?_
            refine AllReadyH.cons rfl (fun K hK => ?_) AllReadyH.nil
            rw [if_pos (by rfl)]
            go_simp
            refine hK.out _ _ HV3.out (fun _ => ?_)
            clear hK K
            refine wpAnyH_readsN [16] (rest := 16) rfl (by kernel_rfl) (by kernel_rfl) HV3.out ?_
            simp only [List.filterMap, List.getElem?_cons_zero, List.getElem?_cons_succ]
            go_big_quiet_want
            refine quiet_load_row 44 (.tmp 6) rfl _ 0 (by kernel_rfl) nd.vs _ hCN Tryz.underlying44 rfl (by kernel_rfl) ?_
            simp only [Act.put, List.setIfInBounds_toArray, List.set_cons_succ, List.set_cons_zero]
            go_big_quiet_on
            refine wpQuiet_nil ?_
            refine wpAnyH_ready (rs := [17]) (by kernel_rfl) (by simp) ?_
            refine AllReadyH.cons rfl (fun K hK => ?_) AllReadyH.nil
            rw [if_pos (by rfl)]
            go_simp
            refine (writes_any nd v3).mono ?_
            rintro _ v4 ⟨rfl, hb9⟩
            have HV4 := hid (Below.next HV3.out hb9)
            refine hK.out _ _ HV4.out (fun _ => ?_)
            clear hK K hb9
            generalize hb3 : nd.h.wrs = b3 at *
            have HB3 := hid hb3
            clear hb3
            cases b3
            · refine wpAnyH_ready (rs := [18]) (by kernel_rfl) (by simp) ?_
              refine AllReadyH.cons rfl (fun K hK => ?_) AllReadyH.nil
              rw [if_pos (by rfl)]
              go_simp
              refine hK.out _ _ HV4.out (fun _ => ?_)
              clear hK K
              refine wpAnyH_readsN [19, 20, 21] (rest := 11) rfl (by kernel_rfl) (by kernel_rfl) HV4.out ?_
              simp only [List.filterMap, List.getElem?_cons_zero, List.getElem?_cons_succ]
              go_big_quiet_step (fail)
              go_big_quiet_step (fail)
              go_big_quiet_step (fail)
              refine wpQuiet_nil ?_
              refine wpAnyH_ready (rs := [22]) (by kernel_rfl) (by simp) ?_
              refine AllReadyH.cons rfl (fun K hK => ?_) AllReadyH.nil
              rw [if_neg (unwanted (by kernel_rfl))]
              refine hK.out _ _ HV4.out (fun _ => ?_)
              clear hK K
              refine wpAnyH_ready (rs := [23]) (by kernel_rfl) (by simp) ?_
              refine AllReadyH.cons rfl (fun K hK => ?_) AllReadyH.nil
              rw [if_neg (unwanted (by kernel_rfl))]
              refine hK.out _ _ HV4.out (fun _ => ?_)
              clear hK K
              refine wpAnyH_ready (rs := [24]) (by kernel_rfl) (by simp) ?_
              refine AllReadyH.cons rfl (fun K hK => ?_) AllReadyH.nil
              rw [if_neg (unwanted (by kernel_rfl))]
              refine hK.out _ _ HV4.out (fun _ => ?_)
              clear hK K
              refine wpAnyH_ready (rs := [25]) (by kernel_rfl) (by simp) ?_
              refine AllReadyH.cons rfl (fun K hK => ?_) AllReadyH.nil
              rw [if_pos (by rfl)]
              go_simp
              refine hK.out _ _ HV4.out (fun _ => ?_)
              clear hK K
              refine wpAnyH_ready (rs := [26]) (by kernel_rfl) (by simp) ?_
              refine AllReadyH.cons rfl (fun K hK => ?_) AllReadyH.nil
              rw [if_pos (by rfl)]
              go_simp
              refine hK.out _ _ HV4.out (fun _ => ?_)
              clear hK K
              refine wpAnyH_ready (rs := [27]) (by kernel_rfl) (by simp) ?_
              refine AllReadyH.cons rfl (fun K hK => ?_) AllReadyH.nil
              rw [if_pos (by rfl)]
              go_simp
              refine hK.out _ _ HV4.out (fun _ => ?_)
              clear hK K
              refine wpAnyH_readsN [28, 29] (rest := 3) rfl (by kernel_rfl) (by kernel_rfl) HV4.out ?_
              simp only [List.filterMap, List.getElem?_cons_zero, List.getElem?_cons_succ]
              go_big_quiet_want
              refine quiet_load_row 64 (.tmp 2) rfl _ 0 (by kernel_rfl) (shV n g many f) _ hCH Tryz.underlying64 rfl (by kernel_rfl) ?_
              simp only [Act.put, List.setIfInBounds_toArray, List.set_cons_succ, List.set_cons_zero]
              go_big_quiet_on
              go_big_quiet_want
              refine quiet_load_row 44 (.tmp 6) rfl _ 0 (by kernel_rfl) nd.vs _ hCN Tryz.underlying44 rfl (by kernel_rfl) ?_
              simp only [Act.put, List.setIfInBounds_toArray, List.set_cons_succ, List.set_cons_zero]
              go_big_quiet_on
              refine wpQuiet_nil ?_
              refine wpAnyH_ready (rs := [30]) (by kernel_rfl) (by simp) ?_
              refine AllReadyH.cons rfl (fun K hK => ?_) AllReadyH.nil
              rw [if_pos (by rfl)]
              go_simp
              refine (HN.out.2 v4 HV4.out).mono ?_
              rintro _ v5 ⟨rfl, hb9⟩
              have HV5 := hid (Below.next HV4.out hb9)
              refine hK.out _ _ HV5.out (fun _ => ?_)
              clear hK K hb9
              generalize hb5 : needB n g many nd.h (nd.bd.shp n g many f.slots.len) (nd.el.shp n g many f.slots.len) = b5 at *
              have HB5 := hid hb5
              clear hb5
              cases b5
              · refine wpAnyH_ready (rs := [31]) (by kernel_rfl) (by simp) ?_
                refine AllReadyH.cons rfl (fun K hK => ?_) AllReadyH.nil
                rw [if_pos (by rfl)]
                go_simp
                refine hK.out _ _ HV5.out (fun _ => ?_)
                clear hK K
                refine wpAnyH_ready (rs := [32]) (by kernel_rfl) (by simp) ?_
                refine AllReadyH.cons rfl (fun K hK => ?_) AllReadyH.nil
                rw [if_pos (by rfl)]
                go_simp
                refine hK.out _ _ HV5.out (fun _ => ?_)
                clear hK K
                refine wpAnyH_done (by kernel_rfl) ?_ _
                refine ⟨(fun c hc => by cases hc), ?_⟩
                go_wp2
                go_meet
                case rel => exact ⟨by rw [HE.out]; unfold shpB; rw [HB1.out, HB2.out, HB3.out, HB5.out]; rfl, HB.out.1.kept HV5.out⟩
              · refine wpAnyH_ready (rs := [31]) (by kernel_rfl) (by simp) ?_
                refine AllReadyH.cons rfl (fun K hK => ?_) AllReadyH.nil
                rw [if_pos (by rfl)]
                go_simp
                refine hK.out _ _ HV5.out (fun _ => ?_)
                clear hK K
                refine wpAnyH_ready (rs := [32]) (by kernel_rfl) (by simp) ?_
                refine AllReadyH.cons rfl (fun K hK => ?_) AllReadyH.nil
                rw [if_pos (by rfl)]
                go_simp
                refine hK.out _ _ HV5.out (fun _ => ?_)
                clear hK K
                refine wpAnyH_done (by kernel_rfl) ?_ _
                refine ⟨(fun c hc => by cases hc), ?_⟩
                go_wp2
                go_meet
                case rel => exact ⟨by rw [HE.out]; unfold shpB; rw [HB1.out, HB2.out, HB3.out, HB5.out]; rfl, HB.out.1.kept HV5.out⟩
            · refine wpAnyH_ready (rs := [18]) (by kernel_rfl) (by simp) ?_
              refine AllReadyH.cons rfl (fun K hK => ?_) AllReadyH.nil
              rw [if_pos (by rfl)]
              go_simp
              refine hK.out _ _ HV4.out (fun _ => ?_)
              clear hK K
              refine wpAnyH_readsN [19, 20, 21] (rest := 11) rfl (by kernel_rfl) (by kernel_rfl) HV4.out ?_
              simp only [List.filterMap, List.getElem?_cons_zero, List.getElem?_cons_succ]
              go_big_quiet_want
              refine quiet_load_row 64 (.tmp 2) rfl _ 0 (by kernel_rfl) (shV n g many f) _ hCH Tryz.underlying64 rfl (by kernel_rfl) ?_
              simp only [Act.put, List.setIfInBounds_toArray, List.set_cons_succ, List.set_cons_zero]
              go_big_quiet_on
              go_big_quiet_step (fail)
              go_big_quiet_step (fail)
              refine wpQuiet_nil ?_
              refine wpAnyH_ready (rs := [22]) (by kernel_rfl) (by simp) ?_
              refine AllReadyH.cons rfl (fun K hK => ?_) AllReadyH.nil
              rw [if_pos (by rfl)]
              have hrn := run_int1 nd.h.dst v4
              have hb9 := below_alloc v4 (.cells #[.int .i64 nd.h.dst] 3)
              have HLL := hid (IAt.blk (l := [nd.h.dst]) (Blk.new v4 [.int .i64 nd.h.dst] 3) (by simp))
              have HV6 := hid (Below.next HV4.out hb9)
              refine wp_sliceI 42 1 #[(0, .tmp 34)] rfl #[(0, .int .i64 nd.h.dst)] (by kernel_rfl) hrn ?_
              refine hK.out _ _ HV6.out (fun _ => ?_)
              clear hK K hb9 hrn
              generalize (v4.alloc (.cells #[.int .i64 nd.h.dst] 3)) = v6 at *
              refine wpAnyH_ready (rs := [23]) (by kernel_rfl) (by simp) ?_
              refine AllReadyH.cons rfl (fun K hK => ?_) AllReadyH.nil
              rw [if_pos (by rfl)]
              go_simp
              refine (slots_any n g many f [nd.h.dst] _ v6 HLL.out).mono ?_
              rintro _ v7 ⟨rfl, hb9⟩
              have HV7 := hid (Below.next HV6.out hb9)
              refine hK.out _ _ HV7.out (fun _ => ?_)
              clear hK K hb9
              generalize hb4 : slotsB f.slots.len [nd.h.dst] = b4 at *
              have HB4 := hid hb4
              clear hb4
              cases b4
              · refine wpAnyH_ready (rs := [24]) (by kernel_rfl) (by simp) ?_
                refine AllReadyH.cons rfl (fun K hK => ?_) AllReadyH.nil
                rw [if_pos (by rfl)]
                go_simp
                refine hK.out _ _ HV7.out (fun _ => ?_)
                clear hK K
                refine wpAnyH_ready (rs := [25]) (by kernel_rfl) (by simp) ?_
                refine AllReadyH.cons rfl (fun K hK => ?_) AllReadyH.nil
                rw [if_pos (by rfl)]
                go_simp
                refine hK.out _ _ HV7.out (fun _ => ?_)
                clear hK K
                refine wpAnyH_ready (rs := [26]) (by kernel_rfl) (by simp) ?_
                refine AllReadyH.cons rfl (fun K hK => ?_) AllReadyH.nil
                rw [if_pos (by rfl)]
                go_simp
                refine hK.out _ _ HV7.out (fun _ => ?_)
                clear hK K
                refine wpAnyH_ready (rs := [27]) (by kernel_rfl) (by simp) ?_
                refine AllReadyH.cons rfl (fun K hK => ?_) AllReadyH.nil
                rw [if_pos (by rfl)]
                go_simp
                refine hK.out _ _ HV7.out (fun _ => ?_)
                clear hK K
                refine wpAnyH_readsN [28, 29] (rest := 3) rfl (by kernel_rfl) (by kernel_rfl) HV7.out ?_
                simp only [List.filterMap, List.getElem?_cons_zero, List.getElem?_cons_succ]
                go_big_quiet_step (fail)
                go_big_quiet_step (fail)
                refine wpQuiet_nil ?_
                refine wpAnyH_ready (rs := [30]) (by kernel_rfl) (by simp) ?_
                refine AllReadyH.cons rfl (fun K hK => ?_) AllReadyH.nil
                rw [if_neg (unwanted (by kernel_rfl))]
                refine hK.out _ _ HV7.out (fun _ => ?_)
                clear hK K
                refine wpAnyH_ready (rs := [31]) (by kernel_rfl) (by simp) ?_
                refine AllReadyH.cons rfl (fun K hK => ?_) AllReadyH.nil
                rw [if_neg (unwanted (by kernel_rfl))]
                refine hK.out _ _ HV7.out (fun _ => ?_)
                clear hK K
                refine wpAnyH_ready (rs := [32]) (by kernel_rfl) (by simp) ?_
                refine AllReadyH.cons rfl (fun K hK => ?_) AllReadyH.nil
                rw [if_pos (by rfl)]
                go_simp
                refine hK.out _ _ HV7.out (fun _ => ?_)
                clear hK K
                refine wpAnyH_done (by kernel_rfl) ?_ _
                refine ⟨(fun c hc => by cases hc), ?_⟩
                go_wp2
                go_meet
                case rel => exact ⟨by rw [HE.out]; unfold shpB; rw [HB1.out, HB2.out, HB3.out, HB4.out]; rfl, HB.out.1.kept HV7.out⟩
              · refine wpAnyH_ready (rs := [24]) (by kernel_rfl) (by simp) ?_
                refine AllReadyH.cons rfl (fun K hK => ?_) AllReadyH.nil
                rw [if_pos (by rfl)]
                go_simp
                refine hK.out _ _ HV7.out (fun _ => ?_)
                clear hK K
                refine wpAnyH_ready (rs := [25]) (by kernel_rfl) (by simp) ?_
                refine AllReadyH.cons rfl (fun K hK => ?_) AllReadyH.nil
                rw [if_pos (by rfl)]
                go_simp
                refine hK.out _ _ HV7.out (fun _ => ?_)
                clear hK K
                refine wpAnyH_ready (rs := [26]) (by kernel_rfl) (by simp) ?_
                refine AllReadyH.cons rfl (fun K hK => ?_) AllReadyH.nil
                rw [if_pos (by rfl)]
                go_simp
                refine hK.out _ _ HV7.out (fun _ => ?_)
                clear hK K
                refine wpAnyH_ready (rs := [27]) (by kernel_rfl) (by simp) ?_
                refine AllReadyH.cons rfl (fun K hK => ?_) AllReadyH.nil
                rw [if_pos (by rfl)]
                go_simp
                refine hK.out _ _ HV7.out (fun _ => ?_)
                clear hK K
                refine wpAnyH_readsN [28, 29] (rest := 3) rfl (by kernel_rfl) (by kernel_rfl) HV7.out ?_
                simp only [List.filterMap, List.getElem?_cons_zero, List.getElem?_cons_succ]
                go_big_quiet_want
                refine quiet_load_row 64 (.tmp 2) rfl _ 0 (by kernel_rfl) (shV n g many f) _ hCH Tryz.underlying64 rfl (by kernel_rfl) ?_
                simp only [Act.put, List.setIfInBounds_toArray, List.set_cons_succ, List.set_cons_zero]
                go_big_quiet_on
                go_big_quiet_want
                refine quiet_load_row 44 (.tmp 6) rfl _ 0 (by kernel_rfl) nd.vs _ hCN Tryz.underlying44 rfl (by kernel_rfl) ?_
                simp only [Act.put, List.setIfInBounds_toArray, List.set_cons_succ, List.set_cons_zero]
                go_big_quiet_on
                refine wpQuiet_nil ?_
                refine wpAnyH_ready (rs := [30]) (by kernel_rfl) (by simp) ?_
                refine AllReadyH.cons rfl (fun K hK => ?_) AllReadyH.nil
                rw [if_pos (by rfl)]
                go_simp
                refine (HN.out.2 v7 HV7.out).mono ?_
                rintro _ v8 ⟨rfl, hb9⟩
                have HV8 := hid (Below.next HV7.out hb9)
                refine hK.out _ _ HV8.out (fun _ => ?_)
                clear hK K hb9
                generalize hb5 : needB n g many nd.h (nd.bd.shp n g many f.slots.len) (nd.el.shp n g many f.slots.len) = b5 at *
                have HB5 := hid hb5
                clear hb5
                cases b5
                · refine wpAnyH_ready (rs := [31]) (by kernel_rfl) (by simp) ?_
                  refine AllReadyH.cons rfl (fun K hK => ?_) AllReadyH.nil
                  rw [if_pos (by rfl)]
                  go_simp
                  refine hK.out _ _ HV8.out (fun _ => ?_)
                  clear hK K
                  refine wpAnyH_ready (rs := [32]) (by kernel_rfl) (by simp) ?_
                  refine AllReadyH.cons rfl (fun K hK => ?_) AllReadyH.nil
                  rw [if_pos (by rfl)]
                  go_simp
                  refine hK.out _ _ HV8.out (fun _ => ?_)
                  clear hK K
                  refine wpAnyH_done (by kernel_rfl) ?_ _
                  refine ⟨(fun c hc => by cases hc), ?_⟩
                  go_wp2
                  go_meet
                  case rel => exact ⟨by rw [HE.out]; unfold shpB; rw [HB1.out, HB2.out, HB3.out, HB4.out, HB5.out]; rfl, HB.out.1.kept HV8.out⟩
                · refine wpAnyH_ready (rs := [31]) (by kernel_rfl) (by simp) ?_
                  refine AllReadyH.cons rfl (fun K hK => ?_) AllReadyH.nil
                  rw [if_pos (by rfl)]
                  go_simp
                  refine hK.out _ _ HV8.out (fun _ => ?_)
                  clear hK K
                  refine wpAnyH_ready (rs := [32]) (by kernel_rfl) (by simp) ?_
                  refine AllReadyH.cons rfl (fun K hK => ?_) AllReadyH.nil
                  rw [if_pos (by rfl)]
                  go_simp
                  refine hK.out _ _ HV8.out (fun _ => ?_)
                  clear hK K
                  refine wpAnyH_done (by kernel_rfl) ?_ _
                  refine ⟨(fun c hc => by cases hc), ?_⟩
                  go_wp2
                  go_meet
                  case rel => exact ⟨by rw [HE.out]; unfold shpB; rw [HB1.out, HB2.out, HB3.out, HB4.out, HB5.out]; rfl, HB.out.1.kept HV8.out⟩
      case rest =>
        obtain ⟨rfl, hI⟩ := hcut
        clear HB0
        have HI := hid hI.out
        have hAs := HAs.out _ rfl
        have HAS := hid hAs
        clear hI hAs HAs HE
        generalize nd.shp n g many f.slots.len = xx at *
        cases xx
        · go_wp2
          go_ret
          exact ⟨ret_bool (HAS.out.2 (by simp)).symm, HI.out.bl⟩
        · go_wp2
          go_roundw
          case rel => exact ⟨k + 1, by omega, by go_num, HAS.out.1 (by simp), HI.out.bl, HI.out.H⟩
          case measure => simp [intOf]; omega
    · have e2 : k = len := by omega
      subst e2
      have d : ¬ (k : Int) < k := by omega
      go_wp2
      go_ret
      exact ⟨ret_bool (by rw [HG.out]; symm; rw [decide_eq_true_eq]; exact HA.out), HI.out.1⟩
theorem nnodes_any (n : Strs) (g : Grid) (many : Int) (f : Fc) : ∀ nd : Nd, NodesC n g many f nd.bd ∧ NodesC n g many f nd.el := by
  intro nd
  induction nd using Nd.ind with
  | h nd ih1 ih2 => exact ⟨nodes_list n g many f _ ih1, nodes_list n g many f _ ih2⟩
theorem nodes_any (n : Strs) (g : Grid) (many : Int) (f : Fc) (b : Ns) : NodesC n g many f b := nodes_list n g many f b fun i _ => nnodes_any n g many f (b.ps i)
end Go.Proofs.YtbdhbgilaeldgaaGreat
