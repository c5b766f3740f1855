/- Layer 3: the walk of the statement ValueAbove. -/
import Derived.Test.YtnkipiegjpjfbaaDoorP18
import Derived.Deep.RegionHeld3
import Derived.Deep.DeepCutAuto
import Derived.Test.YtnkipiegjpjfbaaDoorP2
import Derived.ProofKit
import Derived.Deep.Grids
import Derived.Lib.SmallJoins
import Derived.Test.YtnkipiegjpjfbaaDoorP7
import Derived.Test.YtnkipiegjpjfbaaDoorP17
namespace Go.Proofs.YtnkipiegjpjfbaaDoor
open Go.RowKit

theorem vb_S {w z : World} {n : Strs} {g : Grid} {fs : Fs} {cs : Cs} {s t : Ty} {v u : Vl} (h : VB w z n g fs cs s t v u) : (fun q0 : World => q0.cell? ⟨w.heap.size, 0, none⟩ = some (.slice n.ao n.len n.cap) ∧ q0.cell? ⟨w.heap.size, 1, none⟩ = some (.slice g.ao g.len g.cap) ∧ q0.cell? ⟨w.heap.size, 2, none⟩ = some (.slice fs.ao fs.len fs.cap) ∧ q0.cell? ⟨w.heap.size, 3, none⟩ = some (.slice cs.ao cs.len cs.cap) ∧ q0.cell? ⟨w.heap.size + 1, 0, none⟩ = some (.int .i64 s.k) ∧ q0.cell? ⟨w.heap.size + 1, 1, none⟩ = some (.int .i64 s.l) ∧ q0.cell? ⟨w.heap.size + 1, 2, none⟩ = some (.slice s.ao s.len s.cap) ∧ q0.cell? ⟨w.heap.size + 1, 3, none⟩ = some (.int .i64 s.h) ∧ q0.cell? ⟨w.heap.size + 1, 4, none⟩ = some (.int .i64 s.e) ∧ q0.cell? ⟨w.heap.size + 1, 5, none⟩ = some (.int .i64 v.k) ∧ q0.cell? ⟨w.heap.size + 1, 6, none⟩ = some (.int .i64 v.m) ∧ q0.cell? ⟨w.heap.size + 1, 7, none⟩ = some (.slice v.ao v.len v.cap)) z := ⟨h.o.c0, h.o.c1, h.o.c2, h.o.c3, h.x.c0, h.x.c1, h.x.c2, h.x.c3, h.x.c4, h.x.c5, h.x.c6, h.x.c7⟩

set_option maxRecDepth 100000 in
set_option maxHeartbeats 8000000 in
theorem valueAbove_any (n : Strs) (g : Grid) (fs : Fs) (cs : Cs) (s t : Ty) (v u : Vl) (w : World) (hw : Wo w n g fs cs) (hs : s.At w) (ht : t.At w) (hv : v.At w) (hu : u.At w) (hT : Tab w) :
    Calls Tryd.prog 4 #[.agg #[.slice n.ao n.len n.cap, .slice g.ao g.len g.cap, .slice fs.ao fs.len fs.cap, .slice cs.ao cs.len cs.cap], .agg #[.int .i64 s.k, .int .i64 s.l, .slice s.ao s.len s.cap, .int .i64 s.h, .int .i64 s.e, .int .i64 v.k, .int .i64 v.m, .slice v.ao v.len v.cap], .agg #[.int .i64 t.k, .int .i64 t.l, .slice t.ao t.len t.cap, .int .i64 t.h, .int .i64 t.e, .int .i64 u.k, .int .i64 u.m, .slice u.ao u.len u.cap]] w fun e w' => e = .returned (.bool true) ∧ Below w.heap.size w w' := by
  have K0 := VB.new hw hs ht hv hu hT
  have hnb := hw.hn.bound
  clear hw hs ht hv hu hT
  unfold woO tdO at K0
  go_enter Tryd.func4, Tryd.ntmps4
  go_wp2_with fail
  refine (vawake_any _ K0.tab).mono ?_
  rintro e w1 ⟨rfl, hb1⟩
  have K1 := K0.step hb1
  clear K0 hb1
  have o0 := K1.o.c0
  have o1 := K1.o.c1
  have o2 := K1.o.c2
  have o3 := K1.o.c3
  have x0 := K1.x.c0
  have x1 := K1.x.c1
  have x2 := K1.x.c2
  have x3 := K1.x.c3
  have x4 := K1.x.c4
  have x5 := K1.x.c5
  have x6 := K1.x.c6
  have x7 := K1.x.c7
  go_wp2_with fail
  refine (vfew_any n g fs cs s v _ K1.wo K1.hs K1.hv).mono ?_
  rintro e w2 ⟨r1, rfl, hr1, hb2⟩
  have K2 := K1.step hb2
  have HR1 : Hid (r1 = true → (∀ i, i < cs.len → (cs.t i).nodes ≤ 40) ∧ s.nodes ≤ 40 ∧ v.nodes ≤ 2000) := hr1
  clear K1 hb2 hr1 o0 o1 o2 o3 x0 x1 x2 x3 x4 x5 x6 x7
  cases r1
  · go_wp2_with fail
    refine (vawake_any _ K2.tab).mono ?_
    rintro e w3 ⟨rfl, hb3⟩
    go_wp2
    go_ret
    exact ⟨rfl, (K2.step hb3).bl⟩
  have HCN : Hid (∀ i, i < cs.len → (cs.t i).nodes ≤ 40) := (HR1.out rfl).1
  clear HR1
  have y0 := K2.y.c0
  have y1 := K2.y.c1
  have y2 := K2.y.c2
  have y3 := K2.y.c3
  have y4 := K2.y.c4
  go_wp2_with fail
  refine (rSmall2_any t _ K2.ht).mono ?_
  rintro e w3 ⟨rfl, hb3⟩
  have K3 := K2.step hb3
  clear K2 hb3 y0 y1 y2 y3 y4
  by_cases st : t.nodes ≤ 40
  case neg =>
    rw [decide_eq_false st]
    clear st
    go_wp2_with fail
    refine (vawake_any _ K3.tab).mono ?_
    rintro e w4 ⟨rfl, hb4⟩
    go_wp2
    go_ret
    exact ⟨rfl, (K3.step hb4).bl⟩
  rw [decide_eq_true st]
  clear st
  have HFT : Hid (∀ (a : World), VB w a n g fs cs s t v u → ∀ y : Ty, y.At a → Calls Tryd.prog 20 #[.agg #[.slice n.ao n.len n.cap, .slice g.ao g.len g.cap], .slice fs.ao fs.len fs.cap, .slice cs.ao cs.len cs.cap, .agg #[.int .i64 y.k, .int .i64 y.l, .slice y.ao y.len y.cap, .int .i64 y.h, .int .i64 y.e], .agg #[.int .i64 v.k, .int .i64 v.m, .slice v.ao v.len v.cap]] a fun e w' => e = .returned (.bool (fitB n g fs cs y v)) ∧ Below a.heap.size a w') := fun a h1 y h2 => Fits_any n g fs cs y v a h1.wo h2 h1.hv HCN.out
  have hC := HFT.out w3 K3 s K3.hs
  have o0 := K3.o.c0
  have o1 := K3.o.c1
  have o2 := K3.o.c2
  have o3 := K3.o.c3
  have x0 := K3.x.c0
  have x1 := K3.x.c1
  have x2 := K3.x.c2
  have x3 := K3.x.c3
  have x4 := K3.x.c4
  have x5 := K3.x.c5
  have x6 := K3.x.c6
  have x7 := K3.x.c7
  go_wp2_with fail
  refine hC.mono ?_
  rintro e w4 ⟨rfl, hb4⟩
  have K4 := K3.step hb4
  clear K3 hb4 hC o0 o1 o2 o3 x0 x1 x2 x3 x4 x5 x6 x7
  cases hfit : fitB n g fs cs s v
  · clear hfit
    go_wp2
    go_ret
    exact ⟨rfl, K4.bl⟩
  have HFI : Hid (fitB n g fs cs s v = true) := hfit
  clear hfit
  have HK4 : Hid (VB w w4 n g fs cs s t v u) := K4
  clear K4
  go_wp2
  go_loopw [7] (fun i wr => ∃ j : Nat, j ≤ n.len ∧ i = .int .i64 j ∧ Hid (VB w wr n g fs cs s t v u)) (fun i _ => n.len - (intOf i).toNat)
  case atStart => exact ⟨0, Nat.zero_le _, rfl, HK4.out⟩
  case round =>
    obtain ⟨j, hj, rfl, HW⟩ := hrel
    clear HK4
    have o0 := HW.out.o.c0
    by_cases hlt : j < n.len
    · have ij : (j : Int) < n.len := by omega
      have HRA : Hid (∀ (y : Ty) (a : World), y.At a → y.same (raiseT n g s (j : Nat)) = true → fitB n g fs cs y v = true) := fun y a yA yS => fitB_up (raise_facts (fitB_ok HFI.out) (by unfold inR; simp; omega) HW.out.hs yA yS).up HFI.out
      go_upto_region 8 with fail
      clear o0
      go_cut [61] (fun c wx => c = .bool false ∧ Hid (VB w wx n g fs cs s t v u))
      case first =>
        have D1 : Below wr.heap.size wr wr.drew := (Below.refl _ _).drew
        have key := fun a (ha : Below wr.heap.size wr a) => vb_S (HW.out.step ha)
        have hS := key _ D1
        refine wp_region_held_drew (S := (fun q0 : World => q0.cell? ⟨w.heap.size, 0, none⟩ = some (.slice n.ao n.len n.cap) ∧ q0.cell? ⟨w.heap.size, 1, none⟩ = some (.slice g.ao g.len g.cap) ∧ q0.cell? ⟨w.heap.size, 2, none⟩ = some (.slice fs.ao fs.len fs.cap) ∧ q0.cell? ⟨w.heap.size, 3, none⟩ = some (.slice cs.ao cs.len cs.cap) ∧ q0.cell? ⟨w.heap.size + 1, 0, none⟩ = some (.int .i64 s.k) ∧ q0.cell? ⟨w.heap.size + 1, 1, none⟩ = some (.int .i64 s.l) ∧ q0.cell? ⟨w.heap.size + 1, 2, none⟩ = some (.slice s.ao s.len s.cap) ∧ q0.cell? ⟨w.heap.size + 1, 3, none⟩ = some (.int .i64 s.h) ∧ q0.cell? ⟨w.heap.size + 1, 4, none⟩ = some (.int .i64 s.e) ∧ q0.cell? ⟨w.heap.size + 1, 5, none⟩ = some (.int .i64 v.k) ∧ q0.cell? ⟨w.heap.size + 1, 6, none⟩ = some (.int .i64 v.m) ∧ q0.cell? ⟨w.heap.size + 1, 7, none⟩ = some (.slice v.ao v.len v.cap))) (by kernel_rfl) hS (fun _ => ?_)
        refine wpAnyH_take (i := 0) (v := .pointer (some ⟨w.heap.size, 0, none⟩)) rfl (by kernel_rfl) (by kernel_rfl) (by kernel_rfl) (fun _ _ _ h => h) (Or.inl ⟨by kernel_rfl, ?_⟩) hS ?_
        · intro u hSu
          obtain ⟨r0, r1, r2, r3, r4, r5, r6, r7, r8, r9, r10, r11⟩ := hSu
          go_simp
        try simp only [Act.put]
        refine wpAnyH_take (i := 1) (v := .agg #[.slice n.ao n.len n.cap, .slice g.ao g.len g.cap]) rfl (by kernel_rfl) (by kernel_rfl) (by kernel_rfl) (fun _ _ _ h => h) (Or.inl ⟨by kernel_rfl, ?_⟩) hS ?_
        · intro u hSu
          obtain ⟨r0, r1, r2, r3, r4, r5, r6, r7, r8, r9, r10, r11⟩ := hSu
          go_simp
        try simp only [Act.put]
        refine wpAnyH_take (i := 2) (v := .pointer (some ⟨w.heap.size, 2, none⟩)) rfl (by kernel_rfl) (by kernel_rfl) (by kernel_rfl) (fun _ _ _ h => h) (Or.inl ⟨by kernel_rfl, ?_⟩) hS ?_
        · intro u hSu
          obtain ⟨r0, r1, r2, r3, r4, r5, r6, r7, r8, r9, r10, r11⟩ := hSu
          go_simp
        try simp only [Act.put]
        refine wpAnyH_take (i := 3) (v := .slice fs.ao fs.len fs.cap) rfl (by kernel_rfl) (by kernel_rfl) (by kernel_rfl) (fun _ _ _ h => h) (Or.inl ⟨by kernel_rfl, ?_⟩) hS ?_
        · intro u hSu
          obtain ⟨r0, r1, r2, r3, r4, r5, r6, r7, r8, r9, r10, r11⟩ := hSu
          go_simp
        try simp only [Act.put]
        refine wpAnyH_take (i := 4) (v := .pointer (some ⟨w.heap.size, 3, none⟩)) rfl (by kernel_rfl) (by kernel_rfl) (by kernel_rfl) (fun _ _ _ h => h) (Or.inl ⟨by kernel_rfl, ?_⟩) hS ?_
        · intro u hSu
          obtain ⟨r0, r1, r2, r3, r4, r5, r6, r7, r8, r9, r10, r11⟩ := hSu
          go_simp
        try simp only [Act.put]
        refine wpAnyH_take (i := 5) (v := .slice cs.ao cs.len cs.cap) rfl (by kernel_rfl) (by kernel_rfl) (by kernel_rfl) (fun _ _ _ h => h) (Or.inl ⟨by kernel_rfl, ?_⟩) hS ?_
        · intro u hSu
          obtain ⟨r0, r1, r2, r3, r4, r5, r6, r7, r8, r9, r10, r11⟩ := hSu
          go_simp
        try simp only [Act.put]
        refine wpAnyH_take (i := 6) (v := .pointer (some ⟨w.heap.size, 0, none⟩)) rfl (by kernel_rfl) (by kernel_rfl) (by kernel_rfl) (fun _ _ _ h => h) (Or.inl ⟨by kernel_rfl, ?_⟩) hS ?_
        · intro u hSu
          obtain ⟨r0, r1, r2, r3, r4, r5, r6, r7, r8, r9, r10, r11⟩ := hSu
          go_simp
        try simp only [Act.put]
        refine wpAnyH_take (i := 7) (v := .agg #[.slice n.ao n.len n.cap, .slice g.ao g.len g.cap]) rfl (by kernel_rfl) (by kernel_rfl) (by kernel_rfl) (fun _ _ _ h => h) (Or.inl ⟨by kernel_rfl, ?_⟩) hS ?_
        · intro u hSu
          obtain ⟨r0, r1, r2, r3, r4, r5, r6, r7, r8, r9, r10, r11⟩ := hSu
          go_simp
        try simp only [Act.put]
        refine wpAnyH_take (i := 8) (v := .pointer (some ⟨w.heap.size + 1, 0, none⟩)) rfl (by kernel_rfl) (by kernel_rfl) (by kernel_rfl) (fun _ _ _ h => h) (Or.inl ⟨by kernel_rfl, ?_⟩) hS ?_
        · intro u hSu
          obtain ⟨r0, r1, r2, r3, r4, r5, r6, r7, r8, r9, r10, r11⟩ := hSu
          go_simp
        try simp only [Act.put]
        refine wpAnyH_take (i := 9) (v := .agg #[.int .i64 s.k, .int .i64 s.l, .slice s.ao s.len s.cap, .int .i64 s.h, .int .i64 s.e]) rfl (by kernel_rfl) (by kernel_rfl) (by kernel_rfl) (fun _ _ _ h => h) (Or.inl ⟨by kernel_rfl, ?_⟩) hS ?_
        · intro u hSu
          obtain ⟨r0, r1, r2, r3, r4, r5, r6, r7, r8, r9, r10, r11⟩ := hSu
          go_simp
        try simp only [Act.put]
        refine wpAnyH_take (i := 10) (v := .int .i64 (j : Nat)) rfl (by kernel_rfl) (by kernel_rfl) (by kernel_rfl) (fun _ _ _ h => h) (Or.inl ⟨by kernel_rfl, ?_⟩) hS ?_
        · intro u hSu
          obtain ⟨r0, r1, r2, r3, r4, r5, r6, r7, r8, r9, r10, r11⟩ := hSu
          go_simp
        try simp only [Act.put]
        refine wpAnyH_take (i := 12) (v := .pointer (some ⟨w.heap.size + 1, 5, none⟩)) rfl (by kernel_rfl) (by kernel_rfl) (by kernel_rfl) (fun _ _ _ h => h) (Or.inl ⟨by kernel_rfl, ?_⟩) hS ?_
        · intro u hSu
          obtain ⟨r0, r1, r2, r3, r4, r5, r6, r7, r8, r9, r10, r11⟩ := hSu
          go_simp
        try simp only [Act.put]
        refine wpAnyH_take (i := 13) (v := .agg #[.int .i64 v.k, .int .i64 v.m, .slice v.ao v.len v.cap]) rfl (by kernel_rfl) (by kernel_rfl) (by kernel_rfl) (fun _ _ _ h => h) (Or.inl ⟨by kernel_rfl, ?_⟩) hS ?_
        · intro u hSu
          obtain ⟨r0, r1, r2, r3, r4, r5, r6, r7, r8, r9, r10, r11⟩ := hSu
          go_simp
        try simp only [Act.put]
        refine wpAnyH_ready (rs := [11]) (by kernel_rfl) (by simp) ?_
        refine AllReadyH.cons rfl (fun K hK => ?_) AllReadyH.nil
        go_simp
        refine (Raise_any n g s (j : Nat) _ (HW.out.step D1).wo.hn (HW.out.step D1).wo.hg (HW.out.step D1).hs).mono ?_
        rintro e w5 ⟨y, rfl, yA, _, yS, hb5⟩
        have C5 := Below.next D1 hb5
        have HY : Hid (fitB n g fs cs y v = true) := HRA.out y _ yA yS
        clear yS
        go_wp2_with fail
        refine hK.out _ _ (key _ C5) (fun hS5 => ?_)
        clear hK K
        try simp only [Act.put]
        refine wpAnyH_ready (rs := [14]) (by kernel_rfl) (by simp) ?_
        refine AllReadyH.cons rfl (fun K hK => ?_) AllReadyH.nil
        go_simp
        refine (HFT.out w5 (HW.out.step C5) y yA).mono ?_
        rw [HY.out]
        rintro e w6 ⟨rfl, hb6⟩
        have C6 := Below.next C5 hb6
        go_wp2_with fail
        refine hK.out _ _ (key _ C6) (fun hS6 => ?_)
        clear hK K
        try simp only [Act.put]
        refine wpAnyH_ready (rs := [15]) (by kernel_rfl) (by simp) ?_
        refine AllReadyH.cons rfl (fun K hK => ?_) AllReadyH.nil
        go_simp
        refine hK.out _ _ (key _ C6) (fun hS7 => ?_)
        clear hK K
        try simp only [Act.put]
        refine wpAnyH_done (by kernel_rfl) ?_ _
        go_wp2
        go_meet
        case rel => exact ⟨rfl, HW.out.step C6⟩
      case rest =>
        obtain ⟨hc, HV⟩ := hcut
        subst hc
        go_wp2
        go_roundw
        case rel => exact ⟨j + 1, by omega, by go_num, HV.out⟩
        case measure => simp [intOf]; omega
    · have ij : ¬ (j : Int) < n.len := by omega
      have o1 := HW.out.o.c1
      have x0 := HW.out.x.c0
      have x1 := HW.out.x.c1
      have x2 := HW.out.x.c2
      have x3 := HW.out.x.c3
      have x4 := HW.out.x.c4
      have y0 := HW.out.y.c0
      have y1 := HW.out.y.c1
      have y2 := HW.out.y.c2
      have y3 := HW.out.y.c3
      have y4 := HW.out.y.c4
      have hC := Below_any2 n g s t wr HW.out.wo.hn HW.out.wo.hg HW.out.hs HW.out.ht
      go_wp2_with fail
      refine hC.mono ?_
      rintro e w5 ⟨rfl, hb5⟩
      have HW5 : Hid (VB w w5 n g fs cs s t v u) := HW.out.step hb5
      clear o0 o1 x0 x1 x2 x3 x4 y0 y1 y2 y3 y4 hC hb5
      cases hbl : belB n g s t
      · clear hbl
        go_wp2
        go_ret
        exact ⟨rfl, HW5.out.bl⟩
      have hC := HFT.out w5 HW5.out t HW5.out.ht
      rw [fitB_up hbl HFI.out] at hC
      clear hbl
      have o0 := HW5.out.o.c0
      have o1 := HW5.out.o.c1
      have o2 := HW5.out.o.c2
      have o3 := HW5.out.o.c3
      have y0 := HW5.out.y.c0
      have y1 := HW5.out.y.c1
      have y2 := HW5.out.y.c2
      have y3 := HW5.out.y.c3
      have y4 := HW5.out.y.c4
      have x5 := HW5.out.x.c5
      have x6 := HW5.out.x.c6
      have x7 := HW5.out.x.c7
      go_wp2_with fail
      refine hC.mono ?_
      rintro e w6 ⟨rfl, hb6⟩
      go_wp2
      go_ret
      exact ⟨rfl, (HW5.out.step hb6).bl⟩
end Go.Proofs.YtnkipiegjpjfbaaDoor

/- A lattice that comes in, opened into its names and its table. -/
namespace Go.Proofs.YtnkipiegjpjfbaaDoor
open Go.ChangeShapes Go.WideShapes Go.ChangeAt Go.RowKit Go.Deep Go.Joins

theorem Tryd.own : ownKnob Tryd.prog.godebug = none := by kernel_rfl
theorem Tryd.laidOut : laidOutB Tryd.prog = true := by kernel_rfl
theorem Tryd.cellsString : Tryd.prog.cellsOf 9 = 1 := by kernel_rfl
theorem Tryd.cellsBool : Tryd.prog.cellsOf 4 = 1 := by kernel_rfl
theorem Tryd.cellsRow : Tryd.prog.cellsOf 75 = 1 := by kernel_rfl
theorem Tryd.cellsLat : Tryd.prog.cellsOf 36 = 2 := by kernel_rfl
theorem addr_plain (b off i : Nat) : (⟨b, off, none⟩ : Addr).add i = ⟨b, off + i, none⟩ := by unfold Addr.add; split <;> simp_all

section
variable {H : Type} {enc : TypeId × Value → H} {W : World} {base : Nat}

set_option maxRecDepth 100000 in
theorem open_strs {fuel : Nat} {v : Value} {x : DataW H × List MemPlace} (h : DataW.trod enc Tryd.prog W base (fun _ => true) true fuel 33 [v] = some x) :
    ∃ n : Strs, v = .slice n.ao n.len n.cap ∧ n.At W := by
  rcases open_strings Tryd.underlying33 Tryd.underlying9 Tryd.cellsString h with ⟨hcs, _⟩ | ⟨a, len, cap, ss, hcs, _, hl, hm, hz, _, hcell, hws⟩
  · exact ⟨⟨none, 0, 0, 0, 0, fun _ => ByteArray.empty⟩, by simpa using hcs, ⟨Nat.le_refl _, fun h => absurd h (Nat.lt_irrefl _), Nat.zero_le _, fun _ h => absurd h (Nat.not_lt_zero _), fun _ h => absurd h (Nat.not_lt_zero _)⟩⟩
  · have hv : v = .slice (some a) len cap := by simpa using hcs
    simp only [if_true] at hz
    unfold maxLen at hm hws
    refine ⟨⟨some a, a.block, a.off, len, cap, fun i => ss.getD i ByteArray.empty⟩, hv, ⟨hl, fun hp => ?_, Nat.le_trans hl hm, fun i hi => ?_, fun i hi => ?_⟩⟩
    · have hp' : 0 < len := hp
      have hs := World.cell?_spot (hcell 0 (by omega))
      obtain ⟨ab, ao, asp⟩ := a
      have : asp = none := by simpa [Addr.add] using hs
      subst this; rfl
    · have hi' : i < len := hi
      have hs := World.cell?_spot (hcell 0 (by omega))
      obtain ⟨ab, ao, asp⟩ := a
      have : asp = none := by simpa [Addr.add] using hs
      subst this
      have := hcell i (by omega)
      rw [addr_plain] at this
      exact this
    · have hi' : i < len := hi
      have hmem : ss.getD i ByteArray.empty ∈ ss := by
        rw [List.getD_eq_getElem?_getD, List.getElem?_eq_getElem (by omega)]
        exact List.getElem_mem _
      exact hws _ hmem

set_option maxRecDepth 100000 in
theorem open_grid {fuel : Nat} {v : Value} {x : DataW H × List MemPlace} (h : DataW.trod enc Tryd.prog W base (fun _ => true) true fuel 34 [v] = some x) :
    ∃ g : Grid, v = .slice g.ao g.len g.cap ∧ g.At W := by
  rcases open_bool_rows Tryd.underlying34 Tryd.underlying75 Tryd.underlying4 Tryd.cellsRow Tryd.cellsBool h with ⟨hcs, _⟩ | ⟨a, len, cap, A, L, C, B, hcs, _, hl, hm, _, hrows⟩
  · exact ⟨⟨none, 0, 0, 0, 0, fun _ => none, fun _ => 0, fun _ => 0, fun _ => 0, fun _ => 0, fun _ _ => false⟩, by simpa using hcs,
      ⟨Nat.le_refl _, fun h => absurd h (Nat.lt_irrefl _), Nat.zero_le _, fun _ h => absurd h (Nat.not_lt_zero _), fun _ h => absurd h (Nat.not_lt_zero _), fun _ h => absurd h (Nat.not_lt_zero _), fun _ h => absurd h (Nat.not_lt_zero _)⟩⟩
  · have hv : v = .slice (some a) len cap := by simpa using hcs
    unfold maxLen at hm
    have hadr : ∀ r, r < len → 0 < L r → A r = some ⟨((A r).getD default).block, ((A r).getD default).off, none⟩ ∧ ∀ c, c < L r → W.cell? ⟨((A r).getD default).block, ((A r).getD default).off + c, none⟩ = some (.bool (B r c)) := fun r hr hp => by
      obtain ⟨_, h1, _, h3, h4⟩ := hrows r (by omega)
      cases hA : A r with
      | none => have := h3 hA; omega
      | some a' =>
        obtain ⟨ab, ao, asp⟩ := a'
        obtain ⟨_, hcell⟩ := h4 _ hA
        have has : asp = none := by simpa [Addr.add] using World.cell?_spot (hcell 0 (by omega))
        subst has
        exact ⟨rfl, fun c hc => by have := hcell c (by omega); rwa [addr_plain] at this⟩
    have hspot : 0 < len → a = ⟨a.block, a.off, none⟩ := fun hp => by
      have hs := World.cell?_spot (hrows 0 (by omega)).1
      obtain ⟨ab, ao, asp⟩ := a
      have : asp = none := by simpa [Addr.add] using hs
      subst this; rfl
    refine ⟨⟨some a, a.block, a.off, len, cap, A, L, C, fun r => ((A r).getD default).block, fun r => ((A r).getD default).off, B⟩, hv, ⟨hl, fun hp => congrArg some (hspot hp), Nat.le_trans hl hm, fun r hr => ?_, fun r hr => ?_, fun r hr hp => (hadr r hr hp).1, fun r hr c hc => (hadr r hr (Nat.lt_of_le_of_lt (Nat.zero_le _) hc)).2 c hc⟩⟩
    · have hr' : r < len := hr
      obtain ⟨_, h1, h2, _⟩ := hrows r (by omega)
      unfold maxLen at h2
      exact Nat.le_trans h1 h2
    · have hr' : r < len := hr
      have := (hrows r (by omega)).1
      rw [hspot (by omega), addr_plain] at this
      exact this

set_option maxRecDepth 100000 in
theorem open_lat {v : Value} {d : DataW H} {p : List MemPlace} {b0 : Nat} (hv : Value.okWide Tryd.prog W .any b0 36 v) (h : DataW.Trod enc Tryd.prog W base (fun _ => true) true 36 v d p) :
    ∃ (n : Strs) (g : Grid), v = .agg #[.slice n.ao n.len n.cap, .slice g.ao g.len g.cap] ∧ n.At W ∧ g.At W := by
  obtain ⟨c0, c1, y0, y1, m, rfl, _, _, hy0, hy1⟩ := open_agg2 Tryd.underlying36 (by kernel_rfl) Tryd.cellsLat hv h
  obtain ⟨n, rfl, hn⟩ := open_strs hy0
  obtain ⟨g, rfl, hg⟩ := open_grid hy1
  exact ⟨n, g, rfl, hn, hg⟩
end
end Go.Proofs.YtnkipiegjpjfbaaDoor

/- A type that comes in, opened. -/
namespace Go.Proofs.YtnkipiegjpjfbaaDoor
open Go.ChangeShapes Go.WideShapes Go.ChangeAt Go.RowKit Go.Deep Go.Joins

theorem Tryd.cellsInt' : Tryd.prog.cellsOf 3 = 1 := by kernel_rfl
theorem Tryd.cellsTys : Tryd.prog.cellsOf 41 = 1 := by kernel_rfl
theorem Tryd.cellsTy : Tryd.prog.cellsOf 43 = 5 := by kernel_rfl

section
variable {H : Type} {enc : TypeId × Value → H} {W : World} {base : Nat}

def Ty.cs (t : Ty) : List Value := [.int .i64 t.k, .int .i64 t.l, .slice t.ao t.len t.cap, .int .i64 t.h, .int .i64 t.e]

set_option maxRecDepth 100000 in
theorem open_ty : ∀ (fuel : Nat) (cs : List Value) (x : DataW H × List MemPlace), DataW.trod enc Tryd.prog W base (fun _ => true) true fuel 43 cs = some x → ∃ t : Ty, cs = t.cs ∧ t.At W := by
  intro fuel
  induction fuel using Nat.strongRecOn with
  | _ fuel ih =>
    intro cs x h
    obtain ⟨xs, n, rfl, _, hl, hlen, hf⟩ := DataW.trod_struct Tryd.underlying43 h
    rw [Tryd.cellsTy] at hl
    match cs, hl with
    | [c0, c1, c2, c3, c4], _ =>
      have hlen5 : xs.length = 5 := hlen
      match xs, hlen5 with
      | [y0, y1, y2, y3, y4], _ =>
        have f0 : DataW.trod enc Tryd.prog W base (fun _ => true) true n 3 [c0] = some y0 := by simpa [Tryd.cellsInt'] using hf 0 _ rfl
        have f1 : DataW.trod enc Tryd.prog W base (fun _ => true) true n 3 [c1] = some y1 := by simpa [Tryd.cellsInt'] using hf 1 _ rfl
        have f2 : DataW.trod enc Tryd.prog W base (fun _ => true) true n 41 [c2] = some y2 := by simpa [Tryd.cellsTys] using hf 2 _ rfl
        have f3 : DataW.trod enc Tryd.prog W base (fun _ => true) true n 3 [c3] = some y3 := by simpa [Tryd.cellsInt'] using hf 3 _ rfl
        have f4 : DataW.trod enc Tryd.prog W base (fun _ => true) true n 3 [c4] = some y4 := by simpa [Tryd.cellsInt'] using hf 4 _ rfl
        obtain ⟨k, q0, _⟩ := DataW.trod_int Tryd.underlying3 f0
        obtain ⟨l, q1, _⟩ := DataW.trod_int Tryd.underlying3 f1
        obtain ⟨hh, q3, _⟩ := DataW.trod_int Tryd.underlying3 f3
        obtain ⟨e, q4, _⟩ := DataW.trod_int Tryd.underlying3 f4
        simp only [List.cons.injEq, and_true] at q0 q1 q3 q4
        subst q0 q1 q3 q4
        rcases DataW.trod_slice Tryd.underlying41 f2 with ⟨hcs, _⟩ | ⟨a, len, cap, elems, rest, m, hm, hcs, _, _, hlc, hmx, hel, hx, _, _⟩
        · simp only [List.cons.injEq, and_true] at hcs
          subst hcs
          exact ⟨.mk k l hh e none 0 0 0 0 (fun _ => .dm), rfl, ⟨fun h => absurd h (Nat.lt_irrefl _), Nat.zero_le _, fun _ h => absurd h (Nat.not_lt_zero _)⟩⟩
        · simp only [List.cons.injEq, and_true] at hcs
          subst hcs hm
          unfold maxLen at hmx
          have each : ∀ i, i < len → ∃ t : Ty, (∀ j, j < 5 → W.cell? (a.add (i * 5 + j)) = t.cs[j]?) ∧ t.At W := by
            intro i hi
            have h1 := hx i hi
            rw [Tryd.cellsTy] at h1
            cases hc : W.cells? base (a.add (i * 5)) 5 with
            | none => rw [hc] at h1; simp at h1; omega
            | some cs' =>
              rw [hc] at h1
              have h2 : DataW.trod enc Tryd.prog W base (fun _ => true) true m 43 cs' = some elems[i] := by
                rw [List.getElem?_eq_getElem (by omega)] at h1
                simpa using h1
              obtain ⟨t, rfl, hA⟩ := ih m (by omega) cs' _ h2
              obtain ⟨_, _, hcell⟩ := World.cells?_some hc
              exact ⟨t, fun j hj => by rw [← hcell j hj, add_add], hA⟩
          have hspot : 0 < len → a = ⟨a.block, a.off, none⟩ := fun hp => by
            obtain ⟨t, ht, _⟩ := each 0 hp
            have hs := World.cell?_spot (a := a.add (0 * 5 + 0)) (v := .int .i64 t.k) (by rw [ht 0 (by omega)]; rfl)
            obtain ⟨ab, ao, asp⟩ := a
            have : asp = none := by simpa [Addr.add] using hs
            subst this; rfl
          refine ⟨.mk k l hh e (some a) a.block a.off len cap (fun i => if h : i < len then Classical.choose (each i h) else .dm), rfl, ⟨fun hp => congrArg some (hspot hp), by omega, fun i hi => ?_⟩⟩
          simp only [dif_pos hi]
          obtain ⟨ht, hA⟩ := Classical.choose_spec (each i hi)
          generalize Classical.choose (each i hi) = t at ht hA
          have ea := hspot (by omega)
          have get : ∀ j, j < 5 → W.cell? ⟨a.block, a.off + i * 5 + j, none⟩ = t.cs[j]? := fun j hj => by
            have := ht j hj
            rw [ea, addr_plain, ← Nat.add_assoc] at this
            exact this
          exact ⟨⟨get 0 (by omega), get 1 (by omega), get 2 (by omega), get 3 (by omega), get 4 (by omega)⟩, hA⟩
set_option maxRecDepth 100000 in
theorem open_type {v : Value} {d : DataW H} {p : List MemPlace} {b0 : Nat} (hv : Value.okWide Tryd.prog W .any b0 43 v) (h : DataW.Trod enc Tryd.prog W base (fun _ => true) true 43 v d p) :
    ∃ t : Ty, v = .agg #[.int .i64 t.k, .int .i64 t.l, .slice t.ao t.len t.cap, .int .i64 t.h, .int .i64 t.e] ∧ t.At W := by
  obtain ⟨cs, rfl, _⟩ := okWide_struct Tryd.underlying43 hv
  obtain ⟨fuel, hf⟩ := h
  obtain ⟨t, ht, hA⟩ := open_ty fuel _ _ hf
  refine ⟨t, ?_, hA⟩
  have : cs.toList = t.cs := by simpa [Value.cells] using ht
  obtain ⟨l⟩ := cs
  have e : l = t.cs := this
  rw [e]; rfl

end
end Go.Proofs.YtnkipiegjpjfbaaDoor

/- A value that comes in, opened. -/
namespace Go.Proofs.YtnkipiegjpjfbaaDoor
open Go.ChangeShapes Go.WideShapes Go.ChangeAt Go.RowKit Go.Deep Go.Joins

theorem Tryd.cInt : Tryd.prog.cellsOf 3 = 1 := by kernel_rfl
theorem Tryd.cInt64 : Tryd.prog.cellsOf 2 = 1 := by kernel_rfl
theorem Tryd.cVls : Tryd.prog.cellsOf 22 = 1 := by kernel_rfl
theorem Tryd.cVl : Tryd.prog.cellsOf 24 = 3 := by kernel_rfl
theorem addr_vl (b off i : Nat) : (⟨b, off, none⟩ : Addr).add i = ⟨b, off + i, none⟩ := by unfold Addr.add; split <;> simp_all
theorem wf_i64v {n : Int} (h : (Lit.int .i64 n).wf = true) : -9223372036854775808 ≤ n ∧ n ≤ 9223372036854775807 := by
  have h' : IntKind.i64.min ≤ n ∧ n ≤ IntKind.i64.max := by simpa [Lit.wf] using h
  have e1 : IntKind.i64.min = -9223372036854775808 := by decide
  have e2 : IntKind.i64.max = 9223372036854775807 := by decide
  omega

section
variable {H : Type} {enc : TypeId × Value → H} {W : World} {base : Nat}

def Vl.cs (t : Vl) : List Value := [.int .i64 t.k, .int .i64 t.m, .slice t.ao t.len t.cap]

set_option maxRecDepth 100000 in
theorem open_vl : ∀ (fuel : Nat) (cs : List Value) (x : DataW H × List MemPlace), DataW.trod enc Tryd.prog W base (fun _ => true) true fuel 24 cs = some x → ∃ t : Vl, cs = t.cs ∧ t.At W ∧ t.rng := by
  intro fuel
  induction fuel using Nat.strongRecOn with
  | _ fuel ih =>
    intro cs x h
    obtain ⟨xs, n, rfl, _, hl, hlen, hf⟩ := DataW.trod_struct Tryd.underlying24 h
    rw [Tryd.cVl] at hl
    match cs, hl with
    | [c0, c1, c2], _ =>
      have hlen3 : xs.length = 3 := hlen
      match xs, hlen3 with
      | [y0, y1, y2], _ =>
        have f0 : DataW.trod enc Tryd.prog W base (fun _ => true) true n 3 [c0] = some y0 := by simpa [Tryd.cInt] using hf 0 _ rfl
        have f1 : DataW.trod enc Tryd.prog W base (fun _ => true) true n 2 [c1] = some y1 := by simpa [Tryd.cInt64] using hf 1 _ rfl
        have f2 : DataW.trod enc Tryd.prog W base (fun _ => true) true n 22 [c2] = some y2 := by simpa [Tryd.cVls] using hf 2 _ rfl
        obtain ⟨k, q0, _⟩ := DataW.trod_int Tryd.underlying3 f0
        obtain ⟨m0, q1, _, wm⟩ := DataW.trod_int Tryd.underlying2 f1
        simp only [List.cons.injEq, and_true] at q0 q1
        subst q0 q1
        rcases DataW.trod_slice Tryd.underlying22 f2 with ⟨hcs, _⟩ | ⟨a, len, cap, elems, rest, m, hm, hcs, _, _, hlc, hmx, hel, hx, _, _⟩
        · simp only [List.cons.injEq, and_true] at hcs
          subst hcs
          exact ⟨.mk k m0 none 0 0 0 0 (fun _ => .dm), rfl, ⟨fun h => absurd h (Nat.lt_irrefl _), Nat.zero_le _, fun _ h => absurd h (Nat.not_lt_zero _)⟩, ⟨wf_i64v wm, fun _ h => absurd h (Nat.not_lt_zero _)⟩⟩
        · simp only [List.cons.injEq, and_true] at hcs
          subst hcs hm
          unfold maxLen at hmx
          have each : ∀ i, i < len → ∃ t : Vl, (∀ j, j < 3 → W.cell? (a.add (i * 3 + j)) = t.cs[j]?) ∧ t.At W ∧ t.rng := by
            intro i hi
            have h1 := hx i hi
            rw [Tryd.cVl] at h1
            cases hc : W.cells? base (a.add (i * 3)) 3 with
            | none => rw [hc] at h1; simp at h1; omega
            | some cs' =>
              rw [hc] at h1
              have h2 : DataW.trod enc Tryd.prog W base (fun _ => true) true m 24 cs' = some elems[i] := by
                rw [List.getElem?_eq_getElem (by omega)] at h1
                simpa using h1
              obtain ⟨t, rfl, hA⟩ := ih m (by omega) cs' _ h2
              obtain ⟨_, _, hcell⟩ := World.cells?_some hc
              exact ⟨t, fun j hj => by rw [← hcell j hj, add_add], hA⟩
          have hspot : 0 < len → a = ⟨a.block, a.off, none⟩ := fun hp => by
            obtain ⟨t, ht, _⟩ := each 0 hp
            have hs := World.cell?_spot (a := a.add (0 * 3 + 0)) (v := .int .i64 t.k) (by rw [ht 0 (by omega)]; rfl)
            obtain ⟨ab, ao, asp⟩ := a
            have : asp = none := by simpa [Addr.add] using hs
            subst this; rfl
          refine ⟨.mk k m0 (some a) a.block a.off len cap (fun i => if h : i < len then Classical.choose (each i h) else .dm), rfl, ⟨fun hp => congrArg some (hspot hp), by omega, fun i hi => ?_⟩, ⟨wf_i64v wm, fun i hi => ?_⟩⟩
          · simp only [dif_pos hi]
            obtain ⟨ht, hA, _⟩ := Classical.choose_spec (each i hi)
            generalize Classical.choose (each i hi) = t at ht hA
            have ea := hspot (by omega)
            have get : ∀ j, j < 3 → W.cell? ⟨a.block, a.off + i * 3 + j, none⟩ = t.cs[j]? := fun j hj => by
              have := ht j hj
              rw [ea, addr_vl, ← Nat.add_assoc] at this
              exact this
            exact ⟨⟨get 0 (by omega), get 1 (by omega), get 2 (by omega)⟩, hA⟩
          · simp only [dif_pos hi]
            exact (Classical.choose_spec (each i hi)).2.2
set_option maxRecDepth 100000 in
theorem open_value {v : Value} {d : DataW H} {p : List MemPlace} {b0 : Nat} (hv : Value.okWide Tryd.prog W .any b0 24 v) (h : DataW.Trod enc Tryd.prog W base (fun _ => true) true 24 v d p) :
    ∃ t : Vl, v = .agg #[.int .i64 t.k, .int .i64 t.m, .slice t.ao t.len t.cap] ∧ t.At W ∧ t.rng := by
  obtain ⟨cs, rfl, _⟩ := okWide_struct Tryd.underlying24 hv
  obtain ⟨fuel, hf⟩ := h
  obtain ⟨t, ht, hA⟩ := open_vl fuel _ _ hf
  refine ⟨t, ?_, hA⟩
  have : cs.toList = t.cs := by simpa [Value.cells] using ht
  obtain ⟨l⟩ := cs
  have e : l = t.cs := this
  rw [e]; rfl
end
end Go.Proofs.YtnkipiegjpjfbaaDoor
