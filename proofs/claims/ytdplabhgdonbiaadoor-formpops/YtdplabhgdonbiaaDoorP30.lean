/- Layer 14: Pops, and the reference's. -/
import Derived.Test.YtdplabhgdonbiaaDoorP21
import Derived.BigQuiet
import Derived.Test.YtdplabhgdonbiaaDoorP27
import Derived.Test.YtdplabhgdonbiaaDoorP28
namespace Go.Proofs.YtdplabhgdonbiaaDoor
open Go Go.RowKit

def tkL : List Int := [0, 0, 0, 0, 1, 1, 2, 2, 2, 2, 2, 2, 2, 1, 2, 1, 1, 0, 0, 2, 1, 1, 2, 1, 0, 1, 1, 1]
def puL : List Int := [0, 1, 1, 1, 0, 0, 1, 1, 1, 1, 1, 1, 1, 1, 1, 1, 1, 1, 1, 1, 1, 1, 0, 0, 0, 0, 0, 0]
def tkF (op : Int) : Int := tkL.getD op.toNat 0
def puF (op : Int) : Int := puL.getD op.toNat 0
/-- The variables takes and puts, as they were laid. -/
def Pg2 (w : World) : Prop := (∀ i, i < 28 → w.cell? ⟨0, i, none⟩ = some (.int .i64 (tkF i))) ∧ (∀ i, i < 28 → w.cell? ⟨1, i, none⟩ = some (.int .i64 (puF i)))
theorem Pg2.kept {w w' : World} (h : Pg2 w) (hb : Below w.heap.size w w') : Pg2 w' := ⟨fun i hi => up hb (h.1 i hi), fun i hi => up hb (h.2 i hi)⟩
/-- Of an instruction. -/
def popI (c : Kl) (x : In) : Int × Int := if x.op < 1 ∨ 27 < x.op then (0, 0) else if x.op = 17 then (if btw x.a 0 c.fs.len = true then (((c.fs.x x.a.toNat).c.len : Int), 1) else (0, 0)) else (tkF x.op, puF x.op)
def popV (c : Kl) (f : Cf) (a : Int) : Int × Int := if a < 0 ∨ (f.cd.len : Int) ≤ a then (0, 0) else popI c (f.cd.x a.toNat)
theorem Sb.new2 (w : World) (c : Kl) (f : Cf) (hf : f.At w) : Sb w c f (w.heap.size + 1) w.heap.size ((w.alloc (.cells f.vs.toArray 43)).alloc (.cells #[.slice c.n.ao c.n.len c.n.cap, .slice c.g.ao c.g.len c.g.cap, .slice c.fs.ao c.fs.len c.fs.cap] 28)) := by
  have B0 := below_alloc w (.cells f.vs.toArray 43)
  have b0 := Blk.new w f.vs 43
  have B1 := below_alloc (w.alloc (.cells f.vs.toArray 43)) (.cells #[.slice c.n.ao c.n.len c.n.cap, .slice c.g.ao c.g.len c.g.cap, .slice c.fs.ao c.fs.len c.fs.cap] 28)
  have b1 := Blk.new (w.alloc (.cells f.vs.toArray 43)) c.cs 28
  rw [alloc_size] at b1
  exact ⟨Below.next B0 B1, b1, b0.kept B1, Cf.At.kept (Below.next B0 B1) hf⟩
theorem ret_two {a b a' b' : Int} (h1 : a = a') (h2 : b = b') : Ending.returned (.tuple #[.int .i64 a, .int .i64 b]) = .returned (.tuple #[.int .i64 a', .int .i64 b']) := by rw [h1, h2]

set_option maxRecDepth 100000 in
set_option maxHeartbeats 16000000 in
theorem pops_any (c : Kl) (f : Cf) (a : Int) (w : World) (hc : c.At w) (hf : f.At w) (hT : Pg2 w) : Calls Tryd.prog 13 #[.agg f.vs.toArray, .agg #[.slice c.n.ao c.n.len c.n.cap, .slice c.g.ao c.g.len c.g.cap, .slice c.fs.ao c.fs.len c.fs.cap], .int .i64 a] w fun e w' => e = .returned (.tuple #[.int .i64 (popV c f a).1, .int .i64 (popV c f a).2]) ∧ Below w.heap.size w w' := by
  have H1 := hyd (Sb.new2 w c f hf)
  have HX : Hid (popV c f a = if a < 0 ∨ (f.cd.len : Int) ≤ a then (0, 0) else popI c (f.cd.x a.toNat)) := rfl
  have HD := hyd (show c.At w ∧ f.At w ∧ Pg2 w from ⟨hc, hf, hT⟩)
  have hbd := hf.cd.bound
  have hbf := hc.fs.bound
  have HNIL := hyd hf.cd.nil
  have HNF := hyd hc.fs.nil
  generalize popV c f a = R at *
  obtain ⟨R1, R2⟩ := R
  clear hc hf hT
  have hs := alloc_size w (.cells f.vs.toArray 43)
  generalize hw0 : w.alloc (.cells f.vs.toArray 43) = u0 at *
  generalize hw1 : u0.alloc (.cells #[.slice c.n.ao c.n.len c.n.cap, .slice c.g.ao c.g.len c.g.cap, .slice c.fs.ao c.fs.len c.fs.cap] 28) = u1 at *
  have f14 := H1.out.bF.cell 14 rfl
  by_cases a1 : a < 0
  · have HE : Hid ((R1, R2) = ((0 : Int), (0 : Int))) := by show _ = _; rw [HX.out, if_pos (Or.inl a1)]
    go_enter Tryd.func13, Tryd.ntmps13
    go_wp2
    go_ret2
    exact ⟨ret_two (congrArg Prod.fst HE.out).symm (congrArg Prod.snd HE.out).symm, H1.out.bl⟩
  by_cases a2 : (f.cd.len : Int) ≤ a
  · have HE : Hid ((R1, R2) = ((0 : Int), (0 : Int))) := by show _ = _; rw [HX.out, if_pos (Or.inr a2)]
    go_enter Tryd.func13, Tryd.ntmps13
    go_wp2
    go_ret2
    exact ⟨ret_two (congrArg Prod.fst HE.out).symm (congrArg Prod.snd HE.out).symm, H1.out.bl⟩
  obtain ⟨k, rfl⟩ : ∃ k : Nat, a = k := ⟨a.toNat, by omega⟩
  have hk : k < f.cd.len := by omega
  have HX2 : Hid ((R1, R2) = popI c (f.cd.x k)) := by show _ = _; rw [HX.out, if_neg (by omega)]; rfl
  have ik : (k : Int) < f.cd.len := by omega
  clear a1 a2 HX
  rw [HNIL.out (by omega)] at f14
  have r0 := H1.out.f.cd.row k hk
  have HPI : Hid (popI c (f.cd.x k) = if (f.cd.x k).op < 1 ∨ 27 < (f.cd.x k).op then (0, 0) else if (f.cd.x k).op = 17 then (if btw (f.cd.x k).a 0 c.fs.len = true then (((c.fs.x (f.cd.x k).a.toNat).c.len : Int), 1) else (0, 0)) else (tkF (f.cd.x k).op, puF (f.cd.x k).op)) := rfl
  rw [HPI.out] at HX2
  clear HPI
  go_enter Tryd.func13, Tryd.ntmps13
  generalize f.cd.x k = x at *
  go_upto_region 4 with (first | (refine wpList_load_mid rfl 48 (.tmp 21) rfl f.cd.b (f.cd.o + k * 7) (by kernel_rfl) x.vs _ r0 Tryd.underlying48 rfl (by kernel_rfl) ?_) | (refine wpList_new_mid rfl rfl 48 rfl (.tmp 8) (.tmp 22) rfl z_ins (alloc_ins _) rfl x.vs.toArray (by kernel_rfl) (by kernel_rfl) rfl (by kernel_rfl) (by simpa using x.vs_one) ?_))
  simp only [Act.put, List.setIfInBounds_toArray, List.set_cons_succ, List.set_cons_zero]
  have B1 := below_alloc u1 (.cells x.vs.toArray 48)
  have HS := hyd (show Sb w c f (w.heap.size + 1) w.heap.size _ ∧ Blk _ u1.heap.size x.vs 48 from ⟨H1.out.kept B1, Blk.new u1 _ _⟩)
  clear H1 hw0 hw1 hs r0 f14 B1
  generalize u1.alloc (.cells x.vs.toArray 48) = u2 at *
  generalize u1.heap.size = BI at *
  have d0 := HS.out.2.cell 0 rfl
  have d1 := HS.out.2.cell 1 rfl
  have e2 := HS.out.1.bC.cell 2 rfl
  by_cases o1 : x.op < 1
  · have HE : Hid ((R1, R2) = ((0 : Int), (0 : Int))) := by show _ = _; rw [HX2.out, if_pos (Or.inl o1)]
    go_wp2
    go_ret2
    exact ⟨ret_two (congrArg Prod.fst HE.out).symm (congrArg Prod.snd HE.out).symm, HS.out.1.bl⟩
  by_cases o2 : 27 < x.op
  · have HE : Hid ((R1, R2) = ((0 : Int), (0 : Int))) := by show _ = _; rw [HX2.out, if_pos (Or.inr o2)]
    go_wp2
    go_ret2
    exact ⟨ret_two (congrArg Prod.fst HE.out).symm (congrArg Prod.snd HE.out).symm, HS.out.1.bl⟩
  by_cases o3 : x.op = 17
  · have HX3 : Hid ((R1, R2) = if btw x.a 0 c.fs.len = true then (((c.fs.x x.a.toNat).c.len : Int), 1) else (0, 0)) := by show _ = _; rw [HX2.out, if_neg (by omega), if_pos o3]
    clear HX2 o1 o2
    have HOP := hyd o3
    rw [o3] at d0
    clear o3
    have hb := between_any x.a 0 c.fs.len u2
    have HBT : Hid (btw x.a 0 c.fs.len = (decide (0 ≤ x.a) && decide (x.a < c.fs.len))) := rfl
    generalize btw x.a 0 c.fs.len = bt at *
    go_wp2_with fail
    refine hb.mono ?_
    rintro _ u3 ⟨rfl, hb3⟩
    have HS3 := hyd (show Sb w c f (w.heap.size + 1) w.heap.size u3 ∧ Blk u3 BI x.vs 48 from ⟨HS.out.1.kept hb3, HS.out.2.kept hb3⟩)
    clear hb hb3 HS d0 d1 e2
    cases bt
    · have HE : Hid ((R1, R2) = ((0 : Int), (0 : Int))) := by show _ = _; rw [HX3.out]; rfl
      go_wp2
      go_ret2
      exact ⟨ret_two (congrArg Prod.fst HE.out).symm (congrArg Prod.snd HE.out).symm, HS3.out.1.bl⟩
    · have hbt := HBT.out.symm
      simp only [Bool.and_eq_true, decide_eq_true_eq] at hbt
      obtain ⟨m, hm⟩ : ∃ m : Nat, x.a = m := ⟨x.a.toNat, by omega⟩
      have HE : Hid ((R1, R2) = (((c.fs.x m).c.len : Int), (1 : Int))) := by show _ = _; rw [HX3.out, if_pos rfl, hm]; rfl
      have hml : m < c.fs.len := by omega
      have iml : (m : Int) < c.fs.len := by omega
      have d0 := HS3.out.2.cell 0 rfl
      have d1 := HS3.out.2.cell 1 rfl
      have e2 := HS3.out.1.bC.cell 2 rfl
      rw [hm] at d1
      rw [HNF.out (by omega)] at e2
      have q0 := range_kept (HD.out.1.fs.row m hml) HS3.out.1.bl 10 _ rfl
      have p0 := (HD.out.2.2.kept HS3.out.1.bl).2 17 (by decide)
      rw [HOP.out] at d0
      clear hbt hm HX3 HBT
      go_upto_region 10 with fail
      go_quiet (fail)
      have HS4 := hyd (HS3.out.1.kept (below_drewN (Below.refl _ _) nq))
      go_wp2
      go_ret2
      exact ⟨ret_two (congrArg Prod.fst HE.out).symm (congrArg Prod.snd HE.out).symm, HS4.out.bl⟩
  · have HE : Hid ((R1, R2) = (tkF x.op, puF x.op)) := by show _ = _; rw [HX2.out, if_neg (by omega), if_neg o3]
    have n3 : (x.op != 17) = true := by simpa using o3
    obtain ⟨m, hm⟩ : ∃ m : Nat, x.op = m := ⟨x.op.toNat, by omega⟩
    have q0 := (HD.out.2.2.kept HS.out.1.bl).1 m (by omega)
    have p0 := (HD.out.2.2.kept HS.out.1.bl).2 m (by omega)
    have i1 : ¬ (m : Int) < 1 := by omega
    have i2 : ¬ (27 : Int) < m := by omega
    have i3 : (m : Int) < 28 := by omega
    rw [hm] at d0 HE n3
    clear hm HX2 o1 o2 o3
    go_upto_region 7 with fail
    go_quiet (fail)
    have HS4 := hyd (HS.out.1.kept (below_drewN (Below.refl _ _) nq))
    go_wp2
    go_ret2
    exact ⟨ret_two (congrArg Prod.fst HE.out).symm (congrArg Prod.snd HE.out).symm, HS4.out.bl⟩

set_option maxRecDepth 100000 in
set_option maxHeartbeats 16000000 in
theorem rpops_any (c : Kl) (f : Cf) (a : Int) (w : World) (hc : c.At w) (hf : f.At w) : Calls Tryd.prog 14 #[.agg f.vs.toArray, .agg #[.slice c.n.ao c.n.len c.n.cap, .slice c.g.ao c.g.len c.g.cap, .slice c.fs.ao c.fs.len c.fs.cap], .int .i64 a] w fun e w' => e = .returned (.tuple #[.int .i64 (popV c f a).1, .int .i64 (popV c f a).2]) ∧ Below w.heap.size w w' := by
  have H1 := hyd (Sb.new2 w c f hf)
  have HX : Hid (popV c f a = if a < 0 ∨ (f.cd.len : Int) ≤ a then (0, 0) else popI c (f.cd.x a.toNat)) := rfl
  have HD := hyd (show c.At w ∧ f.At w from ⟨hc, hf⟩)
  have hbd := hf.cd.bound
  have hbf := hc.fs.bound
  have HNIL := hyd hf.cd.nil
  have HNF := hyd hc.fs.nil
  generalize popV c f a = R at *
  obtain ⟨R1, R2⟩ := R
  clear hc hf
  have hs := alloc_size w (.cells f.vs.toArray 43)
  generalize hw0 : w.alloc (.cells f.vs.toArray 43) = u0 at *
  generalize hw1 : u0.alloc (.cells #[.slice c.n.ao c.n.len c.n.cap, .slice c.g.ao c.g.len c.g.cap, .slice c.fs.ao c.fs.len c.fs.cap] 28) = u1 at *
  have f14 := H1.out.bF.cell 14 rfl
  by_cases a1 : a < 0
  · have HE : Hid ((R1, R2) = ((0 : Int), (0 : Int))) := by show _ = _; rw [HX.out, if_pos (Or.inl a1)]
    go_enter Tryd.func14, Tryd.ntmps14
    go_wp2
    go_ret2
    exact ⟨ret_two (congrArg Prod.fst HE.out).symm (congrArg Prod.snd HE.out).symm, H1.out.bl⟩
  by_cases a2 : (f.cd.len : Int) ≤ a
  · have HE : Hid ((R1, R2) = ((0 : Int), (0 : Int))) := by show _ = _; rw [HX.out, if_pos (Or.inr a2)]
    go_enter Tryd.func14, Tryd.ntmps14
    go_wp2
    go_ret2
    exact ⟨ret_two (congrArg Prod.fst HE.out).symm (congrArg Prod.snd HE.out).symm, H1.out.bl⟩
  obtain ⟨k, rfl⟩ : ∃ k : Nat, a = k := ⟨a.toNat, by omega⟩
  have hk : k < f.cd.len := by omega
  have HX2 : Hid ((R1, R2) = popI c (f.cd.x k)) := by show _ = _; rw [HX.out, if_neg (by omega)]; rfl
  have ik : (k : Int) < f.cd.len := by omega
  clear a1 a2 HX
  rw [HNIL.out (by omega)] at f14
  have r0 := H1.out.f.cd.row k hk
  have HPI : Hid (popI c (f.cd.x k) = if (f.cd.x k).op < 1 ∨ 27 < (f.cd.x k).op then (0, 0) else if (f.cd.x k).op = 17 then (if btw (f.cd.x k).a 0 c.fs.len = true then (((c.fs.x (f.cd.x k).a.toNat).c.len : Int), 1) else (0, 0)) else (tkF (f.cd.x k).op, puF (f.cd.x k).op)) := rfl
  rw [HPI.out] at HX2
  clear HPI
  go_enter Tryd.func14, Tryd.ntmps14
  generalize f.cd.x k = x at *
  go_upto_region 4 with (first | (refine wpList_load_mid rfl 48 (.tmp 21) rfl f.cd.b (f.cd.o + k * 7) (by kernel_rfl) x.vs _ r0 Tryd.underlying48 rfl (by kernel_rfl) ?_) | (refine wpList_new_mid rfl rfl 48 rfl (.tmp 8) (.tmp 22) rfl z_ins (alloc_ins _) rfl x.vs.toArray (by kernel_rfl) (by kernel_rfl) rfl (by kernel_rfl) (by simpa using x.vs_one) ?_))
  simp only [Act.put, List.setIfInBounds_toArray, List.set_cons_succ, List.set_cons_zero]
  have B1 := below_alloc u1 (.cells x.vs.toArray 48)
  have HS := hyd (show Sb w c f (w.heap.size + 1) w.heap.size _ ∧ Blk _ u1.heap.size x.vs 48 from ⟨H1.out.kept B1, Blk.new u1 _ _⟩)
  clear H1 hw0 hw1 hs r0 f14 B1
  generalize u1.alloc (.cells x.vs.toArray 48) = u2 at *
  generalize u1.heap.size = BI at *
  have d0 := HS.out.2.cell 0 rfl
  have d1 := HS.out.2.cell 1 rfl
  have e2 := HS.out.1.bC.cell 2 rfl
  by_cases o3 : x.op = 17
  · have HX3 : Hid ((R1, R2) = if btw x.a 0 c.fs.len = true then (((c.fs.x x.a.toNat).c.len : Int), 1) else (0, 0)) := by show _ = _; rw [HX2.out, if_neg (by omega), if_pos o3]
    rw [o3] at d0
    clear HX2 o3
    by_cases l1 : 0 ≤ x.a
    · by_cases l2 : x.a < (c.fs.len : Int)
      · obtain ⟨m, hm⟩ : ∃ m : Nat, x.a = m := ⟨x.a.toNat, by omega⟩
        have HE : Hid ((R1, R2) = (((c.fs.x m).c.len : Int), (1 : Int))) := by show _ = _; rw [HX3.out, if_pos (by unfold btw; rw [decide_eq_true l1, decide_eq_true l2]; rfl), hm]; rfl
        have hml : m < c.fs.len := by omega
        have iml : (m : Int) < c.fs.len := by omega
        have im0 : (0 : Int) ≤ m := by omega
        rw [hm] at d1
        rw [HNF.out (by omega)] at e2
        have q0 := range_kept (HD.out.1.fs.row m hml) HS.out.1.bl 10 _ rfl
        clear l1 l2 hm HX3
        go_wp2
        go_ret2
        exact ⟨ret_two (congrArg Prod.fst HE.out).symm (congrArg Prod.snd HE.out).symm, HS.out.1.bl⟩
      · have HE : Hid ((R1, R2) = ((0 : Int), (0 : Int))) := by show _ = _; rw [HX3.out, if_neg (by unfold btw; rw [decide_eq_false l2]; simp)]
        clear HX3
        go_wp2
        go_ret2
        exact ⟨ret_two (congrArg Prod.fst HE.out).symm (congrArg Prod.snd HE.out).symm, HS.out.1.bl⟩
    · have HE : Hid ((R1, R2) = ((0 : Int), (0 : Int))) := by show _ = _; rw [HX3.out, if_neg (by unfold btw; rw [decide_eq_false l1]; simp)]
      clear HX3
      go_wp2
      go_ret2
      exact ⟨ret_two (congrArg Prod.fst HE.out).symm (congrArg Prod.snd HE.out).symm, HS.out.1.bl⟩
  have n17 : (x.op == 17) = false := by simpa using o3
  by_cases o : x.op = 1
  · have HE : Hid ((R1, R2) = ((0 : Int), (1 : Int))) := by show _ = _; rw [HX2.out, o]; rfl
    rw [o] at d0
    clear HX2 o o3 n17 
    go_wp2
    go_ret2
    exact ⟨ret_two (congrArg Prod.fst HE.out).symm (congrArg Prod.snd HE.out).symm, HS.out.1.bl⟩
  have n1 : (x.op == 1) = false := by simpa using o
  have m1 : x.op ≠ 1 := o
  clear o
  by_cases o : x.op = 2
  · have HE : Hid ((R1, R2) = ((0 : Int), (1 : Int))) := by show _ = _; rw [HX2.out, o]; rfl
    rw [o] at d0
    clear HX2 o o3 n17 n1
    go_wp2
    go_ret2
    exact ⟨ret_two (congrArg Prod.fst HE.out).symm (congrArg Prod.snd HE.out).symm, HS.out.1.bl⟩
  have n2 : (x.op == 2) = false := by simpa using o
  have m2 : x.op ≠ 2 := o
  clear o
  by_cases o : x.op = 3
  · have HE : Hid ((R1, R2) = ((0 : Int), (1 : Int))) := by show _ = _; rw [HX2.out, o]; rfl
    rw [o] at d0
    clear HX2 o o3 n17 n1 n2
    go_wp2
    go_ret2
    exact ⟨ret_two (congrArg Prod.fst HE.out).symm (congrArg Prod.snd HE.out).symm, HS.out.1.bl⟩
  have n3 : (x.op == 3) = false := by simpa using o
  have m3 : x.op ≠ 3 := o
  clear o
  by_cases o : x.op = 18
  · have HE : Hid ((R1, R2) = ((0 : Int), (1 : Int))) := by show _ = _; rw [HX2.out, o]; rfl
    rw [o] at d0
    clear HX2 o o3 n17 n1 n2 n3
    go_wp2
    go_ret2
    exact ⟨ret_two (congrArg Prod.fst HE.out).symm (congrArg Prod.snd HE.out).symm, HS.out.1.bl⟩
  have n18 : (x.op == 18) = false := by simpa using o
  have m18 : x.op ≠ 18 := o
  clear o
  by_cases o : x.op = 4
  · have HE : Hid ((R1, R2) = ((1 : Int), (0 : Int))) := by show _ = _; rw [HX2.out, o]; rfl
    rw [o] at d0
    clear HX2 o o3 n17 n1 n2 n3 n18
    go_wp2
    go_ret2
    exact ⟨ret_two (congrArg Prod.fst HE.out).symm (congrArg Prod.snd HE.out).symm, HS.out.1.bl⟩
  have n4 : (x.op == 4) = false := by simpa using o
  have m4 : x.op ≠ 4 := o
  clear o
  by_cases o : x.op = 5
  · have HE : Hid ((R1, R2) = ((1 : Int), (0 : Int))) := by show _ = _; rw [HX2.out, o]; rfl
    rw [o] at d0
    clear HX2 o o3 n17 n1 n2 n3 n18 n4
    go_wp2
    go_ret2
    exact ⟨ret_two (congrArg Prod.fst HE.out).symm (congrArg Prod.snd HE.out).symm, HS.out.1.bl⟩
  have n5 : (x.op == 5) = false := by simpa using o
  have m5 : x.op ≠ 5 := o
  clear o
  by_cases o : x.op = 23
  · have HE : Hid ((R1, R2) = ((1 : Int), (0 : Int))) := by show _ = _; rw [HX2.out, o]; rfl
    rw [o] at d0
    clear HX2 o o3 n17 n1 n2 n3 n18 n4 n5
    go_wp2
    go_ret2
    exact ⟨ret_two (congrArg Prod.fst HE.out).symm (congrArg Prod.snd HE.out).symm, HS.out.1.bl⟩
  have n23 : (x.op == 23) = false := by simpa using o
  have m23 : x.op ≠ 23 := o
  clear o
  by_cases o : x.op = 25
  · have HE : Hid ((R1, R2) = ((1 : Int), (0 : Int))) := by show _ = _; rw [HX2.out, o]; rfl
    rw [o] at d0
    clear HX2 o o3 n17 n1 n2 n3 n18 n4 n5 n23
    go_wp2
    go_ret2
    exact ⟨ret_two (congrArg Prod.fst HE.out).symm (congrArg Prod.snd HE.out).symm, HS.out.1.bl⟩
  have n25 : (x.op == 25) = false := by simpa using o
  have m25 : x.op ≠ 25 := o
  clear o
  by_cases o : x.op = 26
  · have HE : Hid ((R1, R2) = ((1 : Int), (0 : Int))) := by show _ = _; rw [HX2.out, o]; rfl
    rw [o] at d0
    clear HX2 o o3 n17 n1 n2 n3 n18 n4 n5 n23 n25
    go_wp2
    go_ret2
    exact ⟨ret_two (congrArg Prod.fst HE.out).symm (congrArg Prod.snd HE.out).symm, HS.out.1.bl⟩
  have n26 : (x.op == 26) = false := by simpa using o
  have m26 : x.op ≠ 26 := o
  clear o
  by_cases o : x.op = 27
  · have HE : Hid ((R1, R2) = ((1 : Int), (0 : Int))) := by show _ = _; rw [HX2.out, o]; rfl
    rw [o] at d0
    clear HX2 o o3 n17 n1 n2 n3 n18 n4 n5 n23 n25 n26
    go_wp2
    go_ret2
    exact ⟨ret_two (congrArg Prod.fst HE.out).symm (congrArg Prod.snd HE.out).symm, HS.out.1.bl⟩
  have n27 : (x.op == 27) = false := by simpa using o
  have m27 : x.op ≠ 27 := o
  clear o
  by_cases o : x.op = 6
  · have HE : Hid ((R1, R2) = ((2 : Int), (1 : Int))) := by show _ = _; rw [HX2.out, o]; rfl
    rw [o] at d0
    clear HX2 o o3 n17 n1 n2 n3 n18 n4 n5 n23 n25 n26 n27
    go_wp2
    go_ret2
    exact ⟨ret_two (congrArg Prod.fst HE.out).symm (congrArg Prod.snd HE.out).symm, HS.out.1.bl⟩
  have n6 : (x.op == 6) = false := by simpa using o
  have m6 : x.op ≠ 6 := o
  clear o
  by_cases o : x.op = 7
  · have HE : Hid ((R1, R2) = ((2 : Int), (1 : Int))) := by show _ = _; rw [HX2.out, o]; rfl
    rw [o] at d0
    clear HX2 o o3 n17 n1 n2 n3 n18 n4 n5 n23 n25 n26 n27 n6
    go_wp2
    go_ret2
    exact ⟨ret_two (congrArg Prod.fst HE.out).symm (congrArg Prod.snd HE.out).symm, HS.out.1.bl⟩
  have n7 : (x.op == 7) = false := by simpa using o
  have m7 : x.op ≠ 7 := o
  clear o
  by_cases o : x.op = 8
  · have HE : Hid ((R1, R2) = ((2 : Int), (1 : Int))) := by show _ = _; rw [HX2.out, o]; rfl
    rw [o] at d0
    clear HX2 o o3 n17 n1 n2 n3 n18 n4 n5 n23 n25 n26 n27 n6 n7
    go_wp2
    go_ret2
    exact ⟨ret_two (congrArg Prod.fst HE.out).symm (congrArg Prod.snd HE.out).symm, HS.out.1.bl⟩
  have n8 : (x.op == 8) = false := by simpa using o
  have m8 : x.op ≠ 8 := o
  clear o
  by_cases o : x.op = 9
  · have HE : Hid ((R1, R2) = ((2 : Int), (1 : Int))) := by show _ = _; rw [HX2.out, o]; rfl
    rw [o] at d0
    clear HX2 o o3 n17 n1 n2 n3 n18 n4 n5 n23 n25 n26 n27 n6 n7 n8
    go_wp2
    go_ret2
    exact ⟨ret_two (congrArg Prod.fst HE.out).symm (congrArg Prod.snd HE.out).symm, HS.out.1.bl⟩
  have n9 : (x.op == 9) = false := by simpa using o
  have m9 : x.op ≠ 9 := o
  clear o
  by_cases o : x.op = 10
  · have HE : Hid ((R1, R2) = ((2 : Int), (1 : Int))) := by show _ = _; rw [HX2.out, o]; rfl
    rw [o] at d0
    clear HX2 o o3 n17 n1 n2 n3 n18 n4 n5 n23 n25 n26 n27 n6 n7 n8 n9
    go_wp2
    go_ret2
    exact ⟨ret_two (congrArg Prod.fst HE.out).symm (congrArg Prod.snd HE.out).symm, HS.out.1.bl⟩
  have n10 : (x.op == 10) = false := by simpa using o
  have m10 : x.op ≠ 10 := o
  clear o
  by_cases o : x.op = 11
  · have HE : Hid ((R1, R2) = ((2 : Int), (1 : Int))) := by show _ = _; rw [HX2.out, o]; rfl
    rw [o] at d0
    clear HX2 o o3 n17 n1 n2 n3 n18 n4 n5 n23 n25 n26 n27 n6 n7 n8 n9 n10
    go_wp2
    go_ret2
    exact ⟨ret_two (congrArg Prod.fst HE.out).symm (congrArg Prod.snd HE.out).symm, HS.out.1.bl⟩
  have n11 : (x.op == 11) = false := by simpa using o
  have m11 : x.op ≠ 11 := o
  clear o
  by_cases o : x.op = 12
  · have HE : Hid ((R1, R2) = ((2 : Int), (1 : Int))) := by show _ = _; rw [HX2.out, o]; rfl
    rw [o] at d0
    clear HX2 o o3 n17 n1 n2 n3 n18 n4 n5 n23 n25 n26 n27 n6 n7 n8 n9 n10 n11
    go_wp2
    go_ret2
    exact ⟨ret_two (congrArg Prod.fst HE.out).symm (congrArg Prod.snd HE.out).symm, HS.out.1.bl⟩
  have n12 : (x.op == 12) = false := by simpa using o
  have m12 : x.op ≠ 12 := o
  clear o
  by_cases o : x.op = 14
  · have HE : Hid ((R1, R2) = ((2 : Int), (1 : Int))) := by show _ = _; rw [HX2.out, o]; rfl
    rw [o] at d0
    clear HX2 o o3 n17 n1 n2 n3 n18 n4 n5 n23 n25 n26 n27 n6 n7 n8 n9 n10 n11 n12
    go_wp2
    go_ret2
    exact ⟨ret_two (congrArg Prod.fst HE.out).symm (congrArg Prod.snd HE.out).symm, HS.out.1.bl⟩
  have n14 : (x.op == 14) = false := by simpa using o
  have m14 : x.op ≠ 14 := o
  clear o
  by_cases o : x.op = 19
  · have HE : Hid ((R1, R2) = ((2 : Int), (1 : Int))) := by show _ = _; rw [HX2.out, o]; rfl
    rw [o] at d0
    clear HX2 o o3 n17 n1 n2 n3 n18 n4 n5 n23 n25 n26 n27 n6 n7 n8 n9 n10 n11 n12 n14
    go_wp2
    go_ret2
    exact ⟨ret_two (congrArg Prod.fst HE.out).symm (congrArg Prod.snd HE.out).symm, HS.out.1.bl⟩
  have n19 : (x.op == 19) = false := by simpa using o
  have m19 : x.op ≠ 19 := o
  clear o
  by_cases o : x.op = 13
  · have HE : Hid ((R1, R2) = ((1 : Int), (1 : Int))) := by show _ = _; rw [HX2.out, o]; rfl
    rw [o] at d0
    clear HX2 o o3 n17 n1 n2 n3 n18 n4 n5 n23 n25 n26 n27 n6 n7 n8 n9 n10 n11 n12 n14 n19
    go_wp2
    go_ret2
    exact ⟨ret_two (congrArg Prod.fst HE.out).symm (congrArg Prod.snd HE.out).symm, HS.out.1.bl⟩
  have n13 : (x.op == 13) = false := by simpa using o
  have m13 : x.op ≠ 13 := o
  clear o
  by_cases o : x.op = 15
  · have HE : Hid ((R1, R2) = ((1 : Int), (1 : Int))) := by show _ = _; rw [HX2.out, o]; rfl
    rw [o] at d0
    clear HX2 o o3 n17 n1 n2 n3 n18 n4 n5 n23 n25 n26 n27 n6 n7 n8 n9 n10 n11 n12 n14 n19 n13
    go_wp2
    go_ret2
    exact ⟨ret_two (congrArg Prod.fst HE.out).symm (congrArg Prod.snd HE.out).symm, HS.out.1.bl⟩
  have n15 : (x.op == 15) = false := by simpa using o
  have m15 : x.op ≠ 15 := o
  clear o
  by_cases o : x.op = 16
  · have HE : Hid ((R1, R2) = ((1 : Int), (1 : Int))) := by show _ = _; rw [HX2.out, o]; rfl
    rw [o] at d0
    clear HX2 o o3 n17 n1 n2 n3 n18 n4 n5 n23 n25 n26 n27 n6 n7 n8 n9 n10 n11 n12 n14 n19 n13 n15
    go_wp2
    go_ret2
    exact ⟨ret_two (congrArg Prod.fst HE.out).symm (congrArg Prod.snd HE.out).symm, HS.out.1.bl⟩
  have n16 : (x.op == 16) = false := by simpa using o
  have m16 : x.op ≠ 16 := o
  clear o
  by_cases o : x.op = 20
  · have HE : Hid ((R1, R2) = ((1 : Int), (1 : Int))) := by show _ = _; rw [HX2.out, o]; rfl
    rw [o] at d0
    clear HX2 o o3 n17 n1 n2 n3 n18 n4 n5 n23 n25 n26 n27 n6 n7 n8 n9 n10 n11 n12 n14 n19 n13 n15 n16
    go_wp2
    go_ret2
    exact ⟨ret_two (congrArg Prod.fst HE.out).symm (congrArg Prod.snd HE.out).symm, HS.out.1.bl⟩
  have n20 : (x.op == 20) = false := by simpa using o
  have m20 : x.op ≠ 20 := o
  clear o
  by_cases o : x.op = 21
  · have HE : Hid ((R1, R2) = ((1 : Int), (1 : Int))) := by show _ = _; rw [HX2.out, o]; rfl
    rw [o] at d0
    clear HX2 o o3 n17 n1 n2 n3 n18 n4 n5 n23 n25 n26 n27 n6 n7 n8 n9 n10 n11 n12 n14 n19 n13 n15 n16 n20
    go_wp2
    go_ret2
    exact ⟨ret_two (congrArg Prod.fst HE.out).symm (congrArg Prod.snd HE.out).symm, HS.out.1.bl⟩
  have n21 : (x.op == 21) = false := by simpa using o
  have m21 : x.op ≠ 21 := o
  clear o
  by_cases o : x.op = 22
  · have HE : Hid ((R1, R2) = ((2 : Int), (0 : Int))) := by show _ = _; rw [HX2.out, o]; rfl
    rw [o] at d0
    clear HX2 o o3 n17 n1 n2 n3 n18 n4 n5 n23 n25 n26 n27 n6 n7 n8 n9 n10 n11 n12 n14 n19 n13 n15 n16 n20 n21
    go_wp2
    go_ret2
    exact ⟨ret_two (congrArg Prod.fst HE.out).symm (congrArg Prod.snd HE.out).symm, HS.out.1.bl⟩
  have n22 : (x.op == 22) = false := by simpa using o
  have m22 : x.op ≠ 22 := o
  clear o
  by_cases o : x.op = 24
  · have HE : Hid ((R1, R2) = ((0 : Int), (0 : Int))) := by show _ = _; rw [HX2.out, o]; rfl
    rw [o] at d0
    clear HX2 o o3 n17 n1 m1 n2 m2 n3 m3 n18 m18 n4 m4 n5 m5 n23 m23 n25 m25 n26 m26 n27 m27 n6 m6 n7 m7 n8 m8 n9 m9 n10 m10 n11 m11 n12 m12 n14 m14 n19 m19 n13 m13 n15 m15 n16 m16 n20 m20 n21 m21 n22 m22
    go_wp2
    go_ret2
    exact ⟨ret_two (congrArg Prod.fst HE.out).symm (congrArg Prod.snd HE.out).symm, HS.out.1.bl⟩
  have HE : Hid ((R1, R2) = ((0 : Int), (0 : Int))) := by show _ = _; rw [HX2.out, if_pos (by omega)]
  clear HX2 o o3 m1 m2 m3 m18 m4 m5 m23 m25 m26 m27 m6 m7 m8 m9 m10 m11 m12 m14 m19 m13 m15 m16 m20 m21 m22
  go_wp2
  go_ret2
  exact ⟨ret_two (congrArg Prod.fst HE.out).symm (congrArg Prod.snd HE.out).symm, HS.out.1.bl⟩
end Go.Proofs.YtdplabhgdonbiaaDoor

/- Layer 14: the statement FormPops, walked. -/
namespace Go.Proofs.YtdplabhgdonbiaaDoor
open Go Go.RowKit

set_option maxRecDepth 100000 in
set_option maxHeartbeats 16000000 in
theorem formPops_any (c : Kl) (f : Cf) (x : Int) (w : World) (hc : c.At w) (hf : f.At w) (_hx : I64 x) (hO : Og w) (hT : Pg2 w) : Calls Tryd.prog 4 #[.agg #[.slice c.n.ao c.n.len c.n.cap, .slice c.g.ao c.g.len c.g.cap, .slice c.fs.ao c.fs.len c.fs.cap], .agg f.vs.toArray, .int .i64 x] w fun e w' => e = .returned (.bool true) ∧ Below w.heap.size w w' := by
  have H0 := hyd (Sb.new w c f hf)
  have HD := hyd (show c.At w ∧ Og w ∧ Pg2 w from ⟨hc, hO, hT⟩)
  have h0 := awake14_any _ (hO.kept H0.out.bl)
  have hbd := hf.cd.bound
  clear hc hO hT hf _hx
  have hs := alloc_size w (.cells #[.slice c.n.ao c.n.len c.n.cap, .slice c.g.ao c.g.len c.g.cap, .slice c.fs.ao c.fs.len c.fs.cap] 28)
  generalize hw0 : w.alloc (.cells #[.slice c.n.ao c.n.len c.n.cap, .slice c.g.ao c.g.len c.g.cap, .slice c.fs.ao c.fs.len c.fs.cap] 28) = u0 at *
  generalize hw1 : u0.alloc (.cells f.vs.toArray 43) = u1 at *
  go_enter Tryd.func4, Tryd.ntmps4
  go_wp2_with fail
  refine h0.mono ?_
  rintro _ u2 ⟨rfl, hb⟩
  have H1 := hyd (H0.out.kept hb)
  clear h0 hb H0 hw0 hw1 hs
  have c0 := H1.out.bC.cell 0 rfl
  have c1 := H1.out.bC.cell 1 rfl
  have c2 := H1.out.bC.cell 2 rfl
  have h0 := rFew_any c 1500 u2 (Kl.At.kept H1.out.bl HD.out.1)
  go_wp2_with fail
  refine h0.mono ?_
  rintro e u3 ⟨⟨bb, rfl, _⟩, hb⟩
  have H2 := hyd (H1.out.kept hb)
  clear h0 hb H1 c0 c1 c2
  cases bb
  · have h0 := awake14_any u3 (HD.out.2.1.kept H2.out.bl)
    go_wp2_with fail
    refine h0.mono ?_
    rintro _ u4 ⟨rfl, hb⟩
    have H3 := hyd (Below.next H2.out.bl hb)
    clear h0 hb
    go_wp2
    go_ret
    exact ⟨rfl, H3.out⟩
  have f14 := H2.out.bF.cell 14 rfl
  by_cases hl : (1000 : Int) < f.cd.len
  · have h0 := awake14_any u3 (HD.out.2.1.kept H2.out.bl)
    go_wp2_with fail
    refine h0.mono ?_
    rintro _ u4 ⟨rfl, hb⟩
    have H3 := hyd (Below.next H2.out.bl hb)
    clear h0 hb
    go_wp2
    go_ret
    exact ⟨rfl, H3.out⟩
  go_wp2
  have HLen : Hid (f.cd.len ≤ 1000) := by show _ ≤ _; omega
  clear f14 hl
  go_loopw [7] (fun i wr => ∃ (j : Int), -1 ≤ j ∧ j ≤ (f.cd.len : Int) + 1 ∧ i = .int .i64 j ∧ Sb w c f w.heap.size (w.heap.size + 1) wr) (fun i _ => ((f.cd.len : Int) + 1 - intOf i).toNat)
  case atStart => exact ⟨-1, by omega, by omega, rfl, H2.out⟩
  case round =>
    clear H2
    obtain ⟨j, hj1, hj2, rfl, hS⟩ := hrel
    have HS := hyd hS
    clear hS
    have f14 := HS.out.bF.cell 14 rfl
    generalize hBF : w.heap.size + 1 = BF at *
    by_cases hlt : j ≤ (f.cd.len : Int)
    · have HV := hyd (rpops_any c f j)
      have h0 := pops_any c f j wr (Kl.At.kept HS.out.bl HD.out.1) HS.out.f (HD.out.2.2.kept HS.out.bl)
      generalize popV c f j = R at *
      obtain ⟨R1, R2⟩ := R
      have c0 := HS.out.bC.cell 0 rfl
      have c1 := HS.out.bC.cell 1 rfl
      have c2 := HS.out.bC.cell 2 rfl
      have rF := HS.out.bF.range
      go_wp2_with (refine wpList_load_mid rfl 43 (.tmp 4) rfl BF 0 (by kernel_rfl) f.vs _ rF Tryd.underlying43 rfl (by kernel_rfl) ?_)
      refine h0.mono ?_
      rintro _ u4 ⟨rfl, hb⟩
      have HS2 := hyd (HS.out.kept hb)
      clear h0 hb HS c0 c1 c2 rF f14
      have h0 := HV.out u4 (Kl.At.kept HS2.out.bl HD.out.1) HS2.out.f
      have c0 := HS2.out.bC.cell 0 rfl
      have c1 := HS2.out.bC.cell 1 rfl
      have c2 := HS2.out.bC.cell 2 rfl
      have rF := HS2.out.bF.range
      go_wp2_with (refine wpList_load_mid rfl 43 (.tmp 4) rfl BF 0 (by kernel_rfl) f.vs _ rF Tryd.underlying43 rfl (by kernel_rfl) ?_)
      refine h0.mono ?_
      rintro _ u5 ⟨rfl, hb⟩
      have HS3 := hyd (HS2.out.kept hb)
      clear h0 hb HS2 c0 c1 c2 rF HV
      have e1 : (R1 != R1) = false := by simp
      have e2 : (R2 != R2) = false := by simp
      have hl := HLen.out
      go_wp2
      subst hBF
      go_roundw
      case rel => exact ⟨j + 1, by omega, by omega, by go_num, HS3.out⟩
      case measure => simp [intOf]; omega
    · have HV := hyd (rpops_any c f x)
      have h0 := pops_any c f x wr (Kl.At.kept HS.out.bl HD.out.1) HS.out.f (HD.out.2.2.kept HS.out.bl)
      generalize popV c f x = R at *
      obtain ⟨R1, R2⟩ := R
      have c0 := HS.out.bC.cell 0 rfl
      have c1 := HS.out.bC.cell 1 rfl
      have c2 := HS.out.bC.cell 2 rfl
      have rF := HS.out.bF.range
      go_wp2_with (refine wpList_load_mid rfl 43 (.tmp 4) rfl BF 0 (by kernel_rfl) f.vs _ rF Tryd.underlying43 rfl (by kernel_rfl) ?_)
      refine h0.mono ?_
      rintro _ u4 ⟨rfl, hb⟩
      have HS2 := hyd (HS.out.kept hb)
      clear h0 hb HS c0 c1 c2 rF f14
      have h0 := HV.out u4 (Kl.At.kept HS2.out.bl HD.out.1) HS2.out.f
      have c0 := HS2.out.bC.cell 0 rfl
      have c1 := HS2.out.bC.cell 1 rfl
      have c2 := HS2.out.bC.cell 2 rfl
      have rF := HS2.out.bF.range
      go_wp2_with (refine wpList_load_mid rfl 43 (.tmp 4) rfl BF 0 (by kernel_rfl) f.vs _ rF Tryd.underlying43 rfl (by kernel_rfl) ?_)
      refine h0.mono ?_
      rintro _ u5 ⟨rfl, hb⟩
      have HS3 := hyd (HS2.out.kept hb)
      clear h0 hb HS2 c0 c1 c2 rF HV
      go_wp2
      go_ret
      exact ⟨rfl, HS3.out.bl⟩
end Go.Proofs.YtdplabhgdonbiaaDoor

/- Layer 14: what FormPops' row says of the variables takes and puts. -/
namespace Go.Proofs.YtdplabhgdonbiaaDoor
open Go.RowKit

theorem tk_data : (Rows.laid_palisade_shape_takes : DataW Unit) = Lib.tabData .i64 tkL := by kernel_rfl
theorem pu_data : (Rows.laid_palisade_shape_puts : DataW Unit) = Lib.tabData .i64 puL := by kernel_rfl
theorem Tryd.gTN : Tryd.prog.globalNamed "palisade/shape.takes" = some 0 := by kernel_rfl
theorem Tryd.gTTy : (Tryd.prog.globals[0]?).map (·.type) = some 68 := by kernel_rfl
theorem Tryd.gUN : Tryd.prog.globalNamed "palisade/shape.puts" = some 1 := by kernel_rfl
theorem Tryd.gUTy : (Tryd.prog.globals[1]?).map (·.type) = some 68 := by kernel_rfl
theorem tkL_get (i : Nat) (h : i < 28) : tkL[i]? = some (tkF i) := by
  have := (show (List.range 28).all (fun i => tkL[i]? == some (tkF i)) = true by decide)
  have h2 := List.all_eq_true.1 this i (List.mem_range.2 h)
  simpa using h2
theorem puL_get (i : Nat) (h : i < 28) : puL[i]? = some (puF i) := by
  have := (show (List.range 28).all (fun i => puL[i]? == some (puF i)) = true by decide)
  have h2 := List.all_eq_true.1 this i (List.mem_range.2 h)
  simpa using h2
theorem pg_of_tail {W : World} {p : String × DataW Unit} {rest : List (String × DataW Unit)} (h : laidMet Tryd.prog (p :: ("palisade/shape.takes", Rows.laid_palisade_shape_takes) :: ("palisade/shape.puts", Rows.laid_palisade_shape_puts) :: rest) W) : Pg2 W := by
  have h1 := h.tail
  have h2 := h1.tail
  refine ⟨fun i hi => ?_, fun i hi => ?_⟩
  · rw [tab_head tk_data Tryd.gTN Tryd.gTTy h1 i, List.getElem?_map, tkL_get i hi]
    rfl
  · rw [tab_head pu_data Tryd.gUN Tryd.gUTy h2 i, List.getElem?_map, puL_get i hi]
    rfl
end Go.Proofs.YtdplabhgdonbiaaDoor
