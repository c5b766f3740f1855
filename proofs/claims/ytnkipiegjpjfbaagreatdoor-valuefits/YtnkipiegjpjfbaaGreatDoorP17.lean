/- Layer 3: the reference's Few, the statements' few. -/
import Derived.Test.YtnkipiegjpjfbaaGreatDoorP14
import Derived.Test.YtnkipiegjpjfbaaGreatDoorP11
import Derived.Test.YtnkipiegjpjfbaaGreatDoorP3
import Derived.Test.YtnkipiegjpjfbaaGreatDoorP16
namespace Go.Proofs.YtnkipiegjpjfbaaGreatDoor
open Go.RowKit

/-- What Few answers. -/
def FewP (w : World) (cs : Cs) (e : Ending) (w' : World) : Prop := ∃ r : Bool, e = .returned (.bool r) ∧ (r = true → ∀ i, i < cs.len → (cs.t i).nodes ≤ 40) ∧ Below w.heap.size w w'
theorem FewP.no {w : World} {cs : Cs} {w' : World} (h : Below w.heap.size w w') : FewP w cs (.returned (.bool false)) w' := ⟨false, rfl, fun h => Bool.noConfusion h, h⟩

set_option maxRecDepth 100000 in
set_option maxHeartbeats 8000000 in
theorem rFew_any (fs : Fs) (cs : Cs) (w : World) (hf : fs.At w) (hc : cs.At w) :
    Calls Tryz.prog 16 #[.slice fs.ao fs.len fs.cap, .slice cs.ao cs.len cs.cap] w fun e w' => FewP w cs e w' := by
  obtain ⟨fao, fb, fo, flen, fcap, ff⟩ := fs
  obtain ⟨cao, cb, co, clen, ccap, ct, cv⟩ := cs
  show Calls Tryz.prog 16 #[.slice fao flen fcap, .slice cao clen ccap] w fun e w' => FewP w ⟨cao, cb, co, clen, ccap, ct, cv⟩ e w'
  have b1 : flen ≤ 9223372036854775807 := hf.bound
  have b2 : clen ≤ 9223372036854775807 := hc.bound
  have HF : Hid (Fs.At w ⟨fao, fb, fo, flen, fcap, ff⟩) := hf
  have HC : Hid (Cs.At w ⟨cao, cb, co, clen, ccap, ct, cv⟩) := hc
  clear hf hc
  by_cases l1 : (flen : Int) ≤ 70
  · by_cases l2 : (clen : Int) ≤ 200
    · have n1 : ¬ (70 : Int) < flen := by omega
      have n2 : ¬ (200 : Int) < clen := by omega
      go_enter Tryz.func16, Tryz.ntmps16
      go_wp2
      go_loopw [5] (fun i wr => ∃ j : Nat, j ≤ flen ∧ i = .int .i64 j ∧ Hid (Below w.heap.size w wr)) (fun i _ => flen - (intOf i).toNat)
      case atStart => exact ⟨0, Nat.zero_le _, rfl, Below.refl _ _⟩
      case round =>
        obtain ⟨j, hj, rfl, HW⟩ := hrel
        by_cases hlt : j < flen
        · have ij : (j : Int) < flen := by omega
          have j0 : (0 : Int) ≤ j := by omega
          have a0 : fao = some ⟨fb, fo, none⟩ := HF.out.nil (by show 0 < flen; omega)
          subst a0
          have C : F18 wr fb (fo + j * 18) (ff j) := (HF.out.cells j hlt).kept HW.out
          have P : (ff j).At wr := (HF.out.part j hlt).kept HW.out
          have c0 := C.c0
          have c1 := C.c1
          have c2 := C.c2
          have c3 := C.c3
          have c4 := C.c4
          clear C
          go_wp2_with fail
          refine (rSmall2_any (ff j).p _ P.p).mono ?_
          rintro e w1 ⟨rfl, hb1⟩
          have HW1 : Hid (Below w.heap.size w w1) := Below.next HW.out hb1
          have P1 := P.kept hb1
          clear c0 c1 c2 c3 c4 P hb1
          by_cases s1 : (ff j).p.nodes ≤ 40
          · rw [decide_eq_true s1]
            have C : F18 w1 fb (fo + j * 18) (ff j) := (HF.out.cells j hlt).kept HW1.out
            have c5 := C.c5
            have c6 := C.c6
            have c7 := C.c7
            have c8 := C.c8
            have c9 := C.c9
            clear C s1
            go_wp2_with fail
            refine (rSmall2_any (ff j).r _ P1.r).mono ?_
            rintro e w2 ⟨rfl, hb2⟩
            have HW2 : Hid (Below w.heap.size w w2) := Below.next HW1.out hb2
            have P2 := P1.kept hb2
            clear c5 c6 c7 c8 c9 P1 hb2
            by_cases s2 : (ff j).r.nodes ≤ 40
            · rw [decide_eq_true s2]
              have C : F18 w2 fb (fo + j * 18) (ff j) := (HF.out.cells j hlt).kept HW2.out
              have c10 := C.c10
              have cb := P2.c.bound
              clear C s2
              by_cases l3 : ((ff j).c.len : Int) ≤ 20
              · have n3 : ¬ (20 : Int) < (ff j).c.len := by omega
                go_wp2
                clear c10
                go_loopw [4, 6] (fun _ i wr => ∃ q : Nat, q ≤ (ff j).c.len ∧ i = .int .i64 q ∧ Hid (Below w.heap.size w wr)) (fun _ i _ => (ff j).c.len - (intOf i).toNat)
                case atStart => exact ⟨0, Nat.zero_le _, rfl, HW2.out⟩
                case round =>
                  obtain ⟨q, hq, rfl, HV⟩ := hrel
                  have C : F18 wr fb (fo + j * 18) (ff j) := (HF.out.cells j hlt).kept HV.out
                  have c10 := C.c10
                  clear C
                  by_cases hql : q < (ff j).c.len
                  · have iq : (q : Int) < (ff j).c.len := by omega
                    have q0 : (0 : Int) ≤ q := by omega
                    have P3 : (ff j).At wr := (HF.out.part j hlt).kept HV.out
                    have a1 := P3.c.nil (by omega)
                    rw [a1] at c10
                    clear a1
                    have D : C5 wr (ff j).c.b ((ff j).c.o + q * 5) ((ff j).c.ps q) := P3.c.cells hql
                    have d0 := D.c0
                    have d1 := D.c1
                    have d2 := D.c2
                    have d3 := D.c3
                    have d4 := D.c4
                    clear D
                    go_wp2_with fail
                    refine (rSmall2_any ((ff j).c.ps q) _ (P3.c.part hql)).mono ?_
                    rintro e w3 ⟨rfl, hb3⟩
                    have HW3 : Hid (Below w.heap.size w w3) := Below.next HV.out hb3
                    clear d0 d1 d2 d3 d4 c10 hb3 P3
                    by_cases s3 : ((ff j).c.ps q).nodes ≤ 40
                    · rw [decide_eq_true s3]
                      clear s3
                      go_wp2
                      go_roundw
                      case rel => exact ⟨q + 1, by omega, by go_num, HW3.out⟩
                      case measure => simp [intOf]; omega
                    · rw [decide_eq_false s3]
                      clear s3
                      go_wp2
                      go_ret
                      exact FewP.no HW3.out
                  · have iq : ¬ (q : Int) < (ff j).c.len := by omega
                    go_wp2
                    go_roundw
                    case rel => exact ⟨j + 1, by omega, by go_num, HV.out⟩
                    case measure => simp [intOf]; omega
              · have n3 : (20 : Int) < (ff j).c.len := by omega
                go_wp2
                go_ret
                exact FewP.no HW2.out
            · rw [decide_eq_false s2]
              clear s2
              go_wp2
              go_ret
              exact FewP.no HW2.out
          · rw [decide_eq_false s1]
            clear s1
            go_wp2
            go_ret
            exact FewP.no HW1.out
        · have ij : ¬ (j : Int) < flen := by omega
          go_wp2
          go_loopw [7, 8] (fun nv i wr => ∃ (j N : Nat), j ≤ clen ∧ i = .int .i64 j ∧ nv = .int .i64 N ∧ N ≤ 5000 ∧ Hid ((∀ i, i < j → (ct i).nodes ≤ 40) ∧ Below w.heap.size w wr)) (fun _ i _ => clen - (intOf i).toNat)
          case atStart => exact ⟨0, 0, Nat.zero_le _, rfl, rfl, by omega, fun _ h => absurd h (Nat.not_lt_zero _), HW.out⟩
          case round =>
            obtain ⟨j, N, hj, rfl, rfl, hN, HV⟩ := hrel
            by_cases hlt : j < clen
            · have ij : (j : Int) < clen := by omega
              have j0 : (0 : Int) ≤ j := by omega
              have a0 : cao = some ⟨cb, co, none⟩ := HC.out.nil (by show 0 < clen; omega)
              subst a0
              have HA : Hid (Cs.At wr ⟨some ⟨cb, co, none⟩, cb, co, clen, ccap, ct, cv⟩) := HC.out.kept HV.out.2
              have D : C3 wr cb (co + j * 8 + 5) (cv j) := HA.out.cv j hlt
              have d0 := D.c0
              have d1 := D.c1
              have d2 := D.c2
              clear D
              go_wp2_with fail
              refine (rvNodes_any (cv j) _ (HA.out.pv j hlt)).mono ?_
              rintro e w1 ⟨rfl, hb1⟩
              have HA1 : Hid (Cs.At w1 ⟨some ⟨cb, co, none⟩, cb, co, clen, ccap, ct, cv⟩ ∧ Below w.heap.size w w1) := ⟨HA.out.kept hb1, Below.next HV.out.2 hb1⟩
              clear d0 d1 d2 hb1 HA
              have u1 : min (cv j).nodes 2001 ≤ 2001 := by omega
              generalize min (cv j).nodes 2001 = U at u1
              have C : C5 w1 cb (co + j * 8) (ct j) := HA1.out.1.ct j hlt
              have c0 := C.c0
              have c1 := C.c1
              have c2 := C.c2
              have c3 := C.c3
              have c4 := C.c4
              clear C
              have iU : ((N : Int) + U) ≤ 7001 := by omega
              go_wp2_with fail
              refine (rSmall2_any (ct j) _ (HA1.out.1.pt j hlt)).mono ?_
              rintro e w2 ⟨rfl, hb2⟩
              have HW2 : Hid (Below w.heap.size w w2) := Below.next HA1.out.2 hb2
              clear c0 c1 c2 c3 c4 hb2
              by_cases s1 : (ct j).nodes ≤ 40
              · rw [decide_eq_true s1]
                have HS : Hid ((ct j).nodes ≤ 40) := s1
                clear s1
                by_cases l3 : (N : Int) + U ≤ 5000
                · have n3 : ¬ (5000 : Int) < N + U := by omega
                  go_wp2
                  go_roundw
                  case rel => exact ⟨j + 1, N + U, by omega, by go_num, by rw [Int.natCast_add], by omega, fun i hi => (by
                      by_cases e : i = j
                      · subst e; exact HS.out
                      · exact HV.out.1 i (by omega)), HW2.out⟩
                  case measure => simp [intOf]; omega
                · have n3 : (5000 : Int) < N + U := by omega
                  go_wp2
                  go_ret
                  exact FewP.no HW2.out
              · rw [decide_eq_false s1]
                clear s1
                go_wp2
                go_ret
                exact FewP.no HW2.out
            · have ij : ¬ (j : Int) < clen := by omega
              have e : clen = j := by omega
              have HE : Hid (∀ i, i < clen → (ct i).nodes ≤ 40) := fun i hi => HV.out.1 i (by omega)
              clear e
              go_wp2
              go_ret
              exact ⟨true, rfl, fun _ => HE.out, HV.out.2⟩
    · have n2 : (200 : Int) < clen := by omega
      have n1 : ¬ (70 : Int) < flen := by omega
      go_enter Tryz.func16, Tryz.ntmps16
      go_wp2
      go_ret
      exact FewP.no (Below.refl _ _)
  · have n1 : (70 : Int) < flen := by omega
    go_enter Tryz.func16, Tryz.ntmps16
    go_wp2
    go_ret
    exact FewP.no (Below.refl _ _)

/-- A variable that holds a lattice, functions and cells. -/
structure Bw (w : World) (B : Nat) (n : Strs) (g : Grid) (fs : Fs) (cs : Cs) : Prop where
  c0 : w.cell? ⟨B, 0, none⟩ = some (.slice n.ao n.len n.cap)
  c1 : w.cell? ⟨B, 1, none⟩ = some (.slice g.ao g.len g.cap)
  c2 : w.cell? ⟨B, 2, none⟩ = some (.slice fs.ao fs.len fs.cap)
  c3 : w.cell? ⟨B, 3, none⟩ = some (.slice cs.ao cs.len cs.cap)
theorem Bw.kept {w w' : World} {B : Nat} {n : Strs} {g : Grid} {fs : Fs} {cs : Cs} (h : Bw w B n g fs cs) (hb : Below w.heap.size w w') : Bw w' B n g fs cs := ⟨up hb h.c0, up hb h.c1, up hb h.c2, up hb h.c3⟩
def woO (n : Strs) (g : Grid) (fs : Fs) (cs : Cs) : Obj := .cells #[.slice n.ao n.len n.cap, .slice g.ao g.len g.cap, .slice fs.ao fs.len fs.cap, .slice cs.ao cs.len cs.cap] 29
theorem Bw.new (w : World) (n : Strs) (g : Grid) (fs : Fs) (cs : Cs) : Bw (w.alloc (woO n g fs cs)) w.heap.size n g fs cs := by
  constructor <;> simp [woO]
/-- All that lies. -/
structure Wo (w : World) (n : Strs) (g : Grid) (fs : Fs) (cs : Cs) : Prop where
  hn : n.At w
  hg : g.At w
  hf : fs.At w
  hc : cs.At w
theorem Wo.kept {w w' : World} {n : Strs} {g : Grid} {fs : Fs} {cs : Cs} (h : Wo w n g fs cs) (hb : Below w.heap.size w w') : Wo w' n g fs cs := ⟨h.hn.kept hb, h.hg.kept hb, h.hf.kept hb, h.hc.kept hb⟩

/-- What few answers. -/
def FewV (w : World) (cs : Cs) (t : Ty) (v : Vl) (e : Ending) (w' : World) : Prop := ∃ r : Bool, e = .returned (.bool r) ∧ (r = true → (∀ i, i < cs.len → (cs.t i).nodes ≤ 40) ∧ t.nodes ≤ 40 ∧ v.nodes ≤ 2000) ∧ Below w.heap.size w w'
theorem FewV.no {w : World} {cs : Cs} {t : Ty} {v : Vl} {w' : World} (h : Below w.heap.size w w') : FewV w cs t v (.returned (.bool false)) w' := ⟨false, rfl, fun h => Bool.noConfusion h, h⟩

set_option maxRecDepth 100000 in
set_option maxHeartbeats 4000000 in
theorem vfew_any (n : Strs) (g : Grid) (fs : Fs) (cs : Cs) (t : Ty) (v : Vl) (w : World) (hw : Wo w n g fs cs) (ht : t.At w) (hv : v.At w) :
    Calls Tryz.prog 5 #[.agg #[.slice n.ao n.len n.cap, .slice g.ao g.len g.cap, .slice fs.ao fs.len fs.cap, .slice cs.ao cs.len cs.cap], .agg #[.int .i64 t.k, .int .i64 t.l, .slice t.ao t.len t.cap, .int .i64 t.h, .int .i64 t.e], .agg #[.int .i64 v.k, .int .i64 v.m, .slice v.ao v.len v.cap]] w fun e w' => FewV w cs t v e w' := by
  have b1 := below_alloc w (woO n g fs cs)
  have b2 := below_alloc (w.alloc (woO n g fs cs)) (tyO t)
  have b3 := below_alloc ((w.alloc (woO n g fs cs)).alloc (tyO t)) (vlO v)
  have e1 : (w.alloc (woO n g fs cs)).heap.size = w.heap.size + 1 := alloc_size _ _
  have e2 : ((w.alloc (woO n g fs cs)).alloc (tyO t)).heap.size = w.heap.size + 2 := by rw [alloc_size, e1]
  have L0 := (Bw.new w n g fs cs).kept (Below.next b2 b3)
  have X0 := (Bx.new (w.alloc (woO n g fs cs)) t).kept b3
  have Y0 := Bv.new ((w.alloc (woO n g fs cs)).alloc (tyO t)) v
  rw [e1] at X0
  rw [e2] at Y0
  have B0 : Below w.heap.size w (((w.alloc (woO n g fs cs)).alloc (tyO t)).alloc (vlO v)) := Below.next (Below.next b1 b2) b3
  have hw0 := hw.kept B0
  have ht0 := ht.kept B0
  have hv0 := hv.kept B0
  clear b1 b2 b3 e1 e2 hw ht hv
  unfold woO tyO vlO at *
  have l0 := L0.c0
  have l1 := L0.c1
  go_enter Tryz.func5, Tryz.ntmps5
  go_wp2_with fail
  refine (small_any n g _ hw0.hn hw0.hg).mono ?_
  rintro e w1 ⟨rfl, hb1⟩
  have L1 := L0.kept hb1
  have X1 := X0.kept hb1
  have Y1 := Y0.kept hb1
  have B1 := Below.next B0 hb1
  have hw1 := hw0.kept hb1
  have ht1 := ht0.kept hb1
  have hv1 := hv0.kept hb1
  clear L0 X0 Y0 B0 hw0 ht0 hv0 hb1 l0 l1
  cases h1 : smallB n g
  · go_wp2
    go_ret
    exact FewV.no B1
  clear h1
  have l2 := L1.c2
  have l3 := L1.c3
  go_wp2_with fail
  refine (rFew_any fs cs _ hw1.hf hw1.hc).mono ?_
  rintro e w2 ⟨r, rfl, hr, hb2⟩
  have HR : Hid (r = true → ∀ i, i < cs.len → (cs.t i).nodes ≤ 40) := hr
  have X2 := X1.kept hb2
  have Y2 := Y1.kept hb2
  have B2 := Below.next B1 hb2
  have ht2 := ht1.kept hb2
  have hv2 := hv1.kept hb2
  clear L1 X1 Y1 B1 hw1 ht1 hv1 hb2 hr l2 l3
  cases r
  · go_wp2
    go_ret
    exact FewV.no B2
  have HR2 : Hid (∀ i, i < cs.len → (cs.t i).nodes ≤ 40) := HR.out rfl
  clear HR
  have x0 := X2.c0
  have x1 := X2.c1
  have x2 := X2.c2
  have x3 := X2.c3
  have x4 := X2.c4
  go_wp2_with fail
  refine (rSmall2_any t _ ht2).mono ?_
  rintro e w3 ⟨rfl, hb3⟩
  have Y3 := Y2.kept hb3
  have B3 := Below.next B2 hb3
  have hv3 := hv2.kept hb3
  clear X2 Y2 B2 ht2 hv2 hb3 x0 x1 x2 x3 x4
  by_cases s1 : t.nodes ≤ 40
  · rw [decide_eq_true s1]
    have HS : Hid (t.nodes ≤ 40) := s1
    clear s1
    have y0 := Y3.c0
    have y1 := Y3.c1
    have y2 := Y3.c2
    go_wp2_with fail
    refine (rvSmall_any v _ hv3).mono ?_
    rintro e w4 ⟨rfl, hb4⟩
    have HE : Hid (decide (v.nodes ≤ 2000) = true → v.nodes ≤ 2000) := fun h => of_decide_eq_true h
    generalize decide (v.nodes ≤ 2000) = r at HE
    go_wp2
    go_ret
    exact ⟨r, rfl, fun h => ⟨HR2.out, HS.out, HE.out h⟩, Below.next B3 hb4⟩
  · rw [decide_eq_false s1]
    clear s1
    go_wp2
    go_ret
    exact FewV.no B3
end Go.Proofs.YtnkipiegjpjfbaaGreatDoor

/- Layer 3: Fits. -/
namespace Go.Proofs.YtnkipiegjpjfbaaGreatDoor
open Go.RowKit

theorem new4 (w : World) (a b c d : Value) (ty : TypeId) : (w.alloc (.cells #[a, b, c, d] ty)).cell? ⟨w.heap.size, 0, none⟩ = some a ∧ (w.alloc (.cells #[a, b, c, d] ty)).cell? ⟨w.heap.size, 1, none⟩ = some b ∧ (w.alloc (.cells #[a, b, c, d] ty)).cell? ⟨w.heap.size, 2, none⟩ = some c ∧ (w.alloc (.cells #[a, b, c, d] ty)).cell? ⟨w.heap.size, 3, none⟩ = some d := by
  refine ⟨?_, ?_, ?_, ?_⟩ <;> simp
/-- What Fits answers. -/
def fitB (n : Strs) (g : Grid) (fs : Fs) (cs : Cs) (t : Ty) (v : Vl) : Bool := (okB n g t && v.ok) && v.fit n g fs cs t

set_option maxRecDepth 100000 in
set_option maxHeartbeats 4000000 in
theorem Fits_any (n : Strs) (g : Grid) (fs : Fs) (cs : Cs) (t : Ty) (v : Vl) (w : World) (hw : Wo w n g fs cs) (ht : t.At w) (hv : v.At w) (hcn : ∀ i, i < cs.len → (cs.t i).nodes ≤ 40) :
    Calls Tryz.prog 9 #[.agg #[.slice n.ao n.len n.cap, .slice g.ao g.len g.cap], .slice fs.ao fs.len fs.cap, .slice cs.ao cs.len cs.cap, .agg #[.int .i64 t.k, .int .i64 t.l, .slice t.ao t.len t.cap, .int .i64 t.h, .int .i64 t.e], .agg #[.int .i64 v.k, .int .i64 v.m, .slice v.ao v.len v.cap]] w fun e w' => e = .returned (.bool (fitB n g fs cs t v)) ∧ Below w.heap.size w w' := by
  have b1 := below_alloc w (latO n g)
  have b2 := below_alloc (w.alloc (latO n g)) (tyO t)
  have b3 := below_alloc ((w.alloc (latO n g)).alloc (tyO t)) (vlO v)
  have b4 := below_alloc (((w.alloc (latO n g)).alloc (tyO t)).alloc (vlO v)) (.cells #[.slice n.ao n.len n.cap, .slice g.ao g.len g.cap, .slice fs.ao fs.len fs.cap, .slice cs.ao cs.len cs.cap] 60)
  have e1 : (w.alloc (latO n g)).heap.size = w.heap.size + 1 := alloc_size _ _
  have e2 : ((w.alloc (latO n g)).alloc (tyO t)).heap.size = w.heap.size + 2 := by rw [alloc_size, e1]
  have e3 : (((w.alloc (latO n g)).alloc (tyO t)).alloc (vlO v)).heap.size = w.heap.size + 3 := by rw [alloc_size, e2]
  have L0 := (Bl.new w n g).kept (Below.next (Below.next b2 b3) b4)
  have X0 := (Bx.new (w.alloc (latO n g)) t).kept (Below.next b3 b4)
  have Y0 := (Bv.new ((w.alloc (latO n g)).alloc (tyO t)) v).kept b4
  have B0 : Below w.heap.size w _ := Below.next (Below.next (Below.next b1 b2) b3) b4
  have E0 : Env ((((w.alloc (latO n g)).alloc (tyO t)).alloc (vlO v)).alloc (.cells #[.slice n.ao n.len n.cap, .slice g.ao g.len g.cap, .slice fs.ao fs.len fs.cap, .slice cs.ao cs.len cs.cap] 60)) (((w.alloc (latO n g)).alloc (tyO t)).alloc (vlO v)).heap.size n g fs cs :=
    ⟨(new4 _ _ _ _ _ _).1, (new4 _ _ _ _ _ _).2.1, (new4 _ _ _ _ _ _).2.2.1, (new4 _ _ _ _ _ _).2.2.2, hw.hn.kept B0, hw.hg.kept B0, hw.hf.kept B0, hw.hc.kept B0⟩
  rw [e1] at X0
  rw [e2] at Y0
  rw [e3] at E0
  have ht0 := ht.kept B0
  have hv0 := hv.kept B0
  have HCN : Hid (∀ i, i < cs.len → (cs.t i).nodes ≤ 1000) := fun i hi => Nat.le_trans (hcn i hi) (by decide)
  clear b1 b2 b3 b4 e1 e2 e3 hw ht hv hcn
  unfold latO tyO vlO at *
  have l0 := L0.c0
  have l1 := L0.c1
  have x0 := X0.c0
  have x1 := X0.c1
  have x2 := X0.c2
  have x3 := X0.c3
  have x4 := X0.c4
  go_enter Tryz.func9, Tryz.ntmps9
  go_wp2_with fail
  refine (Formed2_any n g t _ E0.hn E0.hg ht0).mono ?_
  rintro e w1 ⟨rfl, hb1⟩
  have X1 := X0.kept hb1
  have Y1 := Y0.kept hb1
  have B1 := Below.next B0 hb1
  have E1 := E0.kept hb1
  have ht1 := ht0.kept hb1
  have hv1 := hv0.kept hb1
  clear L0 X0 Y0 B0 E0 ht0 hv0 hb1 l0 l1 x0 x1 x2 x3 x4
  cases h1 : okB n g t
  · have HE : Hid (fitB n g fs cs t v = false) := by show fitB n g fs cs t v = false; unfold fitB; rw [h1]; rfl
    clear h1
    go_wp2
    go_ret
    exact ⟨ret_bool HE.out.symm, B1⟩
  have y0 := Y1.c0
  have y1 := Y1.c1
  have y2 := Y1.c2
  go_wp2_with fail
  refine (vFormed_any v _ hv1).mono ?_
  rintro e w2 ⟨rfl, hb2⟩
  have X2 := X1.kept hb2
  have Y2 := Y1.kept hb2
  have B2 := Below.next B1 hb2
  have E2 := E1.kept hb2
  have ht2 := ht1.kept hb2
  have hv2 := hv1.kept hb2
  clear X1 Y1 B1 E1 ht1 hv1 hb2 y0 y1 y2
  cases h2 : v.ok
  · have HE : Hid (fitB n g fs cs t v = false) := by show fitB n g fs cs t v = false; unfold fitB; rw [h2, Bool.and_false]; rfl
    clear h1 h2
    go_wp2
    go_ret
    exact ⟨ret_bool HE.out.symm, B2⟩
  have HE : Hid (fitB n g fs cs t v = v.fit n g fs cs t) := by show fitB n g fs cs t v = _; unfold fitB; rw [h1, h2]; rfl
  have hfm : v.fm = true := by
    unfold Vl.ok at h2
    rw [Bool.and_eq_true] at h2
    exact h2.2
  have htf : ∃ d, t.fm n.len d = true := by
    unfold okB at h1
    rw [Bool.and_eq_true] at h1
    exact ⟨1, (ok_parts h1.2).1⟩
  have hC := fits_any n g fs cs HCN.out v t w2 (w.heap.size + 3) E2 htf hfm ht2 hv2
  clear h1 h2 hfm htf
  have x0 := X2.c0
  have x1 := X2.c1
  have x2 := X2.c2
  have x3 := X2.c3
  have x4 := X2.c4
  have y0 := Y2.c0
  have y1 := Y2.c1
  have y2 := Y2.c2
  go_wp2_with fail
  refine hC.mono ?_
  rintro e w3 ⟨rfl, hb3⟩
  go_wp2
  go_ret
  exact ⟨ret_bool HE.out.symm, Below.next B2 hb3⟩

/- Pairs, as data. -/
theorem fm_up {N : Nat} : ∀ (t : Ty) (d : Nat), t.fm N (d + 1) = true → t.fm N d = true := by
  intro t
  induction t with
  | dm => intro d h; cases h
  | mk k l h e ao b o len cap ps ih =>
    intro d hh
    rw [fm_eq] at hh ⊢
    simp only [Bool.and_eq_true, decide_eq_true_eq] at hh ⊢
    exact ⟨⟨⟨⟨by omega, hh.1.1.1.2⟩, hh.1.1.2⟩, hh.1.2⟩, fun i hi => ih i (d + 1) (hh.2 i hi)⟩
theorem okB_part {n : Strs} {g : Grid} {t : Ty} {i : Nat} (h : okB n g t = true) (hi : i < t.len) : okB n g (t.ps i) = true := by
  unfold okB at h ⊢
  rw [Bool.and_eq_true] at h ⊢
  refine ⟨h.1, ?_⟩
  obtain ⟨h1, h2⟩ := ok_parts h.2
  have hp := (fm_arity h1).2 i hi
  have hn := nodes_part hi
  unfold Ty.ok
  rw [fm_up _ _ hp, Bool.true_and]
  exact decide_eq_true (by omega)
theorem vok_part {v : Vl} {i : Nat} (h : v.ok = true) (hi : i < v.len) : (v.ps i).ok = true := by
  rcases v with _ | ⟨k, m, ao, b, o, len, cap, ps⟩
  · exact absurd hi (Nat.not_lt_zero _)
  unfold Vl.ok at h ⊢
  rw [Bool.and_eq_true, decide_eq_true_eq] at h
  obtain ⟨h1, h2⟩ := h
  have hi' : i < len := hi
  have hs := sumTo_le (fun i => (ps i).nodes) hi'
  have h3 : 1 + sumTo (fun i => (ps i).nodes) len ≤ 2000 := h1
  rw [Bool.and_eq_true, decide_eq_true_eq]
  exact ⟨by show (ps i).nodes ≤ 2000; omega, (vfm_parts h2).2 i hi⟩
theorem fit_pair {n : Strs} {g : Grid} {fs : Fs} {cs : Cs} {s t : Ty} {v u : Vl} {ao ao' : Option Addr} {b b' o o' cap cap' : Nat} (h1 : okB n g (.mk 3 0 0 0 ao b o 2 cap (fun i => if i = 0 then s else t)) = true) (h2 : Vl.ok (.mk 3 0 ao' b' o' 2 cap' (fun i => if i = 0 then v else u)) = true) :
    fitB n g fs cs (.mk 3 0 0 0 ao b o 2 cap (fun i => if i = 0 then s else t)) (.mk 3 0 ao' b' o' 2 cap' (fun i => if i = 0 then v else u)) = (fitB n g fs cs s v && fitB n g fs cs t u) := by
  have a0 : okB n g s = true := okB_part (i := 0) h1 (by show 0 < 2; omega)
  have a1 : okB n g t = true := okB_part (i := 1) h1 (by show 1 < 2; omega)
  have c0 : v.ok = true := vok_part (i := 0) h2 (by show 0 < 2; omega)
  have c1 : u.ok = true := vok_part (i := 1) h2 (by show 1 < 2; omega)
  unfold fitB
  rw [h1, h2, a0, a1, c0, c1]
  rfl
theorem fitB_kind {n : Strs} {g : Grid} {fs : Fs} {cs : Cs} {t : Ty} {v : Vl} (h : t.k ≠ v.k) : fitB n g fs cs t v = false := by
  unfold fitB
  rcases v with _ | ⟨k, m, ao, b, o, len, cap, ps⟩
  · have : Vl.ok .dm = false := by unfold Vl.ok Vl.fm; simp
    rw [this, Bool.and_false]; rfl
  · have h' : t.k ≠ k := h
    rw [fit_kind h', Bool.and_false]
theorem fitB_no {n : Strs} {g : Grid} {fs : Fs} {cs : Cs} {t : Ty} {v : Vl} (h : (okB n g t && v.ok) = false) : fitB n g fs cs t v = false := by
  unfold fitB
  rw [h]; rfl
end Go.Proofs.YtnkipiegjpjfbaaGreatDoor
