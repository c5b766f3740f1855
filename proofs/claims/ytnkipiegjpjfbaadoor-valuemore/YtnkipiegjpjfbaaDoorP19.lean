/- Layer 3: the reference's Few and the statements' few again, with more told. -/
import Derived.Test.YtnkipiegjpjfbaaDoorP16
import Derived.Test.YtnkipiegjpjfbaaDoorP18
import Derived.Test.YtnkipiegjpjfbaaDoorP2
import Derived.ProofKit
import Derived.Deep.Grids
import Derived.Lib.SmallJoins
import Derived.Test.YtnkipiegjpjfbaaDoorP7
namespace Go.Proofs.YtnkipiegjpjfbaaDoor
open Go.RowKit

/-- What Few answers. -/
def FewQ (w : World) (fs : Fs) (cs : Cs) (e : Ending) (w' : World) : Prop := ∃ r : Bool, e = .returned (.bool r) ∧ (r = true → (∀ i, i < cs.len → (cs.t i).nodes ≤ 40) ∧ fs.len ≤ 70 ∧ cs.len ≤ 200) ∧ Below w.heap.size w w'
theorem FewQ.no {w : World} {fs : Fs} {cs : Cs} {w' : World} (h : Below w.heap.size w w') : FewQ w fs cs (.returned (.bool false)) w' := ⟨false, rfl, fun h => Bool.noConfusion h, h⟩

set_option maxRecDepth 100000 in
set_option maxHeartbeats 8000000 in
theorem rFew2_any (fs : Fs) (cs : Cs) (w : World) (hf : fs.At w) (hc : cs.At w) :
    Calls Tryd.prog 35 #[.slice fs.ao fs.len fs.cap, .slice cs.ao cs.len cs.cap] w fun e w' => FewQ w fs cs e w' := by
  obtain ⟨fao, fb, fo, flen, fcap, ff⟩ := fs
  obtain ⟨cao, cb, co, clen, ccap, ct, cv⟩ := cs
  show Calls Tryd.prog 35 #[.slice fao flen fcap, .slice cao clen ccap] w fun e w' => FewQ w ⟨fao, fb, fo, flen, fcap, ff⟩ ⟨cao, cb, co, clen, ccap, ct, cv⟩ e w'
  have b1 : flen ≤ 9223372036854775807 := hf.bound
  have b2 : clen ≤ 9223372036854775807 := hc.bound
  have HF : Hid (Fs.At w ⟨fao, fb, fo, flen, fcap, ff⟩) := hf
  have HC : Hid (Cs.At w ⟨cao, cb, co, clen, ccap, ct, cv⟩) := hc
  clear hf hc
  by_cases l1 : (flen : Int) ≤ 70
  · by_cases l2 : (clen : Int) ≤ 200
    · have n1 : ¬ (70 : Int) < flen := by omega
      have n2 : ¬ (200 : Int) < clen := by omega
      go_enter Tryd.func35, Tryd.ntmps35
      go_wp2
      go_loopw [5] (fun i wr => ∃ j : Nat, j ≤ flen ∧ i = .int .i64 j ∧ Hid (Below w.heap.size w wr)) (fun i _ => flen - (intOf i).toNat)
      case atStart => exact ⟨0, Nat.zero_le _, rfl, Below.refl _ _⟩
      case round =>
        obtain ⟨j, hj, rfl, HW⟩ := hrel
        by_cases hlt : j < flen
        · have ij : (j : Int) < flen := by omega
          have j0 : (0 : Int) ≤ j := by omega
          have a0 : fao = some ⟨fb, fo, none⟩ := HF.out.nil (by show 0 < flen; omega)
          subst a0
          have C : F18 wr fb (fo + j * 18) (ff j) := (HF.out.cells j hlt).kept HW.out
          have P : (ff j).At wr := (HF.out.part j hlt).kept HW.out
          have c0 := C.c0
          have c1 := C.c1
          have c2 := C.c2
          have c3 := C.c3
          have c4 := C.c4
          clear C
          go_wp2_with fail
          refine (rSmall2_any (ff j).p _ P.p).mono ?_
          rintro e w1 ⟨rfl, hb1⟩
          have HW1 : Hid (Below w.heap.size w w1) := Below.next HW.out hb1
          have P1 := P.kept hb1
          clear c0 c1 c2 c3 c4 P hb1
          by_cases s1 : (ff j).p.nodes ≤ 40
          · rw [decide_eq_true s1]
            have C : F18 w1 fb (fo + j * 18) (ff j) := (HF.out.cells j hlt).kept HW1.out
            have c5 := C.c5
            have c6 := C.c6
            have c7 := C.c7
            have c8 := C.c8
            have c9 := C.c9
            clear C s1
            go_wp2_with fail
            refine (rSmall2_any (ff j).r _ P1.r).mono ?_
            rintro e w2 ⟨rfl, hb2⟩
            have HW2 : Hid (Below w.heap.size w w2) := Below.next HW1.out hb2
            have P2 := P1.kept hb2
            clear c5 c6 c7 c8 c9 P1 hb2
            by_cases s2 : (ff j).r.nodes ≤ 40
            · rw [decide_eq_true s2]
              have C : F18 w2 fb (fo + j * 18) (ff j) := (HF.out.cells j hlt).kept HW2.out
              have c10 := C.c10
              have cb := P2.c.bound
              clear C s2
              by_cases l3 : ((ff j).c.len : Int) ≤ 20
              · have n3 : ¬ (20 : Int) < (ff j).c.len := by omega
                go_wp2
                clear c10
                go_loopw [4, 6] (fun _ i wr => ∃ q : Nat, q ≤ (ff j).c.len ∧ i = .int .i64 q ∧ Hid (Below w.heap.size w wr)) (fun _ i _ => (ff j).c.len - (intOf i).toNat)
                case atStart => exact ⟨0, Nat.zero_le _, rfl, HW2.out⟩
                case round =>
                  obtain ⟨q, hq, rfl, HV⟩ := hrel
                  have C : F18 wr fb (fo + j * 18) (ff j) := (HF.out.cells j hlt).kept HV.out
                  have c10 := C.c10
                  clear C
                  by_cases hql : q < (ff j).c.len
                  · have iq : (q : Int) < (ff j).c.len := by omega
                    have q0 : (0 : Int) ≤ q := by omega
                    have P3 : (ff j).At wr := (HF.out.part j hlt).kept HV.out
                    have a1 := P3.c.nil (by omega)
                    rw [a1] at c10
                    clear a1
                    have D : C5 wr (ff j).c.b ((ff j).c.o + q * 5) ((ff j).c.ps q) := P3.c.cells hql
                    have d0 := D.c0
                    have d1 := D.c1
                    have d2 := D.c2
                    have d3 := D.c3
                    have d4 := D.c4
                    clear D
                    go_wp2_with fail
                    refine (rSmall2_any ((ff j).c.ps q) _ (P3.c.part hql)).mono ?_
                    rintro e w3 ⟨rfl, hb3⟩
                    have HW3 : Hid (Below w.heap.size w w3) := Below.next HV.out hb3
                    clear d0 d1 d2 d3 d4 c10 hb3 P3
                    by_cases s3 : ((ff j).c.ps q).nodes ≤ 40
                    · rw [decide_eq_true s3]
                      clear s3
                      go_wp2
                      go_roundw
                      case rel => exact ⟨q + 1, by omega, by go_num, HW3.out⟩
                      case measure => simp [intOf]; omega
                    · rw [decide_eq_false s3]
                      clear s3
                      go_wp2
                      go_ret
                      exact FewQ.no HW3.out
                  · have iq : ¬ (q : Int) < (ff j).c.len := by omega
                    go_wp2
                    go_roundw
                    case rel => exact ⟨j + 1, by omega, by go_num, HV.out⟩
                    case measure => simp [intOf]; omega
              · have n3 : (20 : Int) < (ff j).c.len := by omega
                go_wp2
                go_ret
                exact FewQ.no HW2.out
            · rw [decide_eq_false s2]
              clear s2
              go_wp2
              go_ret
              exact FewQ.no HW2.out
          · rw [decide_eq_false s1]
            clear s1
            go_wp2
            go_ret
            exact FewQ.no HW1.out
        · have ij : ¬ (j : Int) < flen := by omega
          go_wp2
          go_loopw [7, 8] (fun nv i wr => ∃ (j N : Nat), j ≤ clen ∧ i = .int .i64 j ∧ nv = .int .i64 N ∧ N ≤ 5000 ∧ Hid ((∀ i, i < j → (ct i).nodes ≤ 40) ∧ Below w.heap.size w wr)) (fun _ i _ => clen - (intOf i).toNat)
          case atStart => exact ⟨0, 0, Nat.zero_le _, rfl, rfl, by omega, fun _ h => absurd h (Nat.not_lt_zero _), HW.out⟩
          case round =>
            obtain ⟨j, N, hj, rfl, rfl, hN, HV⟩ := hrel
            by_cases hlt : j < clen
            · have ij : (j : Int) < clen := by omega
              have j0 : (0 : Int) ≤ j := by omega
              have a0 : cao = some ⟨cb, co, none⟩ := HC.out.nil (by show 0 < clen; omega)
              subst a0
              have HA : Hid (Cs.At wr ⟨some ⟨cb, co, none⟩, cb, co, clen, ccap, ct, cv⟩) := HC.out.kept HV.out.2
              have D : C3 wr cb (co + j * 8 + 5) (cv j) := HA.out.cv j hlt
              have d0 := D.c0
              have d1 := D.c1
              have d2 := D.c2
              clear D
              go_wp2_with fail
              refine (rvNodes_any (cv j) _ (HA.out.pv j hlt)).mono ?_
              rintro e w1 ⟨rfl, hb1⟩
              have HA1 : Hid (Cs.At w1 ⟨some ⟨cb, co, none⟩, cb, co, clen, ccap, ct, cv⟩ ∧ Below w.heap.size w w1) := ⟨HA.out.kept hb1, Below.next HV.out.2 hb1⟩
              clear d0 d1 d2 hb1 HA
              have u1 : min (cv j).nodes 2001 ≤ 2001 := by omega
              generalize min (cv j).nodes 2001 = U at u1
              have C : C5 w1 cb (co + j * 8) (ct j) := HA1.out.1.ct j hlt
              have c0 := C.c0
              have c1 := C.c1
              have c2 := C.c2
              have c3 := C.c3
              have c4 := C.c4
              clear C
              have iU : ((N : Int) + U) ≤ 7001 := by omega
              go_wp2_with fail
              refine (rSmall2_any (ct j) _ (HA1.out.1.pt j hlt)).mono ?_
              rintro e w2 ⟨rfl, hb2⟩
              have HW2 : Hid (Below w.heap.size w w2) := Below.next HA1.out.2 hb2
              clear c0 c1 c2 c3 c4 hb2
              by_cases s1 : (ct j).nodes ≤ 40
              · rw [decide_eq_true s1]
                have HS : Hid ((ct j).nodes ≤ 40) := s1
                clear s1
                by_cases l3 : (N : Int) + U ≤ 5000
                · have n3 : ¬ (5000 : Int) < N + U := by omega
                  go_wp2
                  go_roundw
                  case rel => exact ⟨j + 1, N + U, by omega, by go_num, by rw [Int.natCast_add], by omega, fun i hi => (by
                      by_cases e : i = j
                      · subst e; exact HS.out
                      · exact HV.out.1 i (by omega)), HW2.out⟩
                  case measure => simp [intOf]; omega
                · have n3 : (5000 : Int) < N + U := by omega
                  go_wp2
                  go_ret
                  exact FewQ.no HW2.out
              · rw [decide_eq_false s1]
                clear s1
                go_wp2
                go_ret
                exact FewQ.no HW2.out
            · have ij : ¬ (j : Int) < clen := by omega
              have e : clen = j := by omega
              have HE : Hid (∀ i, i < clen → (ct i).nodes ≤ 40) := fun i hi => HV.out.1 i (by omega)
              clear e
              go_wp2
              go_ret
              exact ⟨true, rfl, fun _ => ⟨HE.out, by show flen ≤ 70; omega, by show clen ≤ 200; omega⟩, HV.out.2⟩
    · have n2 : (200 : Int) < clen := by omega
      have n1 : ¬ (70 : Int) < flen := by omega
      go_enter Tryd.func35, Tryd.ntmps35
      go_wp2
      go_ret
      exact FewQ.no (Below.refl _ _)
  · have n1 : (70 : Int) < flen := by omega
    go_enter Tryd.func35, Tryd.ntmps35
    go_wp2
    go_ret
    exact FewQ.no (Below.refl _ _)

/-- What few answers. -/
def FewW (w : World) (fs : Fs) (cs : Cs) (t : Ty) (v : Vl) (e : Ending) (w' : World) : Prop := ∃ r : Bool, e = .returned (.bool r) ∧ (r = true → (∀ i, i < cs.len → (cs.t i).nodes ≤ 40) ∧ t.nodes ≤ 40 ∧ v.nodes ≤ 2000 ∧ fs.len ≤ 70 ∧ cs.len ≤ 200) ∧ Below w.heap.size w w'
theorem FewW.no {w : World} {fs : Fs} {cs : Cs} {t : Ty} {v : Vl} {w' : World} (h : Below w.heap.size w w') : FewW w fs cs t v (.returned (.bool false)) w' := ⟨false, rfl, fun h => Bool.noConfusion h, h⟩

set_option maxRecDepth 100000 in
set_option maxHeartbeats 4000000 in
theorem vfew2_any (n : Strs) (g : Grid) (fs : Fs) (cs : Cs) (t : Ty) (v : Vl) (w : World) (hw : Wo w n g fs cs) (ht : t.At w) (hv : v.At w) :
    Calls Tryd.prog 18 #[.agg #[.slice n.ao n.len n.cap, .slice g.ao g.len g.cap, .slice fs.ao fs.len fs.cap, .slice cs.ao cs.len cs.cap], .agg #[.int .i64 t.k, .int .i64 t.l, .slice t.ao t.len t.cap, .int .i64 t.h, .int .i64 t.e], .agg #[.int .i64 v.k, .int .i64 v.m, .slice v.ao v.len v.cap]] w fun e w' => FewW w fs cs t v e w' := by
  have b1 := below_alloc w (woO n g fs cs)
  have b2 := below_alloc (w.alloc (woO n g fs cs)) (tyO t)
  have b3 := below_alloc ((w.alloc (woO n g fs cs)).alloc (tyO t)) (vlO v)
  have e1 : (w.alloc (woO n g fs cs)).heap.size = w.heap.size + 1 := alloc_size _ _
  have e2 : ((w.alloc (woO n g fs cs)).alloc (tyO t)).heap.size = w.heap.size + 2 := by rw [alloc_size, e1]
  have L0 := (Bw.new w n g fs cs).kept (Below.next b2 b3)
  have X0 := (Bx.new (w.alloc (woO n g fs cs)) t).kept b3
  have Y0 := Bv.new ((w.alloc (woO n g fs cs)).alloc (tyO t)) v
  rw [e1] at X0
  rw [e2] at Y0
  have B0 : Below w.heap.size w (((w.alloc (woO n g fs cs)).alloc (tyO t)).alloc (vlO v)) := Below.next (Below.next b1 b2) b3
  have hw0 := hw.kept B0
  have ht0 := ht.kept B0
  have hv0 := hv.kept B0
  clear b1 b2 b3 e1 e2 hw ht hv
  unfold woO tyO vlO at *
  have l0 := L0.c0
  have l1 := L0.c1
  go_enter Tryd.func18, Tryd.ntmps18
  go_wp2_with fail
  refine (small_any n g _ hw0.hn hw0.hg).mono ?_
  rintro e w1 ⟨rfl, hb1⟩
  have L1 := L0.kept hb1
  have X1 := X0.kept hb1
  have Y1 := Y0.kept hb1
  have B1 := Below.next B0 hb1
  have hw1 := hw0.kept hb1
  have ht1 := ht0.kept hb1
  have hv1 := hv0.kept hb1
  clear L0 X0 Y0 B0 hw0 ht0 hv0 hb1 l0 l1
  cases h1 : smallB n g
  · go_wp2
    go_ret
    exact FewW.no B1
  clear h1
  have l2 := L1.c2
  have l3 := L1.c3
  go_wp2_with fail
  refine (rFew2_any fs cs _ hw1.hf hw1.hc).mono ?_
  rintro e w2 ⟨r, rfl, hr, hb2⟩
  have HR : Hid (r = true → (∀ i, i < cs.len → (cs.t i).nodes ≤ 40) ∧ fs.len ≤ 70 ∧ cs.len ≤ 200) := hr
  have X2 := X1.kept hb2
  have Y2 := Y1.kept hb2
  have B2 := Below.next B1 hb2
  have ht2 := ht1.kept hb2
  have hv2 := hv1.kept hb2
  clear L1 X1 Y1 B1 hw1 ht1 hv1 hb2 hr l2 l3
  cases r
  · go_wp2
    go_ret
    exact FewW.no B2
  have HR2 : Hid ((∀ i, i < cs.len → (cs.t i).nodes ≤ 40) ∧ fs.len ≤ 70 ∧ cs.len ≤ 200) := HR.out rfl
  clear HR
  have x0 := X2.c0
  have x1 := X2.c1
  have x2 := X2.c2
  have x3 := X2.c3
  have x4 := X2.c4
  go_wp2_with fail
  refine (rSmall2_any t _ ht2).mono ?_
  rintro e w3 ⟨rfl, hb3⟩
  have Y3 := Y2.kept hb3
  have B3 := Below.next B2 hb3
  have hv3 := hv2.kept hb3
  clear X2 Y2 B2 ht2 hv2 hb3 x0 x1 x2 x3 x4
  by_cases s1 : t.nodes ≤ 40
  · rw [decide_eq_true s1]
    have HS : Hid (t.nodes ≤ 40) := s1
    clear s1
    have y0 := Y3.c0
    have y1 := Y3.c1
    have y2 := Y3.c2
    go_wp2_with fail
    refine (rvSmall_any v _ hv3).mono ?_
    rintro e w4 ⟨rfl, hb4⟩
    have HE : Hid (decide (v.nodes ≤ 2000) = true → v.nodes ≤ 2000) := fun h => of_decide_eq_true h
    generalize decide (v.nodes ≤ 2000) = r at HE
    go_wp2
    go_ret
    exact ⟨r, rfl, fun h => ⟨HR2.out.1, HS.out, HE.out h, HR2.out.2⟩, Below.next B3 hb4⟩
  · rw [decide_eq_false s1]
    clear s1
    go_wp2
    go_ret
    exact FewW.no B3
end Go.Proofs.YtnkipiegjpjfbaaDoor

/- Layer 3: the walk of the statement ValueMore. -/
namespace Go.Proofs.YtnkipiegjpjfbaaDoor
open Go.RowKit

/-- The statement's variables. -/
structure VM (w z : World) (n n2 : Strs) (g g2 : Grid) (fs fd : Fs) (cs cd : Cs) (s : Ty) (v : Vl) : Prop where
  bl : Below w.heap.size w z
  o : Bw z w.heap.size n g fs cs
  x : Bt z (w.heap.size + 1) s v
  y : Bw z (w.heap.size + 2) n2 g2 fd cd
  wo : Wo z n g fs cs
  wd : Wo z n2 g2 fd cd
  hs : s.At z
  hv : v.At z
  tab : Tab z
theorem VM.step {w z z' : World} {n n2 : Strs} {g g2 : Grid} {fs fd : Fs} {cs cd : Cs} {s : Ty} {v : Vl} (h : VM w z n n2 g g2 fs fd cs cd s v) (hb : Below z.heap.size z z') : VM w z' n n2 g g2 fs fd cs cd s v :=
  ⟨Below.next h.bl hb, h.o.kept hb, h.x.kept hb, h.y.kept hb, h.wo.kept hb, h.wd.kept hb, h.hs.kept hb, h.hv.kept hb, h.tab.kept hb⟩
theorem VM.new {w : World} {n n2 : Strs} {g g2 : Grid} {fs fd : Fs} {cs cd : Cs} {s : Ty} {v : Vl} (hw : Wo w n g fs cs) (hd : Wo w n2 g2 fd cd) (hs : s.At w) (hv : v.At w) (hT : Tab w) : VM w (((w.alloc (woO n g fs cs)).alloc (tdO s v)).alloc (woO n2 g2 fd cd)) n n2 g g2 fs fd cs cd s v := by
  have b1 := below_alloc w (woO n g fs cs)
  have b2 := below_alloc (w.alloc (woO n g fs cs)) (tdO s v)
  have b3 := below_alloc ((w.alloc (woO n g fs cs)).alloc (tdO s v)) (woO n2 g2 fd cd)
  have e1 : (w.alloc (woO n g fs cs)).heap.size = w.heap.size + 1 := alloc_size _ _
  have e2 : ((w.alloc (woO n g fs cs)).alloc (tdO s v)).heap.size = w.heap.size + 2 := by rw [alloc_size, e1]
  have X0 := (Bt.new (w.alloc (woO n g fs cs)) s v).kept b3
  have Y0 := Bw.new ((w.alloc (woO n g fs cs)).alloc (tdO s v)) n2 g2 fd cd
  rw [e1] at X0
  rw [e2] at Y0
  have B0 := Below.next (Below.next b1 b2) b3
  exact ⟨B0, (Bw.new w n g fs cs).kept (Below.next b2 b3), X0, Y0, hw.kept B0, hd.kept B0, hs.kept B0, hv.kept B0, hT.kept B0⟩

def rowF (fs : Fs) : List Value := flatN (fun i => (fs.f i).vs) fs.len
def rowC (cs : Cs) : List Value := flatN (fun i => tvs (cs.t i) (cs.v i)) cs.len
theorem rowF_cell {w : World} {fs : Fs} (h : fs.At w) : ∀ a, fs.ao = some a → ∀ j u, (rowF fs)[j]? = some u → w.cell? (a.add j) = some u := fun a ha j u hj => by
  have hlt : j < fs.len * 18 := by rw [← flatN_len (fun i => vs_len (fs.f i)) fs.len]; exact (List.getElem?_eq_some_iff.1 hj).1
  have e := h.nil (by omega)
  rw [ha] at e
  injection e with e
  rw [e]
  exact flatN_cell (fun i => vs_len (fs.f i)) (by omega) (fun i hi => (h.cells i hi).range) j u hj
theorem rowC_cell {w : World} {cs : Cs} (h : cs.At w) : ∀ a, cs.ao = some a → ∀ j u, (rowC cs)[j]? = some u → w.cell? (a.add j) = some u := fun a ha j u hj => by
  have hlt : j < cs.len * 8 := by rw [← flatN_len (fun i => tvs_len (cs.t i) (cs.v i)) cs.len]; exact (List.getElem?_eq_some_iff.1 hj).1
  have e := h.nil (by omega)
  rw [ha] at e
  injection e with e
  rw [e]
  exact flatN_cell (fun i => tvs_len (cs.t i) (cs.v i)) (by omega) (fun i hi => tvs_range (h.ct i hi) (h.cv i hi)) j u hj
theorem rowF_one (fs : Fs) : ∀ u ∈ rowF fs, u.oneCell' = true := fun u hu => by
  obtain ⟨i, _, h⟩ := flatN_mem _ hu
  exact vs_cell _ u h
theorem rowC_one (cs : Cs) : ∀ u ∈ rowC cs, u.oneCell' = true := fun u hu => by
  obtain ⟨i, _, h⟩ := flatN_mem _ hu
  exact tvs_cell _ _ u h
/-- A value of a new cell. -/
def zV : Vl := .mk 0 0 none 0 0 0 0 (fun _ => .dm)
theorem zV_at (w : World) : zV.At w := ⟨fun h => absurd h (Nat.lt_irrefl _), Nat.zero_le _, fun _ h => absurd h (Nat.not_lt_zero _)⟩

/-- In the loop: the row of cells grows, all else is kept. -/
def CR (w7 wr : World) (cs : Cs) (j : Nat) (sv : Value) : Prop := Below w7.heap.size w7 wr ∧ wr.ownsRow w7.heap.size 53 8 sv j (flatN (fun i => tvs (cs.t i) zV) j)

set_option maxRecDepth 100000 in
set_option maxHeartbeats 8000000 in
theorem valueMore_any (n n2 : Strs) (g g2 : Grid) (fs fd : Fs) (cs cd : Cs) (s : Ty) (v : Vl) (w : World) (hw : Wo w n g fs cs) (hd : Wo w n2 g2 fd cd) (hs : s.At w) (hv : v.At w) (hT : Tab w) (f1 : fs.ao = none → fs.len = 0 ∧ fs.cap = 0) (f2 : fd.ao = none → fd.len = 0 ∧ fd.cap = 0) (f3 : cd.ao = none → cd.len = 0 ∧ cd.cap = 0) :
    Calls Tryd.prog 5 #[.agg #[.slice n.ao n.len n.cap, .slice g.ao g.len g.cap, .slice fs.ao fs.len fs.cap, .slice cs.ao cs.len cs.cap], .agg #[.int .i64 s.k, .int .i64 s.l, .slice s.ao s.len s.cap, .int .i64 s.h, .int .i64 s.e, .int .i64 v.k, .int .i64 v.m, .slice v.ao v.len v.cap], .agg #[.slice n2.ao n2.len n2.cap, .slice g2.ao g2.len g2.cap, .slice fd.ao fd.len fd.cap, .slice cd.ao cd.len cd.cap]] w fun e w' => e = .returned (.bool true) ∧ Below w.heap.size w w' := by
  have K0 := VM.new hw hd hs hv hT
  have hcb := hw.hc.bound
  have HF : Hid ((fs.ao = none → fs.len = 0 ∧ fs.cap = 0) ∧ (fd.ao = none → fd.len = 0 ∧ fd.cap = 0) ∧ (cd.ao = none → cd.len = 0 ∧ cd.cap = 0)) := ⟨f1, f2, f3⟩
  clear hw hd hs hv hT f1 f2 f3
  unfold woO tdO at K0
  go_enter Tryd.func5, Tryd.ntmps5
  go_wp2_with fail
  refine (vawake_any _ K0.tab).mono ?_
  rintro e w1 ⟨rfl, hb1⟩
  have K1 := K0.step hb1
  clear K0 hb1
  have o0 := K1.o.c0
  have o1 := K1.o.c1
  have o2 := K1.o.c2
  have o3 := K1.o.c3
  have x0 := K1.x.c0
  have x1 := K1.x.c1
  have x2 := K1.x.c2
  have x3 := K1.x.c3
  have x4 := K1.x.c4
  have x5 := K1.x.c5
  have x6 := K1.x.c6
  have x7 := K1.x.c7
  go_wp2_with fail
  refine (vfew2_any n g fs cs s v _ K1.wo K1.hs K1.hv).mono ?_
  rintro e w2 ⟨r1, rfl, hr1, hb2⟩
  have K2 := K1.step hb2
  have HR1 : Hid (r1 = true → (∀ i, i < cs.len → (cs.t i).nodes ≤ 40) ∧ s.nodes ≤ 40 ∧ v.nodes ≤ 2000 ∧ fs.len ≤ 70 ∧ cs.len ≤ 200) := hr1
  clear K1 hb2 hr1 o0 o1 o2 o3 x0 x1 x2 x3 x4 x5 x6 x7
  cases r1
  · go_wp2_with fail
    refine (vawake_any _ K2.tab).mono ?_
    rintro e w3 ⟨rfl, hb3⟩
    go_wp2
    go_ret
    exact ⟨rfl, (K2.step hb3).bl⟩
  have HC1 : Hid ((∀ i, i < cs.len → (cs.t i).nodes ≤ 40) ∧ fs.len ≤ 70 ∧ cs.len ≤ 200) := ⟨(HR1.out rfl).1, (HR1.out rfl).2.2.2⟩
  clear HR1
  have y0 := K2.y.c0
  have y1 := K2.y.c1
  have y2 := K2.y.c2
  have y3 := K2.y.c3
  have x0 := K2.x.c0
  have x1 := K2.x.c1
  have x2 := K2.x.c2
  have x3 := K2.x.c3
  have x4 := K2.x.c4
  have x5 := K2.x.c5
  have x6 := K2.x.c6
  have x7 := K2.x.c7
  go_wp2_with fail
  refine (vfew2_any n2 g2 fd cd s v _ K2.wd K2.hs K2.hv).mono ?_
  rintro e w3 ⟨r2, rfl, hr2, hb3⟩
  have K3 := K2.step hb3
  have HR2 : Hid (r2 = true → (∀ i, i < cd.len → (cd.t i).nodes ≤ 40) ∧ s.nodes ≤ 40 ∧ v.nodes ≤ 2000 ∧ fd.len ≤ 70 ∧ cd.len ≤ 200) := hr2
  clear K2 hb3 hr2 y0 y1 y2 y3 x0 x1 x2 x3 x4 x5 x6 x7
  cases r2
  · go_wp2_with fail
    refine (vawake_any _ K3.tab).mono ?_
    rintro e w4 ⟨rfl, hb4⟩
    go_wp2
    go_ret
    exact ⟨rfl, (K3.step hb4).bl⟩
  have HC2 : Hid ((∀ i, i < cd.len → (cd.t i).nodes ≤ 40) ∧ fd.len ≤ 70 ∧ cd.len ≤ 200) := ⟨(HR2.out rfl).1, (HR2.out rfl).2.2.2⟩
  clear HR2
  have hC := Fits_any n g fs cs s v w3 K3.wo K3.hs K3.hv HC1.out.1
  have o0 := K3.o.c0
  have o1 := K3.o.c1
  have o2 := K3.o.c2
  have o3 := K3.o.c3
  have x0 := K3.x.c0
  have x1 := K3.x.c1
  have x2 := K3.x.c2
  have x3 := K3.x.c3
  have x4 := K3.x.c4
  have x5 := K3.x.c5
  have x6 := K3.x.c6
  have x7 := K3.x.c7
  go_wp2_with fail
  refine hC.mono ?_
  rintro e w4 ⟨rfl, hb4⟩
  have K4 := K3.step hb4
  clear K3 hb4 hC o0 o1 o2 o3 x0 x1 x2 x3 x4 x5 x6 x7
  cases hfit : fitB n g fs cs s v
  · clear hfit
    go_wp2
    go_ret
    exact ⟨rfl, K4.bl⟩
  have HFI : Hid (fitB n g fs cs s v = true) := hfit
  clear hfit
  have HK4 : Hid (VM w w4 n n2 g g2 fs fd cs cd s v) := K4
  have o2 := K4.o.c2
  have y2 := K4.y.c2
  clear K4
  have hE : w4.ownsRow w4.heap.size 98 18 (.slice none 0 0) 0 [] := World.ownsRow_nil _ _ _ _
  go_upto_region 7 with ((at_builtin; refine wpList_append_any Tryd.underlying37 Tryd.infoFn rfl (by decide) rfl _ _ rfl w4.heap.size (.slice none 0 0) 0 [] rfl hE fs.ao fs.len fs.cap (rowF fs) rfl HF.out.1 (flatN_len (fun i => vs_len (fs.f i)) fs.len) (rowF_cell HK4.out.wo.hf) (rowF_one fs) (by have := HC1.out.2.1; unfold maxLen; omega) (by have := HC1.out.2.1; omega) (Nat.le_refl _) ?_; intro v7 w5 h5 g5; have HO5 : Hid (w5.ownsRow w4.heap.size 98 18 v7 fs.len (rowF fs) ∧ Below w4.heap.size w4 w5) := ⟨by rw [Nat.zero_add] at h5; exact h5, gb_bel (Below.refl _ _) g5 (fun k hk => by cases hk)⟩; obtain ⟨a7, c7, hv7⟩ := owform HO5.out.1; subst hv7; clear h5 g5 o2 y2))
  have HK5 : Hid (VM w w5 n n2 g g2 fs fd cs cd s v) := HK4.out.step HO5.out.2
  have y2 := HK5.out.y.c2
  have hO5 := HO5.out.1
  go_upto_region 8 with ((at_builtin; refine wpList_append_any Tryd.underlying37 Tryd.infoFn rfl (by decide) rfl _ _ rfl w4.heap.size _ fs.len (rowF fs) rfl hO5 fd.ao fd.len fd.cap (rowF fd) rfl HF.out.2.1 (flatN_len (fun i => vs_len (fd.f i)) fd.len) (rowF_cell HK5.out.wd.hf) (rowF_one fd) (by have := HC1.out.2.1; have := HC2.out.2.1; unfold maxLen; omega) (by have := HC1.out.2.1; have := HC2.out.2.1; omega) HO5.out.2.size ?_; intro v7 w6 h6 g6; have HO6 : Hid (w6.ownsRow w4.heap.size 98 18 v7 (fs.len + fd.len) (rowF fs ++ rowF fd) ∧ Below w4.heap.size w4 w6) := ⟨h6, gb_bel HO5.out.2 g6 (fun k hk => (owb HO5.out.1 hk).1)⟩; obtain ⟨a8, c8, hv8⟩ := owform HO6.out.1; subst hv8; clear h6 g6 y2))
  have HK6 : Hid (VM w w6 n n2 g g2 fs fd cs cd s v) := HK4.out.step HO6.out.2
  clear HO5 HK5 hO5 hE HK4
  go_wp2
  go_loopw [8, 9] (fun sv i wr => ∃ j : Nat, j ≤ cs.len ∧ i = .int .i64 j ∧ Hid (CR w6 wr cs j sv)) (fun _ i _ => cs.len - (intOf i).toNat)
  case atStart => exact ⟨0, Nat.zero_le _, rfl, Below.refl _ _, World.ownsRow_nil _ _ _ _⟩
  case round =>
    obtain ⟨j, hj, rfl, HW⟩ := hrel
    have HKr : Hid (VM w wr n n2 g g2 fs fd cs cd s v) := HK6.out.step HW.out.1
    have o3 := HKr.out.o.c3
    by_cases hlt : j < cs.len
    · have ij : (j : Int) < cs.len := by omega
      have j0 : (0 : Int) ≤ j := by omega
      have a0 := HKr.out.wo.hc.nil (by omega)
      rw [a0] at o3
      clear a0
      have C := HKr.out.wo.hc.ct j hlt
      have c0 := C.c0
      have c1 := C.c1
      have c2 := C.c2
      have c3 := C.c3
      have c4 := C.c4
      have hown := owk HW.out.2 (below_alloc wr (.cells #[.int .i64 (cs.t j).k, .int .i64 (cs.t j).l, .slice (cs.t j).ao (cs.t j).len (cs.t j).cap, .int .i64 (cs.t j).h, .int .i64 (cs.t j).e, .int .i64 0, .int .i64 0, .slice none 0 0] 53))
      have hnew := heap_alloc_new wr (.cells #[.int .i64 (cs.t j).k, .int .i64 (cs.t j).l, .slice (cs.t j).ao (cs.t j).len (cs.t j).cap, .int .i64 (cs.t j).h, .int .i64 (cs.t j).e, .int .i64 0, .int .i64 0, .slice none 0 0] 53)
      have ez : (wr.alloc (.cells #[.int .i64 (cs.t j).k, .int .i64 (cs.t j).l, .slice (cs.t j).ao (cs.t j).len (cs.t j).cap, .int .i64 (cs.t j).h, .int .i64 (cs.t j).e, .int .i64 0, .int .i64 0, .slice none 0 0] 53)).heap.size = wr.heap.size + 1 := alloc_size _ _
      have hs0 : w6.heap.size ≤ wr.heap.size := HW.out.1.size
      have hj2 : j < 200 := by have := HC1.out.2.2; omega
      obtain ⟨i0, hi, hz0, hz1, hz2⟩ := info_parts Tryd.infoCell
      obtain ⟨av, cv, hvv⟩ := owform HW.out.2
      subst hvv
      clear C
      go_wp2_with ((at_builtin; refine wpList_append_lies _ rfl _ _ 38 rfl w6.heap.size 53 i0 _ 8 96 Tryd.underlying38 hi hz0 hz1 hz2 rfl (by decide) (.slice av j cv) j (flatN (fun i => tvs (cs.t i) zV) j) rfl hown ⟨wr.heap.size, 0, none⟩ 1 1 (tvs (cs.t j) zV) rfl rfl (World.news_of_block (cs := #[.int .i64 (cs.t j).k, .int .i64 (cs.t j).l, .slice (cs.t j).ao (cs.t j).len (cs.t j).cap, .int .i64 (cs.t j).h, .int .i64 (cs.t j).e, .int .i64 0, .int .i64 0, .slice none 0 0]) (t := 53) (fr := (0, 0)) hnew) (tvs_cell _ _) (by omega) (by unfold maxLen; omega) (by omega) (by omega) (wr.heap.size + 1) ez ?_; intro gg cap3 w8 hown8 hgrow hat hltg; have HN : Hid (CR w6 w8 cs (j + 1) (.slice (some ⟨gg, 0, none⟩) (j + 1) cap3)) := ⟨gb_bel (HW.out.1.alloc HW.out.1.size _) hgrow (fun k hk => (owb HW.out.2 hk).1), hown8⟩; clear hown8 hgrow hat hltg))
      go_roundw
      case rel => exact ⟨j + 1, by omega, by go_num, HN.out⟩
      case measure => simp [intOf]; omega
    · have ij : ¬ (j : Int) < cs.len := by omega
      have e : j = cs.len := by omega
      have HW2 : Hid (CR w6 wr cs cs.len u8) := by show CR w6 wr cs cs.len u8; rw [← e]; exact HW.out
      clear e HW
      obtain ⟨av, cv, hvv⟩ := owform HW2.out.2
      subst hvv
      have y3 := HKr.out.y.c3
      have hOw := HW2.out.2
      go_upto_region 14 with ((at_builtin; refine wpList_append_any Tryd.underlying38 Tryd.infoCell rfl (by decide) rfl _ _ rfl w6.heap.size _ cs.len (flatN (fun i => tvs (cs.t i) zV) cs.len) rfl hOw cd.ao cd.len cd.cap (rowC cd) rfl HF.out.2.2 (flatN_len (fun i => tvs_len (cd.t i) (cd.v i)) cd.len) (rowC_cell HKr.out.wd.hc) (rowC_one cd) (by have := HC1.out.2.2; have := HC2.out.2.2; unfold maxLen; omega) (by have := HC1.out.2.2; have := HC2.out.2.2; omega) HW2.out.1.size ?_; intro v9 w9 h9 g9; have HO9 : Hid (w9.ownsRow w6.heap.size 53 8 v9 (cs.len + cd.len) (flatN (fun i => tvs (cs.t i) zV) cs.len ++ rowC cd) ∧ Below w6.heap.size w6 w9) := ⟨h9, gb_bel HW2.out.1 g9 (fun k hk => (owb HW2.out.2 hk).1)⟩; clear h9 g9 y3))
      have HK9 : Hid (VM w w9 n n2 g g2 fs fd cs cd s v) := HK6.out.step HO9.out.2
      have oF := owk HO6.out.1 HO9.out.2
      have eF : rowF fs ++ rowF fd = flatN (fun i => ((fun i => if i < fs.len then fs.f i else fd.f (i - fs.len)) i).vs) (fs.len + fd.len) := by
        have h := (flatN_app (fun i => (fs.f i).vs) (fun i => (fd.f i).vs) fs.len fd.len).symm
        have e : (fun i => if i < fs.len then (fs.f i).vs else (fd.f (i - fs.len)).vs) = (fun i => ((fun i => if i < fs.len then fs.f i else fd.f (i - fs.len)) i).vs) := by
          funext i
          show _ = (if i < fs.len then fs.f i else fd.f (i - fs.len)).vs
          split <;> rfl
        rw [e] at h
        exact h
      rw [eF] at oF
      obtain ⟨F, hF1, hF2, hF3, hF4⟩ := Fs.of_own oF (by have := HC1.out.2.1; have := HC2.out.2.1; omega) (fun i hi => by
        show (if i < fs.len then fs.f i else fd.f (i - fs.len)).At w9
        split
        · rename_i h; exact HK9.out.wo.hf.part i h
        · exact HK9.out.wd.hf.part _ (by omega))
      have oC := HO9.out.1
      have eC : flatN (fun i => tvs (cs.t i) zV) cs.len ++ rowC cd = flatN (fun i => tvs ((fun i => if i < cs.len then cs.t i else cd.t (i - cs.len)) i) ((fun i => if i < cs.len then zV else cd.v (i - cs.len)) i)) (cs.len + cd.len) := by
        have h := (flatN_app (fun i => tvs (cs.t i) zV) (fun i => tvs (cd.t i) (cd.v i)) cs.len cd.len).symm
        have e : (fun i => if i < cs.len then tvs (cs.t i) zV else tvs (cd.t (i - cs.len)) (cd.v (i - cs.len))) = (fun i => tvs ((fun i => if i < cs.len then cs.t i else cd.t (i - cs.len)) i) ((fun i => if i < cs.len then zV else cd.v (i - cs.len)) i)) := by
          funext i
          show _ = tvs (if i < cs.len then cs.t i else cd.t (i - cs.len)) (if i < cs.len then zV else cd.v (i - cs.len))
          split <;> rfl
        rw [e] at h
        exact h
      rw [eC] at oC
      obtain ⟨C, hC1, hC2, hC3, hC4⟩ := Cs.of_own oC (by have := HC1.out.2.2; have := HC2.out.2.2; omega) (fun i hi => by
        show (if i < cs.len then cs.t i else cd.t (i - cs.len)).At w9 ∧ (if i < cs.len then zV else cd.v (i - cs.len)).At w9
        split
        · rename_i h; exact ⟨HK9.out.wo.hc.pt i h, zV_at _⟩
        · exact ⟨HK9.out.wd.hc.pt _ (by omega), HK9.out.wd.hc.pv _ (by omega)⟩)
      have hfit : fitB n g F C s v = true := fitB_more (by omega) (fun i hi => by rw [hF4]; exact if_pos hi) (by omega) (fun i hi => by rw [hC4]; exact if_pos hi) HFI.out
      have hCN : ∀ i, i < C.len → (C.t i).nodes ≤ 40 := fun i hi => by
        rw [hC4]
        show (if i < cs.len then cs.t i else cd.t (i - cs.len)).nodes ≤ 40
        split
        · rename_i h; exact HC1.out.1 i h
        · exact HC2.out.1 _ (by omega)
      have hC9 := Fits_any n g F C s v w9 ⟨HK9.out.wo.hn, HK9.out.wo.hg, hF2, hC2⟩ HK9.out.hs HK9.out.hv hCN
      rw [hfit] at hC9
      rw [hF1]
      rw [hC1]
      clear oF oC eF eC hF1 hF2 hF3 hF4 hC1 hC2 hC3 hC4 hfit hCN hOw HO6 HO9 HW2 HK6 HKr
      have o0 := HK9.out.o.c0
      have o1 := HK9.out.o.c1
      have x0 := HK9.out.x.c0
      have x1 := HK9.out.x.c1
      have x2 := HK9.out.x.c2
      have x3 := HK9.out.x.c3
      have x4 := HK9.out.x.c4
      have x5 := HK9.out.x.c5
      have x6 := HK9.out.x.c6
      have x7 := HK9.out.x.c7
      go_wp2_with fail
      refine hC9.mono ?_
      rintro e w10 ⟨rfl, hb10⟩
      go_wp2
      go_ret
      exact ⟨rfl, (HK9.out.step hb10).bl⟩
end Go.Proofs.YtnkipiegjpjfbaaDoor

/- A lattice that comes in, opened into its names and its table. -/
namespace Go.Proofs.YtnkipiegjpjfbaaDoor
open Go.ChangeShapes Go.WideShapes Go.ChangeAt Go.RowKit Go.Deep Go.Joins

theorem Tryd.own : ownKnob Tryd.prog.godebug = none := by kernel_rfl
theorem Tryd.laidOut : laidOutB Tryd.prog = true := by kernel_rfl
theorem Tryd.cellsString : Tryd.prog.cellsOf 9 = 1 := by kernel_rfl
theorem Tryd.cellsBool : Tryd.prog.cellsOf 4 = 1 := by kernel_rfl
theorem Tryd.cellsRow : Tryd.prog.cellsOf 75 = 1 := by kernel_rfl
theorem Tryd.cellsLat : Tryd.prog.cellsOf 36 = 2 := by kernel_rfl
theorem addr_plain (b off i : Nat) : (⟨b, off, none⟩ : Addr).add i = ⟨b, off + i, none⟩ := by unfold Addr.add; split <;> simp_all

section
variable {H : Type} {enc : TypeId × Value → H} {W : World} {base : Nat}

set_option maxRecDepth 100000 in
theorem open_strs {fuel : Nat} {v : Value} {x : DataW H × List MemPlace} (h : DataW.trod enc Tryd.prog W base (fun _ => true) true fuel 33 [v] = some x) :
    ∃ n : Strs, v = .slice n.ao n.len n.cap ∧ n.At W := by
  rcases open_strings Tryd.underlying33 Tryd.underlying9 Tryd.cellsString h with ⟨hcs, _⟩ | ⟨a, len, cap, ss, hcs, _, hl, hm, hz, _, hcell, hws⟩
  · exact ⟨⟨none, 0, 0, 0, 0, fun _ => ByteArray.empty⟩, by simpa using hcs, ⟨Nat.le_refl _, fun h => absurd h (Nat.lt_irrefl _), Nat.zero_le _, fun _ h => absurd h (Nat.not_lt_zero _), fun _ h => absurd h (Nat.not_lt_zero _)⟩⟩
  · have hv : v = .slice (some a) len cap := by simpa using hcs
    simp only [if_true] at hz
    unfold maxLen at hm hws
    refine ⟨⟨some a, a.block, a.off, len, cap, fun i => ss.getD i ByteArray.empty⟩, hv, ⟨hl, fun hp => ?_, Nat.le_trans hl hm, fun i hi => ?_, fun i hi => ?_⟩⟩
    · have hp' : 0 < len := hp
      have hs := World.cell?_spot (hcell 0 (by omega))
      obtain ⟨ab, ao, asp⟩ := a
      have : asp = none := by simpa [Addr.add] using hs
      subst this; rfl
    · have hi' : i < len := hi
      have hs := World.cell?_spot (hcell 0 (by omega))
      obtain ⟨ab, ao, asp⟩ := a
      have : asp = none := by simpa [Addr.add] using hs
      subst this
      have := hcell i (by omega)
      rw [addr_plain] at this
      exact this
    · have hi' : i < len := hi
      have hmem : ss.getD i ByteArray.empty ∈ ss := by
        rw [List.getD_eq_getElem?_getD, List.getElem?_eq_getElem (by omega)]
        exact List.getElem_mem _
      exact hws _ hmem

set_option maxRecDepth 100000 in
theorem open_grid {fuel : Nat} {v : Value} {x : DataW H × List MemPlace} (h : DataW.trod enc Tryd.prog W base (fun _ => true) true fuel 34 [v] = some x) :
    ∃ g : Grid, v = .slice g.ao g.len g.cap ∧ g.At W := by
  rcases open_bool_rows Tryd.underlying34 Tryd.underlying75 Tryd.underlying4 Tryd.cellsRow Tryd.cellsBool h with ⟨hcs, _⟩ | ⟨a, len, cap, A, L, C, B, hcs, _, hl, hm, _, hrows⟩
  · exact ⟨⟨none, 0, 0, 0, 0, fun _ => none, fun _ => 0, fun _ => 0, fun _ => 0, fun _ => 0, fun _ _ => false⟩, by simpa using hcs,
      ⟨Nat.le_refl _, fun h => absurd h (Nat.lt_irrefl _), Nat.zero_le _, fun _ h => absurd h (Nat.not_lt_zero _), fun _ h => absurd h (Nat.not_lt_zero _), fun _ h => absurd h (Nat.not_lt_zero _), fun _ h => absurd h (Nat.not_lt_zero _)⟩⟩
  · have hv : v = .slice (some a) len cap := by simpa using hcs
    unfold maxLen at hm
    have hadr : ∀ r, r < len → 0 < L r → A r = some ⟨((A r).getD default).block, ((A r).getD default).off, none⟩ ∧ ∀ c, c < L r → W.cell? ⟨((A r).getD default).block, ((A r).getD default).off + c, none⟩ = some (.bool (B r c)) := fun r hr hp => by
      obtain ⟨_, h1, _, h3, h4⟩ := hrows r (by omega)
      cases hA : A r with
      | none => have := h3 hA; omega
      | some a' =>
        obtain ⟨ab, ao, asp⟩ := a'
        obtain ⟨_, hcell⟩ := h4 _ hA
        have has : asp = none := by simpa [Addr.add] using World.cell?_spot (hcell 0 (by omega))
        subst has
        exact ⟨rfl, fun c hc => by have := hcell c (by omega); rwa [addr_plain] at this⟩
    have hspot : 0 < len → a = ⟨a.block, a.off, none⟩ := fun hp => by
      have hs := World.cell?_spot (hrows 0 (by omega)).1
      obtain ⟨ab, ao, asp⟩ := a
      have : asp = none := by simpa [Addr.add] using hs
      subst this; rfl
    refine ⟨⟨some a, a.block, a.off, len, cap, A, L, C, fun r => ((A r).getD default).block, fun r => ((A r).getD default).off, B⟩, hv, ⟨hl, fun hp => congrArg some (hspot hp), Nat.le_trans hl hm, fun r hr => ?_, fun r hr => ?_, fun r hr hp => (hadr r hr hp).1, fun r hr c hc => (hadr r hr (Nat.lt_of_le_of_lt (Nat.zero_le _) hc)).2 c hc⟩⟩
    · have hr' : r < len := hr
      obtain ⟨_, h1, h2, _⟩ := hrows r (by omega)
      unfold maxLen at h2
      exact Nat.le_trans h1 h2
    · have hr' : r < len := hr
      have := (hrows r (by omega)).1
      rw [hspot (by omega), addr_plain] at this
      exact this

set_option maxRecDepth 100000 in
theorem open_lat {v : Value} {d : DataW H} {p : List MemPlace} {b0 : Nat} (hv : Value.okWide Tryd.prog W .any b0 36 v) (h : DataW.Trod enc Tryd.prog W base (fun _ => true) true 36 v d p) :
    ∃ (n : Strs) (g : Grid), v = .agg #[.slice n.ao n.len n.cap, .slice g.ao g.len g.cap] ∧ n.At W ∧ g.At W := by
  obtain ⟨c0, c1, y0, y1, m, rfl, _, _, hy0, hy1⟩ := open_agg2 Tryd.underlying36 (by kernel_rfl) Tryd.cellsLat hv h
  obtain ⟨n, rfl, hn⟩ := open_strs hy0
  obtain ⟨g, rfl, hg⟩ := open_grid hy1
  exact ⟨n, g, rfl, hn, hg⟩
end
end Go.Proofs.YtnkipiegjpjfbaaDoor

/- A type that comes in, opened. -/
namespace Go.Proofs.YtnkipiegjpjfbaaDoor
open Go.ChangeShapes Go.WideShapes Go.ChangeAt Go.RowKit Go.Deep Go.Joins

theorem Tryd.cellsInt' : Tryd.prog.cellsOf 3 = 1 := by kernel_rfl
theorem Tryd.cellsTys : Tryd.prog.cellsOf 41 = 1 := by kernel_rfl
theorem Tryd.cellsTy : Tryd.prog.cellsOf 43 = 5 := by kernel_rfl

section
variable {H : Type} {enc : TypeId × Value → H} {W : World} {base : Nat}

def Ty.cs (t : Ty) : List Value := [.int .i64 t.k, .int .i64 t.l, .slice t.ao t.len t.cap, .int .i64 t.h, .int .i64 t.e]

set_option maxRecDepth 100000 in
theorem open_ty : ∀ (fuel : Nat) (cs : List Value) (x : DataW H × List MemPlace), DataW.trod enc Tryd.prog W base (fun _ => true) true fuel 43 cs = some x → ∃ t : Ty, cs = t.cs ∧ t.At W := by
  intro fuel
  induction fuel using Nat.strongRecOn with
  | _ fuel ih =>
    intro cs x h
    obtain ⟨xs, n, rfl, _, hl, hlen, hf⟩ := DataW.trod_struct Tryd.underlying43 h
    rw [Tryd.cellsTy] at hl
    match cs, hl with
    | [c0, c1, c2, c3, c4], _ =>
      have hlen5 : xs.length = 5 := hlen
      match xs, hlen5 with
      | [y0, y1, y2, y3, y4], _ =>
        have f0 : DataW.trod enc Tryd.prog W base (fun _ => true) true n 3 [c0] = some y0 := by simpa [Tryd.cellsInt'] using hf 0 _ rfl
        have f1 : DataW.trod enc Tryd.prog W base (fun _ => true) true n 3 [c1] = some y1 := by simpa [Tryd.cellsInt'] using hf 1 _ rfl
        have f2 : DataW.trod enc Tryd.prog W base (fun _ => true) true n 41 [c2] = some y2 := by simpa [Tryd.cellsTys] using hf 2 _ rfl
        have f3 : DataW.trod enc Tryd.prog W base (fun _ => true) true n 3 [c3] = some y3 := by simpa [Tryd.cellsInt'] using hf 3 _ rfl
        have f4 : DataW.trod enc Tryd.prog W base (fun _ => true) true n 3 [c4] = some y4 := by simpa [Tryd.cellsInt'] using hf 4 _ rfl
        obtain ⟨k, q0, _⟩ := DataW.trod_int Tryd.underlying3 f0
        obtain ⟨l, q1, _⟩ := DataW.trod_int Tryd.underlying3 f1
        obtain ⟨hh, q3, _⟩ := DataW.trod_int Tryd.underlying3 f3
        obtain ⟨e, q4, _⟩ := DataW.trod_int Tryd.underlying3 f4
        simp only [List.cons.injEq, and_true] at q0 q1 q3 q4
        subst q0 q1 q3 q4
        rcases DataW.trod_slice Tryd.underlying41 f2 with ⟨hcs, _⟩ | ⟨a, len, cap, elems, rest, m, hm, hcs, _, _, hlc, hmx, hel, hx, _, _⟩
        · simp only [List.cons.injEq, and_true] at hcs
          subst hcs
          exact ⟨.mk k l hh e none 0 0 0 0 (fun _ => .dm), rfl, ⟨fun h => absurd h (Nat.lt_irrefl _), Nat.zero_le _, fun _ h => absurd h (Nat.not_lt_zero _)⟩⟩
        · simp only [List.cons.injEq, and_true] at hcs
          subst hcs hm
          unfold maxLen at hmx
          have each : ∀ i, i < len → ∃ t : Ty, (∀ j, j < 5 → W.cell? (a.add (i * 5 + j)) = t.cs[j]?) ∧ t.At W := by
            intro i hi
            have h1 := hx i hi
            rw [Tryd.cellsTy] at h1
            cases hc : W.cells? base (a.add (i * 5)) 5 with
            | none => rw [hc] at h1; simp at h1; omega
            | some cs' =>
              rw [hc] at h1
              have h2 : DataW.trod enc Tryd.prog W base (fun _ => true) true m 43 cs' = some elems[i] := by
                rw [List.getElem?_eq_getElem (by omega)] at h1
                simpa using h1
              obtain ⟨t, rfl, hA⟩ := ih m (by omega) cs' _ h2
              obtain ⟨_, _, hcell⟩ := World.cells?_some hc
              exact ⟨t, fun j hj => by rw [← hcell j hj, add_add], hA⟩
          have hspot : 0 < len → a = ⟨a.block, a.off, none⟩ := fun hp => by
            obtain ⟨t, ht, _⟩ := each 0 hp
            have hs := World.cell?_spot (a := a.add (0 * 5 + 0)) (v := .int .i64 t.k) (by rw [ht 0 (by omega)]; rfl)
            obtain ⟨ab, ao, asp⟩ := a
            have : asp = none := by simpa [Addr.add] using hs
            subst this; rfl
          refine ⟨.mk k l hh e (some a) a.block a.off len cap (fun i => if h : i < len then Classical.choose (each i h) else .dm), rfl, ⟨fun hp => congrArg some (hspot hp), by omega, fun i hi => ?_⟩⟩
          simp only [dif_pos hi]
          obtain ⟨ht, hA⟩ := Classical.choose_spec (each i hi)
          generalize Classical.choose (each i hi) = t at ht hA
          have ea := hspot (by omega)
          have get : ∀ j, j < 5 → W.cell? ⟨a.block, a.off + i * 5 + j, none⟩ = t.cs[j]? := fun j hj => by
            have := ht j hj
            rw [ea, addr_plain, ← Nat.add_assoc] at this
            exact this
          exact ⟨⟨get 0 (by omega), get 1 (by omega), get 2 (by omega), get 3 (by omega), get 4 (by omega)⟩, hA⟩
set_option maxRecDepth 100000 in
theorem open_type {v : Value} {d : DataW H} {p : List MemPlace} {b0 : Nat} (hv : Value.okWide Tryd.prog W .any b0 43 v) (h : DataW.Trod enc Tryd.prog W base (fun _ => true) true 43 v d p) :
    ∃ t : Ty, v = .agg #[.int .i64 t.k, .int .i64 t.l, .slice t.ao t.len t.cap, .int .i64 t.h, .int .i64 t.e] ∧ t.At W := by
  obtain ⟨cs, rfl, _⟩ := okWide_struct Tryd.underlying43 hv
  obtain ⟨fuel, hf⟩ := h
  obtain ⟨t, ht, hA⟩ := open_ty fuel _ _ hf
  refine ⟨t, ?_, hA⟩
  have : cs.toList = t.cs := by simpa [Value.cells] using ht
  obtain ⟨l⟩ := cs
  have e : l = t.cs := this
  rw [e]; rfl

end
end Go.Proofs.YtnkipiegjpjfbaaDoor
