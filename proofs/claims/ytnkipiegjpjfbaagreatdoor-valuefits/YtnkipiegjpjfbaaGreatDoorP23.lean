/- Layer 3: Heap. -/
import Derived.Test.YtnkipiegjpjfbaaGreatDoorP17
import Derived.Test.YtnkipiegjpjfbaaGreatDoorP20
import Derived.Test.YtnkipiegjpjfbaaGreatDoorP22
import Derived.Test.YtnkipiegjpjfbaaGreatDoorRows
import Derived.WalkKit
import Derived.WalkSpells
import Derived.WalkLawsBesides
import Derived.Lib.Builder
import Derived.Lib.AppendStr
import Derived.Lib.UnsafeStr
import Derived.Test.YtnkipiegjpjfbaaGreatDoorP16
import Derived.Test.YtnkipiegjpjfbaaGreatDoorP1
import Derived.Lib.ItoaLen
import Derived.Lib.AppendIntMem
import Derived.Laws.Concat
import Derived.Deep.Cut
import Derived.Deep.CutRange
import Derived.Deep.DeepCutAuto
namespace Go.Proofs.YtnkipiegjpjfbaaGreatDoor
open Go.RowKit

/-- What Heap answers. -/
def heapB (n : Strs) (g : Grid) (fs : Fs) (cs : Cs) : Bool := decide (∀ i, i < cs.len → fitB n g fs cs (cs.t i) (cs.v i) = true)
/-- A variable that holds a cell. -/
structure B8 (w : World) (B : Nat) (t : Ty) (v : Vl) : Prop where
  c0 : w.cell? ⟨B, 0, none⟩ = some (.int .i64 t.k)
  c1 : w.cell? ⟨B, 1, none⟩ = some (.int .i64 t.l)
  c2 : w.cell? ⟨B, 2, none⟩ = some (.slice t.ao t.len t.cap)
  c3 : w.cell? ⟨B, 3, none⟩ = some (.int .i64 t.h)
  c4 : w.cell? ⟨B, 4, none⟩ = some (.int .i64 t.e)
  c5 : w.cell? ⟨B, 5, none⟩ = some (.int .i64 v.k)
  c6 : w.cell? ⟨B, 6, none⟩ = some (.int .i64 v.m)
  c7 : w.cell? ⟨B, 7, none⟩ = some (.slice v.ao v.len v.cap)
def clO (t : Ty) (v : Vl) : Obj := .cells #[.int .i64 t.k, .int .i64 t.l, .slice t.ao t.len t.cap, .int .i64 t.h, .int .i64 t.e, .int .i64 v.k, .int .i64 v.m, .slice v.ao v.len v.cap] 63
theorem B8.new (w : World) (t : Ty) (v : Vl) : B8 (w.alloc (clO t v)) w.heap.size t v := by
  constructor <;> simp [clO]

set_option maxRecDepth 100000 in
set_option maxHeartbeats 8000000 in
theorem Heap_any (n : Strs) (g : Grid) (fs : Fs) (cs : Cs) (w : World) (hw : Wo w n g fs cs) (hcn : ∀ i, i < cs.len → (cs.t i).nodes ≤ 40) :
    Calls Tryz.prog 11 #[.agg #[.slice n.ao n.len n.cap, .slice g.ao g.len g.cap], .slice fs.ao fs.len fs.cap, .slice cs.ao cs.len cs.cap] w fun e w' => e = .returned (.bool (heapB n g fs cs)) ∧ Below w.heap.size w w' := by
  have b1 := below_alloc w (latO n g)
  have HS : Hid (Bl (w.alloc (latO n g)) w.heap.size n g ∧ Wo (w.alloc (latO n g)) n g fs cs ∧ Below w.heap.size w (w.alloc (latO n g))) := ⟨Bl.new w n g, hw.kept b1, b1⟩
  have hb := hw.hc.bound
  have hnil := hw.hc.nil
  have HCN : Hid (∀ i, i < cs.len → (cs.t i).nodes ≤ 40) := hcn
  clear b1 hw hcn
  unfold latO at HS
  obtain ⟨cao, cb, co, clen, ccap, ct, cv⟩ := cs
  show Calls Tryz.prog 11 #[.agg #[.slice n.ao n.len n.cap, .slice g.ao g.len g.cap], .slice fs.ao fs.len fs.cap, .slice cao clen ccap] w fun e w' => e = .returned (.bool (heapB n g fs ⟨cao, cb, co, clen, ccap, ct, cv⟩)) ∧ Below w.heap.size w w'
  have hb' : clen ≤ 9223372036854775807 := hb
  have hnil' : 0 < clen → cao = some ⟨cb, co, none⟩ := hnil
  clear hb hnil
  go_enter Tryz.func11, Tryz.ntmps11
  go_wp2
  go_loopw [11] (fun i wr => ∃ j : Nat, j ≤ clen ∧ i = .int .i64 j ∧ Hid ((∀ i, i < j → fitB n g fs ⟨cao, cb, co, clen, ccap, ct, cv⟩ (ct i) (cv i) = true) ∧ Bl wr w.heap.size n g ∧ Wo wr n g fs ⟨cao, cb, co, clen, ccap, ct, cv⟩ ∧ Below w.heap.size w wr)) (fun i _ => clen - (intOf i).toNat)
  case atStart => exact ⟨0, Nat.zero_le _, rfl, fun _ h => absurd h (Nat.not_lt_zero _), HS.out⟩
  case round =>
    obtain ⟨j, hj, rfl, HW⟩ := hrel
    clear HS
    by_cases hlt : j < clen
    · have ij : (j : Int) < clen := by omega
      have j0 : (0 : Int) ≤ j := by omega
      have a0 := hnil' (by omega)
      subst a0
      have C : C5 wr cb (co + j * 8) (ct j) := HW.out.2.2.1.hc.ct j hlt
      have D : C3 wr cb (co + j * 8 + 5) (cv j) := HW.out.2.2.1.hc.cv j hlt
      have c0 := C.c0
      have c1 := C.c1
      have c2 := C.c2
      have c3 := C.c3
      have c4 := C.c4
      have d0 := D.c0
      have d1 := D.c1
      have d2 := D.c2
      have BN := below_alloc wr (clO (ct j) (cv j))
      have N8 := B8.new wr (ct j) (cv j)
      have hC := Fits_any n g fs ⟨some ⟨cb, co, none⟩, cb, co, clen, ccap, ct, cv⟩ (ct j) (cv j) _ (HW.out.2.2.1.kept BN) ((HW.out.2.2.1.hc.pt j hlt).kept BN) ((HW.out.2.2.1.hc.pv j hlt).kept BN) HCN.out
      have HN : Hid (Bl (wr.alloc (clO (ct j) (cv j))) w.heap.size n g ∧ Wo (wr.alloc (clO (ct j) (cv j))) n g fs ⟨some ⟨cb, co, none⟩, cb, co, clen, ccap, ct, cv⟩ ∧ Below w.heap.size w (wr.alloc (clO (ct j) (cv j)))) := ⟨HW.out.2.1.kept BN, HW.out.2.2.1.kept BN, Below.next HW.out.2.2.2 BN⟩
      unfold clO at N8 hC HN
      have l0 := HN.out.1.c0
      have l1 := HN.out.1.c1
      have e0 := N8.c0
      have e1 := N8.c1
      have e2 := N8.c2
      have e3 := N8.c3
      have e4 := N8.c4
      have e5 := N8.c5
      have e6 := N8.c6
      have e7 := N8.c7
      clear C D BN N8
      go_wp2_with fail
      refine hC.mono ?_
      rintro e w2 ⟨rfl, hb2⟩
      clear hC l0 l1 e0 e1 e2 e3 e4 e5 e6 e7 c0 c1 c2 c3 c4 d0 d1 d2
      have HN2 : Hid (Bl w2 w.heap.size n g ∧ Wo w2 n g fs ⟨some ⟨cb, co, none⟩, cb, co, clen, ccap, ct, cv⟩ ∧ Below w.heap.size w w2) := ⟨HN.out.1.kept hb2, HN.out.2.1.kept hb2, Below.next HN.out.2.2 hb2⟩
      cases hf : fitB n g fs ⟨some ⟨cb, co, none⟩, cb, co, clen, ccap, ct, cv⟩ (ct j) (cv j)
      · have HE : Hid (heapB n g fs ⟨some ⟨cb, co, none⟩, cb, co, clen, ccap, ct, cv⟩ = false) := decide_eq_false (fun hh => absurd (hf.symm.trans (hh j hlt)) (by decide))
        clear hf
        go_wp2
        go_ret
        exact ⟨ret_bool HE.out.symm, HN2.out.2.2⟩
      · have HE : Hid (fitB n g fs ⟨some ⟨cb, co, none⟩, cb, co, clen, ccap, ct, cv⟩ (ct j) (cv j) = true) := hf
        clear hf
        go_wp2
        go_roundw
        case rel => exact ⟨j + 1, by omega, by go_num, fun i hi => (by
            by_cases e : i = j
            · subst e; exact HE.out
            · exact HW.out.1 i (by omega)), HN2.out⟩
        case measure => simp [intOf]; omega
    · have ij : ¬ (j : Int) < clen := by omega
      have HE : Hid (heapB n g fs ⟨cao, cb, co, clen, ccap, ct, cv⟩ = true) := decide_eq_true (fun i hi => HW.out.1 i (by have : i < clen := hi; omega))
      go_wp2
      go_ret
      exact ⟨ret_bool HE.out.symm, HW.out.2.2.2⟩
end Go.Proofs.YtnkipiegjpjfbaaGreatDoor

/- Layer 3: the reference's Fits and Heap. -/
namespace Go.Proofs.YtnkipiegjpjfbaaGreatDoor
open Go.RowKit

set_option maxRecDepth 100000 in
set_option maxHeartbeats 4000000 in
theorem rFits_any (n : Strs) (g : Grid) (fs : Fs) (cs : Cs) (t : Ty) (v : Vl) (w : World) (hw : Wo w n g fs cs) (ht : t.At w) (hv : v.At w) :
    Calls Tryz.prog 10 #[.agg #[.slice n.ao n.len n.cap, .slice g.ao g.len g.cap], .slice fs.ao fs.len fs.cap, .slice cs.ao cs.len cs.cap, .agg #[.int .i64 t.k, .int .i64 t.l, .slice t.ao t.len t.cap, .int .i64 t.h, .int .i64 t.e], .agg #[.int .i64 v.k, .int .i64 v.m, .slice v.ao v.len v.cap]] w fun e w' => e = .returned (.bool (fitB n g fs cs t v)) ∧ Below w.heap.size w w' := by
  have K0 := HB.new hw ht hv
  clear hw ht hv
  unfold latO tyO vlO at K0
  have hC := rvFormed_any v _ K0.hv
  have y0 := K0.y.c0
  have y1 := K0.y.c1
  have y2 := K0.y.c2
  go_enter Tryz.func10, Tryz.ntmps10
  go_wp2_with fail
  refine hC.mono ?_
  rintro e w1 ⟨rfl, hb1⟩
  have K1 := K0.step hb1
  clear K0 hb1 hC y0 y1 y2
  cases hok : v.ok
  · have HE : Hid (fitB n g fs cs t v = false) := by show fitB n g fs cs t v = false; unfold fitB; rw [hok, Bool.and_false]; rfl
    clear hok
    go_wp2
    go_ret
    exact ⟨ret_bool HE.out.symm, K1.bl⟩
  have hfm : v.fm = true := by
    have h2 := hok
    unfold Vl.ok at h2
    rw [Bool.and_eq_true] at h2
    exact h2.2
  have HE : Hid (fitB n g fs cs t v = holdB n g fs cs t v) := by show fitB n g fs cs t v = _; unfold fitB holdB; rw [hok, Bool.and_true]
  clear hok
  have hC := rHolds_any n g fs cs (fun f u h1 h2 h3 => rTypeOf_any n g f u h1 h2 h3) v t w1 K1.wo hfm K1.ht K1.hv
  have l0 := K1.l.c0
  have l1 := K1.l.c1
  have x0 := K1.x.c0
  have x1 := K1.x.c1
  have x2 := K1.x.c2
  have x3 := K1.x.c3
  have x4 := K1.x.c4
  have y0 := K1.y.c0
  have y1 := K1.y.c1
  have y2 := K1.y.c2
  clear hfm
  go_wp2_with fail
  refine hC.mono ?_
  rintro e w2 ⟨rfl, hb2⟩
  go_wp2
  go_ret
  exact ⟨ret_bool HE.out.symm, (K1.step hb2).bl⟩

set_option maxRecDepth 100000 in
set_option maxHeartbeats 8000000 in
theorem rHeap_any (n : Strs) (g : Grid) (fs : Fs) (cs : Cs) (w : World) (hw : Wo w n g fs cs) :
    Calls Tryz.prog 12 #[.agg #[.slice n.ao n.len n.cap, .slice g.ao g.len g.cap], .slice fs.ao fs.len fs.cap, .slice cs.ao cs.len cs.cap] w fun e w' => e = .returned (.bool (heapB n g fs cs)) ∧ Below w.heap.size w w' := by
  have b1 := below_alloc w (latO n g)
  have HS : Hid (Bl (w.alloc (latO n g)) w.heap.size n g ∧ Wo (w.alloc (latO n g)) n g fs cs ∧ Below w.heap.size w (w.alloc (latO n g))) := ⟨Bl.new w n g, hw.kept b1, b1⟩
  have hb := hw.hc.bound
  have hnil := hw.hc.nil
  clear b1 hw
  unfold latO at HS
  obtain ⟨cao, cb, co, clen, ccap, ct, cv⟩ := cs
  show Calls Tryz.prog 12 #[.agg #[.slice n.ao n.len n.cap, .slice g.ao g.len g.cap], .slice fs.ao fs.len fs.cap, .slice cao clen ccap] w fun e w' => e = .returned (.bool (heapB n g fs ⟨cao, cb, co, clen, ccap, ct, cv⟩)) ∧ Below w.heap.size w w'
  have hb' : clen ≤ 9223372036854775807 := hb
  have hnil' : 0 < clen → cao = some ⟨cb, co, none⟩ := hnil
  clear hb hnil
  go_enter Tryz.func12, Tryz.ntmps12
  go_wp2
  go_loopw [7] (fun i wr => ∃ j : Nat, j ≤ clen ∧ i = .int .i64 j ∧ Hid ((∀ i, i < j → fitB n g fs ⟨cao, cb, co, clen, ccap, ct, cv⟩ (ct i) (cv i) = true) ∧ Bl wr w.heap.size n g ∧ Wo wr n g fs ⟨cao, cb, co, clen, ccap, ct, cv⟩ ∧ Below w.heap.size w wr)) (fun i _ => clen - (intOf i).toNat)
  case atStart => exact ⟨0, Nat.zero_le _, rfl, fun _ h => absurd h (Nat.not_lt_zero _), HS.out⟩
  case round =>
    obtain ⟨j, hj, rfl, HW⟩ := hrel
    clear HS
    by_cases hlt : j < clen
    · have ij : (j : Int) < clen := by omega
      have j0 : (0 : Int) ≤ j := by omega
      have a0 := hnil' (by omega)
      subst a0
      have C : C5 wr cb (co + j * 8) (ct j) := HW.out.2.2.1.hc.ct j hlt
      have D : C3 wr cb (co + j * 8 + 5) (cv j) := HW.out.2.2.1.hc.cv j hlt
      have l0 := fun z => Gr.cell z HW.out.2.1.c0
      have l1 := fun z => Gr.cell z HW.out.2.1.c1
      have c0 := fun z => Gr.cell z C.c0
      have c1 := fun z => Gr.cell z C.c1
      have c2 := fun z => Gr.cell z C.c2
      have c3 := fun z => Gr.cell z C.c3
      have c4 := fun z => Gr.cell z C.c4
      have d0 := fun z => Gr.cell z D.c0
      have d1 := fun z => Gr.cell z D.c1
      have d2 := fun z => Gr.cell z D.c2
      have H1 : ∀ u, Below wr.heap.size wr u → Calls Tryz.prog 10 #[.agg #[.slice n.ao n.len n.cap, .slice g.ao g.len g.cap], .slice fs.ao fs.len fs.cap, .slice (some ⟨cb, co, none⟩) clen ccap, .agg #[.int .i64 (ct j).k, .int .i64 (ct j).l, .slice (ct j).ao (ct j).len (ct j).cap, .int .i64 (ct j).h, .int .i64 (ct j).e], .agg #[.int .i64 (cv j).k, .int .i64 (cv j).m, .slice (cv j).ao (cv j).len (cv j).cap]] u fun e w' => e = .returned (.bool (fitB n g fs ⟨some ⟨cb, co, none⟩, cb, co, clen, ccap, ct, cv⟩ (ct j) (cv j))) ∧ Below u.heap.size u w' := fun u hu => rFits_any n g fs ⟨some ⟨cb, co, none⟩, cb, co, clen, ccap, ct, cv⟩ (ct j) (cv j) u (HW.out.2.2.1.kept hu) ((HW.out.2.2.1.hc.pt j hlt).kept hu) ((HW.out.2.2.1.hc.pv j hlt).kept hu)
      have hNE : Nonempty (Gr wr) := ⟨⟨_, Below.refl _ _⟩⟩
      clear C D
      cases hf : fitB n g fs ⟨some ⟨cb, co, none⟩, cb, co, clen, ccap, ct, cv⟩ (ct j) (cv j)
      · rw [hf] at H1
        have HE : Hid (heapB n g fs ⟨some ⟨cb, co, none⟩, cb, co, clen, ccap, ct, cv⟩ = false) := decide_eq_false (fun hh => absurd (hf.symm.trans (hh j hlt)) (by decide))
        clear hf
        go_wp2
        refine wp_region_gr (by kernel_rfl) (by kernel_rfl) ?_
        repeat (first | go_big_quiet_step ((go_at_call 10; exact Calls.gr _ (H1 _ (Gr.bl _)))))
        refine wpQuiet_nil ?_
        rintro w8 ⟨q8, rfl⟩
        have B8 := q8.bl
        generalize q8.w = w8 at B8 ⊢
        clear q8 hNE l0 l1 c0 c1 c2 c3 c4 d0 d1 d2 H1
        go_wp2
        go_ret
        exact ⟨ret_bool HE.out.symm, Below.next HW.out.2.2.2 B8⟩
      · rw [hf] at H1
        have HE : Hid (fitB n g fs ⟨some ⟨cb, co, none⟩, cb, co, clen, ccap, ct, cv⟩ (ct j) (cv j) = true) := hf
        clear hf
        go_wp2
        refine wp_region_gr (by kernel_rfl) (by kernel_rfl) ?_
        repeat (first | go_big_quiet_step ((go_at_call 10; exact Calls.gr _ (H1 _ (Gr.bl _)))))
        refine wpQuiet_nil ?_
        rintro w8 ⟨q8, rfl⟩
        have B8 := q8.bl
        generalize q8.w = w8 at B8 ⊢
        clear q8 hNE l0 l1 c0 c1 c2 c3 c4 d0 d1 d2 H1
        have HN2 : Hid (Bl w8 w.heap.size n g ∧ Wo w8 n g fs ⟨some ⟨cb, co, none⟩, cb, co, clen, ccap, ct, cv⟩ ∧ Below w.heap.size w w8) := ⟨HW.out.2.1.kept B8, HW.out.2.2.1.kept B8, Below.next HW.out.2.2.2 B8⟩
        clear B8
        go_wp2
        go_roundw
        case rel => exact ⟨j + 1, by omega, by go_num, fun i hi => (by
            by_cases e : i = j
            · subst e; exact HE.out
            · exact HW.out.1 i (by omega)), HN2.out⟩
        case measure => simp [intOf]; omega
    · have ij : ¬ (j : Int) < clen := by omega
      have HE : Hid (heapB n g fs ⟨cao, cb, co, clen, ccap, ct, cv⟩ = true) := decide_eq_true (fun i hi => HW.out.1 i (by have : i < clen := hi; omega))
      go_wp2
      go_ret
      exact ⟨ret_bool HE.out.symm, HW.out.2.2.2⟩
end Go.Proofs.YtnkipiegjpjfbaaGreatDoor

/- Layer 3: the walks of strings.Builder's copyCheck and WriteString, over this program. -/
namespace Go.Proofs.YtnkipiegjpjfbaaGreatDoor
open Go.RowKit

theorem Tryz.sizeBuilder : (Tryz.prog.info? 67).map (·.size) = some 2 := by kernel_rfl
theorem Tryz.liesBuilder : liesAt Tryz.prog Tryz.prog.depth 67 (2 / Tryz.prog.cellsOf 67) 0 67 1 = true := by kernel_rfl
theorem Tryz.infoByteB : (Tryz.prog.info? 5).map (fun i => (i.zero, i.size, i.bytes)) = some (some (.int .u8 0), 1, 1) := by kernel_rfl

set_option maxHeartbeats 1000000 in
set_option maxRecDepth 100000 in
theorem ccheck_used (b : Nat) (w : World) (h0 : w.cell? ⟨b, 0, none⟩ = some (.pointer (some ⟨b, 0, none⟩))) :
    Calls Tryz.prog 73 #[.pointer (some ⟨b, 0, none⟩)] w fun e w' => e = .returned (.tuple #[]) ∧ w' = w := by
  obtain ⟨j, hj, _⟩ := Option.map_eq_some_iff.1 Tryz.sizeBuilder
  go_enter Tryz.func73, Tryz.ntmps73
  go_wp2
  rw [Lib.run_neq_ptr_same w _ Tryz.underlying64 hj]
  go_wp2
  go_end0
  exact ⟨rfl, rfl⟩

set_option maxHeartbeats 1000000 in
set_option maxRecDepth 100000 in
theorem ccheck_fresh (b : Nat) (w : World) (h0 : w.cell? ⟨b, 0, none⟩ = some (.pointer none)) (hsh : w.shape? b = some (67, 2)) (hfz : w.frozen? ⟨b, 0, none⟩ = false) :
    Calls Tryz.prog 73 #[.pointer (some ⟨b, 0, none⟩)] w fun e w' => e = .returned (.tuple #[]) ∧ w' = w.setCell ⟨b, 0, none⟩ (.pointer (some ⟨b, 0, none⟩)) := by
  obtain ⟨j, hj, hjs⟩ := Option.map_eq_some_iff.1 Tryz.sizeBuilder
  go_enter Tryz.func73, Tryz.ntmps73
  go_wp2
  rw [Lib.run_to_unsafe w ⟨b, 0, none⟩ Tryz.underlying64 Tryz.underlying120 hj (by rw [hjs]; decide) hsh (Nat.zero_lt_succ 1)]
  simp only [Result.andThen]
  rw [Oper.upon_value]
  go_wp2
  rw [run_callFunc_extern Tryz.func89 (by kernel_rfl) (by kernel_rfl) (by kernel_rfl) (e := Extern.AbiNoEscape.same) (by kernel_rfl)]
  rw [Lib.run_noEscape]
  simp only [Result.andThen]
  rw [Oper.upon_value]
  go_wp2
  rw [Lib.run_from_unsafe w ⟨b, 0, none⟩ Tryz.underlying120 Tryz.underlying64 hj hsh Tryz.liesBuilder]
  simp only [Result.andThen]
  rw [Oper.upon_value]
  go_wp2
  go_end0
  exact ⟨rfl, rfl⟩

/-- The builder in block b holds the bytes l; it and its row lie from B on. -/
def Bld (w : World) (B b : Nat) (l : List UInt8) : Prop := Lib.IsBuilder 67 5 B b (Lib.byteCells l) w
theorem Bld.new (w : World) : Bld (w.alloc (.cells #[.pointer none, .slice none 0 0] 67)) w.heap.size w.heap.size [] :=
  Or.inl ⟨Nat.le_refl _, _, heap_alloc_new _ _, World.ownsRow_nil _ _ _ _, by simp [Value.ownBlock]⟩
theorem Bld.at {w : World} {B b : Nat} {l : List UInt8} (h : Bld w B b l) : ∃ p v, B ≤ b ∧ w.heap[b]? = some (.cells #[p, v] 67 (0, 0)) := by
  rcases h with ⟨hB, v, hb, _⟩ | ⟨hB, v, hb, _⟩
  · exact ⟨_, v, hB, hb⟩
  · exact ⟨_, v, hB, hb⟩
theorem bat_kept {w w' : World} {B b : Nat} {p : Value} {bs : List Value} (h : Lib.BuilderAt 67 5 B b p bs w) (hb : Below w.heap.size w w') : Lib.BuilderAt 67 5 B b p bs w' := by
  obtain ⟨hB, v, hbk, hown, hne⟩ := h
  have hlt : b < w.heap.size := by
    rcases Nat.lt_or_ge b w.heap.size with h' | h'
    · exact h'
    · rw [Array.getElem?_eq_none h'] at hbk; cases hbk
  refine ⟨hB, v, (hb.block b hlt).trans hbk, hown.kept (⟨hb.os, hb.tape, hb.output, hb.size, fun x hx _ => hb.block x hx⟩ : w.grownBy w' none) ?_, hne⟩
  by_cases e : v.ownBlock = none
  · exact Or.inl e
  · exact Or.inr e
theorem Bld.kept {w w' : World} {B b : Nat} {l : List UInt8} (h : Bld w B b l) (hb : Below w.heap.size w w') : Bld w' B b l := by
  rcases h with h | h
  · exact Or.inl (bat_kept h hb)
  · exact Or.inr (bat_kept h hb)

theorem own_slice {w : World} {B : Nat} {e : TypeId} {v : Value} {n : Nat} {xs : List Value} (h : w.ownsRow B e 1 v n xs) : ∃ ao n' cap, v = .slice ao n' cap := by
  rcases h.2 with ⟨hv, _⟩ | ⟨g, cap, cur, hv, _⟩
  · exact ⟨_, _, _, hv⟩
  · exact ⟨_, _, _, hv⟩
/-- What is no row of bytes, and not the builder itself, is as it was. -/
def KT (w w' : World) (b : Nat) : Prop := ∀ (X : Nat) (cs : Array Value) (T : TypeId) (fr : Nat × Nat), T ≠ 5 → X ≠ b → w.heap[X]? = some (.cells cs T fr) → w'.heap[X]? = w.heap[X]?
theorem KT.refl (w : World) (b : Nat) : KT w w b := fun _ _ _ _ _ _ _ => rfl
theorem KT.trans {w w' w'' : World} {b : Nat} (h : KT w w' b) (k : KT w' w'' b) : KT w w'' b := fun X cs T fr hT hX hh => by
  have e := h X cs T fr hT hX hh
  exact (k X cs T fr hT hX (e.trans hh)).trans e
theorem KT.bel {w w' : World} (hb : Below w.heap.size w w') (b : Nat) : KT w w' b := fun X cs T fr _ _ hh => by
  refine hb.block X ?_
  rcases Nat.lt_or_ge X w.heap.size with h' | h'
  · exact h'
  · rw [Array.getElem?_eq_none h'] at hh; cases hh
theorem KT.set (w : World) (b i : Nat) (v : Value) : KT w (w.setCell ⟨b, i, none⟩ v) b := fun _ _ _ _ _ hX _ => Below.heap_setCell _ _ _ _ hX
theorem KT.grow {w w' : World} {B : Nat} {v : Value} {n : Nat} {xs : List Value} (ho : w.ownsRow B 5 1 v n xs) (hg : w.grownBy w' v.ownBlock) (b : Nat) : KT w w' b := fun X cs T fr hT _ hh => by
  refine hg.block X ?_ ?_
  · rcases Nat.lt_or_ge X w.heap.size with h' | h'
    · exact h'
    · rw [Array.getElem?_eq_none h'] at hh; cases hh
  · intro e
    rcases ho.2 with ⟨rfl, _⟩ | ⟨g, cap, cur, rfl, _, hgc, _⟩
    · cases e
    · have e' : X = g := by injection e
      subst e'
      rw [hgc] at hh
      injection hh with hh
      injection hh with _ hh _
      exact hT hh.symm

theorem ccheck_any (B b : Nat) (l : List UInt8) (w : World) (h : Bld w B b l) :
    Calls Tryz.prog 73 #[.pointer (some ⟨b, 0, none⟩)] w fun e w' => e = .returned (.tuple #[]) ∧ Lib.BuilderAt 67 5 B b (.pointer (some ⟨b, 0, none⟩)) (Lib.byteCells l) w' ∧ Below B w w' ∧ KT w w' b := by
  rcases h with h | h
  · refine (ccheck_fresh b w h.cell0 h.shape h.frozen0).mono ?_
    rintro e w' ⟨rfl, rfl⟩
    exact ⟨rfl, h.used _, (Below.refl B w).setCell (p := ⟨b, 0, none⟩) h.1 _, KT.set _ _ _ _⟩
  · refine (ccheck_used b w h.cell0).mono ?_
    rintro e w' ⟨rfl, rfl⟩
    exact ⟨rfl, h, Below.refl B _, KT.refl _ _⟩

set_option maxHeartbeats 2000000 in
set_option maxRecDepth 100000 in
theorem wstr_any (B b : Nat) (l : List UInt8) (s : ByteArray) (w : World) (h : Bld w B b l) (hlen : l.length + s.size ≤ 140737488355328) (hBw : B ≤ w.heap.size) :
    Calls Tryz.prog 48 #[.pointer (some ⟨b, 0, none⟩), .string s] w fun e w' => e = .returned (.tuple #[.int .i64 s.size, .nilIface]) ∧ Bld w' B b (l ++ s.data.toList) ∧ Below B w w' ∧ KT w w' b := by
  obtain ⟨i0, hi, hz0, hz1, hz2⟩ := info_parts Tryz.infoByteB
  have HH : Hid (Bld w B b l) := h
  have hl' : (Lib.byteCells l).length = l.length := Lib.byteCells_length l
  have HL : Hid ((Lib.byteCells l).length = l.length) := hl'
  clear h hl'
  go_enter Tryz.func48, Tryz.ntmps48
  go_wp2_with fail
  refine (ccheck_any B b l w HH.out).mono ?_
  rintro e w1 ⟨rfl, ⟨hB, v, hbk, hown, hne⟩, hb1, hk1⟩
  have HK1 : Hid (KT w w1 b) := hk1
  clear hk1
  have c0 : w1.cell? ⟨b, 0, none⟩ = some (.pointer (some ⟨b, 0, none⟩)) := by rw [Lib.cell_of_heap hbk]; rfl
  have c1 : w1.cell? ⟨b, 1, none⟩ = some v := by rw [Lib.cell_of_heap hbk]; rfl
  have HBK : Hid (w1.heap[b]? = some (.cells #[.pointer (some ⟨b, 0, none⟩), v] 67 (0, 0))) := hbk
  have HO : Hid (w1.ownsRow B 5 1 v (Lib.byteCells l).length (Lib.byteCells l)) := hown
  have HNE : Hid (v.ownBlock ≠ some b) := hne
  have hlt : b < w1.heap.size := by
    rcases Nat.lt_or_ge b w1.heap.size with h' | h'
    · exact h'
    · simp [Array.getElem?_eq_none h'] at hbk
  have hsz := hb1.size
  clear hbk hown hne
  go_wp2_with (at_builtin; refine Lib.wpList_append_own_string _ rfl _ _ 65 9 rfl B 5 i0 Tryz.underlying65 Tryz.underlying9 hi hz0 hz1 hz2 _ _ _ rfl HO.out s rfl (by rw [HL.out]; unfold maxLen; omega) (by rw [HL.out]; omega) (by omega) ?_; intro v' w2 hown' hgrow _; obtain ⟨ao, n', cap, rfl⟩ := own_slice hown'; have hb2 : w2.heap[b]? = some (.cells #[.pointer (some ⟨b, 0, none⟩), v] 67 (0, 0)) := (hgrow.block b hlt (fun e => HNE.out e.symm)).trans HBK.out; have d0 : w2.cell? ⟨b, 0, none⟩ = some (.pointer (some ⟨b, 0, none⟩)) := (by rw [Lib.cell_of_heap hb2]; rfl); have d1 : w2.cell? ⟨b, 1, none⟩ = some v := (by rw [Lib.cell_of_heap hb2]; rfl); have f1 : w2.frozen? ⟨b, 1, none⟩ = false := Lib.frozen_of_heap hb2 1; have HB2 : Hid (w2.heap[b]? = some (.cells #[.pointer (some ⟨b, 0, none⟩), v] 67 (0, 0))) := hb2; have HO2 : Hid (w2.ownsRow B 5 1 (.slice ao n' cap) ((Lib.byteCells l).length + s.size) (Lib.byteCells l ++ Lib.strCells s)) := hown'; have HG : Hid (w1.grownBy w2 v.ownBlock) := hgrow; clear hb2 hown' hgrow)
  go_ret2
  refine ⟨rfl, Or.inr ?_, ?_, HK1.out.trans ((KT.grow HO.out HG.out b).trans (KT.set _ _ _ _))⟩
  · have hcs : Lib.byteCells (l ++ s.data.toList) = Lib.byteCells l ++ Lib.strCells s := by rw [Lib.strCells_eq]; simp [Lib.byteCells]
    rw [hcs]
    exact Lib.BuilderAt.put (T := 67) (e := 5) hB HB2.out (bs' := Lib.byteCells l ++ Lib.strCells s) (by have h := HO2.out; rw [List.length_append, Lib.strCells_length]; exact h) (by decide)
  · exact (hb1.grown HG.out (by omega) (fun k hk => (HO.out.lt k hk).1)).setCell (p := ⟨b, 1, none⟩) hB _
end Go.Proofs.YtnkipiegjpjfbaaGreatDoor

/- Layer 3: the walks of value.write and writeAll: a value's text. -/
namespace Go.Proofs.YtnkipiegjpjfbaaGreatDoor
open Go.RowKit

/-- The table of powers of ten is as the library's text lays it. -/
def Tab (w : World) : Prop := Lib.TabIs Tryz.prog w "internal/strconv.uint64pow10" .u64 Lib.pow10Tab
theorem Tab.kept {w w' : World} (h : Tab w) (hb : Below w.heap.size w w') : Tab w' := by
  unfold Tab Lib.TabIs World.var? at *
  cases hg : Tryz.prog.globalNamed "internal/strconv.uint64pow10" with
  | none => rw [hg] at h; cases h
  | some g =>
    rw [hg] at h
    have hlt : g < w.heap.size := by
      rcases Nat.lt_or_ge g w.heap.size with h' | h'
      · exact h'
      · simp [Array.getElem?_eq_none h'] at h
    simp only [Option.bind_some] at h ⊢
    rw [hb.block g hlt]
    exact h
theorem fmtInt_any (n : Int) (h : -9223372036854775808 ≤ n ∧ n ≤ 9223372036854775807) (w : World) (ht : Tab w) :
    Calls Tryz.prog 49 #[.int .i64 n, .int .i64 10] w fun e w' => e = .returned (.string ⟨(Lib.itoa n).toArray⟩) ∧ Below w.heap.size w w' := by
  refine (Tryz.strconv_FormatInt_10 n h.1 h.2 w ht).mono ?_
  rintro e w' ⟨rfl, k, os, rfl⟩
  exact ⟨rfl, Lib.below_grow w.heap.size w (Nat.le_refl _) k os⟩

/-- Each number of a value is an int64. -/
def Vl.rng : Vl → Prop
  | .dm => True
  | .mk _ m _ _ _ len _ ps => (-9223372036854775808 ≤ m ∧ m ≤ 9223372036854775807) ∧ ∀ i, i < len → Vl.rng (ps i)

/-- What write does with one value. -/
def WC (v : Vl) : Prop := ∀ (w0 w : World) (B b : Nat) (l : List UInt8), v.At w0 → Tab w0 → w0.heap.size ≤ B → Below w0.heap.size w0 w → B ≤ w.heap.size → Bld w B b l → v.fm = true → v.rng → l.length + 40 * v.nodes ≤ 1000000000 →
  Calls Tryz.prog 28 #[.pointer (some ⟨b, 0, none⟩), .agg #[.int .i64 v.k, .int .i64 v.m, .slice v.ao v.len v.cap]] w fun e w' => e = .returned (.tuple #[]) ∧ Bld w' B b (l ++ v.txt) ∧ Below B w w' ∧ KT w w' b

theorem commas_len (f : Nat → List UInt8) (g : Nat → Nat) (n : Nat) (h : ∀ i, i < n → (f i).length + 2 ≤ g i) : (commas f n).length ≤ sumTo g n := by
  induction n with
  | zero => exact Nat.zero_le _
  | succ n ih =>
    have h1 := ih (fun i hi => h i (by omega))
    have h2 := h n (by omega)
    show _ ≤ sumTo g n + g n
    simp only [commas, List.length_append]
    split
    · simp; omega
    · simp; omega
theorem sumTo_mul (g : Nat → Nat) (n : Nat) : sumTo (fun i => 40 * g i) n = 40 * sumTo g n := by
  induction n with
  | zero => rfl
  | succ n ih => show sumTo (fun i => 40 * g i) n + 40 * g n = 40 * (sumTo g n + g n); rw [ih]; omega
theorem txt_len : ∀ v : Vl, v.fm = true → v.rng → v.txt.length + 2 ≤ 40 * v.nodes
  | .dm => fun h => by cases h
  | .mk k m ao b o len cap ps => by
    intro hf hr
    have ih := fun i => txt_len (ps i)
    obtain ⟨n1, p1⟩ := fm_parts hf
    have hc : (commas (fun i => (ps i).txt) len).length ≤ 40 * sumTo (fun i => (ps i).nodes) len := by
      rw [← sumTo_mul]
      exact commas_len _ _ len (fun i hi => ih i (p1 i hi) (hr.2 i hi))
    have hi := Lib.itoa_length_le m hr.1.1 hr.1.2
    show _ ≤ 40 * (1 + sumTo (fun i => (ps i).nodes) len)
    rcases nd_kind n1 with rfl | rfl | rfl | rfl | rfl
    · show (Lib.itoa m).length + 2 ≤ _; omega
    · show (if m = 1 then [116, 114, 117, 101] else [102, 97, 108, 115, 101] : List UInt8).length + 2 ≤ _
      split <;> simp <;> omega
    · show ([40] ++ (commas (fun i => (ps i).txt) len ++ [41])).length + 2 ≤ _
      simp only [List.length_append, List.length_cons, List.length_nil]; omega
    · show ([102, 117, 110, 32] ++ (Lib.itoa m ++ (if len = 0 then [] else [32, 91] ++ (commas (fun i => (ps i).txt) len ++ [93])))).length + 2 ≤ _
      split <;> simp only [List.length_append, List.length_cons, List.length_nil] <;> omega
    · show ([114, 101, 102, 32] ++ Lib.itoa m).length + 2 ≤ _
      simp only [List.length_append, List.length_cons, List.length_nil]; omega

set_option maxRecDepth 100000 in
set_option maxHeartbeats 4000000 in
theorem wall_any (ao : Option Addr) (b0 o len cap : Nat) (ps : Nat → Vl) (op cl : ByteArray) (w0 w : World) (B b : Nat) (l : List UInt8)
    (hnil : 0 < len → ao = some ⟨b0, o, none⟩) (hbd : len ≤ 9223372036854775807) (hp : ∀ i, i < len → C3 w0 b0 (o + i * 3) (ps i) ∧ (ps i).At w0) (hwc : ∀ i, i < len → WC (ps i) ∧ (ps i).fm = true ∧ (ps i).rng)
    (hT : Tab w0) (h0B : w0.heap.size ≤ B) (hb0 : Below w0.heap.size w0 w) (hBw : B ≤ w.heap.size) (hBl : Bld w B b l) (hlen : l.length + 10 + 40 * sumTo (fun i => (ps i).nodes) len ≤ 1000000000) (hop : op.size ≤ 2) (hcl : cl.size ≤ 2) (hl0 : 0 < len) :
    Calls Tryz.prog 51 #[.pointer (some ⟨b, 0, none⟩), .string op, .slice ao len cap, .string cl] w fun e w' => e = .returned (.tuple #[]) ∧ Bld w' B b (l ++ (op.data.toList ++ (commas (fun i => (ps i).txt) len ++ cl.data.toList))) ∧ Below B w w' ∧ KT w w' b := by
  have HBl : Hid (Bld w B b l) := hBl
  have HP : Hid (∀ i, i < len → C3 w0 b0 (o + i * 3) (ps i) ∧ (ps i).At w0) := hp
  have HWC : Hid (∀ i, i < len → WC (ps i) ∧ (ps i).fm = true ∧ (ps i).rng) := hwc
  have HT : Hid (Tab w0) := hT
  have HB0 : Hid (Below w0.heap.size w0 w) := hb0
  have HLen : Hid (l.length + 10 + 40 * sumTo (fun i => (ps i).nodes) len ≤ 1000000000) := hlen
  have hll : l.length ≤ 1000000000 := by omega
  have hos : op.data.toList.length = op.size := by rw [← Lib.size_eq]
  have hcs : cl.data.toList.length = cl.size := by rw [← Lib.size_eq]
  have HOS : Hid (op.data.toList.length = op.size ∧ cl.data.toList.length = cl.size) := ⟨hos, hcs⟩
  have HCl : Hid (∀ k, k ≤ len → (commas (fun i => (ps i).txt) k).length ≤ 40 * sumTo (fun i => (ps i).nodes) k) := fun k hk => by
    rw [← sumTo_mul]
    exact commas_len _ _ k (fun i hi => txt_len _ (hwc i (by omega)).2.1 (hwc i (by omega)).2.2)
  rw [hnil hl0]
  clear hBl hp hwc hT hb0 hlen hos hcs hnil
  go_enter Tryz.func51, Tryz.ntmps51
  go_wp2_with (go_at_call 48; refine (wstr_any B b l op w HBl.out (by omega) hBw).mono ?_; rintro e w1 ⟨rfl, h1, hb1, hk1⟩; have H1 : Hid (Bld w1 B b (l ++ op.data.toList)) := h1; have HB1 : Hid (Below B w w1 ∧ KT w w1 b) := ⟨hb1, hk1⟩; clear h1 hb1 hk1)
  go_loopw [15] (fun i wr => ∃ k : Nat, k ≤ len ∧ i = .int .i64 k ∧ Bld wr B b (l ++ op.data.toList ++ commas (fun i => (ps i).txt) k) ∧ Below B w wr ∧ KT w wr b) (fun i _ => len - (intOf i).toNat)
  case atStart => exact ⟨0, Nat.zero_le _, rfl, by simpa [commas] using H1.out, HB1.out.1, HB1.out.2⟩
  case round =>
    obtain ⟨k, hk, rfl, hbl, hbw, hkt⟩ := hrel
    have HBk : Hid (Bld wr B b (l ++ op.data.toList ++ commas (fun i => (ps i).txt) k)) := hbl
    have HW : Hid (Below B w wr ∧ KT w wr b) := ⟨hbw, hkt⟩
    have hws := hbw.size
    have HCk : Hid ((l ++ op.data.toList ++ commas (fun i => (ps i).txt) k).length ≤ l.length + 2 + 40 * sumTo (fun i => (ps i).nodes) k) := by
      show _ ≤ _
      rw [List.length_append, List.length_append, HOS.out.1]
      have := HCl.out k hk
      omega
    clear hbl hbw hkt H1 HB1
    by_cases hlt : k < len
    · have HBr : Hid (Below w0.heap.size w0 wr) := HB0.out.trans (HW.out.1.mono h0B)
      obtain ⟨u, hu⟩ : ∃ u, u = ps k := ⟨_, rfl⟩
      have HU : Hid (u = ps k) := hu
      have HPk : Hid (C3 w0 b0 (o + k * 3) u ∧ u.At w0) := by show _ ∧ _; rw [hu]; exact HP.out k hlt
      have HWk : Hid (WC u ∧ u.fm = true ∧ u.rng) := by show _ ∧ _ ∧ _; rw [hu]; exact HWC.out k hlt
      have hC := HPk.out.1.kept HBr.out
      have c0 := hC.c0
      have c1 := hC.c1
      have c2 := hC.c2
      clear hC
      have HM : Hid (sumTo (fun i => (ps i).nodes) k + u.nodes ≤ sumTo (fun i => (ps i).nodes) len) := by show _ ≤ _; rw [hu]; exact sumTo_mono (fun i => (ps i).nodes) (show k + 1 ≤ len by omega)
      clear hu
      have HV : Hid (Bv (wr.alloc (.cells #[.int .i64 u.k, .int .i64 u.m, .slice u.ao u.len u.cap] 35)) wr.heap.size u) := Bv.new wr u
      have HVb : Hid (Below wr.heap.size wr (wr.alloc (.cells #[.int .i64 u.k, .int .i64 u.m, .slice u.ao u.len u.cap] 35))) := (Below.refl _ _).alloc (Nat.le_refl _) _
      have HVh : Hid ((wr.alloc (.cells #[.int .i64 u.k, .int .i64 u.m, .slice u.ao u.len u.cap] 35)).heap[wr.heap.size]? = some (.cells #[.int .i64 u.k, .int .i64 u.m, .slice u.ao u.len u.cap] 35 (0, 0))) := heap_alloc_new _ _
      go_upto_region 4 with fail
      generalize wr.alloc (.cells #[.int .i64 u.k, .int .i64 u.m, .slice u.ao u.len u.cap] 35) = wv at *
      clear c0 c1 c2
      have hBb : b < wr.heap.size := by
        obtain ⟨p, v, _, hh⟩ := HBk.out.at
        rcases Nat.lt_or_ge b wr.heap.size with h' | h'
        · exact h'
        · rw [Array.getElem?_eq_none h'] at hh; cases hh
      have HBv : Hid (Bld wv B b (l ++ op.data.toList ++ commas (fun i => (ps i).txt) k)) := HBk.out.kept HVb.out
      have hvs := HVb.out.size
      have HVk : Hid (Below B w wv ∧ KT w wv b) := ⟨HW.out.1.trans (HVb.out.mono (by omega)), HW.out.2.trans (KT.bel HVb.out b)⟩
      clear HBk HW HBr
      by_cases h0 : k = 0
      · have d0 := HV.out.c0
        have d1 := HV.out.c1
        have d2 := HV.out.c2
        go_wp2_with (go_at_call 28; refine (HWk.out.1 w0 wv B b _ HPk.out.2 HT.out h0B (HB0.out.trans (HVk.out.1.mono h0B)) (by omega) HBv.out HWk.out.2.1 HWk.out.2.2 (by have := HCk.out; have := HM.out; have := HLen.out; omega)).mono ?_; rintro e w3 ⟨rfl, h3, hb3, hk3⟩; have H3 : Hid (Bld w3 B b (l ++ op.data.toList ++ commas (fun i => (ps i).txt) k ++ u.txt)) := h3; have HB3 : Hid (Below B w w3 ∧ KT w w3 b) := ⟨HVk.out.1.trans hb3, HVk.out.2.trans hk3⟩; clear h3 hb3 hk3)
        go_roundw
        case rel =>
          refine ⟨k + 1, by omega, by go_num, ?_, HB3.out.1, HB3.out.2⟩
          have h := H3.out
          rw [show commas (fun i => (ps i).txt) (k + 1) = commas (fun i => (ps i).txt) k ++ (ps k).txt by subst h0; simp [commas], ← List.append_assoc, ← HU.out]
          exact h
        case measure => simp [intOf]; omega
      · go_wp2_with (first
          | (go_at_call 48; refine (wstr_any B b _ ⟨#[44, 32]⟩ wv HBv.out (by have := HCk.out; have := HM.out; have := HLen.out; show _ + 2 ≤ _; omega) (by omega)).mono ?_; rintro e w2 ⟨rfl, h2, hb2, hk2⟩; have H2 : Hid (Bld w2 B b (l ++ op.data.toList ++ commas (fun i => (ps i).txt) k ++ [44, 32])) := h2; have HB2 : Hid (Below B w w2 ∧ KT w w2 b) := ⟨HVk.out.1.trans hb2, HVk.out.2.trans hk2⟩; have HX : Hid (w2.heap[wr.heap.size]? = some (.cells #[.int .i64 u.k, .int .i64 u.m, .slice u.ao u.len u.cap] 35 (0, 0))) := (hk2 _ _ _ _ (by decide) (by omega) HVh.out).trans HVh.out; have d0 : w2.cell? ⟨wr.heap.size, 0, none⟩ = some (.int .i64 u.k) := (by rw [Lib.cell_of_heap HX.out]; rfl); have d1 : w2.cell? ⟨wr.heap.size, 1, none⟩ = some (.int .i64 u.m) := (by rw [Lib.cell_of_heap HX.out]; rfl); have d2 : w2.cell? ⟨wr.heap.size, 2, none⟩ = some (.slice u.ao u.len u.cap) := (by rw [Lib.cell_of_heap HX.out]; rfl); have hs2 := hb2.size; clear h2 hb2 hk2)
          | (go_at_call 28; refine (HWk.out.1 w0 w2 B b _ HPk.out.2 HT.out h0B (HB0.out.trans (HB2.out.1.mono h0B)) (by omega) H2.out HWk.out.2.1 HWk.out.2.2 (by have := HCk.out; have := HM.out; have := HLen.out; rw [List.length_append]; show _ + 2 + _ ≤ _; omega)).mono ?_; rintro e w3 ⟨rfl, h3, hb3, hk3⟩; have H3 : Hid (Bld w3 B b (l ++ op.data.toList ++ commas (fun i => (ps i).txt) k ++ [44, 32] ++ u.txt)) := h3; have HB3 : Hid (Below B w w3 ∧ KT w w3 b) := ⟨HB2.out.1.trans hb3, HB2.out.2.trans hk3⟩; clear h3 hb3 hk3))
        go_roundw
        case rel =>
          refine ⟨k + 1, by omega, by go_num, ?_, HB3.out.1, HB3.out.2⟩
          have h := H3.out
          rw [show commas (fun i => (ps i).txt) (k + 1) = commas (fun i => (ps i).txt) k ++ [44, 32] ++ (ps k).txt by simp only [commas]; rw [if_neg h0], ← List.append_assoc, ← List.append_assoc, ← HU.out]
          exact h
        case measure => simp [intOf]; omega
    · have HK : Hid (k = len) := by show k = len; omega
      go_wp2_with (go_at_call 48; refine (wstr_any B b _ cl wr HBk.out (by have := HCk.out; have := HLen.out; rw [HK.out] at *; omega) (by omega)).mono ?_; rintro e w2 ⟨rfl, h2, hb2, hk2⟩; have H2 : Hid (Bld w2 B b (l ++ op.data.toList ++ commas (fun i => (ps i).txt) k ++ cl.data.toList)) := h2; have HB2 : Hid (Below B w w2 ∧ KT w w2 b) := ⟨HW.out.1.trans hb2, HW.out.2.trans hk2⟩; clear h2 hb2 hk2)
      go_end0
      refine ⟨rfl, ?_, HB2.out.1, HB2.out.2⟩
      have h := H2.out
      rw [HK.out] at h
      simpa only [List.append_assoc] using h
end Go.Proofs.YtnkipiegjpjfbaaGreatDoor
