/- Layer 13: a type put into a pool: put, walked. -/
import Derived.Test.YtmkncmmegjfipaaGreatDoorP25
import Derived.Deep.QuietTactic
import Derived.BigQuiet
import Derived.Test.YtmkncmmegjfipaaGreatDoorP16
namespace Go.Proofs.YtmkncmmegjfipaaGreatDoor
open Go Go.RowKit

set_option maxRecDepth 100000 in
set_option maxHeartbeats 8000000 in
theorem put_any {w0 : World} {n : Strs} {g : Grid} {p : Nat} : ∀ (t : Ty) (S : Nat → Prop) (R : List Ty) (w : World), t.ok n.len = true → t.At w0 → Pl w0 n g p S R w → R.length + t.nodes ≤ 2000000000 →
    Calls Tryz.prog 139 #[.pointer (some ⟨p, 0, none⟩), .agg #[.int .i64 t.k, .int .i64 t.l, .slice t.ao t.len t.cap, .int .i64 t.h, .int .i64 t.e]] w fun e w' => PutR w0 n g p S w t R e w' := by
  intro t
  induction t with
  | dm => intro S R w _ hAt; exact hAt.elim
  | mk k l h e ao b o len cap ps ih =>
    intro S R w hok hAt hP hR
    show Calls Tryz.prog 139 #[.pointer (some ⟨p, 0, none⟩), .agg #[.int .i64 k, .int .i64 l, .slice ao len cap, .int .i64 h, .int .i64 e]] w fun r w' => PutR w0 n g p S w (.mk k l h e ao b o len cap ps) R r w'
    have X0 := Bx.new w (.mk k l h e ao b o len cap ps)
    have bA := Blk.new w [.int .i64 k, .int .i64 l, .slice ao len cap, .int .i64 h, .int .i64 e] 53
    have B0 := below_alloc w (.cells #[.int .i64 k, .int .i64 l, .slice ao len cap, .int .i64 h, .int .i64 e] 53)
    have hb : len ≤ 9223372036854775807 := hAt.bound
    have hnil : 0 < len → ao = some ⟨b, o, none⟩ := hAt.nil
    have hl2 : len ≤ 2 := (fm_len (ok_fm hok).1).2.2.1
    have x0 := X0.c0
    have x1 := X0.c1
    have x2 := X0.c2
    have x3 := X0.c3
    have x4 := X0.c4
    simp only [Ty.k, Ty.l, Ty.h, Ty.e, Ty.ao, Ty.len, Ty.cap] at x0 x1 x2 x3 x4
    have HT := hyd (show (Ty.mk k l h e ao b o len cap ps).ok n.len = true ∧ Ty.At w0 (.mk k l h e ao b o len cap ps) ∧ R.length + (Ty.mk k l h e ao b o len cap ps).nodes ≤ 2000000000 ∧ w0.heap.size ≤ w.heap.size from ⟨hok, hAt, hR, hP.bl.size⟩)
    have HS := hyd (show Below w.heap.size w (w.alloc (.cells #[.int .i64 k, .int .i64 l, .slice ao len cap, .int .i64 h, .int .i64 e] 53)) ∧ Pl w0 n g p S R w ∧ Blk (w.alloc (.cells #[.int .i64 k, .int .i64 l, .slice ao len cap, .int .i64 h, .int .i64 e] 53)) w.heap.size [.int .i64 k, .int .i64 l, .slice ao len cap, .int .i64 h, .int .i64 e] 53 from ⟨B0, hP, bA⟩)
    have hN := nodeOf_any (.mk k l h e ao b o len cap ps) (w.alloc (.cells #[.int .i64 k, .int .i64 l, .slice ao len cap, .int .i64 h, .int .i64 e] 53))
    simp only [Ty.k, Ty.l, Ty.h, Ty.e, Ty.ao, Ty.len, Ty.cap] at hN
    clear X0 B0 bA hAt hP hok hR
    go_enter Tryz.func139, Tryz.ntmps139
    go_wp2_with fail
    refine hN.mono ?_
    rintro _ w2 ⟨rfl, hb2⟩
    have bN := Blk.new w2 [.int .i64 k, .int .i64 l, .int .i64 h, .int .i64 e, .int .i64 (-1), .int .i64 (-1)] 212
    have B3 := Below.next hb2 (below_alloc w2 (.cells #[.int .i64 k, .int .i64 l, .int .i64 h, .int .i64 e, .int .i64 (-1), .int .i64 (-1)] 212))
    have y2 := up B3 x2
    have HS2 := hyd (show Pg w0 n g p S w S R (w2.alloc (.cells #[.int .i64 k, .int .i64 l, .int .i64 h, .int .i64 e, .int .i64 (-1), .int .i64 (-1)] 212)) ∧ Blk (w2.alloc (.cells #[.int .i64 k, .int .i64 l, .int .i64 h, .int .i64 e, .int .i64 (-1), .int .i64 (-1)] 212)) w.heap.size [.int .i64 k, .int .i64 l, .slice ao len cap, .int .i64 h, .int .i64 e] 53 ∧ Blk (w2.alloc (.cells #[.int .i64 k, .int .i64 l, .int .i64 h, .int .i64 e, .int .i64 (-1), .int .i64 (-1)] 212)) w2.heap.size [.int .i64 k, .int .i64 l, .int .i64 h, .int .i64 e, .int .i64 (-1), .int .i64 (-1)] 212 ∧ ¬ S w.heap.size ∧ ¬ S w2.heap.size from ⟨Pg.of HS.out.2.1 (Below.next HS.out.1 B3), HS.out.2.2.kept B3, bN, fun hx => absurd (HS.out.2.1.ge hx).2 (Nat.lt_irrefl _), fun hx => by have h1 := (HS.out.2.1.ge hx).2; have h2 := (Below.next HS.out.1 hb2).size; omega⟩)
    have HG := hyd (show w.heap.size < w2.heap.size from Nat.lt_of_lt_of_le (by rw [alloc_size]; omega) hb2.size)
    clear hN bN B3 x0 x1 x2 x3 x4 HS
    go_wp2
    clear y2 hb2
    generalize w2.heap.size = B at *
    go_loopw [15] (fun i wr => ∃ (j : Nat) (S1 : Nat → Prop) (y0 y1 : Int), j ≤ len ∧ i = .int .i64 j ∧ Pg w0 n g p S w S1 (itr (fun i => putT (ps i)) j R) wr ∧ Blk wr w.heap.size [.int .i64 k, .int .i64 l, .slice ao len cap, .int .i64 h, .int .i64 e] 53 ∧ Blk wr B [.int .i64 k, .int .i64 l, .int .i64 h, .int .i64 e, .int .i64 y0, .int .i64 y1] 212 ∧ ¬ S1 w.heap.size ∧ ¬ S1 B ∧ ((0 < j → PrtAt (itr (fun i => putT (ps i)) j R) (ps 0) y0) ∧ (¬ 0 < j → y0 = -1)) ∧ ((1 < j → PrtAt (itr (fun i => putT (ps i)) j R) (ps 1) y1) ∧ (¬ 1 < j → y1 = -1))) (fun i _ => len - (intOf i).toNat)
    case atStart => exact ⟨0, S, -1, -1, Nat.zero_le _, rfl, HS2.out.1, HS2.out.2.1, HS2.out.2.2.1, HS2.out.2.2.2.1, HS2.out.2.2.2.2, ⟨fun h => absurd h (Nat.lt_irrefl _), fun _ => rfl⟩, ⟨fun h => absurd h (by omega), fun _ => rfl⟩⟩
    case round =>
      clear HS2
      obtain ⟨j, S1, y0, y1, hj, rfl, hG, hA, hB, nA, nB, hy0, hy1⟩ := hrel
      by_cases hlt : j < len
      · have ij : (j : Int) < len := by omega
        have a0 := hnil (by omega)
        subst a0
        have hAt := HT.out.2.1.kept hG.pl.bl
        have C : C5 wr b (o + j * 5) (ps j) := hAt.cells hlt
        have B0 := below_alloc wr (.cells #[.int .i64 (ps j).k, .int .i64 (ps j).l, .slice (ps j).ao (ps j).len (ps j).cap, .int .i64 (ps j).h, .int .i64 (ps j).e] 53)
        have HI := hyd (show Pg w0 n g p S w S1 (itr (fun i => putT (ps i)) j R) wr ∧ Blk wr w.heap.size _ 53 ∧ Blk wr B _ 212 ∧ ¬ S1 w.heap.size ∧ ¬ S1 B from ⟨hG, hA, hB, nA, nB⟩)
        have HY := hyd (show ((0 < j → PrtAt (itr (fun i => putT (ps i)) j R) (ps 0) y0) ∧ (¬ 0 < j → y0 = -1)) ∧ ((1 < j → PrtAt (itr (fun i => putT (ps i)) j R) (ps 1) y1) ∧ (¬ 1 < j → y1 = -1)) from ⟨hy0, hy1⟩)
        have z0 := C.c0
        have z1 := C.c1
        have z2 := C.c2
        have z3 := C.c3
        have z4 := C.c4
        have hC := ih j S1 (itr (fun i => putT (ps i)) j R) _ (ok_part HT.out.1 j hlt) (HT.out.2.1.part hlt) (hG.pl.kept B0) (by
          have h1 := itr_len (f := fun i => putT (ps i)) (c := fun i => (ps i).nodes) (fun i R => putT_len (ps i) R) j R
          have h2 := sumTo_le (fun i => (ps i).nodes) hlt
          have h3 := HT.out.2.2.1
          have h4 : (Ty.mk k l h e (some ⟨b, o, none⟩) b o len cap ps).nodes = 1 + sumTo (fun i => (ps i).nodes) len := rfl
          omega)
        clear hAt C hG hA hB nA nB hy0 hy1
        go_wp2_with fail
        refine hC.mono ?_
        rintro _ w5 ⟨i5, S5, rfl, hi5, hg5⟩
        have HJ := hyd (show Pg w0 n g p S w S5 (itr (fun i => putT (ps i)) (j + 1) R) w5 ∧ Blk w5 w.heap.size _ 53 ∧ Blk w5 B _ 212 ∧ ¬ S5 w.heap.size ∧ ¬ S5 B from by
          have h1 := hg5.blk (HI.out.2.1.kept B0) HI.out.2.2.2.1
          have h2 := hg5.blk (HI.out.2.2.1.kept B0) HI.out.2.2.2.2
          exact ⟨HI.out.1.trans (Pg.ahead B0 hg5), h1.1, h2.1, h1.2, h2.2⟩)
        have HQ : Hid (PrtAt (itr (fun i => putT (ps i)) (j + 1) R) (ps j) i5 ∧ ∀ (a : Nat) (s : Ty), (itr (fun i => putT (ps i)) j R)[a]? = some s → (itr (fun i => putT (ps i)) (j + 1) R)[a]? = some s) := by
          obtain ⟨s, h1, h2⟩ := hi5
          exact ⟨⟨i5, s, rfl, h1, h2⟩, fun a s h => putT_pre (ps j) _ a s h⟩
        clear hC HI B0 z0 z1 z2 z3 z4 hi5 hg5
        have hj2 : j = 0 ∨ j = 1 := by omega
        rcases hj2 with rfl | rfl
        · have z4 := HJ.out.2.2.1.cell 4 rfl
          have f4 := HJ.out.2.2.1.frozen 4
          have W6 := wrote_cell (i := 4) HJ.out.2.2.1 (.int .i64 i5)
          have HW := hyd (show Pg w0 n g p S w S5 (itr (fun i => putT (ps i)) (0 + 1) R) (w5.setCell ⟨B, 4, none⟩ (.int .i64 i5)) ∧ Blk (w5.setCell ⟨B, 4, none⟩ (.int .i64 i5)) w.heap.size [.int .i64 k, .int .i64 l, .slice (some ⟨b, o, none⟩) len cap, .int .i64 h, .int .i64 e] 53 ∧ Blk (w5.setCell ⟨B, 4, none⟩ (.int .i64 i5)) B [.int .i64 k, .int .i64 l, .int .i64 h, .int .i64 e, .int .i64 i5, .int .i64 y1] 212 ∧ ¬ S5 w.heap.size ∧ ¬ S5 B from ⟨HJ.out.1.wrote W6 HJ.out.2.2.2.2 (Nat.le_of_lt HG.out) HT.out.2.2.2, W6.keep HJ.out.2.1 (Nat.ne_of_lt HG.out), W6.blk, HJ.out.2.2.2⟩)
          clear HJ W6
          go_wp2
          go_roundw
          case rel => exact ⟨1, S5, i5, y1, by omega, rfl, HW.out.1, HW.out.2.1, HW.out.2.2.1, HW.out.2.2.2.1, HW.out.2.2.2.2, ⟨fun _ => HQ.out.1, fun h => absurd (by omega) h⟩, ⟨fun h => absurd h (by omega), fun _ => HY.out.2.2 (by omega)⟩⟩
          case measure => simp [intOf]; omega
        · have z4 := HJ.out.2.2.1.cell 5 rfl
          have f4 := HJ.out.2.2.1.frozen 5
          have W6 := wrote_cell (i := 5) HJ.out.2.2.1 (.int .i64 i5)
          have HW := hyd (show Pg w0 n g p S w S5 (itr (fun i => putT (ps i)) (1 + 1) R) (w5.setCell ⟨B, 5, none⟩ (.int .i64 i5)) ∧ Blk (w5.setCell ⟨B, 5, none⟩ (.int .i64 i5)) w.heap.size [.int .i64 k, .int .i64 l, .slice (some ⟨b, o, none⟩) len cap, .int .i64 h, .int .i64 e] 53 ∧ Blk (w5.setCell ⟨B, 5, none⟩ (.int .i64 i5)) B [.int .i64 k, .int .i64 l, .int .i64 h, .int .i64 e, .int .i64 y0, .int .i64 i5] 212 ∧ ¬ S5 w.heap.size ∧ ¬ S5 B from ⟨HJ.out.1.wrote W6 HJ.out.2.2.2.2 (Nat.le_of_lt HG.out) HT.out.2.2.2, W6.keep HJ.out.2.1 (Nat.ne_of_lt HG.out), W6.blk, HJ.out.2.2.2⟩)
          clear HJ W6
          go_wp2
          go_roundw
          case rel => exact ⟨2, S5, y0, i5, by omega, rfl, HW.out.1, HW.out.2.1, HW.out.2.2.1, HW.out.2.2.2.1, HW.out.2.2.2.2, ⟨fun _ => (HY.out.1.1 (by omega)).pre HQ.out.2, fun h => absurd (by omega) h⟩, ⟨fun _ => HQ.out.1, fun h => absurd (by omega) h⟩⟩
          case measure => simp [intOf]; omega
      · have e2 : j = len := by omega
        subst e2
        have dj : ¬ (j : Int) < j := by omega
        obtain ⟨m, v, es, c, Q, hPw, hS1⟩ := hG.pl
        subst hS1
        obtain ⟨vo, vc, hv⟩ := owform hPw.own
        subst hv
        have P0 : Prt (itr (fun i => putT (ps i)) j R) (itr (fun i => putT (ps i)) j R).length (.mk k l h e ao b o j cap ps) 0 y0 := PrtAt.prt hy0.1 hy0.2
        have P1 : Prt (itr (fun i => putT (ps i)) j R) (itr (fun i => putT (ps i)) j R).length (.mk k l h e ao b o j cap ps) 1 y1 := PrtAt.prt hy1.1 hy1.2
        have HPT : Hid (putT (.mk k l h e ao b o j cap ps) R = if has (itr (fun i => putT (ps i)) j R) (.mk k l h e ao b o j cap ps) then itr (fun i => putT (ps i)) j R else itr (fun i => putT (ps i)) j R ++ [.mk k l h e ao b o j cap ps]) := by show _ = _; rw [putT]
        have HLN : Hid ((itr (fun i => putT (ps i)) j R).length + 1 ≤ 2000000000) := by
          show _ ≤ _
          have h1 := itr_len (f := fun i => putT (ps i)) (c := fun i => (ps i).nodes) (fun i R => putT_len (ps i) R) j R
          have h3 := HT.out.2.2.1
          have h4 : (Ty.mk k l h e ao b o j cap ps).nodes = 1 + sumTo (fun i => (ps i).nodes) j := rfl
          omega
        generalize itr (fun i => putT (ps i)) j R = R2 at *
        have HU := hyd (show Pu w0 n g p S w m (.slice vo R2.length vc) es c Q R2 w.heap.size [.int .i64 k, .int .i64 l, .slice ao j cap, .int .i64 h, .int .i64 e] B [.int .i64 k, .int .i64 l, .int .i64 h, .int .i64 e, .int .i64 y0, .int .i64 y1] wr from ⟨hPw, hG.ft, hG.ss, hA, hB, nA, nB, Nat.le_refl _, Nat.le_of_lt HG.out, HT.out.2.2.2⟩)
        have p3 := hPw.blk.cell 3 rfl
        have k0 := hB.cell 0 rfl
        have k1 := hB.cell 1 rfl
        have k2 := hB.cell 2 rfl
        have k3 := hB.cell 3 rfl
        have k4 := hB.cell 4 rfl
        have k5 := hB.cell 5 rfl
        have hL : ∀ q, (Instr.lookup 129 (.map (some m)) (.agg #[.int .i64 k, .int .i64 l, .int .i64 h, .int .i64 e, .int .i64 y0, .int .i64 y1]) true).run Tryz.prog (wr.drewN q) = .ok (.tuple #[.int .i64 (if fnd Q [k, l, h, e, y0, y1] = -1 then 0 else fnd Q [k, l, h, e, y0, y1]), .bool (decide (fnd Q [k, l, h, e, y0, y1] ≠ -1))]) (wr.drewN q) := fun q => run_lookN (wr.drewN q) m es c hPw.mp [k, l, h, e, y0, y1] rfl Q hPw.ks
        have HU2 : Hid (∀ q, Pu w0 n g p S w m (.slice vo R2.length vc) es c Q R2 w.heap.size [.int .i64 k, .int .i64 l, .slice ao j cap, .int .i64 h, .int .i64 e] B [.int .i64 k, .int .i64 l, .int .i64 h, .int .i64 e, .int .i64 y0, .int .i64 y1] (wr.drewN q)) := fun q => HU.out.kept (below_drewN (Below.refl _ _) q)
        have HPP := hyd (show Prt R2 R2.length (.mk k l h e ao b o j cap ps) 0 y0 ∧ Prt R2 R2.length (.mk k l h e ao b o j cap ps) 1 y1 from ⟨P0, P1⟩)
        clear hG hA hB nA nB hy0 hy1 hPw P0 P1
        by_cases hF : fnd Q [k, l, h, e, y0, y1] = -1
        · have hL2 : ∀ q, (Instr.lookup 129 (.map (some m)) (.agg #[.int .i64 k, .int .i64 l, .int .i64 h, .int .i64 e, .int .i64 y0, .int .i64 y1]) true).run Tryz.prog (wr.drewN q) = .ok (.tuple #[.int .i64 0, .bool false]) (wr.drewN q) := fun q => by rw [hL q, if_pos hF, decide_eq_false (fun z => z hF)]
          have HF := hyd (HU.out.pw.good.push HT.out.1 HPP.out.1 HPP.out.2 hF)
          have HFF := hyd hF
          clear hL hF
          go_upto_region 7 with fail
          go_quiet (fail)
          have HU3 := hyd (HU2.out nq)
          have p2 := HU3.out.pw.blk.cell 2 rfl
          clear HU HU2 hL2 p3 k0 k1 k2 k3 k4 k5
          generalize wr.drewN nq = wq at *
          go_upto_region 10 with fail
          clear p2
          have HSm := hyd (show Pu w0 n g p S w m (.slice vo R2.length vc) es c Q R2 w.heap.size [.int .i64 k, .int .i64 l, .slice ao j cap, .int .i64 h, .int .i64 e] B [.int .i64 k, .int .i64 l, .int .i64 h, .int .i64 e, .int .i64 y0, .int .i64 y1] wq.drew from HU3.out.kept ((Below.refl _ _).drew))
          have q3 : ∀ x1 : Wd (Pu w0 n g p S w m (.slice vo R2.length vc) es c Q R2 w.heap.size [.int .i64 k, .int .i64 l, .slice ao j cap, .int .i64 h, .int .i64 e] B [.int .i64 k, .int .i64 l, .int .i64 h, .int .i64 e, .int .i64 y0, .int .i64 y1]), x1.w.cell? ⟨p, 3, none⟩ = some (.map (some m)) := fun x1 => x1.2.pw.blk.cell 3 rfl
          have hCN : ∀ q, (∃ x1 : Wd (Pu w0 n g p S w m (.slice vo R2.length vc) es c Q R2 w.heap.size [.int .i64 k, .int .i64 l, .slice ao j cap, .int .i64 h, .int .i64 e] B [.int .i64 k, .int .i64 l, .int .i64 h, .int .i64 e, .int .i64 y0, .int .i64 y1]), q = x1.w) → q.rangeAt B 0 [.int .i64 k, .int .i64 l, .int .i64 h, .int .i64 e, .int .i64 y0, .int .i64 y1] := by rintro _ ⟨x1, rfl⟩; exact x1.2.bB.range
          have hNE : Nonempty (Wd (Pu w0 n g p S w m (.slice vo R2.length vc) es c Q R2 w.heap.size [.int .i64 k, .int .i64 l, .slice ao j cap, .int .i64 h, .int .i64 e] B [.int .i64 k, .int .i64 l, .int .i64 h, .int .i64 e, .int .i64 y0, .int .i64 y1])) := ⟨⟨_, HU3.out⟩⟩
          have hPN : (Instr.mapUpdate 129 (.map (some m)) (.agg #[.int .i64 k, .int .i64 l, .int .i64 h, .int .i64 e, .int .i64 y0, .int .i64 y1]) (.int .i64 (R2.length : Int))).run Tryz.prog wq.drew = .ok () { wq.drew with heap := wq.drew.heap.setIfInBounds m (.map (es.push { key := nodeV [k, l, h, e, y0, y1], val := .int .i64 (R2.length : Int), born := c }) (c + 1)) } := run_putN wq.drew m es c HSm.out.pw.mp [k, l, h, e, y0, y1] rfl Q HSm.out.pw.ks HFF.out _
          have HV := hyd (HSm.out.upd (es.push { key := nodeV [k, l, h, e, y0, y1], val := .int .i64 (R2.length : Int), born := c }) (c + 1))
          have HK : Hid (NKeys (es.push { key := nodeV [k, l, h, e, y0, y1], val := .int .i64 (R2.length : Int), born := c }) (Q ++ [[k, l, h, e, y0, y1]])) := by
            have h1 := HSm.out.pw.ks.push (n := [k, l, h, e, y0, y1]) rfl c
            rw [HSm.out.pw.good.len] at h1
            exact h1
          have HAT : Hid (∀ s ∈ R2 ++ [Ty.mk k l h e ao b o j cap ps], s.At w0) := fun s hs => by
            rcases List.mem_append.1 hs with h1 | h1
            · exact HSm.out.pw.at_ s h1
            · rw [List.mem_singleton.1 h1]; exact HT.out.2.1
          refine wp_region_readsG (Pu w0 n g p S w m (.slice vo R2.length vc) es c Q R2 w.heap.size [.int .i64 k, .int .i64 l, .slice ao j cap, .int .i64 h, .int .i64 e] B [.int .i64 k, .int .i64 l, .int .i64 h, .int .i64 e, .int .i64 y0, .int .i64 y1]) 6 [0, 1, 2, 3, 4, 5] 1 (by kernel_rfl) rfl (by kernel_rfl) HSm.out ?_
          simp only [List.filterMap, List.getElem?_cons_zero, List.getElem?_cons_succ]
          iterate 4 go_big_quiet_step (fail)
          go_big_quiet_want
          refine quiet_row 212 (.tmp 5) rfl B 0 (by kernel_rfl) [.int .i64 k, .int .i64 l, .int .i64 h, .int .i64 e, .int .i64 y0, .int .i64 y1] _ hCN Tryz.underlying212 rfl (by kernel_rfl) ?_
          simp only [Act.put, List.setIfInBounds_toArray, List.set_cons_succ, List.set_cons_zero]
          go_big_quiet_on
          iterate 1 go_big_quiet_step (fail)
          refine wpQuiet_nil ?_
          clear q3 hCN hNE
          refine wpAnyG_ready (rs := [6]) (by kernel_rfl) (by simp) ?_
          refine AllReadyG.cons rfl (fun K hK => ?_) AllReadyG.nil
          rw [if_pos (by rfl)]
          generalize wq.drew = z0 at *
          go_simp
          refine hK.out _ _ (fun h => absurd h (by omega)) ?_
          clear hK K hPN HSm HU3
          generalize ({ z0 with heap := z0.heap.setIfInBounds m (.map (es.push { key := nodeV [k, l, h, e, y0, y1], val := .int .i64 (R2.length : Int), born := c }) (c + 1)) } : World) = z1 at *
          refine wpAnyG_done (by kernel_rfl) ?_ _
          refine ⟨fun c => by simp, ?_⟩
          go_upto_region 11 with fail
          have HVd := hyd (HV.out.kept ((Below.refl _ _).drew))
          generalize hES : es.push { key := nodeV [k, l, h, e, y0, y1], val := .int .i64 (R2.length : Int), born := c } = es2 at *
          clear hES
          have q2 : ∀ x1 : Wd (Pv w0 n g p S w m (.slice vo R2.length vc) es2 (c + 1) R2 w.heap.size [.int .i64 k, .int .i64 l, .slice ao j cap, .int .i64 h, .int .i64 e]), x1.w.cell? ⟨p, 2, none⟩ = some (.slice vo R2.length vc) := fun x1 => x1.2.blk.cell 2 rfl
          have hCA : ∀ q, (∃ x1 : Wd (Pv w0 n g p S w m (.slice vo R2.length vc) es2 (c + 1) R2 w.heap.size [.int .i64 k, .int .i64 l, .slice ao j cap, .int .i64 h, .int .i64 e]), q = x1.w) → q.rangeAt w.heap.size 0 [.int .i64 k, .int .i64 l, .slice ao j cap, .int .i64 h, .int .i64 e] := by rintro _ ⟨x1, rfl⟩; exact x1.2.bA.range
          have hNE : Nonempty (Wd (Pv w0 n g p S w m (.slice vo R2.length vc) es2 (c + 1) R2 w.heap.size [.int .i64 k, .int .i64 l, .slice ao j cap, .int .i64 h, .int .i64 e])) := ⟨⟨_, HV.out⟩⟩
          clear HV
          refine wp_region_readsG (Pv w0 n g p S w m (.slice vo R2.length vc) es2 (c + 1) R2 w.heap.size [.int .i64 k, .int .i64 l, .slice ao j cap, .int .i64 h, .int .i64 e]) 7 [0, 1, 2, 3, 4, 5] 7 (by kernel_rfl) rfl (by kernel_rfl) HVd.out ?_
          simp only [List.filterMap, List.getElem?_cons_zero, List.getElem?_cons_succ]
          iterate 4 go_big_quiet_step (fail)
          go_big_quiet_want
          refine quiet_row 53 (.tmp 3) rfl w.heap.size 0 (by kernel_rfl) [.int .i64 k, .int .i64 l, .slice ao j cap, .int .i64 h, .int .i64 e] _ hCA Tryz.underlying53 rfl (by kernel_rfl) ?_
          simp only [Act.put, List.setIfInBounds_toArray, List.set_cons_succ, List.set_cons_zero]
          go_big_quiet_on
          iterate 1 go_big_quiet_step (fail)
          refine wpQuiet_nil ?_
          clear q2 hCA hNE
          generalize z1.drew = z2 at *
          refine wpAnyG_ready (rs := [6]) (by kernel_rfl) (by simp) ?_
          refine AllReadyG.cons rfl (fun K hK => ?_) AllReadyG.nil
          rw [if_pos (by rfl)]
          go_simp
          have HVe := hyd (HVd.out.kept (below_alloc z2 (.cells #[.int .i64 0, .int .i64 0, .slice none 0 0, .int .i64 0, .int .i64 0] 53)))
          refine hK.out _ _ (fun _ => HVe.out) ?_
          clear hK K
          refine wpAnyG_ready (rs := [7]) (by kernel_rfl) (by simp) ?_
          refine AllReadyG.cons rfl (fun K hK => ?_) AllReadyG.nil
          rw [if_pos (by rfl)]
          obtain ⟨i0, hi, hz0, hz1, hz2⟩ := info_parts Tryz.infoTy
          have hnew := heap_alloc_new z2 (.cells #[.int .i64 0, .int .i64 0, .slice none 0 0, .int .i64 0, .int .i64 0] 53)
          have ez := alloc_size z2 (.cells #[.int .i64 0, .int .i64 0, .slice none 0 0, .int .i64 0, .int .i64 0] 53)
          have HE : Hid (z2.heap.size = z2.heap.size) := rfl
          refine wp_append_lies _ (.tmp 52) (.tmp 55) 51 rfl w0.heap.size 53 i0 _ 5 56 Tryz.underlying51 hi hz0 hz1 hz2 rfl (by decide) (.slice vo R2.length vc) R2.length (flatL R2) (by kernel_rfl) HVe.out.own ⟨z2.heap.size, 0, none⟩ 1 1 [.int .i64 0, .int .i64 0, .slice none 0 0, .int .i64 0, .int .i64 0] (by kernel_rfl) rfl (World.news_of_block (cs := #[.int .i64 0, .int .i64 0, .slice none 0 0, .int .i64 0, .int .i64 0]) (t := 53) (fr := (0, 0)) hnew) (by intro x hx; simp at hx; rcases hx with rfl | rfl | rfl <;> rfl) (by omega) (by unfold maxLen; have := HLN.out; omega) (by have := HLN.out; omega) HVe.out.bl.size (z2.heap.size + 1) ez ?_
          intro gg cap3 z3 hown hgrow hgg hltg
          rw [← ez] at hgg
          refine hK.out _ _ (fun h => absurd h (by omega)) ?_
          clear hK K hnew ez HE
          simp only [Act.put, List.getElem_toArray, List.getElem_cons_zero, List.getElem_cons_succ, List.setIfInBounds_toArray, List.set_cons_succ, List.set_cons_zero]
          generalize z2.alloc (.cells #[.int .i64 0, .int .i64 0, .slice none 0 0, .int .i64 0, .int .i64 0] 53) = z2b at *
          have HZ := hyd (HVe.out.next hgrow hgg (.mk k l h e ao b o j cap ps) rfl hown)
          have HPU : Hid (putT (.mk k l h e ao b o j cap ps) R = R2 ++ [.mk k l h e ao b o j cap ps]) := by
            show _ = _
            rw [HPT.out, HF.out.1]; rfl
          have HPR : Hid (∀ q, (∃ S', Pg w0 n g p S w S' (R2 ++ [Ty.mk k l h e ao b o j cap ps]) q) → PutR w0 n g p S w (.mk k l h e ao b o j cap ps) R (.returned (.int .i64 (R2.length : Int))) q) := fun q hq => by
            obtain ⟨S', hS'⟩ := hq
            refine ⟨R2.length, S', rfl, ⟨.mk k l h e ao b o j cap ps, ?_, same_refl _⟩, ?_⟩
            · rw [HPU.out]; simp
            · rw [HPU.out]; exact hS'
          have EA := HZ.out.endA HVe.out HK.out HF.out.2 HAT.out hgrow hgg
          have EB := Pz.endB rfl HZ.out hown HVe.out HK.out HF.out.2 HAT.out hgrow hgg
          have HEA := hyd EA
          have HEB := hyd EB
          have hth := HZ.out.there
          have c2 := HZ.out.blk.cell 2 rfl
          have f2 := HZ.out.blk.frozen 2
          clear EA EB HZ HVe HVd hown hgrow hgg hltg HK HF HAT HPT HPU HLN HPP HT HG ih
          refine wpAnyG_rest (by kernel_rfl) ?_
          have hNE : Nonempty (Wd (fun _ : World => True)) := ⟨⟨z3, trivial⟩⟩
          have ij : (R2.length : Int) < ((R2.length + 1 : Nat) : Int) := by omega
          refine wpAnyH_readsQm [8, 10, 11] (rest := 2) rfl (by kernel_rfl) (by kernel_rfl) trivial ?_
          simp only [List.filterMap, List.getElem?_cons_zero, List.getElem?_cons_succ]
          iterate 3 go_big_quiet_step (fail)
          refine wpQuiet_nil ?_
          clear hNE ij
          refine wpAnyH_ready (rs := [9, 12]) (by kernel_rfl) (by simp) ?_
          refine AllReadyH.cons rfl (fun K hK => ?_) (AllReadyH.cons rfl (fun K hK => ?_) AllReadyH.nil)
          · rw [if_pos (by rfl)]
            clear c2 f2 HEB
            refine wp_store_mid 53 (.tmp 57) (.tmp 53) rfl gg (R2.length * 5) #[.int .i64 k, .int .i64 l, .slice ao j cap, .int .i64 h, .int .i64 e] (by kernel_rfl) (by kernel_rfl) hth (by kernel_rfl) (by simp [Value.oneCell']) ?_
            refine hK.out _ (z3.setCells gg (R2.length * 5) (Ty.mk k l h e ao b o j cap ps).vs) trivial (fun _ => ?_)
            clear hK K hth
            generalize z3.setCells gg (R2.length * 5) (Ty.mk k l h e ao b o j cap ps).vs = z4 at *
            refine wpAnyH_ready (rs := [12]) (by kernel_rfl) (by simp) ?_
            refine AllReadyH.cons rfl (fun K hK => ?_) AllReadyH.nil
            rw [if_pos (by rfl)]
            have c2 := HEA.out.1.cell 2 rfl
            have f2 := HEA.out.1.frozen 2
            go_simp
            refine hK.out _ _ trivial (fun _ => ?_)
            clear hK K c2 f2
            refine wpAnyH_done (by kernel_rfl) ?_ _
            refine ⟨fun c => by simp, ?_⟩
            go_wp2
            go_ret
            exact HPR.out _ HEA.out.2
          · rw [if_pos (by rfl)]
            clear hth HEA
            go_simp
            refine hK.out _ _ trivial (fun _ => ?_)
            clear hK K c2 f2
            have hth := HEB.out.1
            generalize hz4 : z3.setCell ⟨p, 2, none⟩ (.slice (some ⟨gg, 0, none⟩) (R2.length + 1) cap3) = z4 at *
            clear hz4
            refine wpAnyH_ready (rs := [9]) (by kernel_rfl) (by simp) ?_
            refine AllReadyH.cons rfl (fun K hK => ?_) AllReadyH.nil
            rw [if_pos (by rfl)]
            refine wp_store_mid 53 (.tmp 57) (.tmp 53) rfl gg (R2.length * 5) #[.int .i64 k, .int .i64 l, .slice ao j cap, .int .i64 h, .int .i64 e] (by kernel_rfl) (by kernel_rfl) hth (by kernel_rfl) (by simp [Value.oneCell']) ?_
            refine hK.out _ (z4.setCells gg (R2.length * 5) (Ty.mk k l h e ao b o j cap ps).vs) trivial (fun _ => ?_)
            clear hK K hth
            generalize z4.setCells gg (R2.length * 5) (Ty.mk k l h e ao b o j cap ps).vs = z5 at *
            refine wpAnyH_done (by kernel_rfl) ?_ _
            refine ⟨fun c => by simp, ?_⟩
            go_wp2
            go_ret
            exact HPR.out _ HEB.out.2
        · obtain ⟨i, hi, hq⟩ := fnd_get hF
          have hL2 : ∀ q, (Instr.lookup 129 (.map (some m)) (.agg #[.int .i64 k, .int .i64 l, .int .i64 h, .int .i64 e, .int .i64 y0, .int .i64 y1]) true).run Tryz.prog (wr.drewN q) = .ok (.tuple #[.int .i64 i, .bool true]) (wr.drewN q) := fun q => by rw [hL q, if_neg hF, decide_eq_true hF, hi]
          have HF := hyd (HU.out.pw.good.here (t := .mk k l h e ao b o j cap ps) hl2 HPP.out.1 HPP.out.2 hi)
          clear hL hF hi hq
          go_upto_region 7 with fail
          go_quiet (fail)
          go_wp2
          go_ret
          have h3 := HU2.out nq
          have h4 : putT (.mk k l h e ao b o j cap ps) R = R2 := by rw [HPT.out, if_pos HF.out.1]
          refine ⟨i, PS p m (.slice vo R2.length vc), rfl, by rw [h4]; exact HF.out.2, ?_⟩
          rw [h4]
          exact ⟨⟨m, _, es, c, Q, h3.pw, rfl⟩, h3.ft, h3.ss⟩
end Go.Proofs.YtmkncmmegjfipaaGreatDoor

/- Layer 13: whether a type is formed; then it has a place: takes. -/
namespace Go.Proofs.YtmkncmmegjfipaaGreatDoor
open Go Go.RowKit

/-- What takes answers. -/
structure TakeR (w0 : World) (n : Strs) (g : Grid) (p : Nat) (S : Nat → Prop) (w : World) (t : Ty) (R : List Ty) (e : Ending) (w' : World) : Prop where
  ret : e = .returned (.bool (t.ok n.len))
  pg : ∃ S', Pg w0 n g p S w S' (if t.ok n.len then takeT R t else R) w'
structure Tw (w0 : World) (n : Strs) (g : Grid) (p m : Nat) (v : Value) (es : Array MapEntry) (c : Nat) (Q : List (List Int)) (R : List Ty) (A : Nat) (tv : List Value) (q : World) : Prop where
  pw : Pw w0 n g p m v es c Q R q
  bA : Blk q A tv 53
theorem Tw.kept {w0 : World} {n : Strs} {g : Grid} {p m : Nat} {v : Value} {es : Array MapEntry} {c : Nat} {Q : List (List Int)} {R : List Ty} {A : Nat} {tv : List Value} {q q' : World} (h : Tw w0 n g p m v es c Q R A tv q) (hb : Below q.heap.size q q') : Tw w0 n g p m v es c Q R A tv q' := ⟨h.pw.kept hb, h.bA.kept hb⟩

set_option maxRecDepth 100000 in
set_option maxHeartbeats 8000000 in
theorem takes_any {w0 : World} {n : Strs} {g : Grid} {p : Nat} (hF : formedB n g = true) (hn : n.At w0) (hg : g.At w0) (t : Ty) (S : Nat → Prop) (R : List Ty) (w : World) (ht : t.At w0) (hP : Pl w0 n g p S R w) (hR : R.length + 40 ≤ 2000000000) :
    Calls Tryz.prog 99 #[.pointer (some ⟨p, 0, none⟩), .agg #[.int .i64 t.k, .int .i64 t.l, .slice t.ao t.len t.cap, .int .i64 t.h, .int .i64 t.e]] w fun e w' => TakeR w0 n g p S w t R e w' := by
  obtain ⟨m, v, es, c, Q, hPw, hS⟩ := hP
  have B0 := below_alloc w (.cells #[.int .i64 t.k, .int .i64 t.l, .slice t.ao t.len t.cap, .int .i64 t.h, .int .i64 t.e] 53)
  have bA := Blk.new w [.int .i64 t.k, .int .i64 t.l, .slice t.ao t.len t.cap, .int .i64 t.h, .int .i64 t.e] 53
  have hpl := place_any t (w.alloc (.cells #[.int .i64 t.k, .int .i64 t.l, .slice t.ao t.len t.cap, .int .i64 t.h, .int .i64 t.e] 53)) ((ht.kept hPw.bl).kept B0) (hPw.kept B0)
  have HT := hyd (show Tw w0 n g p m v es c Q R w.heap.size [.int .i64 t.k, .int .i64 t.l, .slice t.ao t.len t.cap, .int .i64 t.h, .int .i64 t.e] (w.alloc (.cells #[.int .i64 t.k, .int .i64 t.l, .slice t.ao t.len t.cap, .int .i64 t.h, .int .i64 t.e] 53)) ∧ Below w.heap.size w (w.alloc (.cells #[.int .i64 t.k, .int .i64 t.l, .slice t.ao t.len t.cap, .int .i64 t.h, .int .i64 t.e] 53)) from ⟨⟨hPw.kept B0, bA⟩, B0⟩)
  have HD := hyd (show formedB n g = true ∧ n.At w0 ∧ g.At w0 ∧ t.At w0 ∧ R.length + 40 ≤ 2000000000 ∧ S = PS p m v from ⟨hF, hn, hg, ht, hR, hS⟩)
  have HG := hyd hPw.good
  have HA := hyd hPw.at_
  have HPG : Hid (∀ q, Below w.heap.size w q → Pg w0 n g p S w S R q) := fun q hq => Pg.of ⟨m, v, es, c, Q, hPw, hS⟩ hq
  clear hPw hS B0 bA hF hn hg ht hR
  go_enter Tryz.func99, Tryz.ntmps99
  go_wp2_with fail
  refine hpl.mono ?_
  rintro _ w1 ⟨rfl, hb1⟩
  have HU := hyd (show Tw w0 n g p m v es c Q R w.heap.size [.int .i64 t.k, .int .i64 t.l, .slice t.ao t.len t.cap, .int .i64 t.h, .int .i64 t.e] w1 ∧ Below w.heap.size w w1 from ⟨HT.out.1.kept hb1, Below.next HT.out.2 hb1⟩)
  clear hpl hb1 HT
  by_cases hq : plc Q t 1 = -1
  · have HQ := hyd hq
    rw [hq]
    clear hq
    go_upto_region 3 with fail
    have HUd := hyd (HU.out.1.kept ((Below.refl _ _).drew))
    have HBd := hyd (Below.next HU.out.2 ((Below.refl _ _).drew))
    have hCL : ∀ q, (∃ x1 : Wd (Tw w0 n g p m v es c Q R w.heap.size [.int .i64 t.k, .int .i64 t.l, .slice t.ao t.len t.cap, .int .i64 t.h, .int .i64 t.e]), q = x1.w) → q.rangeAt p 0 [.slice n.ao n.len n.cap, .slice g.ao g.len g.cap] := by
      rintro _ ⟨x1, rfl⟩ i u hu
      have h1 := x1.2.pw.blk.range
      match i with
      | 0 => exact h1 0 u hu
      | 1 => exact h1 1 u hu
      | i + 2 => simp at hu
    have hCA : ∀ q, (∃ x1 : Wd (Tw w0 n g p m v es c Q R w.heap.size [.int .i64 t.k, .int .i64 t.l, .slice t.ao t.len t.cap, .int .i64 t.h, .int .i64 t.e]), q = x1.w) → q.rangeAt w.heap.size 0 [.int .i64 t.k, .int .i64 t.l, .slice t.ao t.len t.cap, .int .i64 t.h, .int .i64 t.e] := by rintro _ ⟨x1, rfl⟩; exact x1.2.bA.range
    have hNE : Nonempty (Wd (Tw w0 n g p m v es c Q R w.heap.size [.int .i64 t.k, .int .i64 t.l, .slice t.ao t.len t.cap, .int .i64 t.h, .int .i64 t.e])) := ⟨⟨_, HU.out.1⟩⟩
    clear HU
    refine wp_region_readsG (Tw w0 n g p m v es c Q R w.heap.size [.int .i64 t.k, .int .i64 t.l, .slice t.ao t.len t.cap, .int .i64 t.h, .int .i64 t.e]) 5 [0, 1, 2, 3, 4] 2 (by kernel_rfl) rfl (by kernel_rfl) HUd.out ?_
    simp only [List.filterMap, List.getElem?_cons_zero, List.getElem?_cons_succ]
    iterate 3 go_big_quiet_step (fail)
    go_big_quiet_want
    refine quiet_row 25 (.tmp 11) rfl p 0 (by kernel_rfl) [.slice n.ao n.len n.cap, .slice g.ao g.len g.cap] _ hCL Tryz.underlying25 rfl (by kernel_rfl) ?_
    simp only [Act.put, List.setIfInBounds_toArray, List.set_cons_succ, List.set_cons_zero]
    go_big_quiet_on
    go_big_quiet_want
    refine quiet_row 53 (.tmp 3) rfl w.heap.size 0 (by kernel_rfl) [.int .i64 t.k, .int .i64 t.l, .slice t.ao t.len t.cap, .int .i64 t.h, .int .i64 t.e] _ hCA Tryz.underlying53 rfl (by kernel_rfl) ?_
    simp only [Act.put, List.setIfInBounds_toArray, List.set_cons_succ, List.set_cons_zero]
    go_big_quiet_on
    refine wpQuiet_nil ?_
    clear hCL hCA hNE
    generalize w1.drew = z0 at *
    refine wpAnyG_ready (rs := [5]) (by kernel_rfl) (by simp) ?_
    refine AllReadyG.cons rfl (fun K hK => ?_) AllReadyG.nil
    rw [if_pos (by rfl)]
    go_simp
    have hFm := Formed2_any n g t z0 (HD.out.2.1.kept HUd.out.pw.bl) (HD.out.2.2.1.kept HUd.out.pw.bl) (HD.out.2.2.2.1.kept HUd.out.pw.bl)
    have HOK : Hid (okB n g t = t.ok n.len) := by show _ = _; unfold okB; rw [HD.out.1, Bool.true_and]
    rw [HOK.out] at hFm
    refine Calls.mono hFm ?_
    rintro _ z1 ⟨rfl, hb1⟩
    refine hK.out _ _ (fun h => absurd h (by omega)) ?_
    clear hK K
    have HV := hyd (show Tw w0 n g p m v es c Q R w.heap.size [.int .i64 t.k, .int .i64 t.l, .slice t.ao t.len t.cap, .int .i64 t.h, .int .i64 t.e] z1 ∧ Below w.heap.size w z1 from ⟨HUd.out.kept hb1, Below.next HBd.out hb1⟩)
    clear hFm hb1 HUd HBd HOK
    have HTK : Hid (∀ e q, e = .returned (.bool (t.ok n.len)) → (∃ S', Pg w0 n g p S w S' (if t.ok n.len then takeT R t else R) q) → TakeR w0 n g p S w t R e q) := fun e q h1 h2 => ⟨h1, h2⟩
    have HNO : Hid (t.ok n.len = true → takeT R t = putT t R) := fun hk => by
      unfold takeT
      rw [if_neg]
      intro hh
      obtain ⟨i, s, h1, h2⟩ := has_iff.1 hh
      have h3 := plc_of HG.out t 1 (ok_fm hk).1 i s h1 h2
      have h4 := HQ.out
      omega
    have HND : Hid (t.ok n.len = true → t.nodes ≤ 40) := fun hk => (ok_fm hk).2
    generalize hbb : t.ok n.len = bb at *
    cases bb
    · refine wpAnyG_ready (rs := [6]) (by kernel_rfl) (by simp) ?_
      refine AllReadyG.cons rfl (fun K hK => ?_) AllReadyG.nil
      rw [if_pos (by rfl)]
      go_simp
      refine hK.out _ _ (fun h => absurd h (by omega)) ?_
      clear hK K
      refine wpAnyG_done (by kernel_rfl) ?_ _
      refine ⟨fun c => by simp, ?_⟩
      go_wp2
      go_ret
      exact HTK.out _ _ rfl ⟨S, HPG.out _ HV.out.2⟩
    · refine wpAnyG_ready (rs := [6]) (by kernel_rfl) (by simp) ?_
      refine AllReadyG.cons rfl (fun K hK => ?_) AllReadyG.nil
      rw [if_pos (by rfl)]
      go_simp
      refine hK.out _ _ (fun h => absurd h (by omega)) ?_
      clear hK K
      refine wpAnyG_done (by kernel_rfl) ?_ _
      refine ⟨fun c => by simp, ?_⟩
      have rA := HV.out.1.bA.range
      have hpt := put_any t S R z1 hbb HD.out.2.2.2.1 ⟨m, v, es, c, Q, HV.out.1.pw, HD.out.2.2.2.2.2⟩ (by have := HD.out.2.2.2.2.1; have := HND.out (by simp); omega)
      go_wp2_with (refine wpList_load_mid rfl 53 (.tmp 3) rfl w.heap.size 0 (by kernel_rfl) [.int .i64 t.k, .int .i64 t.l, .slice t.ao t.len t.cap, .int .i64 t.h, .int .i64 t.e] _ rA Tryz.underlying53 rfl (by kernel_rfl) ?_)
      refine hpt.mono ?_
      rintro _ z2 ⟨i, S', rfl, _, hpg⟩
      have HPG2 := hyd hpg
      clear hpt rA hpg
      go_wp2
      go_ret
      refine HTK.out _ _ rfl ⟨S', ?_⟩
      rw [if_pos trivial, HNO.out trivial]
      exact Pg.ahead HV.out.2 HPG2.out
  · have HQ : Hid (t.ok n.len = true ∧ has R t = true) := by
      obtain ⟨i, s, h1, h2, h3⟩ := plc_sound HG.out t 1 hq
      have hm := List.mem_of_getElem? h2
      exact ⟨(same_ok (HA.out s hm) HD.out.2.2.2.1 h3).symm.trans (HG.out.ok s hm), has_iff.2 ⟨i, s, h2, h3⟩⟩
    generalize plc Q t 1 = F at *
    have dq : (F != -1) = true := by simpa using hq
    go_wp2
    go_ret
    refine ⟨by rw [HQ.out.1]; rfl, S, ?_⟩
    rw [if_pos HQ.out.1]
    unfold takeT
    rw [if_pos HQ.out.2]
    exact HPG.out _ HU.out.2
end Go.Proofs.YtmkncmmegjfipaaGreatDoor

/- Layer 13: what is asked of numbers, handlers, regions, bounds. -/
namespace Go.Proofs.YtmkncmmegjfipaaGreatDoor
open Go Go.RowKit

set_option maxHeartbeats 1000000 in
theorem isShort_any (a : Int) (w : World) : Calls Tryz.prog 144 #[.int .i64 a] w fun e w' => e = .returned (.bool (shB a)) ∧ Below w.heap.size w w' := by
  have HB := hyd (Below.refl w.heap.size w)
  by_cases h0 : 0 ≤ a
  · by_cases h1 : a ≤ 65535
    · have HE : Hid (shB a = true) := by show _ = _; unfold shB; rw [decide_eq_true h0, decide_eq_true h1]; rfl
      go_enter Tryz.func144, Tryz.ntmps144
      go_wp2
      go_ret
      exact ⟨ret_bool HE.out.symm, HB.out⟩
    · have HE : Hid (shB a = false) := by show _ = _; unfold shB; rw [decide_eq_true h0, decide_eq_false h1]; rfl
      go_enter Tryz.func144, Tryz.ntmps144
      go_wp2
      go_ret
      exact ⟨ret_bool HE.out.symm, HB.out⟩
  · have HE : Hid (shB a = false) := by show _ = _; unfold shB; rw [decide_eq_false h0]; rfl
    go_enter Tryz.func144, Tryz.ntmps144
    go_wp2
    go_ret
    exact ⟨ret_bool HE.out.symm, HB.out⟩

set_option maxHeartbeats 1000000 in
theorem handlerFormed_any (h : Hn) (w : World) : Calls Tryz.prog 105 #[.agg h.vs.toArray] w fun e w' => e = .returned (.bool h.fm) ∧ Below w.heap.size w w' := by
  show Calls Tryz.prog 105 #[.agg #[.int .i64 h.fr, .int .i64 h.to, .int .i64 h.at_]] w fun e w' => e = .returned (.bool h.fm) ∧ Below w.heap.size w w'
  have B0 := below_alloc w (.cells #[.int .i64 h.fr, .int .i64 h.to, .int .i64 h.at_] 68)
  have b := Blk.new w [.int .i64 h.fr, .int .i64 h.to, .int .i64 h.at_] 68
  have c0 := b.cell 0 rfl
  have c1 := b.cell 1 rfl
  have c2 := b.cell 2 rfl
  have HF : Hid (h.fm = ((shB h.fr && shB h.to) && shB h.at_)) := rfl
  have h0 := isShort_any h.fr (w.alloc (.cells #[.int .i64 h.fr, .int .i64 h.to, .int .i64 h.at_] 68))
  generalize shB h.fr = b0 at *
  go_enter Tryz.func105, Tryz.ntmps105
  go_wp2_with fail
  refine h0.mono ?_
  rintro _ w1 ⟨rfl, hb1⟩
  have B1 := hyd (Below.next B0 hb1)
  have d1 := up hb1 c1
  have d2 := up hb1 c2
  clear h0 c0 c1 c2 b hb1
  cases b0
  · have HE : Hid (h.fm = false) := by show _ = _; rw [HF.out]; rfl
    go_wp2
    go_ret
    exact ⟨ret_bool HE.out.symm, B1.out⟩
  · have h1 := isShort_any h.to w1
    generalize shB h.to = b1 at *
    go_wp2_with fail
    refine h1.mono ?_
    rintro _ w2 ⟨rfl, hb2⟩
    have B2 := hyd (Below.next B1.out hb2)
    have e2 := up hb2 d2
    clear h1 d1 d2 hb2
    cases b1
    · have HE : Hid (h.fm = false) := by show _ = _; rw [HF.out]; rfl
      go_wp2
      go_ret
      exact ⟨ret_bool HE.out.symm, B2.out⟩
    · have h2 := isShort_any h.at_ w2
      generalize shB h.at_ = b2 at *
      go_wp2_with fail
      refine h2.mono ?_
      rintro _ w3 ⟨rfl, hb3⟩
      have B3 := hyd (Below.next B2.out hb3)
      have HE : Hid (h.fm = b2) := by show _ = _; rw [HF.out]; cases b2 <;> rfl
      clear h2 e2 hb3
      go_wp2
      go_ret
      exact ⟨ret_bool HE.out.symm, B3.out⟩

set_option maxHeartbeats 1000000 in
theorem isZero_any (t : Ty) (w : World) : Calls Tryz.prog 141 #[.agg #[.int .i64 t.k, .int .i64 t.l, .slice t.ao t.len t.cap, .int .i64 t.h, .int .i64 t.e]] w fun e w' => e = .returned (.bool t.zr) ∧ Below w.heap.size w w' := by
  have B0 := below_alloc w (.cells #[.int .i64 t.k, .int .i64 t.l, .slice t.ao t.len t.cap, .int .i64 t.h, .int .i64 t.e] 53)
  have X0 := Bx.new w t
  have x0 := X0.c0
  have x1 := X0.c1
  have x2 := X0.c2
  have x3 := X0.c3
  have x4 := X0.c4
  clear X0
  have HF : Hid (t.zr = ((((decide (t.k = 0) && decide (t.l = 0)) && decide (t.len = 0)) && decide (t.h = 0)) && decide (t.e = 0))) := rfl
  have HB := hyd B0
  by_cases h0 : t.k = 0
  · by_cases h1 : t.l = 0
    · by_cases h2 : t.len = 0
      · have i2 : (t.len : Int) = 0 := by omega
        by_cases h3 : t.h = 0
        · by_cases h4 : t.e = 0
          · have HE : Hid (t.zr = true) := by show _ = _; rw [HF.out]; simp [h0, h1, h2, h3, h4]
            have d4 : (t.e == 0) = true := by simpa using h4
            have d3 : (t.h == 0) = true := by simpa using h3
            have d2 : ((t.len : Int) == 0) = true := by simpa using h2
            have d1 : (t.l == 0) = true := by simpa using h1
            have d0 : (t.k == 0) = true := by simpa using h0
            clear h0 h1 h2 h3 h4 i2 HF B0
            go_enter Tryz.func141, Tryz.ntmps141
            go_wp2
            go_ret
            exact ⟨ret_bool HE.out.symm, HB.out⟩
          · have HE : Hid (t.zr = false) := by show _ = _; rw [HF.out]; simp [h4]
            have d4 : (t.e == 0) = false := by simpa using h4
            have d3 : (t.h == 0) = true := by simpa using h3
            have d2 : ((t.len : Int) == 0) = true := by simpa using h2
            have d1 : (t.l == 0) = true := by simpa using h1
            have d0 : (t.k == 0) = true := by simpa using h0
            clear h0 h1 h2 h3 h4 i2 HF B0
            go_enter Tryz.func141, Tryz.ntmps141
            go_wp2
            go_ret
            exact ⟨ret_bool HE.out.symm, HB.out⟩
        · have HE : Hid (t.zr = false) := by show _ = _; rw [HF.out]; simp [h3]
          have d3 : (t.h == 0) = false := by simpa using h3
          have d2 : ((t.len : Int) == 0) = true := by simpa using h2
          have d1 : (t.l == 0) = true := by simpa using h1
          have d0 : (t.k == 0) = true := by simpa using h0
          clear h0 h1 h2 h3 i2 HF B0
          go_enter Tryz.func141, Tryz.ntmps141
          go_wp2
          go_ret
          exact ⟨ret_bool HE.out.symm, HB.out⟩
      · have HE : Hid (t.zr = false) := by show _ = _; rw [HF.out]; simp [h2]
        have d2 : ((t.len : Int) == 0) = false := by simpa using h2
        have d1 : (t.l == 0) = true := by simpa using h1
        have d0 : (t.k == 0) = true := by simpa using h0
        clear h0 h1 h2 HF B0
        go_enter Tryz.func141, Tryz.ntmps141
        go_wp2
        go_ret
        exact ⟨ret_bool HE.out.symm, HB.out⟩
    · have HE : Hid (t.zr = false) := by show _ = _; rw [HF.out]; simp [h1]
      have d1 : (t.l == 0) = false := by simpa using h1
      have d0 : (t.k == 0) = true := by simpa using h0
      clear h0 h1 HF B0
      go_enter Tryz.func141, Tryz.ntmps141
      go_wp2
      go_ret
      exact ⟨ret_bool HE.out.symm, HB.out⟩
  · have HE : Hid (t.zr = false) := by show _ = _; rw [HF.out]; simp [h0]
    have d0 : (t.k == 0) = false := by simpa using h0
    clear h0 HF B0
    go_enter Tryz.func141, Tryz.ntmps141
    go_wp2
    go_ret
    exact ⟨ret_bool HE.out.symm, HB.out⟩
end Go.Proofs.YtmkncmmegjfipaaGreatDoor
