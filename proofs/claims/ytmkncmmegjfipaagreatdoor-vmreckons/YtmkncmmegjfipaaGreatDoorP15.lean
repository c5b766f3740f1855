/- Layer 13: where a type stands in a pool: nodeOf, placeOf, place. -/
import Derived.Test.YtmkncmmegjfipaaGreatDoorP14
import Derived.Test.YtmkncmmegjfipaaGreatDoorP10
import Derived.Deep.QuietTactic
namespace Go.Proofs.YtmkncmmegjfipaaGreatDoor
open Go Go.RowKit

theorem wrote_cell {w : World} {B : Nat} {c : List Value} {t : TypeId} (h : Blk w B c t) {i : Nat} (v : Value) : WroteB w (w.setCell ⟨B, i, none⟩ v) B (c.set i v) t := by
  refine ⟨?_, fun b hb => Below.heap_setCell _ _ _ _ hb, by simp [World.setCell], fun hB hb => hb.setCell hB v⟩
  have e : (c.toArray.setIfInBounds i v) = (c.set i v).toArray := by simp
  unfold Blk at h ⊢
  rw [← e]
  simp [World.setCell, Array.getElem?_modify, h]
theorem results_row {T : TypeId} {d : TypeDesc} {fn : Func} {tmps : Array Value} {k B : Nat} {vs : List Value} {w : World} (hu : Tryz.prog.underlying T = some d) (hd : d.isRow = true) (hi : (Tryz.prog.info? T).map (·.size) = some vs.length) (hf : fn.results = #[.cell k T]) (ht : tmps.getD k undef = .pointer (some ⟨B, 0, none⟩)) (h : w.rangeAt B 0 vs) : (results fn tmps).run Tryz.prog w = .ok (.agg vs.toArray) w := by
  have h : (loadVar T ⟨B, 0, none⟩).run Tryz.prog w = .ok (.agg vs.toArray) w := run_loadAt_mid w B 0 T vs d h hu hd hi
  have ha : (asAddr (tmps[k]?.getD undef)).run Tryz.prog w = .ok ⟨B, 0, none⟩ w := by rw [show tmps[k]?.getD undef = .pointer (some ⟨B, 0, none⟩) by simpa using ht]; rfl
  unfold results
  rw [hf]
  simp [ha, h]
theorem Pw.wrote {w0 w w' : World} {n : Strs} {g : Grid} {p m : Nat} {v : Value} {es : Array MapEntry} {c : Nat} {Q : List (List Int)} {R : List Ty} (h : Pw w0 n g p m v es c Q R w) {B : Nat} {cs : List Value} {t : TypeId} (W : WroteB w w' B cs t) (hn : ¬ PS p m v B) (h0 : w0.heap.size ≤ B) : Pw w0 n g p m v es c Q R w' :=
  h.agree (W.below h0 h.bl) (fun x hx => W.other x (fun e => hn (e ▸ hx)))

set_option maxHeartbeats 1000000 in
theorem nodeOf_any (t : Ty) (w : World) : Calls Tryz.prog 170 #[.agg #[.int .i64 t.k, .int .i64 t.l, .slice t.ao t.len t.cap, .int .i64 t.h, .int .i64 t.e]] w fun e w' => e = .returned (.agg #[.int .i64 t.k, .int .i64 t.l, .int .i64 t.h, .int .i64 t.e, .int .i64 (-1), .int .i64 (-1)]) ∧ Below w.heap.size w w' := by
  have X0 := Bx.new w t
  have B0 := below_alloc w (.cells #[.int .i64 t.k, .int .i64 t.l, .slice t.ao t.len t.cap, .int .i64 t.h, .int .i64 t.e] 53)
  have x0 := X0.c0
  have x1 := X0.c1
  have x3 := X0.c3
  have x4 := X0.c4
  clear X0
  go_enter Tryz.func170, Tryz.ntmps170
  go_wp2
  have bN := Blk.new (w.alloc (.cells #[.int .i64 t.k, .int .i64 t.l, .slice t.ao t.len t.cap, .int .i64 t.h, .int .i64 t.e] 53)) [.int .i64 t.k, .int .i64 t.l, .int .i64 t.h, .int .i64 t.e, .int .i64 (-1), .int .i64 (-1)] 212
  rw [alloc_size] at bN
  exact bodyPost_ret (v := .agg #[.int .i64 t.k, .int .i64 t.l, .int .i64 t.h, .int .i64 t.e, .int .i64 (-1), .int .i64 (-1)]) (results_row Tryz.underlying212 rfl (by kernel_rfl) Tryz.results170 rfl bN.range) rfl ⟨rfl, Below.next B0 (below_alloc _ _)⟩

set_option maxRecDepth 100000 in
set_option maxHeartbeats 8000000 in
theorem placeOf_any {w0 : World} {n : Strs} {g : Grid} {p m : Nat} {v : Value} {es : Array MapEntry} {c : Nat} {Q : List (List Int)} {R : List Ty} : ∀ (t : Ty) (d : Nat) (w : World), d ≤ 7 → t.At w → Pw w0 n g p m v es c Q R w →
    Calls Tryz.prog 168 #[.pointer (some ⟨p, 0, none⟩), .agg #[.int .i64 t.k, .int .i64 t.l, .slice t.ao t.len t.cap, .int .i64 t.h, .int .i64 t.e], .int .i64 d] w fun e w' => e = .returned (.int .i64 (plc Q t d)) ∧ Below w.heap.size w w' := by
  intro t
  induction t with
  | dm => intro d w _ hAt; exact hAt.elim
  | mk k l h e ao b o len cap ps ih =>
    intro d w hd hAt hP
    show Calls Tryz.prog 168 #[.pointer (some ⟨p, 0, none⟩), .agg #[.int .i64 k, .int .i64 l, .slice ao len cap, .int .i64 h, .int .i64 e], .int .i64 d] w fun r w' => r = .returned (.int .i64 (plc Q (.mk k l h e ao b o len cap ps) d)) ∧ Below w.heap.size w w'
    have X0 := Bx.new w (.mk k l h e ao b o len cap ps)
    have B0 := below_alloc w (.cells #[.int .i64 k, .int .i64 l, .slice ao len cap, .int .i64 h, .int .i64 e] 53)
    have hb : len ≤ 9223372036854775807 := hAt.bound
    have hnil : 0 < len → ao = some ⟨b, o, none⟩ := hAt.nil
    have x0 := X0.c0
    have x1 := X0.c1
    have x2 := X0.c2
    have x3 := X0.c3
    have x4 := X0.c4
    simp only [Ty.k, Ty.l, Ty.h, Ty.e, Ty.ao, Ty.len, Ty.cap] at x0 x1 x2 x3 x4
    have HS := hyd (show Ty.At (w.alloc (.cells #[.int .i64 k, .int .i64 l, .slice ao len cap, .int .i64 h, .int .i64 e] 53)) (.mk k l h e ao b o len cap ps) ∧ Below w.heap.size w (w.alloc (.cells #[.int .i64 k, .int .i64 l, .slice ao len cap, .int .i64 h, .int .i64 e] 53)) ∧ Pw w0 n g p m v es c Q R (w.alloc (.cells #[.int .i64 k, .int .i64 l, .slice ao len cap, .int .i64 h, .int .i64 e] 53)) ∧ Bx (w.alloc (.cells #[.int .i64 k, .int .i64 l, .slice ao len cap, .int .i64 h, .int .i64 e] 53)) w.heap.size (.mk k l h e ao b o len cap ps) from ⟨hAt.kept B0, B0, hP.kept B0, X0⟩)
    have HA0 := hyd hAt
    clear X0 B0 hAt hP
    by_cases h1 : 6 < d
    · have d1 : decide ((6 : Int) < d) = true := by simp; omega
      have HE : Hid (plc Q (.mk k l h e ao b o len cap ps) d = -1) := by show _ = _; rw [plc, if_pos (Or.inl h1)]
      go_enter Tryz.func168, Tryz.ntmps168
      go_wp2
      go_ret
      exact ⟨ret_int HE.out.symm, HS.out.2.1⟩
    have d1 : decide ((6 : Int) < d) = false := by simp; omega
    by_cases h2 : 2 < len
    · have d2 : decide ((2 : Int) < len) = true := by simp; omega
      have HE : Hid (plc Q (.mk k l h e ao b o len cap ps) d = -1) := by show _ = _; rw [plc, if_pos (Or.inr h2)]
      go_enter Tryz.func168, Tryz.ntmps168
      go_wp2
      go_ret
      exact ⟨ret_int HE.out.symm, HS.out.2.1⟩
    have d2 : decide ((2 : Int) < len) = false := by simp; omega
    have HPL : Hid (plc Q (.mk k l h e ao b o len cap ps) d = if 0 < len ∧ plc Q (ps 0) (d + 1) = -1 then -1 else if 1 < len ∧ plc Q (ps 1) (d + 1) = -1 then -1 else fnd Q [k, l, h, e, if 0 < len then plc Q (ps 0) (d + 1) else -1, if 1 < len then plc Q (ps 1) (d + 1) else -1]) := by show _ = _; rw [plc, if_neg (by omega)]
    generalize plc Q (.mk k l h e ao b o len cap ps) d = ANS at HPL ⊢
    have hN := nodeOf_any (.mk k l h e ao b o len cap ps) (w.alloc (.cells #[.int .i64 k, .int .i64 l, .slice ao len cap, .int .i64 h, .int .i64 e] 53))
    simp only [Ty.k, Ty.l, Ty.h, Ty.e, Ty.ao, Ty.len, Ty.cap] at hN
    go_enter Tryz.func168, Tryz.ntmps168
    go_wp2_with fail
    refine hN.mono ?_
    rintro _ w2 ⟨rfl, hb2⟩
    have bN := Blk.new w2 [.int .i64 k, .int .i64 l, .int .i64 h, .int .i64 e, .int .i64 (-1), .int .i64 (-1)] 212
    have B3 := Below.next hb2 (below_alloc w2 (.cells #[.int .i64 k, .int .i64 l, .int .i64 h, .int .i64 e, .int .i64 (-1), .int .i64 (-1)] 212))
    have y2 := up B3 x2
    have HS2 := hyd (show Ty.At (w2.alloc (.cells #[.int .i64 k, .int .i64 l, .int .i64 h, .int .i64 e, .int .i64 (-1), .int .i64 (-1)] 212)) (.mk k l h e ao b o len cap ps) ∧ Below w.heap.size w (w2.alloc (.cells #[.int .i64 k, .int .i64 l, .int .i64 h, .int .i64 e, .int .i64 (-1), .int .i64 (-1)] 212)) ∧ Pw w0 n g p m v es c Q R (w2.alloc (.cells #[.int .i64 k, .int .i64 l, .int .i64 h, .int .i64 e, .int .i64 (-1), .int .i64 (-1)] 212)) ∧ Blk (w2.alloc (.cells #[.int .i64 k, .int .i64 l, .int .i64 h, .int .i64 e, .int .i64 (-1), .int .i64 (-1)] 212)) w2.heap.size [.int .i64 k, .int .i64 l, .int .i64 h, .int .i64 e, .int .i64 (-1), .int .i64 (-1)] 212 ∧ ¬ PS p m v w2.heap.size ∧ w0.heap.size ≤ w2.heap.size ∧ w.heap.size ≤ w2.heap.size from ⟨HS.out.1.kept B3, Below.next HS.out.2.1 B3, HS.out.2.2.1.kept B3, bN, fun hx => absurd ((HS.out.2.2.1.kept hb2).ge hx).2 (Nat.lt_irrefl _), (HS.out.2.2.1.kept hb2).bl.size, (Below.next HS.out.2.1 hb2).size⟩)
    clear hN bN B3 x0 x1 x2 x3 x4 HS
    go_wp2
    clear y2 hb2
    generalize w2.heap.size = B at *
    go_loopw [25] (fun i wr => ∃ (j : Nat), j ≤ len ∧ i = .int .i64 j ∧ Below w.heap.size w wr ∧ Pw w0 n g p m v es c Q R wr ∧ Blk wr B [.int .i64 k, .int .i64 l, .int .i64 h, .int .i64 e, .int .i64 (if 0 < j then plc Q (ps 0) (d + 1) else -1), .int .i64 (if 1 < j then plc Q (ps 1) (d + 1) else -1)] 212 ∧ (∀ i, i < j → plc Q (ps i) (d + 1) ≠ -1)) (fun i _ => len - (intOf i).toNat)
    case atStart => exact ⟨0, Nat.zero_le _, rfl, HS2.out.2.1, HS2.out.2.2.1, HS2.out.2.2.2.1, fun i hi => absurd hi (Nat.not_lt_zero _)⟩
    case round =>
      obtain ⟨j, hj, rfl, hBl, hPw, hBk, hne⟩ := hrel
      have hA := HA0.out.kept hBl
      have HB := hyd (show ¬ PS p m v B ∧ w0.heap.size ≤ B ∧ w.heap.size ≤ B from HS2.out.2.2.2.2)
      have HN := hyd hne
      clear HS2 hne
      by_cases hlt : j < len
      · have ij : (j : Int) < len := by omega
        have a0 := hnil (by omega)
        subst a0
        have C : C5 wr b (o + j * 5) (ps j) := hA.cells hlt
        have P : (ps j).At wr := hA.part hlt
        have X0 := Bx.new wr (ps j)
        have B0 := below_alloc wr (.cells #[.int .i64 (ps j).k, .int .i64 (ps j).l, .slice (ps j).ao (ps j).len (ps j).cap, .int .i64 (ps j).h, .int .i64 (ps j).e] 53)
        have HI := hyd (show Below w.heap.size w wr ∧ Pw w0 n g p m v es c Q R wr ∧ Blk wr B _ 212 from ⟨hBl, hPw, hBk⟩)
        have y0 := C.c0
        have y1 := C.c1
        have y2 := C.c2
        have y3 := C.c3
        have y4 := C.c4
        have hC := ih j (d + 1) _ (by omega) (P.kept B0) (hPw.kept B0)
        have hcd : ((d + 1 : Nat) : Int) = (d : Int) + 1 := by omega
        rw [hcd] at hC
        clear hA C hBl hPw hBk hcd
        go_wp2_with fail
        refine hC.mono ?_
        rintro r w5 ⟨rfl, hb5⟩
        have B5 := Below.next B0 hb5
        have HJ := hyd (show Below w.heap.size w w5 ∧ Pw w0 n g p m v es c Q R w5 ∧ Blk w5 B _ 212 from ⟨Below.next HI.out.1 B5, HI.out.2.1.kept B5, HI.out.2.2.kept B5⟩)
        clear hC HI X0 B0 y0 y1 y2 y3 y4 hb5 P B5
        have hj2 : j = 0 ∨ j = 1 := by omega
        rcases hj2 with rfl | rfl
        · have hJ := HJ.out.2.2
          rw [if_neg (by decide), if_neg (by decide)] at hJ
          have z4 := hJ.cell 4 rfl
          have f4 := hJ.frozen 4
          have W6 := wrote_cell (i := 4) hJ (.int .i64 (plc Q (ps 0) (d + 1)))
          have z6 := W6.blk.cell 4 rfl
          have HW := hyd (show Below w.heap.size w (w5.setCell ⟨B, 4, none⟩ (.int .i64 (plc Q (ps 0) (d + 1)))) ∧ Pw w0 n g p m v es c Q R (w5.setCell ⟨B, 4, none⟩ (.int .i64 (plc Q (ps 0) (d + 1)))) ∧ Blk (w5.setCell ⟨B, 4, none⟩ (.int .i64 (plc Q (ps 0) (d + 1)))) B [.int .i64 k, .int .i64 l, .int .i64 h, .int .i64 e, .int .i64 (plc Q (ps 0) (d + 1)), .int .i64 (-1)] 212 from ⟨W6.below HB.out.2.2 HJ.out.1, HJ.out.2.1.wrote W6 HB.out.1 HB.out.2.1, W6.blk⟩)
          clear HJ W6 hJ
          generalize hq : plc Q (ps 0) (d + 1) = q at *
          have HQ := hyd hq
          clear hq
          by_cases q1 : q = -1
          · subst q1
            have HE : Hid (ANS = -1) := by show _ = _; rw [HPL.out, if_pos ⟨by omega, rfl⟩]
            go_wp2
            go_ret
            exact ⟨ret_int HE.out.symm, HW.out.1⟩
          · have HE : Hid (∀ i, i < 1 → plc Q (ps i) (d + 1) ≠ -1) := fun i hi => by
              rcases Nat.lt_or_ge i 0 with h2 | h2
              · exact HN.out i h2
              · have : i = 0 := by omega
                subst this; rw [HQ.out]; exact q1
            go_wp2
            go_roundw
            case rel => exact ⟨1, by omega, rfl, HW.out.1, HW.out.2.1, by show Blk _ B [.int .i64 k, .int .i64 l, .int .i64 h, .int .i64 e, .int .i64 (if 0 < 1 then plc Q (ps 0) (d + 1) else -1), .int .i64 (if 1 < 1 then plc Q (ps 1) (d + 1) else -1)] _; rw [if_pos (by decide), if_neg (by decide), HQ.out]; exact HW.out.2.2, HE.out⟩
            case measure => simp [intOf]; omega
        · have hJ := HJ.out.2.2
          rw [if_pos (by decide), if_neg (by decide)] at hJ
          have z4 := hJ.cell 5 rfl
          have f4 := hJ.frozen 5
          have W6 := wrote_cell (i := 5) hJ (.int .i64 (plc Q (ps 1) (d + 1)))
          have z6 := W6.blk.cell 5 rfl
          have HW := hyd (show Below w.heap.size w (w5.setCell ⟨B, 5, none⟩ (.int .i64 (plc Q (ps 1) (d + 1)))) ∧ Pw w0 n g p m v es c Q R (w5.setCell ⟨B, 5, none⟩ (.int .i64 (plc Q (ps 1) (d + 1)))) ∧ Blk (w5.setCell ⟨B, 5, none⟩ (.int .i64 (plc Q (ps 1) (d + 1)))) B [.int .i64 k, .int .i64 l, .int .i64 h, .int .i64 e, .int .i64 (plc Q (ps 0) (d + 1)), .int .i64 (plc Q (ps 1) (d + 1))] 212 from ⟨W6.below HB.out.2.2 HJ.out.1, HJ.out.2.1.wrote W6 HB.out.1 HB.out.2.1, W6.blk⟩)
          clear HJ W6 hJ
          generalize hq : plc Q (ps 1) (d + 1) = q at *
          have HQ := hyd hq
          clear hq
          by_cases q1 : q = -1
          · subst q1
            have HE : Hid (ANS = -1) := by show _ = _; rw [HPL.out, if_neg (fun z => HN.out 0 (by omega) z.2), if_pos ⟨by omega, rfl⟩]
            go_wp2
            go_ret
            exact ⟨ret_int HE.out.symm, HW.out.1⟩
          · have HE : Hid (∀ i, i < 2 → plc Q (ps i) (d + 1) ≠ -1) := fun i hi => by
              rcases Nat.lt_or_ge i 1 with h2 | h2
              · exact HN.out i h2
              · have : i = 1 := by omega
                subst this; rw [HQ.out]; exact q1
            go_wp2
            go_roundw
            case rel => exact ⟨2, by omega, rfl, HW.out.1, HW.out.2.1, by show Blk _ B [.int .i64 k, .int .i64 l, .int .i64 h, .int .i64 e, .int .i64 (if 0 < 2 then plc Q (ps 0) (d + 1) else -1), .int .i64 (if 1 < 2 then plc Q (ps 1) (d + 1) else -1)] _; rw [if_pos (by decide), if_pos (by decide), HQ.out]; exact HW.out.2.2, HE.out⟩
            case measure => simp [intOf]; omega
      · have e2 : j = len := by omega
        subst e2
        have dj : ¬ (j : Int) < j := by omega
        have p3 := hPw.blk.cell 3 rfl
        have k0 := hBk.cell 0 rfl
        have k1 := hBk.cell 1 rfl
        have k2 := hBk.cell 2 rfl
        have k3 := hBk.cell 3 rfl
        have k4 := hBk.cell 4 rfl
        have k5 := hBk.cell 5 rfl
        have HI := hyd (show Below w.heap.size w wr ∧ Pw w0 n g p m v es c Q R wr from ⟨hBl, hPw⟩)
        generalize hx0 : (if 0 < j then plc Q (ps 0) (d + 1) else -1) = x0 at *
        generalize hx1 : (if 1 < j then plc Q (ps 1) (d + 1) else -1) = x1 at *
        have hL0 := fun q => run_lookN (wr.drewN q) m es c hPw.mp [k, l, h, e, x0, x1] rfl Q hPw.ks
        have HF : Hid (ANS = fnd Q [k, l, h, e, x0, x1]) := by
          show _ = _
          rw [HPL.out, if_neg (fun z => HN.out 0 z.1 z.2), if_neg (fun z => HN.out 1 z.1 z.2)]
        generalize fnd Q [k, l, h, e, x0, x1] = F at *
        have hL : ∀ q, (Instr.lookup 129 (.map (some m)) (.agg #[.int .i64 k, .int .i64 l, .int .i64 h, .int .i64 e, .int .i64 x0, .int .i64 x1]) true).run Tryz.prog (wr.drewN q) = .ok (.tuple #[.int .i64 (if F = -1 then 0 else F), .bool (decide (F ≠ -1))]) (wr.drewN q) := hL0
        have HD : Hid (∀ q, Below w.heap.size w (wr.drewN q)) := fun q => below_drewN hBl q
        clear hA hBl hPw hBk hL0 HI
        by_cases hF : F = -1
        · have hL2 : ∀ q, (Instr.lookup 129 (.map (some m)) (.agg #[.int .i64 k, .int .i64 l, .int .i64 h, .int .i64 e, .int .i64 x0, .int .i64 x1]) true).run Tryz.prog (wr.drewN q) = .ok (.tuple #[.int .i64 0, .bool false]) (wr.drewN q) := fun q => by rw [hL q, if_pos hF, decide_eq_false (fun z => z hF)]
          have HF2 : Hid (ANS = -1) := HF.out.trans hF
          clear hL HF hF
          go_upto_region 11 with fail
          go_quiet (fail)
          go_wp2
          go_ret
          exact ⟨ret_int HF2.out.symm, HD.out _⟩
        · have hL2 : ∀ q, (Instr.lookup 129 (.map (some m)) (.agg #[.int .i64 k, .int .i64 l, .int .i64 h, .int .i64 e, .int .i64 x0, .int .i64 x1]) true).run Tryz.prog (wr.drewN q) = .ok (.tuple #[.int .i64 F, .bool true]) (wr.drewN q) := fun q => by rw [hL q, if_neg hF, decide_eq_true hF]
          clear hL hF
          go_upto_region 11 with fail
          go_quiet (fail)
          go_wp2
          go_ret
          exact ⟨ret_int HF.out.symm, HD.out _⟩

set_option maxHeartbeats 1000000 in
theorem place_any {w0 : World} {n : Strs} {g : Grid} {p m : Nat} {v : Value} {es : Array MapEntry} {c : Nat} {Q : List (List Int)} {R : List Ty} (t : Ty) (w : World) (ht : t.At w) (hP : Pw w0 n g p m v es c Q R w) :
    Calls Tryz.prog 137 #[.pointer (some ⟨p, 0, none⟩), .agg #[.int .i64 t.k, .int .i64 t.l, .slice t.ao t.len t.cap, .int .i64 t.h, .int .i64 t.e]] w fun e w' => e = .returned (.int .i64 (plc Q t 1)) ∧ Below w.heap.size w w' := by
  have B0 := below_alloc w (.cells #[.int .i64 t.k, .int .i64 t.l, .slice t.ao t.len t.cap, .int .i64 t.h, .int .i64 t.e] 53)
  have h := placeOf_any t 1 _ (by omega) (ht.kept B0) (hP.kept B0)
  generalize plc Q t 1 = F at *
  go_enter Tryz.func137, Tryz.ntmps137
  go_wp2_with fail
  refine h.mono ?_
  rintro r w1 ⟨rfl, hb1⟩
  go_wp2
  go_ret
  exact ⟨rfl, Below.next B0 hb1⟩
end Go.Proofs.YtmkncmmegjfipaaGreatDoor
