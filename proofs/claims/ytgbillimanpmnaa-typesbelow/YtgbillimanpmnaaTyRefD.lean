/- Layer 2, the reference: how deep a type nests; Formed. -/
import Derived.Test.YtgbillimanpmnaaTyRefF
namespace Go.Proofs.Ytgbillimanpmnaa
open Go.RowKit

theorem max_int (q d : Nat) : (if q < d then (d : Int) else q) = (max q d : Nat) := by split <;> omega

set_option maxHeartbeats 2000000 in
theorem deep2_any : ∀ (t : Ty) (w : World), t.nodes ≤ 1000 → t.At w → Calls Try.prog 34 #[.agg #[.int .i64 t.k, .int .i64 t.l, .slice t.ao t.len t.cap, .int .i64 t.h, .int .i64 t.e]] w fun e w' => e = .returned (.int .i64 (t.deep : Nat)) ∧ Below w.heap.size w w' := by
  intro t
  induction t with
  | dm => intro w _ hAt; exact hAt.elim
  | mk k l h e ao b o len cap ps ih =>
    intro w hn hAt
    show Calls Try.prog 34 #[.agg #[.int .i64 k, .int .i64 l, .slice ao len cap, .int .i64 h, .int .i64 e]] w fun r w' => r = .returned (.int .i64 (maxTo (fun i => (ps i).deep) len + 1 : Nat)) ∧ Below w.heap.size w w'
    have X0 := Bx.new w (.mk k l h e ao b o len cap ps)
    have B0 := below_alloc w (.cells #[.int .i64 k, .int .i64 l, .slice ao len cap, .int .i64 h, .int .i64 e] 28)
    have hb : len ≤ 9223372036854775807 := hAt.bound
    have hnil : 0 < len → ao = some ⟨b, o, none⟩ := hAt.nil
    have HS : Hid (Bx (w.alloc (.cells #[.int .i64 k, .int .i64 l, .slice ao len cap, .int .i64 h, .int .i64 e] 28)) w.heap.size (.mk k l h e ao b o len cap ps) ∧ Ty.At (w.alloc (.cells #[.int .i64 k, .int .i64 l, .slice ao len cap, .int .i64 h, .int .i64 e] 28)) (.mk k l h e ao b o len cap ps) ∧ Below w.heap.size w (w.alloc (.cells #[.int .i64 k, .int .i64 l, .slice ao len cap, .int .i64 h, .int .i64 e] 28))) := ⟨X0, hAt.kept B0, B0⟩
    have hsum : sumTo (fun i => (ps i).nodes) len ≤ 1000 := by have : 1 + sumTo (fun i => (ps i).nodes) len ≤ 1000 := hn; omega
    have hmx : ∀ j, j ≤ len → maxTo (fun i => (ps i).deep) j ≤ 1000 := fun j hj => by
      have h1 := maxTo_sum (fun i => (ps i).deep) (fun i => (ps i).nodes) j (fun i _ => deep_nodes (ps i))
      have h2 := sumTo_mono (fun i => (ps i).nodes) hj
      omega
    have HP : Hid (∀ j, j < len → (ps j).nodes ≤ 1000) := fun j hj => by
      have h2 := sumTo_le (fun i => (ps i).nodes) hj
      have h3 : (fun i => (ps i).nodes) j = (ps j).nodes := rfl
      omega
    have HM : Hid (∀ j, j ≤ len → maxTo (fun i => (ps i).deep) j ≤ 1000) := hmx
    clear X0 B0 hAt hsum hmx hn
    go_enter Try.func34, Try.ntmps34
    go_wp2
    go_loopw [3, 4] (fun m i wr => ∃ (q j : Nat), j ≤ len ∧ m = .int .i64 q ∧ i = .int .i64 j ∧ q = maxTo (fun i => (ps i).deep) j ∧ Bx wr w.heap.size (.mk k l h e ao b o len cap ps) ∧ Ty.At wr (.mk k l h e ao b o len cap ps) ∧ Below w.heap.size w wr) (fun _ i _ => len - (intOf i).toNat)
    case atStart => exact ⟨0, 0, Nat.zero_le _, rfl, rfl, rfl, HS.out⟩
    case round =>
      obtain ⟨q, j, hj, rfl, rfl, hm, hX, hA, hB⟩ := hrel
      clear HS
      have hq : q ≤ 1000 := by rw [hm]; exact HM.out j hj
      have x2 : wr.cell? ⟨w.heap.size, 2, none⟩ = some (.slice ao len cap) := hX.c2
      have HS : Hid (Bx wr w.heap.size (.mk k l h e ao b o len cap ps) ∧ Ty.At wr (.mk k l h e ao b o len cap ps) ∧ Below w.heap.size w wr) := ⟨hX, hA, hB⟩
      have HQ : Hid (q = maxTo (fun i => (ps i).deep) j) := hm
      clear hX hm hB
      by_cases hlt : j < len
      · have ij : (j : Int) < len := by omega
        have a0 := hnil (by omega)
        subst a0
        have C : C5 wr b (o + j * 5) (ps j) := hA.cells hlt
        have P : (ps j).At wr := hA.part hlt
        have y0 := C.c0
        have y1 := C.c1
        have y2 := C.c2
        have y3 := C.c3
        have y4 := C.c4
        clear hA C
        go_wp2_with fail
        refine (ih j _ (HP.out j hlt) P).mono ?_
        rintro r w1 ⟨rfl, hb1⟩
        clear y0 y1 y2 y3 y4 x2
        have HD : Hid (max q (ps j).deep = maxTo (fun i => (ps i).deep) (j + 1)) := by show max q (ps j).deep = max (maxTo (fun i => (ps i).deep) j) (ps j).deep; rw [HQ.out]
        generalize (ps j).deep = dj at HD ⊢
        go_wp2
        go_roundw
        case rel => exact ⟨max q dj, j + 1, by omega, by rw [max_int], by go_num, HD.out, HS.out.1.kept hb1, HS.out.2.1.kept hb1, HS.out.2.2.trans (hb1.mono HS.out.2.2.size)⟩
        case measure => simp [intOf]; omega
      · have e : len = j := by omega
        subst e
        have d : ¬ (len : Int) < len := by omega
        go_wp2
        go_ret
        exact ⟨ret_int (by have h1 := HQ.out; omega), HS.out.2.2⟩

set_option maxHeartbeats 2000000 in
theorem rFormed2_any (n : Strs) (g : Grid) (t : Ty) (w : World) (hn : n.At w) (hg : g.At w) (ht : t.At w) :
    Calls Try.prog 12 #[.agg #[.slice n.ao n.len n.cap, .slice g.ao g.len g.cap], .agg #[.int .i64 t.k, .int .i64 t.l, .slice t.ao t.len t.cap, .int .i64 t.h, .int .i64 t.e]] w fun e w' => e = .returned (.bool (okB n g t)) ∧ Below w.heap.size w w' := by
  obtain ⟨L0, X0, B0⟩ := start_lt w n g t
  have hn0 := hn.kept B0
  have hg0 := hg.kept B0
  have ht0 := ht.kept B0
  have HE : Hid (okB n g t = (formedB n g && ((decide (t.nodes ≤ 40) && decide (t.deep ≤ 6)) && t.shp n.len))) := by show okB n g t = _; unfold okB; rw [ok_shp]
  clear hn hg ht
  unfold latO tyO at *
  go_enter Try.func12, Try.ntmps12
  go_wp2_with fail
  refine (rformed_any n g _ hn0 hg0).mono ?_
  rintro e w1 ⟨rfl, hb1⟩
  have L1 := L0.kept hb1
  have X1 := X0.kept hb1
  have B1 := Below.next B0 hb1
  have hn1 := hn0.kept hb1
  have ht1 := ht0.kept hb1
  clear L0 X0 B0 hn0 hg0 ht0 hb1
  cases h1 : formedB n g
  · have HV : Hid (okB n g t = false) := by show okB n g t = false; rw [HE.out, h1]; rfl
    go_wp2
    go_ret
    exact ⟨ret_bool HV.out.symm, B1⟩
  have x0 := X1.c0
  have x1 := X1.c1
  have x2 := X1.c2
  have x3 := X1.c3
  have x4 := X1.c4
  go_wp2_with fail
  refine (rNodes_any t _ ht1).mono ?_
  rintro e w2 ⟨rfl, hb2⟩
  have L2 := L1.kept hb2
  have X2 := X1.kept hb2
  have B2 := Below.next B1 hb2
  have hn2 := hn1.kept hb2
  have ht2 := ht1.kept hb2
  clear L1 X1 B1 hn1 ht1 hb2 x0 x1 x2 x3 x4
  by_cases h2 : t.nodes ≤ 40
  · have d : decide (((min t.nodes 41 : Nat) : Int) ≤ 40) = true := by simp only [decide_eq_true_eq]; omega
    have x0 := X2.c0
    have x1 := X2.c1
    have x2 := X2.c2
    have x3 := X2.c3
    have x4 := X2.c4
    generalize min t.nodes 41 = q at d ⊢
    go_wp2_with fail
    refine (deep2_any t _ (by omega) ht2).mono ?_
    rintro e w3 ⟨rfl, hb3⟩
    have L3 := L2.kept hb3
    have X3 := X2.kept hb3
    have B3 := Below.next B2 hb3
    have hn3 := hn2.kept hb3
    have ht3 := ht2.kept hb3
    clear L2 X2 B2 hn2 ht2 hb3 x0 x1 x2 x3 x4
    have l0 := L3.c0
    have l1 := L3.c1
    have x0 := X3.c0
    have x1 := X3.c1
    have x2 := X3.c2
    have x3 := X3.c3
    have x4 := X3.c4
    by_cases h3 : t.deep ≤ 6
    · have d3 : decide (((t.deep : Nat) : Int) ≤ 6) = true := by simp only [decide_eq_true_eq]; omega
      have HV : Hid (okB n g t = t.shp n.len) := by show okB n g t = _; rw [HE.out, h1, decide_eq_true h2, decide_eq_true h3]; rfl
      go_wp2_with fail
      refine (shaped2_any n g t _ hn3 ht3).mono ?_
      rintro e w4 ⟨rfl, hb4⟩
      go_wp2
      go_ret
      exact ⟨ret_bool HV.out.symm, Below.next B3 hb4⟩
    · have d3 : decide (((t.deep : Nat) : Int) ≤ 6) = false := by simp only [decide_eq_false_iff_not]; omega
      have HV : Hid (okB n g t = false) := by show okB n g t = _; rw [HE.out, h1, decide_eq_true h2, decide_eq_false h3]; rfl
      go_wp2
      go_ret
      exact ⟨ret_bool HV.out.symm, B3⟩
  · have d : decide (((min t.nodes 41 : Nat) : Int) ≤ 40) = false := by simp only [decide_eq_false_iff_not]; omega
    have HV : Hid (okB n g t = false) := by show okB n g t = _; rw [HE.out, h1, decide_eq_false h2]; rfl
    generalize min t.nodes 41 = q at d ⊢
    go_wp2
    go_ret
    exact ⟨ret_bool HV.out.symm, B2⟩
end Go.Proofs.Ytgbillimanpmnaa
