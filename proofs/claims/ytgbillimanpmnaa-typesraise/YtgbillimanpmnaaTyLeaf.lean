/- Layer 2: the small functions, and the counts of nodes. -/
import Derived.Test.YtgbillimanpmnaaTyBase
namespace Go.Proofs.Ytgbillimanpmnaa
open Go.RowKit

set_option maxHeartbeats 1000000 in
theorem arity_any (k : Int) (w : World) : Calls Try.prog 68 #[.int .i64 k] w fun e w' => e = .returned (.int .i64 (arityI k)) ∧ Below w.heap.size w w' := by
  unfold arityI
  by_cases h1 : k = 1
  · subst h1
    go_enter Try.func68, Try.ntmps68
    go_wp2
    go_ret
    exact ⟨rfl, Below.refl _ _⟩
  by_cases h2 : k = 2
  · subst h2
    go_enter Try.func68, Try.ntmps68
    go_wp2
    go_ret
    exact ⟨rfl, Below.refl _ _⟩
  by_cases h5 : k = 5
  · subst h5
    go_enter Try.func68, Try.ntmps68
    go_wp2
    go_ret
    exact ⟨rfl, Below.refl _ _⟩
  by_cases h3 : k = 3
  · subst h3
    go_enter Try.func68, Try.ntmps68
    go_wp2
    go_ret
    exact ⟨rfl, Below.refl _ _⟩
  by_cases h4 : k = 4
  · subst h4
    go_enter Try.func68, Try.ntmps68
    go_wp2
    go_ret
    exact ⟨rfl, Below.refl _ _⟩
  rw [if_neg h1, if_neg h2, if_neg h5, if_neg h3, if_neg h4]
  have b1 : (k == 1) = false := beq_eq_false_iff_ne.2 h1
  have b2 : (k == 2) = false := beq_eq_false_iff_ne.2 h2
  have b3 : (k == 3) = false := beq_eq_false_iff_ne.2 h3
  have b4 : (k == 4) = false := beq_eq_false_iff_ne.2 h4
  have b5 : (k == 5) = false := beq_eq_false_iff_ne.2 h5
  clear h1 h2 h3 h4 h5
  go_enter Try.func68, Try.ntmps68
  go_wp2
  go_ret
  exact ⟨rfl, Below.refl _ _⟩

set_option maxHeartbeats 1000000 in
theorem isLabel_any (n : Strs) (g : Grid) (a : Int) (w : World) (hn : n.At w) : Calls Try.prog 69 #[.agg #[.slice n.ao n.len n.cap, .slice g.ao g.len g.cap], .int .i64 a] w fun e w' => e = .returned (.bool (inR n.len a)) ∧ Below w.heap.size w w' := by
  have hnb := hn.bound
  unfold inR
  cases h0 : decide (0 ≤ a)
  · go_enter Try.func69, Try.ntmps69
    go_wp2
    go_ret
    exact ⟨rfl, below_alloc _ _⟩
  · go_enter Try.func69, Try.ntmps69
    go_wp2
    go_ret
    exact ⟨rfl, below_alloc _ _⟩

set_option maxHeartbeats 2000000 in
theorem boundsFormed_any (n : Strs) (g : Grid) (t : Ty) (w : World) (hn : n.At w) : Calls Try.prog 70 #[.agg #[.slice n.ao n.len n.cap, .slice g.ao g.len g.cap], .agg #[.int .i64 t.k, .int .i64 t.l, .slice t.ao t.len t.cap, .int .i64 t.h, .int .i64 t.e]] w fun e w' => e = .returned (.bool (bndI n.len t.k t.h t.e)) ∧ Below w.heap.size w w' := by
  obtain ⟨L0, X0, B0⟩ := start_lt w n g t
  have hn2 := hn.kept B0
  unfold latO tyO at *
  have HE : Hid (bndI n.len t.k t.h t.e = if t.k = 4 then inR n.len t.h && ((t.e == -1) || inR n.len t.e) else (t.h == 0) && (t.e == 0)) := rfl
  by_cases h4 : t.k = 4
  · have b4 : (t.k != 4) = false := by simp [h4]
    have HE2 : Hid (bndI n.len t.k t.h t.e = (inR n.len t.h && ((t.e == -1) || inR n.len t.e))) := by show bndI n.len t.k t.h t.e = _; rw [HE.out, if_pos h4]
    clear h4 HE
    go_enter Try.func70, Try.ntmps70
    go_wp2_with fail
    refine (isLabel_any n g t.h _ hn2).mono ?_
    rintro e w1 ⟨rfl, hb1⟩
    have L1 := L0.kept hb1
    have X1 := X0.kept hb1
    have B1 := Below.next B0 hb1
    have hn3 := hn2.kept hb1
    have c0 := L1.c0
    have c1 := L1.c1
    have x4 := X1.c4
    clear L0 X0 hb1 hn2 B0
    cases h1 : inR n.len t.h
    · go_wp2
      go_ret
      exact ⟨by rw [HE2.out, h1]; rfl, B1⟩
    · cases h2 : (t.e == -1)
      · go_wp2_with fail
        refine (isLabel_any n g t.e _ hn3).mono ?_
        rintro e w2 ⟨rfl, hb2⟩
        go_wp2
        go_ret
        exact ⟨by rw [HE2.out, h1, h2]; rfl, Below.next B1 hb2⟩
      · go_wp2
        go_ret
        exact ⟨by rw [HE2.out, h1, h2]; rfl, B1⟩
  · have b4 : (t.k != 4) = true := by simp [h4]
    have HE2 : Hid (bndI n.len t.k t.h t.e = ((t.h == 0) && (t.e == 0))) := by show bndI n.len t.k t.h t.e = _; rw [HE.out, if_neg h4]
    clear h4 HE
    cases h1 : (t.h == 0)
    · go_enter Try.func70, Try.ntmps70
      go_wp2
      go_ret
      exact ⟨by rw [HE2.out, h1]; rfl, B0⟩
    · go_enter Try.func70, Try.ntmps70
      go_wp2
      go_ret
      exact ⟨by rw [HE2.out, h1]; rfl, B0⟩


set_option maxHeartbeats 2000000 in
theorem rNodes_any : ∀ (t : Ty) (w : World), t.At w → Calls Try.prog 14 #[.agg #[.int .i64 t.k, .int .i64 t.l, .slice t.ao t.len t.cap, .int .i64 t.h, .int .i64 t.e]] w fun e w' => e = .returned (.int .i64 (min t.nodes 41 : Nat)) ∧ Below w.heap.size w w' := by
  intro t
  induction t with
  | dm => intro w hAt; exact hAt.elim
  | mk k l h e ao b o len cap ps ih =>
    intro w hAt
    show Calls Try.prog 14 #[.agg #[.int .i64 k, .int .i64 l, .slice ao len cap, .int .i64 h, .int .i64 e]] w fun r w' => r = .returned (.int .i64 (min (1 + sumTo (fun i => (ps i).nodes) len) 41 : Nat)) ∧ Below w.heap.size w w'
    have X0 := Bx.new w (.mk k l h e ao b o len cap ps)
    have hb : len ≤ 9223372036854775807 := hAt.bound
    have hnil : 0 < len → ao = some ⟨b, o, none⟩ := hAt.nil
    have hA1 := hAt.kept (below_alloc w (.cells #[.int .i64 k, .int .i64 l, .slice ao len cap, .int .i64 h, .int .i64 e] 28))
    have B0 := below_alloc w (.cells #[.int .i64 k, .int .i64 l, .slice ao len cap, .int .i64 h, .int .i64 e] 28)
    have HS : Hid (Bx (w.alloc (.cells #[.int .i64 k, .int .i64 l, .slice ao len cap, .int .i64 h, .int .i64 e] 28)) w.heap.size (.mk k l h e ao b o len cap ps) ∧ Ty.At (w.alloc (.cells #[.int .i64 k, .int .i64 l, .slice ao len cap, .int .i64 h, .int .i64 e] 28)) (.mk k l h e ao b o len cap ps) ∧ Below w.heap.size w (w.alloc (.cells #[.int .i64 k, .int .i64 l, .slice ao len cap, .int .i64 h, .int .i64 e] 28))) := ⟨X0, hA1, B0⟩
    clear X0 hA1 B0 hAt
    go_enter Try.func14, Try.ntmps14
    go_wp2
    go_loopw [3, 4] (fun m i wr => ∃ (q j : Nat), j ≤ len ∧ m = .int .i64 q ∧ i = .int .i64 j ∧ q ≤ 81 ∧ min q 41 = min (1 + sumTo (fun i => (ps i).nodes) j) 41 ∧ Bx wr w.heap.size (.mk k l h e ao b o len cap ps) ∧ Ty.At wr (.mk k l h e ao b o len cap ps) ∧ Below w.heap.size w wr) (fun _ i _ => len - (intOf i).toNat)
    case atStart => exact ⟨1, 0, Nat.zero_le _, rfl, rfl, by omega, rfl, HS.out⟩
    case round =>
      obtain ⟨q, j, hj, rfl, rfl, hq, hm, hX, hA, hB⟩ := hrel
      clear HS
      have x2 : wr.cell? ⟨w.heap.size, 2, none⟩ = some (.slice ao len cap) := hX.c2
      have HS : Hid (Bx wr w.heap.size (.mk k l h e ao b o len cap ps) ∧ Ty.At wr (.mk k l h e ao b o len cap ps) ∧ Below w.heap.size w wr) := ⟨hX, hA, hB⟩
      have HQ : Hid (min q 41 = min (1 + sumTo (fun i => (ps i).nodes) j) 41) := hm
      clear hX hm hB
      by_cases hlt : j < len
      · have ij : (j : Int) < len := by omega
        by_cases h40 : q ≤ 40
        · have d40 : decide ((q : Int) ≤ 40) = true := by simp; omega
          have a0 := hnil (by omega)
          subst a0
          have C : C5 wr b (o + j * 5) (ps j) := hA.cells hlt
          have P : (ps j).At wr := hA.part hlt
          have y0 := C.c0
          have y1 := C.c1
          have y2 := C.c2
          have y3 := C.c3
          have y4 := C.c4
          clear hA C
          go_wp2_with fail
          refine (ih j _ P).mono ?_
          rintro r w1 ⟨rfl, hb1⟩
          clear y0 y1 y2 y3 y4 x2
          go_wp2
          go_roundw
          case rel => exact ⟨q + min (ps j).nodes 41, j + 1, by omega, by rw [Int.natCast_add], by go_num, by omega, by have := HQ.out; simp only [sumTo]; omega, HS.out.1.kept hb1, HS.out.2.1.kept hb1, HS.out.2.2.trans (hb1.mono HS.out.2.2.size)⟩
          case measure => simp [intOf]; omega
        · have d40 : decide ((q : Int) ≤ 40) = false := by simp; omega
          have HE : Hid (min (1 + sumTo (fun i => (ps i).nodes) len) 41 = 41) := by
            show min (1 + sumTo (fun i => (ps i).nodes) len) 41 = 41
            have := HQ.out
            have h2 := sumTo_mono (fun i => (ps i).nodes) hj
            omega
          have HF : Hid (min q 41 = 41) := by show min q 41 = 41; omega
          go_wp2
          all_goals go_ret
          all_goals exact ⟨ret_int (by have h1 := HF.out; have h2 := HE.out; omega), HS.out.2.2⟩
      · have e : len = j := by omega
        subst e
        have d : ¬ (len : Int) < len := by omega
        go_wp2
        all_goals go_ret
        all_goals exact ⟨ret_int (by have h1 := HQ.out; omega), HS.out.2.2⟩

set_option maxHeartbeats 2000000 in
theorem nodes_any : ∀ (t : Ty) (a : Nat) (w : World), a ≤ 40 → t.At w → Calls Try.prog 36 #[.agg #[.int .i64 t.k, .int .i64 t.l, .slice t.ao t.len t.cap, .int .i64 t.h, .int .i64 t.e], .int .i64 a] w fun e w' => e = .returned (.int .i64 (min (a + t.nodes) 41 : Nat)) ∧ Below w.heap.size w w' := by
  intro t
  induction t with
  | dm => intro a w _ hAt; exact hAt.elim
  | mk k l h e ao b o len cap ps ih =>
    intro a w ha hAt
    show Calls Try.prog 36 #[.agg #[.int .i64 k, .int .i64 l, .slice ao len cap, .int .i64 h, .int .i64 e], .int .i64 a] w fun r w' => r = .returned (.int .i64 (min (a + (1 + sumTo (fun i => (ps i).nodes) len)) 41 : Nat)) ∧ Below w.heap.size w w'
    have B0 := below_alloc w (.cells #[.int .i64 k, .int .i64 l, .slice ao len cap, .int .i64 h, .int .i64 e] 28)
    have hb : len ≤ 9223372036854775807 := hAt.bound
    have hnil : 0 < len → ao = some ⟨b, o, none⟩ := hAt.nil
    have HS : Hid (Ty.At (w.alloc (.cells #[.int .i64 k, .int .i64 l, .slice ao len cap, .int .i64 h, .int .i64 e] 28)) (.mk k l h e ao b o len cap ps) ∧ Below w.heap.size w (w.alloc (.cells #[.int .i64 k, .int .i64 l, .slice ao len cap, .int .i64 h, .int .i64 e] 28))) := ⟨hAt.kept B0, B0⟩
    clear B0 hAt
    go_enter Try.func36, Try.ntmps36
    go_wp2
    go_loopw [5, 13] (fun m i wr => ∃ (q j : Nat), j ≤ len ∧ m = .int .i64 q ∧ i = .int .i64 j ∧ q = min (a + (1 + sumTo (fun i => (ps i).nodes) j)) 41 ∧ Ty.At wr (.mk k l h e ao b o len cap ps) ∧ Below w.heap.size w wr) (fun _ i _ => len - (intOf i).toNat)
    case atStart => exact ⟨a + 1, 0, Nat.zero_le _, by rw [Int.natCast_add]; rfl, rfl, by simp only [sumTo]; omega, HS.out⟩
    case round =>
      obtain ⟨q, j, hj, rfl, rfl, hm, hA, hB⟩ := hrel
      clear HS
      have HQ : Hid (q = min (a + (1 + sumTo (fun i => (ps i).nodes) j)) 41) := hm
      clear hm
      by_cases hlt : j < len
      · have ij : (j : Int) < len := by omega
        have a0 := hnil (by omega)
        subst a0
        have C : C5 wr b (o + j * 5) (ps j) := hA.cells hlt
        have P : (ps j).At wr := hA.part hlt
        have X0 := Bx.new wr (ps j)
        have B0 := below_alloc wr (.cells #[.int .i64 (ps j).k, .int .i64 (ps j).l, .slice (ps j).ao (ps j).len (ps j).cap, .int .i64 (ps j).h, .int .i64 (ps j).e] 28)
        have HS : Hid (Ty.At wr (.mk k l h e (some ⟨b, o, none⟩) b o len cap ps) ∧ Below w.heap.size w wr) := ⟨hA, hB⟩
        have y0 := C.c0
        have y1 := C.c1
        have y2 := C.c2
        have y3 := C.c3
        have y4 := C.c4
        clear hA C hB
        by_cases h40 : 40 < q
        · have d40 : decide ((40 : Int) < q) = true := by simp; omega
          have HE : Hid (min (a + (1 + sumTo (fun i => (ps i).nodes) len)) 41 = q) := by
            show min (a + (1 + sumTo (fun i => (ps i).nodes) len)) 41 = q
            have := HQ.out
            have h2 := sumTo_mono (fun i => (ps i).nodes) hj
            omega
          go_wp2
          all_goals go_ret
          all_goals exact ⟨ret_int (by have h2 := HE.out; omega), Below.next HS.out.2 B0⟩
        · have d40 : decide ((40 : Int) < q) = false := by simp; omega
          go_wp2_with fail
          refine (ih j q _ (by omega) (P.kept B0)).mono ?_
          rintro r w1 ⟨rfl, hb1⟩
          have B1 := Below.next B0 hb1
          go_wp2
          go_roundw
          case rel => exact ⟨min (q + (ps j).nodes) 41, j + 1, by omega, rfl, by go_num, by have := HQ.out; simp only [sumTo]; omega, HS.out.1.kept B1, Below.next HS.out.2 B1⟩
          case measure => simp [intOf]; omega
      · have e : len = j := by omega
        subst e
        have d : ¬ (len : Int) < len := by omega
        go_wp2
        go_ret
        exact ⟨ret_int (by have h1 := HQ.out; omega), hB⟩

set_option maxHeartbeats 1000000 in
theorem Nodes_any (t : Ty) (w : World) (ht : t.At w) : Calls Try.prog 13 #[.agg #[.int .i64 t.k, .int .i64 t.l, .slice t.ao t.len t.cap, .int .i64 t.h, .int .i64 t.e]] w fun e w' => e = .returned (.int .i64 (min t.nodes 41 : Nat)) ∧ Below w.heap.size w w' := by
  have B0 := below_alloc w (.cells #[.int .i64 t.k, .int .i64 t.l, .slice t.ao t.len t.cap, .int .i64 t.h, .int .i64 t.e] 28)
  have h := nodes_any t 0 _ (by omega) (ht.kept B0)
  rw [Nat.zero_add] at h
  go_enter Try.func13, Try.ntmps13
  go_wp2_with fail
  refine h.mono ?_
  rintro r w1 ⟨rfl, hb1⟩
  go_wp2
  go_ret
  exact ⟨rfl, Below.next B0 hb1⟩

set_option maxHeartbeats 1000000 in
theorem rSmall2_any (t : Ty) (w : World) (ht : t.At w) : Calls Try.prog 27 #[.agg #[.int .i64 t.k, .int .i64 t.l, .slice t.ao t.len t.cap, .int .i64 t.h, .int .i64 t.e]] w fun e w' => e = .returned (.bool (decide (t.nodes ≤ 40))) ∧ Below w.heap.size w w' := by
  have B0 := below_alloc w (.cells #[.int .i64 t.k, .int .i64 t.l, .slice t.ao t.len t.cap, .int .i64 t.h, .int .i64 t.e] 28)
  have HE : Hid (decide ((min t.nodes 41 : Nat) ≤ (40 : Int)) = decide (t.nodes ≤ 40)) := by
    show decide (((min t.nodes 41 : Nat) : Int) ≤ 40) = decide (t.nodes ≤ 40)
    exact decide_eq_decide.2 (by omega)
  go_enter Try.func27, Try.ntmps27
  go_wp2_with fail
  refine (rNodes_any t _ (ht.kept B0)).mono ?_
  rintro r w1 ⟨rfl, hb1⟩
  generalize min t.nodes 41 = q at HE
  go_wp2
  go_ret
  exact ⟨ret_bool HE.out, Below.next B0 hb1⟩
end Go.Proofs.Ytgbillimanpmnaa
