/- Layer 2: the small functions, and the counts of nodes. -/
import Derived.Test.YtmkncmmegjfipaaGreatDoorP7
namespace Go.Proofs.YtmkncmmegjfipaaGreatDoor
open Go.RowKit

set_option maxHeartbeats 1000000 in
theorem arity_any (k : Int) (w : World) : Calls Tryz.prog 178 #[.int .i64 k] w fun e w' => e = .returned (.int .i64 (arityI k)) ∧ Below w.heap.size w w' := by
  unfold arityI
  by_cases h1 : k = 1
  · subst h1
    go_enter Tryz.func178, Tryz.ntmps178
    go_wp2
    go_ret
    exact ⟨rfl, Below.refl _ _⟩
  by_cases h2 : k = 2
  · subst h2
    go_enter Tryz.func178, Tryz.ntmps178
    go_wp2
    go_ret
    exact ⟨rfl, Below.refl _ _⟩
  by_cases h5 : k = 5
  · subst h5
    go_enter Tryz.func178, Tryz.ntmps178
    go_wp2
    go_ret
    exact ⟨rfl, Below.refl _ _⟩
  by_cases h3 : k = 3
  · subst h3
    go_enter Tryz.func178, Tryz.ntmps178
    go_wp2
    go_ret
    exact ⟨rfl, Below.refl _ _⟩
  by_cases h4 : k = 4
  · subst h4
    go_enter Tryz.func178, Tryz.ntmps178
    go_wp2
    go_ret
    exact ⟨rfl, Below.refl _ _⟩
  rw [if_neg h1, if_neg h2, if_neg h5, if_neg h3, if_neg h4]
  have b1 : (k == 1) = false := beq_eq_false_iff_ne.2 h1
  have b2 : (k == 2) = false := beq_eq_false_iff_ne.2 h2
  have b3 : (k == 3) = false := beq_eq_false_iff_ne.2 h3
  have b4 : (k == 4) = false := beq_eq_false_iff_ne.2 h4
  have b5 : (k == 5) = false := beq_eq_false_iff_ne.2 h5
  clear h1 h2 h3 h4 h5
  go_enter Tryz.func178, Tryz.ntmps178
  go_wp2
  go_ret
  exact ⟨rfl, Below.refl _ _⟩

set_option maxHeartbeats 1000000 in
theorem isLabel_any (n : Strs) (g : Grid) (a : Int) (w : World) (hn : n.At w) : Calls Tryz.prog 179 #[.agg #[.slice n.ao n.len n.cap, .slice g.ao g.len g.cap], .int .i64 a] w fun e w' => e = .returned (.bool (inR n.len a)) ∧ Below w.heap.size w w' := by
  have hnb := hn.bound
  unfold inR
  cases h0 : decide (0 ≤ a)
  · go_enter Tryz.func179, Tryz.ntmps179
    go_wp2
    go_ret
    exact ⟨rfl, below_alloc _ _⟩
  · go_enter Tryz.func179, Tryz.ntmps179
    go_wp2
    go_ret
    exact ⟨rfl, below_alloc _ _⟩

set_option maxHeartbeats 2000000 in
theorem boundsFormed_any (n : Strs) (g : Grid) (t : Ty) (w : World) (hn : n.At w) : Calls Tryz.prog 180 #[.agg #[.slice n.ao n.len n.cap, .slice g.ao g.len g.cap], .agg #[.int .i64 t.k, .int .i64 t.l, .slice t.ao t.len t.cap, .int .i64 t.h, .int .i64 t.e]] w fun e w' => e = .returned (.bool (bndI n.len t.k t.h t.e)) ∧ Below w.heap.size w w' := by
  obtain ⟨L0, X0, B0⟩ := start_lt w n g t
  have hn2 := hn.kept B0
  unfold latO tyO at *
  have HE : Hid (bndI n.len t.k t.h t.e = if t.k = 4 then inR n.len t.h && ((t.e == -1) || inR n.len t.e) else (t.h == 0) && (t.e == 0)) := rfl
  by_cases h4 : t.k = 4
  · have b4 : (t.k != 4) = false := by simp [h4]
    have HE2 : Hid (bndI n.len t.k t.h t.e = (inR n.len t.h && ((t.e == -1) || inR n.len t.e))) := by show bndI n.len t.k t.h t.e = _; rw [HE.out, if_pos h4]
    clear h4 HE
    go_enter Tryz.func180, Tryz.ntmps180
    go_wp2_with fail
    refine (isLabel_any n g t.h _ hn2).mono ?_
    rintro e w1 ⟨rfl, hb1⟩
    have L1 := L0.kept hb1
    have X1 := X0.kept hb1
    have B1 := Below.next B0 hb1
    have hn3 := hn2.kept hb1
    have c0 := L1.c0
    have c1 := L1.c1
    have x4 := X1.c4
    clear L0 X0 hb1 hn2 B0
    cases h1 : inR n.len t.h
    · go_wp2
      go_ret
      exact ⟨by rw [HE2.out, h1]; rfl, B1⟩
    · cases h2 : (t.e == -1)
      · go_wp2_with fail
        refine (isLabel_any n g t.e _ hn3).mono ?_
        rintro e w2 ⟨rfl, hb2⟩
        go_wp2
        go_ret
        exact ⟨by rw [HE2.out, h1, h2]; rfl, Below.next B1 hb2⟩
      · go_wp2
        go_ret
        exact ⟨by rw [HE2.out, h1, h2]; rfl, B1⟩
  · have b4 : (t.k != 4) = true := by simp [h4]
    have HE2 : Hid (bndI n.len t.k t.h t.e = ((t.h == 0) && (t.e == 0))) := by show bndI n.len t.k t.h t.e = _; rw [HE.out, if_neg h4]
    clear h4 HE
    cases h1 : (t.h == 0)
    · go_enter Tryz.func180, Tryz.ntmps180
      go_wp2
      go_ret
      exact ⟨by rw [HE2.out, h1]; rfl, B0⟩
    · go_enter Tryz.func180, Tryz.ntmps180
      go_wp2
      go_ret
      exact ⟨by rw [HE2.out, h1]; rfl, B0⟩


set_option maxHeartbeats 2000000 in
theorem rNodes_any : ∀ (t : Ty) (w : World), t.At w → Calls Tryz.prog 64 #[.agg #[.int .i64 t.k, .int .i64 t.l, .slice t.ao t.len t.cap, .int .i64 t.h, .int .i64 t.e]] w fun e w' => e = .returned (.int .i64 (min t.nodes 41 : Nat)) ∧ Below w.heap.size w w' := by
  intro t
  induction t with
  | dm => intro w hAt; exact hAt.elim
  | mk k l h e ao b o len cap ps ih =>
    intro w hAt
    show Calls Tryz.prog 64 #[.agg #[.int .i64 k, .int .i64 l, .slice ao len cap, .int .i64 h, .int .i64 e]] w fun r w' => r = .returned (.int .i64 (min (1 + sumTo (fun i => (ps i).nodes) len) 41 : Nat)) ∧ Below w.heap.size w w'
    have X0 := Bx.new w (.mk k l h e ao b o len cap ps)
    have hb : len ≤ 9223372036854775807 := hAt.bound
    have hnil : 0 < len → ao = some ⟨b, o, none⟩ := hAt.nil
    have hA1 := hAt.kept (below_alloc w (.cells #[.int .i64 k, .int .i64 l, .slice ao len cap, .int .i64 h, .int .i64 e] 53))
    have B0 := below_alloc w (.cells #[.int .i64 k, .int .i64 l, .slice ao len cap, .int .i64 h, .int .i64 e] 53)
    have HS : Hid (Bx (w.alloc (.cells #[.int .i64 k, .int .i64 l, .slice ao len cap, .int .i64 h, .int .i64 e] 53)) w.heap.size (.mk k l h e ao b o len cap ps) ∧ Ty.At (w.alloc (.cells #[.int .i64 k, .int .i64 l, .slice ao len cap, .int .i64 h, .int .i64 e] 53)) (.mk k l h e ao b o len cap ps) ∧ Below w.heap.size w (w.alloc (.cells #[.int .i64 k, .int .i64 l, .slice ao len cap, .int .i64 h, .int .i64 e] 53))) := ⟨X0, hA1, B0⟩
    clear X0 hA1 B0 hAt
    go_enter Tryz.func64, Tryz.ntmps64
    go_wp2
    go_loopw [3, 4] (fun m i wr => ∃ (q j : Nat), j ≤ len ∧ m = .int .i64 q ∧ i = .int .i64 j ∧ q ≤ 81 ∧ min q 41 = min (1 + sumTo (fun i => (ps i).nodes) j) 41 ∧ Bx wr w.heap.size (.mk k l h e ao b o len cap ps) ∧ Ty.At wr (.mk k l h e ao b o len cap ps) ∧ Below w.heap.size w wr) (fun _ i _ => len - (intOf i).toNat)
    case atStart => exact ⟨1, 0, Nat.zero_le _, rfl, rfl, by omega, rfl, HS.out⟩
    case round =>
      obtain ⟨q, j, hj, rfl, rfl, hq, hm, hX, hA, hB⟩ := hrel
      clear HS
      have x2 : wr.cell? ⟨w.heap.size, 2, none⟩ = some (.slice ao len cap) := hX.c2
      have HS : Hid (Bx wr w.heap.size (.mk k l h e ao b o len cap ps) ∧ Ty.At wr (.mk k l h e ao b o len cap ps) ∧ Below w.heap.size w wr) := ⟨hX, hA, hB⟩
      have HQ : Hid (min q 41 = min (1 + sumTo (fun i => (ps i).nodes) j) 41) := hm
      clear hX hm hB
      by_cases hlt : j < len
      · have ij : (j : Int) < len := by omega
        by_cases h40 : q ≤ 40
        · have d40 : decide ((q : Int) ≤ 40) = true := by simp; omega
          have a0 := hnil (by omega)
          subst a0
          have C : C5 wr b (o + j * 5) (ps j) := hA.cells hlt
          have P : (ps j).At wr := hA.part hlt
          have y0 := C.c0
          have y1 := C.c1
          have y2 := C.c2
          have y3 := C.c3
          have y4 := C.c4
          clear hA C
          go_wp2_with fail
          refine (ih j _ P).mono ?_
          rintro r w1 ⟨rfl, hb1⟩
          clear y0 y1 y2 y3 y4 x2
          go_wp2
          go_roundw
          case rel => exact ⟨q + min (ps j).nodes 41, j + 1, by omega, by rw [Int.natCast_add], by go_num, by omega, by have := HQ.out; simp only [sumTo]; omega, HS.out.1.kept hb1, HS.out.2.1.kept hb1, HS.out.2.2.trans (hb1.mono HS.out.2.2.size)⟩
          case measure => simp [intOf]; omega
        · have d40 : decide ((q : Int) ≤ 40) = false := by simp; omega
          have HE : Hid (min (1 + sumTo (fun i => (ps i).nodes) len) 41 = 41) := by
            show min (1 + sumTo (fun i => (ps i).nodes) len) 41 = 41
            have := HQ.out
            have h2 := sumTo_mono (fun i => (ps i).nodes) hj
            omega
          have HF : Hid (min q 41 = 41) := by show min q 41 = 41; omega
          go_wp2
          all_goals go_ret
          all_goals exact ⟨ret_int (by have h1 := HF.out; have h2 := HE.out; omega), HS.out.2.2⟩
      · have e : len = j := by omega
        subst e
        have d : ¬ (len : Int) < len := by omega
        go_wp2
        all_goals go_ret
        all_goals exact ⟨ret_int (by have h1 := HQ.out; omega), HS.out.2.2⟩

set_option maxHeartbeats 1000000 in
theorem partsOf_any (t : Ty) (w : World) :
    Calls Tryz.prog 181 #[.agg #[.int .i64 t.k, .int .i64 t.l, .slice t.ao t.len t.cap, .int .i64 t.h, .int .i64 t.e]] w fun e w' => e = .returned (.slice t.ao t.len t.cap) ∧ Below w.heap.size w w' := by
  have X0 := Bx.new w t
  have B0 := below_alloc w (.cells #[.int .i64 t.k, .int .i64 t.l, .slice t.ao t.len t.cap, .int .i64 t.h, .int .i64 t.e] 53)
  have x2 := X0.c2
  clear X0
  go_enter Tryz.func181, Tryz.ntmps181
  go_wp2
  go_ret
  exact ⟨rfl, B0⟩

set_option maxRecDepth 100000 in
set_option maxHeartbeats 2000000 in
theorem count_any : ∀ (t : Ty) (a : Nat) (w : World), a ≤ 40 → t.At w → Calls Tryz.prog 159 #[.agg #[.int .i64 t.k, .int .i64 t.l, .slice t.ao t.len t.cap, .int .i64 t.h, .int .i64 t.e], .func (.func 181) #[] #[], .int .i64 40, .int .i64 a] w fun e w' => e = .returned (.int .i64 (min (a + t.nodes) 41 : Nat)) ∧ Below w.heap.size w w' := by
  intro t
  induction t with
  | dm => intro a w _ hAt; exact hAt.elim
  | mk k l h e ao b o len cap ps ih =>
    intro a w ha hAt
    show Calls Tryz.prog 159 #[.agg #[.int .i64 k, .int .i64 l, .slice ao len cap, .int .i64 h, .int .i64 e], .func (.func 181) #[] #[], .int .i64 40, .int .i64 a] w fun r w' => r = .returned (.int .i64 (min (a + (1 + sumTo (fun i => (ps i).nodes) len)) 41 : Nat)) ∧ Below w.heap.size w w'
    have B0 := below_alloc w (.cells #[.int .i64 k, .int .i64 l, .slice ao len cap, .int .i64 h, .int .i64 e] 53)
    have hb : len ≤ 9223372036854775807 := hAt.bound
    have hnil : 0 < len → ao = some ⟨b, o, none⟩ := hAt.nil
    have HS : Hid (Ty.At (w.alloc (.cells #[.int .i64 k, .int .i64 l, .slice ao len cap, .int .i64 h, .int .i64 e] 53)) (.mk k l h e ao b o len cap ps) ∧ Below w.heap.size w (w.alloc (.cells #[.int .i64 k, .int .i64 l, .slice ao len cap, .int .i64 h, .int .i64 e] 53))) := ⟨hAt.kept B0, B0⟩
    have hP : Calls Tryz.prog 181 #[.agg #[.int .i64 k, .int .i64 l, .slice ao len cap, .int .i64 h, .int .i64 e]] (w.alloc (.cells #[.int .i64 k, .int .i64 l, .slice ao len cap, .int .i64 h, .int .i64 e] 53)) fun r w' => r = .returned (.slice ao len cap) ∧ Below (w.alloc (.cells #[.int .i64 k, .int .i64 l, .slice ao len cap, .int .i64 h, .int .i64 e] 53)).heap.size (w.alloc (.cells #[.int .i64 k, .int .i64 l, .slice ao len cap, .int .i64 h, .int .i64 e] 53)) w' := partsOf_any (.mk k l h e ao b o len cap ps) _
    clear B0 hAt
    go_enter Tryz.func159, Tryz.ntmps159
    go_wp2_with fail
    refine hP.mono ?_
    rintro _ w5 ⟨rfl, hb5⟩
    have HS : Hid (Ty.At w5 (.mk k l h e ao b o len cap ps) ∧ Below w.heap.size w w5) := ⟨HS.out.1.kept hb5, Below.next HS.out.2 hb5⟩
    clear hb5 hP
    go_wp2
    go_loopw [9, 18] (fun m i wr => ∃ (q j : Nat), j ≤ len ∧ m = .int .i64 q ∧ i = .int .i64 j ∧ q = min (a + (1 + sumTo (fun i => (ps i).nodes) j)) 41 ∧ Ty.At wr (.mk k l h e ao b o len cap ps) ∧ Below w.heap.size w wr) (fun _ i _ => len - (intOf i).toNat)
    case atStart => exact ⟨a + 1, 0, Nat.zero_le _, by rw [Int.natCast_add]; rfl, rfl, by simp only [sumTo]; omega, HS.out⟩
    case round =>
      obtain ⟨q, j, hj, rfl, rfl, hm, hA, hB⟩ := hrel
      clear HS
      have HQ : Hid (q = min (a + (1 + sumTo (fun i => (ps i).nodes) j)) 41) := hm
      clear hm
      by_cases hlt : j < len
      · have ij : (j : Int) < len := by omega
        have a0 := hnil (by omega)
        subst a0
        have C : C5 wr b (o + j * 5) (ps j) := hA.cells hlt
        have P : (ps j).At wr := hA.part hlt
        have X0 := Bx.new wr (ps j)
        have B0 := below_alloc wr (.cells #[.int .i64 (ps j).k, .int .i64 (ps j).l, .slice (ps j).ao (ps j).len (ps j).cap, .int .i64 (ps j).h, .int .i64 (ps j).e] 53)
        have HS : Hid (Ty.At wr (.mk k l h e (some ⟨b, o, none⟩) b o len cap ps) ∧ Below w.heap.size w wr) := ⟨hA, hB⟩
        have y0 := C.c0
        have y1 := C.c1
        have y2 := C.c2
        have y3 := C.c3
        have y4 := C.c4
        clear hA C hB
        by_cases h40 : 40 < q
        · have d40 : decide ((40 : Int) < q) = true := by simp; omega
          have HE : Hid (min (a + (1 + sumTo (fun i => (ps i).nodes) len)) 41 = q) := by
            show min (a + (1 + sumTo (fun i => (ps i).nodes) len)) 41 = q
            have := HQ.out
            have h2 := sumTo_mono (fun i => (ps i).nodes) hj
            omega
          go_wp2
          all_goals go_ret
          all_goals exact ⟨ret_int (by have h2 := HE.out; omega), Below.next HS.out.2 B0⟩
        · have d40 : decide ((40 : Int) < q) = false := by simp; omega
          go_wp2_with fail
          refine (ih j q _ (by omega) (P.kept B0)).mono ?_
          rintro r w1 ⟨rfl, hb1⟩
          have B1 := Below.next B0 hb1
          go_wp2
          go_roundw
          case rel => exact ⟨min (q + (ps j).nodes) 41, j + 1, by omega, rfl, by go_num, by have := HQ.out; simp only [sumTo]; omega, HS.out.1.kept B1, Below.next HS.out.2 B1⟩
          case measure => simp [intOf]; omega
      · have e : len = j := by omega
        subst e
        have d : ¬ (len : Int) < len := by omega
        go_wp2
        go_ret
        exact ⟨ret_int (by have h1 := HQ.out; omega), hB⟩

set_option maxHeartbeats 1000000 in
theorem Count_any (t : Ty) (w : World) (ht : t.At w) : Calls Tryz.prog 123 #[.agg #[.int .i64 t.k, .int .i64 t.l, .slice t.ao t.len t.cap, .int .i64 t.h, .int .i64 t.e], .func (.func 181) #[] #[], .int .i64 40] w fun e w' => e = .returned (.int .i64 (min t.nodes 41 : Nat)) ∧ Below w.heap.size w w' := by
  have B0 := below_alloc w (.cells #[.int .i64 t.k, .int .i64 t.l, .slice t.ao t.len t.cap, .int .i64 t.h, .int .i64 t.e] 53)
  have h := count_any t 0 _ (by omega) (ht.kept B0)
  rw [Nat.zero_add] at h
  go_enter Tryz.func123, Tryz.ntmps123
  go_wp2_with fail
  refine h.mono ?_
  rintro r w1 ⟨rfl, hb1⟩
  go_wp2
  go_ret
  exact ⟨rfl, Below.next B0 hb1⟩

set_option maxHeartbeats 1000000 in
theorem Nodes_any (t : Ty) (w : World) (ht : t.At w) : Calls Tryz.prog 176 #[.agg #[.int .i64 t.k, .int .i64 t.l, .slice t.ao t.len t.cap, .int .i64 t.h, .int .i64 t.e]] w fun e w' => e = .returned (.int .i64 (min t.nodes 41 : Nat)) ∧ Below w.heap.size w w' := by
  have B0 := below_alloc w (.cells #[.int .i64 t.k, .int .i64 t.l, .slice t.ao t.len t.cap, .int .i64 t.h, .int .i64 t.e] 53)
  have h := Count_any t _ (ht.kept B0)
  go_enter Tryz.func176, Tryz.ntmps176
  go_wp2_with fail
  refine h.mono ?_
  rintro r w1 ⟨rfl, hb1⟩
  go_wp2
  go_ret
  exact ⟨rfl, Below.next B0 hb1⟩

set_option maxHeartbeats 1000000 in
theorem rSmall2_any (t : Ty) (w : World) (ht : t.At w) : Calls Tryz.prog 39 #[.agg #[.int .i64 t.k, .int .i64 t.l, .slice t.ao t.len t.cap, .int .i64 t.h, .int .i64 t.e]] w fun e w' => e = .returned (.bool (decide (t.nodes ≤ 40))) ∧ Below w.heap.size w w' := by
  have B0 := below_alloc w (.cells #[.int .i64 t.k, .int .i64 t.l, .slice t.ao t.len t.cap, .int .i64 t.h, .int .i64 t.e] 53)
  have HE : Hid (decide ((min t.nodes 41 : Nat) ≤ (40 : Int)) = decide (t.nodes ≤ 40)) := by
    show decide (((min t.nodes 41 : Nat) : Int) ≤ 40) = decide (t.nodes ≤ 40)
    exact decide_eq_decide.2 (by omega)
  go_enter Tryz.func39, Tryz.ntmps39
  go_wp2_with fail
  refine (rNodes_any t _ (ht.kept B0)).mono ?_
  rintro r w1 ⟨rfl, hb1⟩
  generalize min t.nodes 41 = q at HE
  go_wp2
  go_ret
  exact ⟨ret_bool HE.out, Below.next B0 hb1⟩
end Go.Proofs.YtmkncmmegjfipaaGreatDoor

/- Layer 2: Formed. -/
namespace Go.Proofs.YtmkncmmegjfipaaGreatDoor
open Go.RowKit

theorem boundsFormed_mk (n : Strs) (g : Grid) (k l h e : Int) (ao : Option Addr) (b o len cap : Nat) (ps : Nat → Ty) (w : World) (hn : n.At w) : Calls Tryz.prog 180 #[.agg #[.slice n.ao n.len n.cap, .slice g.ao g.len g.cap], .agg #[.int .i64 k, .int .i64 l, .slice ao len cap, .int .i64 h, .int .i64 e]] w fun r w' => r = .returned (.bool (bndI n.len k h e)) ∧ Below w.heap.size w w' :=
  boundsFormed_any n g (.mk k l h e ao b o len cap ps) w hn
theorem fm_eq (N : Nat) (k l h e : Int) (ao : Option Addr) (b o len cap : Nat) (ps : Nat → Ty) (d : Nat) : Ty.fm N (.mk k l h e ao b o len cap ps) d = ((((decide (d ≤ 6) && ((len : Int) == arityI k)) && inR N l) && bndI N k h e) && decide (∀ i, i < len → Ty.fm N (ps i) (d + 1) = true)) := rfl
theorem fm_cases (N : Nat) (k l h e : Int) (ao : Option Addr) (b o len cap : Nat) (ps : Nat → Ty) (d : Nat) :
    (6 < d ∧ Ty.fm N (.mk k l h e ao b o len cap ps) d = false) ∨ (d ≤ 6 ∧ ((len : Int) != arityI k) = true ∧ Ty.fm N (.mk k l h e ao b o len cap ps) d = false) ∨ (d ≤ 6 ∧ ((len : Int) != arityI k) = false ∧ inR N l = false ∧ Ty.fm N (.mk k l h e ao b o len cap ps) d = false) ∨
    (d ≤ 6 ∧ ((len : Int) != arityI k) = false ∧ inR N l = true ∧ bndI N k h e = false ∧ Ty.fm N (.mk k l h e ao b o len cap ps) d = false) ∨ (d ≤ 6 ∧ ((len : Int) != arityI k) = false ∧ inR N l = true ∧ bndI N k h e = true ∧ Ty.fm N (.mk k l h e ao b o len cap ps) d = decide (∀ i, i < len → Ty.fm N (ps i) (d + 1) = true)) := by
  rw [fm_eq]
  by_cases h1 : 6 < d
  · left; exact ⟨h1, by rw [show decide (d ≤ 6) = false from decide_eq_false (by omega)]; rfl⟩
  have h1' : decide (d ≤ 6) = true := decide_eq_true (by omega)
  right
  rw [h1']
  cases h2 : ((len : Int) == arityI k)
  · left; exact ⟨by omega, by simp [bne, h2], rfl⟩
  right
  cases h3 : inR N l
  · left; exact ⟨by omega, by simp [bne, h2], rfl, rfl⟩
  right
  cases h4 : bndI N k h e
  · left; exact ⟨by omega, by simp [bne, h2], rfl, rfl, rfl⟩
  right
  exact ⟨by omega, by simp [bne, h2], rfl, rfl, by simp⟩

set_option maxRecDepth 100000 in
set_option maxHeartbeats 8000000 in
theorem formedT_any (n : Strs) (g : Grid) : ∀ (t : Ty) (d : Nat) (w : World), d ≤ 7 → n.At w → t.At w → Calls Tryz.prog 175 #[.agg #[.slice n.ao n.len n.cap, .slice g.ao g.len g.cap], .agg #[.int .i64 t.k, .int .i64 t.l, .slice t.ao t.len t.cap, .int .i64 t.h, .int .i64 t.e], .int .i64 d] w fun e w' => e = .returned (.bool (t.fm n.len d)) ∧ Below w.heap.size w w' := by
  intro t
  induction t with
  | dm => intro d w _ _ hAt; exact hAt.elim
  | mk k l h e ao b o len cap ps ih =>
    intro d w hd hn hAt
    show Calls Tryz.prog 175 #[.agg #[.slice n.ao n.len n.cap, .slice g.ao g.len g.cap], .agg #[.int .i64 k, .int .i64 l, .slice ao len cap, .int .i64 h, .int .i64 e], .int .i64 d] w fun r w' => r = .returned (.bool (Ty.fm n.len (.mk k l h e ao b o len cap ps) d)) ∧ Below w.heap.size w w'
    obtain ⟨L0, X0, B0⟩ := start_lt w n g (.mk k l h e ao b o len cap ps)
    have hn2 := hn.kept B0
    have hA2 := hAt.kept B0
    have hb : len ≤ 9223372036854775807 := hAt.bound
    have hnil : 0 < len → ao = some ⟨b, o, none⟩ := hAt.nil
    unfold latO tyO at *
    have l0 := fun x => Gr.cell x L0.c0
    have l1 := fun x => Gr.cell x L0.c1
    have x0 := fun x => Gr.cell x X0.c0
    have x1 := fun x => Gr.cell x X0.c1
    have x2 := fun x => Gr.cell x X0.c2
    have x3 := fun x => Gr.cell x X0.c3
    have x4c := fun x => Gr.cell x X0.c4
    have hNE : Nonempty (Gr ((w.alloc (.cells #[.slice n.ao n.len n.cap, .slice g.ao g.len g.cap] 25)).alloc (.cells #[.int .i64 k, .int .i64 l, .slice ao len cap, .int .i64 h, .int .i64 e] 53))) := ⟨⟨_, Below.refl _ _⟩⟩
    simp only [Ty.k, Ty.l, Ty.h, Ty.e, Ty.ao, Ty.len, Ty.cap] at B0 L0 X0 hn2 hA2 l0 l1 x0 x1 x2 x3 x4c
    clear hn hAt
    rcases fm_cases n.len k l h e ao b o len cap ps d with ⟨h1, hE⟩ | ⟨h1, h2, hE⟩ | ⟨h1, h2, h3, hE⟩ | ⟨h1, h2, h3, h4, hE⟩ | ⟨h1, h2, h3, h4, hE⟩
    · have d1 : decide ((6 : Int) < d) = true := by simp; omega
      have HE : Hid (Ty.fm n.len (.mk k l h e ao b o len cap ps) d = false) := hE
      clear hE
      go_enter Tryz.func175, Tryz.ntmps175
      go_wp2
      refine wp_region_gr (by kernel_rfl) (by kernel_rfl) ?_
      repeat (first | go_big_quiet_step ((first | (go_at_call 178; exact Calls.gr _ (arity_any k _)) | (go_at_call 179; exact Calls.gr _ (isLabel_any n g l _ (hn2.kept (Gr.bl _)))) | (go_at_call 180; exact Calls.gr _ (boundsFormed_mk n g k l h e ao b o len cap ps _ (hn2.kept (Gr.bl _)))))))
      refine wpQuiet_nil ?_
      rintro w4 ⟨x4, rfl⟩
      have B4 := x4.bl
      generalize x4.w = w4 at B4 ⊢
      clear x4 l0 l1 x0 x1 x2 x3 x4c hNE
      go_wp2
      go_ret
      exact ⟨ret_bool HE.out.symm, Below.next B0 B4⟩
    · have d1 : decide ((6 : Int) < d) = false := by simp; omega
      have HE : Hid (Ty.fm n.len (.mk k l h e ao b o len cap ps) d = false) := hE
      clear hE
      go_enter Tryz.func175, Tryz.ntmps175
      go_wp2
      refine wp_region_gr (by kernel_rfl) (by kernel_rfl) ?_
      repeat (first | go_big_quiet_step ((first | (go_at_call 178; exact Calls.gr _ (arity_any k _)) | (go_at_call 179; exact Calls.gr _ (isLabel_any n g l _ (hn2.kept (Gr.bl _)))) | (go_at_call 180; exact Calls.gr _ (boundsFormed_mk n g k l h e ao b o len cap ps _ (hn2.kept (Gr.bl _)))))))
      refine wpQuiet_nil ?_
      rintro w4 ⟨x4, rfl⟩
      have B4 := x4.bl
      generalize x4.w = w4 at B4 ⊢
      clear x4 l0 l1 x0 x1 x2 x3 x4c hNE
      go_wp2
      go_ret
      exact ⟨ret_bool HE.out.symm, Below.next B0 B4⟩
    · have d1 : decide ((6 : Int) < d) = false := by simp; omega
      have HE : Hid (Ty.fm n.len (.mk k l h e ao b o len cap ps) d = false) := hE
      clear hE
      go_enter Tryz.func175, Tryz.ntmps175
      go_wp2
      refine wp_region_gr (by kernel_rfl) (by kernel_rfl) ?_
      repeat (first | go_big_quiet_step ((first | (go_at_call 178; exact Calls.gr _ (arity_any k _)) | (go_at_call 179; exact Calls.gr _ (isLabel_any n g l _ (hn2.kept (Gr.bl _)))) | (go_at_call 180; exact Calls.gr _ (boundsFormed_mk n g k l h e ao b o len cap ps _ (hn2.kept (Gr.bl _)))))))
      refine wpQuiet_nil ?_
      rintro w4 ⟨x4, rfl⟩
      have B4 := x4.bl
      generalize x4.w = w4 at B4 ⊢
      clear x4 l0 l1 x0 x1 x2 x3 x4c hNE
      go_wp2
      go_ret
      exact ⟨ret_bool HE.out.symm, Below.next B0 B4⟩
    · have d1 : decide ((6 : Int) < d) = false := by simp; omega
      have HE : Hid (Ty.fm n.len (.mk k l h e ao b o len cap ps) d = false) := hE
      clear hE
      go_enter Tryz.func175, Tryz.ntmps175
      go_wp2
      refine wp_region_gr (by kernel_rfl) (by kernel_rfl) ?_
      repeat (first | go_big_quiet_step ((first | (go_at_call 178; exact Calls.gr _ (arity_any k _)) | (go_at_call 179; exact Calls.gr _ (isLabel_any n g l _ (hn2.kept (Gr.bl _)))) | (go_at_call 180; exact Calls.gr _ (boundsFormed_mk n g k l h e ao b o len cap ps _ (hn2.kept (Gr.bl _)))))))
      refine wpQuiet_nil ?_
      rintro w4 ⟨x4, rfl⟩
      have B4 := x4.bl
      generalize x4.w = w4 at B4 ⊢
      clear x4 l0 l1 x0 x1 x2 x3 x4c hNE
      go_wp2
      go_ret
      exact ⟨ret_bool HE.out.symm, Below.next B0 B4⟩
    · have d1 : decide ((6 : Int) < d) = false := by simp; omega
      have HE : Hid (Ty.fm n.len (.mk k l h e ao b o len cap ps) d = decide (∀ i, i < len → Ty.fm n.len (ps i) (d + 1) = true)) := hE
      clear hE
      go_enter Tryz.func175, Tryz.ntmps175
      go_wp2
      refine wp_region_gr (by kernel_rfl) (by kernel_rfl) ?_
      repeat (first | go_big_quiet_step ((first | (go_at_call 178; exact Calls.gr _ (arity_any k _)) | (go_at_call 179; exact Calls.gr _ (isLabel_any n g l _ (hn2.kept (Gr.bl _)))) | (go_at_call 180; exact Calls.gr _ (boundsFormed_mk n g k l h e ao b o len cap ps _ (hn2.kept (Gr.bl _)))))))
      refine wpQuiet_nil ?_
      rintro w4 ⟨x4, rfl⟩
      have B4 := x4.bl
      generalize x4.w = w4 at B4 ⊢
      clear x4 l0 l1 x0 x1 x2 x3 x4c hNE
      have L4 := L0.kept B4
      have X4 := X0.kept B4
      have B5 := Below.next B0 B4
      have hn4 := hn2.kept B4
      have hA4 := hA2.kept B4
      have x2 : w4.cell? ⟨w.heap.size + 1, 2, none⟩ = some (.slice ao len cap) := X4.c2
      clear L0 X0 B4 hn2 hA2 B0
      go_wp2
      clear h2 h3 h4 d1
      go_loopw [36] (fun i wr => ∃ j : Nat, j ≤ len ∧ i = .int .i64 j ∧ (∀ i, i < j → Ty.fm n.len (ps i) (d + 1) = true) ∧ Below w4.heap.size w4 wr) (fun i _ => len - (intOf i).toNat)
      case atStart => exact ⟨0, Nat.zero_le _, rfl, fun _ h => absurd h (Nat.not_lt_zero _), Below.refl _ _⟩
      case round =>
        obtain ⟨j, hj, rfl, hdone, hB⟩ := hrel
        have HD : Hid (∀ i, i < j → Ty.fm n.len (ps i) (d + 1) = true) := hdone
        clear hdone
        by_cases hlt : j < len
        · have ij : (j : Int) < len := by omega
          have a0 := hnil (by omega)
          subst a0
          have hA5 := hA4.kept hB
          have C : C5 wr b (o + j * 5) (ps j) := hA5.cells hlt
          have P : (ps j).At wr := hA5.part hlt
          have N0 := Bx.new wr (ps j)
          have B6 := below_alloc wr (.cells #[.int .i64 (ps j).k, .int .i64 (ps j).l, .slice (ps j).ao (ps j).len (ps j).cap, .int .i64 (ps j).h, .int .i64 (ps j).e] 53)
          have L5 := (L4.kept hB).kept B6
          have y0 := C.c0
          have y1 := C.c1
          have y2 := C.c2
          have y3 := C.c3
          have y4 := C.c4
          have l0 := L5.c0
          have l1 := L5.c1
          clear C hA5
          have e1 : ((d + 1 : Nat) : Int) = d + 1 := by omega
          have hi := ih j (d + 1) _ (by omega) ((hn4.kept hB).kept B6) (P.kept B6)
          rw [e1] at hi
          go_wp2_with fail
          refine hi.mono ?_
          rintro r w6 ⟨rfl, hb6⟩
          have B7 := Below.next hB (Below.next B6 hb6)
          clear y0 y1 y2 y3 y4 l0 l1 L5 hi P
          cases hf : Ty.fm n.len (ps j) (d + 1)
          · go_wp2
            go_ret
            exact ⟨ret_bool (by rw [HE.out]; exact (decide_eq_false (fun hh => by rw [hh j hlt] at hf; cases hf)).symm), Below.next B5 B7⟩
          · go_wp2
            go_roundw
            case rel => exact ⟨j + 1, by omega, by go_num, fun i hi => (by
                by_cases e : i = j
                · subst e; exact hf
                · exact HD.out i (by omega)), B7⟩
            case measure => simp [intOf]; omega
        · have e : len = j := by omega
          subst e
          have dl : ¬ (len : Int) < len := by omega
          go_wp2
          go_ret
          exact ⟨ret_bool (by rw [HE.out]; exact (decide_eq_true HD.out).symm), Below.next B5 hB⟩
end Go.Proofs.YtmkncmmegjfipaaGreatDoor

/- Layer 2: all of these types formed. -/
namespace Go.Proofs.YtmkncmmegjfipaaGreatDoor
open Go.RowKit

/-- Formed, of a formed lattice of so many names. -/
def Ty.ok (N : Nat) (t : Ty) : Bool := t.fm N 1 && decide (t.nodes ≤ 40)

set_option maxRecDepth 100000 in
set_option maxHeartbeats 4000000 in
theorem allFormed_any (n : Strs) (g : Grid) (ao : Option Addr) (b o len cap : Nat) (ps : Nat → Ty) (w : World) (hn : n.At w) (hg : g.At w) (hr : Ty.At w (.mk 0 0 0 0 ao b o len cap ps)) :
    Calls Tryz.prog 169 #[.agg #[.slice n.ao n.len n.cap, .slice g.ao g.len g.cap], .slice ao len cap] w fun e w' => e = .returned (.bool (formedB n g && decide (∀ i, i < len → (ps i).ok n.len = true))) ∧ Below w.heap.size w w' := by
  have L0 := Bl.new w n g
  have B0 := below_alloc w (.cells #[.slice n.ao n.len n.cap, .slice g.ao g.len g.cap] 25)
  have hb : len ≤ 9223372036854775807 := hr.bound
  have hnil : 0 < len → ao = some ⟨b, o, none⟩ := hr.nil
  have hn2 := hn.kept B0
  have hg2 := hg.kept B0
  have hr2 := hr.kept B0
  clear hn hg hr
  go_enter Tryz.func169, Tryz.ntmps169
  go_wp2_with fail
  refine (formed_any n g _ hn2 hg2).mono ?_
  rintro r w1 ⟨rfl, hb1⟩
  have L1 := L0.kept hb1
  have hn3 := hn2.kept hb1
  have hr3 := hr2.kept hb1
  have B1 := Below.next B0 hb1
  clear L0 hb1 hn2 hg2 hr2 B0
  cases hF : formedB n g
  · go_wp2
    go_ret
    exact ⟨ret_bool (by rw [hF]; rfl), B1⟩
  go_wp2
  have HT : Hid (formedB n g = true) := hF
  clear hF
  go_loopw [12] (fun i wr => ∃ j : Nat, j ≤ len ∧ i = .int .i64 j ∧ (∀ i, i < j → (ps i).ok n.len = true) ∧ Below w1.heap.size w1 wr) (fun i _ => len - (intOf i).toNat)
  case atStart => exact ⟨0, Nat.zero_le _, rfl, fun _ h => absurd h (Nat.not_lt_zero _), Below.refl _ _⟩
  case round =>
    obtain ⟨j, hj, rfl, hdone, hB⟩ := hrel
    have HD : Hid (∀ i, i < j → (ps i).ok n.len = true) := hdone
    clear hdone
    by_cases hlt : j < len
    · have ij : (j : Int) < len := by omega
      have a0 := hnil (by omega)
      subst a0
      have hA5 := hr3.kept hB
      have C : C5 wr b (o + j * 5) (ps j) := hA5.cells hlt
      have P : (ps j).At wr := hA5.part hlt
      have N0 := Bx.new wr (ps j)
      have B6 := below_alloc wr (.cells #[.int .i64 (ps j).k, .int .i64 (ps j).l, .slice (ps j).ao (ps j).len (ps j).cap, .int .i64 (ps j).h, .int .i64 (ps j).e] 53)
      have L5 := (L1.kept hB).kept B6
      have P6 := P.kept B6
      have y0 := C.c0
      have y1 := C.c1
      have y2 := C.c2
      have y3 := C.c3
      have y4 := C.c4
      have l0 := L5.c0
      have l1 := L5.c1
      clear C hA5 P
      have hi := formedT_any n g (ps j) 1 _ (by omega) ((hn3.kept hB).kept B6) P6
      go_wp2_with fail
      refine hi.mono ?_
      rintro r w6 ⟨rfl, hb6⟩
      have N1 := N0.kept hb6
      have P7 := P6.kept hb6
      have B7 := Below.next hB (Below.next B6 hb6)
      clear y0 y1 y2 y3 y4 l0 l1 L5 hi N0 P6
      cases hf : Ty.fm n.len (ps j) 1
      · have HN : Hid ((ps j).ok n.len = false) := by show (ps j).ok n.len = false; unfold Ty.ok; rw [hf]; rfl
        clear hf
        go_wp2
        go_ret
        exact ⟨ret_bool (by rw [HT.out, Bool.true_and]; exact (decide_eq_false (fun hh => by have := HN.out; rw [hh j hlt] at this; cases this)).symm), Below.next B1 B7⟩
      · have HF : Hid (Ty.fm n.len (ps j) 1 = true) := hf
        have n0 := N1.c0
        have n1 := N1.c1
        have n2 := N1.c2
        have n3 := N1.c3
        have n4 := N1.c4
        clear hf N1
        go_wp2_with fail
        refine (Nodes_any (ps j) _ P7).mono ?_
        rintro r w7 ⟨rfl, hb7⟩
        have B8 := Below.next B7 hb7
        clear n0 n1 n2 n3 n4
        by_cases h40 : (ps j).nodes ≤ 40
        · have HY : Hid ((ps j).ok n.len = true) := by show (ps j).ok n.len = true; unfold Ty.ok; rw [HF.out, decide_eq_true h40]; rfl
          have d : decide ((40 : Int) < (min (ps j).nodes 41 : Nat)) = false := by simp only [decide_eq_false_iff_not]; omega
          generalize min (ps j).nodes 41 = q at d ⊢
          go_wp2
          go_roundw
          case rel => exact ⟨j + 1, by omega, by go_num, fun i hi => (by
              by_cases e : i = j
              · subst e; exact HY.out
              · exact HD.out i (by omega)), B8⟩
          case measure => simp [intOf]; omega
        · have HN : Hid ((ps j).ok n.len = false) := by show (ps j).ok n.len = false; unfold Ty.ok; rw [HF.out, decide_eq_false h40]; rfl
          have d : decide ((40 : Int) < (min (ps j).nodes 41 : Nat)) = true := by simp only [decide_eq_true_eq]; omega
          generalize min (ps j).nodes 41 = q at d ⊢
          go_wp2
          go_ret
          exact ⟨ret_bool (by rw [HT.out, Bool.true_and]; exact (decide_eq_false (fun hh => by have := HN.out; rw [hh j hlt] at this; cases this)).symm), Below.next B1 B8⟩
    · have e : len = j := by omega
      subst e
      have dl : ¬ (len : Int) < len := by omega
      go_wp2
      go_ret
      exact ⟨ret_bool (by rw [HT.out, Bool.true_and]; exact (decide_eq_true HD.out).symm), Below.next B1 hB⟩

/-- Types in a row that the call itself has laid. -/
def row2 (s t : Ty) : Obj := .cells #[.int .i64 s.k, .int .i64 s.l, .slice s.ao s.len s.cap, .int .i64 s.h, .int .i64 s.e, .int .i64 t.k, .int .i64 t.l, .slice t.ao t.len t.cap, .int .i64 t.h, .int .i64 t.e] 53
theorem row1_at (w : World) (t : Ty) (h : t.At w) : Ty.At (w.alloc (tyO t)) (.mk 0 0 0 0 (some ⟨w.heap.size, 0, none⟩) w.heap.size 0 1 1 (fun _ => t)) :=
  ⟨fun _ => rfl, by omega, fun i hi => ⟨by
    have e : i = 0 := by omega
    subst e
    have X := Bx.new w t
    exact ⟨X.c0, X.c1, X.c2, X.c3, X.c4⟩, h.kept (below_alloc _ _)⟩⟩
theorem row2_at (w : World) (s t : Ty) (hs : s.At w) (ht : t.At w) : Ty.At (w.alloc (row2 s t)) (.mk 0 0 0 0 (some ⟨w.heap.size, 0, none⟩) w.heap.size 0 2 2 (fun i => if i = 0 then s else t)) :=
  ⟨fun _ => rfl, by omega, fun i hi => by
    by_cases e : i = 0
    · subst e
      refine ⟨⟨?_, ?_, ?_, ?_, ?_⟩, hs.kept (below_alloc _ _)⟩
      all_goals simp [row2]
    · have e1 : i = 1 := by omega
      subst e1
      refine ⟨⟨?_, ?_, ?_, ?_, ?_⟩, ht.kept (below_alloc _ _)⟩
      all_goals simp [row2]⟩

/-- Formed, of whatever lattice. -/
def okB (n : Strs) (g : Grid) (t : Ty) : Bool := formedB n g && t.ok n.len

set_option maxHeartbeats 2000000 in
theorem Formed2_any (n : Strs) (g : Grid) (t : Ty) (w : World) (hn : n.At w) (hg : g.At w) (ht : t.At w) :
    Calls Tryz.prog 138 #[.agg #[.slice n.ao n.len n.cap, .slice g.ao g.len g.cap], .agg #[.int .i64 t.k, .int .i64 t.l, .slice t.ao t.len t.cap, .int .i64 t.h, .int .i64 t.e]] w fun e w' => e = .returned (.bool (okB n g t)) ∧ Below w.heap.size w w' := by
  obtain ⟨L0, X0, B0⟩ := start_lt w n g t
  have R1 := row1_at _ t (ht.kept B0)
  have B1 := below_alloc ((w.alloc (latO n g)).alloc (tyO t)) (tyO t)
  have hA := allFormed_any n g _ _ _ _ _ _ _ ((hn.kept B0).kept B1) ((hg.kept B0).kept B1) R1
  rw [alloc_size, alloc_size] at hA
  have HE : Hid ((formedB n g && decide (∀ i, i < 1 → Ty.ok n.len ((fun _ => t) i) = true)) = okB n g t) := by
    show (formedB n g && decide (∀ i, i < 1 → Ty.ok n.len ((fun _ => t) i) = true)) = okB n g t
    unfold okB
    congr 1
    cases hk : t.ok n.len
    · exact decide_eq_false (fun h => by have := h 0 (by omega); simp only [hk] at this; cases this)
    · exact decide_eq_true (fun _ _ => hk)
  unfold latO tyO at *
  have B2 := Below.next B0 B1
  go_enter Tryz.func138, Tryz.ntmps138
  go_wp2_with fail
  refine hA.mono ?_
  rintro r w1 ⟨rfl, hb1⟩
  rw [HE.out]
  go_wp2
  go_ret
  exact ⟨rfl, Below.next B2 hb1⟩
end Go.Proofs.YtmkncmmegjfipaaGreatDoor

/- Layer 2: Same's question of two nodes. -/
namespace Go.Proofs.YtmkncmmegjfipaaGreatDoor
open Go.RowKit

def hdEq (s t : Ty) : Bool := ((((s.k == t.k) && (s.l == t.l)) && (s.h == t.h)) && (s.e == t.e)) && (s.len == t.len)
theorem same_eq (s t : Ty) : s.same t = (hdEq s t && decide (∀ i, i < s.len → (s.ps i).same (t.ps i) = true)) := by
  rcases s with _ | ⟨k, l, h, e, ao, b, o, len, cap, ps⟩
  · show ((((0 == t.k) && (0 == t.l)) && ((0 == t.h) && (0 == t.e))) && (0 == t.len)) = ((((((0 : Int) == t.k) && ((0 : Int) == t.l)) && ((0 : Int) == t.h)) && ((0 : Int) == t.e)) && (0 == t.len) && decide (∀ i : Nat, i < 0 → Ty.same (Ty.dm.ps i) (t.ps i) = true))
    have e : decide (∀ i : Nat, i < 0 → Ty.same (Ty.dm.ps i) (t.ps i) = true) = true := decide_eq_true (fun _ h => absurd h (Nat.not_lt_zero _))
    rw [e]
    cases ((0 : Int) == t.k) <;> cases ((0 : Int) == t.l) <;> cases ((0 : Int) == t.h) <;> cases ((0 : Int) == t.e) <;> simp
  show (((((k == t.k) && (l == t.l)) && ((h == t.h) && (e == t.e))) && (len == t.len)) && decide (∀ i, i < len → Ty.same (ps i) (t.ps i) = true)) = (((((k == t.k) && (l == t.l)) && (h == t.h)) && (e == t.e)) && (len == t.len) && decide (∀ i, i < len → Ty.same (ps i) (t.ps i) = true))
  cases (k == t.k) <;> cases (l == t.l) <;> cases (h == t.h) <;> cases (e == t.e) <;> rfl
theorem hd_cases (s t : Ty) : ((s.k == t.k) = false ∧ hdEq s t = false) ∨ ((s.k == t.k) = true ∧ (s.l == t.l) = false ∧ hdEq s t = false) ∨ ((s.k == t.k) = true ∧ (s.l == t.l) = true ∧ (s.h == t.h) = false ∧ hdEq s t = false) ∨ ((s.k == t.k) = true ∧ (s.l == t.l) = true ∧ (s.h == t.h) = true ∧ (s.e == t.e) = false ∧ hdEq s t = false) ∨ ((s.k == t.k) = true ∧ (s.l == t.l) = true ∧ (s.h == t.h) = true ∧ (s.e == t.e) = true ∧ hdEq s t = ((s.len : Int) == t.len)) := by
  unfold hdEq
  have : ((s.len : Int) == t.len) = (s.len == t.len) := by
    by_cases h : s.len = t.len
    · rw [h]; simp
    · rw [beq_eq_false_iff_ne.2 h, beq_eq_false_iff_ne.2 (by omega)]
  rw [this]
  cases (s.k == t.k) <;> cases (s.l == t.l) <;> cases (s.h == t.h) <;> cases (s.e == t.e) <;> simp

set_option maxRecDepth 100000 in
set_option maxHeartbeats 4000000 in
theorem rSame_any2 : ∀ (s t : Ty) (w : World), s.At w → t.At w →
    Calls Tryz.prog 16 #[.agg #[.int .i64 s.k, .int .i64 s.l, .slice s.ao s.len s.cap, .int .i64 s.h, .int .i64 s.e], .agg #[.int .i64 t.k, .int .i64 t.l, .slice t.ao t.len t.cap, .int .i64 t.h, .int .i64 t.e]] w fun e w' => e = .returned (.bool (s.same t)) ∧ Below w.heap.size w w' := by
  intro s
  induction s with
  | dm => intro t w hs; exact hs.elim
  | mk sk sl sh se sao sb so slen scap sps ih =>
    intro t w hs ht
    rcases t with _ | ⟨tk, tl, th, te, tao, tb, to', tlen, tcap, tps⟩
    · exact ht.elim
    rw [same_eq]
    have hc := hd_cases (.mk sk sl sh se sao sb so slen scap sps) (.mk tk tl th te tao tb to' tlen tcap tps)
    obtain ⟨X0, Y0, B0⟩ := start_tt w (.mk sk sl sh se sao sb so slen scap sps) (.mk tk tl th te tao tb to' tlen tcap tps)
    have b1 : slen ≤ 9223372036854775807 := hs.bound
    have b2 : tlen ≤ 9223372036854775807 := ht.bound
    have n1 : 0 < slen → sao = some ⟨sb, so, none⟩ := hs.nil
    have n2 : 0 < tlen → tao = some ⟨tb, to', none⟩ := ht.nil
    have hs2 := hs.kept B0
    have ht2 := ht.kept B0
    unfold tyO at *
    generalize hdEq (.mk sk sl sh se sao sb so slen scap sps) (.mk tk tl th te tao tb to' tlen tcap tps) = HE at *
    simp only [Ty.k, Ty.l, Ty.h, Ty.e, Ty.ao, Ty.len, Ty.cap, Ty.ps] at *
    clear hs ht
    rcases hc with ⟨h1, hE⟩ | ⟨h1, h2, hE⟩ | ⟨h1, h2, h3, hE⟩ | ⟨h1, h2, h3, h4, hE⟩ | ⟨h1, h2, h3, h4, hE⟩
    · subst hE
      have h1 : (sk != tk) = true := by simp [bne, h1]
      go_enter Tryz.func16, Tryz.ntmps16
      go_wp2
      go_ret
      exact ⟨rfl, B0⟩
    · subst hE
      have h1 : (sk != tk) = false := by simp [bne, h1]
      have h2 : (sl != tl) = true := by simp [bne, h2]
      go_enter Tryz.func16, Tryz.ntmps16
      go_wp2
      go_ret
      exact ⟨rfl, B0⟩
    · subst hE
      have h1 : (sk != tk) = false := by simp [bne, h1]
      have h2 : (sl != tl) = false := by simp [bne, h2]
      have h3 : (sh != th) = true := by simp [bne, h3]
      go_enter Tryz.func16, Tryz.ntmps16
      go_wp2
      go_ret
      exact ⟨rfl, B0⟩
    · subst hE
      have h1 : (sk != tk) = false := by simp [bne, h1]
      have h2 : (sl != tl) = false := by simp [bne, h2]
      have h3 : (sh != th) = false := by simp [bne, h3]
      have h4 : (se != te) = true := by simp [bne, h4]
      go_enter Tryz.func16, Tryz.ntmps16
      go_wp2
      go_ret
      exact ⟨rfl, B0⟩
    · have e1 : sk = tk := by simpa using h1
      have e2 : sl = tl := by simpa using h2
      have e3 : sh = th := by simpa using h3
      have e4 : se = te := by simpa using h4
      subst e1 e2 e3 e4
      clear h1 h2 h3 h4
      by_cases hl : slen = tlen
      · subst hl
        have hE : HE = true := by rw [hE]; simp
        subst hE
        clear hE
        go_enter Tryz.func16, Tryz.ntmps16
        go_wp2
        clear b2
        go_loopw [5] (fun i wr => ∃ j : Nat, j ≤ slen ∧ i = .int .i64 j ∧ (∀ i, i < j → (sps i).same (tps i) = true) ∧ Bx wr w.heap.size (.mk sk sl sh se sao sb so slen scap sps) ∧ Bx wr (w.heap.size + 1) (.mk sk sl sh se tao tb to' slen tcap tps) ∧ Ty.At wr (.mk sk sl sh se sao sb so slen scap sps) ∧ Ty.At wr (.mk sk sl sh se tao tb to' slen tcap tps) ∧ Below w.heap.size w wr) (fun i _ => slen - (intOf i).toNat)
        case atStart => exact ⟨0, Nat.zero_le _, rfl, fun _ h => absurd h (Nat.not_lt_zero _), X0, Y0, hs2, ht2, B0⟩
        case round =>
          obtain ⟨j, hj, rfl, hdone, X1, Y1, hs3, ht3, B1⟩ := hrel
          clear X0 Y0 hs2 ht2 B0
          have HD : Hid (∀ i, i < j → (sps i).same (tps i) = true) := hdone
          clear hdone
          have x2 : wr.cell? ⟨w.heap.size, 2, none⟩ = some (.slice sao slen scap) := X1.c2
          have y2 : wr.cell? ⟨w.heap.size + 1, 2, none⟩ = some (.slice tao slen tcap) := Y1.c2
          by_cases hlt : j < slen
          · have ij : (j : Int) < slen := by omega
            have a1 := n1 (by omega)
            have a2 := n2 (by omega)
            subst a1 a2
            have C : C5 wr sb (so + j * 5) (sps j) := hs3.cells hlt
            have D : C5 wr tb (to' + j * 5) (tps j) := ht3.cells hlt
            have P : (sps j).At wr := hs3.part hlt
            have R : (tps j).At wr := ht3.part hlt
            have X2 := fun x => Gr.cell x x2
            have Y2 := fun x => Gr.cell x y2
            have p0 := fun x => Gr.cell x C.c0
            have p1 := fun x => Gr.cell x C.c1
            have p2 := fun x => Gr.cell x C.c2
            have p3 := fun x => Gr.cell x C.c3
            have p4 := fun x => Gr.cell x C.c4
            have q0 := fun x => Gr.cell x D.c0
            have q1 := fun x => Gr.cell x D.c1
            have q2 := fun x => Gr.cell x D.c2
            have q3 := fun x => Gr.cell x D.c3
            have q4 := fun x => Gr.cell x D.c4
            have hNE : Nonempty (Gr wr) := ⟨⟨_, Below.refl _ _⟩⟩
            go_wp2
            refine wp_region_gr (by kernel_rfl) (by kernel_rfl) ?_
            repeat (first | go_big_quiet_step ((go_at_call 16; exact Calls.gr _ (ih j (tps j) _ (P.kept (Gr.bl _)) (R.kept (Gr.bl _))))))
            refine wpQuiet_nil ?_
            rintro w4 ⟨x4, rfl⟩
            have B4 := x4.bl
            generalize x4.w = w4 at B4 ⊢
            clear x4 X2 Y2 p0 p1 p2 p3 p4 q0 q1 q2 q3 q4 hNE C D P R x2 y2
            have B5 := Below.next B1 B4
            cases hf : (sps j).same (tps j)
            · go_wp2
              go_ret
              exact ⟨ret_bool (by rw [Bool.true_and]; exact (decide_eq_false (fun hh => by rw [hh j hlt] at hf; cases hf)).symm), B5⟩
            · go_wp2
              go_roundw
              case rel => exact ⟨j + 1, by omega, by go_num, fun i hi => (by
                  by_cases e : i = j
                  · subst e; exact hf
                  · exact HD.out i (by omega)), X1.kept B4, Y1.kept B4, hs3.kept B4, ht3.kept B4, B5⟩
              case measure => simp [intOf]; omega
          · have e : slen = j := by omega
            subst e
            have dl : ¬ (slen : Int) < slen := by omega
            go_wp2
            go_ret
            exact ⟨ret_bool (decide_eq_true HD.out).symm, B1⟩
      · have hE : HE = false := by rw [hE]; simp; omega
        subst hE
        have h5 : ((slen : Int) != tlen) = true := by simp; omega
        clear hE
        go_enter Tryz.func16, Tryz.ntmps16
        go_wp2
        go_ret
        exact ⟨rfl, B0⟩
end Go.Proofs.YtmkncmmegjfipaaGreatDoor
