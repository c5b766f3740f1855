/- Layer 2: the small functions, and the counts of nodes. -/
import Derived.Test.YtcoeefckldkbeaaGreatDoorP7
import Derived.Deep.Quiet
import Derived.OrdersHeld
import Derived.StillTail
namespace Go.Proofs.YtcoeefckldkbeaaGreatDoor
open Go.RowKit

set_option maxHeartbeats 1000000 in
theorem arity_any (k : Int) (w : World) : Calls Tryz.prog 122 #[.int .i64 k] w fun e w' => e = .returned (.int .i64 (arityI k)) ∧ Below w.heap.size w w' := by
  unfold arityI
  by_cases h1 : k = 1
  · subst h1
    go_enter Tryz.func122, Tryz.ntmps122
    go_wp2
    go_ret
    exact ⟨rfl, Below.refl _ _⟩
  by_cases h2 : k = 2
  · subst h2
    go_enter Tryz.func122, Tryz.ntmps122
    go_wp2
    go_ret
    exact ⟨rfl, Below.refl _ _⟩
  by_cases h5 : k = 5
  · subst h5
    go_enter Tryz.func122, Tryz.ntmps122
    go_wp2
    go_ret
    exact ⟨rfl, Below.refl _ _⟩
  by_cases h3 : k = 3
  · subst h3
    go_enter Tryz.func122, Tryz.ntmps122
    go_wp2
    go_ret
    exact ⟨rfl, Below.refl _ _⟩
  by_cases h4 : k = 4
  · subst h4
    go_enter Tryz.func122, Tryz.ntmps122
    go_wp2
    go_ret
    exact ⟨rfl, Below.refl _ _⟩
  rw [if_neg h1, if_neg h2, if_neg h5, if_neg h3, if_neg h4]
  have b1 : (k == 1) = false := beq_eq_false_iff_ne.2 h1
  have b2 : (k == 2) = false := beq_eq_false_iff_ne.2 h2
  have b3 : (k == 3) = false := beq_eq_false_iff_ne.2 h3
  have b4 : (k == 4) = false := beq_eq_false_iff_ne.2 h4
  have b5 : (k == 5) = false := beq_eq_false_iff_ne.2 h5
  clear h1 h2 h3 h4 h5
  go_enter Tryz.func122, Tryz.ntmps122
  go_wp2
  go_ret
  exact ⟨rfl, Below.refl _ _⟩

set_option maxHeartbeats 1000000 in
theorem isLabel_any (n : Strs) (g : Grid) (a : Int) (w : World) (hn : n.At w) : Calls Tryz.prog 123 #[.agg #[.slice n.ao n.len n.cap, .slice g.ao g.len g.cap], .int .i64 a] w fun e w' => e = .returned (.bool (inR n.len a)) ∧ Below w.heap.size w w' := by
  have hnb := hn.bound
  unfold inR
  cases h0 : decide (0 ≤ a)
  · go_enter Tryz.func123, Tryz.ntmps123
    go_wp2
    go_ret
    exact ⟨rfl, below_alloc _ _⟩
  · go_enter Tryz.func123, Tryz.ntmps123
    go_wp2
    go_ret
    exact ⟨rfl, below_alloc _ _⟩

set_option maxHeartbeats 2000000 in
theorem boundsFormed_any (n : Strs) (g : Grid) (t : Ty) (w : World) (hn : n.At w) : Calls Tryz.prog 124 #[.agg #[.slice n.ao n.len n.cap, .slice g.ao g.len g.cap], .agg #[.int .i64 t.k, .int .i64 t.l, .slice t.ao t.len t.cap, .int .i64 t.h, .int .i64 t.e]] w fun e w' => e = .returned (.bool (bndI n.len t.k t.h t.e)) ∧ Below w.heap.size w w' := by
  obtain ⟨L0, X0, B0⟩ := start_lt w n g t
  have hn2 := hn.kept B0
  unfold latO tyO at *
  have HE : Hid (bndI n.len t.k t.h t.e = if t.k = 4 then inR n.len t.h && ((t.e == -1) || inR n.len t.e) else (t.h == 0) && (t.e == 0)) := rfl
  by_cases h4 : t.k = 4
  · have b4 : (t.k != 4) = false := by simp [h4]
    have HE2 : Hid (bndI n.len t.k t.h t.e = (inR n.len t.h && ((t.e == -1) || inR n.len t.e))) := by show bndI n.len t.k t.h t.e = _; rw [HE.out, if_pos h4]
    clear h4 HE
    go_enter Tryz.func124, Tryz.ntmps124
    go_wp2_with fail
    refine (isLabel_any n g t.h _ hn2).mono ?_
    rintro e w1 ⟨rfl, hb1⟩
    have L1 := L0.kept hb1
    have X1 := X0.kept hb1
    have B1 := Below.next B0 hb1
    have hn3 := hn2.kept hb1
    have c0 := L1.c0
    have c1 := L1.c1
    have x4 := X1.c4
    clear L0 X0 hb1 hn2 B0
    cases h1 : inR n.len t.h
    · go_wp2
      go_ret
      exact ⟨by rw [HE2.out, h1]; rfl, B1⟩
    · cases h2 : (t.e == -1)
      · go_wp2_with fail
        refine (isLabel_any n g t.e _ hn3).mono ?_
        rintro e w2 ⟨rfl, hb2⟩
        go_wp2
        go_ret
        exact ⟨by rw [HE2.out, h1, h2]; rfl, Below.next B1 hb2⟩
      · go_wp2
        go_ret
        exact ⟨by rw [HE2.out, h1, h2]; rfl, B1⟩
  · have b4 : (t.k != 4) = true := by simp [h4]
    have HE2 : Hid (bndI n.len t.k t.h t.e = ((t.h == 0) && (t.e == 0))) := by show bndI n.len t.k t.h t.e = _; rw [HE.out, if_neg h4]
    clear h4 HE
    cases h1 : (t.h == 0)
    · go_enter Tryz.func124, Tryz.ntmps124
      go_wp2
      go_ret
      exact ⟨by rw [HE2.out, h1]; rfl, B0⟩
    · go_enter Tryz.func124, Tryz.ntmps124
      go_wp2
      go_ret
      exact ⟨by rw [HE2.out, h1]; rfl, B0⟩


set_option maxHeartbeats 2000000 in
theorem rNodes_any : ∀ (t : Ty) (w : World), t.At w → Calls Tryz.prog 29 #[.agg #[.int .i64 t.k, .int .i64 t.l, .slice t.ao t.len t.cap, .int .i64 t.h, .int .i64 t.e]] w fun e w' => e = .returned (.int .i64 (min t.nodes 41 : Nat)) ∧ Below w.heap.size w w' := by
  intro t
  induction t with
  | dm => intro w hAt; exact hAt.elim
  | mk k l h e ao b o len cap ps ih =>
    intro w hAt
    show Calls Tryz.prog 29 #[.agg #[.int .i64 k, .int .i64 l, .slice ao len cap, .int .i64 h, .int .i64 e]] w fun r w' => r = .returned (.int .i64 (min (1 + sumTo (fun i => (ps i).nodes) len) 41 : Nat)) ∧ Below w.heap.size w w'
    have X0 := Bx.new w (.mk k l h e ao b o len cap ps)
    have hb : len ≤ 9223372036854775807 := hAt.bound
    have hnil : 0 < len → ao = some ⟨b, o, none⟩ := hAt.nil
    have hA1 := hAt.kept (below_alloc w (.cells #[.int .i64 k, .int .i64 l, .slice ao len cap, .int .i64 h, .int .i64 e] 24))
    have B0 := below_alloc w (.cells #[.int .i64 k, .int .i64 l, .slice ao len cap, .int .i64 h, .int .i64 e] 24)
    have HS : Hid (Bx (w.alloc (.cells #[.int .i64 k, .int .i64 l, .slice ao len cap, .int .i64 h, .int .i64 e] 24)) w.heap.size (.mk k l h e ao b o len cap ps) ∧ Ty.At (w.alloc (.cells #[.int .i64 k, .int .i64 l, .slice ao len cap, .int .i64 h, .int .i64 e] 24)) (.mk k l h e ao b o len cap ps) ∧ Below w.heap.size w (w.alloc (.cells #[.int .i64 k, .int .i64 l, .slice ao len cap, .int .i64 h, .int .i64 e] 24))) := ⟨X0, hA1, B0⟩
    clear X0 hA1 B0 hAt
    go_enter Tryz.func29, Tryz.ntmps29
    go_wp2
    go_loopw [3, 4] (fun m i wr => ∃ (q j : Nat), j ≤ len ∧ m = .int .i64 q ∧ i = .int .i64 j ∧ q ≤ 81 ∧ min q 41 = min (1 + sumTo (fun i => (ps i).nodes) j) 41 ∧ Bx wr w.heap.size (.mk k l h e ao b o len cap ps) ∧ Ty.At wr (.mk k l h e ao b o len cap ps) ∧ Below w.heap.size w wr) (fun _ i _ => len - (intOf i).toNat)
    case atStart => exact ⟨1, 0, Nat.zero_le _, rfl, rfl, by omega, rfl, HS.out⟩
    case round =>
      obtain ⟨q, j, hj, rfl, rfl, hq, hm, hX, hA, hB⟩ := hrel
      clear HS
      have x2 : wr.cell? ⟨w.heap.size, 2, none⟩ = some (.slice ao len cap) := hX.c2
      have HS : Hid (Bx wr w.heap.size (.mk k l h e ao b o len cap ps) ∧ Ty.At wr (.mk k l h e ao b o len cap ps) ∧ Below w.heap.size w wr) := ⟨hX, hA, hB⟩
      have HQ : Hid (min q 41 = min (1 + sumTo (fun i => (ps i).nodes) j) 41) := hm
      clear hX hm hB
      by_cases hlt : j < len
      · have ij : (j : Int) < len := by omega
        by_cases h40 : q ≤ 40
        · have d40 : decide ((q : Int) ≤ 40) = true := by simp; omega
          have a0 := hnil (by omega)
          subst a0
          have C : C5 wr b (o + j * 5) (ps j) := hA.cells hlt
          have P : (ps j).At wr := hA.part hlt
          have y0 := C.c0
          have y1 := C.c1
          have y2 := C.c2
          have y3 := C.c3
          have y4 := C.c4
          clear hA C
          go_wp2_with fail
          refine (ih j _ P).mono ?_
          rintro r w1 ⟨rfl, hb1⟩
          clear y0 y1 y2 y3 y4 x2
          go_wp2
          go_roundw
          case rel => exact ⟨q + min (ps j).nodes 41, j + 1, by omega, by rw [Int.natCast_add], by go_num, by omega, by have := HQ.out; simp only [sumTo]; omega, HS.out.1.kept hb1, HS.out.2.1.kept hb1, HS.out.2.2.trans (hb1.mono HS.out.2.2.size)⟩
          case measure => simp [intOf]; omega
        · have d40 : decide ((q : Int) ≤ 40) = false := by simp; omega
          have HE : Hid (min (1 + sumTo (fun i => (ps i).nodes) len) 41 = 41) := by
            show min (1 + sumTo (fun i => (ps i).nodes) len) 41 = 41
            have := HQ.out
            have h2 := sumTo_mono (fun i => (ps i).nodes) hj
            omega
          have HF : Hid (min q 41 = 41) := by show min q 41 = 41; omega
          go_wp2
          all_goals go_ret
          all_goals exact ⟨ret_int (by have h1 := HF.out; have h2 := HE.out; omega), HS.out.2.2⟩
      · have e : len = j := by omega
        subst e
        have d : ¬ (len : Int) < len := by omega
        go_wp2
        all_goals go_ret
        all_goals exact ⟨ret_int (by have h1 := HQ.out; omega), HS.out.2.2⟩

set_option maxHeartbeats 1000000 in
theorem partsOf_any (t : Ty) (w : World) :
    Calls Tryz.prog 21 #[.agg #[.int .i64 t.k, .int .i64 t.l, .slice t.ao t.len t.cap, .int .i64 t.h, .int .i64 t.e]] w fun e w' => e = .returned (.slice t.ao t.len t.cap) ∧ Below w.heap.size w w' := by
  have X0 := Bx.new w t
  have B0 := below_alloc w (.cells #[.int .i64 t.k, .int .i64 t.l, .slice t.ao t.len t.cap, .int .i64 t.h, .int .i64 t.e] 24)
  have x2 := X0.c2
  clear X0
  go_enter Tryz.func21, Tryz.ntmps21
  go_wp2
  go_ret
  exact ⟨rfl, B0⟩

set_option maxRecDepth 100000 in
set_option maxHeartbeats 2000000 in
theorem count_any : ∀ (t : Ty) (a : Nat) (w : World), a ≤ 40 → t.At w → Calls Tryz.prog 128 #[.agg #[.int .i64 t.k, .int .i64 t.l, .slice t.ao t.len t.cap, .int .i64 t.h, .int .i64 t.e], .func (.func 21) #[] #[], .int .i64 40, .int .i64 a] w fun e w' => e = .returned (.int .i64 (min (a + t.nodes) 41 : Nat)) ∧ Below w.heap.size w w' := by
  intro t
  induction t with
  | dm => intro a w _ hAt; exact hAt.elim
  | mk k l h e ao b o len cap ps ih =>
    intro a w ha hAt
    show Calls Tryz.prog 128 #[.agg #[.int .i64 k, .int .i64 l, .slice ao len cap, .int .i64 h, .int .i64 e], .func (.func 21) #[] #[], .int .i64 40, .int .i64 a] w fun r w' => r = .returned (.int .i64 (min (a + (1 + sumTo (fun i => (ps i).nodes) len)) 41 : Nat)) ∧ Below w.heap.size w w'
    have B0 := below_alloc w (.cells #[.int .i64 k, .int .i64 l, .slice ao len cap, .int .i64 h, .int .i64 e] 24)
    have hb : len ≤ 9223372036854775807 := hAt.bound
    have hnil : 0 < len → ao = some ⟨b, o, none⟩ := hAt.nil
    have HS : Hid (Ty.At (w.alloc (.cells #[.int .i64 k, .int .i64 l, .slice ao len cap, .int .i64 h, .int .i64 e] 24)) (.mk k l h e ao b o len cap ps) ∧ Below w.heap.size w (w.alloc (.cells #[.int .i64 k, .int .i64 l, .slice ao len cap, .int .i64 h, .int .i64 e] 24))) := ⟨hAt.kept B0, B0⟩
    have hP : Calls Tryz.prog 21 #[.agg #[.int .i64 k, .int .i64 l, .slice ao len cap, .int .i64 h, .int .i64 e]] (w.alloc (.cells #[.int .i64 k, .int .i64 l, .slice ao len cap, .int .i64 h, .int .i64 e] 24)) fun r w' => r = .returned (.slice ao len cap) ∧ Below (w.alloc (.cells #[.int .i64 k, .int .i64 l, .slice ao len cap, .int .i64 h, .int .i64 e] 24)).heap.size (w.alloc (.cells #[.int .i64 k, .int .i64 l, .slice ao len cap, .int .i64 h, .int .i64 e] 24)) w' := partsOf_any (.mk k l h e ao b o len cap ps) _
    clear B0 hAt
    go_enter Tryz.func128, Tryz.ntmps128
    go_wp2_with fail
    refine hP.mono ?_
    rintro _ w5 ⟨rfl, hb5⟩
    have HS : Hid (Ty.At w5 (.mk k l h e ao b o len cap ps) ∧ Below w.heap.size w w5) := ⟨HS.out.1.kept hb5, Below.next HS.out.2 hb5⟩
    clear hb5 hP
    go_wp2
    go_loopw [9, 18] (fun m i wr => ∃ (q j : Nat), j ≤ len ∧ m = .int .i64 q ∧ i = .int .i64 j ∧ q = min (a + (1 + sumTo (fun i => (ps i).nodes) j)) 41 ∧ Ty.At wr (.mk k l h e ao b o len cap ps) ∧ Below w.heap.size w wr) (fun _ i _ => len - (intOf i).toNat)
    case atStart => exact ⟨a + 1, 0, Nat.zero_le _, by rw [Int.natCast_add]; rfl, rfl, by simp only [sumTo]; omega, HS.out⟩
    case round =>
      obtain ⟨q, j, hj, rfl, rfl, hm, hA, hB⟩ := hrel
      clear HS
      have HQ : Hid (q = min (a + (1 + sumTo (fun i => (ps i).nodes) j)) 41) := hm
      clear hm
      by_cases hlt : j < len
      · have ij : (j : Int) < len := by omega
        have a0 := hnil (by omega)
        subst a0
        have C : C5 wr b (o + j * 5) (ps j) := hA.cells hlt
        have P : (ps j).At wr := hA.part hlt
        have X0 := Bx.new wr (ps j)
        have B0 := below_alloc wr (.cells #[.int .i64 (ps j).k, .int .i64 (ps j).l, .slice (ps j).ao (ps j).len (ps j).cap, .int .i64 (ps j).h, .int .i64 (ps j).e] 24)
        have HS : Hid (Ty.At wr (.mk k l h e (some ⟨b, o, none⟩) b o len cap ps) ∧ Below w.heap.size w wr) := ⟨hA, hB⟩
        have y0 := C.c0
        have y1 := C.c1
        have y2 := C.c2
        have y3 := C.c3
        have y4 := C.c4
        clear hA C hB
        by_cases h40 : 40 < q
        · have d40 : decide ((40 : Int) < q) = true := by simp; omega
          have HE : Hid (min (a + (1 + sumTo (fun i => (ps i).nodes) len)) 41 = q) := by
            show min (a + (1 + sumTo (fun i => (ps i).nodes) len)) 41 = q
            have := HQ.out
            have h2 := sumTo_mono (fun i => (ps i).nodes) hj
            omega
          go_wp2
          all_goals go_ret
          all_goals exact ⟨ret_int (by have h2 := HE.out; omega), Below.next HS.out.2 B0⟩
        · have d40 : decide ((40 : Int) < q) = false := by simp; omega
          go_wp2_with fail
          refine (ih j q _ (by omega) (P.kept B0)).mono ?_
          rintro r w1 ⟨rfl, hb1⟩
          have B1 := Below.next B0 hb1
          go_wp2
          go_roundw
          case rel => exact ⟨min (q + (ps j).nodes) 41, j + 1, by omega, rfl, by go_num, by have := HQ.out; simp only [sumTo]; omega, HS.out.1.kept B1, Below.next HS.out.2 B1⟩
          case measure => simp [intOf]; omega
      · have e : len = j := by omega
        subst e
        have d : ¬ (len : Int) < len := by omega
        go_wp2
        go_ret
        exact ⟨ret_int (by have h1 := HQ.out; omega), hB⟩

set_option maxHeartbeats 1000000 in
theorem Count_any (t : Ty) (w : World) (ht : t.At w) : Calls Tryz.prog 125 #[.agg #[.int .i64 t.k, .int .i64 t.l, .slice t.ao t.len t.cap, .int .i64 t.h, .int .i64 t.e], .func (.func 21) #[] #[], .int .i64 40] w fun e w' => e = .returned (.int .i64 (min t.nodes 41 : Nat)) ∧ Below w.heap.size w w' := by
  have B0 := below_alloc w (.cells #[.int .i64 t.k, .int .i64 t.l, .slice t.ao t.len t.cap, .int .i64 t.h, .int .i64 t.e] 24)
  have h := count_any t 0 _ (by omega) (ht.kept B0)
  rw [Nat.zero_add] at h
  go_enter Tryz.func125, Tryz.ntmps125
  go_wp2_with fail
  refine h.mono ?_
  rintro r w1 ⟨rfl, hb1⟩
  go_wp2
  go_ret
  exact ⟨rfl, Below.next B0 hb1⟩

set_option maxHeartbeats 1000000 in
theorem Nodes_any (t : Ty) (w : World) (ht : t.At w) : Calls Tryz.prog 116 #[.agg #[.int .i64 t.k, .int .i64 t.l, .slice t.ao t.len t.cap, .int .i64 t.h, .int .i64 t.e]] w fun e w' => e = .returned (.int .i64 (min t.nodes 41 : Nat)) ∧ Below w.heap.size w w' := by
  have B0 := below_alloc w (.cells #[.int .i64 t.k, .int .i64 t.l, .slice t.ao t.len t.cap, .int .i64 t.h, .int .i64 t.e] 24)
  have h := Count_any t _ (ht.kept B0)
  go_enter Tryz.func116, Tryz.ntmps116
  go_wp2_with fail
  refine h.mono ?_
  rintro r w1 ⟨rfl, hb1⟩
  go_wp2
  go_ret
  exact ⟨rfl, Below.next B0 hb1⟩

set_option maxHeartbeats 1000000 in
theorem rSmall2_any (t : Ty) (w : World) (ht : t.At w) : Calls Tryz.prog 18 #[.agg #[.int .i64 t.k, .int .i64 t.l, .slice t.ao t.len t.cap, .int .i64 t.h, .int .i64 t.e]] w fun e w' => e = .returned (.bool (decide (t.nodes ≤ 40))) ∧ Below w.heap.size w w' := by
  have B0 := below_alloc w (.cells #[.int .i64 t.k, .int .i64 t.l, .slice t.ao t.len t.cap, .int .i64 t.h, .int .i64 t.e] 24)
  have HE : Hid (decide ((min t.nodes 41 : Nat) ≤ (40 : Int)) = decide (t.nodes ≤ 40)) := by
    show decide (((min t.nodes 41 : Nat) : Int) ≤ 40) = decide (t.nodes ≤ 40)
    exact decide_eq_decide.2 (by omega)
  go_enter Tryz.func18, Tryz.ntmps18
  go_wp2_with fail
  refine (rNodes_any t _ (ht.kept B0)).mono ?_
  rintro r w1 ⟨rfl, hb1⟩
  generalize min t.nodes 41 = q at HE
  go_wp2
  go_ret
  exact ⟨ret_bool HE.out, Below.next B0 hb1⟩
end Go.Proofs.YtcoeefckldkbeaaGreatDoor

/- A region that draws its order, whose first operations are quiet in a class of worlds, and whose others all wait for them: the first ones are walked once, then the rest is walked from every world of the class. -/
namespace Go.Proofs.YtcoeefckldkbeaaGreatDoor
open Go

section
variable {P : Program} {ops : Array Oper} {md : Region.Mode} {C : World → Prop} {m : Nat} {R : Array Bool → Act → Prop}

/-- Whatever order is picked for the first m. -/
def wpAnyP (P : Program) (md : Region.Mode) (ops : Array Oper) (C : World → Prop) (m : Nat) (R : Array Bool → Act → Prop) : Nat → Array Bool → Act → Prop
  | 0, listed, a => (∀ i ∈ Region.ready md ops listed, ¬ i < m) ∧ R listed a
  | fuel + 1, listed, a => ((∀ i ∈ Region.ready md ops listed, ¬ i < m) → R listed a) ∧
    ∀ i ∈ Region.ready md ops listed, i < m → qOp P ops C i (wpAnyP P md ops C m R fuel (listed.setIfInBounds i true)) a

theorem wpAnyP_first {i : Nat} {oi : Oper} {v : Value} (hi : ops[i]? = some oi) (him : i < m) (hsel : ∀ (j : Nat) (o : Oper) cs b, ops[j]? = some o → o.op ≠ .select cs b) :
    ∀ (fuel : Nat) (listed : Array Bool) (a : Act),
      (∀ j oj, ops[j]? = some oj → j ≠ i → listed.getD j true = false → (∀ e ∈ oj.after, Region.binds md e = true → e.on ≠ i) → oi.apart ops oj = true) →
      i ∈ Region.ready md ops listed → YieldsIn P ops C oi v a →
      wpAnyP P md ops C m R fuel (listed.setIfInBounds i true) (a.put oi.dst v) → wpAnyP P md ops C m R (fuel + 1) listed a := by
  intro fuel
  induction fuel with
  | zero =>
    intro listed a _ hr hy H
    refine ⟨fun h => absurd him (h i hr), fun j hj hjm => ?_⟩
    by_cases hji : j = i
    · subst hji; exact hy.qOp hi H
    · exact absurd hjm (H.1 j (ready_mono hj hji))
  | succ fuel ih =>
    intro listed a hfree hr hy H
    refine ⟨fun h => absurd him (h i hr), fun j hj hjm => ?_⟩
    by_cases hji : j = i
    · subst hji; exact hy.qOp hi H
    · have h1 := H.2 j (ready_mono hj hji) hjm
      obtain ⟨hjun, oj, hoj, hall⟩ := mem_ready.1 hj
      have hnot : ∀ e ∈ oj.after, Region.binds md e = true → e.on ≠ i := fun e he hb heq => by
        have h1 := hall e he hb
        have h0 := (mem_ready.1 hr).1
        rw [heq] at h1
        rcases Nat.lt_or_ge i listed.size with h' | h'
        · simp [h'] at h0 h1; rw [h0] at h1; cases h1
        · simp [Array.getElem?_eq_none h'] at h1
      have h2 := qOp_put hoj (hfree j oj hoj hji hjun hnot) (fun cs b => hsel i oi cs b hi) (fun cs b => hsel j oj cs b hoj) hy h1
      have hfree' : ∀ k ok, ops[k]? = some ok → k ≠ i → (listed.setIfInBounds j true).getD k true = false →
          (∀ e ∈ ok.after, Region.binds md e = true → e.on ≠ i) → oi.apart ops ok = true := fun k ok hk hki hun hno => by
        refine hfree k ok hk hki ?_ hno
        by_cases hjk : j = k
        · subst hjk; exact hjun
        · rw [getD_set_ne true hjk] at hun; exact hun
      refine qOp_mono (fun a' h3 => ih (listed.setIfInBounds j true) a' hfree' (ready_mono hr (Ne.symm hji)) h3.1 ?_) h2
      rw [Array.setIfInBounds_comm _ _ hji]
      exact h3.2

def lexTo (md : Region.Mode) (ops : Array Oper) (m : Nat) : Nat → Nat → Array Bool → Bool
  | 0, _, listed => (Region.ready md ops listed).all fun i => decide (m ≤ i)
  | fuel + 1, k, listed => (Region.ready md ops listed).contains k && decide (k < m) && Region.free md ops listed k && lexTo md ops m fuel (k + 1) (listed.setIfInBounds k true)
def listedTo : Nat → Nat → Array Bool → Array Bool
  | 0, _, l => l
  | fuel + 1, k, l => listedTo fuel (k + 1) (l.setIfInBounds k true)

theorem wpAnyP_lex (hs : Region.noSelect ops = true) : ∀ (l : List Oper) (k : Nat) (listed : Array Bool) (a : Act), (∀ j, j < l.length → l[j]? = ops[k + j]?) →
    lexTo md ops m l.length k listed = true → wpQuiet P ops C (R (listedTo l.length k listed)) l a → wpAnyP P md ops C m R l.length listed a
  | [], _, _, _, _, hB, h => ⟨fun i hi hm => by simp only [List.length_nil, lexTo, List.all_eq_true, decide_eq_true_eq] at hB; have := hB i hi; omega, h⟩
  | o :: l, k, listed, a, hl, hB, h => by
    have h0 : ops[k]? = some o := by simpa using (hl 0 (by simp)).symm
    simp only [List.length_cons, lexTo, Bool.and_eq_true, decide_eq_true_eq] at hB
    obtain ⟨⟨⟨hr, hk⟩, hf⟩, hB'⟩ := hB
    have hst : qOp P ops C k (wpQuiet P ops C (R (listedTo (o :: l).length k listed)) l) a := by unfold qOp; simp only [h0]; exact h
    obtain ⟨v, hy, hK⟩ := yieldsIn_of_qOp h0 hst
    exact wpAnyP_first h0 hk (Region.noSelect_spec hs) l.length listed a (Region.free_spec h0 hf) (by simpa using hr) hy
      (wpAnyP_lex hs l (k + 1) _ _ (fun j hj => by have := hl (j + 1) (by simp; omega); simpa [Nat.add_assoc, Nat.add_comm 1 j] using this) hB' hK)

/-- What is listed has all that it waits for listed. -/
def Shut (md : Region.Mode) (ops : Array Oper) (listed : Array Bool) : Prop := ∀ (k : Nat) (o : Oper), listed.getD k false = true → ops[k]? = some o → ∀ e ∈ o.after, Region.binds md e = true → listed.getD e.on false = true

theorem Shut.put {listed : Array Bool} {i : Nat} (h : Shut md ops listed) (hi : i ∈ Region.ready md ops listed) : Shut md ops (listed.setIfInBounds i true) := by
  intro k o hk ho e he hb
  by_cases hki : i = k
  · subst hki
    obtain ⟨_, o', ho', hall⟩ := mem_ready.1 hi
    rw [ho] at ho'
    cases ho'
    exact getD_set_true (hall e he hb)
  · rw [getD_set_ne false hki] at hk
    exact getD_set_true (h k o hk ho e he hb)

/-- Each of the first m but the last is waited for by a later one of them; each of the others waits for the last of them, or for another of the others ahead of it. -/
def gateB (md : Region.Mode) (ops : Array Oper) (m : Nat) : Bool :=
  ((List.range (m - 1)).all fun k => (List.range m).any fun p => decide (k < p) && match ops[p]? with
    | some o => o.after.any fun e => Region.binds md e && e.on == k
    | none => false) &&
  ((List.range ops.size).all fun j => decide (j < m) || match ops[j]? with
    | some o => o.after.any fun e => Region.binds md e && decide (m - 1 ≤ e.on) && decide (e.on < j)
    | none => false)

theorem gate_up (hg : gateB md ops m = true) {listed : Array Bool} (hS : Shut md ops listed) (h : listed.getD (m - 1) false = true) : ∀ d k, k + d + 1 = m → listed.getD k false = true := by
  simp only [gateB, Bool.and_eq_true, List.all_eq_true, List.mem_range, List.any_eq_true] at hg
  intro d
  induction d using Nat.strongRecOn with
  | ind d ih =>
    intro k hk
    by_cases h0 : d = 0
    · subst h0
      have : k = m - 1 := by omega
      rw [this]; exact h
    · obtain ⟨p, hp, hkp, hm⟩ := hg.1 k (by omega)
      simp only [decide_eq_true_eq] at hkp
      have hpl : listed.getD p false = true := ih (m - 1 - p) (by omega) p (by omega)
      split at hm
      · rename_i o ho
        obtain ⟨e, he, hb⟩ := Array.any_eq_true'.1 hm
        simp only [Bool.and_eq_true, beq_iff_eq] at hb
        have := hS p o hpl ho e he hb.1
        rwa [hb.2] at this
      · cases hm

theorem gate_at (hg : gateB md ops m = true) {listed : Array Bool} (hS : Shut md ops listed) : ∀ (j : Nat) (o : Oper), m ≤ j → ops[j]? = some o → (∀ e ∈ o.after, Region.binds md e = true → listed.getD e.on false = true) → listed.getD (m - 1) false = true := by
  have hg2 := hg
  simp only [gateB, Bool.and_eq_true, List.all_eq_true, List.mem_range] at hg2
  intro j
  induction j using Nat.strongRecOn with
  | ind j ih =>
    intro o hj ho hall
    have h1 := hg2.2 j (Array.getElem?_eq_some_iff.1 ho).1
    simp only [ho, Bool.or_eq_true, decide_eq_true_eq] at h1
    rcases h1 with h1 | h1
    · omega
    · obtain ⟨e, he, hb⟩ := Array.any_eq_true'.1 h1
      simp only [Bool.and_eq_true, decide_eq_true_eq] at hb
      obtain ⟨⟨hb1, hb2⟩, hb3⟩ := hb
      have hl := hall e he hb1
      by_cases hq : e.on = m - 1
      · rw [← hq]; exact hl
      · cases hx : ops[e.on]? with
        | none =>
          have : ops.size ≤ e.on := by
            rcases Nat.lt_or_ge e.on ops.size with h' | h'
            · rw [Array.getElem?_eq_getElem h'] at hx; cases hx
            · exact h'
          have := (Array.getElem?_eq_some_iff.1 ho).1
          omega
        | some o' => exact ih e.on hb3 o' (by omega) hx (fun e' he' hb' => hS e.on o' hl hx e' he' hb')

theorem gate (hg : gateB md ops m = true) {listed : Array Bool} (hS : Shut md ops listed) {j : Nat} (hj : j ∈ Region.ready md ops listed) (hm : ¬ j < m) : ∀ i ∈ Region.ready md ops listed, ¬ i < m := by
  intro i hi him
  obtain ⟨_, o, ho, hall⟩ := mem_ready.1 hj
  have h1 := gate_at hg hS j o (by omega) ho hall
  have h2 := gate_up hg hS h1 (m - 1 - i) i (by omega)
  have h3 := (mem_ready.1 hi).1
  rcases Nat.lt_or_ge i listed.size with h' | h'
  · simp [h'] at h2 h3; rw [h2] at h3; cases h3
  · simp [Array.getElem?_eq_none h'] at h2

theorem wpAny_more {Q : Exit → Act → World → Prop} : ∀ (fuel : Nat) (listed : Array Bool) (a : Act) (w : World), wpAny P md ops Q fuel listed a w → wpAny P md ops Q (fuel + 1) listed a w
  | 0, _, _, _, h => wpAny_done h.1 h.2 _
  | fuel + 1, _, _, _, h => ⟨h.1, fun i hi => wpOp_mono (fun a' w' h' => wpAny_more fuel _ a' w' h') (h.2 i hi)⟩
theorem wpAny_plus {Q : Exit → Act → World → Prop} {rest : Nat} {listed : Array Bool} {a : Act} {w : World} (h : wpAny P md ops Q rest listed a w) : ∀ d, wpAny P md ops Q (d + rest) listed a w
  | 0 => by simpa using h
  | d + 1 => by have := wpAny_more _ _ _ _ (wpAny_plus h d); rwa [show d + 1 + rest = d + rest + 1 by omega]

theorem wpAny_normal {Q : Exit → Act → World → Prop} {rest : Nat} {listed : Array Bool} {a : Act} {w : World} (h : wpAny P md ops Q rest listed a w) (h0 : Region.ready md ops listed = []) : Q .normal a w := by
  cases rest with
  | zero => exact h.2
  | succ r => exact h.1 h0

theorem wpAny_of_prefix {Q : Exit → Act → World → Prop} {rest : Nat} (hg : gateB md ops m = true) : ∀ (fuel : Nat) (listed : Array Bool) (a : Act) (w : World), Shut md ops listed → C w →
    wpAnyP P md ops C m (fun listed a => ∀ w, C w → wpAny P md ops Q rest listed a w) fuel listed a → wpAny P md ops Q (fuel + rest) listed a w
  | 0, _, _, w, _, hw, h => by simpa using h.2 w hw
  | fuel + 1, listed, a, w, hS, hw, h => by
    rw [show fuel + 1 + rest = fuel + rest + 1 by omega]
    by_cases hx : ∃ j ∈ Region.ready md ops listed, ¬ j < m
    · obtain ⟨j, hj, hjm⟩ := hx
      have := wpAny_plus (h.1 (gate hg hS hj hjm) w hw) (fuel + 1)
      rwa [show fuel + 1 + rest = fuel + rest + 1 by omega] at this
    · have hall : ∀ j ∈ Region.ready md ops listed, j < m := fun j hj => Classical.byContradiction fun hc => hx ⟨j, hj, hc⟩
      refine ⟨fun h0 => ?_, fun i hi => ?_⟩
      · exact wpAny_normal (h.1 (by rw [h0]; intro i hi; cases hi) w hw) h0
      · exact wpOp_of_qOp hw (fun a' w' hw' h' => wpAny_of_prefix hg fuel _ a' w' (hS.put hi) hw' h') (h.2 i hi (hall i hi))

def prefixB (l1 l2 : List Oper) : Bool := Region.noSelect (l1 ++ l2).toArray && gateB .any (l1 ++ l2).toArray l1.length && lexTo .any (l1 ++ l2).toArray l1.length l1.length 0 (Array.replicate (l1.length + l2.length) false)

theorem wp_region_prefix {l1 l2 l : List Oper} {id : Nat} {Q : Exit → Act → World → Prop} {a : Act} {w : World} (hl : l = l1 ++ l2) (hm : P.follows .mixedOrders = true) (hB : prefixB l1 l2 = true) (hC : C { w with drawn := w.drawn + 1 })
    (h : wpQuiet P l.toArray C (fun a' => ∀ w', C w' → wpAny P .any l.toArray Q l2.length (listedTo l1.length 0 (Array.replicate (l1.length + l2.length) false)) a' w') l1 a) : (Code.region id l.toArray true).wp P Q a w := by
  subst hl
  simp only [prefixB, Bool.and_eq_true] at hB
  obtain ⟨⟨h1, h2⟩, h3⟩ := hB
  refine wp_region_any hm ?_
  have key := wpAnyP_lex (P := P) (C := C) (md := .any) (m := l1.length) (R := fun listed a => ∀ w, C w → wpAny P .any (l1 ++ l2).toArray Q l2.length listed a w) h1 l1 0 (Array.replicate (l1.length + l2.length) false) a
    (by intro j hj; simp [List.getElem?_append_left hj]) h3 h
  have := wpAny_of_prefix (Q := Q) (rest := l2.length) h2 l1.length (Array.replicate (l1.length + l2.length) false) a { w with drawn := w.drawn + 1 } (by intro k o hk; simp [Array.getElem?_replicate] at hk; split at hk <;> simp_all) hC key
  simpa using this
end
end Go.Proofs.YtcoeefckldkbeaaGreatDoor

/- A region that draws its order, whose head is quiet in a class of worlds and whose tail is one behind the other: the head is walked once, then the tail from every world of the class. -/
namespace Go.Proofs.YtcoeefckldkbeaaGreatDoor
open Go Go.RowKit

section
variable {P : Program} {ops : Array Oper} {md : Region.Mode} {C : World → Prop} {m : Nat}

theorem chain_down (hc : Region.chainB md ops m = true) {listed : Array Bool} (hS : Shut md ops listed) : ∀ t, m ≤ t → t < ops.size → listed.getD t false = true → listed.getD m false = true := by
  simp only [Region.chainB, List.all_eq_true, List.mem_range, Bool.or_eq_true, decide_eq_true_eq] at hc
  intro t
  induction t with
  | zero => intro h1 _ h3; have : m = 0 := by omega
            subst this; exact h3
  | succ t ih =>
    intro h1 h2 h3
    by_cases e : m = t + 1
    · rw [e]; exact h3
    rcases hc (t + 1) h2 with h | h
    · omega
    · obtain ⟨oj, hj, e, he, hb, hon⟩ := Region.waitsFor_spec h
      have := hS (t + 1) oj h3 hj e he hb
      rw [hon] at this
      exact ih (by omega) (by omega) this

theorem sink_all (hs : Region.sinkB md ops m = true) {listed : Array Bool} (hS : Shut md ops listed) {om : Oper} (hom : ops[m]? = some om) (hall : ∀ e ∈ om.after, Region.binds md e = true → listed.getD e.on false = true) : ∀ d i, i + d + 1 = m → listed.getD i false = true := by
  simp only [Region.sinkB, List.all_eq_true, List.mem_range, List.any_eq_true, Bool.and_eq_true, decide_eq_true_eq] at hs
  intro d
  induction d using Nat.strongRecOn with
  | ind d ih =>
    intro i hi
    obtain ⟨j, hj, hij, hw⟩ := hs i (by omega)
    obtain ⟨oj, hoj, e, he, hb, hon⟩ := Region.waitsFor_spec hw
    by_cases hjm : j = m
    · subst hjm
      rw [hom] at hoj
      cases hoj
      have := hall e he hb
      rwa [hon] at this
    · have hl := ih (m - 1 - j) (by omega) j (by omega)
      have := hS j oj hl hoj e he hb
      rwa [hon] at this

theorem gate2 (hs : Region.sinkB md ops m = true) (hc : Region.chainB md ops m = true) (listed : Array Bool) (j : Nat) (hS : Shut md ops listed) (hj : j ∈ Region.ready md ops listed) (hm : ¬ j < m) : ∀ i ∈ Region.ready md ops listed, ¬ i < m := by
  intro i hi him
  obtain ⟨_, oj, hoj, hall⟩ := mem_ready.1 hj
  have hlt := (Array.getElem?_eq_some_iff.1 hoj).1
  have hmlt : m < ops.size := by omega
  have hom : ops[m]? = some ops[m] := Array.getElem?_eq_getElem hmlt
  have key : ∀ e ∈ ops[m].after, Region.binds md e = true → listed.getD e.on false = true := by
    by_cases e : j = m
    · subst e
      rw [hom] at hoj
      cases hoj
      exact hall
    · have h1 : listed.getD m false = true := by
        have hc' := hc
        simp only [Region.chainB, List.all_eq_true, List.mem_range, Bool.or_eq_true, decide_eq_true_eq] at hc'
        rcases hc' j hlt with h | h
        · omega
        · obtain ⟨oj', hj', e', he', hb', hon'⟩ := Region.waitsFor_spec h
          rw [hoj] at hj'
          cases hj'
          have := hall e' he' hb'
          rw [hon'] at this
          exact chain_down hc hS (j - 1) (by omega) (by omega) this
      exact fun e he hb => hS m ops[m] h1 hom e he hb
  have h2 := sink_all hs hS hom key (m - 1 - i) i (by omega)
  have h3 := (mem_ready.1 hi).1
  rcases Nat.lt_or_ge i listed.size with h' | h'
  · simp [h'] at h2 h3; rw [h2] at h3; cases h3
  · simp [Array.getElem?_eq_none h'] at h2

theorem wpAny_of_prefix2 {R : Array Bool → Act → Prop} {Q : Exit → Act → World → Prop} {rest : Nat} (hg : ∀ (listed : Array Bool) (j : Nat), Shut md ops listed → j ∈ Region.ready md ops listed → ¬ j < m → ∀ i ∈ Region.ready md ops listed, ¬ i < m) : ∀ (fuel : Nat) (listed : Array Bool) (a : Act) (w : World), Shut md ops listed → C w →
    wpAnyP P md ops C m (fun listed a => ∀ w, C w → wpAny P md ops Q rest listed a w) fuel listed a → wpAny P md ops Q (fuel + rest) listed a w
  | 0, _, _, w, _, hw, h => by simpa using h.2 w hw
  | fuel + 1, listed, a, w, hS, hw, h => by
    rw [show fuel + 1 + rest = fuel + rest + 1 by omega]
    by_cases hx : ∃ j ∈ Region.ready md ops listed, ¬ j < m
    · obtain ⟨j, hj, hjm⟩ := hx
      have := wpAny_plus (h.1 (hg _ _ hS hj hjm) w hw) (fuel + 1)
      rwa [show fuel + 1 + rest = fuel + rest + 1 by omega] at this
    · have hall : ∀ j ∈ Region.ready md ops listed, j < m := fun j hj => Classical.byContradiction fun hc => hx ⟨j, hj, hc⟩
      refine ⟨fun h0 => ?_, fun i hi => ?_⟩
      · exact wpAny_normal (h.1 (by rw [h0]; intro i hi; cases hi) w hw) h0
      · exact wpOp_of_qOp hw (fun a' w' hw' h' => wpAny_of_prefix2 (R := R) hg fuel _ a' w' (hS.put hi) hw' h') (h.2 i hi (hall i hi))

def tailB (n : Nat) (l : List Oper) : Bool := decide (n ≤ l.length) && Region.noSelect l.toArray && Region.sinkB .any l.toArray n && Region.chainB .any l.toArray n && lexTo .any l.toArray n n 0 (Array.replicate l.length false) && Region.seqB .any l.toArray (l.length - n) n (listedTo n 0 (Array.replicate l.length false))

theorem wp_region_tail {l : List Oper} {id : Nat} {Q : Exit → Act → World → Prop} {a : Act} {w : World} (n : Nat) (hm : P.follows .mixedOrders = true) (hB : tailB n l = true) (hC : C { w with drawn := w.drawn + 1 })
    (h : wpQuiet P l.toArray C (fun a' => ∀ w', C w' → wpList P l.toArray Q (l.drop n) a' w') (l.take n) a) : (Code.region id l.toArray true).wp P Q a w := by
  simp only [tailB, Bool.and_eq_true, decide_eq_true_eq] at hB
  obtain ⟨⟨⟨⟨⟨hn, h1⟩, h2⟩, h3⟩, h4⟩, h5⟩ := hB
  have e1 : (l.take n).length = n := by simp; omega
  have e2 : (l.drop n).length = l.length - n := by simp
  refine wp_region_any hm ?_
  have key := wpAnyP_lex (P := P) (C := C) (md := .any) (ops := l.toArray) (m := n) (R := fun listed a => ∀ w, C w → wpAny P .any l.toArray Q (l.length - n) listed a w) h1 (l.take n) 0 (Array.replicate l.length false) a
    (by intro j hj; rw [e1] at hj; simp [hj]) (by rw [e1]; exact h4) (by
      rw [e1]
      have mono : ∀ (l' : List Oper) (a : Act) (Q1 Q2 : Act → Prop), (∀ a, Q1 a → Q2 a) → wpQuiet P l.toArray C Q1 l' a → wpQuiet P l.toArray C Q2 l' a := by
        intro l'
        induction l' with
        | nil => intro a Q1 Q2 h12 hq; exact h12 a hq
        | cons o l' ih =>
          intro a Q1 Q2 h12 hq
          unfold wpQuiet at hq ⊢
          split
          · rename_i hw; rw [if_pos hw] at hq; exact Oper.quiet_mono (fun a' h' => ih a' Q1 Q2 h12 h') hq
          · rename_i hw; rw [if_neg hw] at hq; exact ih _ Q1 Q2 h12 hq
      refine mono _ _ _ _ (fun a' ha' w' hw' => ?_) h
      have := wpAny_of_seq (P := P) (md := .any) (ops := l.toArray) (Q' := Q) (l.drop n) n (listedTo n 0 (Array.replicate l.length false)) a' w' (by intro j; simp) (by rw [e2]; exact h5) (ha' w' hw')
      rwa [e2] at this)
  have := wpAny_of_prefix2 (R := fun _ _ => True) (Q := Q) (rest := l.length - n) (gate2 h2 h3) n (Array.replicate l.length false) a { w with drawn := w.drawn + 1 } (by intro k o hk; simp [Array.getElem?_replicate] at hk; split at hk <;> simp_all) hC (by rw [e1] at key; exact key)
  have e3 : n + (l.length - n) = l.length := by omega
  rw [e3] at this
  simpa using this
end

theorem wp_region_gr_tail {P : Program} {id : Nat} {Q : Exit → Act → World → Prop} {a : Act} {w : World} {l : List Oper} (n : Nat) (hm : P.follows .mixedOrders = true) (hB : tailB n l = true)
    (h : wpQuiet P l.toArray (fun w' => ∃ x : Gr w, w' = x.w) (fun a' => ∀ w', (∃ x : Gr w, w' = x.w) → wpList P l.toArray Q (l.drop n) a' w') (l.take n) a) : (Code.region id l.toArray true).wp P Q a w :=
  wp_region_tail (C := fun w' => ∃ x : Gr w, w' = x.w) n hm hB ⟨⟨_, (Below.refl _ _).drew⟩, rfl⟩ h
end Go.Proofs.YtcoeefckldkbeaaGreatDoor
