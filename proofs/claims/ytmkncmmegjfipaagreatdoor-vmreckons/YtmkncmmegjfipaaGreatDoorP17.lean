/- Layer 3: the counts of nodes. -/
import Derived.Test.YtmkncmmegjfipaaGreatDoorP16
import Derived.Test.YtmkncmmegjfipaaGreatDoorP12
import Derived.Deep.AppendLies
namespace Go.Proofs.YtmkncmmegjfipaaGreatDoor
open Go.RowKit

set_option maxHeartbeats 2000000 in
theorem rvNodes_any : ∀ (t : Vl) (w : World), t.At w → Calls Tryz.prog 41 #[.agg #[.int .i64 t.k, .int .i64 t.m, .slice t.ao t.len t.cap]] w fun e w' => e = .returned (.int .i64 (min t.nodes 2001 : Nat)) ∧ Below w.heap.size w w' := by
  intro t
  induction t with
  | dm => intro w hAt; exact hAt.elim
  | mk k m ao b o len cap ps ih =>
    intro w hAt
    show Calls Tryz.prog 41 #[.agg #[.int .i64 k, .int .i64 m, .slice ao len cap]] w fun r w' => r = .returned (.int .i64 (min (1 + sumTo (fun i => (ps i).nodes) len) 2001 : Nat)) ∧ Below w.heap.size w w'
    have X0 := Bv.new w (.mk k m ao b o len cap ps)
    have hb : len ≤ 9223372036854775807 := hAt.bound
    have hnil : 0 < len → ao = some ⟨b, o, none⟩ := hAt.nil
    have hA1 := hAt.kept (below_alloc w (.cells #[.int .i64 k, .int .i64 m, .slice ao len cap] 31))
    have B0 := below_alloc w (.cells #[.int .i64 k, .int .i64 m, .slice ao len cap] 31)
    have HS : Hid (Bv (w.alloc (.cells #[.int .i64 k, .int .i64 m, .slice ao len cap] 31)) w.heap.size (.mk k m ao b o len cap ps) ∧ Vl.At (w.alloc (.cells #[.int .i64 k, .int .i64 m, .slice ao len cap] 31)) (.mk k m ao b o len cap ps) ∧ Below w.heap.size w (w.alloc (.cells #[.int .i64 k, .int .i64 m, .slice ao len cap] 31))) := ⟨X0, hA1, B0⟩
    clear X0 hA1 B0 hAt
    go_enter Tryz.func41, Tryz.ntmps41
    go_wp2
    go_loopw [3, 4] (fun mm i wr => ∃ (q j : Nat), j ≤ len ∧ mm = .int .i64 q ∧ i = .int .i64 j ∧ q ≤ 4001 ∧ min q 2001 = min (1 + sumTo (fun i => (ps i).nodes) j) 2001 ∧ Bv wr w.heap.size (.mk k m ao b o len cap ps) ∧ Vl.At wr (.mk k m ao b o len cap ps) ∧ Below w.heap.size w wr) (fun _ i _ => len - (intOf i).toNat)
    case atStart => exact ⟨1, 0, Nat.zero_le _, rfl, rfl, by omega, rfl, HS.out⟩
    case round =>
      obtain ⟨q, j, hj, rfl, rfl, hq, hm, hX, hA, hB⟩ := hrel
      clear HS
      have x2 : wr.cell? ⟨w.heap.size, 2, none⟩ = some (.slice ao len cap) := hX.c2
      have HS : Hid (Bv wr w.heap.size (.mk k m ao b o len cap ps) ∧ Vl.At wr (.mk k m ao b o len cap ps) ∧ Below w.heap.size w wr) := ⟨hX, hA, hB⟩
      have HQ : Hid (min q 2001 = min (1 + sumTo (fun i => (ps i).nodes) j) 2001) := hm
      clear hX hm hB
      by_cases hlt : j < len
      · have ij : (j : Int) < len := by omega
        by_cases h40 : q ≤ 2000
        · have d40 : decide ((q : Int) ≤ 2000) = true := by simp; omega
          have a0 := hnil (by omega)
          subst a0
          have C : C3 wr b (o + j * 3) (ps j) := hA.cells hlt
          have P : (ps j).At wr := hA.part hlt
          have y0 := C.c0
          have y1 := C.c1
          have y2 := C.c2
          clear hA C
          go_wp2_with fail
          refine (ih j _ P).mono ?_
          rintro r w1 ⟨rfl, hb1⟩
          clear y0 y1 y2 x2
          go_wp2
          go_roundw
          case rel => exact ⟨q + min (ps j).nodes 2001, j + 1, by omega, by rw [Int.natCast_add], by go_num, by omega, by have := HQ.out; simp only [sumTo]; omega, HS.out.1.kept hb1, HS.out.2.1.kept hb1, HS.out.2.2.trans (hb1.mono HS.out.2.2.size)⟩
          case measure => simp [intOf]; omega
        · have d40 : decide ((q : Int) ≤ 2000) = false := by simp; omega
          have HE : Hid (min (1 + sumTo (fun i => (ps i).nodes) len) 2001 = 2001) := by
            show min (1 + sumTo (fun i => (ps i).nodes) len) 2001 = 2001
            have := HQ.out
            have h2 := sumTo_mono (fun i => (ps i).nodes) hj
            omega
          have HF : Hid (min q 2001 = 2001) := by show min q 2001 = 2001; omega
          go_wp2
          all_goals go_ret
          all_goals exact ⟨ret_int (by have h1 := HF.out; have h2 := HE.out; omega), HS.out.2.2⟩
      · have e : len = j := by omega
        subst e
        have d : ¬ (len : Int) < len := by omega
        go_wp2
        all_goals go_ret
        all_goals exact ⟨ret_int (by have h1 := HQ.out; omega), HS.out.2.2⟩

set_option maxHeartbeats 1000000 in
theorem vpartsOf_any (t : Vl) (w : World) :
    Calls Tryz.prog 90 #[.agg #[.int .i64 t.k, .int .i64 t.m, .slice t.ao t.len t.cap]] w fun e w' => e = .returned (.slice t.ao t.len t.cap) ∧ Below w.heap.size w w' := by
  have X0 := Bv.new w t
  have B0 := below_alloc w (.cells #[.int .i64 t.k, .int .i64 t.m, .slice t.ao t.len t.cap] 31)
  have x2 := X0.c2
  clear X0
  go_enter Tryz.func90, Tryz.ntmps90
  go_wp2
  go_ret
  exact ⟨rfl, B0⟩

set_option maxRecDepth 100000 in
set_option maxHeartbeats 2000000 in
theorem vcount_any : ∀ (t : Vl) (a : Nat) (w : World), a ≤ 2000 → t.At w → Calls Tryz.prog 130 #[.agg #[.int .i64 t.k, .int .i64 t.m, .slice t.ao t.len t.cap], .func (.func 90) #[] #[], .int .i64 2000, .int .i64 a] w fun e w' => e = .returned (.int .i64 (min (a + t.nodes) 2001 : Nat)) ∧ Below w.heap.size w w' := by
  intro t
  induction t with
  | dm => intro a w _ hAt; exact hAt.elim
  | mk k m ao b o len cap ps ih =>
    intro a w ha hAt
    show Calls Tryz.prog 130 #[.agg #[.int .i64 k, .int .i64 m, .slice ao len cap], .func (.func 90) #[] #[], .int .i64 2000, .int .i64 a] w fun r w' => r = .returned (.int .i64 (min (a + (1 + sumTo (fun i => (ps i).nodes) len)) 2001 : Nat)) ∧ Below w.heap.size w w'
    have B0 := below_alloc w (.cells #[.int .i64 k, .int .i64 m, .slice ao len cap] 31)
    have hb : len ≤ 9223372036854775807 := hAt.bound
    have hnil : 0 < len → ao = some ⟨b, o, none⟩ := hAt.nil
    have HS : Hid (Vl.At (w.alloc (.cells #[.int .i64 k, .int .i64 m, .slice ao len cap] 31)) (.mk k m ao b o len cap ps) ∧ Below w.heap.size w (w.alloc (.cells #[.int .i64 k, .int .i64 m, .slice ao len cap] 31))) := ⟨hAt.kept B0, B0⟩
    have hP : Calls Tryz.prog 90 #[.agg #[.int .i64 k, .int .i64 m, .slice ao len cap]] (w.alloc (.cells #[.int .i64 k, .int .i64 m, .slice ao len cap] 31)) fun r w' => r = .returned (.slice ao len cap) ∧ Below (w.alloc (.cells #[.int .i64 k, .int .i64 m, .slice ao len cap] 31)).heap.size (w.alloc (.cells #[.int .i64 k, .int .i64 m, .slice ao len cap] 31)) w' := vpartsOf_any (.mk k m ao b o len cap ps) _
    clear B0 hAt
    go_enter Tryz.func130, Tryz.ntmps130
    go_wp2_with fail
    refine hP.mono ?_
    rintro _ w5 ⟨rfl, hb5⟩
    have HS : Hid (Vl.At w5 (.mk k m ao b o len cap ps) ∧ Below w.heap.size w w5) := ⟨HS.out.1.kept hb5, Below.next HS.out.2 hb5⟩
    clear hb5 hP
    go_wp2
    go_loopw [9, 18] (fun mm i wr => ∃ (q j : Nat), j ≤ len ∧ mm = .int .i64 q ∧ i = .int .i64 j ∧ q = min (a + (1 + sumTo (fun i => (ps i).nodes) j)) 2001 ∧ Vl.At wr (.mk k m ao b o len cap ps) ∧ Below w.heap.size w wr) (fun _ i _ => len - (intOf i).toNat)
    case atStart => exact ⟨a + 1, 0, Nat.zero_le _, by rw [Int.natCast_add]; rfl, rfl, by simp only [sumTo]; omega, HS.out⟩
    case round =>
      obtain ⟨q, j, hj, rfl, rfl, hm, hA, hB⟩ := hrel
      clear HS
      have HQ : Hid (q = min (a + (1 + sumTo (fun i => (ps i).nodes) j)) 2001) := hm
      clear hm
      by_cases hlt : j < len
      · have ij : (j : Int) < len := by omega
        have a0 := hnil (by omega)
        subst a0
        have C : C3 wr b (o + j * 3) (ps j) := hA.cells hlt
        have P : (ps j).At wr := hA.part hlt
        have X0 := Bv.new wr (ps j)
        have B0 := below_alloc wr (.cells #[.int .i64 (ps j).k, .int .i64 (ps j).m, .slice (ps j).ao (ps j).len (ps j).cap] 31)
        have HS : Hid (Vl.At wr (.mk k m (some ⟨b, o, none⟩) b o len cap ps) ∧ Below w.heap.size w wr) := ⟨hA, hB⟩
        have y0 := C.c0
        have y1 := C.c1
        have y2 := C.c2
        clear hA C hB
        by_cases h40 : 2000 < q
        · have d40 : decide ((2000 : Int) < q) = true := by simp; omega
          have HE : Hid (min (a + (1 + sumTo (fun i => (ps i).nodes) len)) 2001 = q) := by
            show min (a + (1 + sumTo (fun i => (ps i).nodes) len)) 2001 = q
            have := HQ.out
            have h2 := sumTo_mono (fun i => (ps i).nodes) hj
            omega
          go_wp2
          all_goals go_ret
          all_goals exact ⟨ret_int (by have h2 := HE.out; omega), Below.next HS.out.2 B0⟩
        · have d40 : decide ((2000 : Int) < q) = false := by simp; omega
          go_wp2_with fail
          refine (ih j q _ (by omega) (P.kept B0)).mono ?_
          rintro r w1 ⟨rfl, hb1⟩
          have B1 := Below.next B0 hb1
          go_wp2
          go_roundw
          case rel => exact ⟨min (q + (ps j).nodes) 2001, j + 1, by omega, rfl, by go_num, by have := HQ.out; simp only [sumTo]; omega, HS.out.1.kept B1, Below.next HS.out.2 B1⟩
          case measure => simp [intOf]; omega
      · have e : len = j := by omega
        subst e
        have d : ¬ (len : Int) < len := by omega
        go_wp2
        go_ret
        exact ⟨ret_int (by have h1 := HQ.out; omega), hB⟩

set_option maxHeartbeats 1000000 in
theorem vCount_any (t : Vl) (w : World) (ht : t.At w) : Calls Tryz.prog 89 #[.agg #[.int .i64 t.k, .int .i64 t.m, .slice t.ao t.len t.cap], .func (.func 90) #[] #[], .int .i64 2000] w fun e w' => e = .returned (.int .i64 (min t.nodes 2001 : Nat)) ∧ Below w.heap.size w w' := by
  have B0 := below_alloc w (.cells #[.int .i64 t.k, .int .i64 t.m, .slice t.ao t.len t.cap] 31)
  have h := vcount_any t 0 _ (by omega) (ht.kept B0)
  rw [Nat.zero_add] at h
  go_enter Tryz.func89, Tryz.ntmps89
  go_wp2_with fail
  refine h.mono ?_
  rintro r w1 ⟨rfl, hb1⟩
  go_wp2
  go_ret
  exact ⟨rfl, Below.next B0 hb1⟩

set_option maxHeartbeats 1000000 in
theorem vNodes_any (t : Vl) (w : World) (ht : t.At w) : Calls Tryz.prog 65 #[.agg #[.int .i64 t.k, .int .i64 t.m, .slice t.ao t.len t.cap]] w fun e w' => e = .returned (.int .i64 (min t.nodes 2001 : Nat)) ∧ Below w.heap.size w w' := by
  have B0 := below_alloc w (.cells #[.int .i64 t.k, .int .i64 t.m, .slice t.ao t.len t.cap] 31)
  have h := vCount_any t _ (ht.kept B0)
  go_enter Tryz.func65, Tryz.ntmps65
  go_wp2_with fail
  refine h.mono ?_
  rintro r w1 ⟨rfl, hb1⟩
  go_wp2
  go_ret
  exact ⟨rfl, Below.next B0 hb1⟩

set_option maxHeartbeats 1000000 in
theorem rvSmall_any (t : Vl) (w : World) (ht : t.At w) : Calls Tryz.prog 21 #[.agg #[.int .i64 t.k, .int .i64 t.m, .slice t.ao t.len t.cap]] w fun e w' => e = .returned (.bool (decide (t.nodes ≤ 2000))) ∧ Below w.heap.size w w' := by
  have B0 := below_alloc w (.cells #[.int .i64 t.k, .int .i64 t.m, .slice t.ao t.len t.cap] 31)
  have HE : Hid (decide ((min t.nodes 2001 : Nat) ≤ (2000 : Int)) = decide (t.nodes ≤ 2000)) := by
    show decide (((min t.nodes 2001 : Nat) : Int) ≤ 2000) = decide (t.nodes ≤ 2000)
    exact decide_eq_decide.2 (by omega)
  go_enter Tryz.func21, Tryz.ntmps21
  go_wp2_with fail
  refine (rvNodes_any t _ (ht.kept B0)).mono ?_
  rintro r w1 ⟨rfl, hb1⟩
  generalize min t.nodes 2001 = q at HE
  go_wp2
  go_ret
  exact ⟨ret_bool HE.out, Below.next B0 hb1⟩
end Go.Proofs.YtmkncmmegjfipaaGreatDoor

/- Layer 3: formed values. -/
namespace Go.Proofs.YtmkncmmegjfipaaGreatDoor
open Go.RowKit

theorem len_beq (len q : Nat) : ((len : Int) == (q : Int)) = (len == q) := by
  by_cases h : len = q
  · subst h; simp
  · rw [beq_eq_false_iff_ne.2 h, beq_eq_false_iff_ne.2 (by omega)]

set_option maxHeartbeats 2000000 in
theorem nodeFormed_any (v : Vl) (w : World) : Calls Tryz.prog 91 #[.agg #[.int .i64 v.k, .int .i64 v.m, .slice v.ao v.len v.cap]] w fun e w' => e = .returned (.bool (ndB v.k v.m v.len)) ∧ Below w.heap.size w w' := by
  have X0 := Bv.new w v
  have B0 := below_alloc w (.cells #[.int .i64 v.k, .int .i64 v.m, .slice v.ao v.len v.cap] 31)
  have c0 := X0.c0
  have c1 := X0.c1
  have c2 := X0.c2
  clear X0
  have z0 := len_beq v.len 0
  have z2 := len_beq v.len 2
  rw [show ((0 : Nat) : Int) = 0 from rfl] at z0
  rw [show ((2 : Nat) : Int) = 2 from rfl] at z2
  generalize hE : ndB v.k v.m v.len = E
  have HE : Hid (ndB v.k v.m v.len = E) := hE
  clear hE
  generalize v.k = k at *
  generalize v.m = m at *
  by_cases h1 : k = 1
  · subst h1
    cases hl : (v.len == 0)
    · rw [hl] at z0
      go_enter Tryz.func91, Tryz.ntmps91
      go_wp2
      go_ret
      exact ⟨ret_bool (by rw [← HE.out]; simp [ndB, hl]), B0⟩
    · rw [hl] at z0
      go_enter Tryz.func91, Tryz.ntmps91
      go_wp2
      go_ret
      exact ⟨ret_bool (by rw [← HE.out]; simp [ndB, hl]), B0⟩
  have q1 : (k == 1) = false := beq_eq_false_iff_ne.2 h1
  by_cases h2 : k = 2
  · subst h2
    cases hl : (v.len == 0)
    · rw [hl] at z0
      go_enter Tryz.func91, Tryz.ntmps91
      go_wp2
      go_ret
      exact ⟨ret_bool (by rw [← HE.out]; simp [ndB, hl]), B0⟩
    · rw [hl] at z0
      cases m0 : (m == 0)
      · cases m1 : (m == 1)
        · go_enter Tryz.func91, Tryz.ntmps91
          go_wp2
          go_ret
          exact ⟨ret_bool (by rw [← HE.out]; simp [ndB, hl, m0, m1]), B0⟩
        · go_enter Tryz.func91, Tryz.ntmps91
          go_wp2
          go_ret
          exact ⟨ret_bool (by rw [← HE.out]; simp [ndB, hl, m0, m1]), B0⟩
      · have e0 : m = 0 := by simpa using m0
        subst e0
        go_enter Tryz.func91, Tryz.ntmps91
        go_wp2
        go_ret
        exact ⟨ret_bool (by rw [← HE.out]; simp [ndB, hl]), B0⟩
  have q2 : (k == 2) = false := beq_eq_false_iff_ne.2 h2
  by_cases h3 : k = 3
  · subst h3
    cases hl : (v.len == 2)
    · rw [hl] at z2
      go_enter Tryz.func91, Tryz.ntmps91
      go_wp2
      go_ret
      exact ⟨ret_bool (by rw [← HE.out]; simp [ndB, hl]), B0⟩
    · rw [hl] at z2
      go_enter Tryz.func91, Tryz.ntmps91
      go_wp2
      go_ret
      exact ⟨ret_bool (by rw [← HE.out]; simp [ndB, hl]), B0⟩
  have q3 : (k == 3) = false := beq_eq_false_iff_ne.2 h3
  by_cases h4 : k = 4
  · subst h4
    by_cases m0 : 0 ≤ m
    · have d0 : decide (m ≥ 0) = true := decide_eq_true m0
      go_enter Tryz.func91, Tryz.ntmps91
      go_wp2
      go_ret
      exact ⟨ret_bool (by rw [← HE.out]; simp [ndB, m0]), B0⟩
    · have d0 : decide (m ≥ 0) = false := decide_eq_false m0
      have HV : Hid (ndB 4 m v.len = false) := by show ndB 4 m v.len = false; simp [ndB, m0]
      go_enter Tryz.func91, Tryz.ntmps91
      go_wp2
      go_ret
      exact ⟨ret_bool (by rw [← HE.out]; rw [HV.out]), B0⟩
  have q4 : (k == 4) = false := beq_eq_false_iff_ne.2 h4
  by_cases h5 : k = 5
  · subst h5
    cases hl : (v.len == 0)
    · rw [hl] at z0
      go_enter Tryz.func91, Tryz.ntmps91
      go_wp2
      go_ret
      exact ⟨ret_bool (by rw [← HE.out]; simp [ndB, hl]), B0⟩
    · rw [hl] at z0
      by_cases m0 : 0 ≤ m
      · have d0 : decide (m ≥ 0) = true := decide_eq_true m0
        go_enter Tryz.func91, Tryz.ntmps91
        go_wp2
        go_ret
        exact ⟨ret_bool (by rw [← HE.out]; simp [ndB, hl, m0]), B0⟩
      · have d0 : decide (m ≥ 0) = false := decide_eq_false m0
        have HV : Hid (ndB 5 m v.len = false) := by show ndB 5 m v.len = false; simp [ndB, hl, m0]
        go_enter Tryz.func91, Tryz.ntmps91
        go_wp2
        go_ret
        exact ⟨ret_bool (by rw [← HE.out]; rw [HV.out]), B0⟩
  have q5 : (k == 5) = false := beq_eq_false_iff_ne.2 h5
  go_enter Tryz.func91, Tryz.ntmps91
  go_wp2
  go_ret
  exact ⟨ret_bool (by rw [← HE.out]; simp [ndB, h1, h2, h3, h4, h5]), B0⟩

set_option maxRecDepth 100000 in
set_option maxHeartbeats 4000000 in
theorem vformed_any : ∀ (v : Vl) (w : World), v.At w → Calls Tryz.prog 66 #[.agg #[.int .i64 v.k, .int .i64 v.m, .slice v.ao v.len v.cap]] w fun e w' => e = .returned (.bool v.fm) ∧ Below w.heap.size w w' := by
  intro v
  induction v with
  | dm => intro w hAt; exact hAt.elim
  | mk k m ao b o len cap ps ih =>
    intro w hAt
    show Calls Tryz.prog 66 #[.agg #[.int .i64 k, .int .i64 m, .slice ao len cap]] w fun r w' => r = .returned (.bool (ndB k m len && decide (∀ i, i < len → (ps i).fm = true))) ∧ Below w.heap.size w w'
    have X0 := Bv.new w (.mk k m ao b o len cap ps)
    have B0 := below_alloc w (.cells #[.int .i64 k, .int .i64 m, .slice ao len cap] 31)
    have hb : len ≤ 9223372036854775807 := hAt.bound
    have hnil : 0 < len → ao = some ⟨b, o, none⟩ := hAt.nil
    have H1 := nodeFormed_any (.mk k m ao b o len cap ps) (w.alloc (.cells #[.int .i64 k, .int .i64 m, .slice ao len cap] 31))
    simp only [Vl.k, Vl.m, Vl.ao, Vl.len, Vl.cap] at X0 H1
    have c0 := X0.c0
    have c1 := X0.c1
    have c2 := X0.c2
    simp only [Vl.k, Vl.m, Vl.ao, Vl.len, Vl.cap] at c0 c1 c2
    have hA0 := hAt.kept B0
    clear hAt
    go_enter Tryz.func66, Tryz.ntmps66
    go_wp2_with fail
    refine H1.mono ?_
    rintro e w1 ⟨rfl, hb1⟩
    have B1 := Below.next B0 hb1
    have hA1 := hA0.kept hb1
    have c2' := (X0.kept hb1).c2
    simp only [Vl.ao, Vl.len, Vl.cap] at c2'
    clear c0 c1 c2 X0 B0 hb1 hA0 H1
    cases hN : ndB k m len
    · have HN : Hid (ndB k m len = false) := hN
      go_wp2
      go_ret
      exact ⟨ret_bool (by rw [HN.out]; rfl), B1⟩
    · have HN : Hid (ndB k m len = true) := hN
      clear hN
      go_wp2
      clear c2'
      go_loopw [11] (fun i wr => ∃ j : Nat, j ≤ len ∧ i = .int .i64 j ∧ (∀ i, i < j → (ps i).fm = true) ∧ Vl.At wr (.mk k m ao b o len cap ps) ∧ Below w.heap.size w wr) (fun i _ => len - (intOf i).toNat)
      case atStart => exact ⟨0, Nat.zero_le _, rfl, fun _ h => absurd h (Nat.not_lt_zero _), hA1, B1⟩
      case round =>
        obtain ⟨j, hj, rfl, hdone, hA, hB⟩ := hrel
        clear hA1 B1
        have HD : Hid (∀ i, i < j → (ps i).fm = true) := hdone
        clear hdone
        by_cases hlt : j < len
        · have ij : (j : Int) < len := by omega
          have a0 := hnil (by omega)
          subst a0
          have C : C3 wr b (o + j * 3) (ps j) := hA.cells hlt
          have P : (ps j).At wr := hA.part hlt
          have Ba := below_alloc wr (.cells #[.int .i64 (ps j).k, .int .i64 (ps j).m, .slice (ps j).ao (ps j).len (ps j).cap] 31)
          have y0 := C.c0
          have y1 := C.c1
          have y2 := C.c2
          have hI := ih j _ (P.kept Ba)
          clear C P
          go_wp2_with fail
          refine hI.mono ?_
          rintro e w2 ⟨rfl, hb2⟩
          have B2 := Below.next Ba hb2
          clear hI y0 y1 y2 Ba hb2
          cases hf : (ps j).fm
          · go_wp2
            go_ret
            exact ⟨ret_bool (by rw [HN.out, Bool.true_and]; exact (decide_eq_false (fun hh => by rw [hh j hlt] at hf; cases hf)).symm), Below.next hB B2⟩
          · go_wp2
            go_roundw
            case rel => exact ⟨j + 1, by omega, by go_num, fun i hi => (by
                by_cases e : i = j
                · subst e; exact hf
                · exact HD.out i (by omega)), hA.kept B2, Below.next hB B2⟩
            case measure => simp [intOf]; omega
        · have e : len = j := by omega
          subst e
          have dl : ¬ (len : Int) < len := by omega
          go_wp2
          go_ret
          exact ⟨ret_bool (by rw [HN.out, Bool.true_and]; exact (decide_eq_true HD.out).symm), hB⟩

set_option maxHeartbeats 2000000 in
theorem vFormed_any (v : Vl) (w : World) (hv : v.At w) : Calls Tryz.prog 42 #[.agg #[.int .i64 v.k, .int .i64 v.m, .slice v.ao v.len v.cap]] w fun e w' => e = .returned (.bool v.ok) ∧ Below w.heap.size w w' := by
  have X0 := Bv.new w v
  have B0 := below_alloc w (.cells #[.int .i64 v.k, .int .i64 v.m, .slice v.ao v.len v.cap] 31)
  have c0 := X0.c0
  have c1 := X0.c1
  have c2 := X0.c2
  have H1 := vNodes_any v _ (hv.kept B0)
  have HE : Hid (decide (((min v.nodes 2001 : Nat) : Int) ≤ 2000) = decide (v.nodes ≤ 2000)) := by
    show decide (((min v.nodes 2001 : Nat) : Int) ≤ 2000) = decide (v.nodes ≤ 2000)
    rw [decide_eq_decide]; omega
  generalize min v.nodes 2001 = q at H1 HE
  go_enter Tryz.func42, Tryz.ntmps42
  go_wp2_with fail
  refine H1.mono ?_
  rintro e w1 ⟨rfl, hb1⟩
  have X1 := X0.kept hb1
  have B1 := Below.next B0 hb1
  have H2 := vformed_any v _ (hv.kept B1)
  clear c0 c1 c2 X0 H1 B0 hb1
  cases hq : decide ((q : Int) ≤ 2000)
  · have HV : Hid (v.ok = false) := by show v.ok = false; unfold Vl.ok; rw [← HE.out, hq]; rfl
    go_wp2
    go_ret
    exact ⟨ret_bool HV.out.symm, B1⟩
  · have HV : Hid (v.ok = v.fm) := by show v.ok = v.fm; unfold Vl.ok; rw [← HE.out, hq]; rfl
    have c0 := X1.c0
    have c1 := X1.c1
    have c2 := X1.c2
    go_wp2_with fail
    refine H2.mono ?_
    rintro e w2 ⟨rfl, hb2⟩
    go_wp2
    go_ret
    exact ⟨ret_bool HV.out.symm, Below.next B1 hb2⟩
end Go.Proofs.YtmkncmmegjfipaaGreatDoor

/- Layer 18: the machine, as it lies in memory: which blocks are written by whom (their role), frames, cells, events. -/
namespace Go.Proofs.YtmkncmmegjfipaaGreatDoor
open Go Go.RowKit

def Vl.vs (v : Vl) : List Value := [.int .i64 v.k, .int .i64 v.m, .slice v.ao v.len v.cap]
theorem Vl.vs_one (v : Vl) : v.vs.all (·.oneCell') = true := by simp [Vl.vs, Value.oneCell']
/-- The Parts lie in blocks that nobody writes (role 0). -/
def Vl.In (ρ : Nat → Nat) : Vl → Prop
  | .dm => True
  | .mk _ _ _ b _ len _ ps => (0 < len → ρ b = 0) ∧ ∀ i, i < len → Vl.In ρ (ps i)
/-- Blocks of some roles (R) turned, others made; roles stay. -/
structure Ch (R : Nat → Prop) (ρ ρ' : Nat → Nat) (w w' : World) : Prop where
  os : w'.os = w.os
  tape : w'.tape = w.tape
  output : w'.output = w.output
  size : w.heap.size ≤ w'.heap.size
  block : ∀ k, k < w.heap.size → ¬ R (ρ k) → w'.heap[k]? = w.heap[k]?
  role : ∀ k, k < w.heap.size → ρ' k = ρ k
theorem Ch.refl (R : Nat → Prop) (ρ : Nat → Nat) (w : World) : Ch R ρ ρ w w := ⟨rfl, rfl, rfl, Nat.le_refl _, fun _ _ _ => rfl, fun _ _ => rfl⟩
theorem Ch.trans {R : Nat → Prop} {ρ ρ1 ρ2 : Nat → Nat} {a b c : World} (h : Ch R ρ ρ1 a b) (k : Ch R ρ1 ρ2 b c) : Ch R ρ ρ2 a c :=
  ⟨k.os.trans h.os, k.tape.trans h.tape, k.output.trans h.output, Nat.le_trans h.size k.size, fun i hi hn => (k.block i (Nat.lt_of_lt_of_le hi h.size) (by rw [h.role i hi]; exact hn)).trans (h.block i hi hn), fun i hi => (k.role i (Nat.lt_of_lt_of_le hi h.size)).trans (h.role i hi)⟩
theorem Ch.mono {R S : Nat → Prop} {ρ ρ1 : Nat → Nat} {a b : World} (h : Ch R ρ ρ1 a b) (hs : ∀ x, R x → S x) : Ch S ρ ρ1 a b := ⟨h.os, h.tape, h.output, h.size, fun k hk hn => h.block k hk (fun x => hn (hs _ x)), h.role⟩
theorem Ch.of_below {R : Nat → Prop} {ρ : Nat → Nat} {w w' : World} (h : Below w.heap.size w w') : Ch R ρ ρ w w' := ⟨h.os, h.tape, h.output, h.size, fun k hk _ => h.block k hk, fun _ _ => rfl⟩
theorem Ch.below {R : Nat → Prop} {ρ ρ' : Nat → Nat} {w0 w w' : World} (h : Ch R ρ ρ' w w') (hb : Below w0.heap.size w0 w) (hl : ∀ k, k < w0.heap.size → ¬ R (ρ k)) : Below w0.heap.size w0 w' :=
  ⟨h.os.trans hb.os, h.tape.trans hb.tape, h.output.trans hb.output, Nat.le_trans hb.size h.size, fun k hk => (h.block k (Nat.lt_of_lt_of_le hk hb.size) (hl k hk)).trans (hb.block k hk)⟩
theorem Ch.wrote {w w' : World} {B : Nat} {c : List Value} {t : TypeId} {R : Nat → Prop} {ρ : Nat → Nat} (W : WroteB w w' B c t) (hr : R (ρ B)) : Ch R ρ ρ w w' := by
  have h := W.below (B0 := 0) (a := w) (Nat.zero_le _) (Below.refl _ _)
  exact ⟨h.os, h.tape, h.output, h.size, fun k _ hn => W.other k (fun e => hn (e ▸ hr)), fun _ _ => rfl⟩
/-- A block more gets a role. -/
def upd (ρ : Nat → Nat) (g r : Nat) : Nat → Nat := fun k => if k = g then r else ρ k
theorem upd_at (ρ : Nat → Nat) (g r : Nat) : upd ρ g r g = r := by simp [upd]
theorem upd_ne {ρ : Nat → Nat} {g r k : Nat} (h : k ≠ g) : upd ρ g r k = ρ k := by simp [upd, h]
theorem Ch.grow {w w' : World} {v : Value} {g r : Nat} {R : Nat → Prop} {ρ : Nat → Nat} (h : w.grownBy w' v.ownBlock) (hv : ∀ k, v.ownBlock = some k → ρ k = r) (hg : v.ownBlock = some g ∨ g = w.heap.size) (hr : R r) : Ch R ρ (upd ρ g r) w w' := by
  refine ⟨h.os, h.tape, h.output, h.size, fun k hk hn => h.block k hk (fun e => hn (by rw [hv k e.symm]; exact hr)), fun k hk => ?_⟩
  by_cases e : k = g
  · subst e
    rcases hg with hg | hg
    · rw [upd_at, hv k hg]
    · omega
  · exact upd_ne e
theorem Ch.loc {w u u' : World} {R : Nat → Prop} {ρ ρ' : Nat → Nat} {B : Nat} {c : List Value} {t : TypeId} (h : Ch R ρ ρ' w u) (W : WroteB u u' B c t) (hB : w.heap.size ≤ B) : Ch R ρ ρ' w u' := by
  have k := W.below (B0 := 0) (a := u) (Nat.zero_le _) (Below.refl _ _)
  exact ⟨k.os.trans h.os, k.tape.trans h.tape, k.output.trans h.output, Nat.le_trans h.size k.size, fun q hq hn => (W.other q (by omega)).trans (h.block q hq hn), h.role⟩
theorem Ch.fresh {w w' : World} {R : Nat → Prop} {ρ : Nat → Nat} (r : Nat) (hb : Below w.heap.size w w') : Ch R ρ (upd ρ w.heap.size r) w w' :=
  ⟨hb.os, hb.tape, hb.output, hb.size, fun k hk _ => hb.block k hk, fun k hk => upd_ne (by omega)⟩
theorem vat_kept {R : Nat → Prop} {ρ ρ' : Nat → Nat} {w w' : World} (k : Ch R ρ ρ' w w') (h0 : ¬ R 0) : ∀ {v : Vl}, v.At w → v.In ρ → v.At w' ∧ v.In ρ'
  | .dm, h, _ => h.elim
  | .mk _ _ _ b o len _ ps, h, hi => by
    have hc : ∀ i, i < len → C3 w' b (o + i * 3) (ps i) ∧ ρ' b = 0 := fun i hlt => by
      have c := (h.2.2 i hlt).1
      have r0 := hi.1 (by omega)
      have hb : b < w.heap.size := World.block_lt_of_cell? w _ c.c0
      have e := k.block b hb (by rw [r0]; exact h0)
      exact ⟨⟨(World.cell?_of_block (a := ⟨b, _, none⟩) e).trans c.c0, (World.cell?_of_block (a := ⟨b, _, none⟩) e).trans c.c1, (World.cell?_of_block (a := ⟨b, _, none⟩) e).trans c.c2⟩, (k.role b hb).trans r0⟩
    exact ⟨⟨h.1, h.2.1, fun i hlt => ⟨(hc i hlt).1, (vat_kept k h0 (h.2.2 i hlt).2 (hi.2 i hlt)).1⟩⟩, ⟨fun hlt => (hc 0 hlt).2, fun i hlt => (vat_kept k h0 (h.2.2 i hlt).2 (hi.2 i hlt)).2⟩⟩
/-- A value that lies, in blocks that stay. -/
structure VOk (ρ : Nat → Nat) (w : World) (v : Vl) : Prop where
  a : v.At w
  i : v.In ρ
  k : I64 v.k
  m : I64 v.m
theorem VOk.kept {R : Nat → Prop} {ρ ρ' : Nat → Nat} {w w' : World} {v : Vl} (h : VOk ρ w v) (k : Ch R ρ ρ' w w') (h0 : ¬ R 0) : VOk ρ' w' v := ⟨(vat_kept k h0 h.a h.i).1, (vat_kept k h0 h.a h.i).2, h.k, h.m⟩
def Vl.zv : Vl := .mk 0 0 none 0 0 0 0 (fun _ => .dm)
def Vl.lf (k m : Int) : Vl := .mk k m none 0 0 0 0 (fun _ => .dm)
theorem VOk.lf (ρ : Nat → Nat) (w : World) {k m : Int} (hk : I64 k) (hm : I64 m) : VOk ρ w (.lf k m) := ⟨⟨fun h => absurd h (Nat.lt_irrefl _), by omega, fun i h => absurd h (Nat.not_lt_zero _)⟩, ⟨fun h => absurd h (Nat.lt_irrefl _), fun i h => absurd h (Nat.not_lt_zero _)⟩, hk, hm⟩
/-- A row of the call's own, of a role. -/
structure Rr (w0 : World) (ρ : Nat → Nat) (r : Nat) (e : TypeId) (z : Nat) (v : Value) (n : Nat) (xs : List Value) (w : World) : Prop where
  own : w.ownsRow w0.heap.size e z v n xs
  role : ∀ k, v.ownBlock = some k → ρ k = r
theorem Rr.kept {w0 : World} {ρ ρ' : Nat → Nat} {r : Nat} {e : TypeId} {z : Nat} {v : Value} {n : Nat} {xs : List Value} {w w' : World} {R : Nat → Prop} (h : Rr w0 ρ r e z v n xs w) (k : Ch R ρ ρ' w w') (hr : ¬ R r) : Rr w0 ρ' r e z v n xs w' := by
  have hl := h.own.lt
  refine ⟨⟨h.own.1, ?_⟩, fun q hq => (k.role q (hl q hq).2).trans (h.role q hq)⟩
  rcases h.own.2 with hn | ⟨g, cap, cur, rfl, hb, hgg, rest⟩
  · exact .inl hn
  · refine .inr ⟨g, cap, cur, rfl, hb, ?_, rest⟩
    rw [k.block g (hl g rfl).2 (by rw [h.role g rfl]; exact hr)]
    exact hgg
/-- The block of such a row, whole. -/
theorem Rr.blk {w0 : World} {ρ : Nat → Nat} {r : Nat} {e : TypeId} {z : Nat} {v : Value} {n : Nat} {xs : List Value} {w : World} (h : Rr w0 ρ r e z v n xs w) (hn : 0 < n) : ∃ g cap ys, v = .slice (some ⟨g, 0, none⟩) n cap ∧ w0.heap.size ≤ g ∧ Blk w g (xs ++ ys) e ∧ n ≤ cap ∧ cap ≤ maxLen ∧ (xs ++ ys).length = cap * z ∧ ρ g = r := by
  obtain ⟨hx, ⟨_, h0⟩ | ⟨g, cap, cur, rfl, hb, hgg, h1, h2, h3, h4⟩⟩ := h.own
  · omega
  · have e2 : xs ++ cur.toList.drop (n * z) = cur.toList := by rw [← h4]; exact List.take_append_drop _ _
    refine ⟨g, cap, cur.toList.drop (n * z), rfl, hb, ?_, h1, h2, ?_, h.role g rfl⟩
    · unfold Blk; rw [e2]; exact hgg
    · rw [e2, Array.length_toList]; exact h3
theorem Rr.of_blk {w0 : World} {ρ : Nat → Nat} {r : Nat} {e : TypeId} {z n g cap : Nat} {xs ys : List Value} {w : World} (hx : xs.length = n * z) (hb : w0.heap.size ≤ g) (h : Blk w g (xs ++ ys) e) (h1 : n ≤ cap) (h2 : cap ≤ maxLen) (h3 : (xs ++ ys).length = cap * z) (hr : ρ g = r) : Rr w0 ρ r e z (.slice (some ⟨g, 0, none⟩) n cap) n xs w :=
  ⟨⟨hx, .inr ⟨g, cap, (xs ++ ys).toArray, rfl, hb, h, h1, h2, by simpa using h3, by rw [← hx]; simp⟩⟩, by intro q hq; have e9 : g = q := by { simpa [Value.ownBlock] using hq }; rw [← e9]; exact hr⟩
theorem Rr.nil (w0 : World) (ρ : Nat → Nat) (r : Nat) (e : TypeId) (z : Nat) (w : World) : Rr w0 ρ r e z (.slice none 0 0) 0 [] w := ⟨World.ownsRow_nil _ _ _ _, fun k hk => by simp [Value.ownBlock] at hk⟩

/-! A frame, the machine. -/
structure Fr where
  fn : Nat
  fu : Vl
  pl : Nat
  st : List Vl
  sv : Value
  sl : List Vl
  lv : Value
def vls (l : List Vl) : List Value := l.flatMap Vl.vs
theorem vls_len (l : List Vl) : (vls l).length = l.length * 3 := by
  induction l with
  | nil => rfl
  | cons a l ih => rw [vls, List.flatMap_cons, List.length_append, ← vls, ih]; simp [Vl.vs]; omega
theorem vls_app (l k : List Vl) : vls (l ++ k) = vls l ++ vls k := List.flatMap_append
theorem vls_get {l : List Vl} {i : Nat} {v : Vl} (h : l[i]? = some v) (j : Nat) (hj : j < 3) : (vls l)[i * 3 + j]? = v.vs[j]? := by
  induction l generalizing i with
  | nil => simp at h
  | cons a l ih =>
    rw [vls, List.flatMap_cons, ← vls]
    cases i with
    | zero =>
      have e : a = v := by simpa using h
      rw [e, Nat.zero_mul, Nat.zero_add, List.getElem?_append_left (by simp [Vl.vs]; omega)]
    | succ i =>
      rw [List.getElem?_append_right (by simp [Vl.vs]; omega), show (i + 1) * 3 + j - a.vs.length = i * 3 + j by simp [Vl.vs]; omega]
      exact ih (by simpa using h)
def Fr.vs (cl : Kl) (f : Fr) : List Value := [.pointer (some ⟨cl.fs.b, cl.fs.o + f.fn * 18, none⟩), .int .i64 f.fu.k, .int .i64 f.fu.m, .slice f.fu.ao f.fu.len f.fu.cap, .int .i64 f.pl, f.sv, f.lv]
theorem Fr.vs_len (cl : Kl) (f : Fr) : (f.vs cl).length = 7 := rfl
def frs (cl : Kl) (l : List Fr) : List Value := l.flatMap (Fr.vs cl)
theorem frs_app (cl : Kl) (l k : List Fr) : frs cl (l ++ k) = frs cl l ++ frs cl k := List.flatMap_append
theorem frs_one (cl : Kl) (f : Fr) : frs cl [f] = f.vs cl := by simp [frs]
theorem frs_len (cl : Kl) (l : List Fr) : (frs cl l).length = l.length * 7 := by
  induction l with
  | nil => rfl
  | cons a l ih => rw [frs, List.flatMap_cons, List.length_append, ← frs, ih]; simp [Fr.vs]; omega
structure FrAt (cl : Kl) (w0 : World) (ρ : Nat → Nat) (i : Nat) (f : Fr) (w : World) : Prop where
  fn : f.fn < cl.fs.len
  fu : VOk ρ w f.fu
  s : Rr w0 ρ (6 + 2 * i) 31 3 f.sv f.st.length (vls f.st) w
  l : Rr w0 ρ (7 + 2 * i) 31 3 f.lv f.sl.length (vls f.sl) w
  vs : ∀ v ∈ f.st, VOk ρ w v
  vl : ∀ v ∈ f.sl, VOk ρ w v
theorem FrAt.kept {cl : Kl} {w0 : World} {ρ ρ' : Nat → Nat} {i : Nat} {f : Fr} {w w' : World} {R : Nat → Prop} (h : FrAt cl w0 ρ i f w) (k : Ch R ρ ρ' w w') (h0 : ¬ R 0) (h1 : ¬ R (6 + 2 * i)) (h2 : ¬ R (7 + 2 * i)) : FrAt cl w0 ρ' i f w' :=
  ⟨h.fn, h.fu.kept k h0, h.s.kept k h1, h.l.kept k h2, fun v hv => (h.vs v hv).kept k h0, fun v hv => (h.vl v hv).kept k h0⟩
structure Mc where
  cv : Value
  ce : List (Ty × Vl)
  tv : Value
  tr : List (Int × Int)
  fuel : Int
  steps : Int
  en : Int
  la : Vl
  lf : Int
  lm : Int
  lc : Int
  fv : Value
  fs : List Fr
  dd : List Fr
def ceV (p : Ty × Vl) : List Value := p.1.vs ++ p.2.vs
def evV (p : Int × Int) : List Value := [.int .i64 p.1, .int .i64 p.2]
def ces (l : List (Ty × Vl)) : List Value := l.flatMap ceV
def evs (l : List (Int × Int)) : List Value := l.flatMap evV
def Mc.vs (cl : Kl) (m : Mc) : List Value := [m.cv, m.tv, .int .i64 m.fuel, .int .i64 m.steps, .int .i64 m.en, .int .i64 m.la.k, .int .i64 m.la.m, .slice m.la.ao m.la.len m.la.cap,
  .slice cl.n.ao cl.n.len cl.n.cap, .slice cl.g.ao cl.g.len cl.g.cap, .slice cl.fs.ao cl.fs.len cl.fs.cap, .int .i64 m.lf, .int .i64 m.lm, .int .i64 m.lc, m.fv]
structure MAt (cl : Kl) (w0 : World) (B : Nat) (ρ : Nat → Nat) (m : Mc) (w : World) : Prop where
  bl : Below w0.heap.size w0 w
  low : ∀ k, k < w0.heap.size → ρ k = 0
  hB : w0.heap.size ≤ B
  rB : ρ B = 1
  blk : Blk w B (m.vs cl) 83
  c : Rr w0 ρ 3 55 8 m.cv m.ce.length (ces m.ce) w
  t : Rr w0 ρ 4 97 2 m.tv m.tr.length (evs m.tr) w
  f : Rr w0 ρ 2 120 7 m.fv (m.fs ++ m.dd).length (frs cl (m.fs ++ m.dd)) w
  fr : ∀ i f, m.fs[i]? = some f → FrAt cl w0 ρ i f w
  ce : ∀ p ∈ m.ce, p.1.At w0 ∧ VOk ρ w p.2
  la : VOk ρ w m.la
/-- What isn't touched stays (role 5: variables of a call). -/
theorem MAt.keep {cl : Kl} {w0 : World} {B : Nat} {ρ ρ' : Nat → Nat} {m : Mc} {w w' : World} (h : MAt cl w0 B ρ m w) (k : Ch (fun r => r = 5) ρ ρ' w w') : MAt cl w0 B ρ' m w' :=
  ⟨k.below h.bl (fun q hq => by rw [h.low q hq]; omega), fun q hq => (k.role q (Nat.lt_of_lt_of_le hq h.bl.size)).trans (h.low q hq), h.hB, (k.role B h.blk.lt).trans h.rB, by unfold Blk; rw [k.block B h.blk.lt (by rw [h.rB]; omega)]; exact h.blk,
    h.c.kept k (by omega), h.t.kept k (by omega), h.f.kept k (by omega), fun i f hf => (h.fr i f hf).kept k (by omega) (by omega) (by omega), fun p hp => ⟨(h.ce p hp).1, (h.ce p hp).2.kept k (by omega)⟩, h.la.kept k (by omega)⟩
theorem MAt.kept {cl : Kl} {w0 : World} {B : Nat} {ρ : Nat → Nat} {m : Mc} {w w' : World} (h : MAt cl w0 B ρ m w) (hb : Below w.heap.size w w') : MAt cl w0 B ρ m w' := h.keep (Ch.of_below hb)
/-- The machine's own block written: numbers, what is told, the frames shortened. -/
theorem MAt.box {cl : Kl} {w0 : World} {B : Nat} {ρ : Nat → Nat} {m m' : Mc} {w w' : World} (h : MAt cl w0 B ρ m w) (W : WroteB w w' B (m'.vs cl) 83) (ec : m'.cv = m.cv ∧ m'.ce = m.ce) (et : m'.tv = m.tv ∧ m'.tr = m.tr) (ef : m'.fv = m.fv ∧ m'.fs = m.fs ∧ m'.dd = m.dd) (hl : VOk ρ w m'.la) : MAt cl w0 B ρ m' w' := by
  have k : Ch (fun r => r = 1) ρ ρ w w' := Ch.wrote W h.rB
  refine ⟨k.below h.bl (fun q hq => by rw [h.low q hq]; omega), h.low, h.hB, h.rB, W.blk, ?_, ?_, ?_, ?_, ?_, hl.kept k (by omega)⟩
  · rw [ec.1, ec.2]; exact h.c.kept k (by omega)
  · rw [et.1, et.2]; exact h.t.kept k (by omega)
  · rw [ef.1, ef.2.1, ef.2.2]; exact h.f.kept k (by omega)
  · rw [ef.2.1]; exact fun i f hf => (h.fr i f hf).kept k (by omega) (by omega) (by omega)
  · rw [ec.2]; exact fun p hp => ⟨(h.ce p hp).1, (h.ce p hp).2.kept k (by omega)⟩
end Go.Proofs.YtmkncmmegjfipaaGreatDoor

/- Layer 18: what is written, and what stays. -/
namespace Go.Proofs.YtmkncmmegjfipaaGreatDoor
open Go Go.RowKit

theorem Rr.cut {w0 : World} {ρ : Nat → Nat} {r : Nat} {e : TypeId} {z : Nat} {n cap g : Nat} {xs : List Value} {w : World} (h : Rr w0 ρ r e z (.slice (some ⟨g, 0, none⟩) n cap) n xs w) (j : Nat) (hj : j ≤ n) : Rr w0 ρ r e z (.slice (some ⟨g, 0, none⟩) j cap) j (xs.take (j * z)) w := by
  obtain ⟨hx, ⟨h', _⟩ | ⟨g', cap', cur, h', hb, hgg, h1, h2, h3, h4⟩⟩ := h.own
  · cases h'
  · simp only [Value.slice.injEq, Option.some.injEq, Addr.mk.injEq, and_true, true_and] at h'
    obtain ⟨rfl, rfl⟩ := h'
    have hm : j * z ≤ n * z := Nat.mul_le_mul_right z hj
    exact ⟨⟨by rw [List.length_take, hx]; omega, .inr ⟨g, cap, cur, rfl, hb, hgg, by omega, h2, h3, by rw [← h4, List.take_take]; congr 1; omega⟩⟩, fun k hk => h.role k hk⟩
theorem get_last {α : Type} {l : List α} {a : α} {n : Nat} {b : α} (h : (l ++ [a])[n]? = some b) : (n = l.length ∧ b = a) ∨ l[n]? = some b := by
  by_cases e : n < l.length
  · right; rw [List.getElem?_append_left e] at h; exact h
  · left
    rw [List.getElem?_append_right (by omega)] at h
    by_cases e2 : n - l.length = 0
    · rw [e2] at h
      exact ⟨by omega, by simpa using h.symm⟩
    · have : [a][n - l.length]? = none := List.getElem?_eq_none (by simp; omega)
      rw [this] at h; cases h
/-- The machine over other rows: all that is asked of a change. -/
theorem MAt.setTop {cl : Kl} {w0 : World} {B : Nat} {ρ ρ1 : Nat → Nat} {m : Mc} {w w1 w' : World} {r : List Fr} {f f' : Fr} {g cap : Nat} {ys : List Value} (h : MAt cl w0 B ρ m w) (hf : m.fs = r ++ [f]) (k : Ch (fun x => x = 6 + 2 * r.length ∨ x = 7 + 2 * r.length) ρ ρ1 w w1) (hf' : FrAt cl w0 ρ1 r.length f' w1)
    (hv : m.fv = .slice (some ⟨g, 0, none⟩) (m.fs ++ m.dd).length cap) (hg : w0.heap.size ≤ g ∧ ρ g = 2 ∧ g < w.heap.size) (hc : (m.fs ++ m.dd).length ≤ cap ∧ cap ≤ maxLen) (hy : (frs cl (m.fs ++ m.dd) ++ ys).length = cap * 7) (W : WroteB w1 w' g (frs cl (r ++ [f'] ++ m.dd) ++ ys) 120) : MAt cl w0 B ρ1 { m with fs := r ++ [f'] } w' := by
  have rg : ρ1 g = 2 := (k.role g hg.2.2).trans hg.2.1
  have k2 : Ch (fun x => x = 2) ρ1 ρ1 w1 w' := Ch.wrote W rg
  have hlen : (r ++ [f'] ++ m.dd).length = (m.fs ++ m.dd).length := by rw [hf]; simp
  have hB1 : ρ1 B = 1 := (k.role B h.blk.lt).trans h.rB
  have hB2 : Blk w1 B (m.vs cl) 83 := by unfold Blk; rw [k.block B h.blk.lt (by rw [h.rB]; omega)]; exact h.blk
  have hl1 : ∀ q, q < w0.heap.size → ρ1 q = 0 := fun q hq => (k.role q (Nat.lt_of_lt_of_le hq h.bl.size)).trans (h.low q hq)
  refine ⟨k2.below (k.below h.bl (fun q hq => by rw [h.low q hq]; omega)) (fun q hq => by rw [hl1 q hq]; omega), hl1, h.hB, hB1, ?_, (h.c.kept k (by omega)).kept k2 (by omega), (h.t.kept k (by omega)).kept k2 (by omega), ?_, ?_, fun p hp => ⟨(h.ce p hp).1, ((h.ce p hp).2.kept k (by omega)).kept k2 (by omega)⟩, (h.la.kept k (by omega)).kept k2 (by omega)⟩
  · refine W.keep hB2 (fun e => ?_)
    rw [e, rg] at hB1; cases hB1
  · show Rr w0 ρ1 2 _ 7 m.fv (r ++ [f'] ++ m.dd).length (frs cl (r ++ [f'] ++ m.dd)) w'
    rw [hv, hlen]
    refine Rr.of_blk (ys := ys) (by rw [frs_len, hlen]) hg.1 W.blk hc.1 hc.2 ?_ rg
    rw [← hy, List.length_append, List.length_append, frs_len, frs_len, hlen]
  · intro i f2 h2
    rcases get_last h2 with ⟨rfl, rfl⟩ | h3
    · exact hf'.kept k2 (by omega) (by omega) (by omega)
    · have hi : i < r.length := (List.getElem?_eq_some_iff.1 h3).1
      exact ((h.fr i f2 (by rw [hf, List.getElem?_append_left hi]; exact h3)).kept k (by omega) (by omega) (by omega)).kept k2 (by omega) (by omega) (by omega)
/-- Frames taken away. -/
theorem MAt.cut {cl : Kl} {w0 : World} {B : Nat} {ρ : Nat → Nat} {m : Mc} {w w' : World} {g cap j : Nat} (h : MAt cl w0 B ρ m w) (hv : m.fv = .slice (some ⟨g, 0, none⟩) (m.fs ++ m.dd).length cap) (hj : j ≤ m.fs.length) (W : WroteB w w' B (({ m with fv := .slice (some ⟨g, 0, none⟩) j cap, fs := m.fs.take j, dd := [] } : Mc).vs cl) 83) : MAt cl w0 B ρ { m with fv := .slice (some ⟨g, 0, none⟩) j cap, fs := m.fs.take j, dd := [] } w' := by
  have k : Ch (fun r => r = 1) ρ ρ w w' := Ch.wrote W h.rB
  have hF := h.f
  rw [hv] at hF
  have hF2 := hF.cut j (by rw [List.length_append]; omega)
  have e1 : (m.fs.take j ++ ([] : List Fr)).length = j := by simp; omega
  have e2 : (frs cl (m.fs ++ m.dd)).take (j * 7) = frs cl (m.fs.take j ++ []) := by
    have e3 : m.fs ++ m.dd = m.fs.take j ++ (m.fs.drop j ++ m.dd) := by rw [← List.append_assoc, List.take_append_drop]
    have e4 : (frs cl (m.fs.take j)).length = j * 7 := by rw [frs_len, List.length_take]; congr 1; omega
    rw [e3, frs_app, List.take_append_of_le_length (by rw [e4]; exact Nat.le_refl _), List.take_of_length_le (by rw [e4]; exact Nat.le_refl _), List.append_nil]
  rw [e2] at hF2
  refine ⟨k.below h.bl (fun q hq => by rw [h.low q hq]; omega), h.low, h.hB, h.rB, W.blk, h.c.kept k (by omega), h.t.kept k (by omega), ?_, ?_, fun p hp => ⟨(h.ce p hp).1, (h.ce p hp).2.kept k (by omega)⟩, h.la.kept k (by omega)⟩
  · show Rr w0 ρ 2 _ 7 _ (m.fs.take j ++ ([] : List Fr)).length _ w'
    rw [e1]
    exact hF2.kept k (by omega)
  · intro i f2 h2
    have h3 : m.fs[i]? = some f2 := by
      have h4 : (m.fs.take j)[i]? = some f2 := h2
      rw [List.getElem?_take] at h4
      split at h4
      · exact h4
      · cases h4
    exact (h.fr i f2 h3).kept k (by omega) (by omega) (by omega)
/-- A frame more. -/
theorem MAt.push {cl : Kl} {w0 : World} {B : Nat} {ρ ρ1 : Nat → Nat} {m : Mc} {w w1 w2 w' : World} {f : Fr} {g cap : Nat} (h : MAt cl w0 B ρ m w) (hd : m.dd = []) (k : Ch (fun r => r = 5) ρ ρ1 w w1) (hf : FrAt cl w0 ρ1 m.fs.length f w1)
    (ho : w2.ownsRow w0.heap.size 120 7 (.slice (some ⟨g, 0, none⟩) (m.fs.length + 1) cap) (m.fs.length + 1) (frs cl m.fs ++ f.vs cl)) (hg : w1.grownBy w2 m.fv.ownBlock) (hat : m.fv.ownBlock = some g ∨ g = w1.heap.size)
    (W : WroteB w2 w' B (({ m with fv := .slice (some ⟨g, 0, none⟩) (m.fs.length + 1) cap, fs := m.fs ++ [f] } : Mc).vs cl) 83) : MAt cl w0 B (upd ρ1 g 2) { m with fv := .slice (some ⟨g, 0, none⟩) (m.fs.length + 1) cap, fs := m.fs ++ [f] } w' := by
  have h1 := h.keep k
  have kg : Ch (fun r => r = 2) ρ1 (upd ρ1 g 2) w1 w2 := Ch.grow hg (fun q hq => h1.f.role q hq) hat rfl
  have hB1 : upd ρ1 g 2 B = 1 := (kg.role B h1.blk.lt).trans h1.rB
  have kw : Ch (fun r => r = 1) (upd ρ1 g 2) (upd ρ1 g 2) w2 w' := Ch.wrote W hB1
  have hl1 : ∀ q, q < w0.heap.size → upd ρ1 g 2 q = 0 := fun q hq => (kg.role q (Nat.lt_of_lt_of_le hq h1.bl.size)).trans (h1.low q hq)
  refine ⟨kw.below (kg.below h1.bl (fun q hq => by rw [h1.low q hq]; omega)) (fun q hq => by rw [hl1 q hq]; omega), hl1, h.hB, hB1, W.blk, (h1.c.kept kg (by omega)).kept kw (by omega), (h1.t.kept kg (by omega)).kept kw (by omega), ?_, ?_, fun p hp => ⟨(h1.ce p hp).1, ((h1.ce p hp).2.kept kg (by omega)).kept kw (by omega)⟩, (h1.la.kept kg (by omega)).kept kw (by omega)⟩
  · show Rr w0 _ 2 _ 7 _ (m.fs ++ [f] ++ m.dd).length (frs cl (m.fs ++ [f] ++ m.dd)) w'
    rw [hd, List.append_nil, frs_app, frs_one, List.length_append, List.length_singleton]
    exact Rr.kept (ρ := upd ρ1 g 2) ⟨ho, fun q hq => by
      have : g = q := by simpa [Value.ownBlock] using hq
      rw [← this, upd_at]⟩ kw (by omega)
  · intro i f2 h2
    rcases get_last h2 with ⟨rfl, rfl⟩ | h3
    · exact (hf.kept kg (by omega) (by omega) (by omega)).kept kw (by omega) (by omega) (by omega)
    · exact ((h1.fr i f2 h3).kept kg (by omega) (by omega) (by omega)).kept kw (by omega) (by omega) (by omega)
end Go.Proofs.YtmkncmmegjfipaaGreatDoor
