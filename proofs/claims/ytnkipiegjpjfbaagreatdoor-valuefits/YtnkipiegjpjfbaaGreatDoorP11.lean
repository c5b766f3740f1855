/- Layer 3: the counts of nodes. -/
import Derived.Test.YtnkipiegjpjfbaaGreatDoorP10
namespace Go.Proofs.YtnkipiegjpjfbaaGreatDoor
open Go.RowKit

set_option maxHeartbeats 2000000 in
theorem rvNodes_any : ∀ (t : Vl) (w : World), t.At w → Calls Tryz.prog 32 #[.agg #[.int .i64 t.k, .int .i64 t.m, .slice t.ao t.len t.cap]] w fun e w' => e = .returned (.int .i64 (min t.nodes 2001 : Nat)) ∧ Below w.heap.size w w' := by
  intro t
  induction t with
  | dm => intro w hAt; exact hAt.elim
  | mk k m ao b o len cap ps ih =>
    intro w hAt
    show Calls Tryz.prog 32 #[.agg #[.int .i64 k, .int .i64 m, .slice ao len cap]] w fun r w' => r = .returned (.int .i64 (min (1 + sumTo (fun i => (ps i).nodes) len) 2001 : Nat)) ∧ Below w.heap.size w w'
    have X0 := Bv.new w (.mk k m ao b o len cap ps)
    have hb : len ≤ 9223372036854775807 := hAt.bound
    have hnil : 0 < len → ao = some ⟨b, o, none⟩ := hAt.nil
    have hA1 := hAt.kept (below_alloc w (.cells #[.int .i64 k, .int .i64 m, .slice ao len cap] 35))
    have B0 := below_alloc w (.cells #[.int .i64 k, .int .i64 m, .slice ao len cap] 35)
    have HS : Hid (Bv (w.alloc (.cells #[.int .i64 k, .int .i64 m, .slice ao len cap] 35)) w.heap.size (.mk k m ao b o len cap ps) ∧ Vl.At (w.alloc (.cells #[.int .i64 k, .int .i64 m, .slice ao len cap] 35)) (.mk k m ao b o len cap ps) ∧ Below w.heap.size w (w.alloc (.cells #[.int .i64 k, .int .i64 m, .slice ao len cap] 35))) := ⟨X0, hA1, B0⟩
    clear X0 hA1 B0 hAt
    go_enter Tryz.func32, Tryz.ntmps32
    go_wp2
    go_loopw [3, 4] (fun mm i wr => ∃ (q j : Nat), j ≤ len ∧ mm = .int .i64 q ∧ i = .int .i64 j ∧ q ≤ 4001 ∧ min q 2001 = min (1 + sumTo (fun i => (ps i).nodes) j) 2001 ∧ Bv wr w.heap.size (.mk k m ao b o len cap ps) ∧ Vl.At wr (.mk k m ao b o len cap ps) ∧ Below w.heap.size w wr) (fun _ i _ => len - (intOf i).toNat)
    case atStart => exact ⟨1, 0, Nat.zero_le _, rfl, rfl, by omega, rfl, HS.out⟩
    case round =>
      obtain ⟨q, j, hj, rfl, rfl, hq, hm, hX, hA, hB⟩ := hrel
      clear HS
      have x2 : wr.cell? ⟨w.heap.size, 2, none⟩ = some (.slice ao len cap) := hX.c2
      have HS : Hid (Bv wr w.heap.size (.mk k m ao b o len cap ps) ∧ Vl.At wr (.mk k m ao b o len cap ps) ∧ Below w.heap.size w wr) := ⟨hX, hA, hB⟩
      have HQ : Hid (min q 2001 = min (1 + sumTo (fun i => (ps i).nodes) j) 2001) := hm
      clear hX hm hB
      by_cases hlt : j < len
      · have ij : (j : Int) < len := by omega
        by_cases h40 : q ≤ 2000
        · have d40 : decide ((q : Int) ≤ 2000) = true := by simp; omega
          have a0 := hnil (by omega)
          subst a0
          have C : C3 wr b (o + j * 3) (ps j) := hA.cells hlt
          have P : (ps j).At wr := hA.part hlt
          have y0 := C.c0
          have y1 := C.c1
          have y2 := C.c2
          clear hA C
          go_wp2_with fail
          refine (ih j _ P).mono ?_
          rintro r w1 ⟨rfl, hb1⟩
          clear y0 y1 y2 x2
          go_wp2
          go_roundw
          case rel => exact ⟨q + min (ps j).nodes 2001, j + 1, by omega, by rw [Int.natCast_add], by go_num, by omega, by have := HQ.out; simp only [sumTo]; omega, HS.out.1.kept hb1, HS.out.2.1.kept hb1, HS.out.2.2.trans (hb1.mono HS.out.2.2.size)⟩
          case measure => simp [intOf]; omega
        · have d40 : decide ((q : Int) ≤ 2000) = false := by simp; omega
          have HE : Hid (min (1 + sumTo (fun i => (ps i).nodes) len) 2001 = 2001) := by
            show min (1 + sumTo (fun i => (ps i).nodes) len) 2001 = 2001
            have := HQ.out
            have h2 := sumTo_mono (fun i => (ps i).nodes) hj
            omega
          have HF : Hid (min q 2001 = 2001) := by show min q 2001 = 2001; omega
          go_wp2
          all_goals go_ret
          all_goals exact ⟨ret_int (by have h1 := HF.out; have h2 := HE.out; omega), HS.out.2.2⟩
      · have e : len = j := by omega
        subst e
        have d : ¬ (len : Int) < len := by omega
        go_wp2
        all_goals go_ret
        all_goals exact ⟨ret_int (by have h1 := HQ.out; omega), HS.out.2.2⟩

set_option maxHeartbeats 1000000 in
theorem vpartsOf_any (t : Vl) (w : World) :
    Calls Tryz.prog 31 #[.agg #[.int .i64 t.k, .int .i64 t.m, .slice t.ao t.len t.cap]] w fun e w' => e = .returned (.slice t.ao t.len t.cap) ∧ Below w.heap.size w w' := by
  have X0 := Bv.new w t
  have B0 := below_alloc w (.cells #[.int .i64 t.k, .int .i64 t.m, .slice t.ao t.len t.cap] 35)
  have x2 := X0.c2
  clear X0
  go_enter Tryz.func31, Tryz.ntmps31
  go_wp2
  go_ret
  exact ⟨rfl, B0⟩

set_option maxRecDepth 100000 in
set_option maxHeartbeats 2000000 in
theorem vcount_any : ∀ (t : Vl) (a : Nat) (w : World), a ≤ 2000 → t.At w → Calls Tryz.prog 52 #[.agg #[.int .i64 t.k, .int .i64 t.m, .slice t.ao t.len t.cap], .func (.func 31) #[] #[], .int .i64 2000, .int .i64 a] w fun e w' => e = .returned (.int .i64 (min (a + t.nodes) 2001 : Nat)) ∧ Below w.heap.size w w' := by
  intro t
  induction t with
  | dm => intro a w _ hAt; exact hAt.elim
  | mk k m ao b o len cap ps ih =>
    intro a w ha hAt
    show Calls Tryz.prog 52 #[.agg #[.int .i64 k, .int .i64 m, .slice ao len cap], .func (.func 31) #[] #[], .int .i64 2000, .int .i64 a] w fun r w' => r = .returned (.int .i64 (min (a + (1 + sumTo (fun i => (ps i).nodes) len)) 2001 : Nat)) ∧ Below w.heap.size w w'
    have B0 := below_alloc w (.cells #[.int .i64 k, .int .i64 m, .slice ao len cap] 35)
    have hb : len ≤ 9223372036854775807 := hAt.bound
    have hnil : 0 < len → ao = some ⟨b, o, none⟩ := hAt.nil
    have HS : Hid (Vl.At (w.alloc (.cells #[.int .i64 k, .int .i64 m, .slice ao len cap] 35)) (.mk k m ao b o len cap ps) ∧ Below w.heap.size w (w.alloc (.cells #[.int .i64 k, .int .i64 m, .slice ao len cap] 35))) := ⟨hAt.kept B0, B0⟩
    have hP : Calls Tryz.prog 31 #[.agg #[.int .i64 k, .int .i64 m, .slice ao len cap]] (w.alloc (.cells #[.int .i64 k, .int .i64 m, .slice ao len cap] 35)) fun r w' => r = .returned (.slice ao len cap) ∧ Below (w.alloc (.cells #[.int .i64 k, .int .i64 m, .slice ao len cap] 35)).heap.size (w.alloc (.cells #[.int .i64 k, .int .i64 m, .slice ao len cap] 35)) w' := vpartsOf_any (.mk k m ao b o len cap ps) _
    clear B0 hAt
    go_enter Tryz.func52, Tryz.ntmps52
    go_wp2_with fail
    refine hP.mono ?_
    rintro _ w5 ⟨rfl, hb5⟩
    have HS : Hid (Vl.At w5 (.mk k m ao b o len cap ps) ∧ Below w.heap.size w w5) := ⟨HS.out.1.kept hb5, Below.next HS.out.2 hb5⟩
    clear hb5 hP
    go_wp2
    go_loopw [9, 18] (fun mm i wr => ∃ (q j : Nat), j ≤ len ∧ mm = .int .i64 q ∧ i = .int .i64 j ∧ q = min (a + (1 + sumTo (fun i => (ps i).nodes) j)) 2001 ∧ Vl.At wr (.mk k m ao b o len cap ps) ∧ Below w.heap.size w wr) (fun _ i _ => len - (intOf i).toNat)
    case atStart => exact ⟨a + 1, 0, Nat.zero_le _, by rw [Int.natCast_add]; rfl, rfl, by simp only [sumTo]; omega, HS.out⟩
    case round =>
      obtain ⟨q, j, hj, rfl, rfl, hm, hA, hB⟩ := hrel
      clear HS
      have HQ : Hid (q = min (a + (1 + sumTo (fun i => (ps i).nodes) j)) 2001) := hm
      clear hm
      by_cases hlt : j < len
      · have ij : (j : Int) < len := by omega
        have a0 := hnil (by omega)
        subst a0
        have C : C3 wr b (o + j * 3) (ps j) := hA.cells hlt
        have P : (ps j).At wr := hA.part hlt
        have X0 := Bv.new wr (ps j)
        have B0 := below_alloc wr (.cells #[.int .i64 (ps j).k, .int .i64 (ps j).m, .slice (ps j).ao (ps j).len (ps j).cap] 35)
        have HS : Hid (Vl.At wr (.mk k m (some ⟨b, o, none⟩) b o len cap ps) ∧ Below w.heap.size w wr) := ⟨hA, hB⟩
        have y0 := C.c0
        have y1 := C.c1
        have y2 := C.c2
        clear hA C hB
        by_cases h40 : 2000 < q
        · have d40 : decide ((2000 : Int) < q) = true := by simp; omega
          have HE : Hid (min (a + (1 + sumTo (fun i => (ps i).nodes) len)) 2001 = q) := by
            show min (a + (1 + sumTo (fun i => (ps i).nodes) len)) 2001 = q
            have := HQ.out
            have h2 := sumTo_mono (fun i => (ps i).nodes) hj
            omega
          go_wp2
          all_goals go_ret
          all_goals exact ⟨ret_int (by have h2 := HE.out; omega), Below.next HS.out.2 B0⟩
        · have d40 : decide ((2000 : Int) < q) = false := by simp; omega
          go_wp2_with fail
          refine (ih j q _ (by omega) (P.kept B0)).mono ?_
          rintro r w1 ⟨rfl, hb1⟩
          have B1 := Below.next B0 hb1
          go_wp2
          go_roundw
          case rel => exact ⟨min (q + (ps j).nodes) 2001, j + 1, by omega, rfl, by go_num, by have := HQ.out; simp only [sumTo]; omega, HS.out.1.kept B1, Below.next HS.out.2 B1⟩
          case measure => simp [intOf]; omega
      · have e : len = j := by omega
        subst e
        have d : ¬ (len : Int) < len := by omega
        go_wp2
        go_ret
        exact ⟨ret_int (by have h1 := HQ.out; omega), hB⟩

set_option maxHeartbeats 1000000 in
theorem vCount_any (t : Vl) (w : World) (ht : t.At w) : Calls Tryz.prog 30 #[.agg #[.int .i64 t.k, .int .i64 t.m, .slice t.ao t.len t.cap], .func (.func 31) #[] #[], .int .i64 2000] w fun e w' => e = .returned (.int .i64 (min t.nodes 2001 : Nat)) ∧ Below w.heap.size w w' := by
  have B0 := below_alloc w (.cells #[.int .i64 t.k, .int .i64 t.m, .slice t.ao t.len t.cap] 35)
  have h := vcount_any t 0 _ (by omega) (ht.kept B0)
  rw [Nat.zero_add] at h
  go_enter Tryz.func30, Tryz.ntmps30
  go_wp2_with fail
  refine h.mono ?_
  rintro r w1 ⟨rfl, hb1⟩
  go_wp2
  go_ret
  exact ⟨rfl, Below.next B0 hb1⟩

set_option maxHeartbeats 1000000 in
theorem vNodes_any (t : Vl) (w : World) (ht : t.At w) : Calls Tryz.prog 14 #[.agg #[.int .i64 t.k, .int .i64 t.m, .slice t.ao t.len t.cap]] w fun e w' => e = .returned (.int .i64 (min t.nodes 2001 : Nat)) ∧ Below w.heap.size w w' := by
  have B0 := below_alloc w (.cells #[.int .i64 t.k, .int .i64 t.m, .slice t.ao t.len t.cap] 35)
  have h := vCount_any t _ (ht.kept B0)
  go_enter Tryz.func14, Tryz.ntmps14
  go_wp2_with fail
  refine h.mono ?_
  rintro r w1 ⟨rfl, hb1⟩
  go_wp2
  go_ret
  exact ⟨rfl, Below.next B0 hb1⟩

set_option maxHeartbeats 1000000 in
theorem rvSmall_any (t : Vl) (w : World) (ht : t.At w) : Calls Tryz.prog 18 #[.agg #[.int .i64 t.k, .int .i64 t.m, .slice t.ao t.len t.cap]] w fun e w' => e = .returned (.bool (decide (t.nodes ≤ 2000))) ∧ Below w.heap.size w w' := by
  have B0 := below_alloc w (.cells #[.int .i64 t.k, .int .i64 t.m, .slice t.ao t.len t.cap] 35)
  have HE : Hid (decide ((min t.nodes 2001 : Nat) ≤ (2000 : Int)) = decide (t.nodes ≤ 2000)) := by
    show decide (((min t.nodes 2001 : Nat) : Int) ≤ 2000) = decide (t.nodes ≤ 2000)
    exact decide_eq_decide.2 (by omega)
  go_enter Tryz.func18, Tryz.ntmps18
  go_wp2_with fail
  refine (rvNodes_any t _ (ht.kept B0)).mono ?_
  rintro r w1 ⟨rfl, hb1⟩
  generalize min t.nodes 2001 = q at HE
  go_wp2
  go_ret
  exact ⟨ret_bool HE.out, Below.next B0 hb1⟩
end Go.Proofs.YtnkipiegjpjfbaaGreatDoor

/- Layer 3: formed values. -/
namespace Go.Proofs.YtnkipiegjpjfbaaGreatDoor
open Go.RowKit

theorem len_beq (len q : Nat) : ((len : Int) == (q : Int)) = (len == q) := by
  by_cases h : len = q
  · subst h; simp
  · rw [beq_eq_false_iff_ne.2 h, beq_eq_false_iff_ne.2 (by omega)]

set_option maxHeartbeats 2000000 in
theorem nodeFormed_any (v : Vl) (w : World) : Calls Tryz.prog 67 #[.agg #[.int .i64 v.k, .int .i64 v.m, .slice v.ao v.len v.cap]] w fun e w' => e = .returned (.bool (ndB v.k v.m v.len)) ∧ Below w.heap.size w w' := by
  have X0 := Bv.new w v
  have B0 := below_alloc w (.cells #[.int .i64 v.k, .int .i64 v.m, .slice v.ao v.len v.cap] 35)
  have c0 := X0.c0
  have c1 := X0.c1
  have c2 := X0.c2
  clear X0
  have z0 := len_beq v.len 0
  have z2 := len_beq v.len 2
  rw [show ((0 : Nat) : Int) = 0 from rfl] at z0
  rw [show ((2 : Nat) : Int) = 2 from rfl] at z2
  generalize hE : ndB v.k v.m v.len = E
  have HE : Hid (ndB v.k v.m v.len = E) := hE
  clear hE
  generalize v.k = k at *
  generalize v.m = m at *
  by_cases h1 : k = 1
  · subst h1
    cases hl : (v.len == 0)
    · rw [hl] at z0
      go_enter Tryz.func67, Tryz.ntmps67
      go_wp2
      go_ret
      exact ⟨ret_bool (by rw [← HE.out]; simp [ndB, hl]), B0⟩
    · rw [hl] at z0
      go_enter Tryz.func67, Tryz.ntmps67
      go_wp2
      go_ret
      exact ⟨ret_bool (by rw [← HE.out]; simp [ndB, hl]), B0⟩
  have q1 : (k == 1) = false := beq_eq_false_iff_ne.2 h1
  by_cases h2 : k = 2
  · subst h2
    cases hl : (v.len == 0)
    · rw [hl] at z0
      go_enter Tryz.func67, Tryz.ntmps67
      go_wp2
      go_ret
      exact ⟨ret_bool (by rw [← HE.out]; simp [ndB, hl]), B0⟩
    · rw [hl] at z0
      cases m0 : (m == 0)
      · cases m1 : (m == 1)
        · go_enter Tryz.func67, Tryz.ntmps67
          go_wp2
          go_ret
          exact ⟨ret_bool (by rw [← HE.out]; simp [ndB, hl, m0, m1]), B0⟩
        · go_enter Tryz.func67, Tryz.ntmps67
          go_wp2
          go_ret
          exact ⟨ret_bool (by rw [← HE.out]; simp [ndB, hl, m0, m1]), B0⟩
      · have e0 : m = 0 := by simpa using m0
        subst e0
        go_enter Tryz.func67, Tryz.ntmps67
        go_wp2
        go_ret
        exact ⟨ret_bool (by rw [← HE.out]; simp [ndB, hl]), B0⟩
  have q2 : (k == 2) = false := beq_eq_false_iff_ne.2 h2
  by_cases h3 : k = 3
  · subst h3
    cases hl : (v.len == 2)
    · rw [hl] at z2
      go_enter Tryz.func67, Tryz.ntmps67
      go_wp2
      go_ret
      exact ⟨ret_bool (by rw [← HE.out]; simp [ndB, hl]), B0⟩
    · rw [hl] at z2
      go_enter Tryz.func67, Tryz.ntmps67
      go_wp2
      go_ret
      exact ⟨ret_bool (by rw [← HE.out]; simp [ndB, hl]), B0⟩
  have q3 : (k == 3) = false := beq_eq_false_iff_ne.2 h3
  by_cases h4 : k = 4
  · subst h4
    by_cases m0 : 0 ≤ m
    · have d0 : decide (m ≥ 0) = true := decide_eq_true m0
      go_enter Tryz.func67, Tryz.ntmps67
      go_wp2
      go_ret
      exact ⟨ret_bool (by rw [← HE.out]; simp [ndB, m0]), B0⟩
    · have d0 : decide (m ≥ 0) = false := decide_eq_false m0
      have HV : Hid (ndB 4 m v.len = false) := by show ndB 4 m v.len = false; simp [ndB, m0]
      go_enter Tryz.func67, Tryz.ntmps67
      go_wp2
      go_ret
      exact ⟨ret_bool (by rw [← HE.out]; rw [HV.out]), B0⟩
  have q4 : (k == 4) = false := beq_eq_false_iff_ne.2 h4
  by_cases h5 : k = 5
  · subst h5
    cases hl : (v.len == 0)
    · rw [hl] at z0
      go_enter Tryz.func67, Tryz.ntmps67
      go_wp2
      go_ret
      exact ⟨ret_bool (by rw [← HE.out]; simp [ndB, hl]), B0⟩
    · rw [hl] at z0
      by_cases m0 : 0 ≤ m
      · have d0 : decide (m ≥ 0) = true := decide_eq_true m0
        go_enter Tryz.func67, Tryz.ntmps67
        go_wp2
        go_ret
        exact ⟨ret_bool (by rw [← HE.out]; simp [ndB, hl, m0]), B0⟩
      · have d0 : decide (m ≥ 0) = false := decide_eq_false m0
        have HV : Hid (ndB 5 m v.len = false) := by show ndB 5 m v.len = false; simp [ndB, hl, m0]
        go_enter Tryz.func67, Tryz.ntmps67
        go_wp2
        go_ret
        exact ⟨ret_bool (by rw [← HE.out]; rw [HV.out]), B0⟩
  have q5 : (k == 5) = false := beq_eq_false_iff_ne.2 h5
  go_enter Tryz.func67, Tryz.ntmps67
  go_wp2
  go_ret
  exact ⟨ret_bool (by rw [← HE.out]; simp [ndB, h1, h2, h3, h4, h5]), B0⟩

set_option maxRecDepth 100000 in
set_option maxHeartbeats 4000000 in
theorem vformed_any : ∀ (v : Vl) (w : World), v.At w → Calls Tryz.prog 43 #[.agg #[.int .i64 v.k, .int .i64 v.m, .slice v.ao v.len v.cap]] w fun e w' => e = .returned (.bool v.fm) ∧ Below w.heap.size w w' := by
  intro v
  induction v with
  | dm => intro w hAt; exact hAt.elim
  | mk k m ao b o len cap ps ih =>
    intro w hAt
    show Calls Tryz.prog 43 #[.agg #[.int .i64 k, .int .i64 m, .slice ao len cap]] w fun r w' => r = .returned (.bool (ndB k m len && decide (∀ i, i < len → (ps i).fm = true))) ∧ Below w.heap.size w w'
    have X0 := Bv.new w (.mk k m ao b o len cap ps)
    have B0 := below_alloc w (.cells #[.int .i64 k, .int .i64 m, .slice ao len cap] 35)
    have hb : len ≤ 9223372036854775807 := hAt.bound
    have hnil : 0 < len → ao = some ⟨b, o, none⟩ := hAt.nil
    have H1 := nodeFormed_any (.mk k m ao b o len cap ps) (w.alloc (.cells #[.int .i64 k, .int .i64 m, .slice ao len cap] 35))
    simp only [Vl.k, Vl.m, Vl.ao, Vl.len, Vl.cap] at X0 H1
    have c0 := X0.c0
    have c1 := X0.c1
    have c2 := X0.c2
    simp only [Vl.k, Vl.m, Vl.ao, Vl.len, Vl.cap] at c0 c1 c2
    have hA0 := hAt.kept B0
    clear hAt
    go_enter Tryz.func43, Tryz.ntmps43
    go_wp2_with fail
    refine H1.mono ?_
    rintro e w1 ⟨rfl, hb1⟩
    have B1 := Below.next B0 hb1
    have hA1 := hA0.kept hb1
    have c2' := (X0.kept hb1).c2
    simp only [Vl.ao, Vl.len, Vl.cap] at c2'
    clear c0 c1 c2 X0 B0 hb1 hA0 H1
    cases hN : ndB k m len
    · have HN : Hid (ndB k m len = false) := hN
      go_wp2
      go_ret
      exact ⟨ret_bool (by rw [HN.out]; rfl), B1⟩
    · have HN : Hid (ndB k m len = true) := hN
      clear hN
      go_wp2
      clear c2'
      go_loopw [11] (fun i wr => ∃ j : Nat, j ≤ len ∧ i = .int .i64 j ∧ (∀ i, i < j → (ps i).fm = true) ∧ Vl.At wr (.mk k m ao b o len cap ps) ∧ Below w.heap.size w wr) (fun i _ => len - (intOf i).toNat)
      case atStart => exact ⟨0, Nat.zero_le _, rfl, fun _ h => absurd h (Nat.not_lt_zero _), hA1, B1⟩
      case round =>
        obtain ⟨j, hj, rfl, hdone, hA, hB⟩ := hrel
        clear hA1 B1
        have HD : Hid (∀ i, i < j → (ps i).fm = true) := hdone
        clear hdone
        by_cases hlt : j < len
        · have ij : (j : Int) < len := by omega
          have a0 := hnil (by omega)
          subst a0
          have C : C3 wr b (o + j * 3) (ps j) := hA.cells hlt
          have P : (ps j).At wr := hA.part hlt
          have Ba := below_alloc wr (.cells #[.int .i64 (ps j).k, .int .i64 (ps j).m, .slice (ps j).ao (ps j).len (ps j).cap] 35)
          have y0 := C.c0
          have y1 := C.c1
          have y2 := C.c2
          have hI := ih j _ (P.kept Ba)
          clear C P
          go_wp2_with fail
          refine hI.mono ?_
          rintro e w2 ⟨rfl, hb2⟩
          have B2 := Below.next Ba hb2
          clear hI y0 y1 y2 Ba hb2
          cases hf : (ps j).fm
          · go_wp2
            go_ret
            exact ⟨ret_bool (by rw [HN.out, Bool.true_and]; exact (decide_eq_false (fun hh => by rw [hh j hlt] at hf; cases hf)).symm), Below.next hB B2⟩
          · go_wp2
            go_roundw
            case rel => exact ⟨j + 1, by omega, by go_num, fun i hi => (by
                by_cases e : i = j
                · subst e; exact hf
                · exact HD.out i (by omega)), hA.kept B2, Below.next hB B2⟩
            case measure => simp [intOf]; omega
        · have e : len = j := by omega
          subst e
          have dl : ¬ (len : Int) < len := by omega
          go_wp2
          go_ret
          exact ⟨ret_bool (by rw [HN.out, Bool.true_and]; exact (decide_eq_true HD.out).symm), hB⟩

set_option maxHeartbeats 2000000 in
theorem vFormed_any (v : Vl) (w : World) (hv : v.At w) : Calls Tryz.prog 24 #[.agg #[.int .i64 v.k, .int .i64 v.m, .slice v.ao v.len v.cap]] w fun e w' => e = .returned (.bool v.ok) ∧ Below w.heap.size w w' := by
  have X0 := Bv.new w v
  have B0 := below_alloc w (.cells #[.int .i64 v.k, .int .i64 v.m, .slice v.ao v.len v.cap] 35)
  have c0 := X0.c0
  have c1 := X0.c1
  have c2 := X0.c2
  have H1 := vNodes_any v _ (hv.kept B0)
  have HE : Hid (decide (((min v.nodes 2001 : Nat) : Int) ≤ 2000) = decide (v.nodes ≤ 2000)) := by
    show decide (((min v.nodes 2001 : Nat) : Int) ≤ 2000) = decide (v.nodes ≤ 2000)
    rw [decide_eq_decide]; omega
  generalize min v.nodes 2001 = q at H1 HE
  go_enter Tryz.func24, Tryz.ntmps24
  go_wp2_with fail
  refine H1.mono ?_
  rintro e w1 ⟨rfl, hb1⟩
  have X1 := X0.kept hb1
  have B1 := Below.next B0 hb1
  have H2 := vformed_any v _ (hv.kept B1)
  clear c0 c1 c2 X0 H1 B0 hb1
  cases hq : decide ((q : Int) ≤ 2000)
  · have HV : Hid (v.ok = false) := by show v.ok = false; unfold Vl.ok; rw [← HE.out, hq]; rfl
    go_wp2
    go_ret
    exact ⟨ret_bool HV.out.symm, B1⟩
  · have HV : Hid (v.ok = v.fm) := by show v.ok = v.fm; unfold Vl.ok; rw [← HE.out, hq]; rfl
    have c0 := X1.c0
    have c1 := X1.c1
    have c2 := X1.c2
    go_wp2_with fail
    refine H2.mono ?_
    rintro e w2 ⟨rfl, hb2⟩
    go_wp2
    go_ret
    exact ⟨ret_bool HV.out.symm, Below.next B1 hb2⟩
end Go.Proofs.YtnkipiegjpjfbaaGreatDoor

/- Layer 2: Below is an order on formed types. No program is walked here. -/
namespace Go.Proofs.YtnkipiegjpjfbaaGreatDoor

/-- An order on the numbers below N. -/
structure Po (N : Nat) (le : Nat → Nat → Bool) : Prop where
  refl : ∀ a, a < N → le a a = true
  anti : ∀ a b, a < N → b < N → le a b = true → le b a = true → a = b
  trans : ∀ a b c, a < N → b < N → c < N → le a b = true → le b c = true → le a c = true
theorem po_of {n : Strs} {g : Grid} (hF : formedB n g = true) : Po n.len g.B :=
  ⟨fun _ ha => lq_refl hF ha, fun _ _ ha hb h1 h2 => lq_anti hF ha hb h1 h2, fun _ _ _ ha hb hc h1 h2 => lq_trans hF ha hb hc h1 h2⟩

/-- A formed type. -/
structure Fd (N : Nat) (t : Ty) : Prop where
  gd : Gd N t
  part : ∀ i, i < t.len → ∃ d, (t.ps i).fm N d = true
theorem fd_of {N d : Nat} {t : Ty} (h : t.fm N d = true) : Fd N t := ⟨(fm_gd h).1, fun i hi => ⟨_, (fm_gd h).2.2 i hi⟩⟩
theorem Fd.sub {N : Nat} {t : Ty} (h : Fd N t) {i : Nat} (hi : i < t.len) : Fd N (t.ps i) := by
  obtain ⟨d, hd⟩ := h.part i hi
  exact fd_of hd
theorem Fd.two {N : Nat} {t : Ty} (h : Fd N t) (hk : t.k = 3 ∨ t.k = 4) : t.len = 2 := by
  have := h.gd.ar
  rw [arity_two hk] at this
  omega
theorem Fd.one {N : Nat} {t : Ty} (h : Fd N t) (hk : t.k = 5) : t.len = 1 := by
  have := h.gd.ar
  rw [hk] at this
  have h5 : arityI 5 = 1 := rfl
  omega
theorem Fd.lab {N : Nat} {t : Ty} (h : Fd N t) : ∃ x : Nat, t.l = x ∧ x < N := inR_nat h.gd.lab
theorem Fd.heap {N : Nat} {t : Ty} (h : Fd N t) (hk : t.k = 4) : ∃ x : Nat, t.h = x ∧ x < N := by
  have := h.gd.bnd
  rw [hk] at this
  exact inR_nat (bnd4 this).1
theorem Fd.exc {N : Nat} {t : Ty} (h : Fd N t) (hk : t.k = 4) : t.e = -1 ∨ ∃ x : Nat, t.e = x ∧ x < N := by
  have := h.gd.bnd
  rw [hk] at this
  exact (bnd4 this).2.imp (fun h => h) inR_nat
theorem Fd.zero {N : Nat} {t : Ty} (h : Fd N t) (hk : t.k ≠ 4) : t.h = 0 ∧ t.e = 0 := by
  have := h.gd.bnd
  unfold bndI at this
  rw [if_neg hk, Bool.and_eq_true] at this
  exact ⟨by simpa using this.1, by simpa using this.2⟩
theorem Fd.ne {N : Nat} {t : Ty} (h : Fd N t) : t ≠ .dm := fun e => by
  subst e
  have := h.gd.ar
  have h0 : arityI (Ty.k .dm) = -1 := rfl
  rw [h0] at this
  have h1 : Ty.len .dm = 0 := rfl
  rw [h1] at this
  omega

theorem same_refl : ∀ s : Ty, s.same s = true := by
  intro s
  induction s with
  | dm => rfl
  | mk k l h e ao b o len cap ps ih =>
    rw [same_eq]
    unfold hdEq
    simp only [beq_self_eq_true, Bool.and_self, Bool.true_and, decide_eq_true_eq]
    exact fun i _ => ih i
theorem same_iff (s t : Ty) : s.same t = true ↔ (s.k = t.k ∧ s.l = t.l ∧ s.h = t.h ∧ s.e = t.e ∧ s.len = t.len) ∧ ∀ i, i < s.len → (s.ps i).same (t.ps i) = true := by
  rw [same_eq, Bool.and_eq_true, decide_eq_true_eq]
  unfold hdEq
  simp only [Bool.and_eq_true, beq_iff_eq]
  constructor
  · rintro ⟨⟨⟨⟨⟨h1, h2⟩, h3⟩, h4⟩, h5⟩, h6⟩
    exact ⟨⟨h1, h2, h3, h4, h5⟩, h6⟩
  · rintro ⟨⟨h1, h2, h3, h4, h5⟩, h6⟩
    exact ⟨⟨⟨⟨⟨h1, h2⟩, h3⟩, h4⟩, h5⟩, h6⟩
theorem same_trans : ∀ s t u : Ty, s.same t = true → t.same u = true → s.same u = true := by
  intro s
  induction s with
  | dm =>
    intro t u h1 h2
    rw [same_iff] at h1 h2 ⊢
    exact ⟨⟨h1.1.1.trans h2.1.1, h1.1.2.1.trans h2.1.2.1, h1.1.2.2.1.trans h2.1.2.2.1, h1.1.2.2.2.1.trans h2.1.2.2.2.1, h1.1.2.2.2.2.trans h2.1.2.2.2.2⟩, fun i hi => absurd hi (Nat.not_lt_zero _)⟩
  | mk k l h e ao b o len cap ps ih =>
    intro t u h1 h2
    rw [same_iff] at h1 h2 ⊢
    exact ⟨⟨h1.1.1.trans h2.1.1, h1.1.2.1.trans h2.1.2.1, h1.1.2.2.1.trans h2.1.2.2.1, h1.1.2.2.2.1.trans h2.1.2.2.2.1, h1.1.2.2.2.2.trans h2.1.2.2.2.2⟩, fun i hi => ih i (t.ps i) (u.ps i) (h1.2 i hi) (h2.2 i (by rw [← h1.1.2.2.2.2]; exact hi))⟩

theorem step_congr {le : Nat → Nat → Bool} {s t : Ty} {p0 p1 q0 q1 : Bool} (h : s.k = t.k → (s.k = 3 ∨ s.k = 4) → p0 = q0 ∧ p1 = q1) : stepB le s t p0 p1 = stepB le s t q0 q1 := by
  unfold stepB
  by_cases hk : s.k = t.k
  · by_cases h3 : s.k = 3
    · obtain ⟨rfl, rfl⟩ := h hk (Or.inl h3); rfl
    · by_cases h4 : s.k = 4
      · obtain ⟨rfl, rfl⟩ := h hk (Or.inr h4); rfl
      · simp only [if_neg h3, if_neg h4]
  · rw [beq_eq_false_iff_ne.2 hk]; rfl

theorem bel_flip {N : Nat} {le : Nat → Nat → Bool} : ∀ s t : Ty, Fd N s → Fd N t → s.bel le false t = t.bel le true s ∧ s.bel le true t = t.bel le false s := by
  intro s
  induction s with
  | dm => intro t hs; exact absurd rfl hs.ne
  | mk k l h e ao b o len cap ps ih =>
    intro t hs ht
    have key : ∀ i, (Ty.mk k l h e ao b o len cap ps).k = t.k → ((Ty.mk k l h e ao b o len cap ps).k = 3 ∨ (Ty.mk k l h e ao b o len cap ps).k = 4) → i < 2 → (ps i).bel le false (t.ps i) = (t.ps i).bel le true (ps i) ∧ (ps i).bel le true (t.ps i) = (t.ps i).bel le false (ps i) := fun i hk h34 hi => by
      have h1 := hs.two h34
      have h2 := ht.two (by rw [← hk]; exact h34)
      exact ih i (t.ps i) (hs.sub (i := i) (by omega)) (ht.sub (i := i) (by omega))
    rw [bel_dn _ _ _ hs.ne, bel_up _ _ _ ht.ne, bel_up _ _ _ hs.ne, bel_dn _ _ _ ht.ne]
    refine ⟨step_congr (fun hk h34 => ?_), step_congr (fun hk h34 => ?_)⟩
    · have k0 := key 0 hk.symm (by rw [← hk]; exact h34) (by omega)
      have k1 := key 1 hk.symm (by rw [← hk]; exact h34) (by omega)
      exact ⟨by show (if t.k = 4 then (ps 0).bel le true (t.ps 0) else (ps 0).bel le false (t.ps 0)) = (if t.k = 4 then (t.ps 0).bel le false (ps 0) else (t.ps 0).bel le true (ps 0)); rw [k0.1, k0.2], k1.1⟩
    · have k0 := key 0 hk h34 (by omega)
      have k1 := key 1 hk h34 (by omega)
      exact ⟨by show (if k = 4 then (ps 0).bel le false (t.ps 0) else (ps 0).bel le true (t.ps 0)) = (if k = 4 then (t.ps 0).bel le true (ps 0) else (t.ps 0).bel le false (ps 0)); rw [k0.1, k0.2], k1.2⟩

/-- What Below says of formed types, in one step. -/
structure BelS (le : Nat → Nat → Bool) (s t : Ty) : Prop where
  k : s.k = t.k
  l : le s.l.toNat t.l.toNat = true
  pair : s.k = 3 → (s.ps 0).bel le true (t.ps 0) = true ∧ (s.ps 1).bel le true (t.ps 1) = true
  func : s.k = 4 → ((t.ps 0).bel le true (s.ps 0) = true ∧ (s.ps 1).bel le true (t.ps 1) = true) ∧ le t.h.toNat s.h.toNat = true ∧ excB le s.e t.e = true
  ref : s.k = 5 → (s.ps 0).same (t.ps 0) = true
theorem bel_iff {N : Nat} {le : Nat → Nat → Bool} {s t : Ty} (hs : Fd N s) (ht : Fd N t) : s.bel le true t = true ↔ BelS le s t := by
  rw [bel_up _ _ _ hs.ne]
  unfold stepB
  rw [Bool.and_eq_true, Bool.and_eq_true, beq_iff_eq]
  constructor
  · rintro ⟨⟨hk, hl⟩, h⟩
    refine ⟨hk, hl, fun h3 => ?_, fun h4 => ?_, fun h5 => ?_⟩
    · rw [if_pos h3, if_neg (by omega), Bool.and_eq_true] at h
      exact h
    · rw [if_neg (by omega), if_pos h4, if_pos h4, Bool.and_eq_true, Bool.and_eq_true, Bool.and_eq_true] at h
      have h1 := hs.two (Or.inr h4)
      have h2 := ht.two (by rw [← hk]; exact Or.inr h4)
      have hf := (bel_flip (le := le) (s.ps 0) (t.ps 0) (hs.sub (by omega)) (ht.sub (by omega))).1
      rw [hf] at h
      exact ⟨h.1.1, h.1.2, h.2⟩
    · rw [if_neg (by omega), if_neg (by omega), if_pos h5] at h
      exact h
  · intro h
    refine ⟨⟨h.k, h.l⟩, ?_⟩
    by_cases h3 : s.k = 3
    · rw [if_pos h3, if_neg (by omega), Bool.and_eq_true]
      exact h.pair h3
    · rw [if_neg h3]
      by_cases h4 : s.k = 4
      · rw [if_pos h4, if_pos h4, Bool.and_eq_true, Bool.and_eq_true, Bool.and_eq_true]
        have h1 := hs.two (Or.inr h4)
        have h2 := ht.two (by rw [← h.k]; exact Or.inr h4)
        have hf := (bel_flip (le := le) (s.ps 0) (t.ps 0) (hs.sub (by omega)) (ht.sub (by omega))).1
        rw [hf]
        exact ⟨⟨(h.func h4).1, (h.func h4).2.1⟩, (h.func h4).2.2⟩
      · rw [if_neg h4]
        by_cases h5 : s.k = 5
        · rw [if_pos h5]; exact h.ref h5
        · rw [if_neg h5]

theorem exc_refl {N : Nat} {le : Nat → Nat → Bool} (P : Po N le) {a : Int} (ha : a = -1 ∨ ∃ x : Nat, a = x ∧ x < N) : excB le a a = true := by
  unfold excB
  rcases ha with rfl | ⟨x, rfl, hx⟩
  · rfl
  · rw [show ((x : Int) != -1) = true from by simp, Int.toNat_natCast, P.refl x hx]; simp
theorem exc_iff {le : Nat → Nat → Bool} {a b : Int} : excB le a b = true ↔ a = -1 ∨ (b ≠ -1 ∧ le a.toNat b.toNat = true) := by
  unfold excB
  rw [Bool.or_eq_true, Bool.and_eq_true, beq_iff_eq, bne_iff_ne]
theorem exc_trans {N : Nat} {le : Nat → Nat → Bool} (P : Po N le) {a b c : Int} (ha : a = -1 ∨ ∃ x : Nat, a = x ∧ x < N) (hb : b = -1 ∨ ∃ x : Nat, b = x ∧ x < N) (hc : c = -1 ∨ ∃ x : Nat, c = x ∧ x < N) (h1 : excB le a b = true) (h2 : excB le b c = true) : excB le a c = true := by
  rw [exc_iff] at h1 h2 ⊢
  rcases h1 with h1 | ⟨h1, h1'⟩
  · exact Or.inl h1
  rcases h2 with h2 | ⟨h2, h2'⟩
  · exact absurd h2 h1
  rcases ha with ha | ⟨x, rfl, hx⟩
  · exact Or.inl ha
  rcases hb with hb | ⟨y, rfl, hy⟩
  · exact absurd hb h1
  rcases hc with hc | ⟨z, rfl, hz⟩
  · exact absurd hc h2
  exact Or.inr ⟨h2, P.trans _ _ _ hx hy hz h1' h2'⟩
theorem exc_anti {N : Nat} {le : Nat → Nat → Bool} (P : Po N le) {a b : Int} (ha : a = -1 ∨ ∃ x : Nat, a = x ∧ x < N) (hb : b = -1 ∨ ∃ x : Nat, b = x ∧ x < N) (h1 : excB le a b = true) (h2 : excB le b a = true) : a = b := by
  rw [exc_iff] at h1 h2
  rcases h1 with h1 | ⟨h1, h1'⟩
  · rcases h2 with h2 | ⟨h2, _⟩
    · rw [h1, h2]
    · exact absurd h1 h2
  rcases h2 with h2 | ⟨h2, h2'⟩
  · exact absurd h2 h1
  rcases ha with ha | ⟨x, rfl, hx⟩
  · exact absurd ha h2
  rcases hb with hb | ⟨y, rfl, hy⟩
  · exact absurd hb h1
  rw [P.anti x y hx hy h1' h2']

theorem bel_refl {N : Nat} {le : Nat → Nat → Bool} (P : Po N le) : ∀ s : Ty, Fd N s → s.bel le true s = true := by
  intro s
  induction s with
  | dm => intro hs; exact absurd rfl hs.ne
  | mk k l h e ao b o len cap ps ih =>
    intro hs
    rw [bel_iff hs hs]
    obtain ⟨x, hx, hx1⟩ := hs.lab
    have sub : ∀ i, i < 2 → (Ty.mk k l h e ao b o len cap ps).k = 3 ∨ (Ty.mk k l h e ao b o len cap ps).k = 4 → (ps i).bel le true (ps i) = true := fun i hi h34 => ih i (hs.sub (i := i) (by rw [hs.two h34]; omega))
    refine ⟨rfl, by rw [hx, Int.toNat_natCast]; exact P.refl x hx1, fun h3 => ⟨sub 0 (by omega) (Or.inl h3), sub 1 (by omega) (Or.inl h3)⟩, fun h4 => ⟨⟨sub 0 (by omega) (Or.inr h4), sub 1 (by omega) (Or.inr h4)⟩, ?_, exc_refl P (hs.exc h4)⟩, fun _ => same_refl _⟩
    obtain ⟨y, hy, hy1⟩ := hs.heap h4
    rw [hy, Int.toNat_natCast]; exact P.refl y hy1

theorem bel_trans {N : Nat} {le : Nat → Nat → Bool} (P : Po N le) : ∀ s t u : Ty, Fd N s → Fd N t → Fd N u → (s.bel le true t = true → t.bel le true u = true → s.bel le true u = true) ∧ (u.bel le true t = true → t.bel le true s = true → u.bel le true s = true) := by
  intro s
  induction s with
  | dm => intro t u hs; exact absurd rfl hs.ne
  | mk k l h e ao b o len cap ps ih =>
    intro t u hs ht hu
    obtain ⟨x, hx, hx1⟩ := hs.lab
    obtain ⟨y, hy, hy1⟩ := ht.lab
    obtain ⟨z, hz, hz1⟩ := hu.lab
    rw [bel_iff hs ht, bel_iff ht hu, bel_iff hs hu, bel_iff hu ht, bel_iff ht hs, bel_iff hu hs]
    have sub : ∀ i, i < 2 → (Ty.mk k l h e ao b o len cap ps).k = 3 ∨ (Ty.mk k l h e ao b o len cap ps).k = 4 → (Ty.mk k l h e ao b o len cap ps).k = t.k → (Ty.mk k l h e ao b o len cap ps).k = u.k → ((ps i).bel le true (t.ps i) = true → (t.ps i).bel le true (u.ps i) = true → (ps i).bel le true (u.ps i) = true) ∧ ((u.ps i).bel le true (t.ps i) = true → (t.ps i).bel le true (ps i) = true → (u.ps i).bel le true (ps i) = true) := fun i hi h34 ht' hu' => by
      have h1 := hs.two h34
      have h2 := ht.two (by rw [← ht']; exact h34)
      have h3 := hu.two (by rw [← hu']; exact h34)
      exact ih i (t.ps i) (u.ps i) (hs.sub (i := i) (by omega)) (ht.sub (by omega)) (hu.sub (by omega))
    constructor
    · intro a b'
      have ku := a.k.trans b'.k
      refine ⟨ku, ?_, fun h3 => ?_, fun h4 => ?_, fun h5 => ?_⟩
      · have q1 := a.l
        have q2 := b'.l
        rw [hx, hy, Int.toNat_natCast, Int.toNat_natCast] at q1
        rw [hy, hz, Int.toNat_natCast, Int.toNat_natCast] at q2
        rw [hx, hz, Int.toNat_natCast, Int.toNat_natCast]
        exact P.trans x y z hx1 hy1 hz1 q1 q2
      · have p1 := a.pair h3
        have p2 := b'.pair (by rw [← a.k]; exact h3)
        exact ⟨(sub 0 (by omega) (Or.inl h3) a.k ku).1 p1.1 p2.1, (sub 1 (by omega) (Or.inl h3) a.k ku).1 p1.2 p2.2⟩
      · have p1 := a.func h4
        have p2 := b'.func (by rw [← a.k]; exact h4)
        obtain ⟨xh, hxh, hxh1⟩ := hs.heap h4
        obtain ⟨yh, hyh, hyh1⟩ := ht.heap (by rw [← a.k]; exact h4)
        obtain ⟨zh, hzh, hzh1⟩ := hu.heap (by rw [← ku]; exact h4)
        refine ⟨⟨(sub 0 (by omega) (Or.inr h4) a.k ku).2 p2.1.1 p1.1.1, (sub 1 (by omega) (Or.inr h4) a.k ku).1 p1.1.2 p2.1.2⟩, ?_, exc_trans P (hs.exc h4) (ht.exc (by rw [← a.k]; exact h4)) (hu.exc (by rw [← ku]; exact h4)) p1.2.2 p2.2.2⟩
        have q1 := p1.2.1
        have q2 := p2.2.1
        rw [hxh, hyh, Int.toNat_natCast, Int.toNat_natCast] at q1
        rw [hyh, hzh, Int.toNat_natCast, Int.toNat_natCast] at q2
        rw [hxh, hzh, Int.toNat_natCast, Int.toNat_natCast]
        exact P.trans zh yh xh hzh1 hyh1 hxh1 q2 q1
      · exact same_trans _ _ _ (a.ref h5) (b'.ref (by rw [← a.k]; exact h5))
    · intro a b'
      have ku := a.k.trans b'.k
      refine ⟨ku, ?_, fun h3 => ?_, fun h4 => ?_, fun h5 => ?_⟩
      · have q1 := a.l
        have q2 := b'.l
        rw [hz, hy, Int.toNat_natCast, Int.toNat_natCast] at q1
        rw [hy, hx, Int.toNat_natCast, Int.toNat_natCast] at q2
        rw [hz, hx, Int.toNat_natCast, Int.toNat_natCast]
        exact P.trans z y x hz1 hy1 hx1 q1 q2
      · have p1 := a.pair h3
        have p2 := b'.pair (by rw [← a.k]; exact h3)
        have hk3 : (Ty.mk k l h e ao b o len cap ps).k = 3 := by rw [← ku]; exact h3
        exact ⟨(sub 0 (by omega) (Or.inl hk3) b'.k.symm ku.symm).2 p1.1 p2.1, (sub 1 (by omega) (Or.inl hk3) b'.k.symm ku.symm).2 p1.2 p2.2⟩
      · have p1 := a.func h4
        have p2 := b'.func (by rw [← a.k]; exact h4)
        have hk4 : (Ty.mk k l h e ao b o len cap ps).k = 4 := by rw [← ku]; exact h4
        obtain ⟨xh, hxh, hxh1⟩ := hs.heap hk4
        obtain ⟨yh, hyh, hyh1⟩ := ht.heap (by rw [← a.k]; exact h4)
        obtain ⟨zh, hzh, hzh1⟩ := hu.heap h4
        refine ⟨⟨(sub 0 (by omega) (Or.inr hk4) b'.k.symm ku.symm).1 p2.1.1 p1.1.1, (sub 1 (by omega) (Or.inr hk4) b'.k.symm ku.symm).2 p1.1.2 p2.1.2⟩, ?_, exc_trans P (hu.exc h4) (ht.exc (by rw [← a.k]; exact h4)) (hs.exc hk4) p1.2.2 p2.2.2⟩
        have q1 := p1.2.1
        have q2 := p2.2.1
        rw [hzh, hyh, Int.toNat_natCast, Int.toNat_natCast] at q1
        rw [hyh, hxh, Int.toNat_natCast, Int.toNat_natCast] at q2
        rw [hzh, hxh, Int.toNat_natCast, Int.toNat_natCast]
        exact P.trans xh yh zh hxh1 hyh1 hzh1 q2 q1
      · exact same_trans _ _ _ (a.ref h5) (b'.ref (by rw [← a.k]; exact h5))

theorem bel_anti {N : Nat} {le : Nat → Nat → Bool} (P : Po N le) : ∀ s t : Ty, Fd N s → Fd N t → s.bel le true t = true → t.bel le true s = true → s.same t = true := by
  intro s
  induction s with
  | dm => intro t hs; exact absurd rfl hs.ne
  | mk k l h e ao b o len cap ps ih =>
    intro t hs ht h1 h2
    rw [bel_iff hs ht] at h1
    rw [bel_iff ht hs] at h2
    obtain ⟨x, hx, hx1⟩ := hs.lab
    obtain ⟨y, hy, hy1⟩ := ht.lab
    have el : (Ty.mk k l h e ao b o len cap ps).l = t.l := by
      have q1 := h1.l
      have q2 := h2.l
      rw [hx, hy, Int.toNat_natCast, Int.toNat_natCast] at q1 q2
      rw [hx, hy, P.anti x y hx1 hy1 q1 q2]
    have elen : (Ty.mk k l h e ao b o len cap ps).len = t.len := by
      have a1 := hs.gd.ar
      have a2 := ht.gd.ar
      rw [h1.k] at a1
      omega
    have sub : ∀ i, i < (Ty.mk k l h e ao b o len cap ps).len → (ps i).bel le true (t.ps i) = true → (t.ps i).bel le true (ps i) = true → (ps i).same (t.ps i) = true := fun i hi => ih i (t.ps i) (hs.sub (i := i) hi) (ht.sub (by omega))
    rw [same_iff]
    by_cases h4 : (Ty.mk k l h e ao b o len cap ps).k = 4
    · have t4 : t.k = 4 := by rw [← h1.k]; exact h4
      have p1 := h1.func h4
      have p2 := h2.func t4
      obtain ⟨xh, hxh, hxh1⟩ := hs.heap h4
      obtain ⟨yh, hyh, hyh1⟩ := ht.heap t4
      refine ⟨⟨h1.k, el, ?_, exc_anti P (hs.exc h4) (ht.exc t4) p1.2.2 p2.2.2, elen⟩, fun i hi => ?_⟩
      · have q1 := p1.2.1
        have q2 := p2.2.1
        rw [hxh, hyh, Int.toNat_natCast, Int.toNat_natCast] at q1 q2
        rw [hxh, hyh, P.anti xh yh hxh1 hyh1 q2 q1]
      · have h2' := hs.two (Or.inr h4)
        by_cases e0 : i = 0
        · subst e0; exact sub 0 hi p2.1.1 p1.1.1
        · have e1 : i = 1 := by omega
          subst e1; exact sub 1 hi p1.1.2 p2.1.2
    · have z1 := hs.zero h4
      have z2 := ht.zero (by rw [← h1.k]; exact h4)
      refine ⟨⟨h1.k, el, z1.1.trans z2.1.symm, z1.2.trans z2.2.symm, elen⟩, fun i hi => ?_⟩
      by_cases h3 : (Ty.mk k l h e ao b o len cap ps).k = 3
      · have p1 := h1.pair h3
        have p2 := h2.pair (by rw [← h1.k]; exact h3)
        have h2' := hs.two (Or.inl h3)
        by_cases e0 : i = 0
        · subst e0; exact sub 0 hi p1.1 p2.1
        · have e1 : i = 1 := by omega
          subst e1; exact sub 1 hi p1.2 p2.2
      · by_cases h5 : (Ty.mk k l h e ao b o len cap ps).k = 5
        · have h1' := hs.one h5
          have e0 : i = 0 := by omega
          subst e0; exact h1.ref h5
        · exfalso
          have a1 := hs.gd.ar
          unfold arityI at a1
          rw [if_neg h5, if_neg h3, if_neg h4] at a1
          split at a1
          · omega
          · split at a1 <;> omega

theorem belB_iff {n : Strs} {g : Grid} {s t : Ty} : belB n g s t = true ↔ formedB n g = true ∧ s.ok n.len = true ∧ t.ok n.len = true ∧ s.bel g.B true t = true := by
  unfold belB
  rw [Bool.and_eq_true, Bool.and_eq_true, Bool.and_eq_true]
  exact ⟨fun h => ⟨h.1.1, h.1.2.1, h.1.2.2, h.2⟩, fun h => ⟨⟨h.1, h.2.1, h.2.2.1⟩, h.2.2.2⟩⟩
theorem fd_ok {N : Nat} {t : Ty} (h : t.ok N = true) : Fd N t := fd_of (ok_parts h).1
theorem belB_refl (n : Strs) (g : Grid) (s : Ty) : belB n g s s = okB n g s := by
  rw [Bool.eq_iff_iff, belB_iff]
  unfold okB
  rw [Bool.and_eq_true]
  exact ⟨fun h => ⟨h.1, h.2.1⟩, fun h => ⟨h.1, h.2, h.2, bel_refl (po_of h.1) s (fd_ok h.2)⟩⟩
theorem belB_trans {n : Strs} {g : Grid} {s t u : Ty} (h1 : belB n g s t = true) (h2 : belB n g t u = true) : belB n g s u = true := by
  rw [belB_iff] at h1 h2 ⊢
  exact ⟨h1.1, h1.2.1, h2.2.2.1, (bel_trans (po_of h1.1) s t u (fd_ok h1.2.1) (fd_ok h1.2.2.1) (fd_ok h2.2.2.1)).1 h1.2.2.2 h2.2.2.2⟩
theorem belB_anti {n : Strs} {g : Grid} {s t : Ty} (h1 : belB n g s t = true) (h2 : belB n g t s = true) : s.same t = true := by
  rw [belB_iff] at h1 h2
  exact bel_anti (po_of h1.1) s t (fd_ok h1.2.1) (fd_ok h1.2.2.1) h1.2.2.2 h2.2.2.2
end Go.Proofs.YtnkipiegjpjfbaaGreatDoor
