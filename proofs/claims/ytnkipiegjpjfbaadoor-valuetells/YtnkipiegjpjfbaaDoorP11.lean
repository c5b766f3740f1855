/- Layer 3: the counts of nodes. -/
import Derived.Test.YtnkipiegjpjfbaaDoorP10
import Derived.Test.YtnkipiegjpjfbaaDoorRows
import Derived.WalkKit
import Derived.WalkSpells
import Derived.WalkLawsBesides
import Derived.Lib.Builder
import Derived.Lib.AppendStr
import Derived.Lib.UnsafeStr
namespace Go.Proofs.YtnkipiegjpjfbaaDoor
open Go.RowKit

set_option maxHeartbeats 2000000 in
theorem rvNodes_any : ∀ (t : Vl) (w : World), t.At w → Calls Tryd.prog 17 #[.agg #[.int .i64 t.k, .int .i64 t.m, .slice t.ao t.len t.cap]] w fun e w' => e = .returned (.int .i64 (min t.nodes 2001 : Nat)) ∧ Below w.heap.size w w' := by
  intro t
  induction t with
  | dm => intro w hAt; exact hAt.elim
  | mk k m ao b o len cap ps ih =>
    intro w hAt
    show Calls Tryd.prog 17 #[.agg #[.int .i64 k, .int .i64 m, .slice ao len cap]] w fun r w' => r = .returned (.int .i64 (min (1 + sumTo (fun i => (ps i).nodes) len) 2001 : Nat)) ∧ Below w.heap.size w w'
    have X0 := Bv.new w (.mk k m ao b o len cap ps)
    have hb : len ≤ 9223372036854775807 := hAt.bound
    have hnil : 0 < len → ao = some ⟨b, o, none⟩ := hAt.nil
    have hA1 := hAt.kept (below_alloc w (.cells #[.int .i64 k, .int .i64 m, .slice ao len cap] 24))
    have B0 := below_alloc w (.cells #[.int .i64 k, .int .i64 m, .slice ao len cap] 24)
    have HS : Hid (Bv (w.alloc (.cells #[.int .i64 k, .int .i64 m, .slice ao len cap] 24)) w.heap.size (.mk k m ao b o len cap ps) ∧ Vl.At (w.alloc (.cells #[.int .i64 k, .int .i64 m, .slice ao len cap] 24)) (.mk k m ao b o len cap ps) ∧ Below w.heap.size w (w.alloc (.cells #[.int .i64 k, .int .i64 m, .slice ao len cap] 24))) := ⟨X0, hA1, B0⟩
    clear X0 hA1 B0 hAt
    go_enter Tryd.func17, Tryd.ntmps17
    go_wp2
    go_loopw [3, 4] (fun mm i wr => ∃ (q j : Nat), j ≤ len ∧ mm = .int .i64 q ∧ i = .int .i64 j ∧ q ≤ 4001 ∧ min q 2001 = min (1 + sumTo (fun i => (ps i).nodes) j) 2001 ∧ Bv wr w.heap.size (.mk k m ao b o len cap ps) ∧ Vl.At wr (.mk k m ao b o len cap ps) ∧ Below w.heap.size w wr) (fun _ i _ => len - (intOf i).toNat)
    case atStart => exact ⟨1, 0, Nat.zero_le _, rfl, rfl, by omega, rfl, HS.out⟩
    case round =>
      obtain ⟨q, j, hj, rfl, rfl, hq, hm, hX, hA, hB⟩ := hrel
      clear HS
      have x2 : wr.cell? ⟨w.heap.size, 2, none⟩ = some (.slice ao len cap) := hX.c2
      have HS : Hid (Bv wr w.heap.size (.mk k m ao b o len cap ps) ∧ Vl.At wr (.mk k m ao b o len cap ps) ∧ Below w.heap.size w wr) := ⟨hX, hA, hB⟩
      have HQ : Hid (min q 2001 = min (1 + sumTo (fun i => (ps i).nodes) j) 2001) := hm
      clear hX hm hB
      by_cases hlt : j < len
      · have ij : (j : Int) < len := by omega
        by_cases h40 : q ≤ 2000
        · have d40 : decide ((q : Int) ≤ 2000) = true := by simp; omega
          have a0 := hnil (by omega)
          subst a0
          have C : C3 wr b (o + j * 3) (ps j) := hA.cells hlt
          have P : (ps j).At wr := hA.part hlt
          have y0 := C.c0
          have y1 := C.c1
          have y2 := C.c2
          clear hA C
          go_wp2_with fail
          refine (ih j _ P).mono ?_
          rintro r w1 ⟨rfl, hb1⟩
          clear y0 y1 y2 x2
          go_wp2
          go_roundw
          case rel => exact ⟨q + min (ps j).nodes 2001, j + 1, by omega, by rw [Int.natCast_add], by go_num, by omega, by have := HQ.out; simp only [sumTo]; omega, HS.out.1.kept hb1, HS.out.2.1.kept hb1, HS.out.2.2.trans (hb1.mono HS.out.2.2.size)⟩
          case measure => simp [intOf]; omega
        · have d40 : decide ((q : Int) ≤ 2000) = false := by simp; omega
          have HE : Hid (min (1 + sumTo (fun i => (ps i).nodes) len) 2001 = 2001) := by
            show min (1 + sumTo (fun i => (ps i).nodes) len) 2001 = 2001
            have := HQ.out
            have h2 := sumTo_mono (fun i => (ps i).nodes) hj
            omega
          have HF : Hid (min q 2001 = 2001) := by show min q 2001 = 2001; omega
          go_wp2
          all_goals go_ret
          all_goals exact ⟨ret_int (by have h1 := HF.out; have h2 := HE.out; omega), HS.out.2.2⟩
      · have e : len = j := by omega
        subst e
        have d : ¬ (len : Int) < len := by omega
        go_wp2
        all_goals go_ret
        all_goals exact ⟨ret_int (by have h1 := HQ.out; omega), HS.out.2.2⟩

set_option maxHeartbeats 1000000 in
theorem vpartsOf_any (t : Vl) (w : World) :
    Calls Tryd.prog 26 #[.agg #[.int .i64 t.k, .int .i64 t.m, .slice t.ao t.len t.cap]] w fun e w' => e = .returned (.slice t.ao t.len t.cap) ∧ Below w.heap.size w w' := by
  have X0 := Bv.new w t
  have B0 := below_alloc w (.cells #[.int .i64 t.k, .int .i64 t.m, .slice t.ao t.len t.cap] 24)
  have x2 := X0.c2
  clear X0
  go_enter Tryd.func26, Tryd.ntmps26
  go_wp2
  go_ret
  exact ⟨rfl, B0⟩

set_option maxRecDepth 100000 in
set_option maxHeartbeats 2000000 in
theorem vcount_any : ∀ (t : Vl) (a : Nat) (w : World), a ≤ 2000 → t.At w → Calls Tryd.prog 52 #[.agg #[.int .i64 t.k, .int .i64 t.m, .slice t.ao t.len t.cap], .func (.func 26) #[] #[], .int .i64 2000, .int .i64 a] w fun e w' => e = .returned (.int .i64 (min (a + t.nodes) 2001 : Nat)) ∧ Below w.heap.size w w' := by
  intro t
  induction t with
  | dm => intro a w _ hAt; exact hAt.elim
  | mk k m ao b o len cap ps ih =>
    intro a w ha hAt
    show Calls Tryd.prog 52 #[.agg #[.int .i64 k, .int .i64 m, .slice ao len cap], .func (.func 26) #[] #[], .int .i64 2000, .int .i64 a] w fun r w' => r = .returned (.int .i64 (min (a + (1 + sumTo (fun i => (ps i).nodes) len)) 2001 : Nat)) ∧ Below w.heap.size w w'
    have B0 := below_alloc w (.cells #[.int .i64 k, .int .i64 m, .slice ao len cap] 24)
    have hb : len ≤ 9223372036854775807 := hAt.bound
    have hnil : 0 < len → ao = some ⟨b, o, none⟩ := hAt.nil
    have HS : Hid (Vl.At (w.alloc (.cells #[.int .i64 k, .int .i64 m, .slice ao len cap] 24)) (.mk k m ao b o len cap ps) ∧ Below w.heap.size w (w.alloc (.cells #[.int .i64 k, .int .i64 m, .slice ao len cap] 24))) := ⟨hAt.kept B0, B0⟩
    have hP : Calls Tryd.prog 26 #[.agg #[.int .i64 k, .int .i64 m, .slice ao len cap]] (w.alloc (.cells #[.int .i64 k, .int .i64 m, .slice ao len cap] 24)) fun r w' => r = .returned (.slice ao len cap) ∧ Below (w.alloc (.cells #[.int .i64 k, .int .i64 m, .slice ao len cap] 24)).heap.size (w.alloc (.cells #[.int .i64 k, .int .i64 m, .slice ao len cap] 24)) w' := vpartsOf_any (.mk k m ao b o len cap ps) _
    clear B0 hAt
    go_enter Tryd.func52, Tryd.ntmps52
    go_wp2_with fail
    refine hP.mono ?_
    rintro _ w5 ⟨rfl, hb5⟩
    have HS : Hid (Vl.At w5 (.mk k m ao b o len cap ps) ∧ Below w.heap.size w w5) := ⟨HS.out.1.kept hb5, Below.next HS.out.2 hb5⟩
    clear hb5 hP
    go_wp2
    go_loopw [9, 18] (fun mm i wr => ∃ (q j : Nat), j ≤ len ∧ mm = .int .i64 q ∧ i = .int .i64 j ∧ q = min (a + (1 + sumTo (fun i => (ps i).nodes) j)) 2001 ∧ Vl.At wr (.mk k m ao b o len cap ps) ∧ Below w.heap.size w wr) (fun _ i _ => len - (intOf i).toNat)
    case atStart => exact ⟨a + 1, 0, Nat.zero_le _, by rw [Int.natCast_add]; rfl, rfl, by simp only [sumTo]; omega, HS.out⟩
    case round =>
      obtain ⟨q, j, hj, rfl, rfl, hm, hA, hB⟩ := hrel
      clear HS
      have HQ : Hid (q = min (a + (1 + sumTo (fun i => (ps i).nodes) j)) 2001) := hm
      clear hm
      by_cases hlt : j < len
      · have ij : (j : Int) < len := by omega
        have a0 := hnil (by omega)
        subst a0
        have C : C3 wr b (o + j * 3) (ps j) := hA.cells hlt
        have P : (ps j).At wr := hA.part hlt
        have X0 := Bv.new wr (ps j)
        have B0 := below_alloc wr (.cells #[.int .i64 (ps j).k, .int .i64 (ps j).m, .slice (ps j).ao (ps j).len (ps j).cap] 24)
        have HS : Hid (Vl.At wr (.mk k m (some ⟨b, o, none⟩) b o len cap ps) ∧ Below w.heap.size w wr) := ⟨hA, hB⟩
        have y0 := C.c0
        have y1 := C.c1
        have y2 := C.c2
        clear hA C hB
        by_cases h40 : 2000 < q
        · have d40 : decide ((2000 : Int) < q) = true := by simp; omega
          have HE : Hid (min (a + (1 + sumTo (fun i => (ps i).nodes) len)) 2001 = q) := by
            show min (a + (1 + sumTo (fun i => (ps i).nodes) len)) 2001 = q
            have := HQ.out
            have h2 := sumTo_mono (fun i => (ps i).nodes) hj
            omega
          go_wp2
          all_goals go_ret
          all_goals exact ⟨ret_int (by have h2 := HE.out; omega), Below.next HS.out.2 B0⟩
        · have d40 : decide ((2000 : Int) < q) = false := by simp; omega
          go_wp2_with fail
          refine (ih j q _ (by omega) (P.kept B0)).mono ?_
          rintro r w1 ⟨rfl, hb1⟩
          have B1 := Below.next B0 hb1
          go_wp2
          go_roundw
          case rel => exact ⟨min (q + (ps j).nodes) 2001, j + 1, by omega, rfl, by go_num, by have := HQ.out; simp only [sumTo]; omega, HS.out.1.kept B1, Below.next HS.out.2 B1⟩
          case measure => simp [intOf]; omega
      · have e : len = j := by omega
        subst e
        have d : ¬ (len : Int) < len := by omega
        go_wp2
        go_ret
        exact ⟨ret_int (by have h1 := HQ.out; omega), hB⟩

set_option maxHeartbeats 1000000 in
theorem vCount_any (t : Vl) (w : World) (ht : t.At w) : Calls Tryd.prog 33 #[.agg #[.int .i64 t.k, .int .i64 t.m, .slice t.ao t.len t.cap], .func (.func 26) #[] #[], .int .i64 2000] w fun e w' => e = .returned (.int .i64 (min t.nodes 2001 : Nat)) ∧ Below w.heap.size w w' := by
  have B0 := below_alloc w (.cells #[.int .i64 t.k, .int .i64 t.m, .slice t.ao t.len t.cap] 24)
  have h := vcount_any t 0 _ (by omega) (ht.kept B0)
  rw [Nat.zero_add] at h
  go_enter Tryd.func33, Tryd.ntmps33
  go_wp2_with fail
  refine h.mono ?_
  rintro r w1 ⟨rfl, hb1⟩
  go_wp2
  go_ret
  exact ⟨rfl, Below.next B0 hb1⟩

set_option maxHeartbeats 1000000 in
theorem vNodes_any (t : Vl) (w : World) (ht : t.At w) : Calls Tryd.prog 16 #[.agg #[.int .i64 t.k, .int .i64 t.m, .slice t.ao t.len t.cap]] w fun e w' => e = .returned (.int .i64 (min t.nodes 2001 : Nat)) ∧ Below w.heap.size w w' := by
  have B0 := below_alloc w (.cells #[.int .i64 t.k, .int .i64 t.m, .slice t.ao t.len t.cap] 24)
  have h := vCount_any t _ (ht.kept B0)
  go_enter Tryd.func16, Tryd.ntmps16
  go_wp2_with fail
  refine h.mono ?_
  rintro r w1 ⟨rfl, hb1⟩
  go_wp2
  go_ret
  exact ⟨rfl, Below.next B0 hb1⟩

set_option maxHeartbeats 1000000 in
theorem rvSmall_any (t : Vl) (w : World) (ht : t.At w) : Calls Tryd.prog 9 #[.agg #[.int .i64 t.k, .int .i64 t.m, .slice t.ao t.len t.cap]] w fun e w' => e = .returned (.bool (decide (t.nodes ≤ 2000))) ∧ Below w.heap.size w w' := by
  have B0 := below_alloc w (.cells #[.int .i64 t.k, .int .i64 t.m, .slice t.ao t.len t.cap] 24)
  have HE : Hid (decide ((min t.nodes 2001 : Nat) ≤ (2000 : Int)) = decide (t.nodes ≤ 2000)) := by
    show decide (((min t.nodes 2001 : Nat) : Int) ≤ 2000) = decide (t.nodes ≤ 2000)
    exact decide_eq_decide.2 (by omega)
  go_enter Tryd.func9, Tryd.ntmps9
  go_wp2_with fail
  refine (rvNodes_any t _ (ht.kept B0)).mono ?_
  rintro r w1 ⟨rfl, hb1⟩
  generalize min t.nodes 2001 = q at HE
  go_wp2
  go_ret
  exact ⟨ret_bool HE.out, Below.next B0 hb1⟩
end Go.Proofs.YtnkipiegjpjfbaaDoor

/- Layer 3: the walks of the reference's sound and Formed. -/
namespace Go.Proofs.YtnkipiegjpjfbaaDoor
open Go.RowKit

theorem fm_mk (k m : Int) (ao : Option Addr) (b o len cap : Nat) (ps : Nat → Vl) : Vl.fm (.mk k m ao b o len cap ps) = (ndB k m len && decide (∀ i, i < len → (ps i).fm = true)) := rfl
theorem fm_none {k m : Int} {ao : Option Addr} {b o len cap : Nat} {ps : Nat → Vl} (h : len = 0) : Vl.fm (.mk k m ao b o len cap ps) = ndB k m len := by
  subst h
  rw [fm_mk, decide_eq_true (fun i h => absurd h (Nat.not_lt_zero _)), Bool.and_true]
theorem fm_no {k m : Int} {ao : Option Addr} {b o len cap : Nat} {ps : Nat → Vl} (h : ndB k m len = false) : Vl.fm (.mk k m ao b o len cap ps) = false := by
  rw [fm_mk, h]; rfl

set_option maxRecDepth 100000 in
set_option maxHeartbeats 8000000 in
theorem sound_any : ∀ (v : Vl) (w : World), v.At w → Calls Tryd.prog 32 #[.agg #[.int .i64 v.k, .int .i64 v.m, .slice v.ao v.len v.cap]] w fun e w' => e = .returned (.bool v.fm) ∧ Below w.heap.size w w' := by
  intro v
  induction v with
  | dm => intro w h; exact h.elim
  | mk k m ao b o len cap ps ih =>
    intro w hAt
    show Calls Tryd.prog 32 #[.agg #[.int .i64 k, .int .i64 m, .slice ao len cap]] w fun r w' => r = .returned (.bool (Vl.fm (.mk k m ao b o len cap ps))) ∧ Below w.heap.size w w'
    have X0 := Bv.new w (.mk k m ao b o len cap ps)
    have hb : len ≤ 9223372036854775807 := hAt.bound
    have hnil : 0 < len → ao = some ⟨b, o, none⟩ := hAt.nil
    have B0 := below_alloc w (.cells #[.int .i64 k, .int .i64 m, .slice ao len cap] 24)
    have hA1 := hAt.kept B0
    have HS : Hid (Bv (w.alloc (.cells #[.int .i64 k, .int .i64 m, .slice ao len cap] 24)) w.heap.size (.mk k m ao b o len cap ps) ∧ Vl.At (w.alloc (.cells #[.int .i64 k, .int .i64 m, .slice ao len cap] 24)) (.mk k m ao b o len cap ps) ∧ Below w.heap.size w (w.alloc (.cells #[.int .i64 k, .int .i64 m, .slice ao len cap] 24))) := ⟨X0, hA1, B0⟩
    clear X0 hA1 B0 hAt
    by_cases h1 : k = 1
    · subst h1
      by_cases hl : len = 0
      · subst hl
        have HE : Hid (Vl.fm (.mk 1 m ao b o 0 cap ps) = true) := fm_none rfl
        go_enter Tryd.func32, Tryd.ntmps32
        go_wp2
        go_ret
        exact ⟨ret_bool HE.out.symm, HS.out.2.2⟩
      · have HE : Hid (Vl.fm (.mk 1 m ao b o len cap ps) = false) := fm_no (by simp [ndB, hl])
        have e0 : ((len : Int) == 0) = false := by rw [beq_eq_false_iff_ne]; omega
        go_enter Tryd.func32, Tryd.ntmps32
        go_wp2
        go_ret
        exact ⟨ret_bool HE.out.symm, HS.out.2.2⟩
    by_cases h2 : k = 2
    · subst h2
      by_cases hl : len = 0
      · subst hl
        have HE : Hid (Vl.fm (.mk 2 m ao b o 0 cap ps) = ((m == 0) || (m == 1))) := (fm_none rfl).trans (by simp [ndB])
        cases m0 : (m == 0)
        · rw [m0] at HE
          go_enter Tryd.func32, Tryd.ntmps32
          go_wp2
          go_ret
          exact ⟨ret_bool HE.out.symm, HS.out.2.2⟩
        · rw [m0] at HE
          go_enter Tryd.func32, Tryd.ntmps32
          go_wp2
          go_ret
          exact ⟨ret_bool HE.out.symm, HS.out.2.2⟩
      · have HE : Hid (Vl.fm (.mk 2 m ao b o len cap ps) = false) := fm_no (by simp [ndB, hl])
        have e0 : ((len : Int) == 0) = false := by rw [beq_eq_false_iff_ne]; omega
        go_enter Tryd.func32, Tryd.ntmps32
        go_wp2
        go_ret
        exact ⟨ret_bool HE.out.symm, HS.out.2.2⟩
    by_cases h5 : k = 5
    · subst h5
      by_cases hl : len = 0
      · subst hl
        have HE : Hid (Vl.fm (.mk 5 m ao b o 0 cap ps) = (decide (0 ≤ m) && decide (m ≤ 2147483647))) := (fm_none rfl).trans (by simp [ndB])
        cases m0 : decide (0 ≤ m)
        · rw [m0] at HE
          go_enter Tryd.func32, Tryd.ntmps32
          go_wp2
          go_ret
          exact ⟨ret_bool HE.out.symm, HS.out.2.2⟩
        · rw [m0] at HE
          go_enter Tryd.func32, Tryd.ntmps32
          go_wp2
          go_ret
          exact ⟨ret_bool HE.out.symm, HS.out.2.2⟩
      · have HE : Hid (Vl.fm (.mk 5 m ao b o len cap ps) = false) := fm_no (by simp [ndB, hl])
        have e0 : ((len : Int) == 0) = false := by rw [beq_eq_false_iff_ne]; omega
        go_enter Tryd.func32, Tryd.ntmps32
        go_wp2
        go_ret
        exact ⟨ret_bool HE.out.symm, HS.out.2.2⟩
    by_cases h3 : k = 3
    · subst h3
      by_cases hl : len = 2
      · subst hl
        have a0 := hnil (by omega)
        subst a0
        clear hnil
        cases m0 : (m == 0)
        · have HE : Hid (Vl.fm (.mk 3 m (some ⟨b, o, none⟩) b o 2 cap ps) = false) := fm_no (by simp [ndB, m0])
          go_enter Tryd.func32, Tryd.ntmps32
          go_wp2
          go_ret
          exact ⟨ret_bool HE.out.symm, HS.out.2.2⟩
        · have HE : Hid (Vl.fm (.mk 3 m (some ⟨b, o, none⟩) b o 2 cap ps) = ((ps 0).fm && (ps 1).fm)) := by
            show Vl.fm _ = _
            rw [fm_mk, show ndB 3 m 2 = true by simp [ndB, m0], Bool.true_and]
            cases e0 : (ps 0).fm
            · exact decide_eq_false (fun h => by have := h 0 (by omega); rw [e0] at this; cases this)
            · cases e1 : (ps 1).fm
              · exact decide_eq_false (fun h => by have := h 1 (by omega); rw [e1] at this; cases this)
              · exact decide_eq_true (fun i hi => by
                  match i, hi with
                  | 0, _ => exact e0
                  | 1, _ => exact e1)
          obtain ⟨X, A, B⟩ := HS.out
          have C0 : C3 _ b (o + 0 * 3) (ps 0) := A.cells (i := 0) (by show 0 < 2; omega)
          have P0 : (ps 0).At _ := A.part (i := 0) (by show 0 < 2; omega)
          have x2 : (w.alloc (.cells #[.int .i64 3, .int .i64 m, .slice (some ⟨b, o, none⟩) 2 cap] 24)).cell? ⟨w.heap.size, 2, none⟩ = some (.slice (some ⟨b, o, none⟩) 2 cap) := X.c2
          have y0 := C0.c0
          have y1 := C0.c1
          have y2 := C0.c2
          simp only [Nat.zero_mul, Nat.add_zero] at y0 y1 y2
          clear C0
          go_enter Tryd.func32, Tryd.ntmps32
          go_wp2_with fail
          refine (ih 0 _ P0).mono ?_
          rintro r w1 ⟨rfl, hb1⟩
          have X1 := X.kept hb1
          have A1 := A.kept hb1
          have B1 := Below.next B hb1
          clear X A B hb1 P0 x2 y0 y1 y2
          cases hf : (ps 0).fm
          · rw [hf] at HE
            go_wp2
            go_ret
            exact ⟨ret_bool HE.out.symm, B1⟩
          · rw [hf] at HE
            have C1 : C3 _ b (o + 1 * 3) (ps 1) := A1.cells (i := 1) (by show 1 < 2; omega)
            have P1 : (ps 1).At _ := A1.part (i := 1) (by show 1 < 2; omega)
            have x2 : w1.cell? ⟨w.heap.size, 2, none⟩ = some (.slice (some ⟨b, o, none⟩) 2 cap) := X1.c2
            have y0 := C1.c0
            have y1 := C1.c1
            have y2 := C1.c2
            simp only [Nat.one_mul] at y0 y1 y2
            clear C1 A1 X1
            go_wp2_with fail
            refine (ih 1 _ P1).mono ?_
            rintro r w2 ⟨rfl, hb2⟩
            go_wp2
            go_ret
            exact ⟨ret_bool HE.out.symm, Below.next B1 hb2⟩
      · have HE : Hid (Vl.fm (.mk 3 m ao b o len cap ps) = false) := fm_no (by simp [ndB, hl])
        have e0 : ((len : Int) == 2) = false := by rw [beq_eq_false_iff_ne]; omega
        go_enter Tryd.func32, Tryd.ntmps32
        go_wp2
        go_ret
        exact ⟨ret_bool HE.out.symm, HS.out.2.2⟩
    by_cases h4 : k = 4
    · subst h4
      have HE : Hid (Vl.fm (.mk 4 m ao b o len cap ps) = ((decide (0 ≤ m) && decide (m < 60)) && decide (∀ i, i < len → (ps i).fm = true))) := by
        show Vl.fm _ = _
        rw [fm_mk]; rfl
      go_enter Tryd.func32, Tryd.ntmps32
      go_wp2
      go_loopw [4] (fun i wr => ∃ (j : Nat), j ≤ len ∧ i = .int .i64 j ∧ (∀ i, i < j → (ps i).fm = true) ∧ Bv wr w.heap.size (.mk 4 m ao b o len cap ps) ∧ Vl.At wr (.mk 4 m ao b o len cap ps) ∧ Below w.heap.size w wr) (fun i _ => len - (intOf i).toNat)
      case atStart => exact ⟨0, Nat.zero_le _, rfl, fun _ h => absurd h (Nat.not_lt_zero _), HS.out⟩
      case round =>
        obtain ⟨j, hj, rfl, hdone, hX, hA, hB⟩ := hrel
        clear HS
        have x1 : wr.cell? ⟨w.heap.size, 1, none⟩ = some (.int .i64 m) := hX.c1
        have x2 : wr.cell? ⟨w.heap.size, 2, none⟩ = some (.slice ao len cap) := hX.c2
        have HS : Hid (Bv wr w.heap.size (.mk 4 m ao b o len cap ps) ∧ Vl.At wr (.mk 4 m ao b o len cap ps) ∧ Below w.heap.size w wr) := ⟨hX, hA, hB⟩
        have HD : Hid (∀ i, i < j → (ps i).fm = true) := hdone
        clear hX hdone hB
        by_cases hlt : j < len
        · have ij : (j : Int) < len := by omega
          have a0 := hnil (by omega)
          subst a0
          have C : C3 wr b (o + j * 3) (ps j) := hA.cells hlt
          have P : (ps j).At wr := hA.part hlt
          have y0 := C.c0
          have y1 := C.c1
          have y2 := C.c2
          clear hA C
          go_wp2_with fail
          refine (ih j _ P).mono ?_
          rintro r w1 ⟨rfl, hb1⟩
          clear y0 y1 y2 x2 x1
          cases hp : (ps j).fm
          · have HF : Hid (decide (∀ i, i < len → (ps i).fm = true) = false) := decide_eq_false (fun hh => absurd (hp.symm.trans (hh j hlt)) (by decide))
            clear hp
            go_wp2
            go_ret
            exact ⟨ret_bool (by rw [HE.out, HF.out, Bool.and_false]), Below.next HS.out.2.2 hb1⟩
          · have HP : Hid ((ps j).fm = true) := hp
            clear hp
            go_wp2
            go_roundw
            case rel => exact ⟨j + 1, by omega, by go_num, fun i hi => (by
                by_cases e : i = j
                · subst e; exact HP.out
                · exact HD.out i (by omega)), HS.out.1.kept hb1, HS.out.2.1.kept hb1, Below.next HS.out.2.2 hb1⟩
            case measure => simp [intOf]; omega
        · have e : len = j := by omega
          subst e
          have d : ¬ (len : Int) < len := by omega
          have HF : Hid (Vl.fm (.mk 4 m ao b o len cap ps) = (decide (0 ≤ m) && decide (m < 60))) := by show Vl.fm _ = _; rw [HE.out, decide_eq_true HD.out, Bool.and_true]
          clear HE
          cases m0 : decide (0 ≤ m)
          · rw [m0] at HF
            go_wp2
            go_ret
            exact ⟨ret_bool HF.out.symm, HS.out.2.2⟩
          · rw [m0] at HF
            go_wp2
            go_ret
            exact ⟨ret_bool HF.out.symm, HS.out.2.2⟩
    · have HE : Hid (Vl.fm (.mk k m ao b o len cap ps) = false) := fm_no (by simp [ndB, h1, h2, h3, h4, h5])
      have b1 : (k == 1) = false := beq_eq_false_iff_ne.2 h1
      have b2 : (k == 2) = false := beq_eq_false_iff_ne.2 h2
      have b3 : (k == 3) = false := beq_eq_false_iff_ne.2 h3
      have b4 : (k == 4) = false := beq_eq_false_iff_ne.2 h4
      have b5 : (k == 5) = false := beq_eq_false_iff_ne.2 h5
      clear h1 h2 h3 h4 h5
      go_enter Tryd.func32, Tryd.ntmps32
      go_wp2
      go_ret
      exact ⟨ret_bool HE.out.symm, HS.out.2.2⟩

set_option maxHeartbeats 2000000 in
theorem rvFormed_any (v : Vl) (w : World) (hv : v.At w) : Calls Tryd.prog 15 #[.agg #[.int .i64 v.k, .int .i64 v.m, .slice v.ao v.len v.cap]] w fun e w' => e = .returned (.bool v.ok) ∧ Below w.heap.size w w' := by
  have X0 := Bv.new w v
  have B0 := below_alloc w (.cells #[.int .i64 v.k, .int .i64 v.m, .slice v.ao v.len v.cap] 24)
  have hA := hv.kept B0
  go_enter Tryd.func15, Tryd.ntmps15
  go_wp2_with fail
  refine (rvNodes_any v _ hA).mono ?_
  rintro r w1 ⟨rfl, hb1⟩
  have X1 := X0.kept hb1
  have A1 := hA.kept hb1
  have B1 := Below.next B0 hb1
  clear X0 hA B0 hb1
  by_cases h : v.nodes ≤ 2000
  · have HE : Hid (v.ok = v.fm) := by show v.ok = _; unfold Vl.ok; rw [decide_eq_true h, Bool.true_and]
    have d : decide (((min v.nodes 2001 : Nat) : Int) ≤ 2000) = true := decide_eq_true (by omega)
    generalize min v.nodes 2001 = q at d
    have x0 := X1.c0
    have x1 := X1.c1
    have x2 := X1.c2
    go_wp2_with fail
    refine (sound_any v _ A1).mono ?_
    rintro r w2 ⟨rfl, hb2⟩
    go_wp2
    go_ret
    exact ⟨ret_bool HE.out.symm, Below.next B1 hb2⟩
  · have HE : Hid (v.ok = false) := by show v.ok = _; unfold Vl.ok; rw [decide_eq_false h, Bool.false_and]
    have d : decide (((min v.nodes 2001 : Nat) : Int) ≤ 2000) = false := decide_eq_false (by omega)
    generalize min v.nodes 2001 = q at d
    go_wp2
    go_ret
    exact ⟨ret_bool HE.out.symm, B1⟩
end Go.Proofs.YtnkipiegjpjfbaaDoor

/- Layer 3: the walks of strings.Builder's copyCheck and WriteString, over this program. -/
namespace Go.Proofs.YtnkipiegjpjfbaaDoor
open Go.RowKit

theorem Tryd.sizeBuilder : (Tryd.prog.info? 62).map (·.size) = some 2 := by kernel_rfl
theorem Tryd.liesBuilder : liesAt Tryd.prog Tryd.prog.depth 62 (2 / Tryd.prog.cellsOf 62) 0 62 1 = true := by kernel_rfl
theorem Tryd.infoByteB : (Tryd.prog.info? 5).map (fun i => (i.zero, i.size, i.bytes)) = some (some (.int .u8 0), 1, 1) := by kernel_rfl

set_option maxHeartbeats 1000000 in
set_option maxRecDepth 100000 in
theorem ccheck_used (b : Nat) (w : World) (h0 : w.cell? ⟨b, 0, none⟩ = some (.pointer (some ⟨b, 0, none⟩))) :
    Calls Tryd.prog 66 #[.pointer (some ⟨b, 0, none⟩)] w fun e w' => e = .returned (.tuple #[]) ∧ w' = w := by
  obtain ⟨j, hj, _⟩ := Option.map_eq_some_iff.1 Tryd.sizeBuilder
  go_enter Tryd.func66, Tryd.ntmps66
  go_wp2
  rw [Lib.run_neq_ptr_same w _ Tryd.underlying59 hj]
  go_wp2
  go_end0
  exact ⟨rfl, rfl⟩

set_option maxHeartbeats 1000000 in
set_option maxRecDepth 100000 in
theorem ccheck_fresh (b : Nat) (w : World) (h0 : w.cell? ⟨b, 0, none⟩ = some (.pointer none)) (hsh : w.shape? b = some (62, 2)) (hfz : w.frozen? ⟨b, 0, none⟩ = false) :
    Calls Tryd.prog 66 #[.pointer (some ⟨b, 0, none⟩)] w fun e w' => e = .returned (.tuple #[]) ∧ w' = w.setCell ⟨b, 0, none⟩ (.pointer (some ⟨b, 0, none⟩)) := by
  obtain ⟨j, hj, hjs⟩ := Option.map_eq_some_iff.1 Tryd.sizeBuilder
  go_enter Tryd.func66, Tryd.ntmps66
  go_wp2
  rw [Lib.run_to_unsafe w ⟨b, 0, none⟩ Tryd.underlying59 Tryd.underlying134 hj (by rw [hjs]; decide) hsh (Nat.zero_lt_succ 1)]
  simp only [Result.andThen]
  rw [Oper.upon_value]
  go_wp2
  rw [run_callFunc_extern Tryd.func84 (by kernel_rfl) (by kernel_rfl) (by kernel_rfl) (e := Extern.AbiNoEscape.same) (by kernel_rfl)]
  rw [Lib.run_noEscape]
  simp only [Result.andThen]
  rw [Oper.upon_value]
  go_wp2
  rw [Lib.run_from_unsafe w ⟨b, 0, none⟩ Tryd.underlying134 Tryd.underlying59 hj hsh Tryd.liesBuilder]
  simp only [Result.andThen]
  rw [Oper.upon_value]
  go_wp2
  go_end0
  exact ⟨rfl, rfl⟩

/-- The builder in block b holds the bytes l; it and its row lie from B on. -/
def Bld (w : World) (B b : Nat) (l : List UInt8) : Prop := Lib.IsBuilder 62 5 B b (Lib.byteCells l) w
theorem Bld.new (w : World) : Bld (w.alloc (.cells #[.pointer none, .slice none 0 0] 62)) w.heap.size w.heap.size [] :=
  Or.inl ⟨Nat.le_refl _, _, heap_alloc_new _ _, World.ownsRow_nil _ _ _ _, by simp [Value.ownBlock]⟩
theorem Bld.at {w : World} {B b : Nat} {l : List UInt8} (h : Bld w B b l) : ∃ p v, B ≤ b ∧ w.heap[b]? = some (.cells #[p, v] 62 (0, 0)) := by
  rcases h with ⟨hB, v, hb, _⟩ | ⟨hB, v, hb, _⟩
  · exact ⟨_, v, hB, hb⟩
  · exact ⟨_, v, hB, hb⟩
theorem bat_kept {w w' : World} {B b : Nat} {p : Value} {bs : List Value} (h : Lib.BuilderAt 62 5 B b p bs w) (hb : Below w.heap.size w w') : Lib.BuilderAt 62 5 B b p bs w' := by
  obtain ⟨hB, v, hbk, hown, hne⟩ := h
  have hlt : b < w.heap.size := by
    rcases Nat.lt_or_ge b w.heap.size with h' | h'
    · exact h'
    · rw [Array.getElem?_eq_none h'] at hbk; cases hbk
  refine ⟨hB, v, (hb.block b hlt).trans hbk, hown.kept (⟨hb.os, hb.tape, hb.output, hb.size, fun x hx _ => hb.block x hx⟩ : w.grownBy w' none) ?_, hne⟩
  by_cases e : v.ownBlock = none
  · exact Or.inl e
  · exact Or.inr e
theorem Bld.kept {w w' : World} {B b : Nat} {l : List UInt8} (h : Bld w B b l) (hb : Below w.heap.size w w') : Bld w' B b l := by
  rcases h with h | h
  · exact Or.inl (bat_kept h hb)
  · exact Or.inr (bat_kept h hb)

theorem own_slice {w : World} {B : Nat} {e : TypeId} {v : Value} {n : Nat} {xs : List Value} (h : w.ownsRow B e 1 v n xs) : ∃ ao n' cap, v = .slice ao n' cap := by
  rcases h.2 with ⟨hv, _⟩ | ⟨g, cap, cur, hv, _⟩
  · exact ⟨_, _, _, hv⟩
  · exact ⟨_, _, _, hv⟩
/-- What is no row of bytes, and not the builder itself, is as it was. -/
def KT (w w' : World) (b : Nat) : Prop := ∀ (X : Nat) (cs : Array Value) (T : TypeId) (fr : Nat × Nat), T ≠ 5 → X ≠ b → w.heap[X]? = some (.cells cs T fr) → w'.heap[X]? = w.heap[X]?
theorem KT.refl (w : World) (b : Nat) : KT w w b := fun _ _ _ _ _ _ _ => rfl
theorem KT.trans {w w' w'' : World} {b : Nat} (h : KT w w' b) (k : KT w' w'' b) : KT w w'' b := fun X cs T fr hT hX hh => by
  have e := h X cs T fr hT hX hh
  exact (k X cs T fr hT hX (e.trans hh)).trans e
theorem KT.bel {w w' : World} (hb : Below w.heap.size w w') (b : Nat) : KT w w' b := fun X cs T fr _ _ hh => by
  refine hb.block X ?_
  rcases Nat.lt_or_ge X w.heap.size with h' | h'
  · exact h'
  · rw [Array.getElem?_eq_none h'] at hh; cases hh
theorem KT.set (w : World) (b i : Nat) (v : Value) : KT w (w.setCell ⟨b, i, none⟩ v) b := fun _ _ _ _ _ hX _ => Below.heap_setCell _ _ _ _ hX
theorem KT.grow {w w' : World} {B : Nat} {v : Value} {n : Nat} {xs : List Value} (ho : w.ownsRow B 5 1 v n xs) (hg : w.grownBy w' v.ownBlock) (b : Nat) : KT w w' b := fun X cs T fr hT _ hh => by
  refine hg.block X ?_ ?_
  · rcases Nat.lt_or_ge X w.heap.size with h' | h'
    · exact h'
    · rw [Array.getElem?_eq_none h'] at hh; cases hh
  · intro e
    rcases ho.2 with ⟨rfl, _⟩ | ⟨g, cap, cur, rfl, _, hgc, _⟩
    · cases e
    · have e' : X = g := by injection e
      subst e'
      rw [hgc] at hh
      injection hh with hh
      injection hh with _ hh _
      exact hT hh.symm

theorem ccheck_any (B b : Nat) (l : List UInt8) (w : World) (h : Bld w B b l) :
    Calls Tryd.prog 66 #[.pointer (some ⟨b, 0, none⟩)] w fun e w' => e = .returned (.tuple #[]) ∧ Lib.BuilderAt 62 5 B b (.pointer (some ⟨b, 0, none⟩)) (Lib.byteCells l) w' ∧ Below B w w' ∧ KT w w' b := by
  rcases h with h | h
  · refine (ccheck_fresh b w h.cell0 h.shape h.frozen0).mono ?_
    rintro e w' ⟨rfl, rfl⟩
    exact ⟨rfl, h.used _, (Below.refl B w).setCell (p := ⟨b, 0, none⟩) h.1 _, KT.set _ _ _ _⟩
  · refine (ccheck_used b w h.cell0).mono ?_
    rintro e w' ⟨rfl, rfl⟩
    exact ⟨rfl, h, Below.refl B _, KT.refl _ _⟩

set_option maxHeartbeats 2000000 in
set_option maxRecDepth 100000 in
theorem wstr_any (B b : Nat) (l : List UInt8) (s : ByteArray) (w : World) (h : Bld w B b l) (hlen : l.length + s.size ≤ 140737488355328) (hBw : B ≤ w.heap.size) :
    Calls Tryd.prog 46 #[.pointer (some ⟨b, 0, none⟩), .string s] w fun e w' => e = .returned (.tuple #[.int .i64 s.size, .nilIface]) ∧ Bld w' B b (l ++ s.data.toList) ∧ Below B w w' ∧ KT w w' b := by
  obtain ⟨i0, hi, hz0, hz1, hz2⟩ := info_parts Tryd.infoByteB
  have HH : Hid (Bld w B b l) := h
  have hl' : (Lib.byteCells l).length = l.length := Lib.byteCells_length l
  have HL : Hid ((Lib.byteCells l).length = l.length) := hl'
  clear h hl'
  go_enter Tryd.func46, Tryd.ntmps46
  go_wp2_with fail
  refine (ccheck_any B b l w HH.out).mono ?_
  rintro e w1 ⟨rfl, ⟨hB, v, hbk, hown, hne⟩, hb1, hk1⟩
  have HK1 : Hid (KT w w1 b) := hk1
  clear hk1
  have c0 : w1.cell? ⟨b, 0, none⟩ = some (.pointer (some ⟨b, 0, none⟩)) := by rw [Lib.cell_of_heap hbk]; rfl
  have c1 : w1.cell? ⟨b, 1, none⟩ = some v := by rw [Lib.cell_of_heap hbk]; rfl
  have HBK : Hid (w1.heap[b]? = some (.cells #[.pointer (some ⟨b, 0, none⟩), v] 62 (0, 0))) := hbk
  have HO : Hid (w1.ownsRow B 5 1 v (Lib.byteCells l).length (Lib.byteCells l)) := hown
  have HNE : Hid (v.ownBlock ≠ some b) := hne
  have hlt : b < w1.heap.size := by
    rcases Nat.lt_or_ge b w1.heap.size with h' | h'
    · exact h'
    · simp [Array.getElem?_eq_none h'] at hbk
  have hsz := hb1.size
  clear hbk hown hne
  go_wp2_with (at_builtin; refine Lib.wpList_append_own_string _ rfl _ _ 60 9 rfl B 5 i0 Tryd.underlying60 Tryd.underlying9 hi hz0 hz1 hz2 _ _ _ rfl HO.out s rfl (by rw [HL.out]; unfold maxLen; omega) (by rw [HL.out]; omega) (by omega) ?_; intro v' w2 hown' hgrow _; obtain ⟨ao, n', cap, rfl⟩ := own_slice hown'; have hb2 : w2.heap[b]? = some (.cells #[.pointer (some ⟨b, 0, none⟩), v] 62 (0, 0)) := (hgrow.block b hlt (fun e => HNE.out e.symm)).trans HBK.out; have d0 : w2.cell? ⟨b, 0, none⟩ = some (.pointer (some ⟨b, 0, none⟩)) := (by rw [Lib.cell_of_heap hb2]; rfl); have d1 : w2.cell? ⟨b, 1, none⟩ = some v := (by rw [Lib.cell_of_heap hb2]; rfl); have f1 : w2.frozen? ⟨b, 1, none⟩ = false := Lib.frozen_of_heap hb2 1; have HB2 : Hid (w2.heap[b]? = some (.cells #[.pointer (some ⟨b, 0, none⟩), v] 62 (0, 0))) := hb2; have HO2 : Hid (w2.ownsRow B 5 1 (.slice ao n' cap) ((Lib.byteCells l).length + s.size) (Lib.byteCells l ++ Lib.strCells s)) := hown'; have HG : Hid (w1.grownBy w2 v.ownBlock) := hgrow; clear hb2 hown' hgrow)
  go_ret2
  refine ⟨rfl, Or.inr ?_, ?_, HK1.out.trans ((KT.grow HO.out HG.out b).trans (KT.set _ _ _ _))⟩
  · have hcs : Lib.byteCells (l ++ s.data.toList) = Lib.byteCells l ++ Lib.strCells s := by rw [Lib.strCells_eq]; simp [Lib.byteCells]
    rw [hcs]
    exact Lib.BuilderAt.put (T := 62) (e := 5) hB HB2.out (bs' := Lib.byteCells l ++ Lib.strCells s) (by have h := HO2.out; rw [List.length_append, Lib.strCells_length]; exact h) (by decide)
  · exact (hb1.grown HG.out (by omega) (fun k hk => (HO.out.lt k hk).1)).setCell (p := ⟨b, 1, none⟩) hB _
end Go.Proofs.YtnkipiegjpjfbaaDoor
