/- Layer 3: formed values. -/
import Derived.Test.YtnkipiegjpjfbaaDoorP11
namespace Go.Proofs.YtnkipiegjpjfbaaDoor
open Go.RowKit

theorem len_beq (len q : Nat) : ((len : Int) == (q : Int)) = (len == q) := by
  by_cases h : len = q
  · subst h; simp
  · rw [beq_eq_false_iff_ne.2 h, beq_eq_false_iff_ne.2 (by omega)]

set_option maxHeartbeats 2000000 in
theorem nodeFormed_any (v : Vl) (w : World) : Calls Tryd.prog 51 #[.agg #[.int .i64 v.k, .int .i64 v.m, .slice v.ao v.len v.cap]] w fun e w' => e = .returned (.bool (ndB v.k v.m v.len)) ∧ Below w.heap.size w w' := by
  have X0 := Bv.new w v
  have B0 := below_alloc w (.cells #[.int .i64 v.k, .int .i64 v.m, .slice v.ao v.len v.cap] 24)
  have c0 := X0.c0
  have c1 := X0.c1
  have c2 := X0.c2
  clear X0
  have z0 := len_beq v.len 0
  have z2 := len_beq v.len 2
  rw [show ((0 : Nat) : Int) = 0 from rfl] at z0
  rw [show ((2 : Nat) : Int) = 2 from rfl] at z2
  generalize hE : ndB v.k v.m v.len = E
  have HE : Hid (ndB v.k v.m v.len = E) := hE
  clear hE
  generalize v.k = k at *
  generalize v.m = m at *
  by_cases h1 : k = 1
  · subst h1
    cases hl : (v.len == 0)
    · rw [hl] at z0
      go_enter Tryd.func51, Tryd.ntmps51
      go_wp2
      go_ret
      exact ⟨ret_bool (by rw [← HE.out]; simp [ndB, hl]), B0⟩
    · rw [hl] at z0
      go_enter Tryd.func51, Tryd.ntmps51
      go_wp2
      go_ret
      exact ⟨ret_bool (by rw [← HE.out]; simp [ndB, hl]), B0⟩
  have q1 : (k == 1) = false := beq_eq_false_iff_ne.2 h1
  by_cases h2 : k = 2
  · subst h2
    cases hl : (v.len == 0)
    · rw [hl] at z0
      go_enter Tryd.func51, Tryd.ntmps51
      go_wp2
      go_ret
      exact ⟨ret_bool (by rw [← HE.out]; simp [ndB, hl]), B0⟩
    · rw [hl] at z0
      cases m0 : (m == 0)
      · cases m1 : (m == 1)
        · go_enter Tryd.func51, Tryd.ntmps51
          go_wp2
          go_ret
          exact ⟨ret_bool (by rw [← HE.out]; simp [ndB, hl, m0, m1]), B0⟩
        · go_enter Tryd.func51, Tryd.ntmps51
          go_wp2
          go_ret
          exact ⟨ret_bool (by rw [← HE.out]; simp [ndB, hl, m0, m1]), B0⟩
      · have e0 : m = 0 := by simpa using m0
        subst e0
        go_enter Tryd.func51, Tryd.ntmps51
        go_wp2
        go_ret
        exact ⟨ret_bool (by rw [← HE.out]; simp [ndB, hl]), B0⟩
  have q2 : (k == 2) = false := beq_eq_false_iff_ne.2 h2
  by_cases h3 : k = 3
  · subst h3
    cases hl : (v.len == 2)
    · rw [hl] at z2
      go_enter Tryd.func51, Tryd.ntmps51
      go_wp2
      go_ret
      exact ⟨ret_bool (by rw [← HE.out]; simp [ndB, hl]), B0⟩
    · rw [hl] at z2
      go_enter Tryd.func51, Tryd.ntmps51
      go_wp2
      go_ret
      exact ⟨ret_bool (by rw [← HE.out]; simp [ndB, hl]), B0⟩
  have q3 : (k == 3) = false := beq_eq_false_iff_ne.2 h3
  by_cases h4 : k = 4
  · subst h4
    by_cases m0 : 0 ≤ m
    · have d0 : decide (m ≥ 0) = true := decide_eq_true m0
      go_enter Tryd.func51, Tryd.ntmps51
      go_wp2
      go_ret
      exact ⟨ret_bool (by rw [← HE.out]; simp [ndB, m0]), B0⟩
    · have d0 : decide (m ≥ 0) = false := decide_eq_false m0
      have HV : Hid (ndB 4 m v.len = false) := by show ndB 4 m v.len = false; simp [ndB, m0]
      go_enter Tryd.func51, Tryd.ntmps51
      go_wp2
      go_ret
      exact ⟨ret_bool (by rw [← HE.out]; rw [HV.out]), B0⟩
  have q4 : (k == 4) = false := beq_eq_false_iff_ne.2 h4
  by_cases h5 : k = 5
  · subst h5
    cases hl : (v.len == 0)
    · rw [hl] at z0
      go_enter Tryd.func51, Tryd.ntmps51
      go_wp2
      go_ret
      exact ⟨ret_bool (by rw [← HE.out]; simp [ndB, hl]), B0⟩
    · rw [hl] at z0
      by_cases m0 : 0 ≤ m
      · have d0 : decide (m ≥ 0) = true := decide_eq_true m0
        go_enter Tryd.func51, Tryd.ntmps51
        go_wp2
        go_ret
        exact ⟨ret_bool (by rw [← HE.out]; simp [ndB, hl, m0]), B0⟩
      · have d0 : decide (m ≥ 0) = false := decide_eq_false m0
        have HV : Hid (ndB 5 m v.len = false) := by show ndB 5 m v.len = false; simp [ndB, hl, m0]
        go_enter Tryd.func51, Tryd.ntmps51
        go_wp2
        go_ret
        exact ⟨ret_bool (by rw [← HE.out]; rw [HV.out]), B0⟩
  have q5 : (k == 5) = false := beq_eq_false_iff_ne.2 h5
  go_enter Tryd.func51, Tryd.ntmps51
  go_wp2
  go_ret
  exact ⟨ret_bool (by rw [← HE.out]; simp [ndB, h1, h2, h3, h4, h5]), B0⟩

set_option maxRecDepth 100000 in
set_option maxHeartbeats 4000000 in
theorem vformed_any : ∀ (v : Vl) (w : World), v.At w → Calls Tryd.prog 31 #[.agg #[.int .i64 v.k, .int .i64 v.m, .slice v.ao v.len v.cap]] w fun e w' => e = .returned (.bool v.fm) ∧ Below w.heap.size w w' := by
  intro v
  induction v with
  | dm => intro w hAt; exact hAt.elim
  | mk k m ao b o len cap ps ih =>
    intro w hAt
    show Calls Tryd.prog 31 #[.agg #[.int .i64 k, .int .i64 m, .slice ao len cap]] w fun r w' => r = .returned (.bool (ndB k m len && decide (∀ i, i < len → (ps i).fm = true))) ∧ Below w.heap.size w w'
    have X0 := Bv.new w (.mk k m ao b o len cap ps)
    have B0 := below_alloc w (.cells #[.int .i64 k, .int .i64 m, .slice ao len cap] 24)
    have hb : len ≤ 9223372036854775807 := hAt.bound
    have hnil : 0 < len → ao = some ⟨b, o, none⟩ := hAt.nil
    have H1 := nodeFormed_any (.mk k m ao b o len cap ps) (w.alloc (.cells #[.int .i64 k, .int .i64 m, .slice ao len cap] 24))
    simp only [Vl.k, Vl.m, Vl.ao, Vl.len, Vl.cap] at X0 H1
    have c0 := X0.c0
    have c1 := X0.c1
    have c2 := X0.c2
    simp only [Vl.k, Vl.m, Vl.ao, Vl.len, Vl.cap] at c0 c1 c2
    have hA0 := hAt.kept B0
    clear hAt
    go_enter Tryd.func31, Tryd.ntmps31
    go_wp2_with fail
    refine H1.mono ?_
    rintro e w1 ⟨rfl, hb1⟩
    have B1 := Below.next B0 hb1
    have hA1 := hA0.kept hb1
    have c2' := (X0.kept hb1).c2
    simp only [Vl.ao, Vl.len, Vl.cap] at c2'
    clear c0 c1 c2 X0 B0 hb1 hA0 H1
    cases hN : ndB k m len
    · have HN : Hid (ndB k m len = false) := hN
      go_wp2
      go_ret
      exact ⟨ret_bool (by rw [HN.out]; rfl), B1⟩
    · have HN : Hid (ndB k m len = true) := hN
      clear hN
      go_wp2
      clear c2'
      go_loopw [11] (fun i wr => ∃ j : Nat, j ≤ len ∧ i = .int .i64 j ∧ (∀ i, i < j → (ps i).fm = true) ∧ Vl.At wr (.mk k m ao b o len cap ps) ∧ Below w.heap.size w wr) (fun i _ => len - (intOf i).toNat)
      case atStart => exact ⟨0, Nat.zero_le _, rfl, fun _ h => absurd h (Nat.not_lt_zero _), hA1, B1⟩
      case round =>
        obtain ⟨j, hj, rfl, hdone, hA, hB⟩ := hrel
        clear hA1 B1
        have HD : Hid (∀ i, i < j → (ps i).fm = true) := hdone
        clear hdone
        by_cases hlt : j < len
        · have ij : (j : Int) < len := by omega
          have a0 := hnil (by omega)
          subst a0
          have C : C3 wr b (o + j * 3) (ps j) := hA.cells hlt
          have P : (ps j).At wr := hA.part hlt
          have Ba := below_alloc wr (.cells #[.int .i64 (ps j).k, .int .i64 (ps j).m, .slice (ps j).ao (ps j).len (ps j).cap] 24)
          have y0 := C.c0
          have y1 := C.c1
          have y2 := C.c2
          have hI := ih j _ (P.kept Ba)
          clear C P
          go_wp2_with fail
          refine hI.mono ?_
          rintro e w2 ⟨rfl, hb2⟩
          have B2 := Below.next Ba hb2
          clear hI y0 y1 y2 Ba hb2
          cases hf : (ps j).fm
          · go_wp2
            go_ret
            exact ⟨ret_bool (by rw [HN.out, Bool.true_and]; exact (decide_eq_false (fun hh => by rw [hh j hlt] at hf; cases hf)).symm), Below.next hB B2⟩
          · go_wp2
            go_roundw
            case rel => exact ⟨j + 1, by omega, by go_num, fun i hi => (by
                by_cases e : i = j
                · subst e; exact hf
                · exact HD.out i (by omega)), hA.kept B2, Below.next hB B2⟩
            case measure => simp [intOf]; omega
        · have e : len = j := by omega
          subst e
          have dl : ¬ (len : Int) < len := by omega
          go_wp2
          go_ret
          exact ⟨ret_bool (by rw [HN.out, Bool.true_and]; exact (decide_eq_true HD.out).symm), hB⟩

set_option maxHeartbeats 2000000 in
theorem vFormed_any (v : Vl) (w : World) (hv : v.At w) : Calls Tryd.prog 14 #[.agg #[.int .i64 v.k, .int .i64 v.m, .slice v.ao v.len v.cap]] w fun e w' => e = .returned (.bool v.ok) ∧ Below w.heap.size w w' := by
  have X0 := Bv.new w v
  have B0 := below_alloc w (.cells #[.int .i64 v.k, .int .i64 v.m, .slice v.ao v.len v.cap] 24)
  have c0 := X0.c0
  have c1 := X0.c1
  have c2 := X0.c2
  have H1 := vNodes_any v _ (hv.kept B0)
  have HE : Hid (decide (((min v.nodes 2001 : Nat) : Int) ≤ 2000) = decide (v.nodes ≤ 2000)) := by
    show decide (((min v.nodes 2001 : Nat) : Int) ≤ 2000) = decide (v.nodes ≤ 2000)
    rw [decide_eq_decide]; omega
  generalize min v.nodes 2001 = q at H1 HE
  go_enter Tryd.func14, Tryd.ntmps14
  go_wp2_with fail
  refine H1.mono ?_
  rintro e w1 ⟨rfl, hb1⟩
  have X1 := X0.kept hb1
  have B1 := Below.next B0 hb1
  have H2 := vformed_any v _ (hv.kept B1)
  clear c0 c1 c2 X0 H1 B0 hb1
  cases hq : decide ((q : Int) ≤ 2000)
  · have HV : Hid (v.ok = false) := by show v.ok = false; unfold Vl.ok; rw [← HE.out, hq]; rfl
    go_wp2
    go_ret
    exact ⟨ret_bool HV.out.symm, B1⟩
  · have HV : Hid (v.ok = v.fm) := by show v.ok = v.fm; unfold Vl.ok; rw [← HE.out, hq]; rfl
    have c0 := X1.c0
    have c1 := X1.c1
    have c2 := X1.c2
    go_wp2_with fail
    refine H2.mono ?_
    rintro e w2 ⟨rfl, hb2⟩
    go_wp2
    go_ret
    exact ⟨ret_bool HV.out.symm, Below.next B1 hb2⟩
end Go.Proofs.YtnkipiegjpjfbaaDoor

/- Layer 3: the walk of value.write, by induction on the value; value.Text. -/
namespace Go.Proofs.YtnkipiegjpjfbaaDoor
open Go.RowKit

theorem cat_list (a : Array UInt8) (l : List UInt8) : ((⟨a⟩ : ByteArray) ++ (⟨l.toArray⟩ : ByteArray)).data.toList = a.toList ++ l := by
  simp [ByteArray.data_append]
theorem str_size (l : List UInt8) : (⟨l.toArray⟩ : ByteArray).size = l.length := by rw [Lib.size_eq]

theorem heap_lt3 {w : World} {p : Nat} {v : Obj} (h : w.heap[p]? = some v) : p < w.heap.size := by
  rcases Nat.lt_or_ge p w.heap.size with hl | hl
  · exact hl
  · rw [Array.getElem?_eq_none hl] at h; cases h

set_option maxRecDepth 100000 in
set_option maxHeartbeats 4000000 in
theorem write_wc : ∀ v : Vl, WC v
  | .dm => fun _ _ _ _ _ h => h.elim
  | .mk k m ao b0 o len cap ps => by
    have ih : ∀ i, WC (ps i) := fun i => write_wc (ps i)
    intro w0 w B b l hAt hT h0B hb0 hBw hBl hfm hrng hlen
    show Calls Tryd.prog 28 #[.pointer (some ⟨b, 0, none⟩), .agg #[.int .i64 k, .int .i64 m, .slice ao len cap]] w _
    obtain ⟨n1, p1⟩ := fm_parts hfm
    have hm := hrng.1
    have hit := Lib.itoa_length_le m hm.1 hm.2
    have hln : l.length + 40 * (1 + sumTo (fun i => (ps i).nodes) len) ≤ 1000000000 := hlen
    have HT : Hid (Tab w0) := hT
    have HB0 : Hid (Below w0.heap.size w0 w) := hb0
    have HBl : Hid (Bld w B b l) := hBl
    have HX0 : Hid ((w.alloc (.cells #[.int .i64 k, .int .i64 m, .slice ao len cap] 24)).heap[w.heap.size]? = some (.cells #[.int .i64 k, .int .i64 m, .slice ao len cap] 24 (0, 0))) := heap_alloc_new _ _
    have HXb : Hid (Below w.heap.size w (w.alloc (.cells #[.int .i64 k, .int .i64 m, .slice ao len cap] 24))) := (Below.refl _ _).alloc (Nat.le_refl _) _
    have hbw : b < w.heap.size := by
      obtain ⟨p, v, _, hh⟩ := hBl.at
      rcases Nat.lt_or_ge b w.heap.size with h' | h'
      · exact h'
      · rw [Array.getElem?_eq_none h'] at hh; cases hh
    have HAt : Hid ((0 < len → ao = some ⟨b0, o, none⟩) ∧ len ≤ 9223372036854775807 ∧ ∀ i, i < len → C3 w0 b0 (o + i * 3) (ps i) ∧ Vl.At w0 (ps i)) := hAt
    have HPs : Hid (∀ i, i < len → WC (ps i) ∧ (ps i).fm = true ∧ (ps i).rng) := fun i hi => ⟨ih i, p1 i hi, hrng.2 i hi⟩
    have HHb : Hid (len ≤ 9223372036854775807) := hAt.2.1
    have HIt : Hid ((⟨(Lib.itoa m).toArray⟩ : ByteArray).size ≤ 21) := by show _ ≤ _; rw [str_size]; exact hit
    have hlb := HHb.out
    clear hAt hT hb0 hBl hfm hrng hlen ih
    rcases nd_kind n1 with rfl | rfl | rfl | rfl | rfl
    · go_enter Tryd.func28, Tryd.ntmps28
      go_upto_region 1 with fail
      generalize w.alloc (.cells #[.int .i64 1, .int .i64 m, .slice ao len cap] 24) = wv at *
      have d0 : wv.cell? ⟨w.heap.size, 0, none⟩ = some (.int .i64 1) := by rw [Lib.cell_of_heap HX0.out]; rfl
      have d1 : wv.cell? ⟨w.heap.size, 1, none⟩ = some (.int .i64 m) := by rw [Lib.cell_of_heap HX0.out]; rfl
      have d2 : wv.cell? ⟨w.heap.size, 2, none⟩ = some (.slice ao len cap) := by rw [Lib.cell_of_heap HX0.out]; rfl
      have hs0 := HXb.out.size
      go_wp2_with (first
        | (go_at_call 47; refine (fmtInt_any m hm wv (HT.out.kept (HB0.out.trans (HXb.out.mono (by omega))))).mono ?_; rintro e w1 ⟨rfl, hb1⟩; have HB1 : Hid (Below w.heap.size w w1) := HXb.out.trans (hb1.mono hs0); have hs1 := hb1.size; have hX1 : w1.heap[w.heap.size]? = wv.heap[w.heap.size]? := hb1.block _ (heap_lt3 HX0.out); have HX1 : Hid (w1.heap[w.heap.size]? = wv.heap[w.heap.size]?) := hX1; clear hb1 hX1)
        | (go_at_call 46; refine (wstr_any B b l ⟨(Lib.itoa m).toArray⟩ w1 (HBl.out.kept HB1.out) (by have := HIt.out; omega) (by omega)).mono ?_; rintro e w2 ⟨rfl, h2, hb2, hk2⟩; have H2 : Hid (Bld w2 B b (l ++ Lib.itoa m)) := h2; have HB2 : Hid (Below B w w2 ∧ KT w w2 b) := ⟨(HB1.out.mono hBw).trans hb2, (KT.bel HB1.out b).trans hk2⟩; have HKK : Hid (KT w1 w2 b ∧ w1.heap.size ≤ w2.heap.size) := ⟨hk2, hb2.size⟩; clear h2 hb2 hk2))
      go_end0
      exact ⟨rfl, H2.out, HB2.out.1, HB2.out.2⟩
    · have l1 : len = 0 ∧ (m = 0 ∨ m = 1) := by simpa [ndB] using n1
      have hm01 := l1.2
      clear l1 n1
      go_enter Tryd.func28, Tryd.ntmps28
      go_upto_region 1 with fail
      generalize w.alloc (.cells #[.int .i64 2, .int .i64 m, .slice ao len cap] 24) = wv at *
      have d0 : wv.cell? ⟨w.heap.size, 0, none⟩ = some (.int .i64 2) := by rw [Lib.cell_of_heap HX0.out]; rfl
      have d1 : wv.cell? ⟨w.heap.size, 1, none⟩ = some (.int .i64 m) := by rw [Lib.cell_of_heap HX0.out]; rfl
      have d2 : wv.cell? ⟨w.heap.size, 2, none⟩ = some (.slice ao len cap) := by rw [Lib.cell_of_heap HX0.out]; rfl
      have hs0 := HXb.out.size
      rcases hm01 with rfl | rfl
      · go_wp2_with (first
          | (go_at_call 48; refine (Tryd.strconv_FormatBool false wv).mono ?_; rintro e w1 ⟨rfl, rfl⟩)
          | (go_at_call 46; refine (wstr_any B b l ⟨(Lib.formatBool false).toArray⟩ _ (HBl.out.kept HXb.out) (by show _ + 5 ≤ _; omega) (by omega)).mono ?_; rintro e w2 ⟨rfl, h2, hb2, hk2⟩; have H2 : Hid (Bld w2 B b (l ++ [102, 97, 108, 115, 101])) := h2; have HB2 : Hid (Below B w w2 ∧ KT w w2 b) := ⟨(HXb.out.mono hBw).trans hb2, (KT.bel HXb.out b).trans hk2⟩; clear h2 hb2 hk2))
        go_end0
        exact ⟨rfl, H2.out, HB2.out.1, HB2.out.2⟩
      · go_wp2_with (first
          | (go_at_call 48; refine (Tryd.strconv_FormatBool true wv).mono ?_; rintro e w1 ⟨rfl, rfl⟩)
          | (go_at_call 46; refine (wstr_any B b l ⟨(Lib.formatBool true).toArray⟩ _ (HBl.out.kept HXb.out) (by show _ + 4 ≤ _; omega) (by omega)).mono ?_; rintro e w2 ⟨rfl, h2, hb2, hk2⟩; have H2 : Hid (Bld w2 B b (l ++ [116, 114, 117, 101])) := h2; have HB2 : Hid (Below B w w2 ∧ KT w w2 b) := ⟨(HXb.out.mono hBw).trans hb2, (KT.bel HXb.out b).trans hk2⟩; clear h2 hb2 hk2))
        go_end0
        exact ⟨rfl, H2.out, HB2.out.1, HB2.out.2⟩
    · have l1 : len = 2 ∧ m = 0 := by simpa [ndB] using n1
      have HL2 : Hid (0 < len) := by show 0 < len; omega
      clear l1 n1
      go_enter Tryd.func28, Tryd.ntmps28
      go_upto_region 1 with fail
      generalize w.alloc (.cells #[.int .i64 3, .int .i64 m, .slice ao len cap] 24) = wv at *
      have d0 : wv.cell? ⟨w.heap.size, 0, none⟩ = some (.int .i64 3) := by rw [Lib.cell_of_heap HX0.out]; rfl
      have d1 : wv.cell? ⟨w.heap.size, 1, none⟩ = some (.int .i64 m) := by rw [Lib.cell_of_heap HX0.out]; rfl
      have d2 : wv.cell? ⟨w.heap.size, 2, none⟩ = some (.slice ao len cap) := by rw [Lib.cell_of_heap HX0.out]; rfl
      have hs0 := HXb.out.size
      go_wp2_with (go_at_call 49; refine (wall_any ao b0 o len cap ps ⟨#[40]⟩ ⟨#[41]⟩ w0 wv B b l HAt.out.1 HAt.out.2.1 HAt.out.2.2 HPs.out HT.out h0B (HB0.out.trans (HXb.out.mono (by omega))) (by omega) (HBl.out.kept HXb.out) (by omega) (by decide) (by decide) HL2.out).mono ?_; rintro e w2 ⟨rfl, h2, hb2, hk2⟩; have H2 : Hid (Bld w2 B b (l ++ ([40] ++ (commas (fun i => (ps i).txt) len ++ [41])))) := h2; have HB2 : Hid (Below B w w2 ∧ KT w w2 b) := ⟨(HXb.out.mono hBw).trans hb2, (KT.bel HXb.out b).trans hk2⟩; clear h2 hb2 hk2)
      go_end0
      exact ⟨rfl, H2.out, HB2.out.1, HB2.out.2⟩
    · clear n1
      go_enter Tryd.func28, Tryd.ntmps28
      go_upto_region 1 with fail
      generalize w.alloc (.cells #[.int .i64 4, .int .i64 m, .slice ao len cap] 24) = wv at *
      have d0 : wv.cell? ⟨w.heap.size, 0, none⟩ = some (.int .i64 4) := by rw [Lib.cell_of_heap HX0.out]; rfl
      have d1 : wv.cell? ⟨w.heap.size, 1, none⟩ = some (.int .i64 m) := by rw [Lib.cell_of_heap HX0.out]; rfl
      have d2 : wv.cell? ⟨w.heap.size, 2, none⟩ = some (.slice ao len cap) := by rw [Lib.cell_of_heap HX0.out]; rfl
      have hs0 := HXb.out.size
      have i9 : (⟨#[102, 117, 110, 32]⟩ : ByteArray).size + (⟨(Lib.itoa m).toArray⟩ : ByteArray).size ≤ 9223372036854775807 := by have := HIt.out; show 4 + _ ≤ _; omega
      obtain ⟨S, hcat⟩ : ∃ S, (⟨#[102, 117, 110, 32]⟩ : ByteArray) ++ (⟨(Lib.itoa m).toArray⟩ : ByteArray) = S := ⟨_, rfl⟩
      have HSl : Hid (S.data.toList = [102, 117, 110, 32] ++ Lib.itoa m) := by show _ = _; rw [← hcat, cat_list]
      have HI9 : Hid (S.size ≤ 25) := by show _ ≤ _; rw [← hcat, ByteArray.size_append]; have := HIt.out; show 4 + _ ≤ _; omega
      by_cases hl0 : len = 0
      · have HL0 : Hid (len = 0) := hl0
        have hl0' : ¬ 0 < len := by omega
        clear hl0
        go_wp2_with (first
          | (go_at_call 47; refine (fmtInt_any m hm wv (HT.out.kept (HB0.out.trans (HXb.out.mono (by omega))))).mono ?_; rintro e w1 ⟨rfl, hb1⟩; have HB1 : Hid (Below w.heap.size w w1) := HXb.out.trans (hb1.mono hs0); have hs1 := hb1.size; have hX1 : w1.heap[w.heap.size]? = wv.heap[w.heap.size]? := hb1.block _ (heap_lt3 HX0.out); have HX1 : Hid (w1.heap[w.heap.size]? = wv.heap[w.heap.size]?) := hX1; clear hb1 hX1)
          | (go_at_call 46; refine (wstr_any B b l S w1 (HBl.out.kept HB1.out) (by have := HI9.out; omega) (by omega)).mono ?_; rintro e w2 ⟨rfl, h2, hb2, hk2⟩; have H2 : Hid (Bld w2 B b (l ++ ([102, 117, 110, 32] ++ Lib.itoa m))) := (by rw [HSl.out] at h2; exact h2); have HB2 : Hid (Below B w w2 ∧ KT w w2 b) := ⟨(HB1.out.mono hBw).trans hb2, (KT.bel HB1.out b).trans hk2⟩; have HKK : Hid (KT w1 w2 b ∧ w1.heap.size ≤ w2.heap.size) := ⟨hk2, hb2.size⟩; have HX2 : Hid (w2.heap[w.heap.size]? = some (.cells #[.int .i64 4, .int .i64 m, .slice ao len cap] 24 (0, 0))) := (hk2 _ _ _ _ (by decide) (by omega) (HX1.out.trans HX0.out)).trans (HX1.out.trans HX0.out); have g2 : w2.cell? ⟨w.heap.size, 2, none⟩ = some (.slice ao len cap) := (by rw [Lib.cell_of_heap HX2.out]; rfl); have hs2 := hb2.size; clear h2 hb2 hk2))
        go_end0
        refine ⟨rfl, ?_, HB2.out.1, HB2.out.2⟩
        show Bld w2 B b (l ++ ([102, 117, 110, 32] ++ (Lib.itoa m ++ (if len = 0 then [] else [32, 91] ++ (commas (fun i => (ps i).txt) len ++ [93])))))
        rw [if_pos HL0.out, List.append_nil]
        exact H2.out
      · have HL0 : Hid (¬ len = 0) := hl0
        have hl0' : 0 < len := by omega
        have HLL : Hid ((l ++ ([102, 117, 110, 32] ++ Lib.itoa m)).length ≤ l.length + 25) := by show _ ≤ _; simp only [List.length_append, List.length_cons, List.length_nil]; omega
        clear hl0
        go_wp2_with (first
          | (go_at_call 47; refine (fmtInt_any m hm wv (HT.out.kept (HB0.out.trans (HXb.out.mono (by omega))))).mono ?_; rintro e w1 ⟨rfl, hb1⟩; have HB1 : Hid (Below w.heap.size w w1) := HXb.out.trans (hb1.mono hs0); have hs1 := hb1.size; have hX1 : w1.heap[w.heap.size]? = wv.heap[w.heap.size]? := hb1.block _ (heap_lt3 HX0.out); have HX1 : Hid (w1.heap[w.heap.size]? = wv.heap[w.heap.size]?) := hX1; clear hb1 hX1)
          | (go_at_call 46; refine (wstr_any B b l S w1 (HBl.out.kept HB1.out) (by have := HI9.out; omega) (by omega)).mono ?_; rintro e w2 ⟨rfl, h2, hb2, hk2⟩; have H2 : Hid (Bld w2 B b (l ++ ([102, 117, 110, 32] ++ Lib.itoa m))) := (by rw [HSl.out] at h2; exact h2); have HB2 : Hid (Below B w w2 ∧ KT w w2 b) := ⟨(HB1.out.mono hBw).trans hb2, (KT.bel HB1.out b).trans hk2⟩; have HKK : Hid (KT w1 w2 b ∧ w1.heap.size ≤ w2.heap.size) := ⟨hk2, hb2.size⟩; have HX2 : Hid (w2.heap[w.heap.size]? = some (.cells #[.int .i64 4, .int .i64 m, .slice ao len cap] 24 (0, 0))) := (hk2 _ _ _ _ (by decide) (by omega) (HX1.out.trans HX0.out)).trans (HX1.out.trans HX0.out); have g2 : w2.cell? ⟨w.heap.size, 2, none⟩ = some (.slice ao len cap) := (by rw [Lib.cell_of_heap HX2.out]; rfl); have hs2 := hb2.size; clear h2 hb2 hk2)
          | (go_at_call 49; refine (wall_any ao b0 o len cap ps ⟨#[32, 91]⟩ ⟨#[93]⟩ w0 w2 B b (l ++ ([102, 117, 110, 32] ++ Lib.itoa m)) HAt.out.1 HAt.out.2.1 HAt.out.2.2 HPs.out HT.out h0B (HB0.out.trans (HB2.out.1.mono h0B)) (by omega) H2.out (by have := HLL.out; omega) (by decide) (by decide) hl0').mono ?_; rintro e w3 ⟨rfl, h3, hb3, hk3⟩; have H3 : Hid (Bld w3 B b ((l ++ ([102, 117, 110, 32] ++ Lib.itoa m)) ++ ([32, 91] ++ (commas (fun i => (ps i).txt) len ++ [93])))) := h3; have HB3 : Hid (Below B w w3 ∧ KT w w3 b) := ⟨HB2.out.1.trans hb3, HB2.out.2.trans hk3⟩; clear h3 hb3 hk3))
        go_end0
        refine ⟨rfl, ?_, HB3.out.1, HB3.out.2⟩
        show Bld w3 B b (l ++ ([102, 117, 110, 32] ++ (Lib.itoa m ++ (if len = 0 then [] else [32, 91] ++ (commas (fun i => (ps i).txt) len ++ [93])))))
        rw [if_neg HL0.out]
        have h := H3.out
        simp only [List.append_assoc] at h ⊢
        exact h
    · clear n1
      go_enter Tryd.func28, Tryd.ntmps28
      go_upto_region 1 with fail
      generalize w.alloc (.cells #[.int .i64 5, .int .i64 m, .slice ao len cap] 24) = wv at *
      have d0 : wv.cell? ⟨w.heap.size, 0, none⟩ = some (.int .i64 5) := by rw [Lib.cell_of_heap HX0.out]; rfl
      have d1 : wv.cell? ⟨w.heap.size, 1, none⟩ = some (.int .i64 m) := by rw [Lib.cell_of_heap HX0.out]; rfl
      have d2 : wv.cell? ⟨w.heap.size, 2, none⟩ = some (.slice ao len cap) := by rw [Lib.cell_of_heap HX0.out]; rfl
      have hs0 := HXb.out.size
      have i9 : (⟨#[114, 101, 102, 32]⟩ : ByteArray).size + (⟨(Lib.itoa m).toArray⟩ : ByteArray).size ≤ 9223372036854775807 := by have := HIt.out; show 4 + _ ≤ _; omega
      obtain ⟨S, hcat⟩ : ∃ S, (⟨#[114, 101, 102, 32]⟩ : ByteArray) ++ (⟨(Lib.itoa m).toArray⟩ : ByteArray) = S := ⟨_, rfl⟩
      have HSl : Hid (S.data.toList = [114, 101, 102, 32] ++ Lib.itoa m) := by show _ = _; rw [← hcat, cat_list]
      have HI9 : Hid (S.size ≤ 25) := by show _ ≤ _; rw [← hcat, ByteArray.size_append]; have := HIt.out; show 4 + _ ≤ _; omega
      go_wp2_with (first
        | (go_at_call 47; refine (fmtInt_any m hm wv (HT.out.kept (HB0.out.trans (HXb.out.mono (by omega))))).mono ?_; rintro e w1 ⟨rfl, hb1⟩; have HB1 : Hid (Below w.heap.size w w1) := HXb.out.trans (hb1.mono hs0); have hs1 := hb1.size; have hX1 : w1.heap[w.heap.size]? = wv.heap[w.heap.size]? := hb1.block _ (heap_lt3 HX0.out); have HX1 : Hid (w1.heap[w.heap.size]? = wv.heap[w.heap.size]?) := hX1; clear hb1 hX1)
        | (go_at_call 46; refine (wstr_any B b l S w1 (HBl.out.kept HB1.out) (by have := HI9.out; omega) (by omega)).mono ?_; rintro e w2 ⟨rfl, h2, hb2, hk2⟩; have H2 : Hid (Bld w2 B b (l ++ ([114, 101, 102, 32] ++ Lib.itoa m))) := (by rw [HSl.out] at h2; exact h2); have HB2 : Hid (Below B w w2 ∧ KT w w2 b) := ⟨(HB1.out.mono hBw).trans hb2, (KT.bel HB1.out b).trans hk2⟩; have HKK : Hid (KT w1 w2 b ∧ w1.heap.size ≤ w2.heap.size) := ⟨hk2, hb2.size⟩; clear h2 hb2 hk2))
      go_end0
      exact ⟨rfl, H2.out, HB2.out.1, HB2.out.2⟩
end Go.Proofs.YtnkipiegjpjfbaaDoor

/- Layer 3: the walks of value.Text and of the statements' awake. -/
namespace Go.Proofs.YtnkipiegjpjfbaaDoor
open Go.RowKit

theorem vok_parts {v : Vl} (h : v.ok = true) : v.nodes ≤ 2000 ∧ v.fm = true := by
  unfold Vl.ok at h
  rw [Bool.and_eq_true, decide_eq_true_eq] at h
  exact h
/-- What Text answers. -/
def Vl.tx (v : Vl) : ByteArray := if v.ok = true then ⟨v.txt.toArray⟩ else ⟨#[]⟩
def Vl.te (v : Vl) : Int := if v.ok = true then 0 else 9

set_option maxRecDepth 100000 in
set_option maxHeartbeats 4000000 in
theorem text_any (v : Vl) (w : World) (hv : v.At w) (hT : Tab w) (hr : v.rng) :
    Calls Tryd.prog 12 #[.agg #[.int .i64 v.k, .int .i64 v.m, .slice v.ao v.len v.cap]] w fun e w' => e = .returned (.tuple #[.string v.tx, .int .i64 v.te]) ∧ Below w.heap.size w w' := by
  have HV : Hid (v.At w) := hv
  have HT : Hid (Tab w) := hT
  have HR : Hid v.rng := hr
  have X0 := Bv.new w v
  have HX : Hid (Bv (w.alloc (.cells #[.int .i64 v.k, .int .i64 v.m, .slice v.ao v.len v.cap] 24)) w.heap.size v) := X0
  have HXb : Hid (Below w.heap.size w (w.alloc (.cells #[.int .i64 v.k, .int .i64 v.m, .slice v.ao v.len v.cap] 24))) := (Below.refl _ _).alloc (Nat.le_refl _) _
  have HXs : Hid (w.heap.size < (w.alloc (.cells #[.int .i64 v.k, .int .i64 v.m, .slice v.ao v.len v.cap] 24)).heap.size) := by show _ < _; simp
  clear hv hT hr X0
  go_enter Tryd.func12, Tryd.ntmps12
  go_upto_region 1 with fail
  generalize w.alloc (.cells #[.int .i64 v.k, .int .i64 v.m, .slice v.ao v.len v.cap] 24) = wv at *
  have c0 := HX.out.c0
  have c1 := HX.out.c1
  have c2 := HX.out.c2
  cases hok : v.ok with
  | false =>
    have HE : Hid (v.tx = ⟨#[]⟩ ∧ v.te = 9) := by show _ ∧ _; unfold Vl.tx Vl.te; rw [hok]; exact ⟨rfl, rfl⟩
    have HO : Hid (v.ok = false) := hok
    clear hok
    go_wp2_with (go_at_call 14; refine (vFormed_any v wv (HV.out.kept HXb.out)).mono ?_; rw [HO.out]; rintro e w1 ⟨rfl, hb1⟩; have HB1 : Hid (Below w.heap.size w w1) := HXb.out.trans (hb1.mono HXb.out.size); clear hb1)
    go_ret2
    exact ⟨by rw [HE.out.1, HE.out.2]; rfl, HB1.out⟩
  | true =>
    have HE : Hid (v.tx = ⟨v.txt.toArray⟩ ∧ v.te = 0) := by show _ ∧ _; unfold Vl.tx Vl.te; rw [hok]; exact ⟨rfl, rfl⟩
    have HO : Hid (v.ok = true) := hok
    have hnd := (vok_parts hok).1
    clear hok
    go_upto_region 4 with (go_at_call 14; refine (vFormed_any v wv (HV.out.kept HXb.out)).mono ?_; rw [HO.out]; rintro e w1 ⟨rfl, hb1⟩; have HX1 : Hid (Bv w1 w.heap.size v) := HX.out.kept hb1; have HB1 : Hid (Below w.heap.size w w1) := HXb.out.trans (hb1.mono HXb.out.size); have hs1 := hb1.size; clear hb1)
    have HN : Hid (Bld (w1.alloc (.cells #[.pointer none, .slice none 0 0] 62)) w1.heap.size w1.heap.size []) := Bld.new w1
    have HNb : Hid (Below w1.heap.size w1 (w1.alloc (.cells #[.pointer none, .slice none 0 0] 62))) := (Below.refl _ _).alloc (Nat.le_refl _) _
    generalize w1.alloc (.cells #[.pointer none, .slice none 0 0] 62) = wb at *
    have hX2 := HX1.out.kept HNb.out
    have d0 := hX2.c0
    have d1 := hX2.c1
    have d2 := hX2.c2
    have hsb := HNb.out.size
    have hw1 := HB1.out.size
    clear hX2 c0 c1 c2
    go_wp2_with (first
      | (go_at_call 28; refine (write_wc v w wb w1.heap.size w1.heap.size [] HV.out HT.out hw1 (HB1.out.trans (HNb.out.mono hw1)) hsb HN.out (vok_parts HO.out).2 HR.out (by show 0 + 40 * v.nodes ≤ _; omega)).mono ?_; rintro e w3 ⟨rfl, h3, hb3, _⟩; have H3 : Hid (Bld w3 w1.heap.size w1.heap.size v.txt) := h3; have HB3 : Hid (Below w.heap.size w w3) := HB1.out.trans ((HNb.out.trans hb3).mono hw1); have hs3 := hb3.size; clear h3 hb3)
      | (go_at_call 29; refine (Tryd.Builder_String_any w1.heap.size w1.heap.size v.txt w3 H3.out (by omega)).mono ?_; rintro e w4 ⟨rfl, hb4⟩; have HB4 : Hid (Below w.heap.size w w4) := HB3.out.trans (hb4.mono hw1); clear hb4))
    go_ret2
    exact ⟨by rw [HE.out.1, HE.out.2]; rfl, HB4.out⟩

theorem awk_ok : Vl.ok (.mk 1 (-7) none 0 0 0 0 (fun _ => .dm)) = true := by
  unfold Vl.ok
  rw [Bool.and_eq_true, decide_eq_true_eq]
  refine ⟨by decide, ?_⟩
  show (ndB 1 (-7) 0 && decide (∀ i, i < 0 → _)) = true
  rw [Bool.and_eq_true, decide_eq_true_eq]
  exact ⟨rfl, fun i hi => absurd hi (Nat.not_lt_zero _)⟩
theorem awk_tx : Vl.tx (.mk 1 (-7) none 0 0 0 0 (fun _ => .dm)) = ⟨#[45, 55]⟩ ∧ Vl.te (.mk 1 (-7) none 0 0 0 0 (fun _ => .dm)) = 0 := by
  unfold Vl.tx Vl.te
  rw [awk_ok]
  refine ⟨?_, rfl⟩
  show (⟨(Lib.itoa (-7)).toArray⟩ : ByteArray) = _
  rw [show Lib.itoa (-7) = [45, 55] by unfold Lib.itoa; rw [if_pos (by decide)]; show 45 :: Lib.decDigits 7 = _; rw [Lib.decDigits_one (by omega)]; rfl]
set_option maxRecDepth 100000 in
set_option maxHeartbeats 4000000 in
theorem vawake_any (w : World) (hT : Tab w) : Calls Tryd.prog 8 #[] w fun e w' => e = .returned (.bool true) ∧ Below w.heap.size w w' := by
  have HT : Hid (Tab w) := hT
  clear hT
  go_enter Tryd.func8, Tryd.ntmps8
  go_wp2_with (first
    | (go_at_call 12; refine (text_any (.mk 1 (-7) none 0 0 0 0 (fun _ => .dm)) w ⟨fun h => absurd h (Nat.lt_irrefl _), by omega, fun _ h => absurd h (Nat.not_lt_zero _)⟩ HT.out ⟨by omega, fun _ h => absurd h (Nat.not_lt_zero _)⟩).mono ?_; rw [awk_tx.1, awk_tx.2]; rintro e w1 ⟨rfl, hb1⟩; have HB1 : Hid (Below w.heap.size w w1) := hb1; clear hb1)
    | (go_at_call 16; refine (vNodes_any (.mk 0 0 none 0 0 0 0 (fun _ => .dm)) w1 ⟨fun h => absurd h (Nat.lt_irrefl _), by omega, fun _ h => absurd h (Nat.not_lt_zero _)⟩).mono ?_; rw [show min (Vl.nodes (.mk 0 0 none 0 0 0 0 (fun _ => .dm))) 2001 = 1 by decide]; rintro e w2 ⟨rfl, hb2⟩; have HB2 : Hid (Below w.heap.size w w2) := HB1.out.trans (hb2.mono HB1.out.size); clear hb2))
  go_ret
  exact ⟨rfl, HB2.out⟩
end Go.Proofs.YtnkipiegjpjfbaaDoor
