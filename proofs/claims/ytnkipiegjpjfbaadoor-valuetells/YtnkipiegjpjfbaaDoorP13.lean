/- Layer 3: the walk of value.write, by induction on the value; value.Text. -/
import Derived.Test.YtnkipiegjpjfbaaDoorP12
import Derived.Test.YtnkipiegjpjfbaaDoorP11
import Derived.Test.YtnkipiegjpjfbaaDoorP8
namespace Go.Proofs.YtnkipiegjpjfbaaDoor
open Go.RowKit

theorem cat_list (a : Array UInt8) (l : List UInt8) : ((⟨a⟩ : ByteArray) ++ (⟨l.toArray⟩ : ByteArray)).data.toList = a.toList ++ l := by
  simp [ByteArray.data_append]
theorem str_size (l : List UInt8) : (⟨l.toArray⟩ : ByteArray).size = l.length := by rw [Lib.size_eq]

theorem heap_lt3 {w : World} {p : Nat} {v : Obj} (h : w.heap[p]? = some v) : p < w.heap.size := by
  rcases Nat.lt_or_ge p w.heap.size with hl | hl
  · exact hl
  · rw [Array.getElem?_eq_none hl] at h; cases h

set_option maxRecDepth 100000 in
set_option maxHeartbeats 4000000 in
theorem write_wc : ∀ v : Vl, WC v
  | .dm => fun _ _ _ _ _ h => h.elim
  | .mk k m ao b0 o len cap ps => by
    have ih : ∀ i, WC (ps i) := fun i => write_wc (ps i)
    intro w0 w B b l hAt hT h0B hb0 hBw hBl hfm hrng hlen
    show Calls Tryd.prog 28 #[.pointer (some ⟨b, 0, none⟩), .agg #[.int .i64 k, .int .i64 m, .slice ao len cap]] w _
    obtain ⟨n1, p1⟩ := fm_parts hfm
    have hm := hrng.1
    have hit := Lib.itoa_length_le m hm.1 hm.2
    have hln : l.length + 40 * (1 + sumTo (fun i => (ps i).nodes) len) ≤ 1000000000 := hlen
    have HT : Hid (Tab w0) := hT
    have HB0 : Hid (Below w0.heap.size w0 w) := hb0
    have HBl : Hid (Bld w B b l) := hBl
    have HX0 : Hid ((w.alloc (.cells #[.int .i64 k, .int .i64 m, .slice ao len cap] 24)).heap[w.heap.size]? = some (.cells #[.int .i64 k, .int .i64 m, .slice ao len cap] 24 (0, 0))) := heap_alloc_new _ _
    have HXb : Hid (Below w.heap.size w (w.alloc (.cells #[.int .i64 k, .int .i64 m, .slice ao len cap] 24))) := (Below.refl _ _).alloc (Nat.le_refl _) _
    have hbw : b < w.heap.size := by
      obtain ⟨p, v, _, hh⟩ := hBl.at
      rcases Nat.lt_or_ge b w.heap.size with h' | h'
      · exact h'
      · rw [Array.getElem?_eq_none h'] at hh; cases hh
    have HAt : Hid ((0 < len → ao = some ⟨b0, o, none⟩) ∧ len ≤ 9223372036854775807 ∧ ∀ i, i < len → C3 w0 b0 (o + i * 3) (ps i) ∧ Vl.At w0 (ps i)) := hAt
    have HPs : Hid (∀ i, i < len → WC (ps i) ∧ (ps i).fm = true ∧ (ps i).rng) := fun i hi => ⟨ih i, p1 i hi, hrng.2 i hi⟩
    have HHb : Hid (len ≤ 9223372036854775807) := hAt.2.1
    have HIt : Hid ((⟨(Lib.itoa m).toArray⟩ : ByteArray).size ≤ 21) := by show _ ≤ _; rw [str_size]; exact hit
    have hlb := HHb.out
    clear hAt hT hb0 hBl hfm hrng hlen ih
    rcases nd_kind n1 with rfl | rfl | rfl | rfl | rfl
    · go_enter Tryd.func28, Tryd.ntmps28
      go_upto_region 1 with fail
      generalize w.alloc (.cells #[.int .i64 1, .int .i64 m, .slice ao len cap] 24) = wv at *
      have d0 : wv.cell? ⟨w.heap.size, 0, none⟩ = some (.int .i64 1) := by rw [Lib.cell_of_heap HX0.out]; rfl
      have d1 : wv.cell? ⟨w.heap.size, 1, none⟩ = some (.int .i64 m) := by rw [Lib.cell_of_heap HX0.out]; rfl
      have d2 : wv.cell? ⟨w.heap.size, 2, none⟩ = some (.slice ao len cap) := by rw [Lib.cell_of_heap HX0.out]; rfl
      have hs0 := HXb.out.size
      go_wp2_with (first
        | (go_at_call 47; refine (fmtInt_any m hm wv (HT.out.kept (HB0.out.trans (HXb.out.mono (by omega))))).mono ?_; rintro e w1 ⟨rfl, hb1⟩; have HB1 : Hid (Below w.heap.size w w1) := HXb.out.trans (hb1.mono hs0); have hs1 := hb1.size; have hX1 : w1.heap[w.heap.size]? = wv.heap[w.heap.size]? := hb1.block _ (heap_lt3 HX0.out); have HX1 : Hid (w1.heap[w.heap.size]? = wv.heap[w.heap.size]?) := hX1; clear hb1 hX1)
        | (go_at_call 46; refine (wstr_any B b l ⟨(Lib.itoa m).toArray⟩ w1 (HBl.out.kept HB1.out) (by have := HIt.out; omega) (by omega)).mono ?_; rintro e w2 ⟨rfl, h2, hb2, hk2⟩; have H2 : Hid (Bld w2 B b (l ++ Lib.itoa m)) := h2; have HB2 : Hid (Below B w w2 ∧ KT w w2 b) := ⟨(HB1.out.mono hBw).trans hb2, (KT.bel HB1.out b).trans hk2⟩; have HKK : Hid (KT w1 w2 b ∧ w1.heap.size ≤ w2.heap.size) := ⟨hk2, hb2.size⟩; clear h2 hb2 hk2))
      go_end0
      exact ⟨rfl, H2.out, HB2.out.1, HB2.out.2⟩
    · have l1 : len = 0 ∧ (m = 0 ∨ m = 1) := by simpa [ndB] using n1
      have hm01 := l1.2
      clear l1 n1
      go_enter Tryd.func28, Tryd.ntmps28
      go_upto_region 1 with fail
      generalize w.alloc (.cells #[.int .i64 2, .int .i64 m, .slice ao len cap] 24) = wv at *
      have d0 : wv.cell? ⟨w.heap.size, 0, none⟩ = some (.int .i64 2) := by rw [Lib.cell_of_heap HX0.out]; rfl
      have d1 : wv.cell? ⟨w.heap.size, 1, none⟩ = some (.int .i64 m) := by rw [Lib.cell_of_heap HX0.out]; rfl
      have d2 : wv.cell? ⟨w.heap.size, 2, none⟩ = some (.slice ao len cap) := by rw [Lib.cell_of_heap HX0.out]; rfl
      have hs0 := HXb.out.size
      rcases hm01 with rfl | rfl
      · go_wp2_with (first
          | (go_at_call 48; refine (Tryd.strconv_FormatBool false wv).mono ?_; rintro e w1 ⟨rfl, rfl⟩)
          | (go_at_call 46; refine (wstr_any B b l ⟨(Lib.formatBool false).toArray⟩ _ (HBl.out.kept HXb.out) (by show _ + 5 ≤ _; omega) (by omega)).mono ?_; rintro e w2 ⟨rfl, h2, hb2, hk2⟩; have H2 : Hid (Bld w2 B b (l ++ [102, 97, 108, 115, 101])) := h2; have HB2 : Hid (Below B w w2 ∧ KT w w2 b) := ⟨(HXb.out.mono hBw).trans hb2, (KT.bel HXb.out b).trans hk2⟩; clear h2 hb2 hk2))
        go_end0
        exact ⟨rfl, H2.out, HB2.out.1, HB2.out.2⟩
      · go_wp2_with (first
          | (go_at_call 48; refine (Tryd.strconv_FormatBool true wv).mono ?_; rintro e w1 ⟨rfl, rfl⟩)
          | (go_at_call 46; refine (wstr_any B b l ⟨(Lib.formatBool true).toArray⟩ _ (HBl.out.kept HXb.out) (by show _ + 4 ≤ _; omega) (by omega)).mono ?_; rintro e w2 ⟨rfl, h2, hb2, hk2⟩; have H2 : Hid (Bld w2 B b (l ++ [116, 114, 117, 101])) := h2; have HB2 : Hid (Below B w w2 ∧ KT w w2 b) := ⟨(HXb.out.mono hBw).trans hb2, (KT.bel HXb.out b).trans hk2⟩; clear h2 hb2 hk2))
        go_end0
        exact ⟨rfl, H2.out, HB2.out.1, HB2.out.2⟩
    · have l1 : len = 2 ∧ m = 0 := by simpa [ndB] using n1
      have HL2 : Hid (0 < len) := by show 0 < len; omega
      clear l1 n1
      go_enter Tryd.func28, Tryd.ntmps28
      go_upto_region 1 with fail
      generalize w.alloc (.cells #[.int .i64 3, .int .i64 m, .slice ao len cap] 24) = wv at *
      have d0 : wv.cell? ⟨w.heap.size, 0, none⟩ = some (.int .i64 3) := by rw [Lib.cell_of_heap HX0.out]; rfl
      have d1 : wv.cell? ⟨w.heap.size, 1, none⟩ = some (.int .i64 m) := by rw [Lib.cell_of_heap HX0.out]; rfl
      have d2 : wv.cell? ⟨w.heap.size, 2, none⟩ = some (.slice ao len cap) := by rw [Lib.cell_of_heap HX0.out]; rfl
      have hs0 := HXb.out.size
      go_wp2_with (go_at_call 49; refine (wall_any ao b0 o len cap ps ⟨#[40]⟩ ⟨#[41]⟩ w0 wv B b l HAt.out.1 HAt.out.2.1 HAt.out.2.2 HPs.out HT.out h0B (HB0.out.trans (HXb.out.mono (by omega))) (by omega) (HBl.out.kept HXb.out) (by omega) (by decide) (by decide) HL2.out).mono ?_; rintro e w2 ⟨rfl, h2, hb2, hk2⟩; have H2 : Hid (Bld w2 B b (l ++ ([40] ++ (commas (fun i => (ps i).txt) len ++ [41])))) := h2; have HB2 : Hid (Below B w w2 ∧ KT w w2 b) := ⟨(HXb.out.mono hBw).trans hb2, (KT.bel HXb.out b).trans hk2⟩; clear h2 hb2 hk2)
      go_end0
      exact ⟨rfl, H2.out, HB2.out.1, HB2.out.2⟩
    · clear n1
      go_enter Tryd.func28, Tryd.ntmps28
      go_upto_region 1 with fail
      generalize w.alloc (.cells #[.int .i64 4, .int .i64 m, .slice ao len cap] 24) = wv at *
      have d0 : wv.cell? ⟨w.heap.size, 0, none⟩ = some (.int .i64 4) := by rw [Lib.cell_of_heap HX0.out]; rfl
      have d1 : wv.cell? ⟨w.heap.size, 1, none⟩ = some (.int .i64 m) := by rw [Lib.cell_of_heap HX0.out]; rfl
      have d2 : wv.cell? ⟨w.heap.size, 2, none⟩ = some (.slice ao len cap) := by rw [Lib.cell_of_heap HX0.out]; rfl
      have hs0 := HXb.out.size
      have i9 : (⟨#[102, 117, 110, 32]⟩ : ByteArray).size + (⟨(Lib.itoa m).toArray⟩ : ByteArray).size ≤ 9223372036854775807 := by have := HIt.out; show 4 + _ ≤ _; omega
      obtain ⟨S, hcat⟩ : ∃ S, (⟨#[102, 117, 110, 32]⟩ : ByteArray) ++ (⟨(Lib.itoa m).toArray⟩ : ByteArray) = S := ⟨_, rfl⟩
      have HSl : Hid (S.data.toList = [102, 117, 110, 32] ++ Lib.itoa m) := by show _ = _; rw [← hcat, cat_list]
      have HI9 : Hid (S.size ≤ 25) := by show _ ≤ _; rw [← hcat, ByteArray.size_append]; have := HIt.out; show 4 + _ ≤ _; omega
      by_cases hl0 : len = 0
      · have HL0 : Hid (len = 0) := hl0
        have hl0' : ¬ 0 < len := by omega
        clear hl0
        go_wp2_with (first
          | (go_at_call 47; refine (fmtInt_any m hm wv (HT.out.kept (HB0.out.trans (HXb.out.mono (by omega))))).mono ?_; rintro e w1 ⟨rfl, hb1⟩; have HB1 : Hid (Below w.heap.size w w1) := HXb.out.trans (hb1.mono hs0); have hs1 := hb1.size; have hX1 : w1.heap[w.heap.size]? = wv.heap[w.heap.size]? := hb1.block _ (heap_lt3 HX0.out); have HX1 : Hid (w1.heap[w.heap.size]? = wv.heap[w.heap.size]?) := hX1; clear hb1 hX1)
          | (go_at_call 46; refine (wstr_any B b l S w1 (HBl.out.kept HB1.out) (by have := HI9.out; omega) (by omega)).mono ?_; rintro e w2 ⟨rfl, h2, hb2, hk2⟩; have H2 : Hid (Bld w2 B b (l ++ ([102, 117, 110, 32] ++ Lib.itoa m))) := (by rw [HSl.out] at h2; exact h2); have HB2 : Hid (Below B w w2 ∧ KT w w2 b) := ⟨(HB1.out.mono hBw).trans hb2, (KT.bel HB1.out b).trans hk2⟩; have HKK : Hid (KT w1 w2 b ∧ w1.heap.size ≤ w2.heap.size) := ⟨hk2, hb2.size⟩; have HX2 : Hid (w2.heap[w.heap.size]? = some (.cells #[.int .i64 4, .int .i64 m, .slice ao len cap] 24 (0, 0))) := (hk2 _ _ _ _ (by decide) (by omega) (HX1.out.trans HX0.out)).trans (HX1.out.trans HX0.out); have g2 : w2.cell? ⟨w.heap.size, 2, none⟩ = some (.slice ao len cap) := (by rw [Lib.cell_of_heap HX2.out]; rfl); have hs2 := hb2.size; clear h2 hb2 hk2))
        go_end0
        refine ⟨rfl, ?_, HB2.out.1, HB2.out.2⟩
        show Bld w2 B b (l ++ ([102, 117, 110, 32] ++ (Lib.itoa m ++ (if len = 0 then [] else [32, 91] ++ (commas (fun i => (ps i).txt) len ++ [93])))))
        rw [if_pos HL0.out, List.append_nil]
        exact H2.out
      · have HL0 : Hid (¬ len = 0) := hl0
        have hl0' : 0 < len := by omega
        have HLL : Hid ((l ++ ([102, 117, 110, 32] ++ Lib.itoa m)).length ≤ l.length + 25) := by show _ ≤ _; simp only [List.length_append, List.length_cons, List.length_nil]; omega
        clear hl0
        go_wp2_with (first
          | (go_at_call 47; refine (fmtInt_any m hm wv (HT.out.kept (HB0.out.trans (HXb.out.mono (by omega))))).mono ?_; rintro e w1 ⟨rfl, hb1⟩; have HB1 : Hid (Below w.heap.size w w1) := HXb.out.trans (hb1.mono hs0); have hs1 := hb1.size; have hX1 : w1.heap[w.heap.size]? = wv.heap[w.heap.size]? := hb1.block _ (heap_lt3 HX0.out); have HX1 : Hid (w1.heap[w.heap.size]? = wv.heap[w.heap.size]?) := hX1; clear hb1 hX1)
          | (go_at_call 46; refine (wstr_any B b l S w1 (HBl.out.kept HB1.out) (by have := HI9.out; omega) (by omega)).mono ?_; rintro e w2 ⟨rfl, h2, hb2, hk2⟩; have H2 : Hid (Bld w2 B b (l ++ ([102, 117, 110, 32] ++ Lib.itoa m))) := (by rw [HSl.out] at h2; exact h2); have HB2 : Hid (Below B w w2 ∧ KT w w2 b) := ⟨(HB1.out.mono hBw).trans hb2, (KT.bel HB1.out b).trans hk2⟩; have HKK : Hid (KT w1 w2 b ∧ w1.heap.size ≤ w2.heap.size) := ⟨hk2, hb2.size⟩; have HX2 : Hid (w2.heap[w.heap.size]? = some (.cells #[.int .i64 4, .int .i64 m, .slice ao len cap] 24 (0, 0))) := (hk2 _ _ _ _ (by decide) (by omega) (HX1.out.trans HX0.out)).trans (HX1.out.trans HX0.out); have g2 : w2.cell? ⟨w.heap.size, 2, none⟩ = some (.slice ao len cap) := (by rw [Lib.cell_of_heap HX2.out]; rfl); have hs2 := hb2.size; clear h2 hb2 hk2)
          | (go_at_call 49; refine (wall_any ao b0 o len cap ps ⟨#[32, 91]⟩ ⟨#[93]⟩ w0 w2 B b (l ++ ([102, 117, 110, 32] ++ Lib.itoa m)) HAt.out.1 HAt.out.2.1 HAt.out.2.2 HPs.out HT.out h0B (HB0.out.trans (HB2.out.1.mono h0B)) (by omega) H2.out (by have := HLL.out; omega) (by decide) (by decide) hl0').mono ?_; rintro e w3 ⟨rfl, h3, hb3, hk3⟩; have H3 : Hid (Bld w3 B b ((l ++ ([102, 117, 110, 32] ++ Lib.itoa m)) ++ ([32, 91] ++ (commas (fun i => (ps i).txt) len ++ [93])))) := h3; have HB3 : Hid (Below B w w3 ∧ KT w w3 b) := ⟨HB2.out.1.trans hb3, HB2.out.2.trans hk3⟩; clear h3 hb3 hk3))
        go_end0
        refine ⟨rfl, ?_, HB3.out.1, HB3.out.2⟩
        show Bld w3 B b (l ++ ([102, 117, 110, 32] ++ (Lib.itoa m ++ (if len = 0 then [] else [32, 91] ++ (commas (fun i => (ps i).txt) len ++ [93])))))
        rw [if_neg HL0.out]
        have h := H3.out
        simp only [List.append_assoc] at h ⊢
        exact h
    · clear n1
      go_enter Tryd.func28, Tryd.ntmps28
      go_upto_region 1 with fail
      generalize w.alloc (.cells #[.int .i64 5, .int .i64 m, .slice ao len cap] 24) = wv at *
      have d0 : wv.cell? ⟨w.heap.size, 0, none⟩ = some (.int .i64 5) := by rw [Lib.cell_of_heap HX0.out]; rfl
      have d1 : wv.cell? ⟨w.heap.size, 1, none⟩ = some (.int .i64 m) := by rw [Lib.cell_of_heap HX0.out]; rfl
      have d2 : wv.cell? ⟨w.heap.size, 2, none⟩ = some (.slice ao len cap) := by rw [Lib.cell_of_heap HX0.out]; rfl
      have hs0 := HXb.out.size
      have i9 : (⟨#[114, 101, 102, 32]⟩ : ByteArray).size + (⟨(Lib.itoa m).toArray⟩ : ByteArray).size ≤ 9223372036854775807 := by have := HIt.out; show 4 + _ ≤ _; omega
      obtain ⟨S, hcat⟩ : ∃ S, (⟨#[114, 101, 102, 32]⟩ : ByteArray) ++ (⟨(Lib.itoa m).toArray⟩ : ByteArray) = S := ⟨_, rfl⟩
      have HSl : Hid (S.data.toList = [114, 101, 102, 32] ++ Lib.itoa m) := by show _ = _; rw [← hcat, cat_list]
      have HI9 : Hid (S.size ≤ 25) := by show _ ≤ _; rw [← hcat, ByteArray.size_append]; have := HIt.out; show 4 + _ ≤ _; omega
      go_wp2_with (first
        | (go_at_call 47; refine (fmtInt_any m hm wv (HT.out.kept (HB0.out.trans (HXb.out.mono (by omega))))).mono ?_; rintro e w1 ⟨rfl, hb1⟩; have HB1 : Hid (Below w.heap.size w w1) := HXb.out.trans (hb1.mono hs0); have hs1 := hb1.size; have hX1 : w1.heap[w.heap.size]? = wv.heap[w.heap.size]? := hb1.block _ (heap_lt3 HX0.out); have HX1 : Hid (w1.heap[w.heap.size]? = wv.heap[w.heap.size]?) := hX1; clear hb1 hX1)
        | (go_at_call 46; refine (wstr_any B b l S w1 (HBl.out.kept HB1.out) (by have := HI9.out; omega) (by omega)).mono ?_; rintro e w2 ⟨rfl, h2, hb2, hk2⟩; have H2 : Hid (Bld w2 B b (l ++ ([114, 101, 102, 32] ++ Lib.itoa m))) := (by rw [HSl.out] at h2; exact h2); have HB2 : Hid (Below B w w2 ∧ KT w w2 b) := ⟨(HB1.out.mono hBw).trans hb2, (KT.bel HB1.out b).trans hk2⟩; have HKK : Hid (KT w1 w2 b ∧ w1.heap.size ≤ w2.heap.size) := ⟨hk2, hb2.size⟩; clear h2 hb2 hk2))
      go_end0
      exact ⟨rfl, H2.out, HB2.out.1, HB2.out.2⟩
end Go.Proofs.YtnkipiegjpjfbaaDoor

/- Layer 3: the walks of value.Text and of the statements' awake. -/
namespace Go.Proofs.YtnkipiegjpjfbaaDoor
open Go.RowKit

theorem vok_parts {v : Vl} (h : v.ok = true) : v.nodes ≤ 2000 ∧ v.fm = true := by
  unfold Vl.ok at h
  rw [Bool.and_eq_true, decide_eq_true_eq] at h
  exact h
/-- What Text answers. -/
def Vl.tx (v : Vl) : ByteArray := if v.ok = true then ⟨v.txt.toArray⟩ else ⟨#[]⟩
def Vl.te (v : Vl) : Int := if v.ok = true then 0 else 9

set_option maxRecDepth 100000 in
set_option maxHeartbeats 4000000 in
theorem text_any (v : Vl) (w : World) (hv : v.At w) (hT : Tab w) (hr : v.rng) :
    Calls Tryd.prog 12 #[.agg #[.int .i64 v.k, .int .i64 v.m, .slice v.ao v.len v.cap]] w fun e w' => e = .returned (.tuple #[.string v.tx, .int .i64 v.te]) ∧ Below w.heap.size w w' := by
  have HV : Hid (v.At w) := hv
  have HT : Hid (Tab w) := hT
  have HR : Hid v.rng := hr
  have X0 := Bv.new w v
  have HX : Hid (Bv (w.alloc (.cells #[.int .i64 v.k, .int .i64 v.m, .slice v.ao v.len v.cap] 24)) w.heap.size v) := X0
  have HXb : Hid (Below w.heap.size w (w.alloc (.cells #[.int .i64 v.k, .int .i64 v.m, .slice v.ao v.len v.cap] 24))) := (Below.refl _ _).alloc (Nat.le_refl _) _
  have HXs : Hid (w.heap.size < (w.alloc (.cells #[.int .i64 v.k, .int .i64 v.m, .slice v.ao v.len v.cap] 24)).heap.size) := by show _ < _; simp
  clear hv hT hr X0
  go_enter Tryd.func12, Tryd.ntmps12
  go_upto_region 1 with fail
  generalize w.alloc (.cells #[.int .i64 v.k, .int .i64 v.m, .slice v.ao v.len v.cap] 24) = wv at *
  have c0 := HX.out.c0
  have c1 := HX.out.c1
  have c2 := HX.out.c2
  cases hok : v.ok with
  | false =>
    have HE : Hid (v.tx = ⟨#[]⟩ ∧ v.te = 9) := by show _ ∧ _; unfold Vl.tx Vl.te; rw [hok]; exact ⟨rfl, rfl⟩
    have HO : Hid (v.ok = false) := hok
    clear hok
    go_wp2_with (go_at_call 14; refine (vFormed_any v wv (HV.out.kept HXb.out)).mono ?_; rw [HO.out]; rintro e w1 ⟨rfl, hb1⟩; have HB1 : Hid (Below w.heap.size w w1) := HXb.out.trans (hb1.mono HXb.out.size); clear hb1)
    go_ret2
    exact ⟨by rw [HE.out.1, HE.out.2]; rfl, HB1.out⟩
  | true =>
    have HE : Hid (v.tx = ⟨v.txt.toArray⟩ ∧ v.te = 0) := by show _ ∧ _; unfold Vl.tx Vl.te; rw [hok]; exact ⟨rfl, rfl⟩
    have HO : Hid (v.ok = true) := hok
    have hnd := (vok_parts hok).1
    clear hok
    go_upto_region 4 with (go_at_call 14; refine (vFormed_any v wv (HV.out.kept HXb.out)).mono ?_; rw [HO.out]; rintro e w1 ⟨rfl, hb1⟩; have HX1 : Hid (Bv w1 w.heap.size v) := HX.out.kept hb1; have HB1 : Hid (Below w.heap.size w w1) := HXb.out.trans (hb1.mono HXb.out.size); have hs1 := hb1.size; clear hb1)
    have HN : Hid (Bld (w1.alloc (.cells #[.pointer none, .slice none 0 0] 62)) w1.heap.size w1.heap.size []) := Bld.new w1
    have HNb : Hid (Below w1.heap.size w1 (w1.alloc (.cells #[.pointer none, .slice none 0 0] 62))) := (Below.refl _ _).alloc (Nat.le_refl _) _
    generalize w1.alloc (.cells #[.pointer none, .slice none 0 0] 62) = wb at *
    have hX2 := HX1.out.kept HNb.out
    have d0 := hX2.c0
    have d1 := hX2.c1
    have d2 := hX2.c2
    have hsb := HNb.out.size
    have hw1 := HB1.out.size
    clear hX2 c0 c1 c2
    go_wp2_with (first
      | (go_at_call 28; refine (write_wc v w wb w1.heap.size w1.heap.size [] HV.out HT.out hw1 (HB1.out.trans (HNb.out.mono hw1)) hsb HN.out (vok_parts HO.out).2 HR.out (by show 0 + 40 * v.nodes ≤ _; omega)).mono ?_; rintro e w3 ⟨rfl, h3, hb3, _⟩; have H3 : Hid (Bld w3 w1.heap.size w1.heap.size v.txt) := h3; have HB3 : Hid (Below w.heap.size w w3) := HB1.out.trans ((HNb.out.trans hb3).mono hw1); have hs3 := hb3.size; clear h3 hb3)
      | (go_at_call 29; refine (Tryd.Builder_String_any w1.heap.size w1.heap.size v.txt w3 H3.out (by omega)).mono ?_; rintro e w4 ⟨rfl, hb4⟩; have HB4 : Hid (Below w.heap.size w w4) := HB3.out.trans (hb4.mono hw1); clear hb4))
    go_ret2
    exact ⟨by rw [HE.out.1, HE.out.2]; rfl, HB4.out⟩

theorem awk_ok : Vl.ok (.mk 1 (-7) none 0 0 0 0 (fun _ => .dm)) = true := by
  unfold Vl.ok
  rw [Bool.and_eq_true, decide_eq_true_eq]
  refine ⟨by decide, ?_⟩
  show (ndB 1 (-7) 0 && decide (∀ i, i < 0 → _)) = true
  rw [Bool.and_eq_true, decide_eq_true_eq]
  exact ⟨rfl, fun i hi => absurd hi (Nat.not_lt_zero _)⟩
theorem awk_tx : Vl.tx (.mk 1 (-7) none 0 0 0 0 (fun _ => .dm)) = ⟨#[45, 55]⟩ ∧ Vl.te (.mk 1 (-7) none 0 0 0 0 (fun _ => .dm)) = 0 := by
  unfold Vl.tx Vl.te
  rw [awk_ok]
  refine ⟨?_, rfl⟩
  show (⟨(Lib.itoa (-7)).toArray⟩ : ByteArray) = _
  rw [show Lib.itoa (-7) = [45, 55] by unfold Lib.itoa; rw [if_pos (by decide)]; show 45 :: Lib.decDigits 7 = _; rw [Lib.decDigits_one (by omega)]; rfl]
set_option maxRecDepth 100000 in
set_option maxHeartbeats 4000000 in
theorem vawake_any (w : World) (hT : Tab w) : Calls Tryd.prog 8 #[] w fun e w' => e = .returned (.bool true) ∧ Below w.heap.size w w' := by
  have HT : Hid (Tab w) := hT
  clear hT
  go_enter Tryd.func8, Tryd.ntmps8
  go_wp2_with (first
    | (go_at_call 12; refine (text_any (.mk 1 (-7) none 0 0 0 0 (fun _ => .dm)) w ⟨fun h => absurd h (Nat.lt_irrefl _), by omega, fun _ h => absurd h (Nat.not_lt_zero _)⟩ HT.out ⟨by omega, fun _ h => absurd h (Nat.not_lt_zero _)⟩).mono ?_; rw [awk_tx.1, awk_tx.2]; rintro e w1 ⟨rfl, hb1⟩; have HB1 : Hid (Below w.heap.size w w1) := hb1; clear hb1)
    | (go_at_call 16; refine (vNodes_any (.mk 0 0 none 0 0 0 0 (fun _ => .dm)) w1 ⟨fun h => absurd h (Nat.lt_irrefl _), by omega, fun _ h => absurd h (Nat.not_lt_zero _)⟩).mono ?_; rw [show min (Vl.nodes (.mk 0 0 none 0 0 0 0 (fun _ => .dm))) 2001 = 1 by decide]; rintro e w2 ⟨rfl, hb2⟩; have HB2 : Hid (Below w.heap.size w w2) := HB1.out.trans (hb2.mono HB1.out.size); clear hb2))
  go_ret
  exact ⟨rfl, HB2.out⟩
end Go.Proofs.YtnkipiegjpjfbaaDoor

/- Layer 3: the walks of the reference's text and Text. -/
namespace Go.Proofs.YtnkipiegjpjfbaaDoor
open Go.RowKit

theorem bcat (a b : List UInt8) : (⟨a.toArray⟩ : ByteArray) ++ (⟨b.toArray⟩ : ByteArray) = ⟨(a ++ b).toArray⟩ := by
  apply ByteArray.ext
  apply Array.ext'
  simp
theorem commas_nil {ps : Nat → Vl} {len : Nat} (h : ∀ i, i < len → (ps i).fm = true) : commas (fun i => (ps i).txt) len = [] ↔ len = 0 := by
  cases len with
  | zero => exact ⟨fun _ => rfl, fun _ => rfl⟩
  | succ n =>
    refine ⟨fun e => ?_, fun e => by omega⟩
    have := txt_ne (ps n) (h n (by omega))
    have e' : (if n = 0 then [] else commas (fun i => (ps i).txt) n ++ [44, 32]) ++ (ps n).txt = [] := e
    exact absurd (List.append_eq_nil_iff.1 e').2 this

set_option maxRecDepth 100000 in
set_option maxHeartbeats 8000000 in
theorem rtext_any : ∀ (v : Vl) (w : World), v.At w → v.fm = true → v.rng → v.nodes ≤ 2000 →
    Calls Tryd.prog 30 #[.agg #[.int .i64 v.k, .int .i64 v.m, .slice v.ao v.len v.cap]] w fun e w' => e = .returned (.string ⟨v.txt.toArray⟩) ∧ Below w.heap.size w w' := by
  intro v
  induction v with
  | dm => intro w h; exact h.elim
  | mk k m ao b o len cap ps ih =>
    intro w hAt hf hr hn
    show Calls Tryd.prog 30 #[.agg #[.int .i64 k, .int .i64 m, .slice ao len cap]] w fun r w' => r = .returned (.string ⟨(Vl.txt (.mk k m ao b o len cap ps)).toArray⟩) ∧ Below w.heap.size w w'
    have X0 := Bv.new w (.mk k m ao b o len cap ps)
    have hb : len ≤ 9223372036854775807 := hAt.bound
    have hnil : 0 < len → ao = some ⟨b, o, none⟩ := hAt.nil
    have B0 := below_alloc w (.cells #[.int .i64 k, .int .i64 m, .slice ao len cap] 24)
    have hA1 := hAt.kept B0
    obtain ⟨n1, p1⟩ := fm_parts hf
    have HP : Hid (∀ i, i < len → (ps i).fm = true ∧ (ps i).rng ∧ (ps i).nodes ≤ 2000) := fun i hi => ⟨p1 i hi, hr.2 i hi, by
      have h1 := sumTo_le (fun i => (ps i).nodes) hi
      have h2 : 1 + sumTo (fun i => (ps i).nodes) len ≤ 2000 := hn
      omega⟩
    have HC : Hid (∀ j, j ≤ len → (commas (fun i => (ps i).txt) j).length ≤ 80000) := fun j hj => by
      have h1 : (commas (fun i => (ps i).txt) j).length ≤ 40 * sumTo (fun i => (ps i).nodes) j := by
        rw [← sumTo_mul]
        exact commas_len _ _ j (fun i hi => txt_len (ps i) (p1 i (by omega)) (hr.2 i (by omega)))
      have h2 := sumTo_mono (fun i => (ps i).nodes) hj
      have h3 : 1 + sumTo (fun i => (ps i).nodes) len ≤ 2000 := hn
      omega
    have HL : Hid (∀ j, j < len → (ps j).txt.length ≤ 80000) := fun j hj => by
      have h1 := txt_len (ps j) (p1 j hj) (hr.2 j hj)
      have := (HP.out j hj).2.2
      omega
    have HM : Hid (-9223372036854775808 ≤ m ∧ m ≤ 9223372036854775807) := hr.1
    have HK : Hid (ndB k m len = true ∧ (commas (fun i => (ps i).txt) len = [] ↔ len = 0)) := ⟨n1, commas_nil p1⟩
    have HS : Hid (Bv (w.alloc (.cells #[.int .i64 k, .int .i64 m, .slice ao len cap] 24)) w.heap.size (.mk k m ao b o len cap ps) ∧ Vl.At (w.alloc (.cells #[.int .i64 k, .int .i64 m, .slice ao len cap] 24)) (.mk k m ao b o len cap ps) ∧ Below w.heap.size w (w.alloc (.cells #[.int .i64 k, .int .i64 m, .slice ao len cap] 24))) := ⟨X0, hA1, B0⟩
    clear X0 hA1 B0 hAt hf hr hn n1 p1
    go_enter Tryd.func30, Tryd.ntmps30
    go_wp2
    go_loopw [3, 4] (fun sv i wr => ∃ (j : Nat) (sx : ByteArray), j ≤ len ∧ sv = .string sx ∧ i = .int .i64 j ∧ Hid (sx = ⟨(commas (fun i => (ps i).txt) j).toArray⟩ ∧ Bv wr w.heap.size (.mk k m ao b o len cap ps) ∧ Vl.At wr (.mk k m ao b o len cap ps) ∧ Below w.heap.size w wr)) (fun _ i _ => len - (intOf i).toNat)
    case atStart => exact ⟨0, ⟨#[]⟩, Nat.zero_le _, rfl, rfl, rfl, HS.out⟩
    case round =>
      obtain ⟨j, sx, hj, rfl, rfl, HR⟩ := hrel
      clear HS
      have x0 : wr.cell? ⟨w.heap.size, 0, none⟩ = some (.int .i64 k) := HR.out.2.1.c0
      have x1 : wr.cell? ⟨w.heap.size, 1, none⟩ = some (.int .i64 m) := HR.out.2.1.c1
      have x2 : wr.cell? ⟨w.heap.size, 2, none⟩ = some (.slice ao len cap) := HR.out.2.1.c2
      have lz : sx.size ≤ 80000 := by
        rw [HR.out.1, str_size]; exact HC.out j hj
      by_cases hlt : j < len
      · have ij : (j : Int) < len := by omega
        have a0 := hnil (by omega)
        subst a0
        have C : C3 wr b (o + j * 3) (ps j) := HR.out.2.2.1.cells hlt
        have P : (ps j).At wr := HR.out.2.2.1.part hlt
        have y0 := C.c0
        have y1 := C.c1
        have y2 := C.c2
        have hC := ih j wr P (HP.out j hlt).1 (HP.out j hlt).2.1 (HP.out j hlt).2.2
        have tz : (⟨(ps j).txt.toArray⟩ : ByteArray).size ≤ 80000 := by rw [str_size]; exact HL.out j hlt
        generalize ht : (⟨(ps j).txt.toArray⟩ : ByteArray) = tx at hC tz
        have HX : Hid (tx = ⟨(ps j).txt.toArray⟩) := ht.symm
        clear C P ht
        by_cases j0 : j = 0
        · have j1 : ¬ (0 : Int) < j := by omega
          have HN : Hid (sx ++ tx = ⟨(commas (fun i => (ps i).txt) (j + 1)).toArray⟩) := by
            show _ = (⟨((if j = 0 then [] else commas (fun i => (ps i).txt) j ++ [44, 32]) ++ (ps j).txt).toArray⟩ : ByteArray)
            rw [HX.out, HR.out.1, bcat, if_pos j0, j0]; rfl
          clear j0
          go_wp2_with fail
          refine hC.mono ?_
          rintro r w1 ⟨rfl, hb1⟩
          clear y0 y1 y2 x2 x1 x0 hC
          go_wp2
          go_roundw
          case rel => exact ⟨j + 1, _, by omega, rfl, by go_num, HN.out, HR.out.2.1.kept hb1, HR.out.2.2.1.kept hb1, Below.next HR.out.2.2.2 hb1⟩
          case measure => simp [intOf]; omega
        · have j1 : (0 : Int) < j := by omega
          have HN : Hid ((sx ++ ⟨#[44, 32]⟩) ++ tx = ⟨(commas (fun i => (ps i).txt) (j + 1)).toArray⟩) := by
            show _ = (⟨((if j = 0 then [] else commas (fun i => (ps i).txt) j ++ [44, 32]) ++ (ps j).txt).toArray⟩ : ByteArray)
            rw [HX.out, HR.out.1, show (⟨#[44, 32]⟩ : ByteArray) = ⟨[44, 32].toArray⟩ from rfl, bcat, bcat, if_neg j0]
          clear j0
          go_wp2_with fail
          refine hC.mono ?_
          rintro r w1 ⟨rfl, hb1⟩
          clear y0 y1 y2 x2 x1 x0 hC
          go_wp2
          go_roundw
          case rel => exact ⟨j + 1, _, by omega, rfl, by go_num, HN.out, HR.out.2.1.kept hb1, HR.out.2.2.1.kept hb1, Below.next HR.out.2.2.2 hb1⟩
          case measure => simp [intOf]; omega
      · have e : len = j := by omega
        subst e
        have d : ¬ (len : Int) < len := by omega
        have hl := HR.out.1
        have hD := digits_any m wr HM.out.1 HM.out.2
        have dz : (⟨(Lib.itoa m).toArray⟩ : ByteArray).size ≤ 21 := by rw [str_size]; exact Lib.itoa_length_le m HM.out.1 HM.out.2
        generalize ht : (⟨(Lib.itoa m).toArray⟩ : ByteArray) = ix at hD dz
        have HX : Hid (ix = ⟨(Lib.itoa m).toArray⟩) := ht.symm
        have HSX : Hid (sx = ⟨(commas (fun i => (ps i).txt) len).toArray⟩) := hl
        clear ht hl
        rcases nd_kind HK.out.1 with rfl | rfl | rfl | rfl | rfl
        · go_wp2_with fail
          refine hD.mono ?_
          rintro r w1 ⟨rfl, hb1⟩
          go_wp2
          go_ret
          exact ⟨ret_str HX.out, Below.next HR.out.2.2.2 hb1⟩
        · have hm : (m == 0) = true ∨ (m = 1 ∧ (m == 0) = false) := by
            have := HK.out.1
            simp only [ndB] at this
            simp at this
            rcases this.2 with h | h
            · exact Or.inl (by simp [h])
            · exact Or.inr ⟨h, by simp [h]⟩
          rcases hm with hm | ⟨hm, hm'⟩
          · have HE : Hid (Vl.txt (.mk 2 m ao b o len cap ps) = [102, 97, 108, 115, 101]) := by
              show (if m = 1 then [116, 114, 117, 101] else [102, 97, 108, 115, 101]) = _
              rw [beq_iff_eq] at hm
              rw [if_neg (by omega)]
            go_wp2
            go_ret
            exact ⟨ret_str (by rw [HE.out]), HR.out.2.2.2⟩
          · have HE : Hid (Vl.txt (.mk 2 m ao b o len cap ps) = [116, 114, 117, 101]) := by
              show (if m = 1 then [116, 114, 117, 101] else [102, 97, 108, 115, 101]) = _
              rw [if_pos hm]
            clear hm
            go_wp2
            go_ret
            exact ⟨ret_str (by rw [HE.out]), HR.out.2.2.2⟩
        · have HE : Hid (((⟨#[40]⟩ : ByteArray) ++ sx) ++ ⟨#[41]⟩ = ⟨(Vl.txt (.mk 3 m ao b o len cap ps)).toArray⟩) := by
            show _ = (⟨([40] ++ (commas (fun i => (ps i).txt) len ++ [41])).toArray⟩ : ByteArray)
            rw [show (⟨#[40]⟩ : ByteArray) = ⟨[40].toArray⟩ from rfl, show (⟨#[41]⟩ : ByteArray) = ⟨[41].toArray⟩ from rfl, HSX.out, bcat, bcat, List.append_assoc]
          go_wp2
          go_ret
          exact ⟨ret_str HE.out, HR.out.2.2.2⟩
        · by_cases hz : len = 0
          · have hl0 : sx = ⟨#[]⟩ := by rw [HSX.out, HK.out.2.2 hz]
            subst hl0
            have HE : Hid ((⟨#[102, 117, 110, 32]⟩ : ByteArray) ++ ix = ⟨(Vl.txt (.mk 4 m ao b o len cap ps)).toArray⟩) := by
              show _ = (⟨([102, 117, 110, 32] ++ (Lib.itoa m ++ (if len = 0 then [] else [32, 91] ++ (commas (fun i => (ps i).txt) len ++ [93])))).toArray⟩ : ByteArray)
              rw [show (⟨#[102, 117, 110, 32]⟩ : ByteArray) = ⟨[102, 117, 110, 32].toArray⟩ from rfl, HX.out, bcat, if_pos hz, List.append_nil]
            clear lz HSX
            go_wp2_with fail
            refine hD.mono ?_
            rintro r w1 ⟨rfl, hb1⟩
            go_wp2
            go_ret
            exact ⟨ret_str HE.out, Below.next HR.out.2.2.2 hb1⟩
          · have hl0 : sx.toList.isEmpty = false := sz_ne (fun e => by
              rw [HSX.out, str_size] at e
              exact hz (HK.out.2.1 (List.length_eq_zero_iff.1 e)))
            have HE : Hid (((((⟨#[102, 117, 110, 32]⟩ : ByteArray) ++ ix) ++ ⟨#[32, 91]⟩) ++ sx) ++ ⟨#[93]⟩ = ⟨(Vl.txt (.mk 4 m ao b o len cap ps)).toArray⟩) := by
              show _ = (⟨([102, 117, 110, 32] ++ (Lib.itoa m ++ (if len = 0 then [] else [32, 91] ++ (commas (fun i => (ps i).txt) len ++ [93])))).toArray⟩ : ByteArray)
              rw [show (⟨#[102, 117, 110, 32]⟩ : ByteArray) = ⟨[102, 117, 110, 32].toArray⟩ from rfl, show (⟨#[32, 91]⟩ : ByteArray) = ⟨[32, 91].toArray⟩ from rfl, show (⟨#[93]⟩ : ByteArray) = ⟨[93].toArray⟩ from rfl, HX.out, HSX.out, bcat, bcat, bcat, bcat, if_neg hz]
              simp only [List.append_assoc]
            clear HSX
            go_wp2_with fail
            refine hD.mono ?_
            rintro r w1 ⟨rfl, hb1⟩
            go_wp2
            go_ret
            exact ⟨ret_str HE.out, Below.next HR.out.2.2.2 hb1⟩
        · have HE : Hid ((⟨#[114, 101, 102, 32]⟩ : ByteArray) ++ ix = ⟨(Vl.txt (.mk 5 m ao b o len cap ps)).toArray⟩) := by
            show _ = (⟨([114, 101, 102, 32] ++ Lib.itoa m).toArray⟩ : ByteArray)
            rw [show (⟨#[114, 101, 102, 32]⟩ : ByteArray) = ⟨[114, 101, 102, 32].toArray⟩ from rfl, HX.out, bcat]
          go_wp2_with fail
          refine hD.mono ?_
          rintro r w1 ⟨rfl, hb1⟩
          go_wp2
          go_ret
          exact ⟨ret_str HE.out, Below.next HR.out.2.2.2 hb1⟩

set_option maxHeartbeats 2000000 in
theorem rText_any (v : Vl) (w : World) (hv : v.At w) (hr : v.rng) :
    Calls Tryd.prog 13 #[.agg #[.int .i64 v.k, .int .i64 v.m, .slice v.ao v.len v.cap]] w fun e w' => e = .returned (.tuple #[.string v.tx, .int .i64 v.te]) ∧ Below w.heap.size w w' := by
  have X0 := Bv.new w v
  have B0 := below_alloc w (.cells #[.int .i64 v.k, .int .i64 v.m, .slice v.ao v.len v.cap] 24)
  have hA := hv.kept B0
  go_enter Tryd.func13, Tryd.ntmps13
  go_wp2_with fail
  refine (rvFormed_any v _ hA).mono ?_
  rintro r w1 ⟨rfl, hb1⟩
  have X1 := X0.kept hb1
  have A1 := hA.kept hb1
  have B1 := Below.next B0 hb1
  clear X0 hA B0 hb1
  cases hok : v.ok
  · have HE : Hid (v.tx = ⟨#[]⟩ ∧ v.te = 9) := by
      show v.tx = _ ∧ _
      unfold Vl.tx Vl.te
      rw [hok]
      exact ⟨rfl, rfl⟩
    clear hok
    go_wp2
    refine bodyPost_ret (v := .tuple #[.string ⟨#[]⟩, .int .i64 9]) (by simp [results, Tryd.results13, go_sem]) rfl ⟨?_, B1⟩
    rw [HE.out.1, HE.out.2]
  · have HE : Hid (v.tx = ⟨v.txt.toArray⟩ ∧ v.te = 0) := by
      show v.tx = _ ∧ _
      unfold Vl.tx Vl.te
      rw [hok]
      exact ⟨rfl, rfl⟩
    obtain ⟨h1, h2⟩ := vok_parts hok
    have x0 := X1.c0
    have x1 := X1.c1
    have x2 := X1.c2
    have hC := rtext_any v w1 A1 h2 hr h1
    clear hok
    go_wp2_with fail
    refine hC.mono ?_
    rintro r w2 ⟨rfl, hb2⟩
    go_wp2
    refine bodyPost_ret (v := .tuple #[.string ⟨v.txt.toArray⟩, .int .i64 0]) (by simp [results, Tryd.results13, go_sem]) rfl ⟨?_, Below.next B1 hb2⟩
    rw [HE.out.1, HE.out.2]
end Go.Proofs.YtnkipiegjpjfbaaDoor
