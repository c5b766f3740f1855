/- Layer 3: the walk of value.write, by induction on the value; value.Text. -/
import Derived.Test.YtnkipiegjpjfbaaGreatDoorP23
import Derived.Test.YtnkipiegjpjfbaaGreatDoorP11
import Derived.Test.YtnkipiegjpjfbaaGreatDoorP2
import Derived.ProofKit
import Derived.Deep.Grids
import Derived.Lib.SmallJoins
namespace Go.Proofs.YtnkipiegjpjfbaaGreatDoor
open Go.RowKit

theorem cat_list (a : Array UInt8) (l : List UInt8) : ((⟨a⟩ : ByteArray) ++ (⟨l.toArray⟩ : ByteArray)).data.toList = a.toList ++ l := by
  simp [ByteArray.data_append]
theorem str_size (l : List UInt8) : (⟨l.toArray⟩ : ByteArray).size = l.length := by rw [Lib.size_eq]

theorem heap_lt3 {w : World} {p : Nat} {v : Obj} (h : w.heap[p]? = some v) : p < w.heap.size := by
  rcases Nat.lt_or_ge p w.heap.size with hl | hl
  · exact hl
  · rw [Array.getElem?_eq_none hl] at h; cases h

set_option maxRecDepth 100000 in
set_option maxHeartbeats 4000000 in
theorem write_wc : ∀ v : Vl, WC v
  | .dm => fun _ _ _ _ _ h => h.elim
  | .mk k m ao b0 o len cap ps => by
    have ih : ∀ i, WC (ps i) := fun i => write_wc (ps i)
    intro w0 w B b l hAt hT h0B hb0 hBw hBl hfm hrng hlen
    show Calls Tryz.prog 28 #[.pointer (some ⟨b, 0, none⟩), .agg #[.int .i64 k, .int .i64 m, .slice ao len cap]] w _
    obtain ⟨n1, p1⟩ := fm_parts hfm
    have hm := hrng.1
    have hit := Lib.itoa_length_le m hm.1 hm.2
    have hln : l.length + 40 * (1 + sumTo (fun i => (ps i).nodes) len) ≤ 1000000000 := hlen
    have HT : Hid (Tab w0) := hT
    have HB0 : Hid (Below w0.heap.size w0 w) := hb0
    have HBl : Hid (Bld w B b l) := hBl
    have HX0 : Hid ((w.alloc (.cells #[.int .i64 k, .int .i64 m, .slice ao len cap] 35)).heap[w.heap.size]? = some (.cells #[.int .i64 k, .int .i64 m, .slice ao len cap] 35 (0, 0))) := heap_alloc_new _ _
    have HXb : Hid (Below w.heap.size w (w.alloc (.cells #[.int .i64 k, .int .i64 m, .slice ao len cap] 35))) := (Below.refl _ _).alloc (Nat.le_refl _) _
    have hbw : b < w.heap.size := by
      obtain ⟨p, v, _, hh⟩ := hBl.at
      rcases Nat.lt_or_ge b w.heap.size with h' | h'
      · exact h'
      · rw [Array.getElem?_eq_none h'] at hh; cases hh
    have HAt : Hid ((0 < len → ao = some ⟨b0, o, none⟩) ∧ len ≤ 9223372036854775807 ∧ ∀ i, i < len → C3 w0 b0 (o + i * 3) (ps i) ∧ Vl.At w0 (ps i)) := hAt
    have HPs : Hid (∀ i, i < len → WC (ps i) ∧ (ps i).fm = true ∧ (ps i).rng) := fun i hi => ⟨ih i, p1 i hi, hrng.2 i hi⟩
    have HHb : Hid (len ≤ 9223372036854775807) := hAt.2.1
    have HIt : Hid ((⟨(Lib.itoa m).toArray⟩ : ByteArray).size ≤ 21) := by show _ ≤ _; rw [str_size]; exact hit
    have hlb := HHb.out
    clear hAt hT hb0 hBl hfm hrng hlen ih
    rcases nd_kind n1 with rfl | rfl | rfl | rfl | rfl
    · go_enter Tryz.func28, Tryz.ntmps28
      go_upto_region 1 with fail
      generalize w.alloc (.cells #[.int .i64 1, .int .i64 m, .slice ao len cap] 35) = wv at *
      have d0 : wv.cell? ⟨w.heap.size, 0, none⟩ = some (.int .i64 1) := by rw [Lib.cell_of_heap HX0.out]; rfl
      have d1 : wv.cell? ⟨w.heap.size, 1, none⟩ = some (.int .i64 m) := by rw [Lib.cell_of_heap HX0.out]; rfl
      have d2 : wv.cell? ⟨w.heap.size, 2, none⟩ = some (.slice ao len cap) := by rw [Lib.cell_of_heap HX0.out]; rfl
      have hs0 := HXb.out.size
      go_wp2_with (first
        | (go_at_call 49; refine (fmtInt_any m hm wv (HT.out.kept (HB0.out.trans (HXb.out.mono (by omega))))).mono ?_; rintro e w1 ⟨rfl, hb1⟩; have HB1 : Hid (Below w.heap.size w w1) := HXb.out.trans (hb1.mono hs0); have hs1 := hb1.size; have hX1 : w1.heap[w.heap.size]? = wv.heap[w.heap.size]? := hb1.block _ (heap_lt3 HX0.out); have HX1 : Hid (w1.heap[w.heap.size]? = wv.heap[w.heap.size]?) := hX1; clear hb1 hX1)
        | (go_at_call 48; refine (wstr_any B b l ⟨(Lib.itoa m).toArray⟩ w1 (HBl.out.kept HB1.out) (by have := HIt.out; omega) (by omega)).mono ?_; rintro e w2 ⟨rfl, h2, hb2, hk2⟩; have H2 : Hid (Bld w2 B b (l ++ Lib.itoa m)) := h2; have HB2 : Hid (Below B w w2 ∧ KT w w2 b) := ⟨(HB1.out.mono hBw).trans hb2, (KT.bel HB1.out b).trans hk2⟩; have HKK : Hid (KT w1 w2 b ∧ w1.heap.size ≤ w2.heap.size) := ⟨hk2, hb2.size⟩; clear h2 hb2 hk2))
      go_end0
      exact ⟨rfl, H2.out, HB2.out.1, HB2.out.2⟩
    · have l1 : len = 0 ∧ (m = 0 ∨ m = 1) := by simpa [ndB] using n1
      have hm01 := l1.2
      clear l1 n1
      go_enter Tryz.func28, Tryz.ntmps28
      go_upto_region 1 with fail
      generalize w.alloc (.cells #[.int .i64 2, .int .i64 m, .slice ao len cap] 35) = wv at *
      have d0 : wv.cell? ⟨w.heap.size, 0, none⟩ = some (.int .i64 2) := by rw [Lib.cell_of_heap HX0.out]; rfl
      have d1 : wv.cell? ⟨w.heap.size, 1, none⟩ = some (.int .i64 m) := by rw [Lib.cell_of_heap HX0.out]; rfl
      have d2 : wv.cell? ⟨w.heap.size, 2, none⟩ = some (.slice ao len cap) := by rw [Lib.cell_of_heap HX0.out]; rfl
      have hs0 := HXb.out.size
      rcases hm01 with rfl | rfl
      · go_wp2_with (first
          | (go_at_call 50; refine (Tryz.strconv_FormatBool false wv).mono ?_; rintro e w1 ⟨rfl, rfl⟩)
          | (go_at_call 48; refine (wstr_any B b l ⟨(Lib.formatBool false).toArray⟩ _ (HBl.out.kept HXb.out) (by show _ + 5 ≤ _; omega) (by omega)).mono ?_; rintro e w2 ⟨rfl, h2, hb2, hk2⟩; have H2 : Hid (Bld w2 B b (l ++ [102, 97, 108, 115, 101])) := h2; have HB2 : Hid (Below B w w2 ∧ KT w w2 b) := ⟨(HXb.out.mono hBw).trans hb2, (KT.bel HXb.out b).trans hk2⟩; clear h2 hb2 hk2))
        go_end0
        exact ⟨rfl, H2.out, HB2.out.1, HB2.out.2⟩
      · go_wp2_with (first
          | (go_at_call 50; refine (Tryz.strconv_FormatBool true wv).mono ?_; rintro e w1 ⟨rfl, rfl⟩)
          | (go_at_call 48; refine (wstr_any B b l ⟨(Lib.formatBool true).toArray⟩ _ (HBl.out.kept HXb.out) (by show _ + 4 ≤ _; omega) (by omega)).mono ?_; rintro e w2 ⟨rfl, h2, hb2, hk2⟩; have H2 : Hid (Bld w2 B b (l ++ [116, 114, 117, 101])) := h2; have HB2 : Hid (Below B w w2 ∧ KT w w2 b) := ⟨(HXb.out.mono hBw).trans hb2, (KT.bel HXb.out b).trans hk2⟩; clear h2 hb2 hk2))
        go_end0
        exact ⟨rfl, H2.out, HB2.out.1, HB2.out.2⟩
    · have l1 : len = 2 ∧ m = 0 := by simpa [ndB] using n1
      have HL2 : Hid (0 < len) := by show 0 < len; omega
      clear l1 n1
      go_enter Tryz.func28, Tryz.ntmps28
      go_upto_region 1 with fail
      generalize w.alloc (.cells #[.int .i64 3, .int .i64 m, .slice ao len cap] 35) = wv at *
      have d0 : wv.cell? ⟨w.heap.size, 0, none⟩ = some (.int .i64 3) := by rw [Lib.cell_of_heap HX0.out]; rfl
      have d1 : wv.cell? ⟨w.heap.size, 1, none⟩ = some (.int .i64 m) := by rw [Lib.cell_of_heap HX0.out]; rfl
      have d2 : wv.cell? ⟨w.heap.size, 2, none⟩ = some (.slice ao len cap) := by rw [Lib.cell_of_heap HX0.out]; rfl
      have hs0 := HXb.out.size
      go_wp2_with (go_at_call 51; refine (wall_any ao b0 o len cap ps ⟨#[40]⟩ ⟨#[41]⟩ w0 wv B b l HAt.out.1 HAt.out.2.1 HAt.out.2.2 HPs.out HT.out h0B (HB0.out.trans (HXb.out.mono (by omega))) (by omega) (HBl.out.kept HXb.out) (by omega) (by decide) (by decide) HL2.out).mono ?_; rintro e w2 ⟨rfl, h2, hb2, hk2⟩; have H2 : Hid (Bld w2 B b (l ++ ([40] ++ (commas (fun i => (ps i).txt) len ++ [41])))) := h2; have HB2 : Hid (Below B w w2 ∧ KT w w2 b) := ⟨(HXb.out.mono hBw).trans hb2, (KT.bel HXb.out b).trans hk2⟩; clear h2 hb2 hk2)
      go_end0
      exact ⟨rfl, H2.out, HB2.out.1, HB2.out.2⟩
    · clear n1
      go_enter Tryz.func28, Tryz.ntmps28
      go_upto_region 1 with fail
      generalize w.alloc (.cells #[.int .i64 4, .int .i64 m, .slice ao len cap] 35) = wv at *
      have d0 : wv.cell? ⟨w.heap.size, 0, none⟩ = some (.int .i64 4) := by rw [Lib.cell_of_heap HX0.out]; rfl
      have d1 : wv.cell? ⟨w.heap.size, 1, none⟩ = some (.int .i64 m) := by rw [Lib.cell_of_heap HX0.out]; rfl
      have d2 : wv.cell? ⟨w.heap.size, 2, none⟩ = some (.slice ao len cap) := by rw [Lib.cell_of_heap HX0.out]; rfl
      have hs0 := HXb.out.size
      have i9 : (⟨#[102, 117, 110, 32]⟩ : ByteArray).size + (⟨(Lib.itoa m).toArray⟩ : ByteArray).size ≤ 9223372036854775807 := by have := HIt.out; show 4 + _ ≤ _; omega
      obtain ⟨S, hcat⟩ : ∃ S, (⟨#[102, 117, 110, 32]⟩ : ByteArray) ++ (⟨(Lib.itoa m).toArray⟩ : ByteArray) = S := ⟨_, rfl⟩
      have HSl : Hid (S.data.toList = [102, 117, 110, 32] ++ Lib.itoa m) := by show _ = _; rw [← hcat, cat_list]
      have HI9 : Hid (S.size ≤ 25) := by show _ ≤ _; rw [← hcat, ByteArray.size_append]; have := HIt.out; show 4 + _ ≤ _; omega
      by_cases hl0 : len = 0
      · have HL0 : Hid (len = 0) := hl0
        have hl0' : ¬ 0 < len := by omega
        clear hl0
        go_wp2_with (first
          | (go_at_call 49; refine (fmtInt_any m hm wv (HT.out.kept (HB0.out.trans (HXb.out.mono (by omega))))).mono ?_; rintro e w1 ⟨rfl, hb1⟩; have HB1 : Hid (Below w.heap.size w w1) := HXb.out.trans (hb1.mono hs0); have hs1 := hb1.size; have hX1 : w1.heap[w.heap.size]? = wv.heap[w.heap.size]? := hb1.block _ (heap_lt3 HX0.out); have HX1 : Hid (w1.heap[w.heap.size]? = wv.heap[w.heap.size]?) := hX1; clear hb1 hX1)
          | (go_at_call 48; refine (wstr_any B b l S w1 (HBl.out.kept HB1.out) (by have := HI9.out; omega) (by omega)).mono ?_; rintro e w2 ⟨rfl, h2, hb2, hk2⟩; have H2 : Hid (Bld w2 B b (l ++ ([102, 117, 110, 32] ++ Lib.itoa m))) := (by rw [HSl.out] at h2; exact h2); have HB2 : Hid (Below B w w2 ∧ KT w w2 b) := ⟨(HB1.out.mono hBw).trans hb2, (KT.bel HB1.out b).trans hk2⟩; have HKK : Hid (KT w1 w2 b ∧ w1.heap.size ≤ w2.heap.size) := ⟨hk2, hb2.size⟩; have HX2 : Hid (w2.heap[w.heap.size]? = some (.cells #[.int .i64 4, .int .i64 m, .slice ao len cap] 35 (0, 0))) := (hk2 _ _ _ _ (by decide) (by omega) (HX1.out.trans HX0.out)).trans (HX1.out.trans HX0.out); have g2 : w2.cell? ⟨w.heap.size, 2, none⟩ = some (.slice ao len cap) := (by rw [Lib.cell_of_heap HX2.out]; rfl); have hs2 := hb2.size; clear h2 hb2 hk2))
        go_end0
        refine ⟨rfl, ?_, HB2.out.1, HB2.out.2⟩
        show Bld w2 B b (l ++ ([102, 117, 110, 32] ++ (Lib.itoa m ++ (if len = 0 then [] else [32, 91] ++ (commas (fun i => (ps i).txt) len ++ [93])))))
        rw [if_pos HL0.out, List.append_nil]
        exact H2.out
      · have HL0 : Hid (¬ len = 0) := hl0
        have hl0' : 0 < len := by omega
        have HLL : Hid ((l ++ ([102, 117, 110, 32] ++ Lib.itoa m)).length ≤ l.length + 25) := by show _ ≤ _; simp only [List.length_append, List.length_cons, List.length_nil]; omega
        clear hl0
        go_wp2_with (first
          | (go_at_call 49; refine (fmtInt_any m hm wv (HT.out.kept (HB0.out.trans (HXb.out.mono (by omega))))).mono ?_; rintro e w1 ⟨rfl, hb1⟩; have HB1 : Hid (Below w.heap.size w w1) := HXb.out.trans (hb1.mono hs0); have hs1 := hb1.size; have hX1 : w1.heap[w.heap.size]? = wv.heap[w.heap.size]? := hb1.block _ (heap_lt3 HX0.out); have HX1 : Hid (w1.heap[w.heap.size]? = wv.heap[w.heap.size]?) := hX1; clear hb1 hX1)
          | (go_at_call 48; refine (wstr_any B b l S w1 (HBl.out.kept HB1.out) (by have := HI9.out; omega) (by omega)).mono ?_; rintro e w2 ⟨rfl, h2, hb2, hk2⟩; have H2 : Hid (Bld w2 B b (l ++ ([102, 117, 110, 32] ++ Lib.itoa m))) := (by rw [HSl.out] at h2; exact h2); have HB2 : Hid (Below B w w2 ∧ KT w w2 b) := ⟨(HB1.out.mono hBw).trans hb2, (KT.bel HB1.out b).trans hk2⟩; have HKK : Hid (KT w1 w2 b ∧ w1.heap.size ≤ w2.heap.size) := ⟨hk2, hb2.size⟩; have HX2 : Hid (w2.heap[w.heap.size]? = some (.cells #[.int .i64 4, .int .i64 m, .slice ao len cap] 35 (0, 0))) := (hk2 _ _ _ _ (by decide) (by omega) (HX1.out.trans HX0.out)).trans (HX1.out.trans HX0.out); have g2 : w2.cell? ⟨w.heap.size, 2, none⟩ = some (.slice ao len cap) := (by rw [Lib.cell_of_heap HX2.out]; rfl); have hs2 := hb2.size; clear h2 hb2 hk2)
          | (go_at_call 51; refine (wall_any ao b0 o len cap ps ⟨#[32, 91]⟩ ⟨#[93]⟩ w0 w2 B b (l ++ ([102, 117, 110, 32] ++ Lib.itoa m)) HAt.out.1 HAt.out.2.1 HAt.out.2.2 HPs.out HT.out h0B (HB0.out.trans (HB2.out.1.mono h0B)) (by omega) H2.out (by have := HLL.out; omega) (by decide) (by decide) hl0').mono ?_; rintro e w3 ⟨rfl, h3, hb3, hk3⟩; have H3 : Hid (Bld w3 B b ((l ++ ([102, 117, 110, 32] ++ Lib.itoa m)) ++ ([32, 91] ++ (commas (fun i => (ps i).txt) len ++ [93])))) := h3; have HB3 : Hid (Below B w w3 ∧ KT w w3 b) := ⟨HB2.out.1.trans hb3, HB2.out.2.trans hk3⟩; clear h3 hb3 hk3))
        go_end0
        refine ⟨rfl, ?_, HB3.out.1, HB3.out.2⟩
        show Bld w3 B b (l ++ ([102, 117, 110, 32] ++ (Lib.itoa m ++ (if len = 0 then [] else [32, 91] ++ (commas (fun i => (ps i).txt) len ++ [93])))))
        rw [if_neg HL0.out]
        have h := H3.out
        simp only [List.append_assoc] at h ⊢
        exact h
    · clear n1
      go_enter Tryz.func28, Tryz.ntmps28
      go_upto_region 1 with fail
      generalize w.alloc (.cells #[.int .i64 5, .int .i64 m, .slice ao len cap] 35) = wv at *
      have d0 : wv.cell? ⟨w.heap.size, 0, none⟩ = some (.int .i64 5) := by rw [Lib.cell_of_heap HX0.out]; rfl
      have d1 : wv.cell? ⟨w.heap.size, 1, none⟩ = some (.int .i64 m) := by rw [Lib.cell_of_heap HX0.out]; rfl
      have d2 : wv.cell? ⟨w.heap.size, 2, none⟩ = some (.slice ao len cap) := by rw [Lib.cell_of_heap HX0.out]; rfl
      have hs0 := HXb.out.size
      have i9 : (⟨#[114, 101, 102, 32]⟩ : ByteArray).size + (⟨(Lib.itoa m).toArray⟩ : ByteArray).size ≤ 9223372036854775807 := by have := HIt.out; show 4 + _ ≤ _; omega
      obtain ⟨S, hcat⟩ : ∃ S, (⟨#[114, 101, 102, 32]⟩ : ByteArray) ++ (⟨(Lib.itoa m).toArray⟩ : ByteArray) = S := ⟨_, rfl⟩
      have HSl : Hid (S.data.toList = [114, 101, 102, 32] ++ Lib.itoa m) := by show _ = _; rw [← hcat, cat_list]
      have HI9 : Hid (S.size ≤ 25) := by show _ ≤ _; rw [← hcat, ByteArray.size_append]; have := HIt.out; show 4 + _ ≤ _; omega
      go_wp2_with (first
        | (go_at_call 49; refine (fmtInt_any m hm wv (HT.out.kept (HB0.out.trans (HXb.out.mono (by omega))))).mono ?_; rintro e w1 ⟨rfl, hb1⟩; have HB1 : Hid (Below w.heap.size w w1) := HXb.out.trans (hb1.mono hs0); have hs1 := hb1.size; have hX1 : w1.heap[w.heap.size]? = wv.heap[w.heap.size]? := hb1.block _ (heap_lt3 HX0.out); have HX1 : Hid (w1.heap[w.heap.size]? = wv.heap[w.heap.size]?) := hX1; clear hb1 hX1)
        | (go_at_call 48; refine (wstr_any B b l S w1 (HBl.out.kept HB1.out) (by have := HI9.out; omega) (by omega)).mono ?_; rintro e w2 ⟨rfl, h2, hb2, hk2⟩; have H2 : Hid (Bld w2 B b (l ++ ([114, 101, 102, 32] ++ Lib.itoa m))) := (by rw [HSl.out] at h2; exact h2); have HB2 : Hid (Below B w w2 ∧ KT w w2 b) := ⟨(HB1.out.mono hBw).trans hb2, (KT.bel HB1.out b).trans hk2⟩; have HKK : Hid (KT w1 w2 b ∧ w1.heap.size ≤ w2.heap.size) := ⟨hk2, hb2.size⟩; clear h2 hb2 hk2))
      go_end0
      exact ⟨rfl, H2.out, HB2.out.1, HB2.out.2⟩
end Go.Proofs.YtnkipiegjpjfbaaGreatDoor

/- Layer 3: the walks of value.Text and of the statements' awake. -/
namespace Go.Proofs.YtnkipiegjpjfbaaGreatDoor
open Go.RowKit

theorem vok_parts {v : Vl} (h : v.ok = true) : v.nodes ≤ 2000 ∧ v.fm = true := by
  unfold Vl.ok at h
  rw [Bool.and_eq_true, decide_eq_true_eq] at h
  exact h
/-- What Text answers. -/
def Vl.tx (v : Vl) : ByteArray := if v.ok = true then ⟨v.txt.toArray⟩ else ⟨#[]⟩
def Vl.te (v : Vl) : Int := if v.ok = true then 0 else 9

set_option maxRecDepth 100000 in
set_option maxHeartbeats 4000000 in
theorem text_any (v : Vl) (w : World) (hv : v.At w) (hT : Tab w) (hr : v.rng) :
    Calls Tryz.prog 13 #[.agg #[.int .i64 v.k, .int .i64 v.m, .slice v.ao v.len v.cap]] w fun e w' => e = .returned (.tuple #[.string v.tx, .int .i64 v.te]) ∧ Below w.heap.size w w' := by
  have HV : Hid (v.At w) := hv
  have HT : Hid (Tab w) := hT
  have HR : Hid v.rng := hr
  have X0 := Bv.new w v
  have HX : Hid (Bv (w.alloc (.cells #[.int .i64 v.k, .int .i64 v.m, .slice v.ao v.len v.cap] 35)) w.heap.size v) := X0
  have HXb : Hid (Below w.heap.size w (w.alloc (.cells #[.int .i64 v.k, .int .i64 v.m, .slice v.ao v.len v.cap] 35))) := (Below.refl _ _).alloc (Nat.le_refl _) _
  have HXs : Hid (w.heap.size < (w.alloc (.cells #[.int .i64 v.k, .int .i64 v.m, .slice v.ao v.len v.cap] 35)).heap.size) := by show _ < _; simp
  clear hv hT hr X0
  go_enter Tryz.func13, Tryz.ntmps13
  go_upto_region 1 with fail
  generalize w.alloc (.cells #[.int .i64 v.k, .int .i64 v.m, .slice v.ao v.len v.cap] 35) = wv at *
  have c0 := HX.out.c0
  have c1 := HX.out.c1
  have c2 := HX.out.c2
  cases hok : v.ok with
  | false =>
    have HE : Hid (v.tx = ⟨#[]⟩ ∧ v.te = 9) := by show _ ∧ _; unfold Vl.tx Vl.te; rw [hok]; exact ⟨rfl, rfl⟩
    have HO : Hid (v.ok = false) := hok
    clear hok
    go_wp2_with (go_at_call 24; refine (vFormed_any v wv (HV.out.kept HXb.out)).mono ?_; rw [HO.out]; rintro e w1 ⟨rfl, hb1⟩; have HB1 : Hid (Below w.heap.size w w1) := HXb.out.trans (hb1.mono HXb.out.size); clear hb1)
    go_ret2
    exact ⟨by rw [HE.out.1, HE.out.2]; rfl, HB1.out⟩
  | true =>
    have HE : Hid (v.tx = ⟨v.txt.toArray⟩ ∧ v.te = 0) := by show _ ∧ _; unfold Vl.tx Vl.te; rw [hok]; exact ⟨rfl, rfl⟩
    have HO : Hid (v.ok = true) := hok
    have hnd := (vok_parts hok).1
    clear hok
    go_upto_region 4 with (go_at_call 24; refine (vFormed_any v wv (HV.out.kept HXb.out)).mono ?_; rw [HO.out]; rintro e w1 ⟨rfl, hb1⟩; have HX1 : Hid (Bv w1 w.heap.size v) := HX.out.kept hb1; have HB1 : Hid (Below w.heap.size w w1) := HXb.out.trans (hb1.mono HXb.out.size); have hs1 := hb1.size; clear hb1)
    have HN : Hid (Bld (w1.alloc (.cells #[.pointer none, .slice none 0 0] 67)) w1.heap.size w1.heap.size []) := Bld.new w1
    have HNb : Hid (Below w1.heap.size w1 (w1.alloc (.cells #[.pointer none, .slice none 0 0] 67))) := (Below.refl _ _).alloc (Nat.le_refl _) _
    generalize w1.alloc (.cells #[.pointer none, .slice none 0 0] 67) = wb at *
    have hX2 := HX1.out.kept HNb.out
    have d0 := hX2.c0
    have d1 := hX2.c1
    have d2 := hX2.c2
    have hsb := HNb.out.size
    have hw1 := HB1.out.size
    clear hX2 c0 c1 c2
    go_wp2_with (first
      | (go_at_call 28; refine (write_wc v w wb w1.heap.size w1.heap.size [] HV.out HT.out hw1 (HB1.out.trans (HNb.out.mono hw1)) hsb HN.out (vok_parts HO.out).2 HR.out (by show 0 + 40 * v.nodes ≤ _; omega)).mono ?_; rintro e w3 ⟨rfl, h3, hb3, _⟩; have H3 : Hid (Bld w3 w1.heap.size w1.heap.size v.txt) := h3; have HB3 : Hid (Below w.heap.size w w3) := HB1.out.trans ((HNb.out.trans hb3).mono hw1); have hs3 := hb3.size; clear h3 hb3)
      | (go_at_call 29; refine (Tryz.Builder_String_any w1.heap.size w1.heap.size v.txt w3 H3.out (by omega)).mono ?_; rintro e w4 ⟨rfl, hb4⟩; have HB4 : Hid (Below w.heap.size w w4) := HB3.out.trans (hb4.mono hw1); clear hb4))
    go_ret2
    exact ⟨by rw [HE.out.1, HE.out.2]; rfl, HB4.out⟩

theorem awk_ok : Vl.ok (.mk 1 (-7) none 0 0 0 0 (fun _ => .dm)) = true := by
  unfold Vl.ok
  rw [Bool.and_eq_true, decide_eq_true_eq]
  refine ⟨by decide, ?_⟩
  show (ndB 1 (-7) 0 && decide (∀ i, i < 0 → _)) = true
  rw [Bool.and_eq_true, decide_eq_true_eq]
  exact ⟨rfl, fun i hi => absurd hi (Nat.not_lt_zero _)⟩
theorem awk_tx : Vl.tx (.mk 1 (-7) none 0 0 0 0 (fun _ => .dm)) = ⟨#[45, 55]⟩ ∧ Vl.te (.mk 1 (-7) none 0 0 0 0 (fun _ => .dm)) = 0 := by
  unfold Vl.tx Vl.te
  rw [awk_ok]
  refine ⟨?_, rfl⟩
  show (⟨(Lib.itoa (-7)).toArray⟩ : ByteArray) = _
  rw [show Lib.itoa (-7) = [45, 55] by unfold Lib.itoa; rw [if_pos (by decide)]; show 45 :: Lib.decDigits 7 = _; rw [Lib.decDigits_one (by omega)]; rfl]
set_option maxRecDepth 100000 in
set_option maxHeartbeats 4000000 in
theorem vawake_any (w : World) (hT : Tab w) : Calls Tryz.prog 4 #[] w fun e w' => e = .returned (.bool true) ∧ Below w.heap.size w w' := by
  have HT : Hid (Tab w) := hT
  clear hT
  go_enter Tryz.func4, Tryz.ntmps4
  go_wp2_with (first
    | (go_at_call 13; refine (text_any (.mk 1 (-7) none 0 0 0 0 (fun _ => .dm)) w ⟨fun h => absurd h (Nat.lt_irrefl _), by omega, fun _ h => absurd h (Nat.not_lt_zero _)⟩ HT.out ⟨by omega, fun _ h => absurd h (Nat.not_lt_zero _)⟩).mono ?_; rw [awk_tx.1, awk_tx.2]; rintro e w1 ⟨rfl, hb1⟩; have HB1 : Hid (Below w.heap.size w w1) := hb1; clear hb1)
    | (go_at_call 14; refine (vNodes_any (.mk 0 0 none 0 0 0 0 (fun _ => .dm)) w1 ⟨fun h => absurd h (Nat.lt_irrefl _), by omega, fun _ h => absurd h (Nat.not_lt_zero _)⟩).mono ?_; rw [show min (Vl.nodes (.mk 0 0 none 0 0 0 0 (fun _ => .dm))) 2001 = 1 by decide]; rintro e w2 ⟨rfl, hb2⟩; have HB2 : Hid (Below w.heap.size w w2) := HB1.out.trans (hb2.mono HB1.out.size); clear hb2))
  go_ret
  exact ⟨rfl, HB2.out⟩
end Go.Proofs.YtnkipiegjpjfbaaGreatDoor

/- Layer 3: the walk of the statement ValueFits. -/
namespace Go.Proofs.YtnkipiegjpjfbaaGreatDoor
open Go.RowKit

/-- The statement's variables. -/
structure VQ (w z : World) (n : Strs) (g : Grid) (fs : Fs) (cs : Cs) (t : Ty) (v : Vl) : Prop where
  bl : Below w.heap.size w z
  o : Bw z w.heap.size n g fs cs
  x : Bx z (w.heap.size + 1) t
  y : Bv z (w.heap.size + 2) v
  wo : Wo z n g fs cs
  ht : t.At z
  hv : v.At z
  tab : Tab z
theorem VQ.step {w z z' : World} {n : Strs} {g : Grid} {fs : Fs} {cs : Cs} {t : Ty} {v : Vl} (h : VQ w z n g fs cs t v) (hb : Below z.heap.size z z') : VQ w z' n g fs cs t v :=
  ⟨Below.next h.bl hb, h.o.kept hb, h.x.kept hb, h.y.kept hb, h.wo.kept hb, h.ht.kept hb, h.hv.kept hb, h.tab.kept hb⟩
theorem VQ.new {w : World} {n : Strs} {g : Grid} {fs : Fs} {cs : Cs} {t : Ty} {v : Vl} (hw : Wo w n g fs cs) (ht : t.At w) (hv : v.At w) (hT : Tab w) : VQ w (((w.alloc (woO n g fs cs)).alloc (tyO t)).alloc (vlO v)) n g fs cs t v := by
  have b1 := below_alloc w (woO n g fs cs)
  have b2 := below_alloc (w.alloc (woO n g fs cs)) (tyO t)
  have b3 := below_alloc ((w.alloc (woO n g fs cs)).alloc (tyO t)) (vlO v)
  have e1 : (w.alloc (woO n g fs cs)).heap.size = w.heap.size + 1 := alloc_size _ _
  have e2 : ((w.alloc (woO n g fs cs)).alloc (tyO t)).heap.size = w.heap.size + 2 := by rw [alloc_size, e1]
  have X0 := (Bx.new (w.alloc (woO n g fs cs)) t).kept b3
  have Y0 := Bv.new ((w.alloc (woO n g fs cs)).alloc (tyO t)) v
  rw [e1] at X0
  rw [e2] at Y0
  have B0 := Below.next (Below.next b1 b2) b3
  exact ⟨B0, (Bw.new w n g fs cs).kept (Below.next b2 b3), X0, Y0, hw.kept B0, ht.kept B0, hv.kept B0, hT.kept B0⟩

set_option maxRecDepth 100000 in
set_option maxHeartbeats 8000000 in
theorem valueFits_any (n : Strs) (g : Grid) (fs : Fs) (cs : Cs) (t : Ty) (v : Vl) (w : World) (hw : Wo w n g fs cs) (ht : t.At w) (hv : v.At w) (hT : Tab w) :
    Calls Tryz.prog 3 #[.agg #[.slice n.ao n.len n.cap, .slice g.ao g.len g.cap, .slice fs.ao fs.len fs.cap, .slice cs.ao cs.len cs.cap], .agg #[.int .i64 t.k, .int .i64 t.l, .slice t.ao t.len t.cap, .int .i64 t.h, .int .i64 t.e], .agg #[.int .i64 v.k, .int .i64 v.m, .slice v.ao v.len v.cap]] w fun e w' => e = .returned (.bool true) ∧ Below w.heap.size w w' := by
  have K0 := VQ.new hw ht hv hT
  have hfb := hw.hf.bound
  clear hw ht hv hT
  unfold woO tyO vlO at K0
  go_enter Tryz.func3, Tryz.ntmps3
  go_wp2_with fail
  refine (vawake_any _ K0.tab).mono ?_
  rintro e w1 ⟨rfl, hb1⟩
  have K1 := K0.step hb1
  clear K0 hb1
  have o0 := K1.o.c0
  have o1 := K1.o.c1
  have o2 := K1.o.c2
  have o3 := K1.o.c3
  have x0 := K1.x.c0
  have x1 := K1.x.c1
  have x2 := K1.x.c2
  have x3 := K1.x.c3
  have x4 := K1.x.c4
  have y0 := K1.y.c0
  have y1 := K1.y.c1
  have y2 := K1.y.c2
  go_wp2_with fail
  refine (vfew_any n g fs cs t v _ K1.wo K1.ht K1.hv).mono ?_
  rintro e w2 ⟨r1, rfl, hr1, hb2⟩
  have K2 := K1.step hb2
  have HR1 : Hid (r1 = true → (∀ i, i < cs.len → (cs.t i).nodes ≤ 40) ∧ t.nodes ≤ 40 ∧ v.nodes ≤ 2000) := hr1
  clear K1 hb2 hr1 o0 o1 o2 o3 x0 x1 x2 x3 x4 y0 y1 y2
  cases r1
  · go_wp2_with fail
    refine (vawake_any _ K2.tab).mono ?_
    rintro e w3 ⟨rfl, hb3⟩
    go_wp2
    go_ret
    exact ⟨rfl, (K2.step hb3).bl⟩
  have HCN : Hid (∀ i, i < cs.len → (cs.t i).nodes ≤ 40) := (HR1.out rfl).1
  clear HR1
  have HK2 : Hid (VQ w w2 n g fs cs t v) := K2
  clear K2
  go_wp2
  go_loopw [7] (fun i wr => ∃ j : Nat, j ≤ fs.len ∧ i = .int .i64 j ∧ Hid (VQ w wr n g fs cs t v)) (fun i _ => fs.len - (intOf i).toNat)
  case atStart => exact ⟨0, Nat.zero_le _, rfl, HK2.out⟩
  case round =>
    obtain ⟨j, hj, rfl, HW⟩ := hrel
    clear HK2
    have o2 := HW.out.o.c2
    by_cases hlt : j < fs.len
    · have ij : (j : Int) < fs.len := by omega
      have j0 : (0 : Int) ≤ j := by omega
      have HA2 : Hid (fs.ao = some ⟨fs.b, fs.o, none⟩) := HW.out.wo.hf.nil (by omega)
      go_upto_region 6 with fail
      clear o2
      go_cut [42] (fun c wx => c = .bool false ∧ Hid (VQ w wx n g fs cs t v))
      case first =>
        have D1 : Below wr.heap.size wr wr.drew := (Below.refl _ _).drew
        have key := fun a (ha : Below wr.heap.size wr a) => (⟨(HW.out.step ha).o.c0, (HW.out.step ha).o.c1, by rw [← HA2.out]; exact (HW.out.step ha).o.c2, ((HW.out.step ha).wo.hf.cells j hlt).range⟩ : (fun q0 : World => q0.cell? ⟨w.heap.size, 0, none⟩ = some (.slice n.ao n.len n.cap) ∧ q0.cell? ⟨w.heap.size, 1, none⟩ = some (.slice g.ao g.len g.cap) ∧ q0.cell? ⟨w.heap.size, 2, none⟩ = some (.slice (some ⟨fs.b, fs.o, none⟩) fs.len fs.cap) ∧ q0.rangeAt fs.b (fs.o + j * 18) (fs.f j).vs) a)
        have hS := key _ D1
        refine wp_region_held_drew (S := (fun q0 : World => q0.cell? ⟨w.heap.size, 0, none⟩ = some (.slice n.ao n.len n.cap) ∧ q0.cell? ⟨w.heap.size, 1, none⟩ = some (.slice g.ao g.len g.cap) ∧ q0.cell? ⟨w.heap.size, 2, none⟩ = some (.slice (some ⟨fs.b, fs.o, none⟩) fs.len fs.cap) ∧ q0.rangeAt fs.b (fs.o + j * 18) (fs.f j).vs)) (by kernel_rfl) hS (fun _ => ?_)
        refine wpAnyH_take (i := 0) (v := .pointer (some ⟨w.heap.size, 0, none⟩)) rfl (by kernel_rfl) (by kernel_rfl) (by kernel_rfl) (fun _ _ _ h => h) (Or.inl ⟨by kernel_rfl, ?_⟩) hS ?_
        · intro u hSu
          obtain ⟨r0, r1, r2, _⟩ := hSu
          go_simp
        try simp only [Act.put]
        refine wpAnyH_take (i := 1) (v := .agg #[.slice n.ao n.len n.cap, .slice g.ao g.len g.cap]) rfl (by kernel_rfl) (by kernel_rfl) (by kernel_rfl) (fun _ _ _ h => h) (Or.inl ⟨by kernel_rfl, ?_⟩) hS ?_
        · intro u hSu
          obtain ⟨r0, r1, r2, _⟩ := hSu
          go_simp
        try simp only [Act.put]
        refine wpAnyH_take (i := 2) (v := .pointer (some ⟨w.heap.size, 2, none⟩)) rfl (by kernel_rfl) (by kernel_rfl) (by kernel_rfl) (fun _ _ _ h => h) (Or.inl ⟨by kernel_rfl, ?_⟩) hS ?_
        · intro u hSu
          obtain ⟨r0, r1, r2, _⟩ := hSu
          go_simp
        try simp only [Act.put]
        refine wpAnyH_take (i := 3) (v := .slice (some ⟨fs.b, fs.o, none⟩) fs.len fs.cap) rfl (by kernel_rfl) (by kernel_rfl) (by kernel_rfl) (fun _ _ _ h => h) (Or.inl ⟨by kernel_rfl, ?_⟩) hS ?_
        · intro u hSu
          obtain ⟨r0, r1, r2, _⟩ := hSu
          go_simp
        try simp only [Act.put]
        refine wpAnyH_take (i := 4) (v := .int .i64 (j : Nat)) rfl (by kernel_rfl) (by kernel_rfl) (by kernel_rfl) (fun _ _ _ h => h) (Or.inl ⟨by kernel_rfl, ?_⟩) hS ?_
        · intro u hSu
          obtain ⟨r0, r1, r2, _⟩ := hSu
          go_simp
        try simp only [Act.put]
        refine wpAnyH_take (i := 5) (v := .pointer (some ⟨fs.b, fs.o + j * 18, none⟩)) rfl (by kernel_rfl) (by kernel_rfl) (by kernel_rfl) (fun _ _ _ h => h) (Or.inl ⟨by kernel_rfl, ?_⟩) hS ?_
        · intro u hSu
          obtain ⟨r0, r1, r2, _⟩ := hSu
          go_simp
        try simp only [Act.put]
        refine wpAnyH_take (i := 6) (v := .agg (fs.f j).vs.toArray) rfl (by kernel_rfl) (by kernel_rfl) (by kernel_rfl) (fun _ _ _ h => h) (yieldsIf_load_mid (by kernel_rfl) 45 (.tmp 30) rfl fs.b (fs.o + j * 18) (by kernel_rfl) (fs.f j).vs _ (fun _ h => h.2.2.2) Tryz.underlying45 rfl (by kernel_rfl)) hS ?_
        try simp only [Act.put]
        refine wpAnyH_take (i := 8) (v := .pointer (some ⟨w.heap.size, 0, none⟩)) rfl (by kernel_rfl) (by kernel_rfl) (by kernel_rfl) (fun _ _ _ h => h) (Or.inl ⟨by kernel_rfl, ?_⟩) hS ?_
        · intro u hSu
          obtain ⟨r0, r1, r2, _⟩ := hSu
          go_simp
        try simp only [Act.put]
        refine wpAnyH_take (i := 9) (v := .agg #[.slice n.ao n.len n.cap, .slice g.ao g.len g.cap]) rfl (by kernel_rfl) (by kernel_rfl) (by kernel_rfl) (fun _ _ _ h => h) (Or.inl ⟨by kernel_rfl, ?_⟩) hS ?_
        · intro u hSu
          obtain ⟨r0, r1, r2, _⟩ := hSu
          go_simp
        try simp only [Act.put]
        refine wpAnyH_take (i := 10) (v := .pointer (some ⟨w.heap.size, 2, none⟩)) rfl (by kernel_rfl) (by kernel_rfl) (by kernel_rfl) (fun _ _ _ h => h) (Or.inl ⟨by kernel_rfl, ?_⟩) hS ?_
        · intro u hSu
          obtain ⟨r0, r1, r2, _⟩ := hSu
          go_simp
        try simp only [Act.put]
        refine wpAnyH_take (i := 11) (v := .slice (some ⟨fs.b, fs.o, none⟩) fs.len fs.cap) rfl (by kernel_rfl) (by kernel_rfl) (by kernel_rfl) (fun _ _ _ h => h) (Or.inl ⟨by kernel_rfl, ?_⟩) hS ?_
        · intro u hSu
          obtain ⟨r0, r1, r2, _⟩ := hSu
          go_simp
        try simp only [Act.put]
        refine wpAnyH_take (i := 12) (v := .int .i64 (j : Nat)) rfl (by kernel_rfl) (by kernel_rfl) (by kernel_rfl) (fun _ _ _ h => h) (Or.inl ⟨by kernel_rfl, ?_⟩) hS ?_
        · intro u hSu
          obtain ⟨r0, r1, r2, _⟩ := hSu
          go_simp
        try simp only [Act.put]
        refine wpAnyH_take (i := 13) (v := .pointer (some ⟨fs.b, fs.o + j * 18, none⟩)) rfl (by kernel_rfl) (by kernel_rfl) (by kernel_rfl) (fun _ _ _ h => h) (Or.inl ⟨by kernel_rfl, ?_⟩) hS ?_
        · intro u hSu
          obtain ⟨r0, r1, r2, _⟩ := hSu
          go_simp
        try simp only [Act.put]
        refine wpAnyH_take (i := 14) (v := .agg (fs.f j).vs.toArray) rfl (by kernel_rfl) (by kernel_rfl) (by kernel_rfl) (fun _ _ _ h => h) (yieldsIf_load_mid (by kernel_rfl) 45 (.tmp 38) rfl fs.b (fs.o + j * 18) (by kernel_rfl) (fs.f j).vs _ (fun _ h => h.2.2.2) Tryz.underlying45 rfl (by kernel_rfl)) hS ?_
        try simp only [Act.put]
        refine wpAnyH_ready (rs := [7]) (by kernel_rfl) (by simp) ?_
        refine AllReadyH.cons rfl (fun K hK => ?_) AllReadyH.nil
        go_simp
        have hC1 : Calls Tryz.prog 7 #[.agg #[.slice n.ao n.len n.cap, .slice g.ao g.len g.cap], .agg (fs.f j).vs.toArray] wr.drew fun e w' => TP wr.drew (typeT n g (fs.f j)) e w' := TypeOf_any n g (fs.f j) _ (HW.out.step D1).wo.hn (HW.out.step D1).wo.hg ((HW.out.step D1).wo.hf.part j hlt)
        refine hC1.mono ?_
        intro e w5 hTP
        obtain ⟨y, rfl, yA, yS, hb5⟩ := hTP
        have C5 := Below.next D1 hb5
        clear hC1
        go_wp2_with fail
        refine hK.out _ _ (key _ C5) (fun hS5 => ?_)
        clear hK K
        try simp only [Act.put]
        refine wpAnyH_ready (rs := [15]) (by kernel_rfl) (by simp) ?_
        refine AllReadyH.cons rfl (fun K hK => ?_) AllReadyH.nil
        go_simp
        refine (rTypeOf_any n g (fs.f j) w5 (HW.out.step C5).wo.hn (HW.out.step C5).wo.hg ((HW.out.step C5).wo.hf.part j hlt)).mono ?_
        intro e w6 hTP
        obtain ⟨z, rfl, zA, zS, hb6⟩ := hTP
        have C6 := Below.next C5 hb6
        have hyz : y.same z = true := same_trans _ _ _ yS (same_symm _ _ zS)
        have hC2 := rSame_any2 y z w6 (yA.kept hb6) zA
        rw [hyz] at hC2
        clear hyz yS zS
        go_wp2_with fail
        refine hK.out _ _ (key _ C6) (fun hS6 => ?_)
        clear hK K
        try simp only [Act.put]
        refine wpAnyH_ready (rs := [16]) (by kernel_rfl) (by simp) ?_
        refine AllReadyH.cons rfl (fun K hK => ?_) AllReadyH.nil
        go_simp
        refine hC2.mono ?_
        rintro e w7 ⟨rfl, hb7⟩
        have C7 := Below.next C6 hb7
        go_wp2_with fail
        refine hK.out _ _ (key _ C7) (fun hS7 => ?_)
        clear hK K
        try simp only [Act.put]
        refine wpAnyH_ready (rs := [17]) (by kernel_rfl) (by simp) ?_
        refine AllReadyH.cons rfl (fun K hK => ?_) AllReadyH.nil
        go_simp
        refine hK.out _ _ (key _ C7) (fun hS8 => ?_)
        clear hK K
        try simp only [Act.put]
        refine wpAnyH_done (by kernel_rfl) ?_ _
        go_wp2
        go_meet
        case rel => exact ⟨rfl, HW.out.step C7⟩
      case rest =>
        obtain ⟨hc, HV⟩ := hcut
        subst hc
        go_wp2
        go_roundw
        case rel => exact ⟨j + 1, by omega, by go_num, HV.out⟩
        case measure => simp [intOf]; omega
    · have ij : ¬ (j : Int) < fs.len := by omega
      go_wp2
      clear o2
      have o0 := fun z => Gr.cell z HW.out.o.c0
      have o1 := fun z => Gr.cell z HW.out.o.c1
      have o2 := fun z => Gr.cell z HW.out.o.c2
      have o3 := fun z => Gr.cell z HW.out.o.c3
      have x0 := fun z => Gr.cell z HW.out.x.c0
      have x1 := fun z => Gr.cell z HW.out.x.c1
      have x2 := fun z => Gr.cell z HW.out.x.c2
      have x3 := fun z => Gr.cell z HW.out.x.c3
      have x4 := fun z => Gr.cell z HW.out.x.c4
      have y0 := fun z => Gr.cell z HW.out.y.c0
      have y1 := fun z => Gr.cell z HW.out.y.c1
      have y2 := fun z => Gr.cell z HW.out.y.c2
      have H1 := fun a (ha : Below wr.heap.size wr a) => Fits_any n g fs cs t v a (HW.out.wo.kept ha) (HW.out.ht.kept ha) (HW.out.hv.kept ha) HCN.out
      have H2 := fun a (ha : Below wr.heap.size wr a) => rFits_any n g fs cs t v a (HW.out.wo.kept ha) (HW.out.ht.kept ha) (HW.out.hv.kept ha)
      have H3 := fun a (ha : Below wr.heap.size wr a) => Heap_any n g fs cs a (HW.out.wo.kept ha) HCN.out
      have H4 := fun a (ha : Below wr.heap.size wr a) => rHeap_any n g fs cs a (HW.out.wo.kept ha)
      generalize fitB n g fs cs t v = P at H1 H2
      generalize heapB n g fs cs = Q at H3 H4
      have hNE : Nonempty (Gr wr) := ⟨⟨_, Below.refl _ _⟩⟩
      refine wp_region_gr (by kernel_rfl) (by kernel_rfl) ?_
      repeat (first | go_big_quiet_step ((first | (go_at_call 9; exact Calls.gr _ (H1 _ (Gr.bl _))) | (go_at_call 10; exact Calls.gr _ (H2 _ (Gr.bl _))) | (go_at_call 11; exact Calls.gr _ (H3 _ (Gr.bl _))) | (go_at_call 12; exact Calls.gr _ (H4 _ (Gr.bl _))))))
      refine wpQuiet_nil ?_
      rintro w8 ⟨q8, rfl⟩
      have B8 := q8.bl
      generalize q8.w = w8 at B8 ⊢
      clear q8 hNE o0 o1 o2 o3 x0 x1 x2 x3 x4 y0 y1 y2 H1 H2 H3 H4
      go_wp2
      go_ret
      exact ⟨rfl, (HW.out.step B8).bl⟩
end Go.Proofs.YtnkipiegjpjfbaaGreatDoor

/- A lattice that comes in, opened into its names and its table. -/
namespace Go.Proofs.YtnkipiegjpjfbaaGreatDoor
open Go.ChangeShapes Go.WideShapes Go.ChangeAt Go.RowKit Go.Deep Go.Joins

theorem Tryz.own : ownKnob Tryz.prog.godebug = none := by kernel_rfl
theorem Tryz.laidOut : laidOutB Tryz.prog = true := by kernel_rfl
theorem Tryz.cellsString : Tryz.prog.cellsOf 9 = 1 := by kernel_rfl
theorem Tryz.cellsBool : Tryz.prog.cellsOf 4 = 1 := by kernel_rfl
theorem Tryz.cellsRow : Tryz.prog.cellsOf 72 = 1 := by kernel_rfl
theorem Tryz.cellsLat : Tryz.prog.cellsOf 25 = 2 := by kernel_rfl
theorem addr_plain (b off i : Nat) : (⟨b, off, none⟩ : Addr).add i = ⟨b, off + i, none⟩ := by unfold Addr.add; split <;> simp_all

section
variable {H : Type} {enc : TypeId × Value → H} {W : World} {base : Nat}

set_option maxRecDepth 100000 in
theorem open_strs {fuel : Nat} {v : Value} {x : DataW H × List MemPlace} (h : DataW.trod enc Tryz.prog W base (fun _ => true) true fuel 22 [v] = some x) :
    ∃ n : Strs, v = .slice n.ao n.len n.cap ∧ n.At W := by
  rcases open_strings Tryz.underlying22 Tryz.underlying9 Tryz.cellsString h with ⟨hcs, _⟩ | ⟨a, len, cap, ss, hcs, _, hl, hm, hz, _, hcell, hws⟩
  · exact ⟨⟨none, 0, 0, 0, 0, fun _ => ByteArray.empty⟩, by simpa using hcs, ⟨Nat.le_refl _, fun h => absurd h (Nat.lt_irrefl _), Nat.zero_le _, fun _ h => absurd h (Nat.not_lt_zero _), fun _ h => absurd h (Nat.not_lt_zero _)⟩⟩
  · have hv : v = .slice (some a) len cap := by simpa using hcs
    simp only [if_true] at hz
    unfold maxLen at hm hws
    refine ⟨⟨some a, a.block, a.off, len, cap, fun i => ss.getD i ByteArray.empty⟩, hv, ⟨hl, fun hp => ?_, Nat.le_trans hl hm, fun i hi => ?_, fun i hi => ?_⟩⟩
    · have hp' : 0 < len := hp
      have hs := World.cell?_spot (hcell 0 (by omega))
      obtain ⟨ab, ao, asp⟩ := a
      have : asp = none := by simpa [Addr.add] using hs
      subst this; rfl
    · have hi' : i < len := hi
      have hs := World.cell?_spot (hcell 0 (by omega))
      obtain ⟨ab, ao, asp⟩ := a
      have : asp = none := by simpa [Addr.add] using hs
      subst this
      have := hcell i (by omega)
      rw [addr_plain] at this
      exact this
    · have hi' : i < len := hi
      have hmem : ss.getD i ByteArray.empty ∈ ss := by
        rw [List.getD_eq_getElem?_getD, List.getElem?_eq_getElem (by omega)]
        exact List.getElem_mem _
      exact hws _ hmem

set_option maxRecDepth 100000 in
theorem open_grid {fuel : Nat} {v : Value} {x : DataW H × List MemPlace} (h : DataW.trod enc Tryz.prog W base (fun _ => true) true fuel 23 [v] = some x) :
    ∃ g : Grid, v = .slice g.ao g.len g.cap ∧ g.At W := by
  rcases open_bool_rows Tryz.underlying23 Tryz.underlying72 Tryz.underlying4 Tryz.cellsRow Tryz.cellsBool h with ⟨hcs, _⟩ | ⟨a, len, cap, A, L, C, B, hcs, _, hl, hm, _, hrows⟩
  · exact ⟨⟨none, 0, 0, 0, 0, fun _ => none, fun _ => 0, fun _ => 0, fun _ => 0, fun _ => 0, fun _ _ => false⟩, by simpa using hcs,
      ⟨Nat.le_refl _, fun h => absurd h (Nat.lt_irrefl _), Nat.zero_le _, fun _ h => absurd h (Nat.not_lt_zero _), fun _ h => absurd h (Nat.not_lt_zero _), fun _ h => absurd h (Nat.not_lt_zero _), fun _ h => absurd h (Nat.not_lt_zero _)⟩⟩
  · have hv : v = .slice (some a) len cap := by simpa using hcs
    unfold maxLen at hm
    have hadr : ∀ r, r < len → 0 < L r → A r = some ⟨((A r).getD default).block, ((A r).getD default).off, none⟩ ∧ ∀ c, c < L r → W.cell? ⟨((A r).getD default).block, ((A r).getD default).off + c, none⟩ = some (.bool (B r c)) := fun r hr hp => by
      obtain ⟨_, h1, _, h3, h4⟩ := hrows r (by omega)
      cases hA : A r with
      | none => have := h3 hA; omega
      | some a' =>
        obtain ⟨ab, ao, asp⟩ := a'
        obtain ⟨_, hcell⟩ := h4 _ hA
        have has : asp = none := by simpa [Addr.add] using World.cell?_spot (hcell 0 (by omega))
        subst has
        exact ⟨rfl, fun c hc => by have := hcell c (by omega); rwa [addr_plain] at this⟩
    have hspot : 0 < len → a = ⟨a.block, a.off, none⟩ := fun hp => by
      have hs := World.cell?_spot (hrows 0 (by omega)).1
      obtain ⟨ab, ao, asp⟩ := a
      have : asp = none := by simpa [Addr.add] using hs
      subst this; rfl
    refine ⟨⟨some a, a.block, a.off, len, cap, A, L, C, fun r => ((A r).getD default).block, fun r => ((A r).getD default).off, B⟩, hv, ⟨hl, fun hp => congrArg some (hspot hp), Nat.le_trans hl hm, fun r hr => ?_, fun r hr => ?_, fun r hr hp => (hadr r hr hp).1, fun r hr c hc => (hadr r hr (Nat.lt_of_le_of_lt (Nat.zero_le _) hc)).2 c hc⟩⟩
    · have hr' : r < len := hr
      obtain ⟨_, h1, h2, _⟩ := hrows r (by omega)
      unfold maxLen at h2
      exact Nat.le_trans h1 h2
    · have hr' : r < len := hr
      have := (hrows r (by omega)).1
      rw [hspot (by omega), addr_plain] at this
      exact this

set_option maxRecDepth 100000 in
theorem open_lat {v : Value} {d : DataW H} {p : List MemPlace} {b0 : Nat} (hv : Value.okWide Tryz.prog W .any b0 25 v) (h : DataW.Trod enc Tryz.prog W base (fun _ => true) true 25 v d p) :
    ∃ (n : Strs) (g : Grid), v = .agg #[.slice n.ao n.len n.cap, .slice g.ao g.len g.cap] ∧ n.At W ∧ g.At W := by
  obtain ⟨c0, c1, y0, y1, m, rfl, _, _, hy0, hy1⟩ := open_agg2 Tryz.underlying25 (by kernel_rfl) Tryz.cellsLat hv h
  obtain ⟨n, rfl, hn⟩ := open_strs hy0
  obtain ⟨g, rfl, hg⟩ := open_grid hy1
  exact ⟨n, g, rfl, hn, hg⟩
end
end Go.Proofs.YtnkipiegjpjfbaaGreatDoor
