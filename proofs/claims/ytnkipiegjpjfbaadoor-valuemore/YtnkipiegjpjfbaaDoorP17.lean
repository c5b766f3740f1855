/- Layer 3: the walks of value.write and writeAll: a value's text. -/
import Derived.Test.YtnkipiegjpjfbaaDoorP16
import Derived.Test.YtnkipiegjpjfbaaDoorP15
import Derived.Test.YtnkipiegjpjfbaaDoorP1
import Derived.Lib.ItoaLen
import Derived.Lib.AppendIntMem
import Derived.Laws.Concat
import Derived.Deep.Cut
import Derived.Deep.CutRange
import Derived.Deep.DeepCutAuto
import Derived.Test.YtnkipiegjpjfbaaDoorP11
namespace Go.Proofs.YtnkipiegjpjfbaaDoor
open Go.RowKit

/-- The table of powers of ten is as the library's text lays it. -/
def Tab (w : World) : Prop := Lib.TabIs Tryd.prog w "internal/strconv.uint64pow10" .u64 Lib.pow10Tab
theorem Tab.kept {w w' : World} (h : Tab w) (hb : Below w.heap.size w w') : Tab w' := by
  unfold Tab Lib.TabIs World.var? at *
  cases hg : Tryd.prog.globalNamed "internal/strconv.uint64pow10" with
  | none => rw [hg] at h; cases h
  | some g =>
    rw [hg] at h
    have hlt : g < w.heap.size := by
      rcases Nat.lt_or_ge g w.heap.size with h' | h'
      · exact h'
      · simp [Array.getElem?_eq_none h'] at h
    simp only [Option.bind_some] at h ⊢
    rw [hb.block g hlt]
    exact h
theorem fmtInt_any (n : Int) (h : -9223372036854775808 ≤ n ∧ n ≤ 9223372036854775807) (w : World) (ht : Tab w) :
    Calls Tryd.prog 47 #[.int .i64 n, .int .i64 10] w fun e w' => e = .returned (.string ⟨(Lib.itoa n).toArray⟩) ∧ Below w.heap.size w w' := by
  refine (Tryd.strconv_FormatInt_10 n h.1 h.2 w ht).mono ?_
  rintro e w' ⟨rfl, k, os, rfl⟩
  exact ⟨rfl, Lib.below_grow w.heap.size w (Nat.le_refl _) k os⟩

/-- Each number of a value is an int64. -/
def Vl.rng : Vl → Prop
  | .dm => True
  | .mk _ m _ _ _ len _ ps => (-9223372036854775808 ≤ m ∧ m ≤ 9223372036854775807) ∧ ∀ i, i < len → Vl.rng (ps i)

/-- What write does with one value. -/
def WC (v : Vl) : Prop := ∀ (w0 w : World) (B b : Nat) (l : List UInt8), v.At w0 → Tab w0 → w0.heap.size ≤ B → Below w0.heap.size w0 w → B ≤ w.heap.size → Bld w B b l → v.fm = true → v.rng → l.length + 40 * v.nodes ≤ 1000000000 →
  Calls Tryd.prog 28 #[.pointer (some ⟨b, 0, none⟩), .agg #[.int .i64 v.k, .int .i64 v.m, .slice v.ao v.len v.cap]] w fun e w' => e = .returned (.tuple #[]) ∧ Bld w' B b (l ++ v.txt) ∧ Below B w w' ∧ KT w w' b

theorem commas_len (f : Nat → List UInt8) (g : Nat → Nat) (n : Nat) (h : ∀ i, i < n → (f i).length + 2 ≤ g i) : (commas f n).length ≤ sumTo g n := by
  induction n with
  | zero => exact Nat.zero_le _
  | succ n ih =>
    have h1 := ih (fun i hi => h i (by omega))
    have h2 := h n (by omega)
    show _ ≤ sumTo g n + g n
    simp only [commas, List.length_append]
    split
    · simp; omega
    · simp; omega
theorem sumTo_mul (g : Nat → Nat) (n : Nat) : sumTo (fun i => 40 * g i) n = 40 * sumTo g n := by
  induction n with
  | zero => rfl
  | succ n ih => show sumTo (fun i => 40 * g i) n + 40 * g n = 40 * (sumTo g n + g n); rw [ih]; omega
theorem txt_len : ∀ v : Vl, v.fm = true → v.rng → v.txt.length + 2 ≤ 40 * v.nodes
  | .dm => fun h => by cases h
  | .mk k m ao b o len cap ps => by
    intro hf hr
    have ih := fun i => txt_len (ps i)
    obtain ⟨n1, p1⟩ := fm_parts hf
    have hc : (commas (fun i => (ps i).txt) len).length ≤ 40 * sumTo (fun i => (ps i).nodes) len := by
      rw [← sumTo_mul]
      exact commas_len _ _ len (fun i hi => ih i (p1 i hi) (hr.2 i hi))
    have hi := Lib.itoa_length_le m hr.1.1 hr.1.2
    show _ ≤ 40 * (1 + sumTo (fun i => (ps i).nodes) len)
    rcases nd_kind n1 with rfl | rfl | rfl | rfl | rfl
    · show (Lib.itoa m).length + 2 ≤ _; omega
    · show (if m = 1 then [116, 114, 117, 101] else [102, 97, 108, 115, 101] : List UInt8).length + 2 ≤ _
      split <;> simp <;> omega
    · show ([40] ++ (commas (fun i => (ps i).txt) len ++ [41])).length + 2 ≤ _
      simp only [List.length_append, List.length_cons, List.length_nil]; omega
    · show ([102, 117, 110, 32] ++ (Lib.itoa m ++ (if len = 0 then [] else [32, 91] ++ (commas (fun i => (ps i).txt) len ++ [93])))).length + 2 ≤ _
      split <;> simp only [List.length_append, List.length_cons, List.length_nil] <;> omega
    · show ([114, 101, 102, 32] ++ Lib.itoa m).length + 2 ≤ _
      simp only [List.length_append, List.length_cons, List.length_nil]; omega

set_option maxRecDepth 100000 in
set_option maxHeartbeats 4000000 in
theorem wall_any (ao : Option Addr) (b0 o len cap : Nat) (ps : Nat → Vl) (op cl : ByteArray) (w0 w : World) (B b : Nat) (l : List UInt8)
    (hnil : 0 < len → ao = some ⟨b0, o, none⟩) (hbd : len ≤ 9223372036854775807) (hp : ∀ i, i < len → C3 w0 b0 (o + i * 3) (ps i) ∧ (ps i).At w0) (hwc : ∀ i, i < len → WC (ps i) ∧ (ps i).fm = true ∧ (ps i).rng)
    (hT : Tab w0) (h0B : w0.heap.size ≤ B) (hb0 : Below w0.heap.size w0 w) (hBw : B ≤ w.heap.size) (hBl : Bld w B b l) (hlen : l.length + 10 + 40 * sumTo (fun i => (ps i).nodes) len ≤ 1000000000) (hop : op.size ≤ 2) (hcl : cl.size ≤ 2) (hl0 : 0 < len) :
    Calls Tryd.prog 49 #[.pointer (some ⟨b, 0, none⟩), .string op, .slice ao len cap, .string cl] w fun e w' => e = .returned (.tuple #[]) ∧ Bld w' B b (l ++ (op.data.toList ++ (commas (fun i => (ps i).txt) len ++ cl.data.toList))) ∧ Below B w w' ∧ KT w w' b := by
  have HBl : Hid (Bld w B b l) := hBl
  have HP : Hid (∀ i, i < len → C3 w0 b0 (o + i * 3) (ps i) ∧ (ps i).At w0) := hp
  have HWC : Hid (∀ i, i < len → WC (ps i) ∧ (ps i).fm = true ∧ (ps i).rng) := hwc
  have HT : Hid (Tab w0) := hT
  have HB0 : Hid (Below w0.heap.size w0 w) := hb0
  have HLen : Hid (l.length + 10 + 40 * sumTo (fun i => (ps i).nodes) len ≤ 1000000000) := hlen
  have hll : l.length ≤ 1000000000 := by omega
  have hos : op.data.toList.length = op.size := by rw [← Lib.size_eq]
  have hcs : cl.data.toList.length = cl.size := by rw [← Lib.size_eq]
  have HOS : Hid (op.data.toList.length = op.size ∧ cl.data.toList.length = cl.size) := ⟨hos, hcs⟩
  have HCl : Hid (∀ k, k ≤ len → (commas (fun i => (ps i).txt) k).length ≤ 40 * sumTo (fun i => (ps i).nodes) k) := fun k hk => by
    rw [← sumTo_mul]
    exact commas_len _ _ k (fun i hi => txt_len _ (hwc i (by omega)).2.1 (hwc i (by omega)).2.2)
  rw [hnil hl0]
  clear hBl hp hwc hT hb0 hlen hos hcs hnil
  go_enter Tryd.func49, Tryd.ntmps49
  go_wp2_with (go_at_call 46; refine (wstr_any B b l op w HBl.out (by omega) hBw).mono ?_; rintro e w1 ⟨rfl, h1, hb1, hk1⟩; have H1 : Hid (Bld w1 B b (l ++ op.data.toList)) := h1; have HB1 : Hid (Below B w w1 ∧ KT w w1 b) := ⟨hb1, hk1⟩; clear h1 hb1 hk1)
  go_loopw [15] (fun i wr => ∃ k : Nat, k ≤ len ∧ i = .int .i64 k ∧ Bld wr B b (l ++ op.data.toList ++ commas (fun i => (ps i).txt) k) ∧ Below B w wr ∧ KT w wr b) (fun i _ => len - (intOf i).toNat)
  case atStart => exact ⟨0, Nat.zero_le _, rfl, by simpa [commas] using H1.out, HB1.out.1, HB1.out.2⟩
  case round =>
    obtain ⟨k, hk, rfl, hbl, hbw, hkt⟩ := hrel
    have HBk : Hid (Bld wr B b (l ++ op.data.toList ++ commas (fun i => (ps i).txt) k)) := hbl
    have HW : Hid (Below B w wr ∧ KT w wr b) := ⟨hbw, hkt⟩
    have hws := hbw.size
    have HCk : Hid ((l ++ op.data.toList ++ commas (fun i => (ps i).txt) k).length ≤ l.length + 2 + 40 * sumTo (fun i => (ps i).nodes) k) := by
      show _ ≤ _
      rw [List.length_append, List.length_append, HOS.out.1]
      have := HCl.out k hk
      omega
    clear hbl hbw hkt H1 HB1
    by_cases hlt : k < len
    · have HBr : Hid (Below w0.heap.size w0 wr) := HB0.out.trans (HW.out.1.mono h0B)
      obtain ⟨u, hu⟩ : ∃ u, u = ps k := ⟨_, rfl⟩
      have HU : Hid (u = ps k) := hu
      have HPk : Hid (C3 w0 b0 (o + k * 3) u ∧ u.At w0) := by show _ ∧ _; rw [hu]; exact HP.out k hlt
      have HWk : Hid (WC u ∧ u.fm = true ∧ u.rng) := by show _ ∧ _ ∧ _; rw [hu]; exact HWC.out k hlt
      have hC := HPk.out.1.kept HBr.out
      have c0 := hC.c0
      have c1 := hC.c1
      have c2 := hC.c2
      clear hC
      have HM : Hid (sumTo (fun i => (ps i).nodes) k + u.nodes ≤ sumTo (fun i => (ps i).nodes) len) := by show _ ≤ _; rw [hu]; exact sumTo_mono (fun i => (ps i).nodes) (show k + 1 ≤ len by omega)
      clear hu
      have HV : Hid (Bv (wr.alloc (.cells #[.int .i64 u.k, .int .i64 u.m, .slice u.ao u.len u.cap] 24)) wr.heap.size u) := Bv.new wr u
      have HVb : Hid (Below wr.heap.size wr (wr.alloc (.cells #[.int .i64 u.k, .int .i64 u.m, .slice u.ao u.len u.cap] 24))) := (Below.refl _ _).alloc (Nat.le_refl _) _
      have HVh : Hid ((wr.alloc (.cells #[.int .i64 u.k, .int .i64 u.m, .slice u.ao u.len u.cap] 24)).heap[wr.heap.size]? = some (.cells #[.int .i64 u.k, .int .i64 u.m, .slice u.ao u.len u.cap] 24 (0, 0))) := heap_alloc_new _ _
      go_upto_region 4 with fail
      generalize wr.alloc (.cells #[.int .i64 u.k, .int .i64 u.m, .slice u.ao u.len u.cap] 24) = wv at *
      clear c0 c1 c2
      have hBb : b < wr.heap.size := by
        obtain ⟨p, v, _, hh⟩ := HBk.out.at
        rcases Nat.lt_or_ge b wr.heap.size with h' | h'
        · exact h'
        · rw [Array.getElem?_eq_none h'] at hh; cases hh
      have HBv : Hid (Bld wv B b (l ++ op.data.toList ++ commas (fun i => (ps i).txt) k)) := HBk.out.kept HVb.out
      have hvs := HVb.out.size
      have HVk : Hid (Below B w wv ∧ KT w wv b) := ⟨HW.out.1.trans (HVb.out.mono (by omega)), HW.out.2.trans (KT.bel HVb.out b)⟩
      clear HBk HW HBr
      by_cases h0 : k = 0
      · have d0 := HV.out.c0
        have d1 := HV.out.c1
        have d2 := HV.out.c2
        go_wp2_with (go_at_call 28; refine (HWk.out.1 w0 wv B b _ HPk.out.2 HT.out h0B (HB0.out.trans (HVk.out.1.mono h0B)) (by omega) HBv.out HWk.out.2.1 HWk.out.2.2 (by have := HCk.out; have := HM.out; have := HLen.out; omega)).mono ?_; rintro e w3 ⟨rfl, h3, hb3, hk3⟩; have H3 : Hid (Bld w3 B b (l ++ op.data.toList ++ commas (fun i => (ps i).txt) k ++ u.txt)) := h3; have HB3 : Hid (Below B w w3 ∧ KT w w3 b) := ⟨HVk.out.1.trans hb3, HVk.out.2.trans hk3⟩; clear h3 hb3 hk3)
        go_roundw
        case rel =>
          refine ⟨k + 1, by omega, by go_num, ?_, HB3.out.1, HB3.out.2⟩
          have h := H3.out
          rw [show commas (fun i => (ps i).txt) (k + 1) = commas (fun i => (ps i).txt) k ++ (ps k).txt by subst h0; simp [commas], ← List.append_assoc, ← HU.out]
          exact h
        case measure => simp [intOf]; omega
      · go_wp2_with (first
          | (go_at_call 46; refine (wstr_any B b _ ⟨#[44, 32]⟩ wv HBv.out (by have := HCk.out; have := HM.out; have := HLen.out; show _ + 2 ≤ _; omega) (by omega)).mono ?_; rintro e w2 ⟨rfl, h2, hb2, hk2⟩; have H2 : Hid (Bld w2 B b (l ++ op.data.toList ++ commas (fun i => (ps i).txt) k ++ [44, 32])) := h2; have HB2 : Hid (Below B w w2 ∧ KT w w2 b) := ⟨HVk.out.1.trans hb2, HVk.out.2.trans hk2⟩; have HX : Hid (w2.heap[wr.heap.size]? = some (.cells #[.int .i64 u.k, .int .i64 u.m, .slice u.ao u.len u.cap] 24 (0, 0))) := (hk2 _ _ _ _ (by decide) (by omega) HVh.out).trans HVh.out; have d0 : w2.cell? ⟨wr.heap.size, 0, none⟩ = some (.int .i64 u.k) := (by rw [Lib.cell_of_heap HX.out]; rfl); have d1 : w2.cell? ⟨wr.heap.size, 1, none⟩ = some (.int .i64 u.m) := (by rw [Lib.cell_of_heap HX.out]; rfl); have d2 : w2.cell? ⟨wr.heap.size, 2, none⟩ = some (.slice u.ao u.len u.cap) := (by rw [Lib.cell_of_heap HX.out]; rfl); have hs2 := hb2.size; clear h2 hb2 hk2)
          | (go_at_call 28; refine (HWk.out.1 w0 w2 B b _ HPk.out.2 HT.out h0B (HB0.out.trans (HB2.out.1.mono h0B)) (by omega) H2.out HWk.out.2.1 HWk.out.2.2 (by have := HCk.out; have := HM.out; have := HLen.out; rw [List.length_append]; show _ + 2 + _ ≤ _; omega)).mono ?_; rintro e w3 ⟨rfl, h3, hb3, hk3⟩; have H3 : Hid (Bld w3 B b (l ++ op.data.toList ++ commas (fun i => (ps i).txt) k ++ [44, 32] ++ u.txt)) := h3; have HB3 : Hid (Below B w w3 ∧ KT w w3 b) := ⟨HB2.out.1.trans hb3, HB2.out.2.trans hk3⟩; clear h3 hb3 hk3))
        go_roundw
        case rel =>
          refine ⟨k + 1, by omega, by go_num, ?_, HB3.out.1, HB3.out.2⟩
          have h := H3.out
          rw [show commas (fun i => (ps i).txt) (k + 1) = commas (fun i => (ps i).txt) k ++ [44, 32] ++ (ps k).txt by simp only [commas]; rw [if_neg h0], ← List.append_assoc, ← List.append_assoc, ← HU.out]
          exact h
        case measure => simp [intOf]; omega
    · have HK : Hid (k = len) := by show k = len; omega
      go_wp2_with (go_at_call 46; refine (wstr_any B b _ cl wr HBk.out (by have := HCk.out; have := HLen.out; rw [HK.out] at *; omega) (by omega)).mono ?_; rintro e w2 ⟨rfl, h2, hb2, hk2⟩; have H2 : Hid (Bld w2 B b (l ++ op.data.toList ++ commas (fun i => (ps i).txt) k ++ cl.data.toList)) := h2; have HB2 : Hid (Below B w w2 ∧ KT w w2 b) := ⟨HW.out.1.trans hb2, HW.out.2.trans hk2⟩; clear h2 hb2 hk2)
      go_end0
      refine ⟨rfl, ?_, HB2.out.1, HB2.out.2⟩
      have h := H2.out
      rw [HK.out] at h
      simpa only [List.append_assoc] using h
end Go.Proofs.YtnkipiegjpjfbaaDoor

/- Layer 3: the walk of value.write, by induction on the value; value.Text. -/
namespace Go.Proofs.YtnkipiegjpjfbaaDoor
open Go.RowKit

theorem cat_list (a : Array UInt8) (l : List UInt8) : ((⟨a⟩ : ByteArray) ++ (⟨l.toArray⟩ : ByteArray)).data.toList = a.toList ++ l := by
  simp [ByteArray.data_append]
theorem str_size (l : List UInt8) : (⟨l.toArray⟩ : ByteArray).size = l.length := by rw [Lib.size_eq]

theorem heap_lt3 {w : World} {p : Nat} {v : Obj} (h : w.heap[p]? = some v) : p < w.heap.size := by
  rcases Nat.lt_or_ge p w.heap.size with hl | hl
  · exact hl
  · rw [Array.getElem?_eq_none hl] at h; cases h

set_option maxRecDepth 100000 in
set_option maxHeartbeats 4000000 in
theorem write_wc : ∀ v : Vl, WC v
  | .dm => fun _ _ _ _ _ h => h.elim
  | .mk k m ao b0 o len cap ps => by
    have ih : ∀ i, WC (ps i) := fun i => write_wc (ps i)
    intro w0 w B b l hAt hT h0B hb0 hBw hBl hfm hrng hlen
    show Calls Tryd.prog 28 #[.pointer (some ⟨b, 0, none⟩), .agg #[.int .i64 k, .int .i64 m, .slice ao len cap]] w _
    obtain ⟨n1, p1⟩ := fm_parts hfm
    have hm := hrng.1
    have hit := Lib.itoa_length_le m hm.1 hm.2
    have hln : l.length + 40 * (1 + sumTo (fun i => (ps i).nodes) len) ≤ 1000000000 := hlen
    have HT : Hid (Tab w0) := hT
    have HB0 : Hid (Below w0.heap.size w0 w) := hb0
    have HBl : Hid (Bld w B b l) := hBl
    have HX0 : Hid ((w.alloc (.cells #[.int .i64 k, .int .i64 m, .slice ao len cap] 24)).heap[w.heap.size]? = some (.cells #[.int .i64 k, .int .i64 m, .slice ao len cap] 24 (0, 0))) := heap_alloc_new _ _
    have HXb : Hid (Below w.heap.size w (w.alloc (.cells #[.int .i64 k, .int .i64 m, .slice ao len cap] 24))) := (Below.refl _ _).alloc (Nat.le_refl _) _
    have hbw : b < w.heap.size := by
      obtain ⟨p, v, _, hh⟩ := hBl.at
      rcases Nat.lt_or_ge b w.heap.size with h' | h'
      · exact h'
      · rw [Array.getElem?_eq_none h'] at hh; cases hh
    have HAt : Hid ((0 < len → ao = some ⟨b0, o, none⟩) ∧ len ≤ 9223372036854775807 ∧ ∀ i, i < len → C3 w0 b0 (o + i * 3) (ps i) ∧ Vl.At w0 (ps i)) := hAt
    have HPs : Hid (∀ i, i < len → WC (ps i) ∧ (ps i).fm = true ∧ (ps i).rng) := fun i hi => ⟨ih i, p1 i hi, hrng.2 i hi⟩
    have HHb : Hid (len ≤ 9223372036854775807) := hAt.2.1
    have HIt : Hid ((⟨(Lib.itoa m).toArray⟩ : ByteArray).size ≤ 21) := by show _ ≤ _; rw [str_size]; exact hit
    have hlb := HHb.out
    clear hAt hT hb0 hBl hfm hrng hlen ih
    rcases nd_kind n1 with rfl | rfl | rfl | rfl | rfl
    · go_enter Tryd.func28, Tryd.ntmps28
      go_upto_region 1 with fail
      generalize w.alloc (.cells #[.int .i64 1, .int .i64 m, .slice ao len cap] 24) = wv at *
      have d0 : wv.cell? ⟨w.heap.size, 0, none⟩ = some (.int .i64 1) := by rw [Lib.cell_of_heap HX0.out]; rfl
      have d1 : wv.cell? ⟨w.heap.size, 1, none⟩ = some (.int .i64 m) := by rw [Lib.cell_of_heap HX0.out]; rfl
      have d2 : wv.cell? ⟨w.heap.size, 2, none⟩ = some (.slice ao len cap) := by rw [Lib.cell_of_heap HX0.out]; rfl
      have hs0 := HXb.out.size
      go_wp2_with (first
        | (go_at_call 47; refine (fmtInt_any m hm wv (HT.out.kept (HB0.out.trans (HXb.out.mono (by omega))))).mono ?_; rintro e w1 ⟨rfl, hb1⟩; have HB1 : Hid (Below w.heap.size w w1) := HXb.out.trans (hb1.mono hs0); have hs1 := hb1.size; have hX1 : w1.heap[w.heap.size]? = wv.heap[w.heap.size]? := hb1.block _ (heap_lt3 HX0.out); have HX1 : Hid (w1.heap[w.heap.size]? = wv.heap[w.heap.size]?) := hX1; clear hb1 hX1)
        | (go_at_call 46; refine (wstr_any B b l ⟨(Lib.itoa m).toArray⟩ w1 (HBl.out.kept HB1.out) (by have := HIt.out; omega) (by omega)).mono ?_; rintro e w2 ⟨rfl, h2, hb2, hk2⟩; have H2 : Hid (Bld w2 B b (l ++ Lib.itoa m)) := h2; have HB2 : Hid (Below B w w2 ∧ KT w w2 b) := ⟨(HB1.out.mono hBw).trans hb2, (KT.bel HB1.out b).trans hk2⟩; have HKK : Hid (KT w1 w2 b ∧ w1.heap.size ≤ w2.heap.size) := ⟨hk2, hb2.size⟩; clear h2 hb2 hk2))
      go_end0
      exact ⟨rfl, H2.out, HB2.out.1, HB2.out.2⟩
    · have l1 : len = 0 ∧ (m = 0 ∨ m = 1) := by simpa [ndB] using n1
      have hm01 := l1.2
      clear l1 n1
      go_enter Tryd.func28, Tryd.ntmps28
      go_upto_region 1 with fail
      generalize w.alloc (.cells #[.int .i64 2, .int .i64 m, .slice ao len cap] 24) = wv at *
      have d0 : wv.cell? ⟨w.heap.size, 0, none⟩ = some (.int .i64 2) := by rw [Lib.cell_of_heap HX0.out]; rfl
      have d1 : wv.cell? ⟨w.heap.size, 1, none⟩ = some (.int .i64 m) := by rw [Lib.cell_of_heap HX0.out]; rfl
      have d2 : wv.cell? ⟨w.heap.size, 2, none⟩ = some (.slice ao len cap) := by rw [Lib.cell_of_heap HX0.out]; rfl
      have hs0 := HXb.out.size
      rcases hm01 with rfl | rfl
      · go_wp2_with (first
          | (go_at_call 48; refine (Tryd.strconv_FormatBool false wv).mono ?_; rintro e w1 ⟨rfl, rfl⟩)
          | (go_at_call 46; refine (wstr_any B b l ⟨(Lib.formatBool false).toArray⟩ _ (HBl.out.kept HXb.out) (by show _ + 5 ≤ _; omega) (by omega)).mono ?_; rintro e w2 ⟨rfl, h2, hb2, hk2⟩; have H2 : Hid (Bld w2 B b (l ++ [102, 97, 108, 115, 101])) := h2; have HB2 : Hid (Below B w w2 ∧ KT w w2 b) := ⟨(HXb.out.mono hBw).trans hb2, (KT.bel HXb.out b).trans hk2⟩; clear h2 hb2 hk2))
        go_end0
        exact ⟨rfl, H2.out, HB2.out.1, HB2.out.2⟩
      · go_wp2_with (first
          | (go_at_call 48; refine (Tryd.strconv_FormatBool true wv).mono ?_; rintro e w1 ⟨rfl, rfl⟩)
          | (go_at_call 46; refine (wstr_any B b l ⟨(Lib.formatBool true).toArray⟩ _ (HBl.out.kept HXb.out) (by show _ + 4 ≤ _; omega) (by omega)).mono ?_; rintro e w2 ⟨rfl, h2, hb2, hk2⟩; have H2 : Hid (Bld w2 B b (l ++ [116, 114, 117, 101])) := h2; have HB2 : Hid (Below B w w2 ∧ KT w w2 b) := ⟨(HXb.out.mono hBw).trans hb2, (KT.bel HXb.out b).trans hk2⟩; clear h2 hb2 hk2))
        go_end0
        exact ⟨rfl, H2.out, HB2.out.1, HB2.out.2⟩
    · have l1 : len = 2 ∧ m = 0 := by simpa [ndB] using n1
      have HL2 : Hid (0 < len) := by show 0 < len; omega
      clear l1 n1
      go_enter Tryd.func28, Tryd.ntmps28
      go_upto_region 1 with fail
      generalize w.alloc (.cells #[.int .i64 3, .int .i64 m, .slice ao len cap] 24) = wv at *
      have d0 : wv.cell? ⟨w.heap.size, 0, none⟩ = some (.int .i64 3) := by rw [Lib.cell_of_heap HX0.out]; rfl
      have d1 : wv.cell? ⟨w.heap.size, 1, none⟩ = some (.int .i64 m) := by rw [Lib.cell_of_heap HX0.out]; rfl
      have d2 : wv.cell? ⟨w.heap.size, 2, none⟩ = some (.slice ao len cap) := by rw [Lib.cell_of_heap HX0.out]; rfl
      have hs0 := HXb.out.size
      go_wp2_with (go_at_call 49; refine (wall_any ao b0 o len cap ps ⟨#[40]⟩ ⟨#[41]⟩ w0 wv B b l HAt.out.1 HAt.out.2.1 HAt.out.2.2 HPs.out HT.out h0B (HB0.out.trans (HXb.out.mono (by omega))) (by omega) (HBl.out.kept HXb.out) (by omega) (by decide) (by decide) HL2.out).mono ?_; rintro e w2 ⟨rfl, h2, hb2, hk2⟩; have H2 : Hid (Bld w2 B b (l ++ ([40] ++ (commas (fun i => (ps i).txt) len ++ [41])))) := h2; have HB2 : Hid (Below B w w2 ∧ KT w w2 b) := ⟨(HXb.out.mono hBw).trans hb2, (KT.bel HXb.out b).trans hk2⟩; clear h2 hb2 hk2)
      go_end0
      exact ⟨rfl, H2.out, HB2.out.1, HB2.out.2⟩
    · clear n1
      go_enter Tryd.func28, Tryd.ntmps28
      go_upto_region 1 with fail
      generalize w.alloc (.cells #[.int .i64 4, .int .i64 m, .slice ao len cap] 24) = wv at *
      have d0 : wv.cell? ⟨w.heap.size, 0, none⟩ = some (.int .i64 4) := by rw [Lib.cell_of_heap HX0.out]; rfl
      have d1 : wv.cell? ⟨w.heap.size, 1, none⟩ = some (.int .i64 m) := by rw [Lib.cell_of_heap HX0.out]; rfl
      have d2 : wv.cell? ⟨w.heap.size, 2, none⟩ = some (.slice ao len cap) := by rw [Lib.cell_of_heap HX0.out]; rfl
      have hs0 := HXb.out.size
      have i9 : (⟨#[102, 117, 110, 32]⟩ : ByteArray).size + (⟨(Lib.itoa m).toArray⟩ : ByteArray).size ≤ 9223372036854775807 := by have := HIt.out; show 4 + _ ≤ _; omega
      obtain ⟨S, hcat⟩ : ∃ S, (⟨#[102, 117, 110, 32]⟩ : ByteArray) ++ (⟨(Lib.itoa m).toArray⟩ : ByteArray) = S := ⟨_, rfl⟩
      have HSl : Hid (S.data.toList = [102, 117, 110, 32] ++ Lib.itoa m) := by show _ = _; rw [← hcat, cat_list]
      have HI9 : Hid (S.size ≤ 25) := by show _ ≤ _; rw [← hcat, ByteArray.size_append]; have := HIt.out; show 4 + _ ≤ _; omega
      by_cases hl0 : len = 0
      · have HL0 : Hid (len = 0) := hl0
        have hl0' : ¬ 0 < len := by omega
        clear hl0
        go_wp2_with (first
          | (go_at_call 47; refine (fmtInt_any m hm wv (HT.out.kept (HB0.out.trans (HXb.out.mono (by omega))))).mono ?_; rintro e w1 ⟨rfl, hb1⟩; have HB1 : Hid (Below w.heap.size w w1) := HXb.out.trans (hb1.mono hs0); have hs1 := hb1.size; have hX1 : w1.heap[w.heap.size]? = wv.heap[w.heap.size]? := hb1.block _ (heap_lt3 HX0.out); have HX1 : Hid (w1.heap[w.heap.size]? = wv.heap[w.heap.size]?) := hX1; clear hb1 hX1)
          | (go_at_call 46; refine (wstr_any B b l S w1 (HBl.out.kept HB1.out) (by have := HI9.out; omega) (by omega)).mono ?_; rintro e w2 ⟨rfl, h2, hb2, hk2⟩; have H2 : Hid (Bld w2 B b (l ++ ([102, 117, 110, 32] ++ Lib.itoa m))) := (by rw [HSl.out] at h2; exact h2); have HB2 : Hid (Below B w w2 ∧ KT w w2 b) := ⟨(HB1.out.mono hBw).trans hb2, (KT.bel HB1.out b).trans hk2⟩; have HKK : Hid (KT w1 w2 b ∧ w1.heap.size ≤ w2.heap.size) := ⟨hk2, hb2.size⟩; have HX2 : Hid (w2.heap[w.heap.size]? = some (.cells #[.int .i64 4, .int .i64 m, .slice ao len cap] 24 (0, 0))) := (hk2 _ _ _ _ (by decide) (by omega) (HX1.out.trans HX0.out)).trans (HX1.out.trans HX0.out); have g2 : w2.cell? ⟨w.heap.size, 2, none⟩ = some (.slice ao len cap) := (by rw [Lib.cell_of_heap HX2.out]; rfl); have hs2 := hb2.size; clear h2 hb2 hk2))
        go_end0
        refine ⟨rfl, ?_, HB2.out.1, HB2.out.2⟩
        show Bld w2 B b (l ++ ([102, 117, 110, 32] ++ (Lib.itoa m ++ (if len = 0 then [] else [32, 91] ++ (commas (fun i => (ps i).txt) len ++ [93])))))
        rw [if_pos HL0.out, List.append_nil]
        exact H2.out
      · have HL0 : Hid (¬ len = 0) := hl0
        have hl0' : 0 < len := by omega
        have HLL : Hid ((l ++ ([102, 117, 110, 32] ++ Lib.itoa m)).length ≤ l.length + 25) := by show _ ≤ _; simp only [List.length_append, List.length_cons, List.length_nil]; omega
        clear hl0
        go_wp2_with (first
          | (go_at_call 47; refine (fmtInt_any m hm wv (HT.out.kept (HB0.out.trans (HXb.out.mono (by omega))))).mono ?_; rintro e w1 ⟨rfl, hb1⟩; have HB1 : Hid (Below w.heap.size w w1) := HXb.out.trans (hb1.mono hs0); have hs1 := hb1.size; have hX1 : w1.heap[w.heap.size]? = wv.heap[w.heap.size]? := hb1.block _ (heap_lt3 HX0.out); have HX1 : Hid (w1.heap[w.heap.size]? = wv.heap[w.heap.size]?) := hX1; clear hb1 hX1)
          | (go_at_call 46; refine (wstr_any B b l S w1 (HBl.out.kept HB1.out) (by have := HI9.out; omega) (by omega)).mono ?_; rintro e w2 ⟨rfl, h2, hb2, hk2⟩; have H2 : Hid (Bld w2 B b (l ++ ([102, 117, 110, 32] ++ Lib.itoa m))) := (by rw [HSl.out] at h2; exact h2); have HB2 : Hid (Below B w w2 ∧ KT w w2 b) := ⟨(HB1.out.mono hBw).trans hb2, (KT.bel HB1.out b).trans hk2⟩; have HKK : Hid (KT w1 w2 b ∧ w1.heap.size ≤ w2.heap.size) := ⟨hk2, hb2.size⟩; have HX2 : Hid (w2.heap[w.heap.size]? = some (.cells #[.int .i64 4, .int .i64 m, .slice ao len cap] 24 (0, 0))) := (hk2 _ _ _ _ (by decide) (by omega) (HX1.out.trans HX0.out)).trans (HX1.out.trans HX0.out); have g2 : w2.cell? ⟨w.heap.size, 2, none⟩ = some (.slice ao len cap) := (by rw [Lib.cell_of_heap HX2.out]; rfl); have hs2 := hb2.size; clear h2 hb2 hk2)
          | (go_at_call 49; refine (wall_any ao b0 o len cap ps ⟨#[32, 91]⟩ ⟨#[93]⟩ w0 w2 B b (l ++ ([102, 117, 110, 32] ++ Lib.itoa m)) HAt.out.1 HAt.out.2.1 HAt.out.2.2 HPs.out HT.out h0B (HB0.out.trans (HB2.out.1.mono h0B)) (by omega) H2.out (by have := HLL.out; omega) (by decide) (by decide) hl0').mono ?_; rintro e w3 ⟨rfl, h3, hb3, hk3⟩; have H3 : Hid (Bld w3 B b ((l ++ ([102, 117, 110, 32] ++ Lib.itoa m)) ++ ([32, 91] ++ (commas (fun i => (ps i).txt) len ++ [93])))) := h3; have HB3 : Hid (Below B w w3 ∧ KT w w3 b) := ⟨HB2.out.1.trans hb3, HB2.out.2.trans hk3⟩; clear h3 hb3 hk3))
        go_end0
        refine ⟨rfl, ?_, HB3.out.1, HB3.out.2⟩
        show Bld w3 B b (l ++ ([102, 117, 110, 32] ++ (Lib.itoa m ++ (if len = 0 then [] else [32, 91] ++ (commas (fun i => (ps i).txt) len ++ [93])))))
        rw [if_neg HL0.out]
        have h := H3.out
        simp only [List.append_assoc] at h ⊢
        exact h
    · clear n1
      go_enter Tryd.func28, Tryd.ntmps28
      go_upto_region 1 with fail
      generalize w.alloc (.cells #[.int .i64 5, .int .i64 m, .slice ao len cap] 24) = wv at *
      have d0 : wv.cell? ⟨w.heap.size, 0, none⟩ = some (.int .i64 5) := by rw [Lib.cell_of_heap HX0.out]; rfl
      have d1 : wv.cell? ⟨w.heap.size, 1, none⟩ = some (.int .i64 m) := by rw [Lib.cell_of_heap HX0.out]; rfl
      have d2 : wv.cell? ⟨w.heap.size, 2, none⟩ = some (.slice ao len cap) := by rw [Lib.cell_of_heap HX0.out]; rfl
      have hs0 := HXb.out.size
      have i9 : (⟨#[114, 101, 102, 32]⟩ : ByteArray).size + (⟨(Lib.itoa m).toArray⟩ : ByteArray).size ≤ 9223372036854775807 := by have := HIt.out; show 4 + _ ≤ _; omega
      obtain ⟨S, hcat⟩ : ∃ S, (⟨#[114, 101, 102, 32]⟩ : ByteArray) ++ (⟨(Lib.itoa m).toArray⟩ : ByteArray) = S := ⟨_, rfl⟩
      have HSl : Hid (S.data.toList = [114, 101, 102, 32] ++ Lib.itoa m) := by show _ = _; rw [← hcat, cat_list]
      have HI9 : Hid (S.size ≤ 25) := by show _ ≤ _; rw [← hcat, ByteArray.size_append]; have := HIt.out; show 4 + _ ≤ _; omega
      go_wp2_with (first
        | (go_at_call 47; refine (fmtInt_any m hm wv (HT.out.kept (HB0.out.trans (HXb.out.mono (by omega))))).mono ?_; rintro e w1 ⟨rfl, hb1⟩; have HB1 : Hid (Below w.heap.size w w1) := HXb.out.trans (hb1.mono hs0); have hs1 := hb1.size; have hX1 : w1.heap[w.heap.size]? = wv.heap[w.heap.size]? := hb1.block _ (heap_lt3 HX0.out); have HX1 : Hid (w1.heap[w.heap.size]? = wv.heap[w.heap.size]?) := hX1; clear hb1 hX1)
        | (go_at_call 46; refine (wstr_any B b l S w1 (HBl.out.kept HB1.out) (by have := HI9.out; omega) (by omega)).mono ?_; rintro e w2 ⟨rfl, h2, hb2, hk2⟩; have H2 : Hid (Bld w2 B b (l ++ ([114, 101, 102, 32] ++ Lib.itoa m))) := (by rw [HSl.out] at h2; exact h2); have HB2 : Hid (Below B w w2 ∧ KT w w2 b) := ⟨(HB1.out.mono hBw).trans hb2, (KT.bel HB1.out b).trans hk2⟩; have HKK : Hid (KT w1 w2 b ∧ w1.heap.size ≤ w2.heap.size) := ⟨hk2, hb2.size⟩; clear h2 hb2 hk2))
      go_end0
      exact ⟨rfl, H2.out, HB2.out.1, HB2.out.2⟩
end Go.Proofs.YtnkipiegjpjfbaaDoor

/- Layer 3: the walks of value.Text and of the statements' awake. -/
namespace Go.Proofs.YtnkipiegjpjfbaaDoor
open Go.RowKit

theorem vok_parts {v : Vl} (h : v.ok = true) : v.nodes ≤ 2000 ∧ v.fm = true := by
  unfold Vl.ok at h
  rw [Bool.and_eq_true, decide_eq_true_eq] at h
  exact h
/-- What Text answers. -/
def Vl.tx (v : Vl) : ByteArray := if v.ok = true then ⟨v.txt.toArray⟩ else ⟨#[]⟩
def Vl.te (v : Vl) : Int := if v.ok = true then 0 else 9

set_option maxRecDepth 100000 in
set_option maxHeartbeats 4000000 in
theorem text_any (v : Vl) (w : World) (hv : v.At w) (hT : Tab w) (hr : v.rng) :
    Calls Tryd.prog 12 #[.agg #[.int .i64 v.k, .int .i64 v.m, .slice v.ao v.len v.cap]] w fun e w' => e = .returned (.tuple #[.string v.tx, .int .i64 v.te]) ∧ Below w.heap.size w w' := by
  have HV : Hid (v.At w) := hv
  have HT : Hid (Tab w) := hT
  have HR : Hid v.rng := hr
  have X0 := Bv.new w v
  have HX : Hid (Bv (w.alloc (.cells #[.int .i64 v.k, .int .i64 v.m, .slice v.ao v.len v.cap] 24)) w.heap.size v) := X0
  have HXb : Hid (Below w.heap.size w (w.alloc (.cells #[.int .i64 v.k, .int .i64 v.m, .slice v.ao v.len v.cap] 24))) := (Below.refl _ _).alloc (Nat.le_refl _) _
  have HXs : Hid (w.heap.size < (w.alloc (.cells #[.int .i64 v.k, .int .i64 v.m, .slice v.ao v.len v.cap] 24)).heap.size) := by show _ < _; simp
  clear hv hT hr X0
  go_enter Tryd.func12, Tryd.ntmps12
  go_upto_region 1 with fail
  generalize w.alloc (.cells #[.int .i64 v.k, .int .i64 v.m, .slice v.ao v.len v.cap] 24) = wv at *
  have c0 := HX.out.c0
  have c1 := HX.out.c1
  have c2 := HX.out.c2
  cases hok : v.ok with
  | false =>
    have HE : Hid (v.tx = ⟨#[]⟩ ∧ v.te = 9) := by show _ ∧ _; unfold Vl.tx Vl.te; rw [hok]; exact ⟨rfl, rfl⟩
    have HO : Hid (v.ok = false) := hok
    clear hok
    go_wp2_with (go_at_call 14; refine (vFormed_any v wv (HV.out.kept HXb.out)).mono ?_; rw [HO.out]; rintro e w1 ⟨rfl, hb1⟩; have HB1 : Hid (Below w.heap.size w w1) := HXb.out.trans (hb1.mono HXb.out.size); clear hb1)
    go_ret2
    exact ⟨by rw [HE.out.1, HE.out.2]; rfl, HB1.out⟩
  | true =>
    have HE : Hid (v.tx = ⟨v.txt.toArray⟩ ∧ v.te = 0) := by show _ ∧ _; unfold Vl.tx Vl.te; rw [hok]; exact ⟨rfl, rfl⟩
    have HO : Hid (v.ok = true) := hok
    have hnd := (vok_parts hok).1
    clear hok
    go_upto_region 4 with (go_at_call 14; refine (vFormed_any v wv (HV.out.kept HXb.out)).mono ?_; rw [HO.out]; rintro e w1 ⟨rfl, hb1⟩; have HX1 : Hid (Bv w1 w.heap.size v) := HX.out.kept hb1; have HB1 : Hid (Below w.heap.size w w1) := HXb.out.trans (hb1.mono HXb.out.size); have hs1 := hb1.size; clear hb1)
    have HN : Hid (Bld (w1.alloc (.cells #[.pointer none, .slice none 0 0] 62)) w1.heap.size w1.heap.size []) := Bld.new w1
    have HNb : Hid (Below w1.heap.size w1 (w1.alloc (.cells #[.pointer none, .slice none 0 0] 62))) := (Below.refl _ _).alloc (Nat.le_refl _) _
    generalize w1.alloc (.cells #[.pointer none, .slice none 0 0] 62) = wb at *
    have hX2 := HX1.out.kept HNb.out
    have d0 := hX2.c0
    have d1 := hX2.c1
    have d2 := hX2.c2
    have hsb := HNb.out.size
    have hw1 := HB1.out.size
    clear hX2 c0 c1 c2
    go_wp2_with (first
      | (go_at_call 28; refine (write_wc v w wb w1.heap.size w1.heap.size [] HV.out HT.out hw1 (HB1.out.trans (HNb.out.mono hw1)) hsb HN.out (vok_parts HO.out).2 HR.out (by show 0 + 40 * v.nodes ≤ _; omega)).mono ?_; rintro e w3 ⟨rfl, h3, hb3, _⟩; have H3 : Hid (Bld w3 w1.heap.size w1.heap.size v.txt) := h3; have HB3 : Hid (Below w.heap.size w w3) := HB1.out.trans ((HNb.out.trans hb3).mono hw1); have hs3 := hb3.size; clear h3 hb3)
      | (go_at_call 29; refine (Tryd.Builder_String_any w1.heap.size w1.heap.size v.txt w3 H3.out (by omega)).mono ?_; rintro e w4 ⟨rfl, hb4⟩; have HB4 : Hid (Below w.heap.size w w4) := HB3.out.trans (hb4.mono hw1); clear hb4))
    go_ret2
    exact ⟨by rw [HE.out.1, HE.out.2]; rfl, HB4.out⟩

theorem awk_ok : Vl.ok (.mk 1 (-7) none 0 0 0 0 (fun _ => .dm)) = true := by
  unfold Vl.ok
  rw [Bool.and_eq_true, decide_eq_true_eq]
  refine ⟨by decide, ?_⟩
  show (ndB 1 (-7) 0 && decide (∀ i, i < 0 → _)) = true
  rw [Bool.and_eq_true, decide_eq_true_eq]
  exact ⟨rfl, fun i hi => absurd hi (Nat.not_lt_zero _)⟩
theorem awk_tx : Vl.tx (.mk 1 (-7) none 0 0 0 0 (fun _ => .dm)) = ⟨#[45, 55]⟩ ∧ Vl.te (.mk 1 (-7) none 0 0 0 0 (fun _ => .dm)) = 0 := by
  unfold Vl.tx Vl.te
  rw [awk_ok]
  refine ⟨?_, rfl⟩
  show (⟨(Lib.itoa (-7)).toArray⟩ : ByteArray) = _
  rw [show Lib.itoa (-7) = [45, 55] by unfold Lib.itoa; rw [if_pos (by decide)]; show 45 :: Lib.decDigits 7 = _; rw [Lib.decDigits_one (by omega)]; rfl]
set_option maxRecDepth 100000 in
set_option maxHeartbeats 4000000 in
theorem vawake_any (w : World) (hT : Tab w) : Calls Tryd.prog 8 #[] w fun e w' => e = .returned (.bool true) ∧ Below w.heap.size w w' := by
  have HT : Hid (Tab w) := hT
  clear hT
  go_enter Tryd.func8, Tryd.ntmps8
  go_wp2_with (first
    | (go_at_call 12; refine (text_any (.mk 1 (-7) none 0 0 0 0 (fun _ => .dm)) w ⟨fun h => absurd h (Nat.lt_irrefl _), by omega, fun _ h => absurd h (Nat.not_lt_zero _)⟩ HT.out ⟨by omega, fun _ h => absurd h (Nat.not_lt_zero _)⟩).mono ?_; rw [awk_tx.1, awk_tx.2]; rintro e w1 ⟨rfl, hb1⟩; have HB1 : Hid (Below w.heap.size w w1) := hb1; clear hb1)
    | (go_at_call 16; refine (vNodes_any (.mk 0 0 none 0 0 0 0 (fun _ => .dm)) w1 ⟨fun h => absurd h (Nat.lt_irrefl _), by omega, fun _ h => absurd h (Nat.not_lt_zero _)⟩).mono ?_; rw [show min (Vl.nodes (.mk 0 0 none 0 0 0 0 (fun _ => .dm))) 2001 = 1 by decide]; rintro e w2 ⟨rfl, hb2⟩; have HB2 : Hid (Below w.heap.size w w2) := HB1.out.trans (hb2.mono HB1.out.size); clear hb2))
  go_ret
  exact ⟨rfl, HB2.out⟩
end Go.Proofs.YtnkipiegjpjfbaaDoor
