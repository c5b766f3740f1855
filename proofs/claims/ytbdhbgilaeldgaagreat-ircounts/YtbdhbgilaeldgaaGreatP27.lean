/- Layer 10: holds, Shaped, Check. -/
import Derived.Test.YtbdhbgilaeldgaaGreatP21
import Derived.Test.YtbdhbgilaeldgaaGreatP26
import Derived.Test.YtbdhbgilaeldgaaGreatP12
namespace Go.Proofs.YtbdhbgilaeldgaaGreat
open Go Go.RowKit

def hldB (n : Strs) (g : Grid) (many : Int) (f : Fc) : Bool := ((typedB n g f && decide (f.body.cnt 1 0 ≤ 4096)) && f.body.shp n g many f.slots.len) && ((f.out == -1) || slotsB f.slots.len [f.out])
set_option maxRecDepth 100000 in
set_option maxHeartbeats 8000000 in
theorem holds_any (n : Strs) (g : Grid) (many : Int) (f : Fc) (w : World) (hn : n.At w) (hg : g.At w) (hf : f.At w) (hcl : f.caps.len ≤ 1000000) : Calls Tryz.prog 25 #[.agg (shV n g many f).toArray] w fun e w' => e = .returned (.bool (hldB n g many f)) ∧ Below w.heap.size w w' := by
  have B0 := below_alloc w (.cells (shV n g many f).toArray 64)
  have HI := hid (show Below w.heap.size w (w.alloc (.cells (shV n g many f).toArray 64)) ∧ Blk (w.alloc (.cells (shV n g many f).toArray 64)) w.heap.size (shV n g many f) 64 from ⟨B0, Blk.new w _ _⟩)
  have HH := hid (show n.At w ∧ g.At w ∧ f.At w ∧ f.caps.len ≤ 1000000 from ⟨hn, hg, hf, hcl⟩)
  obtain ⟨R, hR⟩ : ∃ R, R = hldB n g many f := ⟨_, rfl⟩
  rw [← hR]
  have HR := hid hR
  clear hn hg hf hcl B0 hR
  go_enter Tryz.func25, Tryz.ntmps25
  go_upto_region 1 with fail
  generalize (w.alloc (.cells (shV n g many f).toArray 64)) = w1 at *
  have bH := HI.out.2
  have hT := typed_any n g many f w1 (HH.out.1.kept HI.out.1) (HH.out.2.1.kept HI.out.1) (HH.out.2.2.1.kept HI.out.1) HH.out.2.2.2
  go_wp2_with (refine wpList_load_mid rfl 64 (.tmp 1) rfl w.heap.size 0 (by kernel_rfl) (shV n g many f) _ bH.range Tryz.underlying64 rfl (by kernel_rfl) ?_)
  refine Calls.mono hT ?_
  rintro _ w2 ⟨rfl, hb2⟩
  have HI2 := hid (show Below w.heap.size w w2 ∧ Blk w2 w.heap.size (shV n g many f) 64 from ⟨Below.next HI.out.1 hb2, HI.out.2.kept hb2⟩)
  clear hT bH hb2 HI
  cases q1 : typedB n g f
  · have HF : Hid (R = false) := by show _ = _; rw [HR.out]; unfold hldB; rw [q1]; rfl
    go_wp2
    go_ret
    exact ⟨ret_bool HF.out.symm, HI2.out.1⟩
  have c17 := HI2.out.2.cell 17 (v := .slice f.body.ao f.body.len f.body.cap) rfl
  have hC := CountN_any f.body w2 (HH.out.2.2.1.body.kept HI2.out.1)
  go_wp2_with fail
  refine Calls.mono hC ?_
  rintro _ w3 ⟨rfl, hb3⟩
  have HI3 := hid (show Below w.heap.size w w3 ∧ Blk w3 w.heap.size (shV n g many f) 64 from ⟨Below.next HI2.out.1 hb3, HI2.out.2.kept hb3⟩)
  clear hC c17 hb3 HI2
  by_cases q2 : f.body.cnt 1 0 ≤ 4096
  · have d2 : decide (((f.body.cnt 1 0 : Nat) : Int) ≤ 4096) = true := by simp; omega
    have bH := HI3.out.2
    have c17 := HI3.out.2.cell 17 (v := .slice f.body.ao f.body.len f.body.cap) rfl
    have hN := nodes_any n g many f f.body w3 (HH.out.1.kept HI3.out.1) (HH.out.2.1.kept HI3.out.1) (HH.out.2.2.1.body.kept HI3.out.1)
    have HE : Hid (R = (f.body.shp n g many f.slots.len && ((f.out == -1) || slotsB f.slots.len [f.out]))) := by show _ = _; rw [HR.out]; unfold hldB; rw [q1, decide_eq_true q2]; rfl
    clear q1 q2
    generalize f.body.cnt 1 0 = cc at *
    go_wp2_with (refine wpList_load_W (by kernel_rfl) 64 (.tmp 1) rfl w.heap.size 0 (by kernel_rfl) (shV n g many f) _ bH.range Tryz.underlying64 rfl (by kernel_rfl) ?_)
    refine Calls.mono hN ?_
    rintro _ w4 ⟨rfl, hb4⟩
    have HI4 := hid (show Below w.heap.size w w4 ∧ Blk w4 w.heap.size (shV n g many f) 64 from ⟨Below.next HI3.out.1 hb4, HI3.out.2.kept hb4⟩)
    clear hN c17 bH hb4 HI3
    generalize f.body.shp n g many f.slots.len = x at *
    cases x
    · go_wp2
      go_ret
      exact ⟨ret_bool (by rw [HE.out]; rfl), HI4.out.1⟩
    have c18 := HI4.out.2.cell 18 (v := .int .i64 f.out) rfl
    cases q3 : (f.out == -1)
    · have HF : Hid (R = slotsB f.slots.len [f.out]) := by show _ = _; rw [HE.out, q3]; rfl
      have bH := HI4.out.2
      have hr := run_int1 f.out w4
      have hb := below_alloc w4 (.cells #[.int .i64 f.out] 3)
      have hL := IAt.blk (l := [f.out]) (Blk.new w4 [.int .i64 f.out] 3) (by simp)
      have HL := hid (slots_any n g many f [f.out] _ _ hL)
      have HX := hid (Below.next HI4.out.1 hb)
      clear hb hL
      go_wp2_with (first | (refine wpList_load_W (by kernel_rfl) 64 (.tmp 1) rfl w.heap.size 0 (by kernel_rfl) (shV n g many f) _ bH.range Tryz.underlying64 rfl (by kernel_rfl) ?_) | (refine wpList_sliceW (by kernel_rfl) 42 1 #[(0, .tmp 28)] rfl #[(0, .int .i64 f.out)] (by kernel_rfl) hr ?_))
      refine Calls.mono HL.out ?_
      rintro _ w5 ⟨rfl, hb5⟩
      clear HL hr bH c18
      rw [← HF.out]
      go_wp2
      go_ret
      exact ⟨rfl, Below.next HX.out hb5⟩
    · go_wp2
      go_ret
      exact ⟨ret_bool (by rw [HE.out, q3]; rfl), HI4.out.1⟩
  · have d2 : decide (((f.body.cnt 1 0 : Nat) : Int) ≤ 4096) = false := by simp; omega
    have HF : Hid (R = false) := by show _ = _; rw [HR.out]; unfold hldB; rw [q1, decide_eq_false q2]; rfl
    clear q1 q2
    generalize f.body.cnt 1 0 = cc at *
    go_wp2
    go_ret
    exact ⟨ret_bool HF.out.symm, HI3.out.1⟩

def shdB (n : Strs) (g : Grid) (l : Fl) : Bool := (!(l.len == 0) && decide (l.len ≤ 60)) && decide (∀ i, i < l.len → hldB n g l.len (l.ps i) = true)
theorem run_build_sh (n : Strs) (g : Grid) (m : Int) (f : Fc) (w : World) : (Instr.build 64 #[(0, .agg #[.slice n.ao n.len n.cap, .slice g.ao g.len g.cap]), (1, .int .i64 m), (2, .agg f.vs.toArray)]).run Tryz.prog w = .ok (.agg (shV n g m f).toArray) w := by kernel_rfl
set_option maxRecDepth 100000 in
set_option maxHeartbeats 8000000 in
theorem Shaped_any (n : Strs) (g : Grid) (l : Fl) (w : World) (hn : n.At w) (hg : g.At w) (hl : l.At w) (hcl : ∀ i, i < l.len → (l.ps i).caps.len ≤ 1000000) : Calls Tryz.prog 10 #[.agg #[.slice n.ao n.len n.cap, .slice g.ao g.len g.cap], .slice l.ao l.len l.cap] w fun e w' => e = .returned (.bool (shdB n g l)) ∧ Below w.heap.size w w' := by
  have B0 := below_alloc w (.cells #[.slice n.ao n.len n.cap, .slice g.ao g.len g.cap] 25)
  have HI := hid (show Below w.heap.size w (w.alloc (.cells #[.slice n.ao n.len n.cap, .slice g.ao g.len g.cap] 25)) ∧ Blk (w.alloc (.cells #[.slice n.ao n.len n.cap, .slice g.ao g.len g.cap] 25)) w.heap.size [.slice n.ao n.len n.cap, .slice g.ao g.len g.cap] 25 from ⟨B0, Blk.new w _ _⟩)
  have HH := hid (show n.At w ∧ g.At w ∧ l.At w ∧ (∀ i, i < l.len → (l.ps i).caps.len ≤ 1000000) from ⟨hn, hg, hl, hcl⟩)
  have hnil : 0 < l.len → l.ao = some ⟨l.b, l.o, none⟩ := hl.nil
  have hbd : l.len ≤ 9223372036854775807 := hl.bound
  have HG : Hid (shdB n g l = ((!(l.len == 0) && decide (l.len ≤ 60)) && decide (∀ i, i < l.len → hldB n g l.len (l.ps i) = true))) := by show _ = _; rfl
  clear hn hg hl hcl B0
  generalize shdB n g l = R at *
  generalize hlen : l.len = len at *
  have HL : Hid (l.len = len) := hlen
  clear hlen
  generalize l.ao = ao at *
  generalize l.cap = cap at *
  go_enter Tryz.func10, Tryz.ntmps10
  go_upto_region 1 with fail
  generalize (w.alloc (.cells #[.slice n.ao n.len n.cap, .slice g.ao g.len g.cap] 25)) = w1 at *
  by_cases h0 : len = 0
  · have d0 : ((len : Int) == 0) = true := by simp; omega
    have HF : Hid (R = false) := by show _ = _; rw [HG.out, h0]; rfl
    clear h0
    go_wp2
    go_ret
    exact ⟨ret_bool HF.out.symm, HI.out.1⟩
  have d0 : ((len : Int) == 0) = false := by simp; omega
  by_cases h60 : 60 < len
  · have d6 : decide ((60 : Int) < len) = true := by simp; omega
    have HF : Hid (R = false) := by show _ = _; rw [HG.out, decide_eq_false (p := len ≤ 60) (by omega)]; simp
    go_wp2
    go_ret
    exact ⟨ret_bool HF.out.symm, HI.out.1⟩
  have d6 : decide ((60 : Int) < len) = false := by simp; omega
  have HF : Hid (R = decide (∀ i, i < len → hldB n g len (l.ps i) = true)) := by show _ = _; rw [HG.out, decide_eq_true (p := len ≤ 60) (by omega), show (len == 0) = false by simp; omega]; rfl
  clear HG h0 h60
  go_wp2
  go_loopw [17] (fun i wr => ∃ (k : Nat), k ≤ len ∧ i = .int .i64 k ∧ (∀ i, i < k → hldB n g len (l.ps i) = true) ∧ Below w.heap.size w wr ∧ Blk wr w.heap.size [.slice n.ao n.len n.cap, .slice g.ao g.len g.cap] 25) (fun i _ => len - (intOf i).toNat)
  case atStart => exact ⟨0, Nat.zero_le _, rfl, fun i hi => absurd hi (Nat.not_lt_zero _), HI.out⟩
  case round =>
    clear HI
    obtain ⟨k, hk, rfl, hall, hB⟩ := hrel
    have HA := hid hall
    have HI := hid hB
    clear hall hB
    by_cases hlt : k < len
    · have ij : (k : Int) < len := by omega
      have a0 := hnil (by omega)
      subst a0
      have hlt' : k < l.len := by rw [HL.out]; exact hlt
      have rN : wr.rangeAt l.b (l.o + k * 16) (l.ps k).vs := (HH.out.2.2.1.kept HI.out.1).cells k hlt'
      have HN0 := hid (show (l.ps k).At w ∧ (l.ps k).caps.len ≤ 1000000 from ⟨HH.out.2.2.1.part k hlt', HH.out.2.2.2 k hlt⟩)
      have HAs : Hid (∀ x, x = hldB n g len (l.ps k) → (x = true → ∀ i, i < k + 1 → hldB n g len (l.ps i) = true) ∧ (x = false → R = false)) := by
        intro x hx
        refine ⟨fun h1 i hi => ?_, fun h1 => ?_⟩
        · rcases Nat.lt_or_ge i k with h2 | h2
          · exact HA.out i h2
          · have : i = k := by omega
            subst this; rw [← hx]; exact h1
        · rw [HF.out, decide_eq_false_iff_not]
          intro hh
          have := hh k hlt
          rw [← hx, h1] at this
          cases this
      clear hlt'
      generalize l.ps k = f at *
      have hN := below_alloc wr (.cells f.vs.toArray 41)
      have HB := hid (show Below w.heap.size w (wr.alloc (.cells f.vs.toArray 41)) ∧ Blk (wr.alloc (.cells f.vs.toArray 41)) w.heap.size [.slice n.ao n.len n.cap, .slice g.ao g.len g.cap] 25 ∧ Blk (wr.alloc (.cells f.vs.toArray 41)) wr.heap.size f.vs 41 from ⟨Below.next HI.out.1 hN, HI.out.2.kept hN, Blk.new wr _ _⟩)
      clear HI hN
      go_upto_region 6 with (first | (refine wpList_load_mid rfl 41 (.tmp 19) rfl l.b (l.o + k * 16) (by kernel_rfl) f.vs _ rN Tryz.underlying41 rfl (by kernel_rfl) ?_) | (refine wpList_new_mid rfl rfl 41 rfl (.tmp 6) (.tmp 20) rfl zFv (alloc_fn _) rfl f.vs.toArray (by kernel_rfl) (by kernel_rfl) rfl (by kernel_rfl) (by simpa using f.va_one) ?_))
      clear rN
      generalize (wr.alloc (.cells f.vs.toArray 41)) = w2 at *
      generalize wr.heap.size = BN at *
      have e0 := HB.out.2.1.cell 0 rfl
      have e1 := HB.out.2.1.cell 1 rfl
      have b6 := HB.out.2.2
      have hW := holds_any n g len f w2 (HH.out.1.kept HB.out.1) (HH.out.2.1.kept HB.out.1) (HN0.out.1.kept HB.out.1) HN0.out.2
      go_wp2_with (first | (refine wpList_load_mid rfl 41 (.tmp 6) rfl BN 0 (by kernel_rfl) f.vs _ b6.range Tryz.underlying41 rfl (by kernel_rfl) ?_) | (refine wpList_buildI rfl 64 #[(0, .tmp 21), (1, .tmp 23), (2, .tmp 24)] rfl _ (by kernel_rfl) (run_build_sh n g len f _) ?_))
      refine Calls.mono hW ?_
      rintro _ w3 ⟨rfl, hb3⟩
      have HI := hid (show Below w.heap.size w w3 ∧ Blk w3 w.heap.size [.slice n.ao n.len n.cap, .slice g.ao g.len g.cap] 25 from ⟨Below.next HB.out.1 hb3, HB.out.2.1.kept hb3⟩)
      have hAs := HAs.out _ rfl
      have HAS := hid hAs
      clear hAs HAs hW b6 e0 e1 hb3 HB
      generalize hldB n g len f = xx at *
      cases xx
      · go_wp2
        go_ret
        exact ⟨ret_bool (HAS.out.2 (by simp)).symm, HI.out.1⟩
      · go_wp2
        go_roundw
        case rel => exact ⟨k + 1, by omega, by go_num, HAS.out.1 (by simp), HI.out.1, HI.out.2⟩
        case measure => simp [intOf]; omega
    · have e2 : k = len := by omega
      subst e2
      have d : ¬ (k : Int) < k := by omega
      go_wp2
      go_ret
      exact ⟨ret_bool (by rw [HF.out]; symm; rw [decide_eq_true_eq]; exact HA.out), HI.out.1⟩
end Go.Proofs.YtbdhbgilaeldgaaGreat

/- Layer 10: Check. -/
namespace Go.Proofs.YtbdhbgilaeldgaaGreat
open Go Go.RowKit

/-- The judge of a function. -/
def jdg (n : Strs) (g : Grid) (l : Fl) (i : Nat) : Jd := ⟨n, g, botI n g, l, l.ps i⟩
/-- What Check answers. -/
def ChkR (n : Strs) (g : Grid) (l : Fl) (a b : Int) : Prop :=
  (shdB n g l = false ∧ a = -1 ∧ b = 9) ∨ (shdB n g l = true ∧ ∃ k, k < l.len ∧ (∀ i, i < k → (jdg n g l i).right = true) ∧ (jdg n g l k).right = false ∧ a = k ∧ b = 11) ∨ (shdB n g l = true ∧ (∀ i, i < l.len → (jdg n g l i).right = true) ∧ a = 0 ∧ b = 0)
theorem run_build_jd (n : Strs) (g : Grid) (bt : Int) (l : Fl) (f : Fc) (w : World) : (Instr.build 61 #[(0, .agg #[.slice n.ao n.len n.cap, .slice g.ao g.len g.cap]), (1, .int .i64 bt), (2, .slice l.ao l.len l.cap), (3, .agg f.vs.toArray)]).run Tryz.prog w = .ok (.agg (⟨n, g, bt, l, f⟩ : Jd).vs.toArray) w := by kernel_rfl
theorem shd_fn {n : Strs} {g : Grid} {l : Fl} (h : shdB n g l = true) {i : Nat} (hi : i < l.len) : hldB n g l.len (l.ps i) = true := by
  unfold shdB at h
  simp only [Bool.and_eq_true, decide_eq_true_eq] at h
  exact h.2 i hi
theorem hld_parts {n : Strs} {g : Grid} {m : Int} {f : Fc} (h : hldB n g m f = true) : (typedB n g f = true ∧ f.body.cnt 1 0 ≤ 4096 ∧ f.body.shp n g m f.slots.len = true) ∧ (f.out = -1 ∨ (0 ≤ f.out ∧ f.out < f.slots.len)) ∧ f.slots.len ≤ 250 ∧ 1 + f.caps.len ≤ f.slots.len := by
  unfold hldB at h
  simp only [Bool.and_eq_true, decide_eq_true_eq, Bool.or_eq_true, beq_iff_eq] at h
  refine ⟨⟨h.1.1.1, h.1.1.2, h.1.2⟩, ?_, ?_, ?_⟩
  · rcases h.2 with h2 | h2
    · exact Or.inl h2
    · refine Or.inr ?_
      unfold slotsB wthB at h2
      simp only [List.all_cons, List.all_nil, Bool.and_true, Bool.and_eq_true, decide_eq_true_eq] at h2
      exact h2
  · have h1 := h.1.1.1
    unfold typedB typ1 at h1
    simp only [Bool.and_eq_true, decide_eq_true_eq] at h1
    exact h1.1.1.1.1.2
  · have h1 := h.1.1.1
    unfold typedB typ1 at h1
    simp only [Bool.and_eq_true, decide_eq_true_eq] at h1
    exact h1.1.1.1.2
set_option maxRecDepth 100000 in
set_option maxHeartbeats 8000000 in
theorem Check_any (n : Strs) (g : Grid) (l : Fl) (w : World) (hn : n.At w) (hg : g.At w) (hl : l.At w) (hcl : ∀ i, i < l.len → (l.ps i).caps.len ≤ 1000000)
    (hlist : shdB n g l = true → ∀ i, i < l.len → ∀ s u, Below w.heap.size w u → ListC ((jdg n g l i).list (l.ps i).body s) (jdg n g l i) (l.ps i).body s u) :
    Calls Tryz.prog 7 #[.agg #[.slice n.ao n.len n.cap, .slice g.ao g.len g.cap], .slice l.ao l.len l.cap] w fun e w' => ∃ a b : Int, e = .returned (.tuple #[.int .i64 a, .int .i64 b]) ∧ ChkR n g l a b ∧ Below w.heap.size w w' := by
  have B0 := below_alloc w (.cells #[.slice n.ao n.len n.cap, .slice g.ao g.len g.cap] 25)
  have HI := hid (show Below w.heap.size w (w.alloc (.cells #[.slice n.ao n.len n.cap, .slice g.ao g.len g.cap] 25)) ∧ Blk (w.alloc (.cells #[.slice n.ao n.len n.cap, .slice g.ao g.len g.cap] 25)) w.heap.size [.slice n.ao n.len n.cap, .slice g.ao g.len g.cap] 25 from ⟨B0, Blk.new w _ _⟩)
  have HH := hid (show n.At w ∧ g.At w ∧ l.At w ∧ (∀ i, i < l.len → (l.ps i).caps.len ≤ 1000000) ∧ (shdB n g l = true → ∀ i, i < l.len → ∀ s u, Below w.heap.size w u → ListC ((jdg n g l i).list (l.ps i).body s) (jdg n g l i) (l.ps i).body s u) from ⟨hn, hg, hl, hcl, hlist⟩)
  have hnil : 0 < l.len → l.ao = some ⟨l.b, l.o, none⟩ := hl.nil
  have hbd : l.len ≤ 9223372036854775807 := hl.bound
  clear hn hg hl hcl hlist B0
  go_enter Tryz.func7, Tryz.ntmps7
  go_upto_region 1 with fail
  generalize (w.alloc (.cells #[.slice n.ao n.len n.cap, .slice g.ao g.len g.cap] 25)) = w1 at *
  have e0 := HI.out.2.cell 0 rfl
  have e1 := HI.out.2.cell 1 rfl
  have hS := Shaped_any n g l w1 (HH.out.1.kept HI.out.1) (HH.out.2.1.kept HI.out.1) (HH.out.2.2.1.kept HI.out.1) HH.out.2.2.2.1
  go_wp2_with fail
  refine Calls.mono hS ?_
  rintro _ w2 ⟨rfl, hb2⟩
  have HI2 := hid (show Below w.heap.size w w2 ∧ Blk w2 w.heap.size [.slice n.ao n.len n.cap, .slice g.ao g.len g.cap] 25 from ⟨Below.next HI.out.1 hb2, HI.out.2.kept hb2⟩)
  clear hS e0 e1 hb2 HI
  cases hs : shdB n g l
  · have HS := hid hs
    clear hs
    go_wp2
    exact bodyPost_ret (v := .tuple #[.int .i64 (-1), .int .i64 9]) (by simp [results, Tryz.results7, go_sem]) rfl ⟨-1, 9, rfl, Or.inl ⟨HS.out, rfl, rfl⟩, HI2.out.1⟩
  have HS := hid hs
  clear hs
  generalize hlen : l.len = len at *
  have HL : Hid (l.len = len) := hlen
  clear hlen
  generalize hao : l.ao = ao at *
  have HAO : Hid (l.ao = ao) := hao
  clear hao
  generalize hcap : l.cap = cap at *
  have HCP : Hid (l.cap = cap) := hcap
  clear hcap
  go_wp2
  go_loopw [14] (fun i wr => ∃ (k : Nat), k ≤ len ∧ i = .int .i64 k ∧ (∀ i, i < k → (jdg n g l i).right = true) ∧ Below w.heap.size w wr ∧ Blk wr w.heap.size [.slice n.ao n.len n.cap, .slice g.ao g.len g.cap] 25) (fun i _ => len - (intOf i).toNat)
  case atStart => exact ⟨0, Nat.zero_le _, rfl, fun i hi => absurd hi (Nat.not_lt_zero _), HI2.out⟩
  case round =>
    clear HI2
    obtain ⟨k, hk, rfl, hall, hB⟩ := hrel
    have HA := hid hall
    have HI := hid hB
    clear hall hB
    by_cases hlt : k < len
    · have ij : (k : Int) < len := by omega
      have a0 := hnil (by omega)
      subst a0
      have hlt' : k < l.len := by rw [HL.out]; exact hlt
      have rN : wr.rangeAt l.b (l.o + k * 16) (l.ps k).vs := (HH.out.2.2.1.kept HI.out.1).cells k hlt'
      have hld := hld_parts (shd_fn HS.out hlt')
      have HR := hid (show ∀ u, Below w.heap.size w u → Calls Tryz.prog 23 #[.agg (jdg n g l k).vs.toArray] u fun e w' => e = .returned (.bool (jdg n g l k).right) ∧ Below u.heap.size u w' from fun u hu => right_any (jdg n g l k) u ⟨HH.out.1.kept hu, HH.out.2.1.kept hu, HH.out.2.2.1.kept hu, (HH.out.2.2.1.part k hlt').kept hu⟩ hld.2.1 hld.2.2.1 hld.2.2.2 (fun s u' hu' => HH.out.2.2.2.2 HS.out k hlt s u' (Below.next hu hu')))
      have hbJ := run_build_jd n g (botI n g) l (l.ps k)
      rw [HAO.out, HL.out, HCP.out] at hbJ
      have HAs : Hid (∀ x, x = (jdg n g l k).right → (x = true → ∀ i, i < k + 1 → (jdg n g l i).right = true) ∧ (x = false → ChkR n g l k 11)) := by
        intro x hx
        refine ⟨fun h1 i hi => ?_, fun h1 => ?_⟩
        · rcases Nat.lt_or_ge i k with h2 | h2
          · exact HA.out i h2
          · have : i = k := by omega
            subst this; rw [← hx]; exact h1
        · exact Or.inr (Or.inl ⟨HS.out, k, hlt', HA.out, by rw [← hx]; exact h1, rfl, rfl⟩)
      clear hlt' hld
      have HJ : Hid ((⟨n, g, botI n g, l, l.ps k⟩ : Jd) = jdg n g l k) := by show _ = _; rfl
      rw [HJ.out] at hbJ
      clear HJ
      generalize jdg n g l k = jj at *
      generalize l.ps k = f at *
      have bZ1 : Blk (wr.alloc (.cells #[.int .i64 0, .int .i64 0, .slice none 0 0, .int .i64 0, .int .i64 0, .int .i64 0, .int .i64 0, .slice none 0 0, .int .i64 0, .int .i64 0, .slice none 0 0, .int .i64 0, .int .i64 0, .slice none 0 0, .slice none 0 0, .int .i64 0] 41)) wr.heap.size zFv 41 := Blk.new wr _ _
      have hb1 := below_alloc wr (.cells #[.int .i64 0, .int .i64 0, .slice none 0 0, .int .i64 0, .int .i64 0, .int .i64 0, .int .i64 0, .slice none 0 0, .int .i64 0, .int .i64 0, .slice none 0 0, .int .i64 0, .int .i64 0, .slice none 0 0, .slice none 0 0, .int .i64 0] 41)
      go_upto_region 6 with (first | (refine wpList_load_mid rfl 41 (.tmp 17) rfl l.b (l.o + k * 16) (by kernel_rfl) f.vs _ rN Tryz.underlying41 rfl (by kernel_rfl) ?_) | (refine wpList_store_blk rfl rfl 41 (.tmp 7) (.tmp 18) rfl wr.heap.size f.vs (by kernel_rfl) (by kernel_rfl) f.va_one bZ1 rfl (by kernel_rfl) ?_; intro w3 W3))
      have HB := hid (show Below w.heap.size w w3 ∧ Blk w3 w.heap.size [.slice n.ao n.len n.cap, .slice g.ao g.len g.cap] 25 ∧ Blk w3 wr.heap.size f.vs 41 from ⟨Below.next HI.out.1 (W3.below (Nat.le_refl _) hb1), W3.keep (HI.out.2.kept hb1) (by have := HI.out.2.lt; omega), W3.blk⟩)
      clear rN bZ1 hb1 W3 HI
      generalize wr.heap.size = BN at *
      have hCF : ∀ q, (∃ x : Gr w3, q = x.w) → q.rangeAt BN 0 f.vs := by rintro _ ⟨x, rfl⟩; exact (HB.out.2.2.kept x.bl).range
      have p0 : ∀ x : Gr w3, x.w.cell? ⟨w.heap.size, 0, none⟩ = some (.slice n.ao n.len n.cap) := fun x => (HB.out.2.1.kept x.bl).cell 0 rfl
      have p1 : ∀ x : Gr w3, x.w.cell? ⟨w.heap.size, 1, none⟩ = some (.slice g.ao g.len g.cap) := fun x => (HB.out.2.1.kept x.bl).cell 1 rfl
      have HBt : ∀ x : Gr w3, Calls Tryz.prog 22 #[.agg #[.slice n.ao n.len n.cap, .slice g.ao g.len g.cap]] x.w fun e w' => e = .returned (.int .i64 (botI n g)) ∧ Below x.w.heap.size x.w w' := fun x => Bottom_any n g x.w ((HH.out.1.kept HB.out.1).kept x.bl) ((HH.out.2.1.kept HB.out.1).kept x.bl)
      have hNE : Nonempty (Gr w3) := ⟨⟨_, Below.refl _ _⟩⟩
      refine wp_region_gr_tail 5 (by kernel_rfl) (by kernel_rfl) ?_
      simp only [List.take, List.drop]
      iterate 2 go_big_quiet_step (fail)
      go_big_quiet_step ((go_at_call 22; exact Calls.gr _ (HBt _)))
      go_big_quiet_step (fail)
      go_big_quiet_want
      refine quiet_load_row 41 (.tmp 7) rfl _ 0 (by kernel_rfl) f.vs _ hCF Tryz.underlying41 rfl (by kernel_rfl) ?_
      simp only [Act.put, List.setIfInBounds_toArray, List.set_cons_succ, List.set_cons_zero]
      go_big_quiet_on
      refine wpQuiet_nil ?_
      rintro w4 ⟨x4, rfl⟩
      have B5 := x4.bl
      generalize x4.w = w4 at B5 ⊢
      have HB4 := hid (show Below w.heap.size w w4 ∧ Blk w4 w.heap.size [.slice n.ao n.len n.cap, .slice g.ao g.len g.cap] 25 from ⟨Below.next HB.out.1 B5, HB.out.2.1.kept B5⟩)
      have hR := HR.out w4 HB4.out.1
      clear x4 B5 p0 p1 HBt hNE hCF HB HR
      generalize botI n g = bt at *
      go_wp2_with (refine wpList_buildI rfl 61 #[(0, .tmp 19), (1, .tmp 21), (2, .tmp 22), (3, .tmp 23)] rfl _ (by kernel_rfl) (hbJ _) ?_)
      refine Calls.mono hR ?_
      rintro _ w5 ⟨rfl, hb5⟩
      have HI := hid (show Below w.heap.size w w5 ∧ Blk w5 w.heap.size [.slice n.ao n.len n.cap, .slice g.ao g.len g.cap] 25 from ⟨Below.next HB4.out.1 hb5, HB4.out.2.kept hb5⟩)
      have hAs := HAs.out _ rfl
      have HAS := hid hAs
      clear hAs HAs hR hb5 HB4 hbJ
      generalize jj.right = xx at *
      cases xx
      · go_wp2
        exact bodyPost_ret (v := .tuple #[.int .i64 (k), .int .i64 11]) (by simp [results, Tryz.results7, go_sem]) rfl ⟨k, 11, rfl, HAS.out.2 (by simp), HI.out.1⟩
      · go_wp2
        go_roundw
        case rel => exact ⟨k + 1, by omega, by go_num, HAS.out.1 (by simp), HI.out.1, HI.out.2⟩
        case measure => simp [intOf]; omega
    · have e2 : k = len := by omega
      subst e2
      have d : ¬ (k : Int) < k := by omega
      go_wp2
      exact bodyPost_ret (v := .tuple #[.int .i64 (0), .int .i64 0]) (by simp [results, Tryz.results7, go_sem]) rfl ⟨0, 0, rfl, Or.inr (Or.inr ⟨HS.out, fun i hi => HA.out i (by rw [HL.out] at hi; exact hi), rfl, rfl⟩), HI.out.1⟩
end Go.Proofs.YtbdhbgilaeldgaaGreat

/- Layer 10: bodies of the Ops 1, 3, 4 and 15 alone. -/
namespace Go.Proofs.YtbdhbgilaeldgaaGreat
open Go Go.RowKit

theorem run_mk {w : World} {j : Jd} : ∀ {nd : Nd} (_ : nd.At w) (s : Sta), ¬ (nd.h.op = 14 ∨ nd.h.op = 15 ∨ nd.h.op = 16 ∨ nd.h.op = 17 ∨ nd.h.op = 18) → nd.run j s = if j.pre nd s = false then none else j.make nd s
  | .dm, h, _, _ => h.elim
  | .mk h _ _ _ _ _ _ _ _ _ _ _ _, _, s, ho => by
    simp only [not_or] at ho
    unfold Nd.run
    have h1 : ¬ h.op = 14 := ho.1
    have h2 : ¬ h.op = 15 := ho.2.1
    have h3 : ¬ h.op = 16 := ho.2.2.1
    have h4 : ¬ h.op = 17 := ho.2.2.2.1
    have h5 : ¬ h.op = 18 := ho.2.2.2.2
    simp only [if_neg h1, if_neg h2, if_neg h3, if_neg h4, if_neg h5]
theorem run_15 {w : World} {j : Jd} : ∀ {nd : Nd} (_ : nd.At w) (s : Sta), nd.h.op = 15 → nd.run j s = if j.pre nd s = false then none else (if j.tells nd = true then some s else none)
  | .dm, h, _, _ => h.elim
  | .mk h _ _ _ _ _ _ _ _ _ _ _ _, _, s, ho => by
    unfold Nd.run
    have h1 : ¬ h.op = 14 := by have : h.op = 15 := ho; omega
    have h2 : h.op = 15 := ho
    simp only [if_neg h1, if_pos h2]
theorem slotsB_mem {m : Nat} {l : List Int} (h : slotsB m l = true) {x : Int} (hx : x ∈ l) : 0 ≤ x ∧ x < m := by
  unfold slotsB at h
  rw [List.all_eq_true] at h
  have := h x hx
  unfold wthB at this
  simpa using this
theorem shp_parts {w : World} {n : Strs} {g : Grid} {many : Int} {m : Nat} {nd : Nd} (hA : nd.At w) (h : nd.shp n g many m = true) : slotsB m nd.h.rds = true ∧ (nd.h.wrs = true → 0 ≤ nd.h.dst ∧ nd.h.dst < m) := by
  rw [Nd.shp_eq hA] at h
  unfold shpB at h
  simp only [Bool.and_eq_true, Bool.or_eq_true] at h
  refine ⟨h.1.1.2, fun hw => ?_⟩
  rcases h.1.2 with h1 | h1
  · rw [hw] at h1; cases h1
  · exact slotsB_mem h1 (by simp)
theorem plain_ret (D : Nat) (j : Jd) (k : Int) (w : World) : Calls Tryz.prog 120 #[.agg j.vs.toArray, .int .i64 k] w (TyRet D (leafT k j.bot) w) :=
  Calls.mono (jplain_any j k w) fun _ _ h => ⟨leafT k j.bot, h.1, leaf_at _ _ _, leaf_blk _ _ _, same_refl _, h.2⟩
/-- node at these Ops. -/
theorem node_str (j : Jd) (nd : Nd) (s : Sta) (w : World) (hj : j.At w) (hn : nd.At w) (hs : j.f.slots.len ≤ 250) (n : Strs) (g : Grid) (many : Int) (hsh : nd.shp n g many j.f.slots.len = true) (hop : nd.h.op = 1 ∨ nd.h.op = 3 ∨ nd.h.op = 4) : NodeC (j.make nd s) j nd s w := by
  obtain ⟨h1, h2⟩ := shp_parts hn hsh
  have hw : nd.h.wrs = true := by
    unfold Hd.wrs
    rcases hop with h | h | h <;> rw [h] <;> rfl
  have hd := h2 hw
  refine node_make 0 j nd s w hj hn (by omega) hd.1 hd.2 hs (by omega) ?_ fun u hu => ?_
  · unfold Jd.makes
    rcases hop with h | h | h
    · rw [if_pos h]; exact leaf_nd _ _
    · rw [if_neg (by omega), if_neg (by omega), if_pos h]
      have ha := slotsB_mem h1 (x := nd.h.a) (by rw [rds1 (Or.inl h)]; simp)
      exact raise_nd (hj.f.slots.part (i := nd.h.a.toNat) (by omega)).nd
    · rw [if_neg (by omega), if_neg (by omega), if_neg (by omega), if_pos h]
      unfold Jd.reck
      split <;> exact leaf_nd _ _
  · rcases hop with h | h | h
    · exact makes_op1 0 j nd u (hj.kept hu) (by omega) h (leafT 1 j.bot) (by unfold Jd.makes; rw [if_pos h]) (fun u' _ => plain_ret 0 j 1 u')
    · have ha := slotsB_mem h1 (x := nd.h.a) (by rw [rds1 (Or.inl h)]; simp)
      exact makes_op3 0 j nd u (hj.kept hu) (by omega) h (j.read nd nd.h.a) (by unfold Jd.makes; rw [if_neg (by omega), if_neg (by omega), if_pos h]) (fun u' hu' => read_any 0 j nd nd.h.a u' ((hj.kept hu).kept hu') (by omega) ha.1 ha.2)
    · have ha := slotsB_mem h1 (x := nd.h.a) (by rw [rds2 (Or.inl h)]; simp)
      have hb := slotsB_mem h1 (x := nd.h.b) (by rw [rds2 (Or.inl h)]; simp)
      exact makes_op4 0 j nd u (hj.kept hu) (by omega) h (j.reck nd).1 (j.reck nd).2 (by unfold Jd.makes; rw [if_neg (by omega), if_neg (by omega), if_neg (by omega), if_pos h]) (fun u' hu' => reck_any 0 j nd u' ((hj.kept hu).kept hu') (by omega) ha.1 ha.2 hb.1 hb.2)
theorem list_str (j : Jd) (w : World) (hj : j.At w) (hs : j.f.slots.len ≤ 250) (n : Strs) (g : Grid) (many : Int) (hsh : j.f.body.shp n g many j.f.slots.len = true) (hop : ∀ i, i < j.f.body.len → (j.f.body.ps i).h.op = 1 ∨ (j.f.body.ps i).h.op = 3 ∨ (j.f.body.ps i).h.op = 4 ∨ (j.f.body.ps i).h.op = 15) (s : Sta) (u : World) (hu : Below w.heap.size w u) :
    ListC (j.list j.f.body s) j j.f.body s u := by
  have hsh' : ∀ i, i < j.f.body.len → (j.f.body.ps i).shp n g many j.f.slots.len = true := by
    unfold Ns.shp at hsh; exact of_decide_eq_true hsh
  have hb : j.f.body.At w := hj.f.body
  refine list_any j j.f.body s u (hj.kept hu) (hb.kept hu) (fun i hi x hx => ?_) (fun i s => if (j.f.body.ps i).h.op = 15 then (if j.tells (j.f.body.ps i) = true then some s else none) else j.make (j.f.body.ps i) s) (fun i hi s => ?_) (fun i hi s q hq => ?_)
  · have := slotsB_mem (shp_parts (hb.part i hi) (hsh' i hi)).1 hx
    omega
  · by_cases h : (j.f.body.ps i).h.op = 15
    · rw [run_15 (hb.part i hi) s h, if_pos h]
    · rw [run_mk (hb.part i hi) s (by have := hop i hi; omega), if_neg h]
  · have hA := ((hb.part i hi).kept hu).kept hq
    by_cases h : (j.f.body.ps i).h.op = 15
    · have ha := slotsB_mem (shp_parts (hb.part i hi) (hsh' i hi)).1 (x := (j.f.body.ps i).h.a) (by rw [rds1 (by omega)]; simp)
      exact node_op15 j (j.f.body.ps i) s q ((hj.kept hu).kept hq) hA h (j.tells (j.f.body.ps i)) _ (by rw [if_pos h]) (fun q' hq' => tells_any j (j.f.body.ps i) q' (((hj.kept hu).kept hq).kept hq') ha.1 ha.2)
    · show NodeC (if (j.f.body.ps i).h.op = 15 then _ else _) _ _ _ _
      rw [if_neg h]
      exact node_str j (j.f.body.ps i) s q ((hj.kept hu).kept hq) hA hs n g many (hsh' i hi) (by have := hop i hi; omega)
/-- Check, of functions whose bodies have these Ops alone. -/
theorem Check_str (n : Strs) (g : Grid) (l : Fl) (w : World) (hn : n.At w) (hg : g.At w) (hl : l.At w) (hcl : ∀ i, i < l.len → (l.ps i).caps.len ≤ 1000000) (hop : ∀ k, k < l.len → ∀ i, i < (l.ps k).body.len → ((l.ps k).body.ps i).h.op = 1 ∨ ((l.ps k).body.ps i).h.op = 3 ∨ ((l.ps k).body.ps i).h.op = 4 ∨ ((l.ps k).body.ps i).h.op = 15) :
    Calls Tryz.prog 7 #[.agg #[.slice n.ao n.len n.cap, .slice g.ao g.len g.cap], .slice l.ao l.len l.cap] w fun e w' => ∃ a b : Int, e = .returned (.tuple #[.int .i64 a, .int .i64 b]) ∧ ChkR n g l a b ∧ Below w.heap.size w w' := by
  refine Check_any n g l w hn hg hl hcl fun hs i hi s u hu => ?_
  have hp := hld_parts (shd_fn hs hi)
  exact list_str (jdg n g l i) w ⟨hn, hg, hl, hl.part i hi⟩ hp.2.2.1 n g l.len hp.1.2.2 (hop i hi) s u hu
end Go.Proofs.YtbdhbgilaeldgaaGreat

/- Layer 10: formed lattices and leaves; the statements' own lattice. -/
namespace Go.Proofs.YtbdhbgilaeldgaaGreat
open Go Go.RowKit

set_option maxHeartbeats 2000000 in
theorem two10_any (w : World) : Calls Tryz.prog 18 #[] w fun e w' => ∃ (n : Strs) (g : Grid), e = .returned (.agg #[.slice n.ao n.len n.cap, .slice g.ao g.len g.cap]) ∧ Lt2 n g w' ∧ Below w.heap.size w w' := by
  have B0 := below_alloc w (.cells #[.slice none 0 0, .slice none 0 0] 25)
  have hm := two_make (w.alloc (.cells #[.slice none 0 0, .slice none 0 0] 25))
  rw [alloc_size] at hm
  have r0 : (w.alloc (.cells #[.slice none 0 0, .slice none 0 0] 25)).cell? ⟨w.heap.size, 0, none⟩ = some (.slice none 0 0) := by simp
  have r1 : (w.alloc (.cells #[.slice none 0 0, .slice none 0 0] 25)).cell? ⟨w.heap.size, 1, none⟩ = some (.slice none 0 0) := by simp
  have f0 : (w.alloc (.cells #[.slice none 0 0, .slice none 0 0] 25)).frozen? ⟨w.heap.size, 0, none⟩ = false := by simp
  have f1 : (w.alloc (.cells #[.slice none 0 0, .slice none 0 0] 25)).frozen? ⟨w.heap.size, 1, none⟩ = false := by simp
  go_enter Tryz.func18, Tryz.ntmps18
  go_wp2_with fail
  refine hm.mono ?_
  rintro e w1 ⟨n, g, rfl, hL, hb1⟩
  have hb1' : Below (w.alloc (.cells #[.slice none 0 0, .slice none 0 0] 25)).heap.size (w.alloc (.cells #[.slice none 0 0, .slice none 0 0] 25)) w1 := by rw [alloc_size]; exact hb1
  have X := Bl.new w1 n g
  have BX := below_alloc w1 (.cells #[.slice n.ao n.len n.cap, .slice g.ao g.len g.cap] 25)
  have B2 := Below.next hb1' BX
  have c0 := up B2 r0
  have c1 := up B2 r1
  have g0 := (B2.frozen (p := ⟨w.heap.size, 0, none⟩) (by rw [alloc_size]; exact Nat.lt_succ_self _)).trans f0
  have g1 := (B2.frozen (p := ⟨w.heap.size, 1, none⟩) (by rw [alloc_size]; exact Nat.lt_succ_self _)).trans f1
  have hn2 := hL.nat.kept BX
  have hg2 := hL.gat.kept BX
  have HL : Hid (Lt2 n g w1) := hL
  have B3 := Below.next B0 B2
  clear hL hm r0 r1 f0 f1 hb1 hb1' X B2
  go_wp2
  have c1' : ((w1.alloc (.cells #[.slice n.ao n.len n.cap, .slice g.ao g.len g.cap] 25)).setCell ⟨w.heap.size, 0, none⟩ (.slice n.ao n.len n.cap)).cell? ⟨w.heap.size, 1, none⟩ = some (.slice none 0 0) := by
    rw [World.cell?_setCell_other _ _ _ _ (by simp)]; exact c1
  refine bodyPost_ret (v := .agg #[.slice n.ao n.len n.cap, .slice g.ao g.len g.cap]) (by simp [results, Tryz.results18, go_sem, c0, c1]) rfl ⟨n, g, rfl, ⟨(hn2.set c0 _).set c1' _, grid_set_nil (grid_set_nil hg2 c0 HL.out.rows _) c1' HL.out.rows _, HL.out.fd, HL.out.two, HL.out.le, HL.out.rows⟩, below_set2 B3 _ _⟩


section
variable {n : Strs} {g : Grid}
theorem inR_nat' {N a : Nat} (h : a < N) : inR N (a : Int) = true := by unfold inR; simp; omega
theorem jn_self (hF : formedB n g = true) {a : Nat} (ha : a < n.len) : Jn g a a = a := jn_eq hF ha ha ⟨ha, lq_refl hF ha, lq_refl hF ha, fun _ _ h _ => h⟩
theorem jn_le (hF : formedB n g = true) {a b : Nat} (ha : a < n.len) (hb : b < n.len) (h : g.B a b = true) : Jn g a b = b := by
  have := jn_leq hF ha hb; rw [h] at this; exact (beq_iff_eq.1 this.symm)
theorem jn_ge (hF : formedB n g = true) {a b : Nat} (ha : a < n.len) (hb : b < n.len) (h : g.B b a = true) : Jn g a b = a := by
  rw [jn_comm hF ha hb]; exact jn_le hF hb ha h
theorem bothI_nat (hF : formedB n g = true) {a b : Nat} (ha : a < n.len) (hb : b < n.len) : bothI n g a b = (Jn g a b : Int) := by
  unfold bothI
  rw [if_neg (by omega), if_neg (by omega)]
  exact joinI_nat hF ha hb
theorem bothI_none (hF : formedB n g = true) {a : Nat} (ha : a < n.len) : bothI n g a (-1) = (a : Int) := by
  unfold bothI
  rw [if_neg (by omega), if_pos rfl, joinI_nat hF ha ha, jn_self hF ha]
theorem bothI_none' (hF : formedB n g = true) {a : Nat} (ha : a < n.len) : bothI n g (-1) a = (a : Int) := by
  unfold bothI
  rw [if_pos rfl, if_neg (by omega), joinI_nat hF ha ha, jn_self hF ha]
theorem bothI_nn : bothI n g (-1) (-1) = -1 := by
  unfold bothI
  rw [if_pos rfl, joinI_none]
theorem leaf_okB' (hF : formedB n g = true) {a : Nat} (ha : a < n.len) : okB n g (leafT 1 a) = true := by
  unfold okB; rw [hF, leaf_ok _ _ (inR_nat' ha)]; rfl
theorem raise_leaf (hF : formedB n g = true) {a b : Nat} (ha : a < n.len) (hb : b < n.len) : raiseT n g (leafT 1 a) b = leafT 1 (Jn g a b : Nat) := by
  unfold raiseT
  rw [leaf_okB' hF ha, inR_nat' hb]
  show leafT 1 (joinI n g a b) = _
  rw [joinI_nat hF ha hb]
theorem bel_leaf (hF : formedB n g = true) {a b : Nat} (ha : a < n.len) (hb : b < n.len) : belB n g (leafT 1 a) (leafT 1 b) = g.B a b := by
  unfold belB
  rw [hF, leaf_ok _ _ (inR_nat' ha), leaf_ok _ _ (inR_nat' hb)]
  show (true && true && (((1 : Int) == 1) && g.B (Int.toNat a) (Int.toNat b) && true)) = g.B a b
  simp
theorem fun_okB (hF : formedB n g = true) {p r h e l : Nat} (hp : p < n.len) (hr : r < n.len) (hh : h < n.len) (he : e < n.len) (hl : l < n.len) : okB n g (mk2 4 l h e (leafT 1 p) (leafT 1 r)) = true := by
  have e1 : (leafT 1 p).fm n.len 2 = true := by unfold leafT; rw [fm_eq, inR_nat' hp]; rfl
  have e2 : (leafT 1 r).fm n.len 2 = true := by unfold leafT; rw [fm_eq, inR_nat' hr]; rfl
  unfold okB Ty.ok mk2
  rw [hF, fm_eq, inR_nat' hl]
  have e3 : bndI n.len 4 h e = true := by unfold bndI; rw [if_pos rfl, inR_nat' hh, inR_nat' he]; simp
  rw [e3]
  have e4 : decide (∀ i, i < 2 → Ty.fm n.len ((fun i => if i = 0 then leafT 1 p else leafT 1 r) i) (1 + 1) = true) = true := by
    rw [decide_eq_true_eq]
    intro i _
    show Ty.fm n.len (if i = 0 then leafT 1 p else leafT 1 r) 2 = true
    split
    · exact e1
    · exact e2
  rw [e4]
  rfl
theorem fun_okB' (hF : formedB n g = true) {p r h l : Nat} (hp : p < n.len) (hr : r < n.len) (hh : h < n.len) (hl : l < n.len) : okB n g (mk2 4 l h (-1) (leafT 1 p) (leafT 1 r)) = true := by
  have e1 : (leafT 1 p).fm n.len 2 = true := by unfold leafT; rw [fm_eq, inR_nat' hp]; rfl
  have e2 : (leafT 1 r).fm n.len 2 = true := by unfold leafT; rw [fm_eq, inR_nat' hr]; rfl
  unfold okB Ty.ok mk2
  rw [hF, fm_eq, inR_nat' hl]
  have e3 : bndI n.len 4 h (-1) = true := by unfold bndI; rw [if_pos rfl, inR_nat' hh]; simp
  rw [e3]
  have e4 : decide (∀ i, i < 2 → Ty.fm n.len ((fun i => if i = 0 then leafT 1 p else leafT 1 r) i) (1 + 1) = true) = true := by
    rw [decide_eq_true_eq]
    intro i _
    show Ty.fm n.len (if i = 0 then leafT 1 p else leafT 1 r) 2 = true
    split
    · exact e1
    · exact e2
  rw [e4]
  rfl
end
end Go.Proofs.YtbdhbgilaeldgaaGreat
