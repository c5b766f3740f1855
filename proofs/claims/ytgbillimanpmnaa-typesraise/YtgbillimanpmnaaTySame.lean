/- Layer 2: Same. -/
import Derived.Test.YtgbillimanpmnaaTyParts
import Derived.Laws.EntriesVeiled
namespace Go.Proofs.Ytgbillimanpmnaa
open Go.RowKit

theorem wk_new (w : World) : Wk (w.alloc (.cells #[.func (.func 38) #[] #[], .func (.func 42) #[] #[], .int .i64 1000, .slice none 0 0, .map none] 64)) w.heap.size 1000 := by
  constructor <;> simp

set_option maxRecDepth 100000 in
set_option maxHeartbeats 4000000 in
theorem everywhere_any (s t : Ty) (w : World) (hs : s.At w) (ht : t.At w) (hL : s.pn ≤ 1000) :
    Calls Try.prog 37 #[.agg #[.int .i64 s.k, .int .i64 s.l, .slice s.ao s.len s.cap, .int .i64 s.h, .int .i64 s.e], .agg #[.int .i64 t.k, .int .i64 t.l, .slice t.ao t.len t.cap, .int .i64 t.h, .int .i64 t.e], .func (.func 38) #[] #[], .func (.func 42) #[] #[]] w fun e w' => e = .returned (.bool (s.same t)) ∧ Below w.heap.size w w' := by
  obtain ⟨X0, Y0, B0⟩ := start_tt w s t
  have hs0 := hs.kept B0
  have ht0 := ht.kept B0
  have K0 := wk_new ((w.alloc (tyO s)).alloc (tyO t))
  have BK := below_alloc ((w.alloc (tyO s)).alloc (tyO t)) (.cells #[.func (.func 38) #[] #[], .func (.func 42) #[] #[], .int .i64 1000, .slice none 0 0, .map none] 64)
  have X1 := X0.kept BK
  have Y1 := Y0.kept BK
  have sz : ((w.alloc (tyO s)).alloc (tyO t)).heap.size = w.heap.size + 2 := by rw [alloc_size, alloc_size]
  have HP := fun u (L : Nat) (hu : Wk u ((w.alloc (tyO s)).alloc (tyO t)).heap.size L) (h1 : s.pn ≤ L) (h2 : L ≤ 1000) (h3 : s.len = t.len) (hv : Below ((w.alloc (tyO s)).alloc (tyO t)).heap.size ((w.alloc (tyO s)).alloc (tyO t)) u) => parts_any _ _ (Nat.le_refl _) s t u L hs0 ht0 h3 h1 h2 hu hv
  rw [sz] at HP K0
  unfold tyO at *
  have HB : Hid (Below w.heap.size w ((w.alloc (.cells #[.int .i64 s.k, .int .i64 s.l, .slice s.ao s.len s.cap, .int .i64 s.h, .int .i64 s.e] 28)).alloc (.cells #[.int .i64 t.k, .int .i64 t.l, .slice t.ao t.len t.cap, .int .i64 t.h, .int .i64 t.e] 28))) := B0
  have HZ : Hid (((w.alloc (.cells #[.int .i64 s.k, .int .i64 s.l, .slice s.ao s.len s.cap, .int .i64 s.h, .int .i64 s.e] 28)).alloc (.cells #[.int .i64 t.k, .int .i64 t.l, .slice t.ao t.len t.cap, .int .i64 t.h, .int .i64 t.e] 28)).heap.size = w.heap.size + 2) := sz
  clear B0 sz
  go_enter Try.func37, Try.ntmps37
  go_wp2
  generalize ((w.alloc (.cells #[.int .i64 s.k, .int .i64 s.l, .slice s.ao s.len s.cap, .int .i64 s.h, .int .i64 s.e] 28)).alloc (.cells #[.int .i64 t.k, .int .i64 t.l, .slice t.ao t.len t.cap, .int .i64 t.h, .int .i64 t.e] 28)) = w0 at *
  generalize w0.alloc (.cells #[.func (.func 38) #[] #[], .func (.func 42) #[] #[], .int .i64 1000, .slice none 0 0, .map none] 64) = w2 at *
  have H1 : ∀ u, Below w0.heap.size w0 u → Calls Try.prog 42 #[.agg #[.int .i64 s.k, .int .i64 s.l, .slice s.ao s.len s.cap, .int .i64 s.h, .int .i64 s.e], .agg #[.int .i64 t.k, .int .i64 t.l, .slice t.ao t.len t.cap, .int .i64 t.h, .int .i64 t.e]] u fun e w' => e = .returned (.bool (hdEq s t)) ∧ Below u.heap.size u w' := fun u hu => same1_any s t u (hs0.kept hu) (ht0.kept hu)
  have x0 := fun q => Gr.cell q X1.c0
  have x1 := fun q => Gr.cell q X1.c1
  have x2 := fun q => Gr.cell q X1.c2
  have x3 := fun q => Gr.cell q X1.c3
  have x4 := fun q => Gr.cell q X1.c4
  have y0 := fun q => Gr.cell q Y1.c0
  have y1 := fun q => Gr.cell q Y1.c1
  have y2 := fun q => Gr.cell q Y1.c2
  have y3 := fun q => Gr.cell q Y1.c3
  have y4 := fun q => Gr.cell q Y1.c4
  have hNE : Nonempty (Gr w2) := ⟨⟨_, Below.refl _ _⟩⟩
  clear X0 Y0 X1 Y1
  cases hq : hdEq s t
  · have HQ : Hid (s.same t = false) := by show s.same t = false; rw [same_eq, hq]; rfl
    rw [hq] at H1
    clear hq HP
    refine wp_region_gr (by kernel_rfl) (by kernel_rfl) ?_
    repeat (first | go_big_quiet_step ((go_at_call 42; exact Calls.gr _ (H1 _ (Below.next BK (Gr.bl _))))))
    refine wpQuiet_nil ?_
    rintro w4 ⟨q4, rfl⟩
    have B4 := q4.bl
    generalize q4.w = w4 at B4 ⊢
    clear q4 x0 x1 x2 x3 x4 y0 y1 y2 y3 y4 hNE H1
    go_wp2
    go_ret
    exact ⟨ret_bool HQ.out.symm, Below.next HB.out (Below.next BK B4)⟩
  · have HQ : Hid (s.same t = decide (∀ i, i < s.len → (s.ps i).same (t.ps i) = true)) := by show s.same t = _; rw [same_eq, hq]; rfl
    have hl := hd_len hq
    rw [hq] at H1
    have hP := fun (w5 : World) (B5 : Below w2.heap.size w2 w5) => HP w5 1000 (K0.kept B5) hL (Nat.le_refl _) hl ((Below.next BK B5).mono (Nat.le_of_eq HZ.out.symm))
    clear hl hq HP K0
    refine wp_region_gr_tail 12 (by kernel_rfl) (by kernel_rfl) ?_
    simp only [List.take, List.drop]
    repeat (first | go_big_quiet_step ((first | (go_at_call 42; exact Calls.gr _ (H1 _ (Below.next BK (Gr.bl _)))) | (go_at_call 38; first | with_reducible exact Calls.gr _ (partsOf_any s _) | with_reducible exact Calls.gr _ (partsOf_any t _)))))
    refine wpQuiet_nil ?_
    rintro w4 ⟨q4, rfl⟩
    have B4 := q4.bl
    generalize q4.w = w4 at B4 ⊢
    clear q4 x0 x1 x2 x3 x4 y0 y1 y2 y3 y4 hNE H1
    have H3 := hP w4 B4
    clear hP
    go_wp2_with fail
    refine H3.mono ?_
    intro e w6 hPP
    obtain ⟨r, rfl, hr, B6, L6, W6, hr6⟩ := hPP
    have HR : Hid (r = decide (∀ i, i < s.len → (s.ps i).same (t.ps i) = true)) := hr
    clear hr hr6 H3
    cases r
    · go_wp2
      go_ret
      exact ⟨ret_bool (HR.out.trans HQ.out.symm), Below.next HB.out B6⟩
    · have k2 := W6.c3
      go_wp2
      go_loopw [10] (fun _ wr => wr = w6) (fun _ _ => 0)
      case atStart => rfl
      case round =>
        subst hrel
        go_wp2
        go_ret
        exact ⟨ret_bool (HR.out.trans HQ.out.symm), Below.next HB.out B6⟩

set_option maxHeartbeats 1000000 in
theorem Same_any2 (s t : Ty) (w : World) (hs : s.At w) (ht : t.At w) (hL : s.pn ≤ 1000) :
    Calls Try.prog 19 #[.agg #[.int .i64 s.k, .int .i64 s.l, .slice s.ao s.len s.cap, .int .i64 s.h, .int .i64 s.e], .agg #[.int .i64 t.k, .int .i64 t.l, .slice t.ao t.len t.cap, .int .i64 t.h, .int .i64 t.e]] w fun e w' => e = .returned (.bool (s.same t)) ∧ Below w.heap.size w w' := by
  obtain ⟨X0, Y0, B0⟩ := start_tt w s t
  have h := everywhere_any s t _ (hs.kept B0) (ht.kept B0) hL
  unfold tyO at *
  go_enter Try.func19, Try.ntmps19
  go_wp2_with fail
  refine h.mono ?_
  rintro e w5 ⟨rfl, hb5⟩
  go_wp2
  go_ret
  exact ⟨rfl, Below.next B0 hb5⟩
end Go.Proofs.Ytgbillimanpmnaa
