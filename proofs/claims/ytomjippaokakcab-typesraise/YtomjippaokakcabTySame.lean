/- Layer 2: Same. -/
import Derived.Test.YtomjippaokakcabTyParts
import Derived.Laws.EntriesVeiled
namespace Go.Proofs.Ytomjippaokakcab
open Go.RowKit

theorem wk_new (w : World) : Wk (w.alloc (.cells #[.func (.func 41) #[] #[], .int .i64 1000, .slice none 0 0, .map none] 63)) w.heap.size 1000 := by
  constructor <;> simp

set_option maxRecDepth 100000 in
set_option maxHeartbeats 4000000 in
theorem everywhere_any (s t : Ty) (w : World) (hs : s.At w) (ht : t.At w) (hL : s.pn ≤ 1000) :
    Calls Try.prog 37 #[.agg #[.int .i64 s.k, .int .i64 s.l, .slice s.ao s.len s.cap, .int .i64 s.h, .int .i64 s.e], .agg #[.int .i64 t.k, .int .i64 t.l, .slice t.ao t.len t.cap, .int .i64 t.h, .int .i64 t.e], .func (.func 41) #[] #[]] w fun e w' => e = .returned (.bool (s.same t)) ∧ Below w.heap.size w w' := by
  obtain ⟨X0, Y0, B0⟩ := start_tt w s t
  have hs0 := hs.kept B0
  have ht0 := ht.kept B0
  have K0 := wk_new ((w.alloc (tyO s)).alloc (tyO t))
  have BK := below_alloc ((w.alloc (tyO s)).alloc (tyO t)) (.cells #[.func (.func 41) #[] #[], .int .i64 1000, .slice none 0 0, .map none] 63)
  have X1 := X0.kept BK
  have Y1 := Y0.kept BK
  have sz : ((w.alloc (tyO s)).alloc (tyO t)).heap.size = w.heap.size + 2 := by rw [alloc_size, alloc_size]
  have HP := fun u (L : Nat) (hu : Wk u ((w.alloc (tyO s)).alloc (tyO t)).heap.size L) (h1 : s.pn ≤ L) (h2 : L ≤ 1000) (h3 : s.len = t.len) (hv : Below ((w.alloc (tyO s)).alloc (tyO t)).heap.size ((w.alloc (tyO s)).alloc (tyO t)) u) => parts_any _ _ (Nat.le_refl _) s t u L hs0 ht0 h3 h1 h2 hu hv
  rw [sz] at HP K0
  unfold tyO at *
  have HB : Hid (Below w.heap.size w ((w.alloc (.cells #[.int .i64 s.k, .int .i64 s.l, .slice s.ao s.len s.cap, .int .i64 s.h, .int .i64 s.e] 28)).alloc (.cells #[.int .i64 t.k, .int .i64 t.l, .slice t.ao t.len t.cap, .int .i64 t.h, .int .i64 t.e] 28))) := B0
  have HZ : Hid (((w.alloc (.cells #[.int .i64 s.k, .int .i64 s.l, .slice s.ao s.len s.cap, .int .i64 s.h, .int .i64 s.e] 28)).alloc (.cells #[.int .i64 t.k, .int .i64 t.l, .slice t.ao t.len t.cap, .int .i64 t.h, .int .i64 t.e] 28)).heap.size = w.heap.size + 2) := sz
  clear B0 sz
  go_enter Try.func37, Try.ntmps37
  go_wp2_with fail
  refine (same1_any s t _ (hs0.kept BK) (ht0.kept BK)).mono ?_
  rintro e w5 ⟨rfl, hb5⟩
  have B5 := Below.next BK hb5
  have K5 := K0.kept hb5
  have X5 := X1.kept hb5
  have Y5 := Y1.kept hb5
  have x2 := X5.c2
  have y2 := Y5.c2
  clear BK X0 Y0 X1 Y1 hb5 K0
  cases hq : hdEq s t
  · have HQ : Hid (s.same t = false) := by show s.same t = false; rw [same_eq, hq]; rfl
    go_wp2
    go_ret
    exact ⟨ret_bool HQ.out.symm, Below.next HB.out B5⟩
  · have HQ : Hid (s.same t = decide (∀ i, i < s.len → (s.ps i).same (t.ps i) = true)) := by show s.same t = _; rw [same_eq, hq]; rfl
    have hl := hd_len hq
    have hP := HP w5 1000 K5 hL (Nat.le_refl _) hl (B5.mono (Nat.le_of_eq HZ.out.symm))
    clear hl hq
    go_wp2_with fail
    refine hP.mono ?_
    intro e w6 hPP
    obtain ⟨r, rfl, hr, B6, L6, W6, hr6⟩ := hPP
    have HR : Hid (r = decide (∀ i, i < s.len → (s.ps i).same (t.ps i) = true)) := hr
    clear hr hr6 hP HP
    cases r
    · go_wp2
      go_ret
      exact ⟨ret_bool (HR.out.trans HQ.out.symm), Below.next HB.out B6⟩
    · have k2 := W6.c2
      go_wp2
      go_loopw [8] (fun _ wr => wr = w6) (fun _ _ => 0)
      case atStart => rfl
      case round =>
        subst hrel
        go_wp2
        go_ret
        exact ⟨ret_bool (HR.out.trans HQ.out.symm), Below.next HB.out B6⟩

set_option maxHeartbeats 1000000 in
theorem Same_any2 (s t : Ty) (w : World) (hs : s.At w) (ht : t.At w) (hL : s.pn ≤ 1000) :
    Calls Try.prog 19 #[.agg #[.int .i64 s.k, .int .i64 s.l, .slice s.ao s.len s.cap, .int .i64 s.h, .int .i64 s.e], .agg #[.int .i64 t.k, .int .i64 t.l, .slice t.ao t.len t.cap, .int .i64 t.h, .int .i64 t.e]] w fun e w' => e = .returned (.bool (s.same t)) ∧ Below w.heap.size w w' := by
  obtain ⟨X0, Y0, B0⟩ := start_tt w s t
  have h := everywhere_any s t _ (hs.kept B0) (ht.kept B0) hL
  unfold tyO at *
  go_enter Try.func19, Try.ntmps19
  go_wp2_with fail
  refine h.mono ?_
  rintro e w5 ⟨rfl, hb5⟩
  go_wp2
  go_ret
  exact ⟨rfl, Below.next B0 hb5⟩
end Go.Proofs.Ytomjippaokakcab
