/- Layer 4: the walk of the statements' awake. -/
import Derived.Test.YtboehlfdfpiodaaBtRead2
namespace Go.Proofs.Ytboehlfdfpiodaa
open Go.RowKit

theorem wshort0 (n : Nat) (w : World) (hn : n ≤ 65535) :
    Calls Try.prog 10 #[.slice none 0 0, .int .i64 n] w fun e w' => e = .returned (.tuple #[.slice (some ⟨w.heap.size, 0, none⟩) 2 2, .int .i64 0]) ∧ (mkB w.heap.size 2 (beF 2 n)).At w' ∧ Below w.heap.size w w' := by
  refine (wshort_yes ⟨none, 0, 0, 0, 0, fun _ => 0⟩ n w (nil_at w) (by show (0 : Nat) ≤ _; omega) hn).mono ?_
  rintro e w' ⟨rfl, h, hb⟩
  refine ⟨rfl, ?_, hb⟩
  have e : numG ⟨none, 0, 0, 0, 0, fun _ => 0⟩ 2 n = beF 2 n := by
    funext j
    unfold numG
    rw [if_neg (Nat.not_lt_zero _)]
    rfl
  rw [e] at h
  exact h
theorem mkB_cell {w : World} {g n : Nat} {f : Nat → Nat} (h : (mkB g n f).At w) (i : Nat) (hi : i < n) : w.cell? ⟨g, i, none⟩ = some (.int .u8 (f i)) := by
  have := h.cell i hi
  have e : (mkB g n f).o + i = i := Nat.zero_add i
  rw [e] at this
  exact this

set_option maxHeartbeats 2000000 in
theorem awake_any (w : World) : Calls Try.prog 9 #[] w fun e w' => e = .returned (.bool true) ∧ Below w.heap.size w w' := by
  go_enter Try.func9, Try.ntmps9
  go_wp2_with (first
    | (go_at_call 10; refine (wshort0 258 w (by omega)).mono ?_; rintro e w1 ⟨rfl, h1, hb1⟩; have c0 : w1.cell? ⟨w.heap.size, 0, none⟩ = some (.int .u8 1) := mkB_cell h1 0 (by omega); have c1 : w1.cell? ⟨w.heap.size, 1, none⟩ = some (.int .u8 2) := mkB_cell h1 1 (by omega); have H1 : Hid ((mkB w.heap.size 2 (beF 2 258)).At w1) := h1; clear h1)
    | (go_at_call 17; refine (read_any (mkB w.heap.size 2 (beF 2 258)) w1 H1.out (by show (2 : Nat) ≤ _; omega)).mono ?_; rintro e w2 ⟨p, rfl, hR, hp, hb2⟩; have HR : Hid (Rd w2 p w1.heap.size (some (be 2 258))) := hR; clear hR)
    | (go_at_call 18; refine (rshort_any p w1.heap.size _ w2 (by omega) HR.out).mono ?_; rw [show shortV (some (be 2 258)) = 258 by decide]; rintro e w3 ⟨rfl, hR3, hg3⟩; clear hR3))
  go_ret
  have hb12 : Below w.heap.size w w2 := hb1.trans (hb2.mono hb1.size)
  exact ⟨rfl, hb12.grown hg3 hb12.size (fun k hk => by injection hk with hk; have := hb1.size; omega)⟩
end Go.Proofs.Ytboehlfdfpiodaa
