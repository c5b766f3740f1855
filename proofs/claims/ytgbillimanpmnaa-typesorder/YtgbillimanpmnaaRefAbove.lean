/- The walks of the reference's above, below, join, meet. -/
import Derived.Test.YtgbillimanpmnaaAwake
import Derived.Test.YtgbillimanpmnaaPure
namespace Go.Proofs.Ytgbillimanpmnaa
open Go.RowKit

/-- Names and a square table of as many rows. -/
structure SqAt (n : Strs) (g : Grid) (w : World) : Prop where
  nat : n.At w
  gat : g.At w
  pos : 0 < n.len
  le8 : n.len ≤ 8
  len : g.len = n.len
  L : ∀ r, r < n.len → g.L r = n.len
theorem SqAt.kept {n : Strs} {g : Grid} {w w' : World} (h : SqAt n g w) (hb : Below w.heap.size w w') : SqAt n g w' := ⟨h.nat.kept hb, h.gat.kept hb, h.pos, h.le8, h.len, h.L⟩
theorem SqAt.ao {n : Strs} {g : Grid} {w : World} (h : SqAt n g w) : g.ao = some ⟨g.gb, g.go, none⟩ := h.gat.nil (by have := h.len; have := h.pos; omega)
theorem SqAt.row {n : Strs} {g : Grid} {w : World} (h : SqAt n g w) {r : Nat} (hr : r < n.len) : w.cell? ⟨g.gb, g.go + r, none⟩ = some (.slice (some ⟨g.AB r, g.AO r, none⟩) n.len (g.C r)) := by
  have h1 := h.gat.row r (by have := h.len; omega)
  have h2 := h.gat.adr r (by have := h.len; omega) (by rw [h.L r hr]; exact h.pos)
  rw [h1, h2, h.L r hr]
theorem SqAt.cell {n : Strs} {g : Grid} {w : World} (h : SqAt n g w) {r c : Nat} (hr : r < n.len) (hc : c < n.len) : w.cell? ⟨g.AB r, g.AO r + c, none⟩ = some (.bool (g.B r c)) :=
  h.gat.cell r (by have := h.len; omega) c (by rw [h.L r hr]; exact hc)

/-- above, below: of three labels. -/
def abvB (n : Strs) (g : Grid) (a b c : Nat) : Bool := (g.B a c && g.B b c) && decide (∀ d, d < n.len → (g.B a d && g.B b d && !g.B c d) = false)
def blwB (n : Strs) (g : Grid) (a b c : Nat) : Bool := (g.B c a && g.B c b) && decide (∀ d, d < n.len → (g.B d a && g.B d b && !g.B d c) = false)

set_option maxRecDepth 100000 in
set_option maxHeartbeats 2000000 in
theorem above_any (n : Strs) (g : Grid) (w : World) (a b c : Nat) (h : SqAt n g w) (ha : a < n.len) (hb : b < n.len) (hc : c < n.len) :
    Calls Try.prog 72 #[.agg #[.slice n.ao n.len n.cap, .slice g.ao g.len g.cap], .int .i64 a, .int .i64 b, .int .i64 c] w fun e w' => e = .returned (.bool (abvB n g a b c)) ∧ Below w.heap.size w w' := by
  rw [h.ao, h.len]
  have B0 := Box2.start w (.slice n.ao n.len n.cap) (.slice (some ⟨g.gb, g.go, none⟩) n.len g.cap) 25
  have h1 := h.kept B0.bl
  have l8 := h.le8
  have ia : (a : Int) < n.len := by omega
  have ib : (b : Int) < n.len := by omega
  have ic : (c : Int) < n.len := by omega
  have ra := h1.row ha
  have rb := h1.row hb
  have rc := h1.row hc
  have cac := h1.cell ha hc
  have cbc := h1.cell hb hc
  cases v1 : g.B a c
  · rw [v1] at cac
    go_enter Try.func72, Try.ntmps72
    go_wp2
    go_ret
    exact ⟨ret_bool (by simp [abvB, v1]), B0.bl⟩
  cases v2 : g.B b c
  · rw [v1] at cac
    rw [v2] at cbc
    go_enter Try.func72, Try.ntmps72
    go_wp2
    go_ret
    exact ⟨ret_bool (by simp [abvB, v2]), B0.bl⟩
  rw [v1] at cac
  rw [v2] at cbc
  go_enter Try.func72, Try.ntmps72
  go_wp2
  generalize w.alloc (.cells #[.slice n.ao n.len n.cap, .slice (some ⟨g.gb, g.go, none⟩) n.len g.cap] 25) = W0 at *
  have x0 := B0.c0
  have x1 := B0.c1
  clear cac cbc
  go_loop [9] (fun i => ∃ d : Nat, d ≤ n.len ∧ i = .int .i64 d ∧ ∀ x, x < d → (g.B a x && g.B b x && !g.B c x) = false) (fun i => n.len - (intOf i).toNat)
  case atStart => exact ⟨0, Nat.zero_le _, rfl, fun _ h => absurd h (Nat.not_lt_zero _)⟩
  case round =>
    obtain ⟨d, hd, rfl, hdone⟩ := hrel
    have HD : Hid (∀ x, x < d → (g.B a x && g.B b x && !g.B c x) = false) := hdone
    clear hdone
    by_cases hlt : d < n.len
    · have fa := h1.cell ha hlt
      have fb := h1.cell hb hlt
      have fc := h1.cell hc hlt
      have id : (d : Int) < n.len := by omega
      have next : (g.B a d && g.B b d && !g.B c d) = false → ∀ x, x < d + 1 → (g.B a x && g.B b x && !g.B c x) = false := fun hh x hx => by
        rcases Nat.lt_succ_iff_lt_or_eq.1 hx with h | h
        · exact HD.out x h
        · subst h; exact hh
      have HN : Hid ((g.B a d && g.B b d && !g.B c d) = false → ∀ x, x < d + 1 → (g.B a x && g.B b x && !g.B c x) = false) := next
      clear next
      cases u1 : g.B a d
      · rw [u1] at fa
        go_wp2
        go_round
        case rel => exact ⟨d + 1, by omega, by go_num, HN.out (by simp [u1])⟩
        case measure => simp [intOf]; omega
      cases u2 : g.B b d
      · rw [u1] at fa
        rw [u2] at fb
        go_wp2
        go_round
        case rel => exact ⟨d + 1, by omega, by go_num, HN.out (by simp [u2])⟩
        case measure => simp [intOf]; omega
      cases u3 : g.B c d
      · rw [u1] at fa
        rw [u2] at fb
        rw [u3] at fc
        go_wp2
        go_ret
        refine ⟨ret_bool (Eq.symm ?_), B0.bl⟩
        unfold abvB
        rw [Bool.and_eq_false_iff, decide_eq_false_iff_not]
        right
        intro hh
        have := hh d hlt
        simp [u1, u2, u3] at this
      · rw [u1] at fa
        rw [u2] at fb
        rw [u3] at fc
        go_wp2
        go_round
        case rel => exact ⟨d + 1, by omega, by go_num, HN.out (by simp [u3])⟩
        case measure => simp [intOf]; omega
    · have HE : Hid (abvB n g a b c = true) := by
        show abvB n g a b c = true
        unfold abvB
        rw [v1, v2, decide_eq_true (fun x hx => HD.out x (by omega))]; rfl
      go_wp2
      go_ret
      exact ⟨ret_bool HE.out.symm, B0.bl⟩
set_option maxRecDepth 100000 in
set_option maxHeartbeats 2000000 in
theorem below_any (n : Strs) (g : Grid) (w : World) (a b c : Nat) (h : SqAt n g w) (ha : a < n.len) (hb : b < n.len) (hc : c < n.len) :
    Calls Try.prog 73 #[.agg #[.slice n.ao n.len n.cap, .slice g.ao g.len g.cap], .int .i64 a, .int .i64 b, .int .i64 c] w fun e w' => e = .returned (.bool (blwB n g a b c)) ∧ Below w.heap.size w w' := by
  rw [h.ao, h.len]
  have B0 := Box2.start w (.slice n.ao n.len n.cap) (.slice (some ⟨g.gb, g.go, none⟩) n.len g.cap) 25
  have h1 := h.kept B0.bl
  have l8 := h.le8
  have ia : (a : Int) < n.len := by omega
  have ib : (b : Int) < n.len := by omega
  have ic : (c : Int) < n.len := by omega
  have rc := h1.row hc
  have cac := h1.cell hc ha
  have cbc := h1.cell hc hb
  cases v1 : g.B c a
  · rw [v1] at cac
    go_enter Try.func73, Try.ntmps73
    go_wp2
    go_ret
    exact ⟨ret_bool (by simp [blwB, v1]), B0.bl⟩
  cases v2 : g.B c b
  · rw [v1] at cac
    rw [v2] at cbc
    go_enter Try.func73, Try.ntmps73
    go_wp2
    go_ret
    exact ⟨ret_bool (by simp [blwB, v2]), B0.bl⟩
  rw [v1] at cac
  rw [v2] at cbc
  go_enter Try.func73, Try.ntmps73
  go_wp2
  generalize w.alloc (.cells #[.slice n.ao n.len n.cap, .slice (some ⟨g.gb, g.go, none⟩) n.len g.cap] 25) = W0 at *
  have x0 := B0.c0
  have x1 := B0.c1
  clear cac cbc
  go_loop [9] (fun i => ∃ d : Nat, d ≤ n.len ∧ i = .int .i64 d ∧ ∀ x, x < d → (g.B x a && g.B x b && !g.B x c) = false) (fun i => n.len - (intOf i).toNat)
  case atStart => exact ⟨0, Nat.zero_le _, rfl, fun _ h => absurd h (Nat.not_lt_zero _)⟩
  case round =>
    obtain ⟨d, hd, rfl, hdone⟩ := hrel
    have HD : Hid (∀ x, x < d → (g.B x a && g.B x b && !g.B x c) = false) := hdone
    clear hdone
    by_cases hlt : d < n.len
    · have fa := h1.cell hlt ha
      have fb := h1.cell hlt hb
      have fc := h1.cell hlt hc
      have id : (d : Int) < n.len := by omega
      have rd := h1.row hlt
      have next : (g.B d a && g.B d b && !g.B d c) = false → ∀ x, x < d + 1 → (g.B x a && g.B x b && !g.B x c) = false := fun hh x hx => by
        rcases Nat.lt_succ_iff_lt_or_eq.1 hx with h | h
        · exact HD.out x h
        · subst h; exact hh
      have HN : Hid ((g.B d a && g.B d b && !g.B d c) = false → ∀ x, x < d + 1 → (g.B x a && g.B x b && !g.B x c) = false) := next
      clear next
      cases u1 : g.B d a
      · rw [u1] at fa
        go_wp2
        go_round
        case rel => exact ⟨d + 1, by omega, by go_num, HN.out (by simp [u1])⟩
        case measure => simp [intOf]; omega
      cases u2 : g.B d b
      · rw [u1] at fa
        rw [u2] at fb
        go_wp2
        go_round
        case rel => exact ⟨d + 1, by omega, by go_num, HN.out (by simp [u2])⟩
        case measure => simp [intOf]; omega
      cases u3 : g.B d c
      · rw [u1] at fa
        rw [u2] at fb
        rw [u3] at fc
        go_wp2
        go_ret
        refine ⟨ret_bool (Eq.symm ?_), B0.bl⟩
        unfold blwB
        rw [Bool.and_eq_false_iff, decide_eq_false_iff_not]
        right
        intro hh
        have := hh d hlt
        simp [u1, u2, u3] at this
      · rw [u1] at fa
        rw [u2] at fb
        rw [u3] at fc
        go_wp2
        go_round
        case rel => exact ⟨d + 1, by omega, by go_num, HN.out (by simp [u3])⟩
        case measure => simp [intOf]; omega
    · have HE : Hid (blwB n g a b c = true) := by
        show blwB n g a b c = true
        unfold blwB
        rw [v1, v2, decide_eq_true (fun x hx => HD.out x (by omega))]; rfl
      go_wp2
      go_ret
      exact ⟨ret_bool HE.out.symm, B0.bl⟩

/-- The first c from k on with p, or -1. -/
def findI (p : Nat → Bool) : Nat → Nat → Int
  | 0, _ => -1
  | f + 1, k => if p k then k else findI p f (k + 1)
theorem findI_hit {p : Nat → Bool} {N k : Nat} (hk : k < N) (h : p k = true) : findI p (N - k) k = k := by
  obtain ⟨m, hm⟩ : ∃ m, N - k = m + 1 := ⟨N - k - 1, by omega⟩
  rw [hm, findI, if_pos h]
theorem findI_miss {p : Nat → Bool} {N k : Nat} (hk : k < N) (h : p k = false) : findI p (N - k) k = findI p (N - (k + 1)) (k + 1) := by
  obtain ⟨m, hm⟩ : ∃ m, N - k = m + 1 := ⟨N - k - 1, by omega⟩
  rw [hm, findI, if_neg (by rw [h]; simp), show N - (k + 1) = m by omega]
theorem findI_end {p : Nat → Bool} {N k : Nat} (hk : ¬ k < N) : findI p (N - k) k = -1 := by
  rw [show N - k = 0 by omega]; rfl

set_option maxHeartbeats 2000000 in
theorem rjoin_any (n : Strs) (g : Grid) (w : World) (a b : Nat) (h : SqAt n g w) (ha : a < n.len) (hb : b < n.len) :
    Calls Try.prog 52 #[.agg #[.slice n.ao n.len n.cap, .slice g.ao g.len g.cap], .int .i64 a, .int .i64 b] w fun e w' => e = .returned (.int .i64 (findI (abvB n g a b) n.len 0)) ∧ Below w.heap.size w w' := by
  have B0 := Box2.start w (.slice n.ao n.len n.cap) (.slice g.ao g.len g.cap) 25
  have l8 := h.le8
  go_enter Try.func52, Try.ntmps52
  go_wp2
  go_loopw [7] (fun i wr => ∃ c : Nat, c ≤ n.len ∧ i = .int .i64 c ∧ findI (abvB n g a b) n.len 0 = findI (abvB n g a b) (n.len - c) c ∧ Box2 w wr (.slice n.ao n.len n.cap) (.slice g.ao g.len g.cap)) (fun i _ => n.len - (intOf i).toNat)
  case atStart => exact ⟨0, Nat.zero_le _, rfl, rfl, B0⟩
  case round =>
    obtain ⟨c, hc, rfl, hdone, hB⟩ := hrel
    clear B0
    have HD : Hid (findI (abvB n g a b) n.len 0 = findI (abvB n g a b) (n.len - c) c) := hdone
    clear hdone
    have x0 := hB.c0
    have x1 := hB.c1
    by_cases hlt : c < n.len
    · go_wp2_with fail
      refine (above_any n g _ a b c (h.kept hB.bl) ha hb hlt).mono ?_
      rintro e w1 ⟨rfl, hb1⟩
      have B1 := hB.step hb1
      clear hb1 x0 x1
      cases hv : abvB n g a b c
      · go_wp2
        go_roundw
        case rel => exact ⟨c + 1, by omega, by go_num, HD.out.trans (findI_miss hlt hv), B1⟩
        case measure => simp [intOf]; omega
      · go_wp2
        go_ret
        exact ⟨ret_int (HD.out.trans (findI_hit hlt hv)).symm, B1.bl⟩
    · go_wp2
      go_ret
      exact ⟨ret_int (HD.out.trans (findI_end hlt)).symm, hB.bl⟩

set_option maxHeartbeats 2000000 in
theorem rmeet_any (n : Strs) (g : Grid) (w : World) (a b : Nat) (h : SqAt n g w) (ha : a < n.len) (hb : b < n.len) :
    Calls Try.prog 53 #[.agg #[.slice n.ao n.len n.cap, .slice g.ao g.len g.cap], .int .i64 a, .int .i64 b] w fun e w' => e = .returned (.int .i64 (findI (blwB n g a b) n.len 0)) ∧ Below w.heap.size w w' := by
  have B0 := Box2.start w (.slice n.ao n.len n.cap) (.slice g.ao g.len g.cap) 25
  have l8 := h.le8
  go_enter Try.func53, Try.ntmps53
  go_wp2
  go_loopw [7] (fun i wr => ∃ c : Nat, c ≤ n.len ∧ i = .int .i64 c ∧ findI (blwB n g a b) n.len 0 = findI (blwB n g a b) (n.len - c) c ∧ Box2 w wr (.slice n.ao n.len n.cap) (.slice g.ao g.len g.cap)) (fun i _ => n.len - (intOf i).toNat)
  case atStart => exact ⟨0, Nat.zero_le _, rfl, rfl, B0⟩
  case round =>
    obtain ⟨c, hc, rfl, hdone, hB⟩ := hrel
    clear B0
    have HD : Hid (findI (blwB n g a b) n.len 0 = findI (blwB n g a b) (n.len - c) c) := hdone
    clear hdone
    have x0 := hB.c0
    have x1 := hB.c1
    by_cases hlt : c < n.len
    · go_wp2_with fail
      refine (below_any n g _ a b c (h.kept hB.bl) ha hb hlt).mono ?_
      rintro e w1 ⟨rfl, hb1⟩
      have B1 := hB.step hb1
      clear hb1 x0 x1
      cases hv : blwB n g a b c
      · go_wp2
        go_roundw
        case rel => exact ⟨c + 1, by omega, by go_num, HD.out.trans (findI_miss hlt hv), B1⟩
        case measure => simp [intOf]; omega
      · go_wp2
        go_ret
        exact ⟨ret_int (HD.out.trans (findI_hit hlt hv)).symm, B1.bl⟩
    · go_wp2
      go_ret
      exact ⟨ret_int (HD.out.trans (findI_end hlt)).symm, hB.bl⟩

end Go.Proofs.Ytgbillimanpmnaa
