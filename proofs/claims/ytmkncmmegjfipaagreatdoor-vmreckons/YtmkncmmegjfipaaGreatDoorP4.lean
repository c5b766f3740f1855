/- The walks of the reference's above, below, join, meet. -/
import Derived.Test.YtmkncmmegjfipaaGreatDoorP2
import Derived.Test.YtmkncmmegjfipaaGreatDoorP3
namespace Go.Proofs.YtmkncmmegjfipaaGreatDoor
open Go.RowKit

/-- Names and a square table of as many rows. -/
structure SqAt (n : Strs) (g : Grid) (w : World) : Prop where
  nat : n.At w
  gat : g.At w
  pos : 0 < n.len
  le8 : n.len ≤ 8
  len : g.len = n.len
  L : ∀ r, r < n.len → g.L r = n.len
theorem SqAt.kept {n : Strs} {g : Grid} {w w' : World} (h : SqAt n g w) (hb : Below w.heap.size w w') : SqAt n g w' := ⟨h.nat.kept hb, h.gat.kept hb, h.pos, h.le8, h.len, h.L⟩
theorem SqAt.ao {n : Strs} {g : Grid} {w : World} (h : SqAt n g w) : g.ao = some ⟨g.gb, g.go, none⟩ := h.gat.nil (by have := h.len; have := h.pos; omega)
theorem SqAt.row {n : Strs} {g : Grid} {w : World} (h : SqAt n g w) {r : Nat} (hr : r < n.len) : w.cell? ⟨g.gb, g.go + r, none⟩ = some (.slice (some ⟨g.AB r, g.AO r, none⟩) n.len (g.C r)) := by
  have h1 := h.gat.row r (by have := h.len; omega)
  have h2 := h.gat.adr r (by have := h.len; omega) (by rw [h.L r hr]; exact h.pos)
  rw [h1, h2, h.L r hr]
theorem SqAt.cell {n : Strs} {g : Grid} {w : World} (h : SqAt n g w) {r c : Nat} (hr : r < n.len) (hc : c < n.len) : w.cell? ⟨g.AB r, g.AO r + c, none⟩ = some (.bool (g.B r c)) :=
  h.gat.cell r (by have := h.len; omega) c (by rw [h.L r hr]; exact hc)

/-- above, below: of three labels. -/
def abvB (n : Strs) (g : Grid) (a b c : Nat) : Bool := (g.B a c && g.B b c) && decide (∀ d, d < n.len → (g.B a d && g.B b d && !g.B c d) = false)
def blwB (n : Strs) (g : Grid) (a b c : Nat) : Bool := (g.B c a && g.B c b) && decide (∀ d, d < n.len → (g.B d a && g.B d b && !g.B d c) = false)

set_option maxRecDepth 100000 in
set_option maxHeartbeats 2000000 in
theorem above_any (n : Strs) (g : Grid) (w : World) (a b c : Nat) (h : SqAt n g w) (ha : a < n.len) (hb : b < n.len) (hc : c < n.len) :
    Calls Tryz.prog 87 #[.agg #[.slice n.ao n.len n.cap, .slice g.ao g.len g.cap], .int .i64 a, .int .i64 b, .int .i64 c] w fun e w' => e = .returned (.bool (abvB n g a b c)) ∧ Below w.heap.size w w' := by
  rw [h.ao, h.len]
  have B0 := Box2.start w (.slice n.ao n.len n.cap) (.slice (some ⟨g.gb, g.go, none⟩) n.len g.cap) 25
  have h1 := h.kept B0.bl
  have l8 := h.le8
  have ia : (a : Int) < n.len := by omega
  have ib : (b : Int) < n.len := by omega
  have ic : (c : Int) < n.len := by omega
  have ra := h1.row ha
  have rb := h1.row hb
  have rc := h1.row hc
  have cac := h1.cell ha hc
  have cbc := h1.cell hb hc
  cases v1 : g.B a c
  · rw [v1] at cac
    go_enter Tryz.func87, Tryz.ntmps87
    go_wp2
    go_ret
    exact ⟨ret_bool (by simp [abvB, v1]), B0.bl⟩
  cases v2 : g.B b c
  · rw [v1] at cac
    rw [v2] at cbc
    go_enter Tryz.func87, Tryz.ntmps87
    go_wp2
    go_ret
    exact ⟨ret_bool (by simp [abvB, v2]), B0.bl⟩
  rw [v1] at cac
  rw [v2] at cbc
  go_enter Tryz.func87, Tryz.ntmps87
  go_wp2
  generalize w.alloc (.cells #[.slice n.ao n.len n.cap, .slice (some ⟨g.gb, g.go, none⟩) n.len g.cap] 25) = W0 at *
  have x0 := B0.c0
  have x1 := B0.c1
  clear cac cbc
  go_loop [9] (fun i => ∃ d : Nat, d ≤ n.len ∧ i = .int .i64 d ∧ ∀ x, x < d → (g.B a x && g.B b x && !g.B c x) = false) (fun i => n.len - (intOf i).toNat)
  case atStart => exact ⟨0, Nat.zero_le _, rfl, fun _ h => absurd h (Nat.not_lt_zero _)⟩
  case round =>
    obtain ⟨d, hd, rfl, hdone⟩ := hrel
    have HD : Hid (∀ x, x < d → (g.B a x && g.B b x && !g.B c x) = false) := hdone
    clear hdone
    by_cases hlt : d < n.len
    · have fa := h1.cell ha hlt
      have fb := h1.cell hb hlt
      have fc := h1.cell hc hlt
      have id : (d : Int) < n.len := by omega
      have next : (g.B a d && g.B b d && !g.B c d) = false → ∀ x, x < d + 1 → (g.B a x && g.B b x && !g.B c x) = false := fun hh x hx => by
        rcases Nat.lt_succ_iff_lt_or_eq.1 hx with h | h
        · exact HD.out x h
        · subst h; exact hh
      have HN : Hid ((g.B a d && g.B b d && !g.B c d) = false → ∀ x, x < d + 1 → (g.B a x && g.B b x && !g.B c x) = false) := next
      clear next
      cases u1 : g.B a d
      · rw [u1] at fa
        go_wp2
        go_round
        case rel => exact ⟨d + 1, by omega, by go_num, HN.out (by simp [u1])⟩
        case measure => simp [intOf]; omega
      cases u2 : g.B b d
      · rw [u1] at fa
        rw [u2] at fb
        go_wp2
        go_round
        case rel => exact ⟨d + 1, by omega, by go_num, HN.out (by simp [u2])⟩
        case measure => simp [intOf]; omega
      cases u3 : g.B c d
      · rw [u1] at fa
        rw [u2] at fb
        rw [u3] at fc
        go_wp2
        go_ret
        refine ⟨ret_bool (Eq.symm ?_), B0.bl⟩
        unfold abvB
        rw [Bool.and_eq_false_iff, decide_eq_false_iff_not]
        right
        intro hh
        have := hh d hlt
        simp [u1, u2, u3] at this
      · rw [u1] at fa
        rw [u2] at fb
        rw [u3] at fc
        go_wp2
        go_round
        case rel => exact ⟨d + 1, by omega, by go_num, HN.out (by simp [u3])⟩
        case measure => simp [intOf]; omega
    · have HE : Hid (abvB n g a b c = true) := by
        show abvB n g a b c = true
        unfold abvB
        rw [v1, v2, decide_eq_true (fun x hx => HD.out x (by omega))]; rfl
      go_wp2
      go_ret
      exact ⟨ret_bool HE.out.symm, B0.bl⟩
set_option maxRecDepth 100000 in
set_option maxHeartbeats 2000000 in
theorem below_any (n : Strs) (g : Grid) (w : World) (a b c : Nat) (h : SqAt n g w) (ha : a < n.len) (hb : b < n.len) (hc : c < n.len) :
    Calls Tryz.prog 88 #[.agg #[.slice n.ao n.len n.cap, .slice g.ao g.len g.cap], .int .i64 a, .int .i64 b, .int .i64 c] w fun e w' => e = .returned (.bool (blwB n g a b c)) ∧ Below w.heap.size w w' := by
  rw [h.ao, h.len]
  have B0 := Box2.start w (.slice n.ao n.len n.cap) (.slice (some ⟨g.gb, g.go, none⟩) n.len g.cap) 25
  have h1 := h.kept B0.bl
  have l8 := h.le8
  have ia : (a : Int) < n.len := by omega
  have ib : (b : Int) < n.len := by omega
  have ic : (c : Int) < n.len := by omega
  have rc := h1.row hc
  have cac := h1.cell hc ha
  have cbc := h1.cell hc hb
  cases v1 : g.B c a
  · rw [v1] at cac
    go_enter Tryz.func88, Tryz.ntmps88
    go_wp2
    go_ret
    exact ⟨ret_bool (by simp [blwB, v1]), B0.bl⟩
  cases v2 : g.B c b
  · rw [v1] at cac
    rw [v2] at cbc
    go_enter Tryz.func88, Tryz.ntmps88
    go_wp2
    go_ret
    exact ⟨ret_bool (by simp [blwB, v2]), B0.bl⟩
  rw [v1] at cac
  rw [v2] at cbc
  go_enter Tryz.func88, Tryz.ntmps88
  go_wp2
  generalize w.alloc (.cells #[.slice n.ao n.len n.cap, .slice (some ⟨g.gb, g.go, none⟩) n.len g.cap] 25) = W0 at *
  have x0 := B0.c0
  have x1 := B0.c1
  clear cac cbc
  go_loop [9] (fun i => ∃ d : Nat, d ≤ n.len ∧ i = .int .i64 d ∧ ∀ x, x < d → (g.B x a && g.B x b && !g.B x c) = false) (fun i => n.len - (intOf i).toNat)
  case atStart => exact ⟨0, Nat.zero_le _, rfl, fun _ h => absurd h (Nat.not_lt_zero _)⟩
  case round =>
    obtain ⟨d, hd, rfl, hdone⟩ := hrel
    have HD : Hid (∀ x, x < d → (g.B x a && g.B x b && !g.B x c) = false) := hdone
    clear hdone
    by_cases hlt : d < n.len
    · have fa := h1.cell hlt ha
      have fb := h1.cell hlt hb
      have fc := h1.cell hlt hc
      have id : (d : Int) < n.len := by omega
      have rd := h1.row hlt
      have next : (g.B d a && g.B d b && !g.B d c) = false → ∀ x, x < d + 1 → (g.B x a && g.B x b && !g.B x c) = false := fun hh x hx => by
        rcases Nat.lt_succ_iff_lt_or_eq.1 hx with h | h
        · exact HD.out x h
        · subst h; exact hh
      have HN : Hid ((g.B d a && g.B d b && !g.B d c) = false → ∀ x, x < d + 1 → (g.B x a && g.B x b && !g.B x c) = false) := next
      clear next
      cases u1 : g.B d a
      · rw [u1] at fa
        go_wp2
        go_round
        case rel => exact ⟨d + 1, by omega, by go_num, HN.out (by simp [u1])⟩
        case measure => simp [intOf]; omega
      cases u2 : g.B d b
      · rw [u1] at fa
        rw [u2] at fb
        go_wp2
        go_round
        case rel => exact ⟨d + 1, by omega, by go_num, HN.out (by simp [u2])⟩
        case measure => simp [intOf]; omega
      cases u3 : g.B d c
      · rw [u1] at fa
        rw [u2] at fb
        rw [u3] at fc
        go_wp2
        go_ret
        refine ⟨ret_bool (Eq.symm ?_), B0.bl⟩
        unfold blwB
        rw [Bool.and_eq_false_iff, decide_eq_false_iff_not]
        right
        intro hh
        have := hh d hlt
        simp [u1, u2, u3] at this
      · rw [u1] at fa
        rw [u2] at fb
        rw [u3] at fc
        go_wp2
        go_round
        case rel => exact ⟨d + 1, by omega, by go_num, HN.out (by simp [u3])⟩
        case measure => simp [intOf]; omega
    · have HE : Hid (blwB n g a b c = true) := by
        show blwB n g a b c = true
        unfold blwB
        rw [v1, v2, decide_eq_true (fun x hx => HD.out x (by omega))]; rfl
      go_wp2
      go_ret
      exact ⟨ret_bool HE.out.symm, B0.bl⟩

/-- The first c from k on with p, or -1. -/
def findI (p : Nat → Bool) : Nat → Nat → Int
  | 0, _ => -1
  | f + 1, k => if p k then k else findI p f (k + 1)
theorem findI_hit {p : Nat → Bool} {N k : Nat} (hk : k < N) (h : p k = true) : findI p (N - k) k = k := by
  obtain ⟨m, hm⟩ : ∃ m, N - k = m + 1 := ⟨N - k - 1, by omega⟩
  rw [hm, findI, if_pos h]
theorem findI_miss {p : Nat → Bool} {N k : Nat} (hk : k < N) (h : p k = false) : findI p (N - k) k = findI p (N - (k + 1)) (k + 1) := by
  obtain ⟨m, hm⟩ : ∃ m, N - k = m + 1 := ⟨N - k - 1, by omega⟩
  rw [hm, findI, if_neg (by rw [h]; simp), show N - (k + 1) = m by omega]
theorem findI_end {p : Nat → Bool} {N k : Nat} (hk : ¬ k < N) : findI p (N - k) k = -1 := by
  rw [show N - k = 0 by omega]; rfl

set_option maxHeartbeats 2000000 in
theorem rjoin_any (n : Strs) (g : Grid) (w : World) (a b : Nat) (h : SqAt n g w) (ha : a < n.len) (hb : b < n.len) :
    Calls Tryz.prog 62 #[.agg #[.slice n.ao n.len n.cap, .slice g.ao g.len g.cap], .int .i64 a, .int .i64 b] w fun e w' => e = .returned (.int .i64 (findI (abvB n g a b) n.len 0)) ∧ Below w.heap.size w w' := by
  have B0 := Box2.start w (.slice n.ao n.len n.cap) (.slice g.ao g.len g.cap) 25
  have l8 := h.le8
  go_enter Tryz.func62, Tryz.ntmps62
  go_wp2
  go_loopw [7] (fun i wr => ∃ c : Nat, c ≤ n.len ∧ i = .int .i64 c ∧ findI (abvB n g a b) n.len 0 = findI (abvB n g a b) (n.len - c) c ∧ Box2 w wr (.slice n.ao n.len n.cap) (.slice g.ao g.len g.cap)) (fun i _ => n.len - (intOf i).toNat)
  case atStart => exact ⟨0, Nat.zero_le _, rfl, rfl, B0⟩
  case round =>
    obtain ⟨c, hc, rfl, hdone, hB⟩ := hrel
    clear B0
    have HD : Hid (findI (abvB n g a b) n.len 0 = findI (abvB n g a b) (n.len - c) c) := hdone
    clear hdone
    have x0 := hB.c0
    have x1 := hB.c1
    by_cases hlt : c < n.len
    · go_wp2_with fail
      refine (above_any n g _ a b c (h.kept hB.bl) ha hb hlt).mono ?_
      rintro e w1 ⟨rfl, hb1⟩
      have B1 := hB.step hb1
      clear hb1 x0 x1
      cases hv : abvB n g a b c
      · go_wp2
        go_roundw
        case rel => exact ⟨c + 1, by omega, by go_num, HD.out.trans (findI_miss hlt hv), B1⟩
        case measure => simp [intOf]; omega
      · go_wp2
        go_ret
        exact ⟨ret_int (HD.out.trans (findI_hit hlt hv)).symm, B1.bl⟩
    · go_wp2
      go_ret
      exact ⟨ret_int (HD.out.trans (findI_end hlt)).symm, hB.bl⟩

set_option maxHeartbeats 2000000 in
theorem rmeet_any (n : Strs) (g : Grid) (w : World) (a b : Nat) (h : SqAt n g w) (ha : a < n.len) (hb : b < n.len) :
    Calls Tryz.prog 63 #[.agg #[.slice n.ao n.len n.cap, .slice g.ao g.len g.cap], .int .i64 a, .int .i64 b] w fun e w' => e = .returned (.int .i64 (findI (blwB n g a b) n.len 0)) ∧ Below w.heap.size w w' := by
  have B0 := Box2.start w (.slice n.ao n.len n.cap) (.slice g.ao g.len g.cap) 25
  have l8 := h.le8
  go_enter Tryz.func63, Tryz.ntmps63
  go_wp2
  go_loopw [7] (fun i wr => ∃ c : Nat, c ≤ n.len ∧ i = .int .i64 c ∧ findI (blwB n g a b) n.len 0 = findI (blwB n g a b) (n.len - c) c ∧ Box2 w wr (.slice n.ao n.len n.cap) (.slice g.ao g.len g.cap)) (fun i _ => n.len - (intOf i).toNat)
  case atStart => exact ⟨0, Nat.zero_le _, rfl, rfl, B0⟩
  case round =>
    obtain ⟨c, hc, rfl, hdone, hB⟩ := hrel
    clear B0
    have HD : Hid (findI (blwB n g a b) n.len 0 = findI (blwB n g a b) (n.len - c) c) := hdone
    clear hdone
    have x0 := hB.c0
    have x1 := hB.c1
    by_cases hlt : c < n.len
    · go_wp2_with fail
      refine (below_any n g _ a b c (h.kept hB.bl) ha hb hlt).mono ?_
      rintro e w1 ⟨rfl, hb1⟩
      have B1 := hB.step hb1
      clear hb1 x0 x1
      cases hv : blwB n g a b c
      · go_wp2
        go_roundw
        case rel => exact ⟨c + 1, by omega, by go_num, HD.out.trans (findI_miss hlt hv), B1⟩
        case measure => simp [intOf]; omega
      · go_wp2
        go_ret
        exact ⟨ret_int (HD.out.trans (findI_hit hlt hv)).symm, B1.bl⟩
    · go_wp2
      go_ret
      exact ⟨ret_int (HD.out.trans (findI_end hlt)).symm, hB.bl⟩

end Go.Proofs.YtmkncmmegjfipaaGreatDoor

/- The walk of the reference's shaped: it tells just what the program's two questions tell. -/
namespace Go.Proofs.YtmkncmmegjfipaaGreatDoor
open Go.RowKit

def shpRow (n : Strs) (g : Grid) (i : Nat) : Bool := (nameB (n.s i) && (g.L i == n.len)) && !holdsB n.s i (n.s i)
theorem shp_no {n : Strs} {g : Grid} {k : Nat} (hk : k < n.len) (hg : g.len = n.len) (h : shpRow n g k = false) : (namesB n && squareB g n.len) = false := by
  cases h1 : (namesB n && squareB g n.len)
  · rfl
  · exfalso
    rw [Bool.and_eq_true] at h1
    have h2 := (squareB_len h1.2).2 k (by omega)
    have h3 := h1.1
    unfold namesB at h3
    rw [Bool.and_eq_true, decide_eq_true_eq, decide_eq_true_eq] at h3
    have h4 := h3.2 k hk
    rw [Bool.and_eq_true] at h4
    unfold shpRow at h
    rw [h4.1, h4.2, h2] at h
    simp at h
theorem shp_yes {n : Strs} {g : Grid} (h0 : 0 < n.len) (h8 : n.len ≤ 8) (hg : g.len = n.len) (h : ∀ k, k < n.len → shpRow n g k = true) : (namesB n && squareB g n.len) = true := by
  rw [Bool.and_eq_true]
  constructor
  · unfold namesB
    rw [Bool.and_eq_true, decide_eq_true_eq, decide_eq_true_eq]
    refine ⟨⟨h0, h8⟩, fun i hi => ?_⟩
    have := h i hi
    unfold shpRow at this
    rw [Bool.and_eq_true, Bool.and_eq_true] at this
    rw [this.1.1, this.2]; rfl
  · unfold squareB
    rw [Bool.and_eq_true, decide_eq_true_eq, beq_iff_eq]
    refine ⟨hg, fun r hr => ?_⟩
    have := h r (by omega)
    unfold shpRow at this
    rw [Bool.and_eq_true, Bool.and_eq_true, beq_iff_eq] at this
    exact this.1.2

theorem holds_no {s : Nat → ByteArray} {k : Nat} (h : ∀ x, x < k → ((s x).toList == (s k).toList) = false) : holdsB s k (s k) = false := by
  unfold holdsB
  rw [decide_eq_false_iff_not]
  rintro ⟨i, hi, h1⟩
  have := h i hi
  rw [beq_eq_false_iff_ne] at this
  exact this (by simpa using (beq_iff_eq.1 h1).symm)
theorem holds_yes {s : Nat → ByteArray} {k x : Nat} (hx : x < k) (h : ((s x).toList == (s k).toList) = true) : holdsB s k (s k) = true := by
  unfold holdsB
  rw [decide_eq_true_eq]
  exact ⟨x, hx, by rw [beq_iff_eq] at h ⊢; exact h.symm⟩

set_option maxRecDepth 100000 in
set_option maxHeartbeats 2000000 in
theorem shaped_any (n : Strs) (g : Grid) (w : World) (hn : n.At w) (hg : g.At w) :
    Calls Tryz.prog 61 #[.agg #[.slice n.ao n.len n.cap, .slice g.ao g.len g.cap]] w fun e w' => e = .returned (.bool (namesB n && squareB g n.len)) ∧ Below w.heap.size w w' := by
  have hnb := hn.bound
  have hgb := hg.bound
  by_cases h0 : n.len < 1
  · have B0 := Box2.start w (.slice n.ao n.len n.cap) (.slice g.ao g.len g.cap) 25
    have HF : Hid ((namesB n && squareB g n.len) = false) := by show (namesB n && squareB g n.len) = false; simp [namesB, show ¬ 0 < n.len by omega]
    go_enter Tryz.func61, Tryz.ntmps61
    go_wp2
    go_ret
    exact ⟨ret_bool HF.out.symm, B0.bl⟩
  by_cases h8 : 8 < n.len
  · have B0 := Box2.start w (.slice n.ao n.len n.cap) (.slice g.ao g.len g.cap) 25
    have HF : Hid ((namesB n && squareB g n.len) = false) := by show (namesB n && squareB g n.len) = false; simp [namesB, show ¬ n.len ≤ 8 by omega]
    go_enter Tryz.func61, Tryz.ntmps61
    go_wp2
    go_ret
    exact ⟨ret_bool HF.out.symm, B0.bl⟩
  by_cases hl : g.len = n.len
  · have bl : ((n.len : Int) != n.len) = false := by simp
    rw [hg.nil (by omega), hn.nil (by omega), hl]
    have B0 := Box2.start w (.slice (some ⟨n.b, n.o, none⟩) n.len n.cap) (.slice (some ⟨g.gb, g.go, none⟩) n.len g.cap) 25
    have HL : Hid (g.len = n.len) := hl
    clear hl
    go_enter Tryz.func61, Tryz.ntmps61
    go_wp2
    go_loopw [4] (fun i wr => ∃ k : Nat, k ≤ n.len ∧ i = .int .i64 k ∧ (∀ x, x < k → shpRow n g x = true) ∧ Box2 w wr (.slice (some ⟨n.b, n.o, none⟩) n.len n.cap) (.slice (some ⟨g.gb, g.go, none⟩) n.len g.cap)) (fun i _ => n.len - (intOf i).toNat)
    case atStart => exact ⟨0, Nat.zero_le _, rfl, fun _ h => absurd h (Nat.not_lt_zero _), B0⟩
    case round =>
      obtain ⟨k, hk, rfl, hdone, hB⟩ := hrel
      clear B0
      have HD : Hid (∀ x, x < k → shpRow n g x = true) := hdone
      clear hdone
      have c0 := hB.c0
      have c1 := hB.c1
      by_cases hlt : k < n.len
      · have r1 := (hn.kept hB.bl).cell k hlt
        have ik : (k : Int) < n.len := by omega
        have HNO : Hid (shpRow n g k = false → (namesB n && squareB g n.len) = false) := fun h => shp_no hlt HL.out h
        go_wp2_with fail
        refine (rname_any (n.s k) _ (hn.sz k hlt)).mono ?_
        rintro e w1 ⟨rfl, rfl⟩
        cases hnm : nameB (n.s k)
        · go_wp2
          go_ret
          exact ⟨ret_bool (HNO.out (by simp [shpRow, hnm])).symm, hB.bl⟩
        · have r2 := (hg.kept hB.bl).row k (by have := HL.out; omega)
          have lb := hg.lbound k (by have := HL.out; omega)
          by_cases hL : g.L k = n.len
          · have bL : ((g.L k : Int) != n.len) = false := by simp [hL]
            have HLk : Hid (g.L k = n.len) := hL
            clear hL
            go_wp2
            clear c0 c1 r1 r2 bL
            go_loopw [5] (fun i wr => ∃ j : Nat, j ≤ k ∧ i = .int .i64 j ∧ (∀ x, x < j → ((n.s x).toList == (n.s k).toList) = false) ∧ Box2 w wr (.slice (some ⟨n.b, n.o, none⟩) n.len n.cap) (.slice (some ⟨g.gb, g.go, none⟩) n.len g.cap)) (fun i _ => k - (intOf i).toNat)
            case atStart => exact ⟨0, Nat.zero_le _, rfl, fun _ h => absurd h (Nat.not_lt_zero _), hB⟩
            case round =>
              obtain ⟨j, hj, rfl, hdone2, hB2⟩ := hrel
              clear hB
              have HD2 : Hid (∀ x, x < j → ((n.s x).toList == (n.s k).toList) = false) := hdone2
              clear hdone2
              by_cases hjk : j < k
              · have ne : Nonempty (Cls w (.slice (some ⟨n.b, n.o, none⟩) n.len n.cap) (.slice (some ⟨g.gb, g.go, none⟩) n.len g.cap)) := ⟨⟨_, hB2⟩⟩
                have d0 := fun x : Cls w (.slice (some ⟨n.b, n.o, none⟩) n.len n.cap) (.slice (some ⟨g.gb, g.go, none⟩) n.len g.cap) => x.box.c0
                have d1 := fun x : Cls w (.slice (some ⟨n.b, n.o, none⟩) n.len n.cap) (.slice (some ⟨g.gb, g.go, none⟩) n.len g.cap) => x.box.c1
                have d2 := fun x : Cls w (.slice (some ⟨n.b, n.o, none⟩) n.len n.cap) (.slice (some ⟨g.gb, g.go, none⟩) n.len g.cap) => (hn.kept x.box.bl).cell j (by omega)
                have d3 := fun x : Cls w (.slice (some ⟨n.b, n.o, none⟩) n.len n.cap) (.slice (some ⟨g.gb, g.go, none⟩) n.len g.cap) => (hn.kept x.box.bl).cell k hlt
                have ij : (j : Int) < n.len := by omega
                cases hv : ((n.s j).toList == (n.s k).toList)
                · go_wp2
                  refine wp_region_cls hB2 (by kernel_rfl) (by kernel_rfl) ?_
                  repeat (first | go_big_quiet_step (fail))
                  refine wpQuiet_nil ?_
                  rintro w4 ⟨x4, rfl⟩
                  have B4 := x4.box
                  generalize x4.w = w4 at B4 ⊢
                  clear x4 d0 d1 d2 d3
                  go_wp2
                  go_roundw
                  case rel =>
                    refine ⟨j + 1, by omega, by go_num, fun x hx => ?_, B4⟩
                    rcases Nat.lt_succ_iff_lt_or_eq.1 hx with h | h
                    · exact HD2.out x h
                    · subst h; exact hv
                  case measure => simp [intOf]; omega
                · have HY := holds_yes hjk hv
                  have HH : Hid (shpRow n g k = false) := by show shpRow n g k = false; simp [shpRow, HY]
                  clear HY
                  go_wp2
                  refine wp_region_cls hB2 (by kernel_rfl) (by kernel_rfl) ?_
                  repeat (first | go_big_quiet_step (fail))
                  refine wpQuiet_nil ?_
                  rintro w4 ⟨x4, rfl⟩
                  have B4 := x4.box
                  generalize x4.w = w4 at B4 ⊢
                  clear x4 d0 d1 d2 d3
                  go_wp2
                  go_ret
                  exact ⟨ret_bool (HNO.out HH.out).symm, B4.bl⟩
              · have e : j = k := by omega
                subst e
                have HH : Hid (shpRow n g j = true) := by
                  show shpRow n g j = true
                  unfold shpRow
                  rw [hnm, holds_no HD2.out, HLk.out]; simp
                go_wp2
                go_roundw
                case rel =>
                  refine ⟨j + 1, by omega, by go_num, fun x hx => ?_, hB2⟩
                  rcases Nat.lt_succ_iff_lt_or_eq.1 hx with h | h
                  · exact HD.out x h
                  · subst h; exact HH.out
                case measure => simp [intOf]; omega
          · have bL : ((g.L k : Int) != n.len) = true := by rw [bne_iff_ne]; omega
            go_wp2
            go_ret
            exact ⟨ret_bool (HNO.out (by simp [shpRow, beq_eq_false_iff_ne.2 hL])).symm, hB.bl⟩
      · have HY : Hid ((namesB n && squareB g n.len) = true) := shp_yes (by omega) (by omega) HL.out (fun x hx => HD.out x (by omega))
        go_wp2
        go_ret
        exact ⟨ret_bool HY.out.symm, hB.bl⟩
  · have B0 := Box2.start w (.slice n.ao n.len n.cap) (.slice g.ao g.len g.cap) 25
    have bl : ((g.len : Int) != n.len) = true := by rw [bne_iff_ne]; omega
    have HF : Hid ((namesB n && squareB g n.len) = false) := by show (namesB n && squareB g n.len) = false; simp [squareB, beq_eq_false_iff_ne.2 hl]
    go_enter Tryz.func61, Tryz.ntmps61
    go_wp2
    go_ret
    exact ⟨ret_bool HF.out.symm, B0.bl⟩
end Go.Proofs.YtmkncmmegjfipaaGreatDoor

/- The document's own words for a formed lattice, and the program's sets: one and the same. No walk in this text. -/
namespace Go.Proofs.YtmkncmmegjfipaaGreatDoor

structure Sq (n : Strs) (g : Grid) : Prop where
  len : g.len = n.len
  pos : 0 < n.len
  le8 : n.len ≤ 8
  L : ∀ r, r < g.len → g.L r = n.len

section
variable {n : Strs} {g : Grid}
theorem sq_of (h : (namesB n && squareB g n.len) = true) : Sq n g := by
  rw [Bool.and_eq_true] at h
  have h1 := namesB_len h.1
  have h2 := squareB_len h.2
  exact ⟨h2.1, h1.1, h1.2, h2.2⟩
theorem le_iff_s (hS : Sq n g) {a b : Nat} (ha : a < n.len) (hb : b < n.len) : g.le a b = true ↔ Lq g a b := by
  unfold Grid.le Lq
  rw [hS.L a (by have := hS.len; omega)]
  simp [show a < g.len by have := hS.len; omega, hb]
theorem le_lt_s (hS : Sq n g) {a b : Nat} (h : g.le a b = true) : a < n.len ∧ b < n.len := by
  unfold Grid.le at h
  simp only [Bool.and_eq_true, decide_eq_true_eq] at h
  have := hS.L a h.1
  have := hS.len
  omega
theorem U_mem_s (hS : Sq n g) {a b : Nat} (ha : a < n.len) : (g.U a).testBit b = true ↔ b < n.len ∧ Lq g a b := by
  rw [U_bit g (by have := hS.len; omega), Bool.and_eq_true, decide_eq_true_eq]
  constructor
  · rintro ⟨_, h⟩
    have := le_lt_s hS h
    exact ⟨this.2, (le_iff_s hS ha this.2).1 h⟩
  · rintro ⟨h1, h2⟩
    exact ⟨by have := hS.le8; omega, (le_iff_s hS ha h1).2 h2⟩
theorem D_mem_s (hS : Sq n g) {a b : Nat} (hb : b < n.len) : (g.D b).testBit a = true ↔ a < n.len ∧ Lq g a b := by
  rw [D_bit g, Bool.and_eq_true, decide_eq_true_eq]
  constructor
  · rintro ⟨_, h⟩
    have := le_lt_s hS h
    exact ⟨this.1, (le_iff_s hS this.1 hb).1 h⟩
  · rintro ⟨h1, h2⟩
    exact ⟨by have := hS.le8; omega, (le_iff_s hS h1 hb).2 h2⟩

theorem abv_iff (n : Strs) (g : Grid) (a b c : Nat) : abvB n g a b c = true ↔ Lq g a c ∧ Lq g b c ∧ ∀ d, d < n.len → Lq g a d → Lq g b d → Lq g c d := by
  unfold abvB Lq
  rw [Bool.and_eq_true, Bool.and_eq_true, decide_eq_true_eq]
  constructor
  · rintro ⟨⟨h1, h2⟩, h3⟩
    refine ⟨h1, h2, fun d hd q1 q2 => ?_⟩
    have := h3 d hd
    rw [q1, q2] at this
    simpa using this
  · rintro ⟨h1, h2, h3⟩
    refine ⟨⟨h1, h2⟩, fun d hd => ?_⟩
    cases q1 : g.B a d
    · rfl
    · cases q2 : g.B b d
      · rfl
      · rw [h3 d hd q1 q2]; rfl
theorem blw_iff (n : Strs) (g : Grid) (a b c : Nat) : blwB n g a b c = true ↔ Lq g c a ∧ Lq g c b ∧ ∀ d, d < n.len → Lq g d a → Lq g d b → Lq g d c := by
  unfold blwB Lq
  rw [Bool.and_eq_true, Bool.and_eq_true, decide_eq_true_eq]
  constructor
  · rintro ⟨⟨h1, h2⟩, h3⟩
    refine ⟨h1, h2, fun d hd q1 q2 => ?_⟩
    have := h3 d hd
    rw [q1, q2] at this
    simpa using this
  · rintro ⟨h1, h2, h3⟩
    refine ⟨⟨h1, h2⟩, fun d hd => ?_⟩
    cases q1 : g.B d a
    · rfl
    · cases q2 : g.B d b
      · rfl
      · rw [h3 d hd q1 q2]; rfl

theorem findI_spec (p : Nat → Bool) : ∀ f k, findI p f k = -1 ∨ ∃ j, k ≤ j ∧ j < k + f ∧ findI p f k = (j : Int) ∧ p j = true
  | 0, _ => Or.inl rfl
  | f + 1, k => by
    unfold findI
    by_cases h : p k = true
    · rw [if_pos h]; exact Or.inr ⟨k, Nat.le_refl _, by omega, rfl, h⟩
    · rw [if_neg h]
      rcases findI_spec p f (k + 1) with h0 | ⟨j, h1, h2, h3⟩
      · exact Or.inl h0
      · exact Or.inr ⟨j, by omega, by omega, h3⟩
theorem findI_some (p : Nat → Bool) (j : Nat) (h : p j = true) : ∀ f k, k ≤ j → j < k + f → findI p f k ≠ -1
  | 0, _, _, _ => by omega
  | f + 1, k, hk, hj => by
    unfold findI
    by_cases h0 : p k = true
    · rw [if_pos h0]; omega
    · rw [if_neg h0]
      refine findI_some p j h f (k + 1) ?_ (by omega)
      by_cases e : k = j
      · subst e; exact absurd h h0
      · omega
/-- what is found, where there is just one -/
theorem findI_one (p : Nat → Bool) {N j : Nat} (hj : j < N) (h : p j = true) (hu : ∀ i, i < N → p i = true → i = j) : findI p N 0 = (j : Int) := by
  rcases findI_spec p N 0 with h0 | ⟨i, h1, h2, h3, h4⟩
  · exact absurd h0 (findI_some p j h N 0 (Nat.zero_le _) (by omega))
  · rw [h3, hu i (by omega) h4]

/-- One pair of labels, as the reference asks. -/
def abOk (n : Strs) (g : Grid) (a b : Nat) : Bool :=
  ((if a = b then g.B a b else !(g.B a b && g.B b a)) && decide (∀ c, c < n.len → (g.B a b && g.B b c && !g.B a c) = false)) && (findI (abvB n g a b) n.len 0 != -1 && findI (blwB n g a b) n.len 0 != -1)
def rformedB (n : Strs) (g : Grid) : Bool := (namesB n && squareB g n.len) && decide (∀ a, a < n.len → ∀ b, b < n.len → abOk n g a b = true)

theorem ab_of_formed (hF : formedB n g = true) {a b : Nat} (ha : a < n.len) (hb : b < n.len) : abOk n g a b = true := by
  unfold abOk
  rw [Bool.and_eq_true, Bool.and_eq_true, Bool.and_eq_true, bne_iff_ne, bne_iff_ne, decide_eq_true_eq]
  refine ⟨⟨?_, fun c hc => ?_⟩, ?_, ?_⟩
  · by_cases e : a = b
    · subst e; rw [if_pos rfl]; exact lq_refl hF ha
    · rw [if_neg e]
      cases q1 : g.B a b
      · rfl
      · cases q2 : g.B b a
        · rfl
        · exact absurd (lq_anti hF ha hb q1 q2) e
  · cases q1 : g.B a b
    · rfl
    · cases q2 : g.B b c
      · rfl
      · rw [show g.B a c = true from lq_trans hF ha hb hc q1 q2]; rfl
  · obtain ⟨h1, h2, h3, h4⟩ := (jn_is hF ha hb).2
    exact findI_some _ _ ((abv_iff n g a b _).2 ⟨h2, h3, h4⟩) _ _ (Nat.zero_le _) (by omega)
  · obtain ⟨h1, h2, h3, h4⟩ := (mt_is hF ha hb).2
    exact findI_some _ _ ((blw_iff n g a b _).2 ⟨h2, h3, h4⟩) _ _ (Nat.zero_le _) (by omega)

theorem formed_of_ab (hS : (namesB n && squareB g n.len) = true) (h : ∀ a, a < n.len → ∀ b, b < n.len → abOk n g a b = true) : formedB n g = true := by
  have s := sq_of hS
  have refl : ∀ a, a < n.len → Lq g a a := fun a ha => by
    have := h a ha a ha
    unfold abOk at this
    rw [Bool.and_eq_true, Bool.and_eq_true, if_pos rfl] at this
    exact this.1.1
  have anti : ∀ a b, a < n.len → b < n.len → Lq g a b → Lq g b a → a = b := fun a b ha hb q1 q2 => by
    by_cases e : a = b
    · exact e
    · have := h a ha b hb
      unfold abOk at this
      rw [Bool.and_eq_true, Bool.and_eq_true, if_neg e, show g.B a b = true from q1, show g.B b a = true from q2] at this
      exact absurd this.1.1 (by simp)
  have trans : ∀ a b c, a < n.len → b < n.len → c < n.len → Lq g a b → Lq g b c → Lq g a c := fun a b c ha hb hc q1 q2 => by
    have := h a ha b hb
    unfold abOk at this
    rw [Bool.and_eq_true, Bool.and_eq_true, decide_eq_true_eq] at this
    have := this.1.2 c hc
    rw [show g.B a b = true from q1, show g.B b c = true from q2] at this
    simpa [Lq] using this
  unfold formedB
  rw [hS, Bool.true_and, Bool.and_eq_true]
  constructor
  · refine part_yes fun a ha => ?_
    have ha' : a < n.len := by have := s.len; omega
    unfold partRow
    rw [Bool.and_eq_true, beq_iff_eq, decide_eq_true_eq]
    refine ⟨?_, fun b hb hbit => ?_⟩
    · apply Nat.eq_of_testBit_eq
      intro i
      rw [Nat.testBit_and, Nat.testBit_two_pow, Bool.eq_iff_iff, Bool.and_eq_true, U_mem_s s ha', D_mem_s s ha', decide_eq_true_eq]
      constructor
      · rintro ⟨⟨h1, h2⟩, _, h3⟩; exact anti a i ha' h1 h2 h3
      · rintro rfl; exact ⟨⟨ha', refl a ha'⟩, ha', refl a ha'⟩
    · have hb' : b < n.len := by have := s.len; omega
      have h1 := (U_mem_s s ha').1 hbit
      exact and_sub.2 fun i hi => by
        have h2 := (U_mem_s s hb').1 hi
        exact (U_mem_s s ha').2 ⟨h2.1, trans a b i ha' hb' h2.1 h1.2 h2.2⟩
  · refine bdd_yes fun a ha b hb => ?_
    have ha' : a < n.len := by have := s.len; omega
    have hb' : b < n.len := by omega
    have hab := h a ha' b hb'
    unfold abOk at hab
    rw [Bool.and_eq_true, Bool.and_eq_true, Bool.and_eq_true, bne_iff_ne, bne_iff_ne] at hab
    have l8 := s.le8
    have le := s.len
    unfold okPair
    rw [Bool.and_eq_true, bne_iff_ne, bne_iff_ne]
    constructor
    · rcases findI_spec (abvB n g a b) n.len 0 with h0 | ⟨j, _, hj, _, h4⟩
      · exact absurd h0 hab.2.1
      · obtain ⟨q1, q2, q3⟩ := (abv_iff n g a b j).1 h4
        have up : ∀ i, (((2 ^ g.len - 1) &&& g.U a) &&& g.U b).testBit i = true ↔ i < n.len ∧ Lq g a i ∧ Lq g b i := fun i => by
          rw [Nat.testBit_and, Nat.testBit_and, Bool.and_eq_true, Bool.and_eq_true, all_bit, decide_eq_true_eq, U_mem_s s ha', U_mem_s s hb']
          constructor
          · rintro ⟨⟨h1, h2⟩, h3⟩; exact ⟨h2.1, h2.2, h3.2⟩
          · rintro ⟨h1, h2, h3⟩; exact ⟨⟨by omega, h1, h2⟩, h1, h3⟩
        refine near_some g.U _ j ((up j).2 ⟨by omega, q1, q2⟩) ?_ 8 0 (Nat.zero_le _) (by omega)
        exact and_sub.2 fun i hi => by
          obtain ⟨r1, r2, r3⟩ := (up i).1 hi
          exact (U_mem_s s (by omega)).2 ⟨r1, q3 i r1 r2 r3⟩
    · rcases findI_spec (blwB n g a b) n.len 0 with h0 | ⟨j, _, hj, _, h4⟩
      · exact absurd h0 hab.2.2
      · obtain ⟨q1, q2, q3⟩ := (blw_iff n g a b j).1 h4
        have dn : ∀ i, (((2 ^ g.len - 1) &&& g.D a) &&& g.D b).testBit i = true ↔ i < n.len ∧ Lq g i a ∧ Lq g i b := fun i => by
          rw [Nat.testBit_and, Nat.testBit_and, Bool.and_eq_true, Bool.and_eq_true, all_bit, decide_eq_true_eq, D_mem_s s ha', D_mem_s s hb']
          constructor
          · rintro ⟨⟨h1, h2⟩, h3⟩; exact ⟨h2.1, h2.2, h3.2⟩
          · rintro ⟨h1, h2, h3⟩; exact ⟨⟨by omega, h1, h2⟩, h1, h3⟩
        refine near_some g.D _ j ((dn j).2 ⟨by omega, q1, q2⟩) ?_ 8 0 (Nat.zero_le _) (by omega)
        exact and_sub.2 fun i hi => by
          obtain ⟨r1, r2, r3⟩ := (dn i).1 hi
          exact (D_mem_s s (by omega)).2 ⟨r1, q3 i r1 r2 r3⟩

theorem rformed_eq (n : Strs) (g : Grid) : rformedB n g = formedB n g := by
  rw [Bool.eq_iff_iff]
  unfold rformedB
  rw [Bool.and_eq_true, decide_eq_true_eq]
  constructor
  · rintro ⟨h1, h2⟩; exact formed_of_ab h1 h2
  · intro h
    refine ⟨?_, fun a ha b hb => ab_of_formed h ha hb⟩
    unfold formedB at h
    rw [Bool.and_eq_true] at h
    exact h.1
end
end Go.Proofs.YtmkncmmegjfipaaGreatDoor
