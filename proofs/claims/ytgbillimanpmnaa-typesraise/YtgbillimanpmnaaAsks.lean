/- The walks of layer 1's hasLabels, Leq, Join, Meet, Both, Bottom, Top. -/
import Derived.Test.YtgbillimanpmnaaFormedW
namespace Go.Proofs.Ytgbillimanpmnaa
open Go.RowKit

def labB (n : Strs) (a : Int) : Bool := decide (0 ≤ a) && decide (a < n.len)
def labsB (n : Strs) (ls : Nat → Int) (ll : Nat) : Bool := decide (∀ j, j < ll → labB n (ls j) = true)

theorem labs_no {n : Strs} {ls : Nat → Int} {ll j : Nat} (hj : j < ll) (h : labB n (ls j) = false) : labsB n ls ll = false := by
  unfold labsB
  rw [decide_eq_false_iff_not]
  intro hh
  rw [hh j hj] at h
  exact Bool.noConfusion h

set_option maxHeartbeats 1000000 in
theorem hasLabels_any (n : Strs) (g : Grid) (lb lo ll lc : Nat) (ls : Nat → Int) (w : World) (hn : n.At w) (hg : g.At w)
    (hll : ll ≤ 8) (hcl : ∀ j, j < ll → w.cell? ⟨lb, lo + j, none⟩ = some (.int .i64 (ls j))) :
    Calls Try.prog 61 #[.agg #[.slice n.ao n.len n.cap, .slice g.ao g.len g.cap], .slice (some ⟨lb, lo, none⟩) ll lc] w fun e w' => e = .returned (.bool (labsB n ls ll && formedB n g)) ∧ Below w.heap.size w w' := by
  have hnb := hn.bound
  have B0 := Box2.start w (.slice n.ao n.len n.cap) (.slice g.ao g.len g.cap) 25
  have hcl1 : ∀ j, j < ll → (w.alloc (.cells #[.slice n.ao n.len n.cap, .slice g.ao g.len g.cap] 25)).cell? ⟨lb, lo + j, none⟩ = some (.int .i64 (ls j)) := fun j hj => (B0.bl.cell (p := ⟨lb, lo + j, none⟩) (cell_lt (hcl j hj))).trans (hcl j hj)
  go_enter Try.func61, Try.ntmps61
  go_wp2
  go_loop [9] (fun i => ∃ k : Nat, k ≤ ll ∧ i = .int .i64 k ∧ ∀ j, j < k → labB n (ls j) = true) (fun i => ll - (intOf i).toNat)
  case atStart => exact ⟨0, Nat.zero_le _, rfl, fun _ h => absurd h (Nat.not_lt_zero _)⟩
  case round =>
    obtain ⟨k, hk, rfl, hdone⟩ := hrel
    have HD : Hid (∀ j, j < k → labB n (ls j) = true) := hdone
    clear hdone
    by_cases hlt : k < ll
    · have r1 := hcl1 k hlt
      go_wp2
      · have t : ls k < 0 ∨ (n.len : Int) ≤ ls k := by assumption
        go_ret
        exact ⟨ret_bool (by rw [labs_no hlt (by unfold labB; rw [Bool.and_eq_false_iff, decide_eq_false_iff_not, decide_eq_false_iff_not]; omega)]; rfl), B0.bl⟩
      · have t : 0 ≤ ls k ∧ ls k < (n.len : Int) := by assumption
        go_round
        case rel =>
          refine ⟨k + 1, by omega, by go_num, fun j hj => ?_⟩
          rcases Nat.lt_succ_iff_lt_or_eq.1 hj with h | h
          · exact HD.out j h
          · subst h; simp [labB, t]
        case measure => simp [intOf]; omega
      · have t : ls k < 0 := by assumption
        go_ret
        exact ⟨ret_bool (by rw [labs_no hlt (by unfold labB; rw [Bool.and_eq_false_iff, decide_eq_false_iff_not]; omega)]; rfl), B0.bl⟩
    · have e : k = ll := by omega
      have HL : Hid (labsB n ls ll = true) := by subst e; exact decide_eq_true HD.out
      clear e HD
      go_wp2_with fail
      refine (formed_any n g _ (hn.kept B0.bl) (hg.kept B0.bl)).mono ?_
      rintro e w1 ⟨rfl, hb1⟩
      have B1 := B0.step hb1
      go_wp2
      go_ret
      exact ⟨ret_bool (by rw [HL.out]; rfl), B1.bl⟩

def two (a b : Int) : Nat → Int := fun j => if j = 0 then a else b
theorem labs_two (n : Strs) (a b : Int) : labsB n (two a b) 2 = (labB n a && labB n b) := by
  unfold labsB
  rw [Bool.eq_iff_iff, decide_eq_true_eq, Bool.and_eq_true]
  constructor
  · intro h; exact ⟨h 0 (by omega), h 1 (by omega)⟩
  · rintro ⟨h1, h2⟩ j hj
    match j, hj with
    | 0, _ => exact h1
    | 1, _ => exact h2

theorem has2_any (n : Strs) (g : Grid) (lb : Nat) (a b : Int) (w : World) (hn : n.At w) (hg : g.At w) (h0 : w.cell? ⟨lb, 0, none⟩ = some (.int .i64 a)) (h1 : w.cell? ⟨lb, 1, none⟩ = some (.int .i64 b)) :
    Calls Try.prog 61 #[.agg #[.slice n.ao n.len n.cap, .slice g.ao g.len g.cap], .slice (some ⟨lb, 0, none⟩) 2 2] w fun e w' => e = .returned (.bool ((labB n a && labB n b) && formedB n g)) ∧ Below w.heap.size w w' := by
  rw [← labs_two]
  refine hasLabels_any n g lb 0 2 2 (two a b) w hn hg (by omega) (fun j hj => ?_)
  match j, hj with
  | 0, _ => exact h0
  | 1, _ => exact h1

theorem has1_any (n : Strs) (g : Grid) (lb : Nat) (a : Int) (w : World) (hn : n.At w) (hg : g.At w) (h0 : w.cell? ⟨lb, 0, none⟩ = some (.int .i64 a)) :
    Calls Try.prog 61 #[.agg #[.slice n.ao n.len n.cap, .slice g.ao g.len g.cap], .slice (some ⟨lb, 0, none⟩) 1 1] w fun e w' => e = .returned (.bool (labB n a && formedB n g)) ∧ Below w.heap.size w w' := by
  have e : labsB n (fun _ => a) 1 = labB n a := by
    unfold labsB
    rw [Bool.eq_iff_iff, decide_eq_true_eq]
    exact ⟨fun h => h 0 (by omega), fun h _ _ => h⟩
  rw [← e]
  refine hasLabels_any n g lb 0 1 1 (fun _ => a) w hn hg (by omega) (fun j hj => ?_)
  match j, hj with
  | 0, _ => exact h0

/-- What Leq answers. -/
def leqB (n : Strs) (g : Grid) (a b : Int) : Bool := ((labB n a && labB n b) && formedB n g) && g.B a.toNat b.toNat
def joinI (n : Strs) (g : Grid) (a b : Int) : Int := if ((labB n a && labB n b) && formedB n g) = true then near2 g.len g.U a.toNat b.toNat else -1
def meetI (n : Strs) (g : Grid) (a b : Int) : Int := if ((labB n a && labB n b) && formedB n g) = true then near2 g.len g.D a.toNat b.toNat else -1
def botI (n : Strs) (g : Grid) : Int := if formedB n g = true then near g.U (2 ^ g.len - 1) else -1
def topI (n : Strs) (g : Grid) : Int := if formedB n g = true then near g.D (2 ^ g.len - 1) else -1

theorem formed_parts {n : Strs} {g : Grid} (h : formedB n g = true) : g.len = n.len ∧ 0 < n.len ∧ n.len ≤ 8 ∧ ∀ r, r < g.len → g.L r = n.len := by
  unfold formedB at h
  rw [Bool.and_eq_true, Bool.and_eq_true] at h
  have h1 := namesB_len h.1.1
  have h2 := squareB_len h.1.2
  exact ⟨h2.1, h1.1, h1.2, h2.2⟩
theorem lab_nat {n : Strs} {a : Int} (h : labB n a = true) : ∃ k : Nat, a = k ∧ k < n.len := by
  unfold labB at h
  rw [Bool.and_eq_true, decide_eq_true_eq, decide_eq_true_eq] at h
  exact ⟨a.toNat, by omega, by omega⟩

theorem cells2' (w : World) (o : Obj) (u v : Value) (t : TypeId) : ((w.alloc o).alloc (.cells #[u, v] t)).cell? ⟨w.heap.size + 1, 0, none⟩ = some u ∧ ((w.alloc o).alloc (.cells #[u, v] t)).cell? ⟨w.heap.size + 1, 1, none⟩ = some v := by
  simp

set_option maxHeartbeats 1000000 in
theorem Join_any (n : Strs) (g : Grid) (a b : Int) (w : World) (hn : n.At w) (hg : g.At w) :
    Calls Try.prog 45 #[.agg #[.slice n.ao n.len n.cap, .slice g.ao g.len g.cap], .int .i64 a, .int .i64 b] w fun e w' => e = .returned (.int .i64 (joinI n g a b)) ∧ Below w.heap.size w w' := by
  have B0 := (Box2.start w (.slice n.ao n.len n.cap) (.slice g.ao g.len g.cap) 25).step ((Below.refl _ _).alloc (Nat.le_refl _) (.cells #[.int .i64 a, .int .i64 b] 3))
  have C0 := cells2' w (.cells #[.slice n.ao n.len n.cap, .slice g.ao g.len g.cap] 25) (.int .i64 a) (.int .i64 b) 3
  go_enter Try.func45, Try.ntmps45
  go_wp2_with fail
  refine (has2_any n g _ a b _ (hn.kept B0.bl) (hg.kept B0.bl) C0.1 C0.2).mono ?_
  rintro e w1 ⟨rfl, hb1⟩
  have B1 := B0.step hb1
  clear hb1 B0 C0
  have c1 := B1.c1
  cases h1 : ((labB n a && labB n b) && formedB n g)
  · go_wp2
    go_ret
    exact ⟨ret_int (by simp [joinI, h1]), B1.bl⟩
  · have HL : Hid (joinI n g a b = near2 g.len g.U a.toNat b.toNat) := by show joinI n g a b = _; unfold joinI; rw [if_pos h1]
    rw [Bool.and_eq_true, Bool.and_eq_true] at h1
    obtain ⟨p1, p2, p3, p4⟩ := formed_parts h1.2
    obtain ⟨x, rfl, hx⟩ := lab_nat h1.1.1
    obtain ⟨y, rfl, hy⟩ := lab_nat h1.1.2
    have P1 : Hid (g.len = n.len ∧ ∀ r, r < g.len → g.L r = n.len) := ⟨p1, p4⟩
    clear p1 p4 h1
    go_wp2_with fail
    refine (grid_orderOf g _ (hg.kept B1.bl) (by have := P1.out.1; omega) (fun r hr => by rw [P1.out.2 r hr]; exact p3)).mono ?_
    rintro e w2 ⟨rfl, ho, hb2⟩
    have B2 := B1.step hb2
    clear hb2 c1
    have A1 : OrdAt (w2.alloc (.cells #[.int .i64 x, .int .i64 y] 3)) w1.heap.size g.len g.U g.D := ho.kept ((Below.refl _ _).alloc (Nat.le_refl _) _)
    have C1 := cells2 w2 (.int .i64 x) (.int .i64 y) 3
    have B3 := B2.step ((Below.refl _ _).alloc (Nat.le_refl _) (.cells #[.int .i64 x, .int .i64 y] 3))
    go_wp2_with fail
    refine (join2_any _ g.len g.U g.D _ x y _ (by have := P1.out.1; omega) A1 (fun i _ => g.U_lt i) (by omega) (by omega) C1.1 C1.2).mono ?_
    rintro e w3 ⟨rfl, hdr⟩
    have B4 := B3.step (hdr.below _)
    go_wp2
    go_ret
    exact ⟨ret_int (by rw [HL.out]; simp), B4.bl⟩

set_option maxHeartbeats 1000000 in
theorem Meet_any (n : Strs) (g : Grid) (a b : Int) (w : World) (hn : n.At w) (hg : g.At w) :
    Calls Try.prog 75 #[.agg #[.slice n.ao n.len n.cap, .slice g.ao g.len g.cap], .int .i64 a, .int .i64 b] w fun e w' => e = .returned (.int .i64 (meetI n g a b)) ∧ Below w.heap.size w w' := by
  have B0 := (Box2.start w (.slice n.ao n.len n.cap) (.slice g.ao g.len g.cap) 25).step ((Below.refl _ _).alloc (Nat.le_refl _) (.cells #[.int .i64 a, .int .i64 b] 3))
  have C0 := cells2' w (.cells #[.slice n.ao n.len n.cap, .slice g.ao g.len g.cap] 25) (.int .i64 a) (.int .i64 b) 3
  go_enter Try.func75, Try.ntmps75
  go_wp2_with fail
  refine (has2_any n g _ a b _ (hn.kept B0.bl) (hg.kept B0.bl) C0.1 C0.2).mono ?_
  rintro e w1 ⟨rfl, hb1⟩
  have B1 := B0.step hb1
  clear hb1 B0 C0
  have c1 := B1.c1
  cases h1 : ((labB n a && labB n b) && formedB n g)
  · go_wp2
    go_ret
    exact ⟨ret_int (by simp [meetI, h1]), B1.bl⟩
  · have HL : Hid (meetI n g a b = near2 g.len g.D a.toNat b.toNat) := by show meetI n g a b = _; unfold meetI; rw [if_pos h1]
    rw [Bool.and_eq_true, Bool.and_eq_true] at h1
    obtain ⟨p1, p2, p3, p4⟩ := formed_parts h1.2
    obtain ⟨x, rfl, hx⟩ := lab_nat h1.1.1
    obtain ⟨y, rfl, hy⟩ := lab_nat h1.1.2
    have P1 : Hid (g.len = n.len ∧ ∀ r, r < g.len → g.L r = n.len) := ⟨p1, p4⟩
    clear p1 p4 h1
    go_wp2_with fail
    refine (grid_orderOf g _ (hg.kept B1.bl) (by have := P1.out.1; omega) (fun r hr => by rw [P1.out.2 r hr]; exact p3)).mono ?_
    rintro e w2 ⟨rfl, ho, hb2⟩
    have B2 := B1.step hb2
    clear hb2 c1
    have A1 : OrdAt (w2.alloc (.cells #[.int .i64 x, .int .i64 y] 3)) w1.heap.size g.len g.U g.D := ho.kept ((Below.refl _ _).alloc (Nat.le_refl _) _)
    have C1 := cells2 w2 (.int .i64 x) (.int .i64 y) 3
    have B3 := B2.step ((Below.refl _ _).alloc (Nat.le_refl _) (.cells #[.int .i64 x, .int .i64 y] 3))
    go_wp2_with fail
    refine (meet2_any _ g.len g.U g.D _ x y _ (by have := P1.out.1; omega) A1 (fun i _ => g.D_lt i) (by omega) (by omega) C1.1 C1.2).mono ?_
    rintro e w3 ⟨rfl, hdr⟩
    have B4 := B3.step (hdr.below _)
    go_wp2
    go_ret
    exact ⟨ret_int (by rw [HL.out]; simp), B4.bl⟩

def bothI (n : Strs) (g : Grid) (a b : Int) : Int := joinI n g (if a = -1 then b else a) (if b = -1 then a else b)

set_option maxHeartbeats 1000000 in
theorem Both_any (n : Strs) (g : Grid) (a b : Int) (w : World) (hn : n.At w) (hg : g.At w) :
    Calls Try.prog 76 #[.agg #[.slice n.ao n.len n.cap, .slice g.ao g.len g.cap], .int .i64 a, .int .i64 b] w fun e w' => e = .returned (.int .i64 (bothI n g a b)) ∧ Below w.heap.size w w' := by
  have B0 := Box2.start w (.slice n.ao n.len n.cap) (.slice g.ao g.len g.cap) 25
  by_cases ha : a = -1
  · subst ha
    by_cases hb : b = -1
    · subst hb
      go_enter Try.func76, Try.ntmps76
      go_wp2_with (go_at_call 45; refine (Join_any n g _ _ _ (hn.kept B0.bl) (hg.kept B0.bl)).mono ?_; rintro e w1 ⟨rfl, hb1⟩)
      go_ret
      exact ⟨ret_int (by simp [bothI]), (B0.step hb1).bl⟩
    · have e1 : (b == -1) = false := beq_eq_false_iff_ne.2 hb
      go_enter Try.func76, Try.ntmps76
      go_wp2_with (go_at_call 45; refine (Join_any n g _ _ _ (hn.kept B0.bl) (hg.kept B0.bl)).mono ?_; rintro e w1 ⟨rfl, hb1⟩)
      go_ret
      exact ⟨ret_int (by simp [bothI, hb]), (B0.step hb1).bl⟩
  · have e0 : (a == -1) = false := beq_eq_false_iff_ne.2 ha
    by_cases hb : b = -1
    · subst hb
      go_enter Try.func76, Try.ntmps76
      go_wp2_with (go_at_call 45; refine (Join_any n g _ _ _ (hn.kept B0.bl) (hg.kept B0.bl)).mono ?_; rintro e w1 ⟨rfl, hb1⟩)
      go_ret
      exact ⟨ret_int (by simp [bothI, ha]), (B0.step hb1).bl⟩
    · have e1 : (b == -1) = false := beq_eq_false_iff_ne.2 hb
      go_enter Try.func76, Try.ntmps76
      go_wp2_with (go_at_call 45; refine (Join_any n g _ _ _ (hn.kept B0.bl) (hg.kept B0.bl)).mono ?_; rintro e w1 ⟨rfl, hb1⟩)
      go_ret
      exact ⟨ret_int (by simp [bothI, ha, hb]), (B0.step hb1).bl⟩
end Go.Proofs.Ytgbillimanpmnaa
