/- The walks of the reference's Label, Leq, Join, Meet, Both: they tell just what the program's tell. -/
import Derived.Test.YtgbillimanpmnaaRefFormed
namespace Go.Proofs.Ytgbillimanpmnaa
open Go.RowKit

set_option maxHeartbeats 400000 in
theorem label_any (n : Strs) (g : Grid) (a : Int) (w : World) :
    Calls Try.prog 28 #[.agg #[.slice n.ao n.len n.cap, .slice g.ao g.len g.cap], .int .i64 a] w fun e w' => e = .returned (.bool (labB n a)) ∧ Below w.heap.size w w' := by
  have B0 := Box2.start w (.slice n.ao n.len n.cap) (.slice g.ao g.len g.cap) 25
  by_cases h : 0 ≤ a
  · have HE : Hid (labB n a = decide (a < n.len)) := by show labB n a = _; unfold labB; rw [decide_eq_true h]; rfl
    go_enter Try.func28, Try.ntmps28
    go_wp2
    go_ret
    exact ⟨ret_bool HE.out.symm, B0.bl⟩
  · have HE : Hid (labB n a = false) := by show labB n a = _; unfold labB; rw [decide_eq_false h]; rfl
    go_enter Try.func28, Try.ntmps28
    go_wp2
    go_ret
    exact ⟨ret_bool HE.out.symm, B0.bl⟩

theorem labelB {n : Strs} {g : Grid} {w wr : World} (hB : Box2 w wr (.slice n.ao n.len n.cap) (.slice g.ao g.len g.cap)) (a : Int) (r : Bool) (h : labB n a = r) :
    Calls Try.prog 28 #[.agg #[.slice n.ao n.len n.cap, .slice g.ao g.len g.cap], .int .i64 a] wr fun e w' => e = .returned (.bool r) ∧ Box2 w w' (.slice n.ao n.len n.cap) (.slice g.ao g.len g.cap) := by
  subst h
  exact (label_any n g a wr).mono fun _ _ ⟨he, hb⟩ => ⟨he, hB.step hb⟩
theorem rformedB' {n : Strs} {g : Grid} {w wr : World} (hn : n.At w) (hg : g.At w) (hB : Box2 w wr (.slice n.ao n.len n.cap) (.slice g.ao g.len g.cap)) (r : Bool) (h : formedB n g = r) :
    Calls Try.prog 33 #[.agg #[.slice n.ao n.len n.cap, .slice g.ao g.len g.cap]] wr fun e w' => e = .returned (.bool r) ∧ Box2 w w' (.slice n.ao n.len n.cap) (.slice g.ao g.len g.cap) := by
  subst h
  exact (rformed_any n g wr (hn.kept hB.bl) (hg.kept hB.bl)).mono fun _ _ ⟨he, hb⟩ => ⟨he, hB.step hb⟩

theorem sqat_of {n : Strs} {g : Grid} {w : World} (hF : formedB n g = true) (hn : n.At w) (hg : g.At w) : SqAt n g w := by
  obtain ⟨p1, p2, p3, p4⟩ := formed_parts hF
  exact ⟨hn, hg, p2, p3, p1, fun r hr => p4 r (by omega)⟩

theorem rjoin_eq {n : Strs} {g : Grid} (hF : formedB n g = true) {a b : Nat} (ha : a < n.len) (hb : b < n.len) : findI (abvB n g a b) n.len 0 = near2 g.len g.U a b := by
  obtain ⟨h1, h2, h3, h4, h5⟩ := jn_is hF ha hb
  rw [h1]
  refine findI_one _ h2 ((abv_iff n g a b _).2 ⟨h3, h4, h5⟩) (fun i hi hp => ?_)
  obtain ⟨q1, q2, q3⟩ := (abv_iff n g a b i).1 hp
  exact isJoin_uniq hF ⟨hi, q1, q2, q3⟩ ⟨h2, h3, h4, h5⟩
theorem rmeet_eq {n : Strs} {g : Grid} (hF : formedB n g = true) {a b : Nat} (ha : a < n.len) (hb : b < n.len) : findI (blwB n g a b) n.len 0 = near2 g.len g.D a b := by
  obtain ⟨h1, h2, h3, h4, h5⟩ := mt_is hF ha hb
  rw [h1]
  refine findI_one _ h2 ((blw_iff n g a b _).2 ⟨h3, h4, h5⟩) (fun i hi hp => ?_)
  obtain ⟨q1, q2, q3⟩ := (blw_iff n g a b i).1 hp
  exact isMeet_uniq hF ⟨hi, q1, q2, q3⟩ ⟨h2, h3, h4, h5⟩

set_option maxRecDepth 100000 in
set_option maxHeartbeats 2000000 in
theorem rleq_any (n : Strs) (g : Grid) (a b : Int) (w : World) (hn : n.At w) (hg : g.At w) :
    Calls Try.prog 29 #[.agg #[.slice n.ao n.len n.cap, .slice g.ao g.len g.cap], .int .i64 a, .int .i64 b] w fun e w' => e = .returned (.bool (leqB n g a b)) ∧ Below w.heap.size w w' := by
  have B0 := Box2.start w (.slice n.ao n.len n.cap) (.slice g.ao g.len g.cap) 25
  go_enter Try.func29, Try.ntmps29
  cases h1 : labB n a
  · go_wp2_with fail
    refine (labelB B0 a false h1).mono ?_
    rintro e w1 ⟨rfl, B1⟩
    go_wp2
    go_ret
    exact ⟨ret_bool (by simp [leqB, h1]), B1.bl⟩
  cases h2 : labB n b
  · go_wp2_with fail
    refine (labelB B0 a true h1).mono ?_
    rintro e w1 ⟨rfl, B1⟩
    have c0 := B1.c0
    have c1 := B1.c1
    go_wp2_with fail
    refine (labelB B1 b false h2).mono ?_
    rintro e w2 ⟨rfl, B2⟩
    go_wp2
    go_ret
    exact ⟨ret_bool (by simp [leqB, h2]), B2.bl⟩
  cases h3 : formedB n g
  · go_wp2_with fail
    refine (labelB B0 a true h1).mono ?_
    rintro e w1 ⟨rfl, B1⟩
    have c0 := B1.c0
    have c1 := B1.c1
    go_wp2_with fail
    refine (labelB B1 b true h2).mono ?_
    rintro e w2 ⟨rfl, B2⟩
    clear c0 c1
    have c0 := B2.c0
    have c1 := B2.c1
    go_wp2_with fail
    refine (rformedB' hn hg B2 false h3).mono ?_
    rintro e w3 ⟨rfl, B3⟩
    go_wp2
    go_ret
    exact ⟨ret_bool (by simp [leqB, h3]), B3.bl⟩
  · have HL : Hid (leqB n g a b = g.B a.toNat b.toNat) := by show leqB n g a b = _; simp [leqB, h1, h2, h3]
    obtain ⟨x, rfl, hx⟩ := lab_nat h1
    obtain ⟨y, rfl, hy⟩ := lab_nat h2
    have hq := sqat_of h3 hn hg
    go_wp2_with fail
    refine (labelB B0 x true h1).mono ?_
    rintro e w1 ⟨rfl, B1⟩
    have c0 := B1.c0
    have c1 := B1.c1
    go_wp2_with fail
    refine (labelB B1 y true h2).mono ?_
    rintro e w2 ⟨rfl, B2⟩
    clear c0 c1
    have c0 := B2.c0
    have c1 := B2.c1
    go_wp2_with fail
    refine (rformedB' hn hg B2 true h3).mono ?_
    rintro e w3 ⟨rfl, B3⟩
    clear c0 c1
    have c1 : w3.cell? ⟨w.heap.size, 1, none⟩ = some (.slice (some ⟨g.gb, g.go, none⟩) n.len g.cap) := by rw [B3.c1, hq.ao, hq.len]
    have q3 := hq.kept B3.bl
    have r1 := q3.row hx
    have r2 := q3.cell hx hy
    have ix : (x : Int) < n.len := by omega
    have iy : (y : Int) < n.len := by omega
    clear q3 h1 h2 h3
    go_wp2
    go_ret
    exact ⟨ret_bool (by rw [HL.out]; simp), B3.bl⟩

set_option maxRecDepth 100000 in
set_option maxHeartbeats 2000000 in
theorem rJoin_any (n : Strs) (g : Grid) (a b : Int) (w : World) (hn : n.At w) (hg : g.At w) :
    Calls Try.prog 47 #[.agg #[.slice n.ao n.len n.cap, .slice g.ao g.len g.cap], .int .i64 a, .int .i64 b] w fun e w' => e = .returned (.int .i64 (joinI n g a b)) ∧ Below w.heap.size w w' := by
  have B0 := Box2.start w (.slice n.ao n.len n.cap) (.slice g.ao g.len g.cap) 25
  go_enter Try.func47, Try.ntmps47
  cases h1 : labB n a
  · go_wp2_with fail
    refine (labelB B0 a false h1).mono ?_
    rintro e w1 ⟨rfl, B1⟩
    go_wp2
    go_ret
    exact ⟨ret_int (by simp [joinI, h1]), B1.bl⟩
  cases h2 : labB n b
  · go_wp2_with fail
    refine (labelB B0 a true h1).mono ?_
    rintro e w1 ⟨rfl, B1⟩
    have c0 := B1.c0
    have c1 := B1.c1
    go_wp2_with fail
    refine (labelB B1 b false h2).mono ?_
    rintro e w2 ⟨rfl, B2⟩
    go_wp2
    go_ret
    exact ⟨ret_int (by simp [joinI, h2]), B2.bl⟩
  cases h3 : formedB n g
  · go_wp2_with fail
    refine (labelB B0 a true h1).mono ?_
    rintro e w1 ⟨rfl, B1⟩
    have c0 := B1.c0
    have c1 := B1.c1
    go_wp2_with fail
    refine (labelB B1 b true h2).mono ?_
    rintro e w2 ⟨rfl, B2⟩
    clear c0 c1
    have c0 := B2.c0
    have c1 := B2.c1
    go_wp2_with fail
    refine (rformedB' hn hg B2 false h3).mono ?_
    rintro e w3 ⟨rfl, B3⟩
    go_wp2
    go_ret
    exact ⟨ret_int (by simp [joinI, h3]), B3.bl⟩
  · have HL0 : joinI n g a b = near2 g.len g.U a.toNat b.toNat := by unfold joinI; rw [if_pos (by rw [h1, h2, h3]; rfl)]
    obtain ⟨x, rfl, hx⟩ := lab_nat h1
    obtain ⟨y, rfl, hy⟩ := lab_nat h2
    have HL : Hid (joinI n g x y = findI (abvB n g x y) n.len 0) := HL0.trans (rjoin_eq h3 hx hy).symm
    have hq := sqat_of h3 hn hg
    clear HL0
    go_wp2_with fail
    refine (labelB B0 x true h1).mono ?_
    rintro e w1 ⟨rfl, B1⟩
    have c0 := B1.c0
    have c1 := B1.c1
    go_wp2_with fail
    refine (labelB B1 y true h2).mono ?_
    rintro e w2 ⟨rfl, B2⟩
    clear c0 c1
    have c0 := B2.c0
    have c1 := B2.c1
    go_wp2_with fail
    refine (rformedB' hn hg B2 true h3).mono ?_
    rintro e w3 ⟨rfl, B3⟩
    clear c0 c1
    have c0 := B3.c0
    have c1 := B3.c1
    clear h1 h2 h3
    go_wp2_with fail
    refine (rjoin_any n g _ x y (hq.kept B3.bl) hx hy).mono ?_
    rintro e w4 ⟨rfl, hb4⟩
    have B4 := B3.step hb4
    go_wp2
    go_ret
    exact ⟨ret_int HL.out.symm, B4.bl⟩

set_option maxRecDepth 100000 in
set_option maxHeartbeats 2000000 in
theorem rMeet_any (n : Strs) (g : Grid) (a b : Int) (w : World) (hn : n.At w) (hg : g.At w) :
    Calls Try.prog 77 #[.agg #[.slice n.ao n.len n.cap, .slice g.ao g.len g.cap], .int .i64 a, .int .i64 b] w fun e w' => e = .returned (.int .i64 (meetI n g a b)) ∧ Below w.heap.size w w' := by
  have B0 := Box2.start w (.slice n.ao n.len n.cap) (.slice g.ao g.len g.cap) 25
  go_enter Try.func77, Try.ntmps77
  cases h1 : labB n a
  · go_wp2_with fail
    refine (labelB B0 a false h1).mono ?_
    rintro e w1 ⟨rfl, B1⟩
    go_wp2
    go_ret
    exact ⟨ret_int (by simp [meetI, h1]), B1.bl⟩
  cases h2 : labB n b
  · go_wp2_with fail
    refine (labelB B0 a true h1).mono ?_
    rintro e w1 ⟨rfl, B1⟩
    have c0 := B1.c0
    have c1 := B1.c1
    go_wp2_with fail
    refine (labelB B1 b false h2).mono ?_
    rintro e w2 ⟨rfl, B2⟩
    go_wp2
    go_ret
    exact ⟨ret_int (by simp [meetI, h2]), B2.bl⟩
  cases h3 : formedB n g
  · go_wp2_with fail
    refine (labelB B0 a true h1).mono ?_
    rintro e w1 ⟨rfl, B1⟩
    have c0 := B1.c0
    have c1 := B1.c1
    go_wp2_with fail
    refine (labelB B1 b true h2).mono ?_
    rintro e w2 ⟨rfl, B2⟩
    clear c0 c1
    have c0 := B2.c0
    have c1 := B2.c1
    go_wp2_with fail
    refine (rformedB' hn hg B2 false h3).mono ?_
    rintro e w3 ⟨rfl, B3⟩
    go_wp2
    go_ret
    exact ⟨ret_int (by simp [meetI, h3]), B3.bl⟩
  · have HL0 : meetI n g a b = near2 g.len g.D a.toNat b.toNat := by unfold meetI; rw [if_pos (by rw [h1, h2, h3]; rfl)]
    obtain ⟨x, rfl, hx⟩ := lab_nat h1
    obtain ⟨y, rfl, hy⟩ := lab_nat h2
    have HL : Hid (meetI n g x y = findI (blwB n g x y) n.len 0) := HL0.trans (rmeet_eq h3 hx hy).symm
    have hq := sqat_of h3 hn hg
    clear HL0
    go_wp2_with fail
    refine (labelB B0 x true h1).mono ?_
    rintro e w1 ⟨rfl, B1⟩
    have c0 := B1.c0
    have c1 := B1.c1
    go_wp2_with fail
    refine (labelB B1 y true h2).mono ?_
    rintro e w2 ⟨rfl, B2⟩
    clear c0 c1
    have c0 := B2.c0
    have c1 := B2.c1
    go_wp2_with fail
    refine (rformedB' hn hg B2 true h3).mono ?_
    rintro e w3 ⟨rfl, B3⟩
    clear c0 c1
    have c0 := B3.c0
    have c1 := B3.c1
    clear h1 h2 h3
    go_wp2_with fail
    refine (rmeet_any n g _ x y (hq.kept B3.bl) hx hy).mono ?_
    rintro e w4 ⟨rfl, hb4⟩
    have B4 := B3.step hb4
    go_wp2
    go_ret
    exact ⟨ret_int HL.out.symm, B4.bl⟩

set_option maxHeartbeats 1000000 in
theorem rBoth_any (n : Strs) (g : Grid) (a b : Int) (w : World) (hn : n.At w) (hg : g.At w) :
    Calls Try.prog 60 #[.agg #[.slice n.ao n.len n.cap, .slice g.ao g.len g.cap], .int .i64 a, .int .i64 b] w fun e w' => e = .returned (.int .i64 (bothI n g a b)) ∧ Below w.heap.size w w' := by
  have B0 := Box2.start w (.slice n.ao n.len n.cap) (.slice g.ao g.len g.cap) 25
  by_cases ha : a = -1
  · subst ha
    by_cases hb : b = -1
    · subst hb
      go_enter Try.func60, Try.ntmps60
      go_wp2_with (go_at_call 47; refine (rJoin_any n g _ _ _ (hn.kept B0.bl) (hg.kept B0.bl)).mono ?_; rintro e w1 ⟨rfl, hb1⟩)
      go_ret
      exact ⟨ret_int (by simp [bothI]), (B0.step hb1).bl⟩
    · have e1 : (b == -1) = false := beq_eq_false_iff_ne.2 hb
      go_enter Try.func60, Try.ntmps60
      go_wp2_with (go_at_call 47; refine (rJoin_any n g _ _ _ (hn.kept B0.bl) (hg.kept B0.bl)).mono ?_; rintro e w1 ⟨rfl, hb1⟩)
      go_ret
      exact ⟨ret_int (by simp [bothI, hb]), (B0.step hb1).bl⟩
  · have e0 : (a == -1) = false := beq_eq_false_iff_ne.2 ha
    by_cases hb : b = -1
    · subst hb
      go_enter Try.func60, Try.ntmps60
      go_wp2_with (go_at_call 47; refine (rJoin_any n g _ _ _ (hn.kept B0.bl) (hg.kept B0.bl)).mono ?_; rintro e w1 ⟨rfl, hb1⟩)
      go_ret
      exact ⟨ret_int (by simp [bothI, ha]), (B0.step hb1).bl⟩
    · have e1 : (b == -1) = false := beq_eq_false_iff_ne.2 hb
      go_enter Try.func60, Try.ntmps60
      go_wp2_with (go_at_call 47; refine (rJoin_any n g _ _ _ (hn.kept B0.bl) (hg.kept B0.bl)).mono ?_; rintro e w1 ⟨rfl, hb1⟩)
      go_ret
      exact ⟨ret_int (by simp [bothI, ha, hb]), (B0.step hb1).bl⟩
end Go.Proofs.Ytgbillimanpmnaa
