/- Layer 2: all of these types formed. -/
import Derived.Test.YtgbillimanpmnaaTyFormed
namespace Go.Proofs.Ytgbillimanpmnaa
open Go.RowKit

/-- Formed, of a formed lattice of so many names. -/
def Ty.ok (N : Nat) (t : Ty) : Bool := t.fm N 1 && decide (t.nodes ≤ 40)

set_option maxRecDepth 100000 in
set_option maxHeartbeats 4000000 in
theorem allFormed_any (n : Strs) (g : Grid) (ao : Option Addr) (b o len cap : Nat) (ps : Nat → Ty) (w : World) (hn : n.At w) (hg : g.At w) (hr : Ty.At w (.mk 0 0 0 0 ao b o len cap ps)) :
    Calls Try.prog 32 #[.agg #[.slice n.ao n.len n.cap, .slice g.ao g.len g.cap], .slice ao len cap] w fun e w' => e = .returned (.bool (formedB n g && decide (∀ i, i < len → (ps i).ok n.len = true))) ∧ Below w.heap.size w w' := by
  have L0 := Bl.new w n g
  have B0 := below_alloc w (.cells #[.slice n.ao n.len n.cap, .slice g.ao g.len g.cap] 25)
  have hb : len ≤ 9223372036854775807 := hr.bound
  have hnil : 0 < len → ao = some ⟨b, o, none⟩ := hr.nil
  have hn2 := hn.kept B0
  have hg2 := hg.kept B0
  have hr2 := hr.kept B0
  clear hn hg hr
  go_enter Try.func32, Try.ntmps32
  go_wp2_with fail
  refine (formed_any n g _ hn2 hg2).mono ?_
  rintro r w1 ⟨rfl, hb1⟩
  have L1 := L0.kept hb1
  have hn3 := hn2.kept hb1
  have hr3 := hr2.kept hb1
  have B1 := Below.next B0 hb1
  clear L0 hb1 hn2 hg2 hr2 B0
  cases hF : formedB n g
  · go_wp2
    go_ret
    exact ⟨ret_bool (by rw [hF]; rfl), B1⟩
  go_wp2
  have HT : Hid (formedB n g = true) := hF
  clear hF
  go_loopw [12] (fun i wr => ∃ j : Nat, j ≤ len ∧ i = .int .i64 j ∧ (∀ i, i < j → (ps i).ok n.len = true) ∧ Below w1.heap.size w1 wr) (fun i _ => len - (intOf i).toNat)
  case atStart => exact ⟨0, Nat.zero_le _, rfl, fun _ h => absurd h (Nat.not_lt_zero _), Below.refl _ _⟩
  case round =>
    obtain ⟨j, hj, rfl, hdone, hB⟩ := hrel
    have HD : Hid (∀ i, i < j → (ps i).ok n.len = true) := hdone
    clear hdone
    by_cases hlt : j < len
    · have ij : (j : Int) < len := by omega
      have a0 := hnil (by omega)
      subst a0
      have hA5 := hr3.kept hB
      have C : C5 wr b (o + j * 5) (ps j) := hA5.cells hlt
      have P : (ps j).At wr := hA5.part hlt
      have N0 := Bx.new wr (ps j)
      have B6 := below_alloc wr (.cells #[.int .i64 (ps j).k, .int .i64 (ps j).l, .slice (ps j).ao (ps j).len (ps j).cap, .int .i64 (ps j).h, .int .i64 (ps j).e] 28)
      have L5 := (L1.kept hB).kept B6
      have P6 := P.kept B6
      have y0 := C.c0
      have y1 := C.c1
      have y2 := C.c2
      have y3 := C.c3
      have y4 := C.c4
      have l0 := L5.c0
      have l1 := L5.c1
      clear C hA5 P
      have hi := formedT_any n g (ps j) 1 _ (by omega) ((hn3.kept hB).kept B6) P6
      go_wp2_with fail
      refine hi.mono ?_
      rintro r w6 ⟨rfl, hb6⟩
      have N1 := N0.kept hb6
      have P7 := P6.kept hb6
      have B7 := Below.next hB (Below.next B6 hb6)
      clear y0 y1 y2 y3 y4 l0 l1 L5 hi N0 P6
      cases hf : Ty.fm n.len (ps j) 1
      · have HN : Hid ((ps j).ok n.len = false) := by show (ps j).ok n.len = false; unfold Ty.ok; rw [hf]; rfl
        clear hf
        go_wp2
        go_ret
        exact ⟨ret_bool (by rw [HT.out, Bool.true_and]; exact (decide_eq_false (fun hh => by have := HN.out; rw [hh j hlt] at this; cases this)).symm), Below.next B1 B7⟩
      · have HF : Hid (Ty.fm n.len (ps j) 1 = true) := hf
        have n0 := N1.c0
        have n1 := N1.c1
        have n2 := N1.c2
        have n3 := N1.c3
        have n4 := N1.c4
        clear hf N1
        go_wp2_with fail
        refine (Nodes_any (ps j) _ P7).mono ?_
        rintro r w7 ⟨rfl, hb7⟩
        have B8 := Below.next B7 hb7
        clear n0 n1 n2 n3 n4
        by_cases h40 : (ps j).nodes ≤ 40
        · have HY : Hid ((ps j).ok n.len = true) := by show (ps j).ok n.len = true; unfold Ty.ok; rw [HF.out, decide_eq_true h40]; rfl
          have d : decide ((40 : Int) < (min (ps j).nodes 41 : Nat)) = false := by simp only [decide_eq_false_iff_not]; omega
          generalize min (ps j).nodes 41 = q at d ⊢
          go_wp2
          go_roundw
          case rel => exact ⟨j + 1, by omega, by go_num, fun i hi => (by
              by_cases e : i = j
              · subst e; exact HY.out
              · exact HD.out i (by omega)), B8⟩
          case measure => simp [intOf]; omega
        · have HN : Hid ((ps j).ok n.len = false) := by show (ps j).ok n.len = false; unfold Ty.ok; rw [HF.out, decide_eq_false h40]; rfl
          have d : decide ((40 : Int) < (min (ps j).nodes 41 : Nat)) = true := by simp only [decide_eq_true_eq]; omega
          generalize min (ps j).nodes 41 = q at d ⊢
          go_wp2
          go_ret
          exact ⟨ret_bool (by rw [HT.out, Bool.true_and]; exact (decide_eq_false (fun hh => by have := HN.out; rw [hh j hlt] at this; cases this)).symm), Below.next B1 B8⟩
    · have e : len = j := by omega
      subst e
      have dl : ¬ (len : Int) < len := by omega
      go_wp2
      go_ret
      exact ⟨ret_bool (by rw [HT.out, Bool.true_and]; exact (decide_eq_true HD.out).symm), Below.next B1 hB⟩

/-- Types in a row that the call itself has laid. -/
def row2 (s t : Ty) : Obj := .cells #[.int .i64 s.k, .int .i64 s.l, .slice s.ao s.len s.cap, .int .i64 s.h, .int .i64 s.e, .int .i64 t.k, .int .i64 t.l, .slice t.ao t.len t.cap, .int .i64 t.h, .int .i64 t.e] 28
theorem row1_at (w : World) (t : Ty) (h : t.At w) : Ty.At (w.alloc (tyO t)) (.mk 0 0 0 0 (some ⟨w.heap.size, 0, none⟩) w.heap.size 0 1 1 (fun _ => t)) :=
  ⟨fun _ => rfl, by omega, fun i hi => ⟨by
    have e : i = 0 := by omega
    subst e
    have X := Bx.new w t
    exact ⟨X.c0, X.c1, X.c2, X.c3, X.c4⟩, h.kept (below_alloc _ _)⟩⟩
theorem row2_at (w : World) (s t : Ty) (hs : s.At w) (ht : t.At w) : Ty.At (w.alloc (row2 s t)) (.mk 0 0 0 0 (some ⟨w.heap.size, 0, none⟩) w.heap.size 0 2 2 (fun i => if i = 0 then s else t)) :=
  ⟨fun _ => rfl, by omega, fun i hi => by
    by_cases e : i = 0
    · subst e
      refine ⟨⟨?_, ?_, ?_, ?_, ?_⟩, hs.kept (below_alloc _ _)⟩
      all_goals simp [row2]
    · have e1 : i = 1 := by omega
      subst e1
      refine ⟨⟨?_, ?_, ?_, ?_, ?_⟩, ht.kept (below_alloc _ _)⟩
      all_goals simp [row2]⟩

/-- Formed, of whatever lattice. -/
def okB (n : Strs) (g : Grid) (t : Ty) : Bool := formedB n g && t.ok n.len

set_option maxHeartbeats 2000000 in
theorem Formed2_any (n : Strs) (g : Grid) (t : Ty) (w : World) (hn : n.At w) (hg : g.At w) (ht : t.At w) :
    Calls Try.prog 11 #[.agg #[.slice n.ao n.len n.cap, .slice g.ao g.len g.cap], .agg #[.int .i64 t.k, .int .i64 t.l, .slice t.ao t.len t.cap, .int .i64 t.h, .int .i64 t.e]] w fun e w' => e = .returned (.bool (okB n g t)) ∧ Below w.heap.size w w' := by
  obtain ⟨L0, X0, B0⟩ := start_lt w n g t
  have R1 := row1_at _ t (ht.kept B0)
  have B1 := below_alloc ((w.alloc (latO n g)).alloc (tyO t)) (tyO t)
  have hA := allFormed_any n g _ _ _ _ _ _ _ ((hn.kept B0).kept B1) ((hg.kept B0).kept B1) R1
  rw [alloc_size, alloc_size] at hA
  have HE : Hid ((formedB n g && decide (∀ i, i < 1 → Ty.ok n.len ((fun _ => t) i) = true)) = okB n g t) := by
    show (formedB n g && decide (∀ i, i < 1 → Ty.ok n.len ((fun _ => t) i) = true)) = okB n g t
    unfold okB
    congr 1
    cases hk : t.ok n.len
    · exact decide_eq_false (fun h => by have := h 0 (by omega); simp only [hk] at this; cases this)
    · exact decide_eq_true (fun _ _ => hk)
  unfold latO tyO at *
  have B2 := Below.next B0 B1
  go_enter Try.func11, Try.ntmps11
  go_wp2_with fail
  refine hA.mono ?_
  rintro r w1 ⟨rfl, hb1⟩
  rw [HE.out]
  go_wp2
  go_ret
  exact ⟨rfl, Below.next B2 hb1⟩
end Go.Proofs.Ytgbillimanpmnaa
