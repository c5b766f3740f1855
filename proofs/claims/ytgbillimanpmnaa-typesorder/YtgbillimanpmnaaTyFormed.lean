/- Layer 2: Formed. -/
import Derived.Test.YtgbillimanpmnaaTyLeaf
namespace Go.Proofs.Ytgbillimanpmnaa
open Go.RowKit

theorem boundsFormed_mk (n : Strs) (g : Grid) (k l h e : Int) (ao : Option Addr) (b o len cap : Nat) (ps : Nat → Ty) (w : World) (hn : n.At w) : Calls Try.prog 70 #[.agg #[.slice n.ao n.len n.cap, .slice g.ao g.len g.cap], .agg #[.int .i64 k, .int .i64 l, .slice ao len cap, .int .i64 h, .int .i64 e]] w fun r w' => r = .returned (.bool (bndI n.len k h e)) ∧ Below w.heap.size w w' :=
  boundsFormed_any n g (.mk k l h e ao b o len cap ps) w hn
theorem fm_eq (N : Nat) (k l h e : Int) (ao : Option Addr) (b o len cap : Nat) (ps : Nat → Ty) (d : Nat) : Ty.fm N (.mk k l h e ao b o len cap ps) d = ((((decide (d ≤ 6) && ((len : Int) == arityI k)) && inR N l) && bndI N k h e) && decide (∀ i, i < len → Ty.fm N (ps i) (d + 1) = true)) := rfl
theorem fm_cases (N : Nat) (k l h e : Int) (ao : Option Addr) (b o len cap : Nat) (ps : Nat → Ty) (d : Nat) :
    (6 < d ∧ Ty.fm N (.mk k l h e ao b o len cap ps) d = false) ∨ (d ≤ 6 ∧ ((len : Int) != arityI k) = true ∧ Ty.fm N (.mk k l h e ao b o len cap ps) d = false) ∨ (d ≤ 6 ∧ ((len : Int) != arityI k) = false ∧ inR N l = false ∧ Ty.fm N (.mk k l h e ao b o len cap ps) d = false) ∨
    (d ≤ 6 ∧ ((len : Int) != arityI k) = false ∧ inR N l = true ∧ bndI N k h e = false ∧ Ty.fm N (.mk k l h e ao b o len cap ps) d = false) ∨ (d ≤ 6 ∧ ((len : Int) != arityI k) = false ∧ inR N l = true ∧ bndI N k h e = true ∧ Ty.fm N (.mk k l h e ao b o len cap ps) d = decide (∀ i, i < len → Ty.fm N (ps i) (d + 1) = true)) := by
  rw [fm_eq]
  by_cases h1 : 6 < d
  · left; exact ⟨h1, by rw [show decide (d ≤ 6) = false from decide_eq_false (by omega)]; rfl⟩
  have h1' : decide (d ≤ 6) = true := decide_eq_true (by omega)
  right
  rw [h1']
  cases h2 : ((len : Int) == arityI k)
  · left; exact ⟨by omega, by simp [bne, h2], rfl⟩
  right
  cases h3 : inR N l
  · left; exact ⟨by omega, by simp [bne, h2], rfl, rfl⟩
  right
  cases h4 : bndI N k h e
  · left; exact ⟨by omega, by simp [bne, h2], rfl, rfl, rfl⟩
  right
  exact ⟨by omega, by simp [bne, h2], rfl, rfl, by simp⟩

set_option maxRecDepth 100000 in
set_option maxHeartbeats 8000000 in
theorem formedT_any (n : Strs) (g : Grid) : ∀ (t : Ty) (d : Nat) (w : World), d ≤ 7 → n.At w → t.At w → Calls Try.prog 50 #[.agg #[.slice n.ao n.len n.cap, .slice g.ao g.len g.cap], .agg #[.int .i64 t.k, .int .i64 t.l, .slice t.ao t.len t.cap, .int .i64 t.h, .int .i64 t.e], .int .i64 d] w fun e w' => e = .returned (.bool (t.fm n.len d)) ∧ Below w.heap.size w w' := by
  intro t
  induction t with
  | dm => intro d w _ _ hAt; exact hAt.elim
  | mk k l h e ao b o len cap ps ih =>
    intro d w hd hn hAt
    show Calls Try.prog 50 #[.agg #[.slice n.ao n.len n.cap, .slice g.ao g.len g.cap], .agg #[.int .i64 k, .int .i64 l, .slice ao len cap, .int .i64 h, .int .i64 e], .int .i64 d] w fun r w' => r = .returned (.bool (Ty.fm n.len (.mk k l h e ao b o len cap ps) d)) ∧ Below w.heap.size w w'
    obtain ⟨L0, X0, B0⟩ := start_lt w n g (.mk k l h e ao b o len cap ps)
    have hn2 := hn.kept B0
    have hA2 := hAt.kept B0
    have hb : len ≤ 9223372036854775807 := hAt.bound
    have hnil : 0 < len → ao = some ⟨b, o, none⟩ := hAt.nil
    unfold latO tyO at *
    have l0 := fun x => Gr.cell x L0.c0
    have l1 := fun x => Gr.cell x L0.c1
    have x0 := fun x => Gr.cell x X0.c0
    have x1 := fun x => Gr.cell x X0.c1
    have x2 := fun x => Gr.cell x X0.c2
    have x3 := fun x => Gr.cell x X0.c3
    have x4c := fun x => Gr.cell x X0.c4
    have hNE : Nonempty (Gr ((w.alloc (.cells #[.slice n.ao n.len n.cap, .slice g.ao g.len g.cap] 25)).alloc (.cells #[.int .i64 k, .int .i64 l, .slice ao len cap, .int .i64 h, .int .i64 e] 28))) := ⟨⟨_, Below.refl _ _⟩⟩
    simp only [Ty.k, Ty.l, Ty.h, Ty.e, Ty.ao, Ty.len, Ty.cap] at B0 L0 X0 hn2 hA2 l0 l1 x0 x1 x2 x3 x4c
    clear hn hAt
    rcases fm_cases n.len k l h e ao b o len cap ps d with ⟨h1, hE⟩ | ⟨h1, h2, hE⟩ | ⟨h1, h2, h3, hE⟩ | ⟨h1, h2, h3, h4, hE⟩ | ⟨h1, h2, h3, h4, hE⟩
    · have d1 : decide ((6 : Int) < d) = true := by simp; omega
      have HE : Hid (Ty.fm n.len (.mk k l h e ao b o len cap ps) d = false) := hE
      clear hE
      go_enter Try.func50, Try.ntmps50
      go_wp2
      refine wp_region_gr (by kernel_rfl) (by kernel_rfl) ?_
      repeat (first | go_big_quiet_step ((first | (go_at_call 68; exact Calls.gr _ (arity_any k _)) | (go_at_call 69; exact Calls.gr _ (isLabel_any n g l _ (hn2.kept (Gr.bl _)))) | (go_at_call 70; exact Calls.gr _ (boundsFormed_mk n g k l h e ao b o len cap ps _ (hn2.kept (Gr.bl _)))))))
      refine wpQuiet_nil ?_
      rintro w4 ⟨x4, rfl⟩
      have B4 := x4.bl
      generalize x4.w = w4 at B4 ⊢
      clear x4 l0 l1 x0 x1 x2 x3 x4c hNE
      go_wp2
      go_ret
      exact ⟨ret_bool HE.out.symm, Below.next B0 B4⟩
    · have d1 : decide ((6 : Int) < d) = false := by simp; omega
      have HE : Hid (Ty.fm n.len (.mk k l h e ao b o len cap ps) d = false) := hE
      clear hE
      go_enter Try.func50, Try.ntmps50
      go_wp2
      refine wp_region_gr (by kernel_rfl) (by kernel_rfl) ?_
      repeat (first | go_big_quiet_step ((first | (go_at_call 68; exact Calls.gr _ (arity_any k _)) | (go_at_call 69; exact Calls.gr _ (isLabel_any n g l _ (hn2.kept (Gr.bl _)))) | (go_at_call 70; exact Calls.gr _ (boundsFormed_mk n g k l h e ao b o len cap ps _ (hn2.kept (Gr.bl _)))))))
      refine wpQuiet_nil ?_
      rintro w4 ⟨x4, rfl⟩
      have B4 := x4.bl
      generalize x4.w = w4 at B4 ⊢
      clear x4 l0 l1 x0 x1 x2 x3 x4c hNE
      go_wp2
      go_ret
      exact ⟨ret_bool HE.out.symm, Below.next B0 B4⟩
    · have d1 : decide ((6 : Int) < d) = false := by simp; omega
      have HE : Hid (Ty.fm n.len (.mk k l h e ao b o len cap ps) d = false) := hE
      clear hE
      go_enter Try.func50, Try.ntmps50
      go_wp2
      refine wp_region_gr (by kernel_rfl) (by kernel_rfl) ?_
      repeat (first | go_big_quiet_step ((first | (go_at_call 68; exact Calls.gr _ (arity_any k _)) | (go_at_call 69; exact Calls.gr _ (isLabel_any n g l _ (hn2.kept (Gr.bl _)))) | (go_at_call 70; exact Calls.gr _ (boundsFormed_mk n g k l h e ao b o len cap ps _ (hn2.kept (Gr.bl _)))))))
      refine wpQuiet_nil ?_
      rintro w4 ⟨x4, rfl⟩
      have B4 := x4.bl
      generalize x4.w = w4 at B4 ⊢
      clear x4 l0 l1 x0 x1 x2 x3 x4c hNE
      go_wp2
      go_ret
      exact ⟨ret_bool HE.out.symm, Below.next B0 B4⟩
    · have d1 : decide ((6 : Int) < d) = false := by simp; omega
      have HE : Hid (Ty.fm n.len (.mk k l h e ao b o len cap ps) d = false) := hE
      clear hE
      go_enter Try.func50, Try.ntmps50
      go_wp2
      refine wp_region_gr (by kernel_rfl) (by kernel_rfl) ?_
      repeat (first | go_big_quiet_step ((first | (go_at_call 68; exact Calls.gr _ (arity_any k _)) | (go_at_call 69; exact Calls.gr _ (isLabel_any n g l _ (hn2.kept (Gr.bl _)))) | (go_at_call 70; exact Calls.gr _ (boundsFormed_mk n g k l h e ao b o len cap ps _ (hn2.kept (Gr.bl _)))))))
      refine wpQuiet_nil ?_
      rintro w4 ⟨x4, rfl⟩
      have B4 := x4.bl
      generalize x4.w = w4 at B4 ⊢
      clear x4 l0 l1 x0 x1 x2 x3 x4c hNE
      go_wp2
      go_ret
      exact ⟨ret_bool HE.out.symm, Below.next B0 B4⟩
    · have d1 : decide ((6 : Int) < d) = false := by simp; omega
      have HE : Hid (Ty.fm n.len (.mk k l h e ao b o len cap ps) d = decide (∀ i, i < len → Ty.fm n.len (ps i) (d + 1) = true)) := hE
      clear hE
      go_enter Try.func50, Try.ntmps50
      go_wp2
      refine wp_region_gr (by kernel_rfl) (by kernel_rfl) ?_
      repeat (first | go_big_quiet_step ((first | (go_at_call 68; exact Calls.gr _ (arity_any k _)) | (go_at_call 69; exact Calls.gr _ (isLabel_any n g l _ (hn2.kept (Gr.bl _)))) | (go_at_call 70; exact Calls.gr _ (boundsFormed_mk n g k l h e ao b o len cap ps _ (hn2.kept (Gr.bl _)))))))
      refine wpQuiet_nil ?_
      rintro w4 ⟨x4, rfl⟩
      have B4 := x4.bl
      generalize x4.w = w4 at B4 ⊢
      clear x4 l0 l1 x0 x1 x2 x3 x4c hNE
      have L4 := L0.kept B4
      have X4 := X0.kept B4
      have B5 := Below.next B0 B4
      have hn4 := hn2.kept B4
      have hA4 := hA2.kept B4
      have x2 : w4.cell? ⟨w.heap.size + 1, 2, none⟩ = some (.slice ao len cap) := X4.c2
      clear L0 X0 B4 hn2 hA2 B0
      go_wp2
      clear h2 h3 h4 d1
      go_loopw [36] (fun i wr => ∃ j : Nat, j ≤ len ∧ i = .int .i64 j ∧ (∀ i, i < j → Ty.fm n.len (ps i) (d + 1) = true) ∧ Below w4.heap.size w4 wr) (fun i _ => len - (intOf i).toNat)
      case atStart => exact ⟨0, Nat.zero_le _, rfl, fun _ h => absurd h (Nat.not_lt_zero _), Below.refl _ _⟩
      case round =>
        obtain ⟨j, hj, rfl, hdone, hB⟩ := hrel
        have HD : Hid (∀ i, i < j → Ty.fm n.len (ps i) (d + 1) = true) := hdone
        clear hdone
        by_cases hlt : j < len
        · have ij : (j : Int) < len := by omega
          have a0 := hnil (by omega)
          subst a0
          have hA5 := hA4.kept hB
          have C : C5 wr b (o + j * 5) (ps j) := hA5.cells hlt
          have P : (ps j).At wr := hA5.part hlt
          have N0 := Bx.new wr (ps j)
          have B6 := below_alloc wr (.cells #[.int .i64 (ps j).k, .int .i64 (ps j).l, .slice (ps j).ao (ps j).len (ps j).cap, .int .i64 (ps j).h, .int .i64 (ps j).e] 28)
          have L5 := (L4.kept hB).kept B6
          have y0 := C.c0
          have y1 := C.c1
          have y2 := C.c2
          have y3 := C.c3
          have y4 := C.c4
          have l0 := L5.c0
          have l1 := L5.c1
          clear C hA5
          have e1 : ((d + 1 : Nat) : Int) = d + 1 := by omega
          have hi := ih j (d + 1) _ (by omega) ((hn4.kept hB).kept B6) (P.kept B6)
          rw [e1] at hi
          go_wp2_with fail
          refine hi.mono ?_
          rintro r w6 ⟨rfl, hb6⟩
          have B7 := Below.next hB (Below.next B6 hb6)
          clear y0 y1 y2 y3 y4 l0 l1 L5 hi P
          cases hf : Ty.fm n.len (ps j) (d + 1)
          · go_wp2
            go_ret
            exact ⟨ret_bool (by rw [HE.out]; exact (decide_eq_false (fun hh => by rw [hh j hlt] at hf; cases hf)).symm), Below.next B5 B7⟩
          · go_wp2
            go_roundw
            case rel => exact ⟨j + 1, by omega, by go_num, fun i hi => (by
                by_cases e : i = j
                · subst e; exact hf
                · exact HD.out i (by omega)), B7⟩
            case measure => simp [intOf]; omega
        · have e : len = j := by omega
          subst e
          have dl : ¬ (len : Int) < len := by omega
          go_wp2
          go_ret
          exact ⟨ret_bool (by rw [HE.out]; exact (decide_eq_true HD.out).symm), Below.next B5 hB⟩
end Go.Proofs.Ytgbillimanpmnaa
