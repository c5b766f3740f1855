/- Layer 2, the reference: Formed. -/
import Derived.Test.YtdplabhgdonbiaaDoorP10
import Derived.Test.YtdplabhgdonbiaaDoorP12
namespace Go.Proofs.YtdplabhgdonbiaaDoor
open Go.RowKit

set_option maxHeartbeats 1000000 in
theorem rparts_any (k : Int) (w : World) : Calls Tryd.prog 91 #[.int .i64 k] w fun e w' => e = .returned (.int .i64 (arityI k)) ∧ Below w.heap.size w w' := by
  unfold arityI
  by_cases h1 : k = 1
  · subst h1
    go_enter Tryd.func91, Tryd.ntmps91
    go_wp2
    go_ret
    exact ⟨rfl, Below.refl _ _⟩
  by_cases h2 : k = 2
  · subst h2
    go_enter Tryd.func91, Tryd.ntmps91
    go_wp2
    go_ret
    exact ⟨rfl, Below.refl _ _⟩
  by_cases h5 : k = 5
  · subst h5
    go_enter Tryd.func91, Tryd.ntmps91
    go_wp2
    go_ret
    exact ⟨rfl, Below.refl _ _⟩
  by_cases h3 : k = 3
  · subst h3
    go_enter Tryd.func91, Tryd.ntmps91
    go_wp2
    go_ret
    exact ⟨rfl, Below.refl _ _⟩
  by_cases h4 : k = 4
  · subst h4
    go_enter Tryd.func91, Tryd.ntmps91
    go_wp2
    go_ret
    exact ⟨rfl, Below.refl _ _⟩
  rw [if_neg h1, if_neg h2, if_neg h5, if_neg h3, if_neg h4]
  have b1 : (k == 1) = false := beq_eq_false_iff_ne.2 h1
  have b2 : (k == 2) = false := beq_eq_false_iff_ne.2 h2
  have b3 : (k == 3) = false := beq_eq_false_iff_ne.2 h3
  have b4 : (k == 4) = false := beq_eq_false_iff_ne.2 h4
  have b5 : (k == 5) = false := beq_eq_false_iff_ne.2 h5
  clear h1 h2 h3 h4 h5
  go_enter Tryd.func91, Tryd.ntmps91
  go_wp2
  go_ret
  exact ⟨rfl, Below.refl _ _⟩

/-- Formed, but for the numbers of nodes and how deep it nests. -/
def Ty.shp (N : Nat) : Ty → Bool
  | .dm => false
  | .mk k l h e _ _ _ len _ ps => ((((len : Int) == arityI k) && inR N l) && bndI N k h e) && decide (∀ i, i < len → Ty.shp N (ps i) = true)
theorem shp_eq (N : Nat) (k l h e : Int) (ao : Option Addr) (b o len cap : Nat) (ps : Nat → Ty) : Ty.shp N (.mk k l h e ao b o len cap ps) = (((((len : Int) == arityI k) && inR N l) && bndI N k h e) && decide (∀ i, i < len → Ty.shp N (ps i) = true)) := rfl
def maxTo (f : Nat → Nat) : Nat → Nat
  | 0 => 0
  | k + 1 => max (maxTo f k) (f k)
/-- How deep it nests. -/
def Ty.deep : Ty → Nat
  | .dm => 1
  | .mk _ _ _ _ _ _ _ len _ ps => maxTo (fun i => Ty.deep (ps i)) len + 1
theorem maxTo_le (f : Nat → Nat) (m : Nat) : ∀ k, maxTo f k ≤ m ↔ ∀ i, i < k → f i ≤ m
  | 0 => ⟨fun _ _ h => absurd h (Nat.not_lt_zero _), fun _ => Nat.zero_le _⟩
  | k + 1 => by
    have ih := maxTo_le f m k
    show max (maxTo f k) (f k) ≤ m ↔ _
    constructor
    · intro h i hi
      by_cases e : i = k
      · subst e; omega
      · exact ih.1 (by omega) i (by omega)
    · intro h
      have h1 := ih.2 (fun i hi => h i (by omega))
      have h2 := h k (by omega)
      omega
theorem maxTo_sum (f h : Nat → Nat) : ∀ k, (∀ i, i < k → f i ≤ h i) → maxTo f k ≤ sumTo h k
  | 0, _ => Nat.le_refl _
  | k + 1, hh => by
    have h1 := maxTo_sum f h k (fun i hi => hh i (by omega))
    have h2 := hh k (by omega)
    show max (maxTo f k) (f k) ≤ sumTo h k + h k
    omega
theorem deep_nodes : ∀ t : Ty, t.deep ≤ t.nodes := by
  intro t
  induction t with
  | dm => exact Nat.le_refl _
  | mk k l h e ao b o len cap ps ih =>
    show maxTo (fun i => (ps i).deep) len + 1 ≤ 1 + sumTo (fun i => (ps i).nodes) len
    have := maxTo_sum (fun i => (ps i).deep) (fun i => (ps i).nodes) len (fun i _ => ih i)
    omega
theorem fm_shp (N : Nat) : ∀ (t : Ty) (d : Nat), t.fm N d = (t.shp N && decide (d + t.deep ≤ 7)) := by
  intro t
  induction t with
  | dm => intro d; rfl
  | mk k l h e ao b o len cap ps ih =>
    intro d
    rw [fm_eq, shp_eq, Bool.eq_iff_iff]
    simp only [Bool.and_eq_true, decide_eq_true_eq]
    show _ ↔ _ ∧ d + (maxTo (fun i => (ps i).deep) len + 1) ≤ 7
    have hm := maxTo_le (fun i => (ps i).deep) (6 - d) len
    constructor
    · rintro ⟨⟨⟨⟨h1, h2⟩, h3⟩, h4⟩, h5⟩
      have h6 : ∀ i, i < len → (ps i).shp N = true ∧ d + 1 + (ps i).deep ≤ 7 := fun i hi => by
        have := h5 i hi
        rw [ih i, Bool.and_eq_true, decide_eq_true_eq] at this
        exact this
      refine ⟨⟨⟨⟨h2, h3⟩, h4⟩, fun i hi => (h6 i hi).1⟩, ?_⟩
      have := hm.2 (fun i hi => by have := (h6 i hi).2; show (ps i).deep ≤ _; omega)
      omega
    · rintro ⟨⟨⟨⟨h2, h3⟩, h4⟩, h5⟩, h6⟩
      refine ⟨⟨⟨⟨by omega, h2⟩, h3⟩, h4⟩, fun i hi => ?_⟩
      rw [ih i, Bool.and_eq_true, decide_eq_true_eq]
      have h7 : (ps i).deep ≤ 6 - d := hm.1 (by omega) i hi
      exact ⟨h5 i hi, by omega⟩
theorem ok_shp (N : Nat) (t : Ty) : t.ok N = ((decide (t.nodes ≤ 40) && decide (t.deep ≤ 6)) && t.shp N) := by
  unfold Ty.ok
  rw [fm_shp, show decide (1 + t.deep ≤ 7) = decide (t.deep ≤ 6) from decide_eq_decide.2 (by omega)]
  cases t.shp N <;> cases decide (t.nodes ≤ 40) <;> cases decide (t.deep ≤ 6) <;> rfl

theorem shp_cases (N : Nat) (k l h e : Int) (ao : Option Addr) (b o len cap : Nat) (ps : Nat → Ty) : ((arityI k != (len : Int)) = true ∧ Ty.shp N (.mk k l h e ao b o len cap ps) = false) ∨ ((arityI k != (len : Int)) = false ∧ inR N l = false ∧ Ty.shp N (.mk k l h e ao b o len cap ps) = false) ∨ (k = 4 ∧ (arityI k != (len : Int)) = false ∧ inR N l = true ∧ inR N h = false ∧ Ty.shp N (.mk k l h e ao b o len cap ps) = false) ∨ (k = 4 ∧ (arityI k != (len : Int)) = false ∧ inR N l = true ∧ inR N h = true ∧ (e != -1) = true ∧ inR N e = false ∧ Ty.shp N (.mk k l h e ao b o len cap ps) = false) ∨ (k = 4 ∧ (arityI k != (len : Int)) = false ∧ inR N l = true ∧ inR N h = true ∧ (e != -1) = false ∧ Ty.shp N (.mk k l h e ao b o len cap ps) = decide (∀ i, i < len → Ty.shp N (ps i) = true)) ∨ (k = 4 ∧ (arityI k != (len : Int)) = false ∧ inR N l = true ∧ inR N h = true ∧ (e != -1) = true ∧ inR N e = true ∧ Ty.shp N (.mk k l h e ao b o len cap ps) = decide (∀ i, i < len → Ty.shp N (ps i) = true)) ∨ ((k == 4) = false ∧ (arityI k != (len : Int)) = false ∧ inR N l = true ∧ (h != 0) = true ∧ Ty.shp N (.mk k l h e ao b o len cap ps) = false) ∨ ((k == 4) = false ∧ (arityI k != (len : Int)) = false ∧ inR N l = true ∧ (h != 0) = false ∧ (e != 0) = true ∧ Ty.shp N (.mk k l h e ao b o len cap ps) = false) ∨ ((k == 4) = false ∧ (arityI k != (len : Int)) = false ∧ inR N l = true ∧ (h != 0) = false ∧ (e != 0) = false ∧ Ty.shp N (.mk k l h e ao b o len cap ps) = decide (∀ i, i < len → Ty.shp N (ps i) = true)) := by
  rw [shp_eq]
  have hb : ((len : Int) == arityI k) = !(arityI k != (len : Int)) := by
    by_cases hq : (len : Int) = arityI k
    · rw [hq]; simp
    · rw [beq_eq_false_iff_ne.2 hq, bne_iff_ne.2 (fun h => hq h.symm)]; rfl
  rw [hb]
  cases h1 : (arityI k != (len : Int))
  · right
    cases h2 : inR N l
    · left; exact ⟨rfl, rfl, by simp⟩
    right
    unfold bndI
    by_cases k4 : k = 4
    · rw [if_pos k4]
      cases h3 : inR N h
      · left; exact ⟨k4, rfl, rfl, rfl, by simp⟩
      right
      have he : (e == -1) = !(e != -1) := by simp [bne]
      rw [he]
      cases h4 : (e != -1)
      · right; left; exact ⟨k4, rfl, rfl, rfl, rfl, by simp⟩
      · cases h5 : inR N e
        · left; exact ⟨k4, rfl, rfl, rfl, rfl, rfl, by simp⟩
        · right; right; left; exact ⟨k4, rfl, rfl, rfl, rfl, rfl, by simp⟩
    · rw [if_neg k4]
      have hk : (k == 4) = false := beq_eq_false_iff_ne.2 k4
      have hh : (h == 0) = !(h != 0) := by simp [bne]
      have he : (e == 0) = !(e != 0) := by simp [bne]
      rw [hh, he]
      right; right; right; right
      cases h3 : (h != 0)
      · right
        cases h4 : (e != 0)
        · right; exact ⟨hk, rfl, rfl, rfl, rfl, by simp⟩
        · left; exact ⟨hk, rfl, rfl, rfl, rfl, by simp⟩
      · left; exact ⟨hk, rfl, rfl, rfl, by simp⟩
  · left; exact ⟨rfl, by simp⟩

theorem lab_any (n : Strs) (g : Grid) (a : Int) (w : World) : Calls Tryd.prog 47 #[.agg #[.slice n.ao n.len n.cap, .slice g.ao g.len g.cap], .int .i64 a] w fun e w' => e = .returned (.bool (inR n.len a)) ∧ Below w.heap.size w w' := label_any n g a w

set_option maxRecDepth 100000 in
set_option maxHeartbeats 16000000 in
theorem shaped2_any (n : Strs) (g : Grid) : ∀ (t : Ty) (w : World), n.At w → t.At w → Calls Tryd.prog 72 #[.agg #[.slice n.ao n.len n.cap, .slice g.ao g.len g.cap], .agg #[.int .i64 t.k, .int .i64 t.l, .slice t.ao t.len t.cap, .int .i64 t.h, .int .i64 t.e]] w fun e w' => e = .returned (.bool (t.shp n.len)) ∧ Below w.heap.size w w' := by
  intro t
  induction t with
  | dm => intro w _ hAt; exact hAt.elim
  | mk k l h e ao b o len cap ps ih =>
    intro w hn hAt
    show Calls Tryd.prog 72 #[.agg #[.slice n.ao n.len n.cap, .slice g.ao g.len g.cap], .agg #[.int .i64 k, .int .i64 l, .slice ao len cap, .int .i64 h, .int .i64 e]] w fun r w' => r = .returned (.bool (Ty.shp n.len (.mk k l h e ao b o len cap ps))) ∧ Below w.heap.size w w'
    obtain ⟨L0, X0, B0⟩ := start_lt w n g (.mk k l h e ao b o len cap ps)
    have hn2 := hn.kept B0
    have hA2 := hAt.kept B0
    have hb : len ≤ 9223372036854775807 := hAt.bound
    have hnil : 0 < len → ao = some ⟨b, o, none⟩ := hAt.nil
    unfold latO tyO at *
    have gl0 := fun x => Gr.cell x L0.c0
    have gl1 := fun x => Gr.cell x L0.c1
    have gx0 := fun x => Gr.cell x X0.c0
    have gx1 := fun x => Gr.cell x X0.c1
    have gx2 := fun x => Gr.cell x X0.c2
    have gx3 := fun x => Gr.cell x X0.c3
    have gx4 := fun x => Gr.cell x X0.c4
    have hNE : Nonempty (Gr ((w.alloc (.cells #[.slice n.ao n.len n.cap, .slice g.ao g.len g.cap] 25)).alloc (.cells #[.int .i64 k, .int .i64 l, .slice ao len cap, .int .i64 h, .int .i64 e] 37))) := ⟨⟨_, Below.refl _ _⟩⟩
    simp only [Ty.k, Ty.l, Ty.h, Ty.e, Ty.ao, Ty.len, Ty.cap] at B0 L0 X0 hn2 hA2 gl0 gl1 gx0 gx1 gx2 gx3 gx4
    clear hn hAt
    rcases shp_cases n.len k l h e ao b o len cap ps with ⟨h1, hE⟩ | ⟨h1, h2, hE⟩ | ⟨k4, h1, h2, h3, hE⟩ | ⟨k4, h1, h2, h3, h4, h5, hE⟩ | ⟨k4, h1, h2, h3, h4, hE⟩ | ⟨k4, h1, h2, h3, h4, h5, hE⟩ | ⟨k4, h1, h2, h3, hE⟩ | ⟨k4, h1, h2, h3, h4, hE⟩ | ⟨k4, h1, h2, h3, h4, hE⟩
    · have HE : Hid (Ty.shp n.len (.mk k l h e ao b o len cap ps) = false) := hE
      clear hE
      go_enter Tryd.func72, Tryd.ntmps72
      go_wp2
      refine wp_region_gr (by kernel_rfl) (by kernel_rfl) ?_
      repeat (first | go_big_quiet_step ((first | (go_at_call 91; exact Calls.gr _ (rparts_any k _)) | (go_at_call 47; exact Calls.gr _ (lab_any n g l _)))))
      refine wpQuiet_nil ?_
      rintro w4 ⟨x4w, rfl⟩
      have B4 := x4w.bl
      generalize x4w.w = w4 at B4 ⊢
      clear x4w hNE gl0 gl1 gx0 gx1 gx2 gx3 gx4
      have L4 := L0.kept B4
      have X4 := X0.kept B4
      have A4 := hA2.kept B4
      have N4 := hn2.kept B4
      have B5 := Below.next B0 B4
      clear L0 X0 hA2 hn2 B0 B4
      have l0 := L4.c0
      have l1 := L4.c1
      have x0 := X4.c0
      have x2 := X4.c2
      have x3 := X4.c3
      have x4 := X4.c4
      simp only [Ty.k, Ty.h, Ty.e, Ty.ao, Ty.len, Ty.cap] at x0 x2 x3 x4
      go_wp2
      go_ret
      exact ⟨ret_bool HE.out.symm, B5⟩
    · have HE : Hid (Ty.shp n.len (.mk k l h e ao b o len cap ps) = false) := hE
      clear hE
      go_enter Tryd.func72, Tryd.ntmps72
      go_wp2
      refine wp_region_gr (by kernel_rfl) (by kernel_rfl) ?_
      repeat (first | go_big_quiet_step ((first | (go_at_call 91; exact Calls.gr _ (rparts_any k _)) | (go_at_call 47; exact Calls.gr _ (lab_any n g l _)))))
      refine wpQuiet_nil ?_
      rintro w4 ⟨x4w, rfl⟩
      have B4 := x4w.bl
      generalize x4w.w = w4 at B4 ⊢
      clear x4w hNE gl0 gl1 gx0 gx1 gx2 gx3 gx4
      have L4 := L0.kept B4
      have X4 := X0.kept B4
      have A4 := hA2.kept B4
      have N4 := hn2.kept B4
      have B5 := Below.next B0 B4
      clear L0 X0 hA2 hn2 B0 B4
      have l0 := L4.c0
      have l1 := L4.c1
      have x0 := X4.c0
      have x2 := X4.c2
      have x3 := X4.c3
      have x4 := X4.c4
      simp only [Ty.k, Ty.h, Ty.e, Ty.ao, Ty.len, Ty.cap] at x0 x2 x3 x4
      go_wp2
      go_ret
      exact ⟨ret_bool HE.out.symm, B5⟩
    · subst k4
      have HE : Hid (Ty.shp n.len (.mk 4 l h e ao b o len cap ps) = false) := hE
      clear hE
      go_enter Tryd.func72, Tryd.ntmps72
      go_wp2
      refine wp_region_gr (by kernel_rfl) (by kernel_rfl) ?_
      repeat (first | go_big_quiet_step ((first | (go_at_call 91; exact Calls.gr _ (rparts_any 4 _)) | (go_at_call 47; exact Calls.gr _ (lab_any n g l _)))))
      refine wpQuiet_nil ?_
      rintro w4 ⟨x4w, rfl⟩
      have B4 := x4w.bl
      generalize x4w.w = w4 at B4 ⊢
      clear x4w hNE gl0 gl1 gx0 gx1 gx2 gx3 gx4
      have L4 := L0.kept B4
      have X4 := X0.kept B4
      have A4 := hA2.kept B4
      have N4 := hn2.kept B4
      have B5 := Below.next B0 B4
      clear L0 X0 hA2 hn2 B0 B4
      have l0 := L4.c0
      have l1 := L4.c1
      have x0 := X4.c0
      have x2 := X4.c2
      have x3 := X4.c3
      have x4 := X4.c4
      simp only [Ty.k, Ty.h, Ty.e, Ty.ao, Ty.len, Ty.cap] at x0 x2 x3 x4
      go_wp2_with fail
      refine (lab_any n g h _).mono ?_
      rw [h3]
      rintro r w5 ⟨rfl, hb5⟩
      have L5 := L4.kept hb5
      have X5 := X4.kept hb5
      have A5 := A4.kept hb5
      have N5 := N4.kept hb5
      have B6 := Below.next B5 hb5
      clear l0 l1 x0 x2 x3 x4
      have l0 := L5.c0
      have l1 := L5.c1
      have x0 := X5.c0
      have x2 := X5.c2
      have x3 := X5.c3
      have x4 := X5.c4
      simp only [Ty.k, Ty.h, Ty.e, Ty.ao, Ty.len, Ty.cap] at x0 x2 x3 x4
      go_wp2
      go_ret
      exact ⟨ret_bool HE.out.symm, B6⟩
    · subst k4
      have HE : Hid (Ty.shp n.len (.mk 4 l h e ao b o len cap ps) = false) := hE
      clear hE
      go_enter Tryd.func72, Tryd.ntmps72
      go_wp2
      refine wp_region_gr (by kernel_rfl) (by kernel_rfl) ?_
      repeat (first | go_big_quiet_step ((first | (go_at_call 91; exact Calls.gr _ (rparts_any 4 _)) | (go_at_call 47; exact Calls.gr _ (lab_any n g l _)))))
      refine wpQuiet_nil ?_
      rintro w4 ⟨x4w, rfl⟩
      have B4 := x4w.bl
      generalize x4w.w = w4 at B4 ⊢
      clear x4w hNE gl0 gl1 gx0 gx1 gx2 gx3 gx4
      have L4 := L0.kept B4
      have X4 := X0.kept B4
      have A4 := hA2.kept B4
      have N4 := hn2.kept B4
      have B5 := Below.next B0 B4
      clear L0 X0 hA2 hn2 B0 B4
      have l0 := L4.c0
      have l1 := L4.c1
      have x0 := X4.c0
      have x2 := X4.c2
      have x3 := X4.c3
      have x4 := X4.c4
      simp only [Ty.k, Ty.h, Ty.e, Ty.ao, Ty.len, Ty.cap] at x0 x2 x3 x4
      go_wp2_with fail
      refine (lab_any n g h _).mono ?_
      rw [h3]
      rintro r w5 ⟨rfl, hb5⟩
      have L5 := L4.kept hb5
      have X5 := X4.kept hb5
      have A5 := A4.kept hb5
      have N5 := N4.kept hb5
      have B6 := Below.next B5 hb5
      clear l0 l1 x0 x2 x3 x4
      have l0 := L5.c0
      have l1 := L5.c1
      have x0 := X5.c0
      have x2 := X5.c2
      have x3 := X5.c3
      have x4 := X5.c4
      simp only [Ty.k, Ty.h, Ty.e, Ty.ao, Ty.len, Ty.cap] at x0 x2 x3 x4
      go_wp2_with fail
      refine (lab_any n g e _).mono ?_
      rw [h5]
      rintro r w6 ⟨rfl, hb6⟩
      have L6 := L5.kept hb6
      have X6 := X5.kept hb6
      have A6 := A5.kept hb6
      have N6 := N5.kept hb6
      have B7 := Below.next B6 hb6
      clear l0 l1 x0 x2 x3 x4
      have l0 := L6.c0
      have l1 := L6.c1
      have x0 := X6.c0
      have x2 := X6.c2
      have x3 := X6.c3
      have x4 := X6.c4
      simp only [Ty.k, Ty.h, Ty.e, Ty.ao, Ty.len, Ty.cap] at x0 x2 x3 x4
      go_wp2
      go_ret
      exact ⟨ret_bool HE.out.symm, B7⟩
    · subst k4
      have HE : Hid (Ty.shp n.len (.mk 4 l h e ao b o len cap ps) = decide (∀ i, i < len → Ty.shp n.len (ps i) = true)) := hE
      clear hE
      go_enter Tryd.func72, Tryd.ntmps72
      go_wp2
      refine wp_region_gr (by kernel_rfl) (by kernel_rfl) ?_
      repeat (first | go_big_quiet_step ((first | (go_at_call 91; exact Calls.gr _ (rparts_any 4 _)) | (go_at_call 47; exact Calls.gr _ (lab_any n g l _)))))
      refine wpQuiet_nil ?_
      rintro w4 ⟨x4w, rfl⟩
      have B4 := x4w.bl
      generalize x4w.w = w4 at B4 ⊢
      clear x4w hNE gl0 gl1 gx0 gx1 gx2 gx3 gx4
      have L4 := L0.kept B4
      have X4 := X0.kept B4
      have A4 := hA2.kept B4
      have N4 := hn2.kept B4
      have B5 := Below.next B0 B4
      clear L0 X0 hA2 hn2 B0 B4
      have l0 := L4.c0
      have l1 := L4.c1
      have x0 := X4.c0
      have x2 := X4.c2
      have x3 := X4.c3
      have x4 := X4.c4
      simp only [Ty.k, Ty.h, Ty.e, Ty.ao, Ty.len, Ty.cap] at x0 x2 x3 x4
      go_wp2_with fail
      refine (lab_any n g h _).mono ?_
      rw [h3]
      rintro r w5 ⟨rfl, hb5⟩
      have L5 := L4.kept hb5
      have X5 := X4.kept hb5
      have A5 := A4.kept hb5
      have N5 := N4.kept hb5
      have B6 := Below.next B5 hb5
      clear l0 l1 x0 x2 x3 x4
      have l0 := L5.c0
      have l1 := L5.c1
      have x0 := X5.c0
      have x2 := X5.c2
      have x3 := X5.c3
      have x4 := X5.c4
      simp only [Ty.k, Ty.h, Ty.e, Ty.ao, Ty.len, Ty.cap] at x0 x2 x3 x4
      go_wp2
      clear l0 l1 x0 x2 x3 x4
      try clear h1
      try clear h2
      try clear h3
      try clear h4
      try clear h5
      go_loopw [5] (fun i wr => ∃ j : Nat, j ≤ len ∧ i = .int .i64 j ∧ (∀ i, i < j → Ty.shp n.len (ps i) = true) ∧ Below w5.heap.size w5 wr) (fun i _ => len - (intOf i).toNat)
      case atStart => exact ⟨0, Nat.zero_le _, rfl, fun _ h => absurd h (Nat.not_lt_zero _), Below.refl _ _⟩
      case round =>
        obtain ⟨j, hj, rfl, hdone, hB⟩ := hrel
        have HD : Hid (∀ i, i < j → Ty.shp n.len (ps i) = true) := hdone
        clear hdone
        have L7 := L5.kept hB
        have X7 := X5.kept hB
        have x2 : wr.cell? ⟨w.heap.size + 1, 2, none⟩ = some (.slice ao len cap) := X7.c2
        by_cases hlt : j < len
        · have ij : (j : Int) < len := by omega
          have a0 := hnil (by omega)
          subst a0
          have hA7 := A5.kept hB
          have C : C5 wr b (o + j * 5) (ps j) := hA7.cells hlt
          have P : (ps j).At wr := hA7.part hlt
          have gl0 := fun x => Gr.cell x L7.c0
          have gl1 := fun x => Gr.cell x L7.c1
          have gx2 := fun x => Gr.cell x x2
          have y0 := fun x => Gr.cell x C.c0
          have y1 := fun x => Gr.cell x C.c1
          have y2 := fun x => Gr.cell x C.c2
          have y3 := fun x => Gr.cell x C.c3
          have y4 := fun x => Gr.cell x C.c4
          have hNE : Nonempty (Gr wr) := ⟨⟨_, Below.refl _ _⟩⟩
          have hi := fun u (hu : Below wr.heap.size wr u) => ih j u (N5.kept (Below.next hB hu)) (P.kept hu)
          clear C hA7
          go_wp2
          refine wp_region_gr (by kernel_rfl) (by kernel_rfl) ?_
          repeat (first | go_big_quiet_step ((go_at_call 72; exact Calls.gr _ (hi _ (Gr.bl _)))))
          refine wpQuiet_nil ?_
          rintro w8 ⟨x8w, rfl⟩
          have B8 := x8w.bl
          generalize x8w.w = w8 at B8 ⊢
          clear x8w hNE gl0 gl1 gx2 y0 y1 y2 y3 y4 hi P x2
          have B9 := Below.next hB B8
          cases hf : Ty.shp n.len (ps j)
          · go_wp2
            go_ret
            exact ⟨ret_bool (by rw [HE.out]; exact (decide_eq_false (fun hh => by rw [hh j hlt] at hf; cases hf)).symm), Below.next B6 B9⟩
          · go_wp2
            go_roundw
            case rel => exact ⟨j + 1, by omega, by go_num, fun i hi => (by
                by_cases e : i = j
                · subst e; exact hf
                · exact HD.out i (by omega)), B9⟩
            case measure => simp [intOf]; omega
        · have e : len = j := by omega
          subst e
          have dl : ¬ (len : Int) < len := by omega
          go_wp2
          go_ret
          exact ⟨ret_bool (by rw [HE.out]; exact (decide_eq_true HD.out).symm), Below.next B6 hB⟩
    · subst k4
      have HE : Hid (Ty.shp n.len (.mk 4 l h e ao b o len cap ps) = decide (∀ i, i < len → Ty.shp n.len (ps i) = true)) := hE
      clear hE
      go_enter Tryd.func72, Tryd.ntmps72
      go_wp2
      refine wp_region_gr (by kernel_rfl) (by kernel_rfl) ?_
      repeat (first | go_big_quiet_step ((first | (go_at_call 91; exact Calls.gr _ (rparts_any 4 _)) | (go_at_call 47; exact Calls.gr _ (lab_any n g l _)))))
      refine wpQuiet_nil ?_
      rintro w4 ⟨x4w, rfl⟩
      have B4 := x4w.bl
      generalize x4w.w = w4 at B4 ⊢
      clear x4w hNE gl0 gl1 gx0 gx1 gx2 gx3 gx4
      have L4 := L0.kept B4
      have X4 := X0.kept B4
      have A4 := hA2.kept B4
      have N4 := hn2.kept B4
      have B5 := Below.next B0 B4
      clear L0 X0 hA2 hn2 B0 B4
      have l0 := L4.c0
      have l1 := L4.c1
      have x0 := X4.c0
      have x2 := X4.c2
      have x3 := X4.c3
      have x4 := X4.c4
      simp only [Ty.k, Ty.h, Ty.e, Ty.ao, Ty.len, Ty.cap] at x0 x2 x3 x4
      go_wp2_with fail
      refine (lab_any n g h _).mono ?_
      rw [h3]
      rintro r w5 ⟨rfl, hb5⟩
      have L5 := L4.kept hb5
      have X5 := X4.kept hb5
      have A5 := A4.kept hb5
      have N5 := N4.kept hb5
      have B6 := Below.next B5 hb5
      clear l0 l1 x0 x2 x3 x4
      have l0 := L5.c0
      have l1 := L5.c1
      have x0 := X5.c0
      have x2 := X5.c2
      have x3 := X5.c3
      have x4 := X5.c4
      simp only [Ty.k, Ty.h, Ty.e, Ty.ao, Ty.len, Ty.cap] at x0 x2 x3 x4
      go_wp2_with fail
      refine (lab_any n g e _).mono ?_
      rw [h5]
      rintro r w6 ⟨rfl, hb6⟩
      have L6 := L5.kept hb6
      have X6 := X5.kept hb6
      have A6 := A5.kept hb6
      have N6 := N5.kept hb6
      have B7 := Below.next B6 hb6
      clear l0 l1 x0 x2 x3 x4
      have l0 := L6.c0
      have l1 := L6.c1
      have x0 := X6.c0
      have x2 := X6.c2
      have x3 := X6.c3
      have x4 := X6.c4
      simp only [Ty.k, Ty.h, Ty.e, Ty.ao, Ty.len, Ty.cap] at x0 x2 x3 x4
      go_wp2
      clear l0 l1 x0 x2 x3 x4
      try clear h1
      try clear h2
      try clear h3
      try clear h4
      try clear h5
      go_loopw [5] (fun i wr => ∃ j : Nat, j ≤ len ∧ i = .int .i64 j ∧ (∀ i, i < j → Ty.shp n.len (ps i) = true) ∧ Below w6.heap.size w6 wr) (fun i _ => len - (intOf i).toNat)
      case atStart => exact ⟨0, Nat.zero_le _, rfl, fun _ h => absurd h (Nat.not_lt_zero _), Below.refl _ _⟩
      case round =>
        obtain ⟨j, hj, rfl, hdone, hB⟩ := hrel
        have HD : Hid (∀ i, i < j → Ty.shp n.len (ps i) = true) := hdone
        clear hdone
        have L7 := L6.kept hB
        have X7 := X6.kept hB
        have x2 : wr.cell? ⟨w.heap.size + 1, 2, none⟩ = some (.slice ao len cap) := X7.c2
        by_cases hlt : j < len
        · have ij : (j : Int) < len := by omega
          have a0 := hnil (by omega)
          subst a0
          have hA7 := A6.kept hB
          have C : C5 wr b (o + j * 5) (ps j) := hA7.cells hlt
          have P : (ps j).At wr := hA7.part hlt
          have gl0 := fun x => Gr.cell x L7.c0
          have gl1 := fun x => Gr.cell x L7.c1
          have gx2 := fun x => Gr.cell x x2
          have y0 := fun x => Gr.cell x C.c0
          have y1 := fun x => Gr.cell x C.c1
          have y2 := fun x => Gr.cell x C.c2
          have y3 := fun x => Gr.cell x C.c3
          have y4 := fun x => Gr.cell x C.c4
          have hNE : Nonempty (Gr wr) := ⟨⟨_, Below.refl _ _⟩⟩
          have hi := fun u (hu : Below wr.heap.size wr u) => ih j u (N6.kept (Below.next hB hu)) (P.kept hu)
          clear C hA7
          go_wp2
          refine wp_region_gr (by kernel_rfl) (by kernel_rfl) ?_
          repeat (first | go_big_quiet_step ((go_at_call 72; exact Calls.gr _ (hi _ (Gr.bl _)))))
          refine wpQuiet_nil ?_
          rintro w8 ⟨x8w, rfl⟩
          have B8 := x8w.bl
          generalize x8w.w = w8 at B8 ⊢
          clear x8w hNE gl0 gl1 gx2 y0 y1 y2 y3 y4 hi P x2
          have B9 := Below.next hB B8
          cases hf : Ty.shp n.len (ps j)
          · go_wp2
            go_ret
            exact ⟨ret_bool (by rw [HE.out]; exact (decide_eq_false (fun hh => by rw [hh j hlt] at hf; cases hf)).symm), Below.next B7 B9⟩
          · go_wp2
            go_roundw
            case rel => exact ⟨j + 1, by omega, by go_num, fun i hi => (by
                by_cases e : i = j
                · subst e; exact hf
                · exact HD.out i (by omega)), B9⟩
            case measure => simp [intOf]; omega
        · have e : len = j := by omega
          subst e
          have dl : ¬ (len : Int) < len := by omega
          go_wp2
          go_ret
          exact ⟨ret_bool (by rw [HE.out]; exact (decide_eq_true HD.out).symm), Below.next B7 hB⟩
    · have k4n : (k != 4) = true := by simp [bne, k4]
      have HE : Hid (Ty.shp n.len (.mk k l h e ao b o len cap ps) = false) := hE
      clear hE
      go_enter Tryd.func72, Tryd.ntmps72
      go_wp2
      refine wp_region_gr (by kernel_rfl) (by kernel_rfl) ?_
      repeat (first | go_big_quiet_step ((first | (go_at_call 91; exact Calls.gr _ (rparts_any k _)) | (go_at_call 47; exact Calls.gr _ (lab_any n g l _)))))
      refine wpQuiet_nil ?_
      rintro w4 ⟨x4w, rfl⟩
      have B4 := x4w.bl
      generalize x4w.w = w4 at B4 ⊢
      clear x4w hNE gl0 gl1 gx0 gx1 gx2 gx3 gx4
      have L4 := L0.kept B4
      have X4 := X0.kept B4
      have A4 := hA2.kept B4
      have N4 := hn2.kept B4
      have B5 := Below.next B0 B4
      clear L0 X0 hA2 hn2 B0 B4
      have l0 := L4.c0
      have l1 := L4.c1
      have x0 := X4.c0
      have x2 := X4.c2
      have x3 := X4.c3
      have x4 := X4.c4
      simp only [Ty.k, Ty.h, Ty.e, Ty.ao, Ty.len, Ty.cap] at x0 x2 x3 x4
      go_wp2
      go_ret
      exact ⟨ret_bool HE.out.symm, B5⟩
    · have k4n : (k != 4) = true := by simp [bne, k4]
      have HE : Hid (Ty.shp n.len (.mk k l h e ao b o len cap ps) = false) := hE
      clear hE
      go_enter Tryd.func72, Tryd.ntmps72
      go_wp2
      refine wp_region_gr (by kernel_rfl) (by kernel_rfl) ?_
      repeat (first | go_big_quiet_step ((first | (go_at_call 91; exact Calls.gr _ (rparts_any k _)) | (go_at_call 47; exact Calls.gr _ (lab_any n g l _)))))
      refine wpQuiet_nil ?_
      rintro w4 ⟨x4w, rfl⟩
      have B4 := x4w.bl
      generalize x4w.w = w4 at B4 ⊢
      clear x4w hNE gl0 gl1 gx0 gx1 gx2 gx3 gx4
      have L4 := L0.kept B4
      have X4 := X0.kept B4
      have A4 := hA2.kept B4
      have N4 := hn2.kept B4
      have B5 := Below.next B0 B4
      clear L0 X0 hA2 hn2 B0 B4
      have l0 := L4.c0
      have l1 := L4.c1
      have x0 := X4.c0
      have x2 := X4.c2
      have x3 := X4.c3
      have x4 := X4.c4
      simp only [Ty.k, Ty.h, Ty.e, Ty.ao, Ty.len, Ty.cap] at x0 x2 x3 x4
      go_wp2
      go_ret
      exact ⟨ret_bool HE.out.symm, B5⟩
    · have k4n : (k != 4) = true := by simp [bne, k4]
      have HE : Hid (Ty.shp n.len (.mk k l h e ao b o len cap ps) = decide (∀ i, i < len → Ty.shp n.len (ps i) = true)) := hE
      clear hE
      go_enter Tryd.func72, Tryd.ntmps72
      go_wp2
      refine wp_region_gr (by kernel_rfl) (by kernel_rfl) ?_
      repeat (first | go_big_quiet_step ((first | (go_at_call 91; exact Calls.gr _ (rparts_any k _)) | (go_at_call 47; exact Calls.gr _ (lab_any n g l _)))))
      refine wpQuiet_nil ?_
      rintro w4 ⟨x4w, rfl⟩
      have B4 := x4w.bl
      generalize x4w.w = w4 at B4 ⊢
      clear x4w hNE gl0 gl1 gx0 gx1 gx2 gx3 gx4
      have L4 := L0.kept B4
      have X4 := X0.kept B4
      have A4 := hA2.kept B4
      have N4 := hn2.kept B4
      have B5 := Below.next B0 B4
      clear L0 X0 hA2 hn2 B0 B4
      have l0 := L4.c0
      have l1 := L4.c1
      have x0 := X4.c0
      have x2 := X4.c2
      have x3 := X4.c3
      have x4 := X4.c4
      simp only [Ty.k, Ty.h, Ty.e, Ty.ao, Ty.len, Ty.cap] at x0 x2 x3 x4
      go_wp2
      clear l0 l1 x0 x2 x3 x4
      clear k4n k4
      try clear h1
      try clear h2
      try clear h3
      try clear h4
      try clear h5
      go_loopw [5] (fun i wr => ∃ j : Nat, j ≤ len ∧ i = .int .i64 j ∧ (∀ i, i < j → Ty.shp n.len (ps i) = true) ∧ Below w4.heap.size w4 wr) (fun i _ => len - (intOf i).toNat)
      case atStart => exact ⟨0, Nat.zero_le _, rfl, fun _ h => absurd h (Nat.not_lt_zero _), Below.refl _ _⟩
      case round =>
        obtain ⟨j, hj, rfl, hdone, hB⟩ := hrel
        have HD : Hid (∀ i, i < j → Ty.shp n.len (ps i) = true) := hdone
        clear hdone
        have L7 := L4.kept hB
        have X7 := X4.kept hB
        have x2 : wr.cell? ⟨w.heap.size + 1, 2, none⟩ = some (.slice ao len cap) := X7.c2
        by_cases hlt : j < len
        · have ij : (j : Int) < len := by omega
          have a0 := hnil (by omega)
          subst a0
          have hA7 := A4.kept hB
          have C : C5 wr b (o + j * 5) (ps j) := hA7.cells hlt
          have P : (ps j).At wr := hA7.part hlt
          have gl0 := fun x => Gr.cell x L7.c0
          have gl1 := fun x => Gr.cell x L7.c1
          have gx2 := fun x => Gr.cell x x2
          have y0 := fun x => Gr.cell x C.c0
          have y1 := fun x => Gr.cell x C.c1
          have y2 := fun x => Gr.cell x C.c2
          have y3 := fun x => Gr.cell x C.c3
          have y4 := fun x => Gr.cell x C.c4
          have hNE : Nonempty (Gr wr) := ⟨⟨_, Below.refl _ _⟩⟩
          have hi := fun u (hu : Below wr.heap.size wr u) => ih j u (N4.kept (Below.next hB hu)) (P.kept hu)
          clear C hA7
          go_wp2
          refine wp_region_gr (by kernel_rfl) (by kernel_rfl) ?_
          repeat (first | go_big_quiet_step ((go_at_call 72; exact Calls.gr _ (hi _ (Gr.bl _)))))
          refine wpQuiet_nil ?_
          rintro w8 ⟨x8w, rfl⟩
          have B8 := x8w.bl
          generalize x8w.w = w8 at B8 ⊢
          clear x8w hNE gl0 gl1 gx2 y0 y1 y2 y3 y4 hi P x2
          have B9 := Below.next hB B8
          cases hf : Ty.shp n.len (ps j)
          · go_wp2
            go_ret
            exact ⟨ret_bool (by rw [HE.out]; exact (decide_eq_false (fun hh => by rw [hh j hlt] at hf; cases hf)).symm), Below.next B5 B9⟩
          · go_wp2
            go_roundw
            case rel => exact ⟨j + 1, by omega, by go_num, fun i hi => (by
                by_cases e : i = j
                · subst e; exact hf
                · exact HD.out i (by omega)), B9⟩
            case measure => simp [intOf]; omega
        · have e : len = j := by omega
          subst e
          have dl : ¬ (len : Int) < len := by omega
          go_wp2
          go_ret
          exact ⟨ret_bool (by rw [HE.out]; exact (decide_eq_true HD.out).symm), Below.next B5 hB⟩
end Go.Proofs.YtdplabhgdonbiaaDoor

/- Layer 2, the reference: how deep a type nests; Formed. -/
namespace Go.Proofs.YtdplabhgdonbiaaDoor
open Go.RowKit

theorem max_int (q d : Nat) : (if q < d then (d : Int) else q) = (max q d : Nat) := by split <;> omega

set_option maxHeartbeats 2000000 in
theorem deep2_any : ∀ (t : Ty) (w : World), t.nodes ≤ 1000 → t.At w → Calls Tryd.prog 71 #[.agg #[.int .i64 t.k, .int .i64 t.l, .slice t.ao t.len t.cap, .int .i64 t.h, .int .i64 t.e]] w fun e w' => e = .returned (.int .i64 (t.deep : Nat)) ∧ Below w.heap.size w w' := by
  intro t
  induction t with
  | dm => intro w _ hAt; exact hAt.elim
  | mk k l h e ao b o len cap ps ih =>
    intro w hn hAt
    show Calls Tryd.prog 71 #[.agg #[.int .i64 k, .int .i64 l, .slice ao len cap, .int .i64 h, .int .i64 e]] w fun r w' => r = .returned (.int .i64 (maxTo (fun i => (ps i).deep) len + 1 : Nat)) ∧ Below w.heap.size w w'
    have X0 := Bx.new w (.mk k l h e ao b o len cap ps)
    have B0 := below_alloc w (.cells #[.int .i64 k, .int .i64 l, .slice ao len cap, .int .i64 h, .int .i64 e] 37)
    have hb : len ≤ 9223372036854775807 := hAt.bound
    have hnil : 0 < len → ao = some ⟨b, o, none⟩ := hAt.nil
    have HS : Hid (Bx (w.alloc (.cells #[.int .i64 k, .int .i64 l, .slice ao len cap, .int .i64 h, .int .i64 e] 37)) w.heap.size (.mk k l h e ao b o len cap ps) ∧ Ty.At (w.alloc (.cells #[.int .i64 k, .int .i64 l, .slice ao len cap, .int .i64 h, .int .i64 e] 37)) (.mk k l h e ao b o len cap ps) ∧ Below w.heap.size w (w.alloc (.cells #[.int .i64 k, .int .i64 l, .slice ao len cap, .int .i64 h, .int .i64 e] 37))) := ⟨X0, hAt.kept B0, B0⟩
    have hsum : sumTo (fun i => (ps i).nodes) len ≤ 1000 := by have : 1 + sumTo (fun i => (ps i).nodes) len ≤ 1000 := hn; omega
    have hmx : ∀ j, j ≤ len → maxTo (fun i => (ps i).deep) j ≤ 1000 := fun j hj => by
      have h1 := maxTo_sum (fun i => (ps i).deep) (fun i => (ps i).nodes) j (fun i _ => deep_nodes (ps i))
      have h2 := sumTo_mono (fun i => (ps i).nodes) hj
      omega
    have HP : Hid (∀ j, j < len → (ps j).nodes ≤ 1000) := fun j hj => by
      have h2 := sumTo_le (fun i => (ps i).nodes) hj
      have h3 : (fun i => (ps i).nodes) j = (ps j).nodes := rfl
      omega
    have HM : Hid (∀ j, j ≤ len → maxTo (fun i => (ps i).deep) j ≤ 1000) := hmx
    clear X0 B0 hAt hsum hmx hn
    go_enter Tryd.func71, Tryd.ntmps71
    go_wp2
    go_loopw [3, 4] (fun m i wr => ∃ (q j : Nat), j ≤ len ∧ m = .int .i64 q ∧ i = .int .i64 j ∧ q = maxTo (fun i => (ps i).deep) j ∧ Bx wr w.heap.size (.mk k l h e ao b o len cap ps) ∧ Ty.At wr (.mk k l h e ao b o len cap ps) ∧ Below w.heap.size w wr) (fun _ i _ => len - (intOf i).toNat)
    case atStart => exact ⟨0, 0, Nat.zero_le _, rfl, rfl, rfl, HS.out⟩
    case round =>
      obtain ⟨q, j, hj, rfl, rfl, hm, hX, hA, hB⟩ := hrel
      clear HS
      have hq : q ≤ 1000 := by rw [hm]; exact HM.out j hj
      have x2 : wr.cell? ⟨w.heap.size, 2, none⟩ = some (.slice ao len cap) := hX.c2
      have HS : Hid (Bx wr w.heap.size (.mk k l h e ao b o len cap ps) ∧ Ty.At wr (.mk k l h e ao b o len cap ps) ∧ Below w.heap.size w wr) := ⟨hX, hA, hB⟩
      have HQ : Hid (q = maxTo (fun i => (ps i).deep) j) := hm
      clear hX hm hB
      by_cases hlt : j < len
      · have ij : (j : Int) < len := by omega
        have a0 := hnil (by omega)
        subst a0
        have C : C5 wr b (o + j * 5) (ps j) := hA.cells hlt
        have P : (ps j).At wr := hA.part hlt
        have y0 := C.c0
        have y1 := C.c1
        have y2 := C.c2
        have y3 := C.c3
        have y4 := C.c4
        clear hA C
        go_wp2_with fail
        refine (ih j _ (HP.out j hlt) P).mono ?_
        rintro r w1 ⟨rfl, hb1⟩
        clear y0 y1 y2 y3 y4 x2
        have HD : Hid (max q (ps j).deep = maxTo (fun i => (ps i).deep) (j + 1)) := by show max q (ps j).deep = max (maxTo (fun i => (ps i).deep) j) (ps j).deep; rw [HQ.out]
        generalize (ps j).deep = dj at HD ⊢
        go_wp2
        go_roundw
        case rel => exact ⟨max q dj, j + 1, by omega, by first | rw [max_int] | (congr 1; omega), by go_num, HD.out, HS.out.1.kept hb1, HS.out.2.1.kept hb1, HS.out.2.2.trans (hb1.mono HS.out.2.2.size)⟩
        case measure => simp [intOf]; omega
      · have e : len = j := by omega
        subst e
        have d : ¬ (len : Int) < len := by omega
        go_wp2
        go_ret
        exact ⟨ret_int (by have h1 := HQ.out; omega), HS.out.2.2⟩

set_option maxHeartbeats 2000000 in
theorem rFormed2_any (n : Strs) (g : Grid) (t : Ty) (w : World) (hn : n.At w) (hg : g.At w) (ht : t.At w) :
    Calls Tryd.prog 45 #[.agg #[.slice n.ao n.len n.cap, .slice g.ao g.len g.cap], .agg #[.int .i64 t.k, .int .i64 t.l, .slice t.ao t.len t.cap, .int .i64 t.h, .int .i64 t.e]] w fun e w' => e = .returned (.bool (okB n g t)) ∧ Below w.heap.size w w' := by
  obtain ⟨L0, X0, B0⟩ := start_lt w n g t
  have hn0 := hn.kept B0
  have hg0 := hg.kept B0
  have ht0 := ht.kept B0
  have HE : Hid (okB n g t = (formedB n g && ((decide (t.nodes ≤ 40) && decide (t.deep ≤ 6)) && t.shp n.len))) := by show okB n g t = _; unfold okB; rw [ok_shp]
  clear hn hg ht
  unfold latO tyO at *
  go_enter Tryd.func45, Tryd.ntmps45
  go_wp2_with fail
  refine (rformed_any n g _ hn0 hg0).mono ?_
  rintro e w1 ⟨rfl, hb1⟩
  have L1 := L0.kept hb1
  have X1 := X0.kept hb1
  have B1 := Below.next B0 hb1
  have hn1 := hn0.kept hb1
  have ht1 := ht0.kept hb1
  clear L0 X0 B0 hn0 hg0 ht0 hb1
  cases h1 : formedB n g
  · have HV : Hid (okB n g t = false) := by show okB n g t = false; rw [HE.out, h1]; rfl
    go_wp2
    go_ret
    exact ⟨ret_bool HV.out.symm, B1⟩
  have x0 := X1.c0
  have x1 := X1.c1
  have x2 := X1.c2
  have x3 := X1.c3
  have x4 := X1.c4
  go_wp2_with fail
  refine (rNodes_any t _ ht1).mono ?_
  rintro e w2 ⟨rfl, hb2⟩
  have L2 := L1.kept hb2
  have X2 := X1.kept hb2
  have B2 := Below.next B1 hb2
  have hn2 := hn1.kept hb2
  have ht2 := ht1.kept hb2
  clear L1 X1 B1 hn1 ht1 hb2 x0 x1 x2 x3 x4
  by_cases h2 : t.nodes ≤ 40
  · have d : decide (((min t.nodes 41 : Nat) : Int) ≤ 40) = true := by simp only [decide_eq_true_eq]; omega
    have x0 := X2.c0
    have x1 := X2.c1
    have x2 := X2.c2
    have x3 := X2.c3
    have x4 := X2.c4
    generalize min t.nodes 41 = q at d ⊢
    go_wp2_with fail
    refine (deep2_any t _ (by omega) ht2).mono ?_
    rintro e w3 ⟨rfl, hb3⟩
    have L3 := L2.kept hb3
    have X3 := X2.kept hb3
    have B3 := Below.next B2 hb3
    have hn3 := hn2.kept hb3
    have ht3 := ht2.kept hb3
    clear L2 X2 B2 hn2 ht2 hb3 x0 x1 x2 x3 x4
    have l0 := L3.c0
    have l1 := L3.c1
    have x0 := X3.c0
    have x1 := X3.c1
    have x2 := X3.c2
    have x3 := X3.c3
    have x4 := X3.c4
    by_cases h3 : t.deep ≤ 6
    · have d3 : decide (((t.deep : Nat) : Int) ≤ 6) = true := by simp only [decide_eq_true_eq]; omega
      have HV : Hid (okB n g t = t.shp n.len) := by show okB n g t = _; rw [HE.out, h1, decide_eq_true h2, decide_eq_true h3]; rfl
      go_wp2_with fail
      refine (shaped2_any n g t _ hn3 ht3).mono ?_
      rintro e w4 ⟨rfl, hb4⟩
      go_wp2
      go_ret
      exact ⟨ret_bool HV.out.symm, Below.next B3 hb4⟩
    · have d3 : decide (((t.deep : Nat) : Int) ≤ 6) = false := by simp only [decide_eq_false_iff_not]; omega
      have HV : Hid (okB n g t = false) := by show okB n g t = _; rw [HE.out, h1, decide_eq_true h2, decide_eq_false h3]; rfl
      go_wp2
      go_ret
      exact ⟨ret_bool HV.out.symm, B3⟩
  · have d : decide (((min t.nodes 41 : Nat) : Int) ≤ 40) = false := by simp only [decide_eq_false_iff_not]; omega
    have HV : Hid (okB n g t = false) := by show okB n g t = _; rw [HE.out, h1, decide_eq_false h2]; rfl
    generalize min t.nodes 41 = q at d ⊢
    go_wp2
    go_ret
    exact ⟨ret_bool HV.out.symm, B2⟩
end Go.Proofs.YtdplabhgdonbiaaDoor
