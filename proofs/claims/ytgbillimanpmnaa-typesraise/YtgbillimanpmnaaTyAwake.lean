/- The law's own small lattice, and what is asked of it first; few. -/
import Derived.Test.YtgbillimanpmnaaTyBelow
import Derived.Test.YtgbillimanpmnaaAwake
namespace Go.Proofs.Ytgbillimanpmnaa
open Go.RowKit

theorem formed_gen {n : Strs} {ao : Option Addr} {gg len cap : Nat} {s : Nat → ByteArray} {R : Nat → Nat} {M : Nat → Nat → Bool} (h1 : n.len = len) (h2 : n.s = s) : formedB n (gridR ao gg len cap R M) = formedM len s M := by
  obtain ⟨ao, b, o, l, c, s'⟩ := n
  simp only at h1 h2
  subst h1 h2
  rfl
theorem grid_set_nil {g : Grid} {w : World} (h : g.At w) {a : Addr} (ha : w.cell? a = some (.slice none 0 0)) (hA : ∀ r, r < g.len → g.A r ≠ none) (v : Value) : g.At (w.setCell a v) where
  lc := h.lc
  nil := h.nil
  bound := h.bound
  lbound := h.lbound
  row := fun r hr => by
    have hc := h.row r hr
    rw [World.cell?_setCell_other _ _ _ _ (fun e => by rw [← e, ha] at hc; injection hc with hc; injection hc with h1 _ _; exact hA r hr h1.symm)]
    exact hc
  adr := h.adr
  cell := fun r hr c hc => by
    have hc := h.cell r hr c hc
    rw [World.cell?_setCell_other _ _ _ _ (fun e => by rw [← e, ha] at hc; cases hc)]
    exact hc
/-- The lattice of two. -/
structure Lt2 (n : Strs) (g : Grid) (w : World) : Prop where
  nat : n.At w
  gat : g.At w
  fd : formedB n g = true
  two : n.len = 2
  le : g.B 0 1 = true
  rows : ∀ r, r < g.len → g.A r ≠ none

theorem two_make (w : World) :
    Calls Try.prog 48 #[.slice (some ⟨w.heap.size, 0, none⟩) 2 2, .slice (some ⟨w.heap.size + 1, 0, none⟩) 1 1] ((w.alloc (.cells #[.string ⟨#[108, 111, 119]⟩, .string ⟨#[104, 105, 103, 104]⟩] 9)).alloc (.cells #[.int .i64 0, .int .i64 1] 41))
      fun e w' => ∃ (n : Strs) (g : Grid), e = .returned (.tuple #[.agg #[.slice n.ao n.len n.cap, .slice g.ao g.len g.cap], .int .i64 0]) ∧ Lt2 n g w' ∧ Below w.heap.size w w' := by
  refine (rmake_any (awkN w.heap.size) (awkP (w.heap.size + 1)) (awkW w) (awkN_at w) (awkP_at w) (Or.inr rfl)).mono ?_
  rintro e w1 ⟨er, n', g', rfl, hM, hb1⟩
  have h0 : er = 0 := hM.er.trans (awk_e _ _)
  subst h0
  obtain ⟨h1, h2, ao, gg, cap, R, rfl⟩ := hM.yes rfl
  refine ⟨n', _, rfl, ⟨hM.nat, hM.gat, ?_, h1, ?_, fun r _ => by simp [gridR]⟩, (awkW_below w).trans (hb1.mono (awkW_below w).size)⟩
  · rw [formed_gen h1 h2]
    have he := awk_e w.heap.size (w.heap.size + 1)
    unfold makeE at he
    split at he
    · cases he
    · split at he
      · cases he
      · split at he
        · cases he
        · rename_i h; simpa using h
  · show leastM (awkP (w.heap.size + 1)) 2 0 1 = true
    refine within_war 2 _ 2 0 1 (by omega) (by omega) ?_
    unfold prsM
    rw [Bool.or_eq_true, decide_eq_true_eq]
    exact Or.inr ⟨0, by show 0 < 1; omega, rfl, rfl⟩

set_option maxHeartbeats 2000000 in
theorem two_any (w : World) : Calls Try.prog 30 #[] w fun e w' => ∃ (n : Strs) (g : Grid), e = .returned (.agg #[.slice n.ao n.len n.cap, .slice g.ao g.len g.cap]) ∧ Lt2 n g w' ∧ Below w.heap.size w w' := by
  have B0 := below_alloc w (.cells #[.slice none 0 0, .slice none 0 0] 25)
  have hm := two_make (w.alloc (.cells #[.slice none 0 0, .slice none 0 0] 25))
  rw [alloc_size] at hm
  have r0 : (w.alloc (.cells #[.slice none 0 0, .slice none 0 0] 25)).cell? ⟨w.heap.size, 0, none⟩ = some (.slice none 0 0) := by simp
  have r1 : (w.alloc (.cells #[.slice none 0 0, .slice none 0 0] 25)).cell? ⟨w.heap.size, 1, none⟩ = some (.slice none 0 0) := by simp
  have f0 : (w.alloc (.cells #[.slice none 0 0, .slice none 0 0] 25)).frozen? ⟨w.heap.size, 0, none⟩ = false := by simp
  have f1 : (w.alloc (.cells #[.slice none 0 0, .slice none 0 0] 25)).frozen? ⟨w.heap.size, 1, none⟩ = false := by simp
  go_enter Try.func30, Try.ntmps30
  go_wp2_with fail
  refine hm.mono ?_
  rintro e w1 ⟨n, g, rfl, hL, hb1⟩
  have hb1' : Below (w.alloc (.cells #[.slice none 0 0, .slice none 0 0] 25)).heap.size (w.alloc (.cells #[.slice none 0 0, .slice none 0 0] 25)) w1 := by rw [alloc_size]; exact hb1
  have X := Bl.new w1 n g
  have BX := below_alloc w1 (.cells #[.slice n.ao n.len n.cap, .slice g.ao g.len g.cap] 25)
  have B2 := Below.next hb1' BX
  have c0 := up B2 r0
  have c1 := up B2 r1
  have g0 := (B2.frozen (p := ⟨w.heap.size, 0, none⟩) (by rw [alloc_size]; exact Nat.lt_succ_self _)).trans f0
  have g1 := (B2.frozen (p := ⟨w.heap.size, 1, none⟩) (by rw [alloc_size]; exact Nat.lt_succ_self _)).trans f1
  have hn2 := hL.nat.kept BX
  have hg2 := hL.gat.kept BX
  have HL : Hid (Lt2 n g w1) := hL
  have B3 := Below.next B0 B2
  clear hL hm r0 r1 f0 f1 hb1 hb1' X B2
  go_wp2
  have c1' : ((w1.alloc (.cells #[.slice n.ao n.len n.cap, .slice g.ao g.len g.cap] 25)).setCell ⟨w.heap.size, 0, none⟩ (.slice n.ao n.len n.cap)).cell? ⟨w.heap.size, 1, none⟩ = some (.slice none 0 0) := by
    rw [World.cell?_setCell_other _ _ _ _ (by simp)]; exact c1
  refine bodyPost_ret (v := .agg #[.slice n.ao n.len n.cap, .slice g.ao g.len g.cap]) (by simp [results, Try.results30, go_sem, c0, c1]) rfl ⟨n, g, rfl, ⟨(hn2.set c0 _).set c1' _, grid_set_nil (grid_set_nil hg2 c0 HL.out.rows _) c1' HL.out.rows _, HL.out.fd, HL.out.two, HL.out.le, HL.out.rows⟩, below_set2 B3 _ _⟩

/-- A type without Parts. -/
def leafT (k l : Int) : Ty := .mk k l 0 0 none 0 0 0 0 (fun _ => .dm)
theorem leaf_at (k l : Int) (w : World) : (leafT k l).At w := ⟨fun h => absurd h (Nat.lt_irrefl _), Nat.zero_le _, fun _ h => absurd h (Nat.not_lt_zero _)⟩
theorem leaf_ok (l : Int) (N : Nat) (h : inR N l = true) : (leafT 1 l).ok N = true := by
  unfold Ty.ok leafT
  rw [fm_eq, h]
  rfl
theorem two_bel {n : Strs} {g : Grid} {w : World} (h : Lt2 n g w) : belB n g (leafT 1 0) (leafT 1 1) = true := by
  unfold belB
  rw [h.fd, leaf_ok 0 _ (by rw [h.two]; rfl), leaf_ok 1 _ (by rw [h.two]; rfl)]
  show (((1 : Int) == 1) && g.B 0 1 && true) = true
  rw [h.le]; rfl

set_option maxHeartbeats 2000000 in
theorem awake2_any (w : World) : Calls Try.prog 9 #[] w fun e w' => e = .returned (.bool true) ∧ Below w.heap.size w w' := by
  go_enter Try.func9, Try.ntmps9
  go_wp2_with fail
  refine (two_any w).mono ?_
  rintro e w1 ⟨n, g, rfl, hL, hb1⟩
  have hc := Below_any2 n g (leafT 1 0) (leafT 1 1) w1 hL.nat hL.gat (leaf_at _ _ _) (leaf_at _ _ _)
  rw [two_bel hL] at hc
  clear hL
  go_wp2_with fail
  refine hc.mono ?_
  rintro e w2 ⟨rfl, hb2⟩
  have hd : Calls Try.prog 13 #[.agg #[.int .i64 0, .int .i64 0, .slice none 0 0, .int .i64 0, .int .i64 0]] w2 fun e w' => e = .returned (.int .i64 1) ∧ Below w2.heap.size w2 w' := Nodes_any (leafT 0 0) w2 (leaf_at _ _ _)
  clear hc
  go_wp2_with fail
  refine hd.mono ?_
  rintro e w3 ⟨rfl, hb3⟩
  go_wp2
  go_ret
  exact ⟨rfl, Below.next (Below.next hb1 hb2) hb3⟩

/-- What few answers. -/
def fewB (n : Strs) (g : Grid) (s t : Ty) : Bool := (smallB n g && decide (s.nodes ≤ 40)) && decide (t.nodes ≤ 40)

set_option maxHeartbeats 2000000 in
theorem few_any (n : Strs) (g : Grid) (s t : Ty) (w : World) (hn : n.At w) (hg : g.At w) (hs : s.At w) (ht : t.At w) :
    Calls Try.prog 10 #[.agg #[.slice n.ao n.len n.cap, .slice g.ao g.len g.cap], .agg #[.int .i64 s.k, .int .i64 s.l, .slice s.ao s.len s.cap, .int .i64 s.h, .int .i64 s.e], .agg #[.int .i64 t.k, .int .i64 t.l, .slice t.ao t.len t.cap, .int .i64 t.h, .int .i64 t.e]] w fun e w' => e = .returned (.bool (fewB n g s t)) ∧ Below w.heap.size w w' := by
  obtain ⟨L0, X0, Y0, B0⟩ := start_ltt w n g s t
  have hn0 := hn.kept B0
  have hg0 := hg.kept B0
  have hs0 := hs.kept B0
  have ht0 := ht.kept B0
  clear hn hg hs ht
  unfold latO tyO at *
  go_enter Try.func10, Try.ntmps10
  go_wp2_with fail
  refine (small_any n g _ hn0 hg0).mono ?_
  rintro e w1 ⟨rfl, hb1⟩
  have X1 := X0.kept hb1
  have Y1 := Y0.kept hb1
  have B1 := Below.next B0 hb1
  have hs1 := hs0.kept hb1
  have ht1 := ht0.kept hb1
  clear L0 X0 Y0 B0 hn0 hg0 hs0 ht0 hb1
  cases h1 : smallB n g
  · have HE : Hid (fewB n g s t = false) := by show fewB n g s t = false; unfold fewB; rw [h1]; rfl
    go_wp2
    go_ret
    exact ⟨ret_bool HE.out.symm, B1⟩
  have x0 := X1.c0
  have x1 := X1.c1
  have x2 := X1.c2
  have x3 := X1.c3
  have x4 := X1.c4
  go_wp2_with fail
  refine (rSmall2_any s _ hs1).mono ?_
  rintro e w2 ⟨rfl, hb2⟩
  have Y2 := Y1.kept hb2
  have B2 := Below.next B1 hb2
  have ht2 := ht1.kept hb2
  clear x0 x1 x2 x3 x4 X1 Y1 hb2
  cases h2 : decide (s.nodes ≤ 40)
  · have HE : Hid (fewB n g s t = false) := by show fewB n g s t = false; unfold fewB; rw [h1, h2]; rfl
    go_wp2
    go_ret
    exact ⟨ret_bool HE.out.symm, B2⟩
  have HE : Hid (fewB n g s t = decide (t.nodes ≤ 40)) := by show fewB n g s t = _; unfold fewB; rw [h1, h2]; rfl
  have y0 := Y2.c0
  have y1 := Y2.c1
  have y2 := Y2.c2
  have y3 := Y2.c3
  have y4 := Y2.c4
  go_wp2_with fail
  refine (rSmall2_any t _ ht2).mono ?_
  rintro e w3 ⟨rfl, hb3⟩
  go_wp2
  go_ret
  exact ⟨ret_bool HE.out.symm, Below.next B2 hb3⟩
end Go.Proofs.Ytgbillimanpmnaa
