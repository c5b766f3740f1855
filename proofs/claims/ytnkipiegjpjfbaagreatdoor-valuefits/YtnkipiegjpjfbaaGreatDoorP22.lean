/- Layer 3: the reference's TypeOf. -/
import Derived.Test.YtnkipiegjpjfbaaGreatDoorP21
import Derived.Test.YtnkipiegjpjfbaaGreatDoorP19
import Derived.Test.YtnkipiegjpjfbaaGreatDoorP12
import Derived.Deep.RegionHeld3
import Derived.Deep.DeepCutAuto
import Derived.Test.YtnkipiegjpjfbaaGreatDoorP11
namespace Go.Proofs.YtnkipiegjpjfbaaGreatDoor
open Go.RowKit

theorem type_self {n : Strs} {g : Grid} {f : Fn} (h : okB n g (funT n g f) = true) : typeT n g f = funT n g f := by
  have h' := h
  unfold okB at h'
  rw [Bool.and_eq_true] at h'
  obtain ⟨p, hp, hp1⟩ := (fd_ok h'.2).lab
  have hp' : botI n g = (p : Nat) := hp
  have J := (jn_is h'.1 hp1 hp1).2
  have e2 : Jn g p p = p := isJoin_uniq h'.1 J ⟨hp1, lq_refl h'.1 hp1, lq_refl h'.1 hp1, fun c _ h1 _ => h1⟩
  have rl : inR n.len (botI n g) = true := by rw [hp']; unfold inR; simp; omega
  unfold typeT raiseT
  rw [h, rl]
  show (funT n g f).setL (joinI n g (botI n g) (botI n g)) = funT n g f
  have e3 : joinI n g (botI n g) (botI n g) = botI n g := by rw [hp', joinI_nat h'.1 hp1 hp1, e2]
  rw [e3]
  rfl
theorem type_none {n : Strs} {g : Grid} {f : Fn} (h : okB n g (funT n g f) = false) : typeT n g f = leafT 0 0 := by
  unfold typeT raiseT
  rw [h]; rfl

theorem ow_set {w : World} {base : Nat} {e : TypeId} {size : Nat} {v : Value} {n : Nat} {xs : List Value} (h : w.ownsRow base e size v n xs) {TB : Nat} (hb : TB < base) (x : Value) : (w.setCell ⟨TB, 2, none⟩ x).ownsRow base e size v n xs := by
  obtain ⟨h0, h⟩ := h
  refine ⟨h0, ?_⟩
  rcases h with ⟨rfl, hn⟩ | ⟨g, cap, cur, rfl, hg, hh, hr⟩
  · exact Or.inl ⟨rfl, hn⟩
  · exact Or.inr ⟨g, cap, cur, rfl, hg, (Below.heap_setCell w ⟨TB, 2, none⟩ x g (by show g ≠ TB; omega)).trans hh, hr⟩
theorem ow_some {w : World} {base : Nat} {e : TypeId} {size : Nat} {v : Value} {n : Nat} {xs : List Value} (h : w.ownsRow base e size v n xs) (hn : 0 < n) : ∃ gg cap, v = .slice (some ⟨gg, 0, none⟩) n cap := by
  obtain ⟨_, ⟨rfl, rfl⟩ | ⟨g, cap, cur, rfl, _⟩⟩ := h
  · omega
  · exact ⟨g, cap, rfl⟩
/-- No Parts of it lie in that block. -/
def Ty.Off (B : Nat) : Ty → Prop
  | .dm => True
  | .mk _ _ _ _ _ b _ len _ ps => ∀ i, i < len → b ≠ B ∧ Ty.Off B (ps i)
theorem off_of_at {w : World} {B : Nat} (hB : w.heap.size ≤ B) : ∀ {t : Ty}, t.At w → t.Off B
  | .dm, _ => trivial
  | .mk _ _ _ _ _ _ _ _ _ _, h => fun i hi => ⟨by have := World.block_lt_of_cell? w _ (h.2.2 i hi).1.c0; intro e; simp only at this; omega, off_of_at hB (h.2.2 i hi).2⟩
theorem C5.of_block {w w' : World} {b o : Nat} {t : Ty} (h : C5 w b o t) (e : w'.heap[b]? = w.heap[b]?) : C5 w' b o t :=
  ⟨(World.cell?_of_block (w := w) (a := ⟨b, o, none⟩) e).trans h.c0, (World.cell?_of_block (w := w) (a := ⟨b, o + 1, none⟩) e).trans h.c1, (World.cell?_of_block (w := w) (a := ⟨b, o + 2, none⟩) e).trans h.c2, (World.cell?_of_block (w := w) (a := ⟨b, o + 3, none⟩) e).trans h.c3, (World.cell?_of_block (w := w) (a := ⟨b, o + 4, none⟩) e).trans h.c4⟩
theorem at_of_off {w w' : World} {B : Nat} (he : ∀ b, b ≠ B → w'.heap[b]? = w.heap[b]?) : ∀ {t : Ty}, t.At w → t.Off B → t.At w'
  | .dm, h, _ => h.elim
  | .mk _ _ _ _ _ _ _ _ _ _, h, o => ⟨h.1, h.2.1, fun i hi => ⟨(h.2.2 i hi).1.of_block (he _ (o i hi).1), at_of_off he (h.2.2 i hi).2 (o i hi).2⟩⟩

/-- The variables, while the type is made: all is as in z0 but the type's own variable and what is new. -/
structure RS (w z0 z : World) (TB : Nat) (n : Strs) (g : Grid) (f : Fn) (sl : Value) : Prop where
  agree : ∀ b, b < z0.heap.size → b ≠ TB → z.heap[b]? = z0.heap[b]?
  size : z0.heap.size ≤ z.heap.size
  bl : Below w.heap.size w z
  tb : w.heap.size + 3 ≤ TB ∧ TB < z0.heap.size
  L : Bl z0 w.heap.size n g
  F : Bf z0 (w.heap.size + 1) f
  R : Bx z0 (w.heap.size + 2) (leafT 0 0)
  G : ∀ i, i < 5 → z0.frozen? ⟨w.heap.size + 2, i, none⟩ = false
  c0 : z.cell? ⟨TB, 0, none⟩ = some (.int .i64 4)
  c1 : z.cell? ⟨TB, 1, none⟩ = some (.int .i64 (botI n g))
  c2 : z.cell? ⟨TB, 2, none⟩ = some sl
  c3 : z.cell? ⟨TB, 3, none⟩ = some (.int .i64 f.h)
  c4 : z.cell? ⟨TB, 4, none⟩ = some (.int .i64 f.e)
  fz : ∀ i, z.frozen? ⟨TB, i, none⟩ = false
theorem RS.cell {w z0 z : World} {TB : Nat} {n : Strs} {g : Grid} {f : Fn} {sl : Value} (h : RS w z0 z TB n g f sl) {b i : Nat} {v : Value} (hb : b < w.heap.size + 3) (hc : z0.cell? ⟨b, i, none⟩ = some v) : z.cell? ⟨b, i, none⟩ = some v :=
  (World.cell?_of_block (w := z0) (a := ⟨b, i, none⟩) (h.agree b (by have := h.tb; omega) (by have := h.tb; omega))).trans hc
theorem RS.kept {w z0 z z' : World} {TB : Nat} {n : Strs} {g : Grid} {f : Fn} {sl : Value} (h : RS w z0 z TB n g f sl) (hb : Below z.heap.size z z') : RS w z0 z' TB n g f sl :=
  ⟨fun b h1 h2 => (hb.block b (by have := h.size; omega)).trans (h.agree b h1 h2), Nat.le_trans h.size hb.size, h.bl.trans (hb.mono h.bl.size), h.tb, h.L, h.F, h.R, h.G, up hb h.c0, up hb h.c1, up hb h.c2, up hb h.c3, up hb h.c4, fun i => (hb.frozen (p := ⟨TB, i, none⟩) (by have := h.tb; have := h.size; show TB < _; omega)).trans (h.fz i)⟩
theorem RS.grow {w z0 z z' : World} {TB : Nat} {n : Strs} {g : Grid} {f : Fn} {sl : Value} (h : RS w z0 z TB n g f sl) {r : Option Nat} (hg : z.grownBy z' r) (hr : ∀ k, r = some k → z0.heap.size ≤ k) : RS w z0 z' TB n g f sl := by
  have hs := h.size
  have ht := h.tb
  have eb : ∀ b, b < z0.heap.size → z'.heap[b]? = z.heap[b]? := fun b hb => hg.block b (by omega) (fun e => by have := hr b e.symm; omega)
  have ce : ∀ i, z'.cell? ⟨TB, i, none⟩ = z.cell? ⟨TB, i, none⟩ := fun i => World.cell?_of_block (a := ⟨TB, i, none⟩) (eb TB ht.2)
  exact ⟨fun b h1 h2 => (eb b h1).trans (h.agree b h1 h2), Nat.le_trans hs hg.size, gb_bel h.bl hg (fun k hk => by have := hr k hk; omega), ht, h.L, h.F, h.R, h.G, (ce 0).trans h.c0, (ce 1).trans h.c1, (ce 2).trans h.c2, (ce 3).trans h.c3, (ce 4).trans h.c4, fun i => (World.frozen?_of_block (a := ⟨TB, i, none⟩) (eb TB ht.2)).trans (h.fz i)⟩
theorem RS.set {w z0 z : World} {TB : Nat} {n : Strs} {g : Grid} {f : Fn} {sl : Value} (h : RS w z0 z TB n g f sl) (sl' : Value) : RS w z0 (z.setCell ⟨TB, 2, none⟩ sl') TB n g f sl' := by
  have ht := h.tb
  refine ⟨fun b h1 h2 => (Below.heap_setCell z ⟨TB, 2, none⟩ sl' b h2).trans (h.agree b h1 h2), ?_, h.bl.setCell (by show w.heap.size ≤ TB; omega) _, ht, h.L, h.F, h.R, h.G, ?_, ?_, World.cell?_setCell_same _ _ _ h.c2, ?_, ?_, fun i => by rw [World.frozen?_setCell]; exact h.fz i⟩
  · have : (z.setCell ⟨TB, 2, none⟩ sl').heap.size = z.heap.size := by simp [World.setCell]
    rw [this]; exact h.size
  · rw [World.cell?_setCell_other _ _ _ _ (by simp)]; exact h.c0
  · rw [World.cell?_setCell_other _ _ _ _ (by simp)]; exact h.c1
  · rw [World.cell?_setCell_other _ _ _ _ (by simp)]; exact h.c3
  · rw [World.cell?_setCell_other _ _ _ _ (by simp)]; exact h.c4

/-- The variables ahead of the type's own. -/
structure RZ (w z : World) (n : Strs) (g : Grid) (f : Fn) : Prop where
  bl : Below w.heap.size w z
  sz : w.heap.size + 3 ≤ z.heap.size
  L : Bl z w.heap.size n g
  F : Bf z (w.heap.size + 1) f
  R : Bx z (w.heap.size + 2) (leafT 0 0)
  G : ∀ i, i < 5 → z.frozen? ⟨w.heap.size + 2, i, none⟩ = false
theorem RZ.step {w z z' : World} {n : Strs} {g : Grid} {f : Fn} (h : RZ w z n g f) (hb : Below z.heap.size z z') : RZ w z' n g f :=
  ⟨Below.next h.bl hb, Nat.le_trans h.sz hb.size, h.L.kept hb, h.F.kept hb, h.R.kept hb, fun i hi => (hb.frozen (p := ⟨w.heap.size + 2, i, none⟩) (by have := h.sz; show w.heap.size + 2 < _; omega)).trans (h.G i hi)⟩
theorem RZ.new (w : World) (n : Strs) (g : Grid) (f : Fn) : RZ w (((w.alloc (latO n g)).alloc (fnO f)).alloc (tyO (leafT 0 0))) n g f := by
  have F0 := (Bf.new (w.alloc (latO n g)) f).kept (below_alloc _ (tyO (leafT 0 0)))
  have R0 := Bx.new ((w.alloc (latO n g)).alloc (fnO f)) (leafT 0 0)
  have G0 : ∀ i, i < 5 → (((w.alloc (latO n g)).alloc (fnO f)).alloc (tyO (leafT 0 0))).frozen? ⟨((w.alloc (latO n g)).alloc (fnO f)).heap.size, i, none⟩ = false := fun i _ => frozen_new _ _ _ _
  have E1 : (w.alloc (latO n g)).heap.size = w.heap.size + 1 := alloc_size _ _
  have E2 : ((w.alloc (latO n g)).alloc (fnO f)).heap.size = w.heap.size + 2 := by rw [alloc_size, E1]
  rw [E1] at F0
  rw [E2] at G0
  exact ⟨Below.next (Below.next (below_alloc _ _) (below_alloc _ _)) (below_alloc _ _), by rw [alloc_size, E2]; omega, (Bl.new w n g).kept (Below.next (below_alloc _ (fnO f)) (below_alloc _ (tyO (leafT 0 0)))), F0, by rw [← E2]; exact R0, G0⟩

set_option maxRecDepth 100000 in
set_option maxHeartbeats 8000000 in
theorem rTypeOf_any (n : Strs) (g : Grid) (f : Fn) (w : World) (hn : n.At w) (hg : g.At w) (hf : f.At w) :
    Calls Tryz.prog 8 #[.agg #[.slice n.ao n.len n.cap, .slice g.ao g.len g.cap], .agg f.vs.toArray] w fun e w' => TP w (typeT n g f) e w' := by
  have K0 : RZ w (((w.alloc (.cells #[.slice n.ao n.len n.cap, .slice g.ao g.len g.cap] 25)).alloc (.cells #[.int .i64 f.p.k, .int .i64 f.p.l, .slice f.p.ao f.p.len f.p.cap, .int .i64 f.p.h, .int .i64 f.p.e, .int .i64 f.r.k, .int .i64 f.r.l, .slice f.r.ao f.r.len f.r.cap, .int .i64 f.r.h, .int .i64 f.r.e, .slice f.c.ao f.c.len f.c.cap, .int .i64 f.h, .int .i64 f.e, .int .i64 f.sl, .slice f.cd.ao f.cd.len f.cd.cap, .slice f.hd.ao f.hd.len f.hd.cap, .slice f.pt.ao f.pt.len f.pt.cap, .slice f.rg.ao f.rg.len f.rg.cap] 45)).alloc (.cells #[.int .i64 0, .int .i64 0, .slice none 0 0, .int .i64 0, .int .i64 0] 32)) n g f := RZ.new w n g f
  have HN : Hid (n.At w ∧ g.At w ∧ f.At w) := ⟨hn, hg, hf⟩
  clear hn hg hf
  unfold Fn.vs
  go_enter Tryz.func8, Tryz.ntmps8
  go_upto_region 1 with fail
  generalize ((w.alloc (.cells #[.slice n.ao n.len n.cap, .slice g.ao g.len g.cap] 25)).alloc (.cells #[.int .i64 f.p.k, .int .i64 f.p.l, .slice f.p.ao f.p.len f.p.cap, .int .i64 f.p.h, .int .i64 f.p.e, .int .i64 f.r.k, .int .i64 f.r.l, .slice f.r.ao f.r.len f.r.cap, .int .i64 f.r.h, .int .i64 f.r.e, .slice f.c.ao f.c.len f.c.cap, .int .i64 f.h, .int .i64 f.e, .int .i64 f.sl, .slice f.cd.ao f.cd.len f.cd.cap, .slice f.hd.ao f.hd.len f.hd.cap, .slice f.pt.ao f.pt.len f.pt.cap, .slice f.rg.ao f.rg.len f.rg.cap] 45)).alloc (.cells #[.int .i64 0, .int .i64 0, .slice none 0 0, .int .i64 0, .int .i64 0] 32) = W0 at K0 ⊢
  go_cut [5] (fun p wx => ∃ TB : Nat, p = .pointer (some ⟨TB, 0, none⟩) ∧ Hid (RS w wx wx TB n g f (.slice none 0 0)))
  case first =>
    have D1 : Below W0.heap.size W0 W0.drew := (Below.refl _ _).drew
    have D2 : Below W0.heap.size W0 (W0.alloc (.cells #[.int .i64 0, .int .i64 0, .slice none 0 0, .int .i64 0, .int .i64 0] 32)).drew := ((Below.refl _ _).alloc (Nat.le_refl _) _).drew
    have H1 := fun u (hu : Below W0.heap.size W0 u) => rBottom_any n g u (HN.out.1.kept (K0.step hu).bl) (HN.out.2.1.kept (K0.step hu).bl)
    have N2 : Bx (W0.alloc (.cells #[.int .i64 0, .int .i64 0, .slice none 0 0, .int .i64 0, .int .i64 0] 32)).drew W0.heap.size (leafT 0 0) := (Bx.new W0 (leafT 0 0)).kept ((Below.refl _ _).drew)
    have F2 : ∀ i : Nat, (W0.alloc (.cells #[.int .i64 0, .int .i64 0, .slice none 0 0, .int .i64 0, .int .i64 0] 32)).drew.frozen? ⟨W0.heap.size, i, none⟩ = false := fun i => frozen_new _ _ _ _
    have S2 : W0.heap.size < (W0.alloc (.cells #[.int .i64 0, .int .i64 0, .slice none 0 0, .int .i64 0, .int .i64 0] 32)).drew.heap.size := by show W0.heap.size < (W0.alloc _).heap.size; rw [alloc_size]; exact Nat.lt_succ_self _
    have hw : W0.heap.size ≤ W0.heap.size := Nat.le_refl _
    have key := fun u (hu : Below W0.heap.size W0 u) => (⟨(K0.step hu).L.c0, (K0.step hu).L.c1, (K0.step hu).F.c11, (K0.step hu).F.c12⟩ : (fun q0 : World => q0.cell? ⟨w.heap.size, 0, none⟩ = some (.slice n.ao n.len n.cap) ∧ q0.cell? ⟨w.heap.size, 1, none⟩ = some (.slice g.ao g.len g.cap) ∧ q0.cell? ⟨w.heap.size + 1, 11, none⟩ = some (.int .i64 f.h) ∧ q0.cell? ⟨w.heap.size + 1, 12, none⟩ = some (.int .i64 f.e)) u)
    have hS := key _ D1
    go_region_held3 (fun q0 : World => q0.cell? ⟨w.heap.size, 0, none⟩ = some (.slice n.ao n.len n.cap) ∧ q0.cell? ⟨w.heap.size, 1, none⟩ = some (.slice g.ao g.len g.cap) ∧ q0.cell? ⟨w.heap.size + 1, 11, none⟩ = some (.int .i64 f.h) ∧ q0.cell? ⟨w.heap.size + 1, 12, none⟩ = some (.int .i64 f.e)) (first | with_reducible assumption | with_reducible exact key _ D2 | with_reducible exact key _ (C5.alloc C5.size _) | with_reducible exact key _ (((((C5.setCell hw _).setCell hw _).setCell hw _).setCell hw _).setCell hw _)) ((go_at_call 21; refine (H1 _ (by first | exact D1 | exact D2)).mono ?_; rintro e w5 ⟨rfl, hb5⟩; have C5 : Below W0.heap.size W0 w5 := (by first | exact Below.next D1 hb5 | exact Below.next D2 hb5); have hS5 := key _ C5; try (have Z5 := N2.kept hb5; have z0 : w5.cell? ⟨W0.heap.size, 0, none⟩ = some (.int .i64 0) := Z5.c0; have z1 : w5.cell? ⟨W0.heap.size, 1, none⟩ = some (.int .i64 0) := Z5.c1; have z2 : w5.cell? ⟨W0.heap.size, 2, none⟩ = some (.slice none 0 0) := Z5.c2; have z3 : w5.cell? ⟨W0.heap.size, 3, none⟩ = some (.int .i64 0) := Z5.c3; have z4 : w5.cell? ⟨W0.heap.size, 4, none⟩ = some (.int .i64 0) := Z5.c4; have f0 : w5.frozen? ⟨W0.heap.size, 0, none⟩ = false := (hb5.frozen (p := ⟨W0.heap.size, 0, none⟩) S2).trans (F2 0); have f1 : w5.frozen? ⟨W0.heap.size, 1, none⟩ = false := (hb5.frozen (p := ⟨W0.heap.size, 1, none⟩) S2).trans (F2 1); have f2 : w5.frozen? ⟨W0.heap.size, 2, none⟩ = false := (hb5.frozen (p := ⟨W0.heap.size, 2, none⟩) S2).trans (F2 2); have f3 : w5.frozen? ⟨W0.heap.size, 3, none⟩ = false := (hb5.frozen (p := ⟨W0.heap.size, 3, none⟩) S2).trans (F2 3); have f4 : w5.frozen? ⟨W0.heap.size, 4, none⟩ = false := (hb5.frozen (p := ⟨W0.heap.size, 4, none⟩) S2).trans (F2 4))))
    · go_wp2
      go_meet
      case rel =>
        have K5 := (K0.step C5).step (below_alloc w5 (.cells #[.int .i64 4, .int .i64 (botI n g), .slice none 0 0, .int .i64 f.h, .int .i64 f.e] 32))
        exact ⟨w5.heap.size, rfl, ⟨fun _ _ _ => rfl, Nat.le_refl _, K5.bl, ⟨(K0.step C5).sz, by rw [alloc_size]; omega⟩, K5.L, K5.F, K5.R, K5.G, by simp, by simp, by simp, by simp, by simp, fun i => frozen_new _ _ _ _⟩⟩
    · have Z5' : Bx w5 W0.heap.size (leafT 0 0) := N2.kept hb5
      have G5 : ∀ i, w5.frozen? ⟨W0.heap.size, i, none⟩ = false := fun i => (hb5.frozen (p := ⟨W0.heap.size, i, none⟩) S2).trans (F2 i)
      obtain ⟨e0, e1, e2, e3, e4⟩ := put5_cells (.int .i64 4) (.int .i64 (botI n g)) (.slice none 0 0) (.int .i64 f.h) (.int .i64 f.e) Z5' (fun i _ => G5 i)
      have K5 := K0.step C5
      have hsz := K0.sz
      have s5 : W0.heap.size < w5.heap.size := Nat.lt_of_lt_of_le S2 hb5.size
      have eb : ∀ b, b ≠ W0.heap.size → (World.put5 w5 W0.heap.size (.int .i64 4) (.int .i64 (botI n g)) (.slice none 0 0) (.int .i64 f.h) (.int .i64 f.e)).heap[b]? = w5.heap[b]? := fun b hb => put5_heap _ _ _ _ _ _ _ hb
      have ec : ∀ b i, b < w.heap.size + 3 → (World.put5 w5 W0.heap.size (.int .i64 4) (.int .i64 (botI n g)) (.slice none 0 0) (.int .i64 f.h) (.int .i64 f.e)).cell? ⟨b, i, none⟩ = w5.cell? ⟨b, i, none⟩ := fun b i hb => World.cell?_of_block (a := ⟨b, i, none⟩) (eb b (by omega))
      have ef : ∀ b i, b < w.heap.size + 3 → (World.put5 w5 W0.heap.size (.int .i64 4) (.int .i64 (botI n g)) (.slice none 0 0) (.int .i64 f.h) (.int .i64 f.e)).frozen? ⟨b, i, none⟩ = w5.frozen? ⟨b, i, none⟩ := fun b i hb => World.frozen?_of_block (a := ⟨b, i, none⟩) (eb b (by omega))
      have es : (World.put5 w5 W0.heap.size (.int .i64 4) (.int .i64 (botI n g)) (.slice none 0 0) (.int .i64 f.h) (.int .i64 f.e)).heap.size = w5.heap.size := by simp [World.put5, World.setCell]
      have KK : RS w (World.put5 w5 W0.heap.size (.int .i64 4) (.int .i64 (botI n g)) (.slice none 0 0) (.int .i64 f.h) (.int .i64 f.e)) (World.put5 w5 W0.heap.size (.int .i64 4) (.int .i64 (botI n g)) (.slice none 0 0) (.int .i64 f.h) (.int .i64 f.e)) W0.heap.size n g f (.slice none 0 0) :=
        ⟨fun _ _ _ => rfl, Nat.le_refl _, put5_below (by omega) K5.bl _ _ _ _ _, ⟨hsz, by rw [es]; exact s5⟩,
         ⟨(ec _ _ (by omega)).trans K5.L.c0, (ec _ _ (by omega)).trans K5.L.c1⟩,
         ⟨(ec _ _ (by omega)).trans K5.F.c0, (ec _ _ (by omega)).trans K5.F.c1, (ec _ _ (by omega)).trans K5.F.c2, (ec _ _ (by omega)).trans K5.F.c3, (ec _ _ (by omega)).trans K5.F.c4, (ec _ _ (by omega)).trans K5.F.c5, (ec _ _ (by omega)).trans K5.F.c6, (ec _ _ (by omega)).trans K5.F.c7, (ec _ _ (by omega)).trans K5.F.c8, (ec _ _ (by omega)).trans K5.F.c9, (ec _ _ (by omega)).trans K5.F.c10, (ec _ _ (by omega)).trans K5.F.c11, (ec _ _ (by omega)).trans K5.F.c12, (ec _ _ (by omega)).trans K5.F.c13, (ec _ _ (by omega)).trans K5.F.c14, (ec _ _ (by omega)).trans K5.F.c15, (ec _ _ (by omega)).trans K5.F.c16, (ec _ _ (by omega)).trans K5.F.c17⟩,
         ⟨(ec _ _ (by omega)).trans K5.R.c0, (ec _ _ (by omega)).trans K5.R.c1, (ec _ _ (by omega)).trans K5.R.c2, (ec _ _ (by omega)).trans K5.R.c3, (ec _ _ (by omega)).trans K5.R.c4⟩,
         fun i hi => (ef _ _ (by omega)).trans (K5.G i hi), e0, e1, e2, e3, e4, fun i => by rw [put5_frozen]; exact G5 i⟩
      go_wp2
      go_meet
      case rel => exact ⟨W0.heap.size, rfl, KK⟩
  case rest =>
    obtain ⟨TB, hp, HR⟩ := hcut
    subst hp
    clear K0
    have hTB := HR.out.tb
    have hE : (wc.alloc (.cells #[.int .i64 f.p.k, .int .i64 f.p.l, .slice f.p.ao f.p.len f.p.cap, .int .i64 f.p.h, .int .i64 f.p.e] 32)).ownsRow wc.heap.size 32 5 (.slice none 0 0) 0 [] := World.ownsRow_nil _ _ _ _
    have c2 := HR.out.c2
    have p0 := HR.out.cell (b := w.heap.size + 1) (by omega) HR.out.F.c0
    have p1 := HR.out.cell (b := w.heap.size + 1) (by omega) HR.out.F.c1
    have p2 := HR.out.cell (b := w.heap.size + 1) (by omega) HR.out.F.c2
    have p3 := HR.out.cell (b := w.heap.size + 1) (by omega) HR.out.F.c3
    have p4 := HR.out.cell (b := w.heap.size + 1) (by omega) HR.out.F.c4
    go_upto_region 3 with ((at_builtin; refine wpList_append_any Tryz.underlying30 Tryz.infoTy rfl (by decide) rfl _ _ rfl wc.heap.size (.slice none 0 0) 0 [] rfl hE (some ⟨wc.heap.size, 0, none⟩) 1 1 [.int .i64 f.p.k, .int .i64 f.p.l, .slice f.p.ao f.p.len f.p.cap, .int .i64 f.p.h, .int .i64 f.p.e] rfl (fun h => by cases h) rfl (fun a ha => by injection ha with ha; subst ha; exact World.news_of_block (cs := #[.int .i64 f.p.k, .int .i64 f.p.l, .slice f.p.ao f.p.len f.p.cap, .int .i64 f.p.h, .int .i64 f.p.e]) (t := 32) (fr := (0, 0)) (heap_alloc_new wc _)) (by intro x hx; simp only [List.mem_cons, List.not_mem_nil, or_false] at hx; rcases hx with rfl | rfl | rfl | rfl | rfl <;> rfl) (by unfold maxLen; omega) (by omega) (by rw [alloc_size]; omega) ?_; intro v6 w6 h6 g6; have HR6 : Hid (RS w wc w6 TB n g f (.slice none 0 0) ∧ w6.ownsRow wc.heap.size 32 5 v6 1 [.int .i64 f.p.k, .int .i64 f.p.l, .slice f.p.ao f.p.len f.p.cap, .int .i64 f.p.h, .int .i64 f.p.e]) := ⟨(HR.out.kept (below_alloc wc _)).grow g6 (fun k hk => by cases hk), h6⟩; have c2' := HR6.out.1.c2; have f2' := HR6.out.1.fz 2; obtain ⟨a6, d6, hv6⟩ := owform HR6.out.2; subst hv6; clear h6 g6 c2 p0 p1 p2 p3 p4))
    have HR7 : Hid (RS w wc (w6.setCell ⟨TB, 2, none⟩ (.slice a6 1 d6)) TB n g f (.slice a6 1 d6) ∧ (w6.setCell ⟨TB, 2, none⟩ (.slice a6 1 d6)).ownsRow wc.heap.size 32 5 (.slice a6 1 d6) 1 [.int .i64 f.p.k, .int .i64 f.p.l, .slice f.p.ao f.p.len f.p.cap, .int .i64 f.p.h, .int .i64 f.p.e]) := ⟨HR6.out.1.set _, ow_set HR6.out.2 hTB.2 _⟩
    clear HR6 c2' f2' hE
    generalize w6.setCell ⟨TB, 2, none⟩ (.slice a6 1 d6) = w7 at HR7 ⊢
    have c2 := HR7.out.1.c2
    have p0 := HR7.out.1.cell (b := w.heap.size + 1) (by omega) HR.out.F.c5
    have p1 := HR7.out.1.cell (b := w.heap.size + 1) (by omega) HR.out.F.c6
    have p2 := HR7.out.1.cell (b := w.heap.size + 1) (by omega) HR.out.F.c7
    have p3 := HR7.out.1.cell (b := w.heap.size + 1) (by omega) HR.out.F.c8
    have p4 := HR7.out.1.cell (b := w.heap.size + 1) (by omega) HR.out.F.c9
    have hE := owk HR7.out.2 (below_alloc w7 (.cells #[.int .i64 f.r.k, .int .i64 f.r.l, .slice f.r.ao f.r.len f.r.cap, .int .i64 f.r.h, .int .i64 f.r.e] 32))
    have hs7 := HR7.out.1.size
    go_upto_region 4 with ((at_builtin; refine wpList_append_any Tryz.underlying30 Tryz.infoTy rfl (by decide) rfl _ _ rfl wc.heap.size (.slice a6 1 d6) 1 [.int .i64 f.p.k, .int .i64 f.p.l, .slice f.p.ao f.p.len f.p.cap, .int .i64 f.p.h, .int .i64 f.p.e] rfl hE (some ⟨w7.heap.size, 0, none⟩) 1 1 [.int .i64 f.r.k, .int .i64 f.r.l, .slice f.r.ao f.r.len f.r.cap, .int .i64 f.r.h, .int .i64 f.r.e] rfl (fun h => by cases h) rfl (fun a ha => by injection ha with ha; subst ha; exact World.news_of_block (cs := #[.int .i64 f.r.k, .int .i64 f.r.l, .slice f.r.ao f.r.len f.r.cap, .int .i64 f.r.h, .int .i64 f.r.e]) (t := 32) (fr := (0, 0)) (heap_alloc_new w7 _)) (by intro x hx; simp only [List.mem_cons, List.not_mem_nil, or_false] at hx; rcases hx with rfl | rfl | rfl | rfl | rfl <;> rfl) (by unfold maxLen; omega) (by omega) (by rw [alloc_size]; omega) ?_; intro v8 w8 h8 g8; have HR8 : Hid (RS w wc w8 TB n g f (.slice a6 1 d6) ∧ w8.ownsRow wc.heap.size 32 5 v8 2 ([.int .i64 f.p.k, .int .i64 f.p.l, .slice f.p.ao f.p.len f.p.cap, .int .i64 f.p.h, .int .i64 f.p.e] ++ [.int .i64 f.r.k, .int .i64 f.r.l, .slice f.r.ao f.r.len f.r.cap, .int .i64 f.r.h, .int .i64 f.r.e])) := ⟨(HR7.out.1.kept (below_alloc w7 _)).grow g8 (fun k hk => (owb HR7.out.2 hk).1), h8⟩; have c2' := HR8.out.1.c2; have f2' := HR8.out.1.fz 2; obtain ⟨gg, d8, hv8⟩ := ow_some HR8.out.2 (by omega); subst hv8; clear h8 g8 c2 p0 p1 p2 p3 p4))
    have HR9 : Hid (RS w wc (w8.setCell ⟨TB, 2, none⟩ (.slice (some ⟨gg, 0, none⟩) 2 d8)) TB n g f (.slice (some ⟨gg, 0, none⟩) 2 d8) ∧ (w8.setCell ⟨TB, 2, none⟩ (.slice (some ⟨gg, 0, none⟩) 2 d8)).ownsRow wc.heap.size 32 5 (.slice (some ⟨gg, 0, none⟩) 2 d8) 2 ([.int .i64 f.p.k, .int .i64 f.p.l, .slice f.p.ao f.p.len f.p.cap, .int .i64 f.p.h, .int .i64 f.p.e] ++ [.int .i64 f.r.k, .int .i64 f.r.l, .slice f.r.ao f.r.len f.r.cap, .int .i64 f.r.h, .int .i64 f.r.e])) := ⟨HR8.out.1.set _, ow_set HR8.out.2 hTB.2 _⟩
    clear HR8 c2' f2' hE HR7 hs7
    generalize w8.setCell ⟨TB, 2, none⟩ (.slice (some ⟨gg, 0, none⟩) 2 d8) = w9 at HR9 ⊢
    have HB9 := HR9.out.1.bl
    have HU : Hid (Ty.At w9 (.mk 4 (botI n g) f.h f.e (some ⟨gg, 0, none⟩) gg 0 2 d8 (fun i => if i = 0 then f.p else f.r))) := by
      have get : ∀ j, j < 10 → w9.cell? ⟨gg, j, none⟩ = ([.int .i64 f.p.k, .int .i64 f.p.l, .slice f.p.ao f.p.len f.p.cap, .int .i64 f.p.h, .int .i64 f.p.e] ++ [.int .i64 f.r.k, .int .i64 f.r.l, .slice f.r.ao f.r.len f.r.cap, .int .i64 f.r.h, .int .i64 f.r.e])[j]? := fun j hj => HR9.out.2.cellAt j (by omega)
      refine ⟨fun _ => rfl, by omega, fun i hi => ?_⟩
      match i, hi with
      | 0, _ => exact ⟨⟨get 0 (by omega), get 1 (by omega), get 2 (by omega), get 3 (by omega), get 4 (by omega)⟩, HN.out.2.2.p.kept HB9⟩
      | 1, _ => exact ⟨⟨get 5 (by omega), get 6 (by omega), get 7 (by omega), get 8 (by omega), get 9 (by omega)⟩, HN.out.2.2.r.kept HB9⟩
    have gb : gg ≠ w.heap.size + 2 := by have := (owb HR9.out.2 (k := gg) rfl).1; omega
    have hC : Calls Tryz.prog 22 #[.agg #[.slice n.ao n.len n.cap, .slice g.ao g.len g.cap], .agg #[.int .i64 4, .int .i64 (botI n g), .slice (some ⟨gg, 0, none⟩) 2 d8, .int .i64 f.h, .int .i64 f.e]] w9 fun e w' => e = .returned (.bool (okB n g (funT n g f))) ∧ Below w9.heap.size w9 w' := rFormed2_any n g (.mk 4 (botI n g) f.h f.e (some ⟨gg, 0, none⟩) gg 0 2 d8 (fun i => if i = 0 then f.p else f.r)) w9 (HN.out.1.kept HB9) (HN.out.2.1.kept HB9) HU.out
    have l0 := HR9.out.1.cell (b := w.heap.size) (by omega) HR.out.L.c0
    have l1 := HR9.out.1.cell (b := w.heap.size) (by omega) HR.out.L.c1
    have t0 := HR9.out.1.c0
    have t1 := HR9.out.1.c1
    have t2 := HR9.out.1.c2
    have t3 := HR9.out.1.c3
    have t4 := HR9.out.1.c4
    go_wp2_with fail
    refine hC.mono ?_
    rintro e w10 ⟨rfl, hb10⟩
    have HR10 : Hid (RS w wc w10 TB n g f (.slice (some ⟨gg, 0, none⟩) 2 d8) ∧ Ty.At w10 (.mk 4 (botI n g) f.h f.e (some ⟨gg, 0, none⟩) gg 0 2 d8 (fun i => if i = 0 then f.p else f.r))) := ⟨HR9.out.1.kept hb10, HU.out.kept hb10⟩
    have HRB : Hid (Bx w10 (w.heap.size + 2) (leafT 0 0) ∧ ∀ i, i < 5 → w10.frozen? ⟨w.heap.size + 2, i, none⟩ = false) := ⟨⟨HR10.out.1.cell (b := w.heap.size + 2) (by omega) HR.out.R.c0, HR10.out.1.cell (b := w.heap.size + 2) (by omega) HR.out.R.c1, HR10.out.1.cell (b := w.heap.size + 2) (by omega) HR.out.R.c2, HR10.out.1.cell (b := w.heap.size + 2) (by omega) HR.out.R.c3, HR10.out.1.cell (b := w.heap.size + 2) (by omega) HR.out.R.c4⟩, fun i hi => (World.frozen?_of_block (a := ⟨w.heap.size + 2, i, none⟩) (HR10.out.1.agree (w.heap.size + 2) (by omega) (by omega))).trans (HR.out.G i hi)⟩
    clear hC l0 l1 t0 t1 t2 t3 t4 HR9 HU HB9 hb10
    cases hok : okB n g (funT n g f)
    · have HT : Hid (typeT n g f = leafT 0 0) := type_none hok
      clear hok
      go_wp2_with (refine wpList_store5 rfl rfl _ _ rfl (w.heap.size + 2) _ _ _ _ _ rfl rfl rfl rfl rfl rfl rfl HRB.out.1 HRB.out.2 ?_)
      obtain ⟨e0, e1, e2, e3, e4⟩ := put5_cells (.int .i64 0) (.int .i64 0) (.slice none 0 0) (.int .i64 0) (.int .i64 0) HRB.out.1 HRB.out.2
      refine bodyPost_ret (v := .agg #[.int .i64 0, .int .i64 0, .slice none 0 0, .int .i64 0, .int .i64 0]) (by simp [results, Tryz.results8, go_sem, e0, e1, e2, e3, e4]) rfl (TP.intro (leafT 0 0) rfl (leaf_at _ _ _) (by rw [HT.out]; exact same_refl _) (put5_below (by omega) HR10.out.1.bl _ _ _ _ _))
    · have HT : Hid (typeT n g f = funT n g f) := type_self hok
      clear hok
      have t0 := HR10.out.1.c0
      have t1 := HR10.out.1.c1
      have t2 := HR10.out.1.c2
      have t3 := HR10.out.1.c3
      have t4 := HR10.out.1.c4
      go_wp2_with (refine wpList_store5 rfl rfl _ _ rfl (w.heap.size + 2) _ _ _ _ _ rfl rfl rfl rfl rfl rfl rfl HRB.out.1 HRB.out.2 ?_)
      obtain ⟨e0, e1, e2, e3, e4⟩ := put5_cells (.int .i64 4) (.int .i64 (botI n g)) (.slice (some ⟨gg, 0, none⟩) 2 d8) (.int .i64 f.h) (.int .i64 f.e) HRB.out.1 HRB.out.2
      have fB := HN.out.2.2
      have hUA : Ty.At (World.put5 w10 (w.heap.size + 2) (.int .i64 4) (.int .i64 (botI n g)) (.slice (some ⟨gg, 0, none⟩) 2 d8) (.int .i64 f.h) (.int .i64 f.e)) (.mk 4 (botI n g) f.h f.e (some ⟨gg, 0, none⟩) gg 0 2 d8 (fun i => if i = 0 then f.p else f.r)) := at_of_off (B := w.heap.size + 2) (fun b hb => put5_heap _ _ _ _ _ _ _ hb) HR10.out.2 (fun i hi => ⟨gb, by
        match i, hi with
        | 0, _ => exact off_of_at (by omega) fB.p
        | 1, _ => exact off_of_at (by omega) fB.r⟩)
      refine bodyPost_ret (v := .agg #[.int .i64 4, .int .i64 (botI n g), .slice (some ⟨gg, 0, none⟩) 2 d8, .int .i64 f.h, .int .i64 f.e]) (by simp [results, Tryz.results8, go_sem, e0, e1, e2, e3, e4]) rfl (TP.intro (.mk 4 (botI n g) f.h f.e (some ⟨gg, 0, none⟩) gg 0 2 d8 (fun i => if i = 0 then f.p else f.r)) rfl hUA (by rw [HT.out]; unfold funT; rw [same_loc _ _ _ _ _ none (some ⟨gg, 0, none⟩) 0 gg 0 0 2 2 d8]; exact same_refl _) (put5_below (by omega) HR10.out.1.bl _ _ _ _ _))
end Go.Proofs.YtnkipiegjpjfbaaGreatDoor

/- Layer 3: the walks of the reference's sound and Formed. -/
namespace Go.Proofs.YtnkipiegjpjfbaaGreatDoor
open Go.RowKit

theorem fm_mk (k m : Int) (ao : Option Addr) (b o len cap : Nat) (ps : Nat → Vl) : Vl.fm (.mk k m ao b o len cap ps) = (ndB k m len && decide (∀ i, i < len → (ps i).fm = true)) := rfl
theorem fm_none {k m : Int} {ao : Option Addr} {b o len cap : Nat} {ps : Nat → Vl} (h : len = 0) : Vl.fm (.mk k m ao b o len cap ps) = ndB k m len := by
  subst h
  rw [fm_mk, decide_eq_true (fun i h => absurd h (Nat.not_lt_zero _)), Bool.and_true]
theorem fm_no {k m : Int} {ao : Option Addr} {b o len cap : Nat} {ps : Nat → Vl} (h : ndB k m len = false) : Vl.fm (.mk k m ao b o len cap ps) = false := by
  rw [fm_mk, h]; rfl

set_option maxRecDepth 100000 in
set_option maxHeartbeats 8000000 in
theorem sound_any : ∀ (v : Vl) (w : World), v.At w → Calls Tryz.prog 46 #[.agg #[.int .i64 v.k, .int .i64 v.m, .slice v.ao v.len v.cap]] w fun e w' => e = .returned (.bool v.fm) ∧ Below w.heap.size w w' := by
  intro v
  induction v with
  | dm => intro w h; exact h.elim
  | mk k m ao b o len cap ps ih =>
    intro w hAt
    show Calls Tryz.prog 46 #[.agg #[.int .i64 k, .int .i64 m, .slice ao len cap]] w fun r w' => r = .returned (.bool (Vl.fm (.mk k m ao b o len cap ps))) ∧ Below w.heap.size w w'
    have X0 := Bv.new w (.mk k m ao b o len cap ps)
    have hb : len ≤ 9223372036854775807 := hAt.bound
    have hnil : 0 < len → ao = some ⟨b, o, none⟩ := hAt.nil
    have B0 := below_alloc w (.cells #[.int .i64 k, .int .i64 m, .slice ao len cap] 35)
    have hA1 := hAt.kept B0
    have HS : Hid (Bv (w.alloc (.cells #[.int .i64 k, .int .i64 m, .slice ao len cap] 35)) w.heap.size (.mk k m ao b o len cap ps) ∧ Vl.At (w.alloc (.cells #[.int .i64 k, .int .i64 m, .slice ao len cap] 35)) (.mk k m ao b o len cap ps) ∧ Below w.heap.size w (w.alloc (.cells #[.int .i64 k, .int .i64 m, .slice ao len cap] 35))) := ⟨X0, hA1, B0⟩
    clear X0 hA1 B0 hAt
    by_cases h1 : k = 1
    · subst h1
      by_cases hl : len = 0
      · subst hl
        have HE : Hid (Vl.fm (.mk 1 m ao b o 0 cap ps) = true) := fm_none rfl
        go_enter Tryz.func46, Tryz.ntmps46
        go_wp2
        go_ret
        exact ⟨ret_bool HE.out.symm, HS.out.2.2⟩
      · have HE : Hid (Vl.fm (.mk 1 m ao b o len cap ps) = false) := fm_no (by simp [ndB, hl])
        have e0 : ((len : Int) == 0) = false := by rw [beq_eq_false_iff_ne]; omega
        go_enter Tryz.func46, Tryz.ntmps46
        go_wp2
        go_ret
        exact ⟨ret_bool HE.out.symm, HS.out.2.2⟩
    by_cases h2 : k = 2
    · subst h2
      by_cases hl : len = 0
      · subst hl
        have HE : Hid (Vl.fm (.mk 2 m ao b o 0 cap ps) = ((m == 0) || (m == 1))) := (fm_none rfl).trans (by simp [ndB])
        cases m0 : (m == 0)
        · rw [m0] at HE
          go_enter Tryz.func46, Tryz.ntmps46
          go_wp2
          go_ret
          exact ⟨ret_bool HE.out.symm, HS.out.2.2⟩
        · rw [m0] at HE
          go_enter Tryz.func46, Tryz.ntmps46
          go_wp2
          go_ret
          exact ⟨ret_bool HE.out.symm, HS.out.2.2⟩
      · have HE : Hid (Vl.fm (.mk 2 m ao b o len cap ps) = false) := fm_no (by simp [ndB, hl])
        have e0 : ((len : Int) == 0) = false := by rw [beq_eq_false_iff_ne]; omega
        go_enter Tryz.func46, Tryz.ntmps46
        go_wp2
        go_ret
        exact ⟨ret_bool HE.out.symm, HS.out.2.2⟩
    by_cases h5 : k = 5
    · subst h5
      by_cases hl : len = 0
      · subst hl
        have HE : Hid (Vl.fm (.mk 5 m ao b o 0 cap ps) = (decide (0 ≤ m) && decide (m ≤ 2147483647))) := (fm_none rfl).trans (by simp [ndB])
        cases m0 : decide (0 ≤ m)
        · rw [m0] at HE
          go_enter Tryz.func46, Tryz.ntmps46
          go_wp2
          go_ret
          exact ⟨ret_bool HE.out.symm, HS.out.2.2⟩
        · rw [m0] at HE
          go_enter Tryz.func46, Tryz.ntmps46
          go_wp2
          go_ret
          exact ⟨ret_bool HE.out.symm, HS.out.2.2⟩
      · have HE : Hid (Vl.fm (.mk 5 m ao b o len cap ps) = false) := fm_no (by simp [ndB, hl])
        have e0 : ((len : Int) == 0) = false := by rw [beq_eq_false_iff_ne]; omega
        go_enter Tryz.func46, Tryz.ntmps46
        go_wp2
        go_ret
        exact ⟨ret_bool HE.out.symm, HS.out.2.2⟩
    by_cases h3 : k = 3
    · subst h3
      by_cases hl : len = 2
      · subst hl
        have a0 := hnil (by omega)
        subst a0
        clear hnil
        cases m0 : (m == 0)
        · have HE : Hid (Vl.fm (.mk 3 m (some ⟨b, o, none⟩) b o 2 cap ps) = false) := fm_no (by simp [ndB, m0])
          go_enter Tryz.func46, Tryz.ntmps46
          go_wp2
          go_ret
          exact ⟨ret_bool HE.out.symm, HS.out.2.2⟩
        · have HE : Hid (Vl.fm (.mk 3 m (some ⟨b, o, none⟩) b o 2 cap ps) = ((ps 0).fm && (ps 1).fm)) := by
            show Vl.fm _ = _
            rw [fm_mk, show ndB 3 m 2 = true by simp [ndB, m0], Bool.true_and]
            cases e0 : (ps 0).fm
            · exact decide_eq_false (fun h => by have := h 0 (by omega); rw [e0] at this; cases this)
            · cases e1 : (ps 1).fm
              · exact decide_eq_false (fun h => by have := h 1 (by omega); rw [e1] at this; cases this)
              · exact decide_eq_true (fun i hi => by
                  match i, hi with
                  | 0, _ => exact e0
                  | 1, _ => exact e1)
          obtain ⟨X, A, B⟩ := HS.out
          have C0 : C3 _ b (o + 0 * 3) (ps 0) := A.cells (i := 0) (by show 0 < 2; omega)
          have P0 : (ps 0).At _ := A.part (i := 0) (by show 0 < 2; omega)
          have x2 : (w.alloc (.cells #[.int .i64 3, .int .i64 m, .slice (some ⟨b, o, none⟩) 2 cap] 35)).cell? ⟨w.heap.size, 2, none⟩ = some (.slice (some ⟨b, o, none⟩) 2 cap) := X.c2
          have y0 := C0.c0
          have y1 := C0.c1
          have y2 := C0.c2
          simp only [Nat.zero_mul, Nat.add_zero] at y0 y1 y2
          clear C0
          go_enter Tryz.func46, Tryz.ntmps46
          go_wp2_with fail
          refine (ih 0 _ P0).mono ?_
          rintro r w1 ⟨rfl, hb1⟩
          have X1 := X.kept hb1
          have A1 := A.kept hb1
          have B1 := Below.next B hb1
          clear X A B hb1 P0 x2 y0 y1 y2
          cases hf : (ps 0).fm
          · rw [hf] at HE
            go_wp2
            go_ret
            exact ⟨ret_bool HE.out.symm, B1⟩
          · rw [hf] at HE
            have C1 : C3 _ b (o + 1 * 3) (ps 1) := A1.cells (i := 1) (by show 1 < 2; omega)
            have P1 : (ps 1).At _ := A1.part (i := 1) (by show 1 < 2; omega)
            have x2 : w1.cell? ⟨w.heap.size, 2, none⟩ = some (.slice (some ⟨b, o, none⟩) 2 cap) := X1.c2
            have y0 := C1.c0
            have y1 := C1.c1
            have y2 := C1.c2
            simp only [Nat.one_mul] at y0 y1 y2
            clear C1 A1 X1
            go_wp2_with fail
            refine (ih 1 _ P1).mono ?_
            rintro r w2 ⟨rfl, hb2⟩
            go_wp2
            go_ret
            exact ⟨ret_bool HE.out.symm, Below.next B1 hb2⟩
      · have HE : Hid (Vl.fm (.mk 3 m ao b o len cap ps) = false) := fm_no (by simp [ndB, hl])
        have e0 : ((len : Int) == 2) = false := by rw [beq_eq_false_iff_ne]; omega
        go_enter Tryz.func46, Tryz.ntmps46
        go_wp2
        go_ret
        exact ⟨ret_bool HE.out.symm, HS.out.2.2⟩
    by_cases h4 : k = 4
    · subst h4
      have HE : Hid (Vl.fm (.mk 4 m ao b o len cap ps) = ((decide (0 ≤ m) && decide (m < 60)) && decide (∀ i, i < len → (ps i).fm = true))) := by
        show Vl.fm _ = _
        rw [fm_mk]; rfl
      go_enter Tryz.func46, Tryz.ntmps46
      go_wp2
      go_loopw [4] (fun i wr => ∃ (j : Nat), j ≤ len ∧ i = .int .i64 j ∧ (∀ i, i < j → (ps i).fm = true) ∧ Bv wr w.heap.size (.mk 4 m ao b o len cap ps) ∧ Vl.At wr (.mk 4 m ao b o len cap ps) ∧ Below w.heap.size w wr) (fun i _ => len - (intOf i).toNat)
      case atStart => exact ⟨0, Nat.zero_le _, rfl, fun _ h => absurd h (Nat.not_lt_zero _), HS.out⟩
      case round =>
        obtain ⟨j, hj, rfl, hdone, hX, hA, hB⟩ := hrel
        clear HS
        have x1 : wr.cell? ⟨w.heap.size, 1, none⟩ = some (.int .i64 m) := hX.c1
        have x2 : wr.cell? ⟨w.heap.size, 2, none⟩ = some (.slice ao len cap) := hX.c2
        have HS : Hid (Bv wr w.heap.size (.mk 4 m ao b o len cap ps) ∧ Vl.At wr (.mk 4 m ao b o len cap ps) ∧ Below w.heap.size w wr) := ⟨hX, hA, hB⟩
        have HD : Hid (∀ i, i < j → (ps i).fm = true) := hdone
        clear hX hdone hB
        by_cases hlt : j < len
        · have ij : (j : Int) < len := by omega
          have a0 := hnil (by omega)
          subst a0
          have C : C3 wr b (o + j * 3) (ps j) := hA.cells hlt
          have P : (ps j).At wr := hA.part hlt
          have y0 := C.c0
          have y1 := C.c1
          have y2 := C.c2
          clear hA C
          go_wp2_with fail
          refine (ih j _ P).mono ?_
          rintro r w1 ⟨rfl, hb1⟩
          clear y0 y1 y2 x2 x1
          cases hp : (ps j).fm
          · have HF : Hid (decide (∀ i, i < len → (ps i).fm = true) = false) := decide_eq_false (fun hh => absurd (hp.symm.trans (hh j hlt)) (by decide))
            clear hp
            go_wp2
            go_ret
            exact ⟨ret_bool (by rw [HE.out, HF.out, Bool.and_false]), Below.next HS.out.2.2 hb1⟩
          · have HP : Hid ((ps j).fm = true) := hp
            clear hp
            go_wp2
            go_roundw
            case rel => exact ⟨j + 1, by omega, by go_num, fun i hi => (by
                by_cases e : i = j
                · subst e; exact HP.out
                · exact HD.out i (by omega)), HS.out.1.kept hb1, HS.out.2.1.kept hb1, Below.next HS.out.2.2 hb1⟩
            case measure => simp [intOf]; omega
        · have e : len = j := by omega
          subst e
          have d : ¬ (len : Int) < len := by omega
          have HF : Hid (Vl.fm (.mk 4 m ao b o len cap ps) = (decide (0 ≤ m) && decide (m < 60))) := by show Vl.fm _ = _; rw [HE.out, decide_eq_true HD.out, Bool.and_true]
          clear HE
          cases m0 : decide (0 ≤ m)
          · rw [m0] at HF
            go_wp2
            go_ret
            exact ⟨ret_bool HF.out.symm, HS.out.2.2⟩
          · rw [m0] at HF
            go_wp2
            go_ret
            exact ⟨ret_bool HF.out.symm, HS.out.2.2⟩
    · have HE : Hid (Vl.fm (.mk k m ao b o len cap ps) = false) := fm_no (by simp [ndB, h1, h2, h3, h4, h5])
      have b1 : (k == 1) = false := beq_eq_false_iff_ne.2 h1
      have b2 : (k == 2) = false := beq_eq_false_iff_ne.2 h2
      have b3 : (k == 3) = false := beq_eq_false_iff_ne.2 h3
      have b4 : (k == 4) = false := beq_eq_false_iff_ne.2 h4
      have b5 : (k == 5) = false := beq_eq_false_iff_ne.2 h5
      clear h1 h2 h3 h4 h5
      go_enter Tryz.func46, Tryz.ntmps46
      go_wp2
      go_ret
      exact ⟨ret_bool HE.out.symm, HS.out.2.2⟩

set_option maxHeartbeats 2000000 in
theorem rvFormed_any (v : Vl) (w : World) (hv : v.At w) : Calls Tryz.prog 26 #[.agg #[.int .i64 v.k, .int .i64 v.m, .slice v.ao v.len v.cap]] w fun e w' => e = .returned (.bool v.ok) ∧ Below w.heap.size w w' := by
  have X0 := Bv.new w v
  have B0 := below_alloc w (.cells #[.int .i64 v.k, .int .i64 v.m, .slice v.ao v.len v.cap] 35)
  have hA := hv.kept B0
  go_enter Tryz.func26, Tryz.ntmps26
  go_wp2_with fail
  refine (rvNodes_any v _ hA).mono ?_
  rintro r w1 ⟨rfl, hb1⟩
  have X1 := X0.kept hb1
  have A1 := hA.kept hb1
  have B1 := Below.next B0 hb1
  clear X0 hA B0 hb1
  by_cases h : v.nodes ≤ 2000
  · have HE : Hid (v.ok = v.fm) := by show v.ok = _; unfold Vl.ok; rw [decide_eq_true h, Bool.true_and]
    have d : decide (((min v.nodes 2001 : Nat) : Int) ≤ 2000) = true := decide_eq_true (by omega)
    generalize min v.nodes 2001 = q at d
    have x0 := X1.c0
    have x1 := X1.c1
    have x2 := X1.c2
    go_wp2_with fail
    refine (sound_any v _ A1).mono ?_
    rintro r w2 ⟨rfl, hb2⟩
    go_wp2
    go_ret
    exact ⟨ret_bool HE.out.symm, Below.next B1 hb2⟩
  · have HE : Hid (v.ok = false) := by show v.ok = _; unfold Vl.ok; rw [decide_eq_false h, Bool.false_and]
    have d : decide (((min v.nodes 2001 : Nat) : Int) ≤ 2000) = false := decide_eq_false (by omega)
    generalize min v.nodes 2001 = q at d
    go_wp2
    go_ret
    exact ⟨ret_bool HE.out.symm, B1⟩
end Go.Proofs.YtnkipiegjpjfbaaGreatDoor
