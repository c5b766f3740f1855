/- Layer 13: class.Encode over any class. -/
import Derived.Test.YtjfijpiadfkmfaaGreatDoorP27
import Derived.Test.YtjfijpiadfkmfaaGreatDoorP7
import Derived.Test.YtjfijpiadfkmfaaGreatDoorP10
namespace Go.Proofs.YtjfijpiadfkmfaaGreatDoor
open Go Go.RowKit

theorem own_low {w : World} {base b0 : Nat} {e : TypeId} {size : Nat} {v : Value} {k : Nat} {xs : List Value} (h : w.ownsRow base e size v k xs) (hb : b0 ≤ base) : w.ownsRow b0 e size v k xs := by
  obtain ⟨h1, h2 | ⟨g, cap, cur, hv, hg, rest⟩⟩ := h
  · exact ⟨h1, .inl h2⟩
  · exact ⟨h1, .inr ⟨g, cap, cur, hv, Nat.le_trans hb hg, rest⟩⟩
theorem own_slice {w : World} {base : Nat} {e : TypeId} {size : Nat} {v : Value} {k : Nat} {xs : List Value} (h : w.ownsRow base e size v k xs) : ∃ ao cap, v = .slice ao k cap := by
  obtain ⟨h1, ⟨rfl, rfl⟩ | ⟨g, cap, cur, hv, hg, rest⟩⟩ := h
  · exact ⟨none, 0, rfl⟩
  · exact ⟨_, cap, hv⟩
/-- The types of a class, in their order. -/
def Kl.tys (c : Kl) : List Ty := fnL c.fs.x c.fs.len []
/-- What Encode answers. -/
structure EncR (c : Kl) (w : World) (e : Ending) (w' : World) : Prop where
  no : c.fm = false → e = .returned (.tuple #[.slice none 0 0, .int .i64 9])
  yes : c.fm = true → ∃ Q, Good c.n.len c.tys Q ∧ ((wCl Q c.tys c (some []) = none ∧ e = .returned (.tuple #[.slice none 0 0, .int .i64 1])) ∨ ∃ ao cap l, wCl Q c.tys c (some []) = some l ∧ w'.ownsRow w.heap.size 5 1 (.slice ao l.length cap) l.length (bv l) ∧ l.length ≤ 262144 ∧ e = .returned (.tuple #[.slice ao l.length cap, .int .i64 0]))
  bl : Below w.heap.size w w'

set_option maxRecDepth 100000 in
set_option maxHeartbeats 8000000 in
theorem cEncode_any (c : Kl) (w : World) (hc : c.At w) (hO : Og w) : Calls Tryz.prog 9 #[.agg #[.slice c.n.ao c.n.len c.n.cap, .slice c.g.ao c.g.len c.g.cap, .slice c.fs.ao c.fs.len c.fs.cap]] w fun e w' => EncR c w e w' := by
  have B0 := below_alloc w (.cells #[.slice c.n.ao c.n.len c.n.cap, .slice c.g.ao c.g.len c.g.cap, .slice c.fs.ao c.fs.len c.fs.cap] 28)
  have b := Blk.new w [.slice c.n.ao c.n.len c.n.cap, .slice c.g.ao c.g.len c.g.cap, .slice c.fs.ao c.fs.len c.fs.cap] 28
  have c0 := b.cell 0 rfl
  have c1 := b.cell 1 rfl
  have c2 := b.cell 2 rfl
  have h := gather_any c _ (Kl.At.kept B0 hc) (hO.kept B0)
  have HD := hyd (show c.At w ∧ Og w from ⟨hc, hO⟩)
  have HB := hyd B0
  have Hb := hyd b
  clear b B0 hc hO
  go_enter Tryz.func9, Tryz.ntmps9
  go_wp2_with fail
  refine Calls.mono h ?_
  intro e w1 h1
  have HB1 := hyd (Below.next HB.out h1.bl)
  have Hb1 := hyd (Hb.out.kept h1.bl)
  clear h c0 c1 c2
  cases hf : c.fm
  · obtain rfl := h1.no hf
    have HF := hyd hf
    clear h1 hf
    go_wp2
    go_ret2
    exact ⟨fun _ => rfl, fun h => absurd (HF.out.symm.trans h) (by simp), HB1.out⟩
  · obtain ⟨p, S, rfl, ⟨m, v, es, cc, Q, hP, _⟩, hR⟩ := h1.yes hf
    have HP := hyd hP
    have HR := hyd hR
    have HF := hyd hf
    clear h1 hf hP hR
    have B2 := below_alloc w1 (.cells #[.pointer (some ⟨p, 0, none⟩), .slice none 0 0, .bool false] 68)
    have HW := hyd (show Wl w1 p w1.heap.size (WS w1.heap.size (.slice none 0 0)) (some []) (w1.alloc (.cells #[.pointer (some ⟨p, 0, none⟩), .slice none 0 0, .bool false] 68)) from ⟨.slice none 0 0, false, [], ⟨B2, Blk.new _ _ _, World.ownsRow_nil _ _ _ _, Nat.le_refl _, Nat.zero_le _⟩, rfl, .inl ⟨rfl, rfl⟩⟩)
    have HK : Hid (c.n.len ≤ 8 ∧ (∀ i, i < c.g.len → c.g.L i ≤ 8) ∧ ∀ i, i < c.fs.len → Wok (c.fs.x i)) := by
      have h1 := HF.out
      unfold Kl.fm at h1
      simp only [Bool.and_eq_true, decide_eq_true_eq] at h1
      obtain ⟨h2, _, h3⟩ := h1
      obtain ⟨h4, h5, h6, h7⟩ := formed_parts h2
      exact ⟨h6, fun i hi => by rw [h7 i hi]; exact h6, fun i hi => fm_wok h6 (h3 i hi)⟩
    have hcl := wclass_any HP.out HR.out HW.out c (Kl.At.kept HB1.out HD.out.1) HK.out (HD.out.2.kept HB1.out)
    have b2 := Hb1.out.kept B2
    have c0 := b2.cell 0 rfl
    have c1 := b2.cell 1 rfl
    have c2 := b2.cell 2 rfl
    clear b2 B2
    go_upto_region 5 with fail
    generalize w1.alloc (.cells #[.pointer (some ⟨p, 0, none⟩), .slice none 0 0, .bool false] 68) = u2 at *
    go_wp2_with fail
    refine Calls.mono hcl ?_
    rintro _ u3 ⟨rfl, S3, hg⟩
    obtain ⟨v3, lg, l, hW3, hS3, hst⟩ := hg.wl
    have d1 := hW3.blk.cell 1 rfl
    have d2 := hW3.blk.cell 2 rfl
    have H3 := hyd hW3
    clear hcl hg hS3 c0 c1 c2 hW3
    rcases hst with ⟨hs, rfl⟩ | ⟨hs, rfl⟩
    · obtain ⟨ao, cap, rfl⟩ := own_slice H3.out.own
      have HS := hyd hs
      clear hs
      go_wp2
      go_ret2
      exact ⟨fun h => absurd (HF.out.symm.trans h) (by simp), fun _ => ⟨Q, HP.out.good, .inr ⟨ao, cap, l, HS.out, own_low H3.out.own HB1.out.size, H3.out.lt, rfl⟩⟩, Below.next HB1.out H3.out.bl⟩
    · have HS := hyd hs
      clear hs
      go_wp2
      go_ret2
      exact ⟨fun h => absurd (HF.out.symm.trans h) (by simp), fun _ => ⟨Q, HP.out.good, .inl ⟨HS.out, rfl⟩⟩, Below.next HB1.out H3.out.bl⟩
end Go.Proofs.YtjfijpiadfkmfaaGreatDoor

/- Layers 13 to 15: the lattice of one label, as the statements make it. -/
namespace Go.Proofs.YtjfijpiadfkmfaaGreatDoor
open Go Go.RowKit

def litS : Nat → ByteArray := fun _ => ⟨#[108, 111, 119]⟩
def litN (b : Nat) : Strs := ⟨some ⟨b, 0, none⟩, b, 0, 1, 1, litS⟩
def litP : Prs := ⟨none, 0, 0, 0, 0, fun _ => 0, fun _ => 0⟩
theorem lit_e (b : Nat) : makeE (litN b) litP = 0 := by kernel_rfl
def litW (w : World) : World := w.alloc (.cells #[.string ⟨#[108, 111, 119]⟩] 9)
theorem litW_below (w : World) : Below w.heap.size w (litW w) := below_alloc _ _
theorem litN_at (w : World) : (litN w.heap.size).At (litW w) := by
  refine ⟨Nat.le_refl _, fun _ => rfl, by show (1 : Nat) ≤ _; omega, fun i hi => ?_, fun i hi => ?_⟩
  · match i, hi with
    | 0, _ => simp [litW, litN, litS]
  · show (3 : Nat) ≤ _; omega
theorem litP_at (w : World) : litP.At w := ⟨Nat.le_refl _, fun h => absurd h (Nat.lt_irrefl _), Nat.zero_le _, fun _ h => absurd h (Nat.not_lt_zero _), fun _ h => absurd h (Nat.not_lt_zero _)⟩
/-- The lattice of one. -/
structure Lt1 (n : Strs) (g : Grid) (w : World) : Prop where
  nat : n.At w
  gat : g.At w
  fd : formedB n g = true
  one : n.len = 1
  nm : n.s 0 = ⟨#[108, 111, 119]⟩
  le : g.B 0 0 = true
  rows : ∀ r, r < g.len → g.A r ≠ none
theorem one_make (w : World) :
    Calls Tryz.prog 18 #[.slice (some ⟨w.heap.size, 0, none⟩) 1 1, .slice none 0 0] (w.alloc (.cells #[.string ⟨#[108, 111, 119]⟩] 9))
      fun e w' => ∃ (n : Strs) (g : Grid), e = .returned (.tuple #[.agg #[.slice n.ao n.len n.cap, .slice g.ao g.len g.cap], .int .i64 0]) ∧ Lt1 n g w' ∧ Below w.heap.size w w' := by
  refine (rmake_any (litN w.heap.size) litP (litW w) (litN_at w) (litP_at _) (Or.inr rfl)).mono ?_
  rintro e w1 ⟨er, n', g', rfl, hM, hb1⟩
  have h0 : er = 0 := hM.er.trans (lit_e _)
  subst h0
  obtain ⟨h1, h2, ao, gg, cap, R, rfl⟩ := hM.yes rfl
  refine ⟨n', _, rfl, ⟨hM.nat, hM.gat, ?_, h1, by rw [h2]; rfl, ?_, fun r _ => by simp [gridR]⟩, (litW_below w).trans (hb1.mono (litW_below w).size)⟩
  · rw [formed_gen h1 h2]
    have he := lit_e w.heap.size
    unfold makeE at he
    split at he
    · cases he
    · split at he
      · cases he
      · split at he
        · cases he
        · rename_i h; simpa using h
  · show leastM litP 1 0 0 = true
    kernel_rfl
def nilRw {α : Type} (x : α) : Rw α := ⟨none, 0, 0, 0, 0, fun _ => x⟩
theorem nilRw_at {α : Type} (x : α) (z : Nat) (vs : α → List Value) (A : World → α → Prop) (w : World) : Rw.At z vs A w (nilRw x) := ⟨fun h => absurd h (Nat.lt_irrefl _), Nat.zero_le _, fun _ h => absurd h (Nat.not_lt_zero _), fun _ h => absurd h (Nat.not_lt_zero _)⟩
end Go.Proofs.YtjfijpiadfkmfaaGreatDoor

/- Layer 13: the statements' little class, and awake. -/
namespace Go.Proofs.YtjfijpiadfkmfaaGreatDoor
open Go Go.RowKit

/-- The little class's function. -/
def litF : Cf := ⟨leafT 1 0, leafT 1 0, leafT 0 0, 0, -1, 1, nilRw ⟨0, 0, .dm⟩, nilRw ⟨0, 0, 0⟩, nilRw ⟨.dm, .dm, 0⟩, nilRw ⟨0, 0, nilRw 0⟩⟩
theorem litF_at (w : World) : litF.At w := ⟨leaf_at _ _ _, leaf_at _ _ _, leaf_at _ _ _, (show (-9223372036854775808 : Int) ≤ 0 ∧ (0 : Int) ≤ 9223372036854775807 by omega), (show (-9223372036854775808 : Int) ≤ -1 ∧ (-1 : Int) ≤ 9223372036854775807 by omega), (show (-9223372036854775808 : Int) ≤ 1 ∧ (1 : Int) ≤ 9223372036854775807 by omega), nilRw_at _ _ _ _ _, nilRw_at _ _ _ _ _, nilRw_at _ _ _ _ _, nilRw_at _ _ _ _ _⟩
theorem litF_fm : litF.fm 1 = true := by kernel_rfl
def litC (n : Strs) (g : Grid) (b : Nat) : Kl := ⟨n, g, ⟨some ⟨b, 0, none⟩, b, 0, 1, 1, fun _ => litF⟩⟩
theorem litC_tys (n : Strs) (g : Grid) (b : Nat) : (litC n g b).tys = [leafT 1 0] := by kernel_rfl
theorem litC_fm {n : Strs} {g : Grid} {w : World} (h : Lt1 n g w) (b : Nat) : (litC n g b).fm = true := by
  unfold Kl.fm
  show (formedB n g && _) = true
  rw [h.fd]
  simp only [Bool.true_and, Bool.and_eq_true, decide_eq_true_eq]
  refine ⟨⟨Nat.le_refl _, by show 1 ≤ 60; omega⟩, fun i _ => ?_⟩
  show litF.fm n.len = true
  rw [h.one]
  exact litF_fm
theorem lit_good {Q : List (List Int)} (h : Good 1 [leafT 1 0] Q) : Q = [[1, 0, 0, 0, -1, -1]] := by
  obtain ⟨p, q, h1, h2, h3⟩ := h.ent 0 (leafT 1 0) rfl
  have e1 : p = -1 := h2.2 (by show ¬ 0 < 0; omega)
  have e2 : q = -1 := h3.2 (by show ¬ 1 < 0; omega)
  have hl : Q.length = 1 := h.len
  match Q, hl, h1 with
  | [x], _, h1 =>
    simp at h1
    rw [h1, e1, e2]
    rfl
theorem litC_wr {n : Strs} {g : Grid} {w : World} (h : Lt1 n g w) (b : Nat) {Q : List (List Int)} (hQ : Good (litC n g b).n.len (litC n g b).tys Q) : ∃ t : List Nat, 20 < (80 :: 83 :: t).length ∧ wCl Q (litC n g b).tys (litC n g b) (some []) = some (80 :: 83 :: t) := by
  rw [litC_tys] at hQ ⊢
  have hQ2 : Good 1 [leafT 1 0] Q := by rw [← h.one]; exact hQ
  have := lit_good hQ2
  subst this
  obtain ⟨p1, p2, p3, p4⟩ := formed_parts h.fd
  rw [h.one] at p1 p4
  have hL : g.L 0 = 1 := p4 0 (by omega)
  have hA : wCa (litC n g b) (some []) = some [80, 83, 0, 1, 0, 1, 0, 3, 108, 111, 119, 0, 1] := by
    unfold wCa
    show iterS (fun i => wSh (rowN (g.B i) (g.L i) : Nat)) g.len (iterS (fun i => wTx (n.s i)) n.len (wSh n.len (wSh 1 (wSh 20563 (some []))))) = _
    rw [p1, h.one]
    show wSh (rowN (g.B 0) (g.L 0) : Nat) (wTx (n.s 0) (wSh 1 (wSh 1 (wSh 20563 (some []))))) = _
    rw [hL, h.nm, show rowN (g.B 0) 1 = 1 from by show 0 + (if g.B 0 0 then 2 ^ 0 else 0) = 1; rw [h.le]; rfl]
    kernel_rfl
  unfold wCl
  rw [hA]
  refine ⟨[0, 1, 0, 1, 0, 3, 108, 111, 119, 0, 1, 0, 1, 0, 1, 0, 0, 0, 1, 0, 0, 0, 0, 0, 0, 0, 0, 0, 0, 0, 1, 0, 0, 0, 0, 0, 0, 0, 0], by decide, ?_⟩
  kernel_rfl
set_option maxRecDepth 100000 in
set_option maxHeartbeats 4000000 in
theorem little_any (w : World) : Calls Tryz.prog 10 #[] w fun e w' => ∃ (n : Strs) (g : Grid) (b : Nat), e = .returned (.agg #[.slice n.ao n.len n.cap, .slice g.ao g.len g.cap, .slice (some ⟨b, 0, none⟩) 1 1]) ∧ Lt1 n g w' ∧ (litC n g b).At w' ∧ Below w.heap.size w w' := by
  have B0 := below_alloc w (.cells #[.slice none 0 0, .slice none 0 0, .slice none 0 0] 28)
  have hm := one_make (w.alloc (.cells #[.slice none 0 0, .slice none 0 0, .slice none 0 0] 28))
  have b0 := Blk.new w [.slice none 0 0, .slice none 0 0, .slice none 0 0] 28
  rw [alloc_size] at hm
  have HB := hyd B0
  clear B0
  go_enter Tryz.func10, Tryz.ntmps10
  go_wp2_with fail
  refine hm.mono ?_
  rintro e w1 ⟨n, g, rfl, hL, hb1⟩
  rw [← alloc_size w (.cells #[.slice none 0 0, .slice none 0 0, .slice none 0 0] 28)] at hb1
  have lt1 : w.heap.size < w1.heap.size := Nat.lt_of_lt_of_le (by rw [alloc_size]; exact Nat.lt_succ_self _) hb1.size
  have B1 := below_alloc w1 (.cells #[.slice n.ao n.len n.cap, .slice g.ao g.len g.cap] 25)
  have B2 := Below.next B1 (below_alloc (w1.alloc (.cells #[.slice n.ao n.len n.cap, .slice g.ao g.len g.cap] 25)) (.cells #[.int .i64 1, .int .i64 0, .slice none 0 0, .int .i64 0, .int .i64 0] 36))
  have B3 := Below.next B2 (below_alloc ((w1.alloc (.cells #[.slice n.ao n.len n.cap, .slice g.ao g.len g.cap] 25)).alloc (.cells #[.int .i64 1, .int .i64 0, .slice none 0 0, .int .i64 0, .int .i64 0] 36)) (.cells litF.vs.toArray 42))
  have bF := Blk.new ((w1.alloc (.cells #[.slice n.ao n.len n.cap, .slice g.ao g.len g.cap] 25)).alloc (.cells #[.int .i64 1, .int .i64 0, .slice none 0 0, .int .i64 0, .int .i64 0] 36)) litF.vs 42
  rw [alloc_size, alloc_size] at bF
  have hv : litF.vs.toArray = #[.int .i64 1, .int .i64 0, .slice none 0 0, .int .i64 0, .int .i64 0, .int .i64 1, .int .i64 0, .slice none 0 0, .int .i64 0, .int .i64 0, .slice none 0 0, .int .i64 0, .int .i64 (-1), .int .i64 1, .slice none 0 0, .slice none 0 0, .slice none 0 0, .slice none 0 0] := rfl
  rw [hv] at B3 bF
  have b3 := (b0.kept hb1).kept B3
  have hn3 := hL.nat.kept B3
  have hg3 := hL.gat.kept B3
  have HL := hyd hL
  have HB3 := hyd (Below.next (Below.next HB.out hb1) B3)
  clear hL hm hb1 b0 B1 B2 B3
  have c0 := b3.cell 0 rfl
  have c1 := b3.cell 1 rfl
  have c2 := b3.cell 2 rfl
  have g0 := b3.frozen 0
  have g1 := b3.frozen 1
  have g2 := b3.frozen 2
  clear b3
  have H3 := hyd (show (_ ∧ _) ∧ _ from ⟨⟨hn3, hg3⟩, bF⟩)
  clear hn3 hg3 bF hv
  go_wp2
  generalize (((w1.alloc (.cells #[.slice n.ao n.len n.cap, .slice g.ao g.len g.cap] 25)).alloc (.cells #[.int .i64 1, .int .i64 0, .slice none 0 0, .int .i64 0, .int .i64 0] 36)).alloc (.cells #[.int .i64 1, .int .i64 0, .slice none 0 0, .int .i64 0, .int .i64 0, .int .i64 1, .int .i64 0, .slice none 0 0, .int .i64 0, .int .i64 0, .slice none 0 0, .int .i64 0, .int .i64 (-1), .int .i64 1, .slice none 0 0, .slice none 0 0, .slice none 0 0, .slice none 0 0] 42)) = u3 at *
  have d1 : (u3.setCell ⟨w.heap.size, 0, none⟩ (.slice n.ao n.len n.cap)).cell? ⟨w.heap.size, 1, none⟩ = some (.slice none 0 0) := by
    rw [World.cell?_setCell_other _ _ _ _ (by simp)]; exact c1
  have d2 : ((u3.setCell ⟨w.heap.size, 0, none⟩ (.slice n.ao n.len n.cap)).setCell ⟨w.heap.size, 1, none⟩ (.slice g.ao g.len g.cap)).cell? ⟨w.heap.size, 2, none⟩ = some (.slice none 0 0) := by
    rw [World.cell?_setCell_other _ _ _ _ (by simp), World.cell?_setCell_other _ _ _ _ (by simp)]; exact c2
  have hN := (((H3.out.1.1.set c0 (.slice n.ao n.len n.cap)).set d1 (.slice g.ao g.len g.cap)).set d2 (.slice (some ⟨w1.heap.size + 1 + 1, 0, none⟩) 1 1))
  have hG := grid_set_nil (grid_set_nil (grid_set_nil H3.out.1.2 c0 HL.out.rows (.slice n.ao n.len n.cap)) d1 HL.out.rows (.slice g.ao g.len g.cap)) d2 HL.out.rows (.slice (some ⟨w1.heap.size + 1 + 1, 0, none⟩) 1 1)
  refine bodyPost_ret (v := .agg #[.slice n.ao n.len n.cap, .slice g.ao g.len g.cap, .slice (some ⟨w1.heap.size + 1 + 1, 0, none⟩) 1 1]) (by simp [results, Tryz.results10, go_sem, c0, c1, c2]) rfl ⟨n, g, w1.heap.size + 1 + 1, rfl, ⟨hN, hG, HL.out.fd, HL.out.one, HL.out.nm, HL.out.le, HL.out.rows⟩, ⟨hN, hG, ⟨fun _ => rfl, by show (1 : Nat) ≤ _; omega, fun i hi => ?_, fun _ _ => litF_at _⟩⟩, ((HB3.out.setCell (Nat.le_refl _) _).setCell (Nat.le_refl _) _).setCell (Nat.le_refl _) _⟩
  have hi0 : i = 0 := by have : i < 1 := hi; omega
  subst hi0
  intro j v hj
  have h1 := H3.out.2.range j v hj
  show World.cell? _ ⟨w1.heap.size + 1 + 1, 0 + j, none⟩ = _
  have ne : ∀ k, (⟨w.heap.size, k, none⟩ : Addr) ≠ ⟨w1.heap.size + 1 + 1, 0 + j, none⟩ := fun k e => by injection e with e1; omega
  rw [World.cell?_setCell_other _ _ _ _ (ne 2), World.cell?_setCell_other _ _ _ _ (ne 1), World.cell?_setCell_other _ _ _ _ (ne 0)]
  exact h1
end Go.Proofs.YtjfijpiadfkmfaaGreatDoor

/- Layer 13: awake. -/
namespace Go.Proofs.YtjfijpiadfkmfaaGreatDoor
open Go Go.RowKit

theorem own_get {w : World} {base : Nat} {e : TypeId} {ao : Option Addr} {len cap : Nat} {xs : List Value} (h : w.ownsRow base e 1 (.slice ao len cap) len xs) (h0 : 0 < len) : ∃ gg, ao = some ⟨gg, 0, none⟩ ∧ base ≤ gg ∧ ∀ j v, xs[j]? = some v → w.cell? ⟨gg, j, none⟩ = some v := by
  obtain ⟨_, ⟨_, h2⟩ | ⟨gg, cap', cur, hv, hb, hh, h3, h4, h5, h6⟩⟩ := h
  · omega
  · injection hv with e1 _ e3
    subst e1
    refine ⟨gg, rfl, hb, fun j v hj => ?_⟩
    rw [← h6, List.getElem?_take] at hj
    have h9 : cur[j]? = some v := by
      rw [← Array.getElem?_toList]
      split at hj
      · exact hj
      · cases hj
    simp only [World.cell?, hh]
    exact h9

set_option maxRecDepth 100000 in
set_option maxHeartbeats 4000000 in
theorem awake13_any (w : World) (hO : Og w) : Calls Tryz.prog 4 #[] w fun e w' => e = .returned (.bool true) ∧ Below w.heap.size w w' := by
  have HO := hyd hO
  clear hO
  go_enter Tryz.func4, Tryz.ntmps4
  go_wp2_with fail
  refine (little_any w).mono ?_
  rintro _ w1 ⟨n, g, b, rfl, hL, hC, hb1⟩
  have HB1 := hyd hb1
  have hE := cEncode_any (litC n g b) w1 hC (HO.out.kept hb1)
  have HL := hyd hL
  clear hL hC hb1
  go_wp2_with fail
  refine hE.mono ?_
  intro e w2 h2
  obtain ⟨Q, hG, h3⟩ := h2.yes (litC_fm HL.out b)
  obtain ⟨t, ht, hw⟩ := litC_wr HL.out b hG
  have HB2 := hyd (Below.next HB1.out h2.bl)
  rcases h3 with ⟨h4, _⟩ | ⟨ao, cap, l, h4, ho, hlen, rfl⟩
  · rw [hw] at h4; cases h4
  rw [hw] at h4
  have hl : l = 80 :: 83 :: t := by injection h4 with h4; exact h4.symm
  subst hl
  obtain ⟨gg, rfl, _, hget⟩ := own_get ho (by simp)
  have x0 := hget 0 (.int .u8 80) rfl
  have x1 := hget 1 (.int .u8 83) rfl
  clear hE h2 hG hw h4 ho hlen hget HL HB1
  generalize (80 :: 83 :: t).length = L at *
  have i20 : (20 : Int) < L := by omega
  have i0 : (0 : Int) ≤ 0 ∧ (0 : Int) < L := by omega
  have i1 : (0 : Int) ≤ 1 ∧ (1 : Int) < L := by omega
  go_wp2_with fail
  refine (little_any w2).mono ?_
  rintro _ w3 ⟨n, g, b, rfl, hL, hC, hb3⟩
  have HB3 := hyd (Below.next HB2.out hb3)
  have hF := cFormed_any (litC n g b) w3 hC (HO.out.kept HB3.out)
  rw [litC_fm hL b] at hF
  clear hL hC hb3 x0 x1
  go_wp2_with fail
  refine hF.mono ?_
  rintro _ w4 ⟨rfl, hb4⟩
  have HB4 := hyd (Below.next HB3.out hb4)
  clear hF hb4
  go_wp2
  go_ret
  exact ⟨rfl, HB4.out⟩
end Go.Proofs.YtjfijpiadfkmfaaGreatDoor
