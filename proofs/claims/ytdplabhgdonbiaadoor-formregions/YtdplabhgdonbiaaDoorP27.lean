/- Layer 14: the statements' little class over any code. -/
import Derived.Test.YtdplabhgdonbiaaDoorP21
import Derived.Test.YtdplabhgdonbiaaDoorP26
import Derived.Test.YtdplabhgdonbiaaDoorP10
import Derived.Test.YtdplabhgdonbiaaDoorP8
import Derived.Test.YtdplabhgdonbiaaDoorP12
namespace Go.Proofs.YtdplabhgdonbiaaDoor
open Go Go.RowKit

/-- A type of Kind Int, as it lies. -/
def tyV : List Value := [.int .i64 1, .int .i64 0, .slice none 0 0, .int .i64 0, .int .i64 0]
def ptV (b : Nat) : List Value := [.slice none 0 0, .slice (some ⟨b, 0, none⟩) 1 1, .int .i64 0]
def lfV (cd : Rw In) (v : Value) : List Value := [.int .i64 1, .int .i64 0, .slice none 0 0, .int .i64 0, .int .i64 0, .int .i64 1, .int .i64 0, .slice none 0 0, .int .i64 0, .int .i64 0, .slice none 0 0, .int .i64 0, .int .i64 (-1), .int .i64 1, .slice cd.ao cd.len cd.cap, .slice none 0 0, v, .slice none 0 0]
/-- The point that little lays. -/
def lPt (b : Nat) : Pt := ⟨leafT 0 0, .mk 0 0 0 0 (some ⟨b, 0, none⟩) b 0 1 1 (fun _ => leafT 1 0), 0⟩
theorem lPt_vs (b : Nat) : (lPt b).vs = ptV b := rfl
theorem lPt_fm (b : Nat) : (lPt b).fm 1 1 = true := by kernel_rfl
theorem lPt_at {b : Nat} {w : World} (h : Blk w b tyV 37) : (lPt b).At w := by
  refine ⟨leaf_at _ _ _, ⟨fun _ => rfl, by show (1 : Nat) ≤ _; omega, fun i hi => ?_⟩, (show (-9223372036854775808 : Int) ≤ 0 ∧ (0 : Int) ≤ 9223372036854775807 by omega)⟩
  have hi0 : i = 0 := by have : i < 1 := hi; omega
  subst hi0
  exact ⟨⟨h.cell 0 rfl, h.cell 1 rfl, h.cell 2 rfl, h.cell 3 rfl, h.cell 4 rfl⟩, leaf_at _ _ _⟩
def lFn (cd : Rw In) (pt : Rw Pt) : Cf := ⟨leafT 1 0, leafT 1 0, leafT 0 0, 0, -1, 1, cd, nilRw ⟨0, 0, 0⟩, pt, nilRw ⟨0, 0, nilRw 0⟩⟩
theorem lFn_vs (cd : Rw In) (pt : Rw Pt) : (lFn cd pt).vs = lfV cd (.slice pt.ao pt.len pt.cap) := rfl
def lCl (n : Strs) (g : Grid) (b : Nat) (f : Cf) : Kl := ⟨n, g, ⟨some ⟨b, 0, none⟩, b, 0, 1, 1, fun _ => f⟩⟩
/-- Is the little class formed? Just if its instructions are. -/
theorem lCl_fm {n : Strs} {g : Grid} {w : World} (h : Lt1 n g w) (b : Nat) {cd : Rw In} {pt : Rw Pt} (hp : pt.len = cd.len) (hpf : ∀ i, i < pt.len → (pt.x i).fm 1 1 = true) (hl : cd.len ≤ 2000) (hc : ∀ i, i < cd.len → (cd.x i).fm 1 = true) : (lCl n g b (lFn cd pt)).fm = true := by
  unfold Kl.fm
  show (formedB n g && _) = true
  rw [h.fd]
  simp only [Bool.true_and, Bool.and_eq_true, decide_eq_true_eq]
  refine ⟨⟨Nat.le_refl _, by show 1 ≤ 60; omega⟩, fun i _ => ?_⟩
  show (lFn cd pt).fm n.len = true
  rw [h.one]
  unfold Cf.fm Cf.few
  simp only [Bool.and_eq_true, decide_eq_true_eq]
  refine ⟨⟨by kernel_rfl, by show 0 ≤ 16; omega, hl, by show 0 ≤ 2000; omega, by show pt.len ≤ 2000; omega, by show 0 ≤ 2000; omega⟩, ⟨by kernel_rfl, by kernel_rfl⟩, fun i hi => absurd hi (Nat.not_lt_zero _), hc, hpf, fun i hi => absurd hi (Nat.not_lt_zero _), fun i hi => absurd hi (Nat.not_lt_zero _)⟩
/-- The loop of little: u1 is the world behind Make. -/
structure Lz (w u1 : World) (n : Strs) (g : Grid) (cd : Rw In) (j : Nat) (v : Value) (bs : Nat → Nat) (u : World) : Prop where
  bw : Below w.heap.size w u
  b1 : Below u1.heap.size u1 u
  bL : Blk u u1.heap.size [.slice n.ao n.len n.cap, .slice g.ao g.len g.cap] 25
  bT : Blk u (u1.heap.size + 1) tyV 37
  bF : Blk u (u1.heap.size + 1 + 1) (lfV cd v) 43
  row : u.ownsRow (u1.heap.size + 1 + 1 + 1) 64 3 v j (flatN (fun i => ptV (bs i)) j)
  each : ∀ i, i < j → u1.heap.size + 1 + 1 + 1 ≤ bs i ∧ Blk u (bs i) tyV 37
theorem gb_blk14 {w w' : World} {B : Nat} {c : List Value} {t : TypeId} {r : Option Nat} (h : Blk w B c t) (hg : w.grownBy w' r) (hr : some B ≠ r) : Blk w' B c t := by
  unfold Blk
  rw [hg.block B h.lt hr]; exact h
theorem flatN_snoc (f : Nat → List Value) (x : List Value) (k : Nat) : flatN (fun i => if i < k then f i else x) (k + 1) = flatN f k ++ x := by
  have h1 := flatN_app f (fun _ => x) k 1
  rw [h1]
  rfl
theorem Lz.more {w u1 : World} {n : Strs} {g : Grid} {cd : Rw In} {j : Nat} {v v' : Value} {bs : Nat → Nat} {u w5 : World} (h : Lz w u1 n g cd j v bs u) (hw : w.heap.size ≤ u1.heap.size)
    (hg : ((u.alloc (.cells tyV.toArray 37)).alloc (.cells (ptV u.heap.size).toArray 64)).grownBy w5 v.ownBlock)
    (ho : w5.ownsRow (u1.heap.size + 1 + 1 + 1) 64 3 v' (j + 1) (flatN (fun i => ptV (bs i)) j ++ ptV u.heap.size)) : Blk w5 (u1.heap.size + 1 + 1) (lfV cd v) 43 ∧ Lz w u1 n g cd (j + 1) v' (fun i => if i < j then bs i else u.heap.size) (w5.setCell ⟨u1.heap.size + 1 + 1, 16, none⟩ v') := by
  have B1 := below_alloc u (.cells tyV.toArray 37)
  have B2 := Below.next B1 (below_alloc (u.alloc (.cells tyV.toArray 37)) (.cells (ptV u.heap.size).toArray 64))
  have bN := (Blk.new u tyV 37).kept (below_alloc (u.alloc (.cells tyV.toArray 37)) (.cells (ptV u.heap.size).toArray 64))
  have hvb : ∀ k, v.ownBlock = some k → u1.heap.size + 1 + 1 + 1 ≤ k := fun k hk => (owb h.row hk).1
  have ht : ∀ k, Blk u k tyV 37 → some k ≠ v.ownBlock := fun k hb e => by
    obtain ⟨cur, h1⟩ := own_blk h.row e.symm
    unfold Blk at hb
    rw [h1] at hb
    injection hb with hb
    injection hb with _ hb
    exact absurd hb (by decide)
  have bF5 : Blk w5 (u1.heap.size + 1 + 1) (lfV cd v) 43 := gb_blk14 (h.bF.kept B2) hg (fun e => by have := hvb _ e.symm; omega)
  have W := wrote_cell (i := 16) bF5 v'
  have hbw5 : Below w.heap.size w w5 := gb_bel (Below.next h.bw B2) hg (fun k hk => by have := hvb k hk; omega)
  have hb15 : Below u1.heap.size u1 w5 := gb_bel (Below.next h.b1 B2) hg (fun k hk => by have := hvb k hk; omega)
  have hsz := h.b1.size
  have hNe : u.heap.size ≠ u1.heap.size + 1 + 1 := by have := h.bF.lt; omega
  have hge : u1.heap.size + 1 + 1 + 1 ≤ u.heap.size := by have := h.bF.lt; omega
  refine ⟨bF5, ⟨W.below (by omega) hbw5, W.below (by omega) hb15, W.keep (gb_blk14 (h.bL.kept B2) hg (fun e => by have := hvb _ e.symm; omega)) (by omega), W.keep (gb_blk14 (h.bT.kept B2) hg (fun e => by have := hvb _ e.symm; omega)) (by omega), W.blk, ?_, ?_⟩⟩
  · have e : flatN (fun i => ptV (if i < j then bs i else u.heap.size)) (j + 1) = flatN (fun i => ptV (bs i)) j ++ ptV u.heap.size := by
      rw [← flatN_snoc]
      congr 1
      funext i
      split <;> rfl
    rw [e]
    exact own_same ho (fun b hb => W.other b (fun e => by have := (owb ho hb).1; omega))
  · intro i hi
    rcases Nat.lt_or_ge i j with h1 | h1
    · simp only [if_pos h1]
      obtain ⟨h2, h3⟩ := h.each i h1
      exact ⟨h2, W.keep (gb_blk14 (h3.kept B2) hg (ht _ h3)) (by omega)⟩
    · simp only [if_neg (Nat.not_lt.2 h1)]
      refine ⟨hge, W.keep (gb_blk14 bN hg (fun e => ?_)) hNe⟩
      have := (owb h.row e.symm).2
      omega
theorem Tryd.infoPt : (Tryd.prog.info? 64).map (fun i => (i.zero, i.size, i.bytes)) = some (some (.agg #[.slice none 0 0, .slice none 0 0, .int .i64 0]), 3, 56) := by kernel_rfl
theorem Lz.pts {w u1 : World} {n : Strs} {g : Grid} {cd : Rw In} {j : Nat} {v : Value} {bs : Nat → Nat} {u : World} (h : Lz w u1 n g cd j v bs u) (hj : j ≤ 1000) {u' : World} (ho : ∀ k, u1.heap.size ≤ k → k < u.heap.size → u'.heap[k]? = u.heap[k]?) : ∃ pt : Rw Pt, v = .slice pt.ao pt.len pt.cap ∧ pt.len = j ∧ (∀ i, i < pt.len → (pt.x i).fm 1 1 = true) ∧ PtsAt u' pt := by
  have hrow := h.row
  obtain ⟨hx, ⟨rfl, h0⟩ | ⟨gg, cap, cur, rfl, hg, hh, hr⟩⟩ := hrow
  · exact ⟨⟨none, 0, 0, 0, 0, fun _ => lPt 0⟩, rfl, h0.symm, fun i hi => absurd hi (Nat.not_lt_zero _), nilRw_at _ _ _ _ _⟩
  · refine ⟨⟨some ⟨gg, 0, none⟩, gg, 0, j, cap, fun i => lPt (bs i)⟩, rfl, rfl, fun i _ => lPt_fm _, ⟨fun _ => rfl, by show j ≤ _; omega, fun i hi => ?_, fun i hi => ?_⟩⟩
    · intro q v hv
      have hi' : i < j := hi
      have hq : q < 3 := (List.getElem?_eq_some_iff.1 hv).1
      have hlt := (Array.getElem?_eq_some_iff.1 hh).1
      have e : u'.cell? ⟨gg, 0 + i * 3 + q, none⟩ = u.cell? ⟨gg, 0 + i * 3 + q, none⟩ := World.cell?_of_block (w := u) (ho gg (by omega) hlt)
      show u'.cell? ⟨gg, 0 + i * 3 + q, none⟩ = some v
      rw [e, Nat.zero_add, h.row.cellAt (i * 3 + q) (by omega), flatN_get (f := fun i => ptV (bs i)) (c := 3) (fun i => rfl) j i q hi' hq]
      exact hv
    · obtain ⟨h1, h2⟩ := h.each i hi
      refine lPt_at ?_
      unfold Blk
      rw [ho _ (by omega) h2.lt]
      exact h2

set_option maxRecDepth 100000 in
set_option maxHeartbeats 8000000 in
theorem little14_any (cd : Rw In) (w : World) (hcd : InsAt w cd) (hl : cd.len ≤ 1000) : Calls Tryd.prog 15 #[.slice cd.ao cd.len cd.cap] w fun e w' => ∃ (n : Strs) (g : Grid) (b : Nat) (pt : Rw Pt), e = .returned (.agg #[.slice n.ao n.len n.cap, .slice g.ao g.len g.cap, .slice (some ⟨b, 0, none⟩) 1 1]) ∧ Lt1 n g w' ∧ (lCl n g b (lFn cd pt)).At w' ∧ (pt.len = cd.len ∧ ∀ i, i < pt.len → (pt.x i).fm 1 1 = true) ∧ Below w.heap.size w w' := by
  have B0 := below_alloc w (.cells #[.slice none 0 0, .slice none 0 0, .slice none 0 0] 28)
  have hm := one_make (w.alloc (.cells #[.slice none 0 0, .slice none 0 0, .slice none 0 0] 28))
  have b0 := Blk.new w [.slice none 0 0, .slice none 0 0, .slice none 0 0] 28
  rw [alloc_size] at hm
  have HB := hyd B0
  have HCD := hyd hcd
  clear B0 hcd
  go_enter Tryd.func15, Tryd.ntmps15
  go_wp2_with fail
  refine hm.mono ?_
  rintro e w1 ⟨n, g, rfl, hL, hb1⟩
  rw [← alloc_size w (.cells #[.slice none 0 0, .slice none 0 0, .slice none 0 0] 28)] at hb1
  have lt1 : w.heap.size < w1.heap.size := Nat.lt_of_lt_of_le (by rw [alloc_size]; exact Nat.lt_succ_self _) hb1.size
  have HL := hyd hL
  have HR := hyd (show Below w.heap.size w w1 ∧ Blk w1 w.heap.size [.slice none 0 0, .slice none 0 0, .slice none 0 0] 28 from ⟨Below.next HB.out hb1, b0.kept hb1⟩)
  have HLT := hyd lt1
  clear hL hm hb1 b0 HB lt1
  go_upto_region 4 with fail
  have HZ := hyd (show Lz w w1 n g cd 0 (.slice none 0 0) (fun _ => 0) (((w1.alloc (.cells #[.slice n.ao n.len n.cap, .slice g.ao g.len g.cap] 25)).alloc (.cells #[.int .i64 1, .int .i64 0, .slice none 0 0, .int .i64 0, .int .i64 0] 37)).alloc (.cells #[.int .i64 1, .int .i64 0, .slice none 0 0, .int .i64 0, .int .i64 0, .int .i64 1, .int .i64 0, .slice none 0 0, .int .i64 0, .int .i64 0, .slice none 0 0, .int .i64 0, .int .i64 (-1), .int .i64 1, .slice cd.ao cd.len cd.cap, .slice none 0 0, .slice none 0 0, .slice none 0 0] 43)) from by
    have B1 := below_alloc w1 (.cells #[.slice n.ao n.len n.cap, .slice g.ao g.len g.cap] 25)
    have bL := Blk.new w1 [.slice n.ao n.len n.cap, .slice g.ao g.len g.cap] 25
    have B2 := below_alloc (w1.alloc (.cells #[.slice n.ao n.len n.cap, .slice g.ao g.len g.cap] 25)) (.cells #[.int .i64 1, .int .i64 0, .slice none 0 0, .int .i64 0, .int .i64 0] 37)
    have bT := Blk.new (w1.alloc (.cells #[.slice n.ao n.len n.cap, .slice g.ao g.len g.cap] 25)) tyV 37
    have B3 := below_alloc ((w1.alloc (.cells #[.slice n.ao n.len n.cap, .slice g.ao g.len g.cap] 25)).alloc (.cells #[.int .i64 1, .int .i64 0, .slice none 0 0, .int .i64 0, .int .i64 0] 37)) (.cells (lfV cd (.slice none 0 0)).toArray 43)
    have bF := Blk.new ((w1.alloc (.cells #[.slice n.ao n.len n.cap, .slice g.ao g.len g.cap] 25)).alloc (.cells #[.int .i64 1, .int .i64 0, .slice none 0 0, .int .i64 0, .int .i64 0] 37)) (lfV cd (.slice none 0 0)) 43
    rw [alloc_size] at bT
    rw [alloc_size, alloc_size] at bF
    exact ⟨Below.next HR.out.1 (Below.next (Below.next B1 B2) B3), Below.next (Below.next B1 B2) B3, (bL.kept B2).kept B3, bT.kept B3, bF, World.ownsRow_nil _ _ _ _, fun i hi => absurd hi (Nat.not_lt_zero _)⟩)
  generalize (((w1.alloc (.cells #[.slice n.ao n.len n.cap, .slice g.ao g.len g.cap] 25)).alloc (.cells #[.int .i64 1, .int .i64 0, .slice none 0 0, .int .i64 0, .int .i64 0] 37)).alloc (.cells #[.int .i64 1, .int .i64 0, .slice none 0 0, .int .i64 0, .int .i64 0, .int .i64 1, .int .i64 0, .slice none 0 0, .int .i64 0, .int .i64 0, .slice none 0 0, .int .i64 0, .int .i64 (-1), .int .i64 1, .slice cd.ao cd.len cd.cap, .slice none 0 0, .slice none 0 0, .slice none 0 0] 43)) = u4 at *
  go_wp2
  go_loopw [7] (fun i wr => ∃ (j : Nat) (v : Value) (bs : Nat → Nat), j ≤ cd.len ∧ i = .int .i64 j ∧ Lz w w1 n g cd j v bs wr) (fun i _ => cd.len - (intOf i).toNat)
  case atStart => exact ⟨0, _, _, Nat.zero_le _, rfl, HZ.out⟩
  case round =>
    clear HZ
    obtain ⟨j, v, bs, hj, rfl, hz⟩ := hrel
    have HZ := hyd hz
    clear hz
    obtain ⟨a7, c7, hv⟩ := owform HZ.out.row
    subst hv
    by_cases hlt : j < cd.len
    · have ij : (j : Int) < cd.len := by omega
      have f16 := HZ.out.bF.cell 16 rfl
      have t0 := HZ.out.bT.cell 0 rfl
      have t1 := HZ.out.bT.cell 1 rfl
      have t2 := HZ.out.bT.cell 2 rfl
      have t3 := HZ.out.bT.cell 3 rfl
      have t4 := HZ.out.bT.cell 4 rfl
      have hO : ((wr.alloc (.cells #[.int .i64 1, .int .i64 0, .slice none 0 0, .int .i64 0, .int .i64 0] 37)).alloc (.cells #[.slice none 0 0, .slice (some ⟨wr.heap.size, 0, none⟩) 1 1, .int .i64 0] 64)).ownsRow (w1.heap.size + 1 + 1 + 1) 64 3 (.slice a7 j c7) j (flatN (fun i => ptV (bs i)) j) := owk (owk HZ.out.row (below_alloc _ _)) (below_alloc _ _)
      have hnew : ∀ a, (some ⟨wr.heap.size + 1, 0, none⟩ : Option Addr) = some a → ∀ j u, (ptV wr.heap.size)[j]? = some u → ((wr.alloc (.cells #[.int .i64 1, .int .i64 0, .slice none 0 0, .int .i64 0, .int .i64 0] 37)).alloc (.cells #[.slice none 0 0, .slice (some ⟨wr.heap.size, 0, none⟩) 1 1, .int .i64 0] 64)).cell? (a.add j) = some u := fun a ha j u hu => by
        injection ha with ha
        subst ha
        have h1 := Blk.new (wr.alloc (.cells #[.int .i64 1, .int .i64 0, .slice none 0 0, .int .i64 0, .int .i64 0] 37)) (ptV wr.heap.size) 64
        rw [alloc_size] at h1
        rw [adp, Nat.zero_add]
        exact h1.cell j hu
      have hge := HZ.out.bF.lt
      have HGE : Hid (w1.heap.size + 1 + 1 + 1 ≤ wr.heap.size + 1 + 1) := by show _ ≤ _; omega
      clear hge
      go_wp2_with ((refine wpList_append_any Tryd.underlying40 Tryd.infoPt rfl (by decide) rfl _ _ rfl (w1.heap.size + 1 + 1 + 1) (.slice a7 j c7) j (flatN (fun i => ptV (bs i)) j) rfl hO (some ⟨wr.heap.size + 1, 0, none⟩) 1 1 (ptV wr.heap.size) rfl (fun h => by cases h) rfl hnew (by intro x hx; simp only [ptV, List.mem_cons, List.not_mem_nil, or_false] at hx; rcases hx with rfl | rfl | rfl <;> rfl) (by unfold maxLen; omega) (by omega) (by rw [alloc_size, alloc_size]; exact HGE.out) ?_; intro v5 w5 h5 g5; obtain ⟨hbF, hmore⟩ := HZ.out.more (Nat.le_of_lt HLT.out) g5 h5; obtain ⟨a5, c5, hv5⟩ := owform h5; subst hv5; have HM := hyd hmore; clear hmore h5 g5 f16; have f16 := hbF.cell 16 rfl; have g16 := hbF.frozen 16; clear hbF))
      go_roundw
      case rel => exact ⟨j + 1, _, _, by omega, by go_num, HM.out⟩
      case measure => simp [intOf]; omega
    · have ej : j = cd.len := by omega
      subst ej
      have ij : ¬ (cd.len : Int) < cd.len := by omega
      have K0 := HR.out.2.kept HZ.out.b1
      have rF : wr.rangeAt (w1.heap.size + 1 + 1) 0 [.int .i64 1, .int .i64 0, .slice none 0 0, .int .i64 0, .int .i64 0, .int .i64 1, .int .i64 0, .slice none 0 0, .int .i64 0, .int .i64 0, .slice none 0 0, .int .i64 0, .int .i64 (-1), .int .i64 1, .slice cd.ao cd.len cd.cap, .slice none 0 0, .slice a7 cd.len c7, .slice none 0 0] := HZ.out.bF.range
      have l0 := HZ.out.bL.cell 0 rfl
      have l1 := HZ.out.bL.cell 1 rfl
      have BA := below_alloc wr (.cells #[.int .i64 1, .int .i64 0, .slice none 0 0, .int .i64 0, .int .i64 0, .int .i64 1, .int .i64 0, .slice none 0 0, .int .i64 0, .int .i64 0, .slice none 0 0, .int .i64 0, .int .i64 (-1), .int .i64 1, .slice cd.ao cd.len cd.cap, .slice none 0 0, .slice a7 cd.len c7, .slice none 0 0] 43)
      have bS := Blk.new wr (lfV cd (.slice a7 cd.len c7)) 43
      have K1 := K0.kept BA
      have c0 := K1.cell 0 rfl
      have c1 := K1.cell 1 rfl
      have c2 := K1.cell 2 rfl
      have g0 := K1.frozen 0
      have g1 := K1.frozen 1
      have g2 := K1.frozen 2
      have HN := hyd (show Below w.heap.size w _ ∧ n.At _ ∧ g.At _ from ⟨Below.next HZ.out.bw BA, (HL.out.nat.kept HZ.out.b1).kept BA, (HL.out.gat.kept HZ.out.b1).kept BA⟩)
      have HS : Hid (Blk (wr.alloc (.cells #[.int .i64 1, .int .i64 0, .slice none 0 0, .int .i64 0, .int .i64 0, .int .i64 1, .int .i64 0, .slice none 0 0, .int .i64 0, .int .i64 0, .slice none 0 0, .int .i64 0, .int .i64 (-1), .int .i64 1, .slice cd.ao cd.len cd.cap, .slice none 0 0, .slice a7 cd.len c7, .slice none 0 0] 43)) wr.heap.size (lfV cd (.slice a7 cd.len c7)) 43) := bS
      have HO2 : Hid (∀ k, w1.heap.size ≤ k → k < wr.heap.size → (wr.alloc (.cells #[.int .i64 1, .int .i64 0, .slice none 0 0, .int .i64 0, .int .i64 0, .int .i64 1, .int .i64 0, .slice none 0 0, .int .i64 0, .int .i64 0, .slice none 0 0, .int .i64 0, .int .i64 (-1), .int .i64 1, .slice cd.ao cd.len cd.cap, .slice none 0 0, .slice a7 cd.len c7, .slice none 0 0] 43)).heap[k]? = wr.heap[k]?) := fun k _ hk => BA.block k hk
      clear bS BA K0 K1
      go_wp2_with (refine wpList_load_mid rfl 43 (.tmp 6) rfl (w1.heap.size + 1 + 1) 0 (by kernel_rfl) _ _ rF Tryd.underlying43 rfl (by kernel_rfl) ?_)
      generalize (wr.alloc (.cells #[.int .i64 1, .int .i64 0, .slice none 0 0, .int .i64 0, .int .i64 0, .int .i64 1, .int .i64 0, .slice none 0 0, .int .i64 0, .int .i64 0, .slice none 0 0, .int .i64 0, .int .i64 (-1), .int .i64 1, .slice cd.ao cd.len cd.cap, .slice none 0 0, .slice a7 cd.len c7, .slice none 0 0] 43)) = u8 at *
      have d1 : (u8.setCell ⟨w.heap.size, 0, none⟩ (.slice n.ao n.len n.cap)).cell? ⟨w.heap.size, 1, none⟩ = some (.slice none 0 0) := by
        rw [World.cell?_setCell_other _ _ _ _ (by simp)]; exact c1
      have d2 : ((u8.setCell ⟨w.heap.size, 0, none⟩ (.slice n.ao n.len n.cap)).setCell ⟨w.heap.size, 1, none⟩ (.slice g.ao g.len g.cap)).cell? ⟨w.heap.size, 2, none⟩ = some (.slice none 0 0) := by
        rw [World.cell?_setCell_other _ _ _ _ (by simp), World.cell?_setCell_other _ _ _ _ (by simp)]; exact c2
      have hN := (((HN.out.2.1.set c0 (.slice n.ao n.len n.cap)).set d1 (.slice g.ao g.len g.cap)).set d2 (.slice (some ⟨wr.heap.size, 0, none⟩) 1 1))
      have hG := grid_set_nil (grid_set_nil (grid_set_nil HN.out.2.2 c0 HL.out.rows (.slice n.ao n.len n.cap)) d1 HL.out.rows (.slice g.ao g.len g.cap)) d2 HL.out.rows (.slice (some ⟨wr.heap.size, 0, none⟩) 1 1)
      have hW9 : Below w.heap.size w (((u8.setCell ⟨w.heap.size, 0, none⟩ (.slice n.ao n.len n.cap)).setCell ⟨w.heap.size, 1, none⟩ (.slice g.ao g.len g.cap)).setCell ⟨w.heap.size, 2, none⟩ (.slice (some ⟨wr.heap.size, 0, none⟩) 1 1)) := ((HN.out.1.setCell (Nat.le_refl _) _).setCell (Nat.le_refl _) _).setCell (Nat.le_refl _) _
      have hoth : ∀ k, k ≠ w.heap.size → (((u8.setCell ⟨w.heap.size, 0, none⟩ (.slice n.ao n.len n.cap)).setCell ⟨w.heap.size, 1, none⟩ (.slice g.ao g.len g.cap)).setCell ⟨w.heap.size, 2, none⟩ (.slice (some ⟨wr.heap.size, 0, none⟩) 1 1)).heap[k]? = u8.heap[k]? := fun k hk => by
        rw [Below.heap_setCell _ _ _ _ hk, Below.heap_setCell _ _ _ _ hk, Below.heap_setCell _ _ _ _ hk]
      have hres : ∀ W : World, W = (((u8.setCell ⟨w.heap.size, 0, none⟩ (.slice n.ao n.len n.cap)).setCell ⟨w.heap.size, 1, none⟩ (.slice g.ao g.len g.cap)).setCell ⟨w.heap.size, 2, none⟩ (.slice (some ⟨wr.heap.size, 0, none⟩) 1 1)) → ∃ pt : Rw Pt, Lt1 n g W ∧ (lCl n g wr.heap.size (lFn cd pt)).At W ∧ (pt.len = cd.len ∧ ∀ i, i < pt.len → (pt.x i).fm 1 1 = true) ∧ Below w.heap.size w W := by
        rintro _ rfl
        obtain ⟨pt, hv, hpl, hpf, hpt⟩ := HZ.out.pts hl (u' := (((u8.setCell ⟨w.heap.size, 0, none⟩ (.slice n.ao n.len n.cap)).setCell ⟨w.heap.size, 1, none⟩ (.slice g.ao g.len g.cap)).setCell ⟨w.heap.size, 2, none⟩ (.slice (some ⟨wr.heap.size, 0, none⟩) 1 1))) (fun k h1 h2 => by
          have := HLT.out
          rw [hoth k (by omega)]
          exact HO2.out k h1 h2)
        refine ⟨pt, ⟨hN, hG, HL.out.fd, HL.out.one, HL.out.nm, HL.out.le, HL.out.rows⟩, ⟨hN, hG, ⟨fun _ => rfl, by show (1 : Nat) ≤ _; omega, fun i hi => ?_, fun i hi => ?_⟩⟩, ⟨hpl, hpf⟩, hW9⟩
        · have hi0 : i = 0 := by have : i < 1 := hi; omega
          subst hi0
          intro q v hq
          have hq2 : (lfV cd (.slice a7 cd.len c7))[q]? = some v := by rw [hv, ← lFn_vs]; exact hq
          have hne : wr.heap.size ≠ w.heap.size := by have := HLT.out; have := HZ.out.b1.size; omega
          have h1 := HS.out.cell q hq2
          show World.cell? _ ⟨wr.heap.size, 0 + q, none⟩ = some v
          rw [Nat.zero_add, World.cell?_of_block (w := u8) (hoth _ hne)]
          exact h1
        · exact ⟨leaf_at _ _ _, leaf_at _ _ _, leaf_at _ _ _, (show (-9223372036854775808 : Int) ≤ 0 ∧ (0 : Int) ≤ 9223372036854775807 by omega), (show (-9223372036854775808 : Int) ≤ -1 ∧ (-1 : Int) ≤ 9223372036854775807 by omega), (show (-9223372036854775808 : Int) ≤ 1 ∧ (1 : Int) ≤ 9223372036854775807 by omega), HCD.out.kept hW9, nilRw_at _ _ _ _ _, hpt, nilRw_at _ _ _ _ _⟩
      obtain ⟨pt, h1, h2, h3, h4⟩ := hres _ rfl
      exact bodyPost_ret (v := .agg #[.slice n.ao n.len n.cap, .slice g.ao g.len g.cap, .slice (some ⟨wr.heap.size, 0, none⟩) 1 1]) (by simp [results, Tryd.results15, go_sem, c0, c1, c2]) rfl ⟨n, g, wr.heap.size, rfl, h1, pt, h2, h3, h4⟩
end Go.Proofs.YtdplabhgdonbiaaDoor

/- Layer 14: Check of the little class; awake. -/
namespace Go.Proofs.YtdplabhgdonbiaaDoor
open Go Go.RowKit

theorem lFn_brk {nf nl : Nat} {cd : Rw In} {pt : Rw Pt} (h0 : 0 < cd.len) (hp : pt.len = cd.len) : (lFn cd pt).brk nf nl = if (lFn cd pt).codB nf nl = true then 0 else 2 := by
  have h1 : (lFn cd pt).cntB = true := by
    unfold Cf.cntB
    rw [decide_eq_true (show 0 < (lFn cd pt).cd.len from h0), decide_eq_true (show (lFn cd pt).pt.len = (lFn cd pt).cd.len from hp)]
    rfl
  have h3 : (lFn cd pt).hanB = true := decide_eq_true (fun i hi => absurd hi (Nat.not_lt_zero _))
  have h4 : (lFn cd pt).regB = true := decide_eq_true (fun i hi => absurd hi (Nat.not_lt_zero _))
  unfold Cf.brk
  rw [h1, h3, h4]
  cases (lFn cd pt).codB nf nl <;> rfl
/-- Check of the little class. -/
structure LkR (q : Bool) (w : World) (e : Ending) (w' : World) : Prop where
  ret : ∃ k : Int, e = .returned (.tuple #[.int .i64 k, .int .i64 (if q then 0 else 2), .int .i64 (if q then 0 else 11)])
  bl : Below w.heap.size w w'
theorem lit_check (n : Strs) (g : Grid) (b : Nat) (cd : Rw In) (pt : Rw Pt) (w : World) (hL : Lt1 n g w) (hC : (lCl n g b (lFn cd pt)).At w) (hO : Og w) (hp : pt.len = cd.len) (hpf : ∀ i, i < pt.len → (pt.x i).fm 1 1 = true) (h0 : 0 < cd.len) (hl : cd.len ≤ 1000) (hc : ∀ i, i < cd.len → (cd.x i).fm 1 = true) :
    Calls Tryd.prog 11 #[.agg #[.slice n.ao n.len n.cap, .slice g.ao g.len g.cap, .slice (some ⟨b, 0, none⟩) 1 1]] w fun e w' => LkR ((lFn cd pt).codB 1 1) w e w' := by
  have hfm := lCl_fm hL b hp hpf (by omega) hc
  have hb0 : (lCl n g b (lFn cd pt)).brk 0 = if (lFn cd pt).codB 1 1 = true then 0 else 2 := by
    show (lFn cd pt).brk 1 n.len = _
    rw [hL.one]
    exact lFn_brk h0 hp
  refine (check14_any (lCl n g b (lFn cd pt)) w hC hO).mono fun e w' h => ?_
  obtain ⟨⟨k, r, er, rfl, hR⟩, hb⟩ := h
  refine ⟨⟨k, ?_⟩, hb⟩
  cases hq : (lFn cd pt).codB 1 1
  · rw [hq] at hb0
    obtain ⟨⟨_, h2⟩, h3⟩ := hR.bad hfm 0 (by show 0 < 1; omega) (by rw [hb0]; decide) (fun i hi => absurd hi (Nat.not_lt_zero _))
    rw [hb0] at h2
    rw [h2, h3]; rfl
  · rw [hq] at hb0
    obtain ⟨⟨_, h2⟩, h3⟩ := hR.ok hfm (fun i hi => by
      have hi0 : i = 0 := by have : i < 1 := hi; omega
      subst hi0
      rw [hb0]; rfl)
    rw [h2, h3]; rfl
def i0 (op : Int) : In := ⟨op, 0, leafT 0 0⟩
def inV (op : Int) : List Value := [.int .i64 op, .int .i64 0, .int .i64 0, .int .i64 0, .slice none 0 0, .int .i64 0, .int .i64 0]
def cd2 (b : Nat) : Rw In := ⟨some ⟨b, 0, none⟩, b, 0, 2, 2, fun i => if i = 0 then i0 1 else i0 27⟩
def cd1 (b : Nat) : Rw In := ⟨some ⟨b, 0, none⟩, b, 0, 1, 1, fun _ => i0 1⟩
theorem i0_at (op : Int) (h : I64 op) (w : World) : (i0 op).At w := ⟨h, (show (-9223372036854775808 : Int) ≤ 0 ∧ (0 : Int) ≤ 9223372036854775807 by omega), leaf_at _ _ _⟩
theorem cd2_at {w : World} {b : Nat} (h : Blk w b (inV 1 ++ inV 27) 48) : InsAt w (cd2 b) := by
  refine ⟨fun _ => rfl, by show (2 : Nat) ≤ _; omega, fun i hi => ?_, fun i hi => ?_⟩
  · have hi2 : i < 2 := hi
    intro j v hj
    have hj7 : j < 7 := by
      have := (List.getElem?_eq_some_iff.1 hj).1
      exact this
    show w.cell? ⟨b, 0 + i * 7 + j, none⟩ = some v
    refine h.cell _ ?_
    match i, hi2 with
    | 0, _ =>
      have hv : (inV 1)[j]? = some v := hj
      rw [show 0 + 0 * 7 + j = j by omega, List.getElem?_append_left (by exact hj7)]
      exact hv
    | 1, _ =>
      have hv : (inV 27)[j]? = some v := hj
      rw [List.getElem?_append_right (by show 7 ≤ _; omega)]
      rw [show 0 + 1 * 7 + j - (inV 1).length = j by show 0 + 1 * 7 + j - 7 = j; omega]
      exact hv
  · by_cases e : i = 0
    · subst e; exact i0_at 1 (by show (-9223372036854775808 : Int) ≤ 1 ∧ (1 : Int) ≤ 9223372036854775807; omega) w
    · show (if i = 0 then i0 1 else i0 27).At w
      rw [if_neg e]
      exact i0_at 27 (by show (-9223372036854775808 : Int) ≤ 27 ∧ (27 : Int) ≤ 9223372036854775807; omega) w
theorem cd1_at {w : World} {b : Nat} (h : Blk w b (inV 1) 48) : InsAt w (cd1 b) := by
  refine ⟨fun _ => rfl, by show (1 : Nat) ≤ _; omega, fun i hi => ?_, fun i hi => i0_at 1 (by show (-9223372036854775808 : Int) ≤ 1 ∧ (1 : Int) ≤ 9223372036854775807; omega) w⟩
  have hi0 : i = 0 := by have : i < 1 := hi; omega
  subst hi0
  intro j v hj
  have hv : (inV 1)[j]? = some v := hj
  show w.cell? ⟨b, 0 + 0 * 7 + j, none⟩ = some v
  rw [show 0 + 0 * 7 + j = j by omega]
  exact h.cell _ hv
theorem cd2_cod (b : Nat) (pt : Rw Pt) : (lFn (cd2 b) pt).codB 1 1 = true := by kernel_rfl
theorem cd1_cod (b : Nat) (pt : Rw Pt) : (lFn (cd1 b) pt).codB 1 1 = false := by kernel_rfl

set_option maxRecDepth 100000 in
set_option maxHeartbeats 8000000 in
theorem awake14_any (w : World) (hO : Og w) : Calls Tryd.prog 9 #[] w fun e w' => e = .returned (.bool true) ∧ Below w.heap.size w w' := by
  have HO := hyd hO
  have B0 := below_alloc w (.cells #[.int .i64 1, .int .i64 0, .int .i64 0, .int .i64 0, .slice none 0 0, .int .i64 0, .int .i64 0, .int .i64 27, .int .i64 0, .int .i64 0, .int .i64 0, .slice none 0 0, .int .i64 0, .int .i64 0] 48)
  have b0 := Blk.new w (inV 1 ++ inV 27) 48
  have h1 := little14_any (cd2 w.heap.size) (w.alloc (.cells #[.int .i64 1, .int .i64 0, .int .i64 0, .int .i64 0, .slice none 0 0, .int .i64 0, .int .i64 0, .int .i64 27, .int .i64 0, .int .i64 0, .int .i64 0, .slice none 0 0, .int .i64 0, .int .i64 0] 48)) (cd2_at b0) (by show 2 ≤ 1000; omega)
  have HB0 := hyd B0
  clear hO b0 B0
  go_enter Tryd.func9, Tryd.ntmps9
  go_wp2_with fail
  refine Calls.mono h1 ?_
  rintro _ w1 ⟨n, g, b, pt, rfl, hL, hC, ⟨hp, hpf⟩, hb1⟩
  have HB1 := hyd (Below.next HB0.out hb1)
  have h2 := lit_check n g b (cd2 w.heap.size) pt w1 hL hC (HO.out.kept HB1.out) hp hpf (by show 0 < 2; omega) (by show 2 ≤ 1000; omega) (fun i _ => by show (if i = 0 then i0 1 else i0 27).fm 1 = true; split <;> kernel_rfl)
  rw [cd2_cod] at h2
  clear h1 hL hC hp hpf hb1
  go_wp2_with fail
  refine Calls.mono h2 ?_
  rintro e w2 ⟨⟨k, rfl⟩, hb2⟩
  have HB2 := hyd (Below.next HB1.out hb2)
  have b0 := Blk.new w2 (inV 1) 48
  have h1 := little14_any (cd1 w2.heap.size) (w2.alloc (.cells #[.int .i64 1, .int .i64 0, .int .i64 0, .int .i64 0, .slice none 0 0, .int .i64 0, .int .i64 0] 48)) (cd1_at b0) (by show 1 ≤ 1000; omega)
  have HB3 := hyd (Below.next HB2.out (below_alloc w2 (.cells #[.int .i64 1, .int .i64 0, .int .i64 0, .int .i64 0, .slice none 0 0, .int .i64 0, .int .i64 0] 48)))
  clear h2 hb2 b0
  go_wp2_with fail
  refine Calls.mono h1 ?_
  rintro _ w3 ⟨n, g, b, pt, rfl, hL, hC, ⟨hp, hpf⟩, hb3⟩
  have HB4 := hyd (Below.next HB3.out hb3)
  have h2 := lit_check n g b (cd1 w2.heap.size) pt w3 hL hC (HO.out.kept HB4.out) hp hpf (by show 0 < 1; omega) (by show 1 ≤ 1000; omega) (fun i _ => by show (i0 1).fm 1 = true; kernel_rfl)
  rw [cd1_cod] at h2
  clear h1 hL hC hp hpf hb3
  go_wp2_with fail
  refine Calls.mono h2 ?_
  rintro e w4 ⟨⟨k2, rfl⟩, hb4⟩
  have HB5 := hyd (Below.next HB4.out hb4)
  clear h2 hb4
  go_wp2
  go_ret
  exact ⟨rfl, HB5.out⟩
end Go.Proofs.YtdplabhgdonbiaaDoor

/- Layers 13 to 15: the reference's small: types of a size that is looked at. -/
namespace Go.Proofs.YtdplabhgdonbiaaDoor
open Go Go.RowKit

set_option maxRecDepth 100000 in
set_option maxHeartbeats 2000000 in
theorem rsmall_any (T : Ty) (w : World) (hT : T.At w) : Calls Tryd.prog 18 #[.slice T.ao T.len T.cap] w fun e w' => e = .returned (.bool (decide (∀ i, i < T.len → (T.ps i).nodes ≤ 40))) ∧ Below w.heap.size w w' := by
  have hnil := hT.nil
  have hbd := hT.bound
  have HT := hyd hT
  have HB := hyd (Below.refl w.heap.size w)
  generalize hANS : decide (∀ i, i < T.len → (T.ps i).nodes ≤ 40) = ANS at *
  have HANS := hyd hANS
  clear hT hANS
  generalize hlen : T.len = len at *
  have HL := hyd hlen
  clear hlen
  generalize T.ao = ao at *
  go_enter Tryd.func18, Tryd.ntmps18
  go_wp2
  go_loopw [3] (fun i wr => ∃ (j : Nat), j ≤ len ∧ i = .int .i64 j ∧ Below w.heap.size w wr ∧ (∀ i, i < j → (T.ps i).nodes ≤ 40)) (fun i _ => len - (intOf i).toNat)
  case atStart => exact ⟨0, Nat.zero_le _, rfl, HB.out, fun i hi => absurd hi (Nat.not_lt_zero _)⟩
  case round =>
    clear HB
    obtain ⟨j, hj, rfl, hBl, hall⟩ := hrel
    have HB := hyd hBl
    have HA := hyd hall
    clear hBl hall
    by_cases hlt : j < len
    · have ij : (j : Int) < len := by omega
      have a0 := hnil (by omega)
      subst a0
      have hjT : j < T.len := by rw [HL.out]; exact hlt
      have C := (HT.out.kept HB.out).cells hjT
      have c0 := C.c0
      have c1 := C.c1
      have c2 := C.c2
      have c3 := C.c3
      have c4 := C.c4
      have hs := rSmall2_any (T.ps j) wr ((HT.out.kept HB.out).part hjT)
      have HAS : Hid (∀ b, b = decide ((T.ps j).nodes ≤ 40) → (b = true → ∀ i, i < j + 1 → (T.ps i).nodes ≤ 40) ∧ (b = false → ANS = false)) := by
        intro b hb
        refine ⟨fun h1 i hi => ?_, fun h1 => ?_⟩
        · rcases Nat.lt_or_ge i j with h2 | h2
          · exact HA.out i h2
          · have : i = j := by omega
            subst this
            exact of_decide_eq_true (hb.symm.trans h1)
        · rw [← HANS.out, decide_eq_false_iff_not]
          intro hh
          have h2 := of_decide_eq_false (hb.symm.trans h1)
          exact h2 (hh j hlt)
      have H5 := hyd (HAS.out _ rfl)
      clear C HAS hjT
      generalize decide ((T.ps j).nodes ≤ 40) = bb at *
      go_wp2_with fail
      refine hs.mono ?_
      rintro _ w1 ⟨rfl, hb1⟩
      have HB1 := hyd (Below.next HB.out hb1)
      clear hs c0 c1 c2 c3 c4 hb1 HB
      cases bb
      · go_wp2
        go_ret
        exact ⟨ret_bool (H5.out.2 (by simp)).symm, HB1.out⟩
      · go_wp2
        go_roundw
        case rel => exact ⟨j + 1, by omega, by go_num, HB1.out, H5.out.1 (by simp)⟩
        case measure => simp [intOf]; omega
    · have e2 : j = len := by omega
      subst e2
      have dj : ¬ (j : Int) < j := by omega
      go_wp2
      go_ret
      exact ⟨ret_bool (by rw [← HANS.out]; symm; rw [decide_eq_true_eq]; exact HA.out), HB.out⟩
end Go.Proofs.YtdplabhgdonbiaaDoor
