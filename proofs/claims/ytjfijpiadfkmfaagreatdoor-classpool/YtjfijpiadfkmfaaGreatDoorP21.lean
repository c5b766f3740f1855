/- Layer 13: walk.unfolded, walk.Copy over api.Type; class.copied. -/
import Derived.Test.YtjfijpiadfkmfaaGreatDoorP20
import Derived.Test.YtjfijpiadfkmfaaGreatDoorP8
import Derived.Test.YtjfijpiadfkmfaaGreatDoorP16
import Derived.Test.YtjfijpiadfkmfaaGreatDoorP10
import Derived.Test.YtjfijpiadfkmfaaGreatDoorP13
import Derived.Deep.QuietTactic
import Derived.BigQuiet
namespace Go.Proofs.YtjfijpiadfkmfaaGreatDoor
open Go Go.RowKit

theorem there_oth {w w' : World} {b o k : Nat} (h : w.there b o k) (e : w'.heap[b]? = w.heap[b]?) : w'.there b o k := fun j hj => by
  have h1 : w'.cell? ⟨b, o + j, none⟩ = w.cell? ⟨b, o + j, none⟩ := World.cell?_of_block (w := w) e
  have h2 : w'.frozen? ⟨b, o + j, none⟩ = w.frozen? ⟨b, o + j, none⟩ := World.frozen?_of_block (w := w) e
  rw [h1, h2]; exact h j hj
/-- The loop of unfolded: the first j Parts are copied. -/
structure Un (w0 : World) (gg len : Nat) (ps us : Nat → Ty) (j : Nat) (wr : World) : Prop where
  bl : Below w0.heap.size w0 wr
  ge : 0 < len → w0.heap.size ≤ gg ∧ gg < wr.heap.size
  th : 0 < len → wr.there gg 0 (len * 5)
  row : ∀ i, i < len → wr.rangeAt gg (i * 5) (if i < j then us i else ps i).vs
  each : ∀ i, i < j → (us i).At wr ∧ (us i).Blk (fun b => w0.heap.size ≤ b ∧ b ≠ gg) ∧ (us i).same (ps i) = true
theorem Un.next {w0 : World} {gg len : Nat} {ps us : Nat → Ty} {j : Nat} {wr w1 : World} {u : Ty} (h : Un w0 gg len ps us j wr) (hj : j < len) (hb : Below wr.heap.size wr w1) (hu : u.At w1) (hk : u.Blk (fun b => wr.heap.size ≤ b)) (hs : u.same (ps j) = true) :
    w1.there gg (j * 5) 5 ∧ Un w0 gg len ps (fun i => if i < j then us i else u) (j + 1) (w1.setCells gg (j * 5) u.vs) := by
  have hp : 0 < len := by omega
  obtain ⟨g1, g2⟩ := h.ge hp
  have hbk := hb.block gg g2
  have th1 : w1.there gg 0 (len * 5) := there_oth (h.th hp) hbk
  have th2 : w1.there gg (j * 5) 5 := fun q hq => by have := th1 (j * 5 + q) (by omega); simpa using this
  have oth : ∀ b, b ≠ gg → (w1.setCells gg (j * 5) u.vs).heap[b]? = w1.heap[b]? := fun b hb => setCells_heap _ _ _ _ _ hb
  refine ⟨th2, ⟨below_setCells g1 _ _ _ (Below.next h.bl hb), fun _ => ⟨g1, ?_⟩, fun _ => World.there_setCells th1 _ _ _, fun i hi => ?_, fun i hi => ?_⟩⟩
  · have h7 : w1.heap.size ≤ (w1.setCells gg (j * 5) u.vs).heap.size := (below_setCells (Nat.zero_le _) _ _ _ (Below.refl _ _)).size
    have := hb.size
    omega
  · by_cases e : i = j
    · subst e
      rw [if_pos (by omega)]
      simp only [Nat.lt_irrefl, if_false]
      exact World.rangeAt_setCells_same w1 gg (i * 5) u.vs th2
    · have e1 : (if i < j + 1 then (if i < j then us i else u) else ps i) = if i < j then us i else ps i := by
        by_cases e2 : i < j
        · rw [if_pos (by omega), if_pos e2, if_pos e2]
        · rw [if_neg (by omega), if_neg e2]
      rw [e1]
      refine World.rangeAt_setCells_apart (range_kept (h.row i hi) hb) gg (j * 5) u.vs (Or.inr ?_)
      show i * 5 + 5 ≤ j * 5 ∨ j * 5 + 5 ≤ i * 5
      omega
  · rcases Nat.lt_or_ge i j with h1 | h1
    · simp only [if_pos h1]
      obtain ⟨k1, k2, k3⟩ := h.each i h1
      have k4 := k1.kept hb
      exact ⟨k4.agree (fun b hq => oth b hq.2) k2, k2, k3⟩
    · have e : i = j := by omega
      subst e
      simp only [Nat.lt_irrefl, if_false]
      have k2 : u.Blk (fun b => w0.heap.size ≤ b ∧ b ≠ gg) := hk.mono (fun b hq => ⟨Nat.le_trans h.bl.size hq, by omega⟩)
      exact ⟨hu.agree (fun b hq => oth b hq.2) k2, k2, hs⟩

theorem Un.done {w w0 w4 : World} {gg cap' : Nat} {k l h e : Int} {ao ao' : Option Addr} {b o j cap : Nat} {ps us : Nat → Ty} {wr : World} (hU : Un w0 gg j ps us j wr) (hK : Below w.heap.size w w0) (hsz : w0.heap.size = w.heap.size + 1 + 1) (hN : 0 < j → ao' = some ⟨gg, 0, none⟩) (hb : j ≤ 9223372036854775807) (hb4 : Below wr.heap.size wr w4) (vs : List Value) :
    CP w (.mk k l h e ao b o j cap ps) (.returned (.agg #[.int .i64 k, .int .i64 l, .slice ao' j cap', .int .i64 h, .int .i64 e])) (w4.setCells (w.heap.size + 1) 0 vs) := by
  have oth : ∀ b, b ≠ w.heap.size + 1 → (w4.setCells (w.heap.size + 1) 0 vs).heap[b]? = w4.heap[b]? := fun b hb => setCells_heap _ _ _ _ _ hb
  have hA : Ty.At (w4.setCells (w.heap.size + 1) 0 vs) (.mk k l h e ao' gg 0 j cap' us) := by
    refine ⟨fun hp => hN hp, hb, fun i hi => ?_⟩
    have hi' : i < j := hi
    obtain ⟨k1, k2, _⟩ := hU.each i hi'
    have g1 := (hU.ge (by omega)).1
    have r5 := range_kept (hU.row i hi') hb4
    rw [if_pos hi'] at r5
    have cell : ∀ q v, (us i).vs[q]? = some v → (w4.setCells (w.heap.size + 1) 0 vs).cell? ⟨gg, 0 + i * 5 + q, none⟩ = some v := fun q v hq => by
      rw [World.cell?_of_block (w := w4) (oth gg (by omega)), Nat.zero_add]
      exact r5 q v hq
    exact ⟨⟨by have := cell 0 _ rfl; simpa using this, cell 1 _ rfl, cell 2 _ rfl, cell 3 _ rfl, cell 4 _ rfl⟩, (k1.kept hb4).agree (fun b hq => oth b (by have := hq.1; omega)) k2⟩
  have hB : Ty.Blk (fun b => w.heap.size ≤ b) (.mk k l h e ao' gg 0 j cap' us) := ⟨fun hp => by have := (hU.ge hp).1; show w.heap.size ≤ gg; omega, fun i hi => (hU.each i hi).2.1.mono (fun b hq => by have := hq.1; omega)⟩
  exact CP.intro (.mk k l h e ao' gg 0 j cap' us) rfl hA hB ((same_iff _ _).2 ⟨⟨rfl, rfl, rfl, rfl, rfl⟩, fun i hi => (hU.each i hi).2.2⟩) (below_setCells (Nat.le_succ _) _ _ _ (Below.next (Below.next hK hU.bl) hb4))

set_option maxRecDepth 100000 in
set_option maxHeartbeats 8000000 in
theorem unfolded_any : ∀ (t : Ty) (w : World), t.nodes ≤ 1000 → t.At w → Calls Tryz.prog 53 #[.agg #[.int .i64 t.k, .int .i64 t.l, .slice t.ao t.len t.cap, .int .i64 t.h, .int .i64 t.e], .func (.func 24) #[] #[], .func (.func 25) #[] #[]] w fun e w' => CP w t e w' := by
  intro t
  induction t with
  | dm => intro w _ hAt; exact hAt.elim
  | mk k l h e ao b o len cap ps ih =>
    intro w hN hAt
    show Calls Tryz.prog 53 #[.agg #[.int .i64 k, .int .i64 l, .slice ao len cap, .int .i64 h, .int .i64 e], .func (.func 24) #[] #[], .func (.func 25) #[] #[]] w fun r w' => CP w (.mk k l h e ao b o len cap ps) r w'
    have hb : len ≤ 9223372036854775807 := hAt.bound
    have HP : Hid (∀ j, j < len → (ps j).nodes ≤ 1000 ∧ j < 1000) := fun j hj => by
      have h1 : (ps j).nodes < _ := nodes_part (t := .mk k l h e ao b o len cap ps) hj
      have h2 : 1 + sumTo (fun i => (ps i).nodes) len ≤ 1000 := hN
      have h3 : ∀ m, m ≤ sumTo (fun i => (ps i).nodes) m := fun m => by
        induction m with
        | zero => exact Nat.le_refl _
        | succ m ihm =>
          have : 1 ≤ (ps m).nodes := by rw [pn_nodes]; omega
          show m + 1 ≤ sumTo (fun i => (ps i).nodes) m + (ps m).nodes
          omega
      have h4 := h3 len
      exact ⟨by omega, by omega⟩
    have HLn : Hid (len ≤ 1000) := by
      show len ≤ 1000
      rcases Nat.eq_zero_or_pos len with e0 | e0
      · omega
      · have := (HP.out (len - 1) (by omega)).2; omega
    have hs := alloc_size w (.cells #[.int .i64 k, .int .i64 l, .slice ao len cap, .int .i64 h, .int .i64 e] 36)
    have B0 := below_alloc w (.cells #[.int .i64 k, .int .i64 l, .slice ao len cap, .int .i64 h, .int .i64 e] 36)
    have b0 := Blk.new w [.int .i64 k, .int .i64 l, .slice ao len cap, .int .i64 h, .int .i64 e] 36
    have B1 := below_alloc (w.alloc (.cells #[.int .i64 k, .int .i64 l, .slice ao len cap, .int .i64 h, .int .i64 e] 36)) (.cells #[.int .i64 0, .int .i64 0, .slice none 0 0, .int .i64 0, .int .i64 0] 36)
    have b1 := Blk.new (w.alloc (.cells #[.int .i64 k, .int .i64 l, .slice ao len cap, .int .i64 h, .int .i64 e] 36)) [.int .i64 0, .int .i64 0, .slice none 0 0, .int .i64 0, .int .i64 0] 36
    rw [hs] at b1
    have hsz : ((w.alloc (.cells #[.int .i64 k, .int .i64 l, .slice ao len cap, .int .i64 h, .int .i64 e] 36)).alloc (.cells #[.int .i64 0, .int .i64 0, .slice none 0 0, .int .i64 0, .int .i64 0] 36)).heap.size = w.heap.size + 1 + 1 := by rw [alloc_size, alloc_size]
    have HK := hyd (show Below w.heap.size w _ ∧ Blk _ w.heap.size [.int .i64 k, .int .i64 l, .slice ao len cap, .int .i64 h, .int .i64 e] 36 ∧ Blk _ (w.heap.size + 1) [.int .i64 0, .int .i64 0, .slice none 0 0, .int .i64 0, .int .i64 0] 36 from ⟨Below.next B0 B1, b0.kept B1, b1⟩)
    have HSZ := hyd hsz
    have HA := hyd (hAt.kept (Below.next B0 B1))
    clear B0 B1 b0 b1 hsz hAt hN
    generalize hw0 : w.alloc (.cells #[.int .i64 k, .int .i64 l, .slice ao len cap, .int .i64 h, .int .i64 e] 36) = u0 at *
    generalize hw1 : u0.alloc (.cells #[.int .i64 0, .int .i64 0, .slice none 0 0, .int .i64 0, .int .i64 0] 36) = w0 at *
    have x0 := HK.out.2.1.cell 0 rfl
    have x1 := HK.out.2.1.cell 1 rfl
    have x2 := HK.out.2.1.cell 2 rfl
    have x3 := HK.out.2.1.cell 3 rfl
    have x4 := HK.out.2.1.cell 4 rfl
    have hP : Calls Tryz.prog 24 #[.agg #[.int .i64 k, .int .i64 l, .slice ao len cap, .int .i64 h, .int .i64 e]] w0 _ := cpartsOf_any (.mk k l h e ao b o len cap ps) w0
    go_enter Tryz.func53, Tryz.ntmps53
    go_wp2_with fail
    refine hP.mono ?_
    rintro _ w1 ⟨rfl, hb1⟩
    have hC : Calls Tryz.prog 90 #[.slice ao len cap] w1 _ := tclone_any (.mk k l h e ao b o len cap ps) w1 (HA.out.kept hb1) HLn.out
    clear hP hw0 hw1 hs x0 x1 x2 x3 x4
    go_wp2_with fail
    refine hC.mono ?_
    rintro _ w2 ⟨⟨ao', gg, cap', hr, hrow⟩, hb2⟩
    have hr2 : _ = Ending.returned (.slice ao' len cap') := hr
    subst hr2
    have HU := hyd (show Un w0 gg len ps ps 0 w2 from ⟨Below.next hb1 hb2, fun hp => ⟨Nat.le_trans hb1.size (hrow hp).2.1, (hrow hp).2.2.1⟩, fun hp => (hrow hp).2.2.2.1, fun i hi => by
      have h5 := (hrow (by show 0 < len; omega)).2.2.2.2 i hi
      rw [Nat.zero_add] at h5
      rw [if_neg (Nat.not_lt_zero _)]
      exact h5, fun i hi => absurd hi (Nat.not_lt_zero _)⟩)
    have HN : Hid (0 < len → ao' = some ⟨gg, 0, none⟩) := fun hp => (hrow hp).1
    clear hC hb1 hb2 hrow
    go_wp2
    go_loopw [15] (fun i wr => ∃ (j : Nat) (us : Nat → Ty), j ≤ len ∧ i = .int .i64 j ∧ Un w0 gg len ps us j wr) (fun i _ => len - (intOf i).toNat)
    case atStart => exact ⟨0, ps, Nat.zero_le _, rfl, HU.out⟩
    case round =>
      clear HU
      obtain ⟨j, us, hj, rfl, hU⟩ := hrel
      have HU := hyd hU
      clear hU
      by_cases hlt : j < len
      · have ij : (j : Int) < len := by omega
        have a0 := HN.out (by omega)
        subst a0
        have r5 : wr.rangeAt gg (j * 5) (ps j).vs := by have := HU.out.row j hlt; rw [if_neg (Nat.lt_irrefl _)] at this; exact this
        have y0 := r5 0 _ rfl
        have y1 := r5 1 _ rfl
        have y2 := r5 2 _ rfl
        have y3 := r5 3 _ rfl
        have y4 := r5 4 _ rfl
        simp only [Nat.add_zero] at y0
        have hI := ih j wr (HP.out j hlt).1 ((HA.out.kept HU.out.bl).part hlt)
        clear r5
        go_wp2_with fail
        refine hI.mono ?_
        rintro _ w3 ⟨u, rfl, uA, uB, uS, hb3⟩
        have HX := hyd (HU.out.next hlt hb3 uA uB uS)
        have th := HX.out.1
        clear hI uA uB uS hb3 y0 y1 y2 y3 y4 HU
        go_wp2_with (refine wpList_store_mid rfl 36 (.tmp 27) (.tmp 26) rfl gg (j * 5) #[.int .i64 u.k, .int .i64 u.l, .slice u.ao u.len u.cap, .int .i64 u.h, .int .i64 u.e] (by kernel_rfl) (by kernel_rfl) th (by kernel_rfl) (by simp [Value.oneCell']) ?_; have HX2 : Hid (Un w0 gg len ps (fun i => if i < j then us i else u) (j + 1) (w3.setCells gg (j * 5) (#[.int .i64 u.k, .int .i64 u.l, .slice u.ao u.len u.cap, .int .i64 u.h, .int .i64 u.e] : Array Value).toList)) := HX.out.2; clear HX th; generalize w3.setCells gg (j * 5) (#[.int .i64 u.k, .int .i64 u.l, .slice u.ao u.len u.cap, .int .i64 u.h, .int .i64 u.e] : Array Value).toList = w5 at HX2 ⊢)
        go_roundw
        case rel => exact ⟨j + 1, _, by omega, by go_num, HX2.out⟩
        case measure => simp [intOf]; omega
      · have ej : j = len := by omega
        subst ej
        have dj : ¬ (j : Int) < j := by omega
        have kb := HK.out.2.1.kept HU.out.bl
        have kr := HK.out.2.2.kept HU.out.bl
        have x0 := kb.cell 0 rfl
        have x1 := kb.cell 1 rfl
        have x2 := kb.cell 2 rfl
        have x3 := kb.cell 3 rfl
        have x4 := kb.cell 4 rfl
        have hW := cwith_any k l h e ao ao' j cap j cap' wr
        have HKR := hyd kr
        clear kb kr
        go_wp2_with fail
        refine hW.mono ?_
        rintro _ w4 ⟨rfl, hb4⟩
        have kr := HKR.out.kept hb4
        have th : w4.there (w.heap.size + 1) 0 5 := kr.there
        clear hW x0 x1 x2 x3 x4 kr dj
        go_wp2_with (refine wpList_store_mid rfl 36 (.tmp 6) (.tmp 32) rfl (w.heap.size + 1) 0 #[.int .i64 k, .int .i64 l, .slice ao' j cap', .int .i64 h, .int .i64 e] (by kernel_rfl) (by kernel_rfl) th (by kernel_rfl) (by simp [Value.oneCell']) ?_)
        have hD := Un.done (k := k) (l := l) (h := h) (e := e) (ao := ao) (b := b) (o := o) (cap := cap) (cap' := cap') HU.out HK.out.1 HSZ.out HN.out hb hb4 [.int .i64 k, .int .i64 l, .slice ao' j cap', .int .i64 h, .int .i64 e]
        exact bodyPost_ret (v := .agg #[.int .i64 k, .int .i64 l, .slice ao' j cap', .int .i64 h, .int .i64 e]) (results_row (vs := [.int .i64 k, .int .i64 l, .slice ao' j cap', .int .i64 h, .int .i64 e]) Tryz.underlying36 rfl (by kernel_rfl) rfl rfl (World.rangeAt_setCells_same w4 (w.heap.size + 1) 0 _ th)) rfl hD
end Go.Proofs.YtjfijpiadfkmfaaGreatDoor

/- Layer 13: walk.Copy over api.Type; class.copied. -/
namespace Go.Proofs.YtjfijpiadfkmfaaGreatDoor
open Go Go.RowKit

/-- A type that a callee answered, laid into the result's variable. -/
theorem cp_store {w w2 w3 : World} {t u : Ty} (hb : Below w.heap.size w w2) (hlt : w.heap.size + 1 < w2.heap.size) (hA : u.At w3) (hB : u.Blk (fun b => w2.heap.size ≤ b)) (hS : u.same t = true) (hb3 : Below w2.heap.size w2 w3) (vs : List Value) : CP w t (.returned (.agg #[.int .i64 u.k, .int .i64 u.l, .slice u.ao u.len u.cap, .int .i64 u.h, .int .i64 u.e])) (w3.setCells (w.heap.size + 1) 0 vs) := by
  have oth : ∀ b, b ≠ w.heap.size + 1 → (w3.setCells (w.heap.size + 1) 0 vs).heap[b]? = w3.heap[b]? := fun b hb => setCells_heap _ _ _ _ _ hb
  exact CP.intro u rfl (hA.agree (fun b hq => oth b (by omega)) hB) (hB.mono (fun b hq => by omega)) hS (below_setCells (Nat.le_succ _) _ _ _ (Below.next hb hb3))

set_option maxRecDepth 100000 in
set_option maxHeartbeats 4000000 in
theorem copy_any (t : Ty) (w : World) (hN : t.nodes ≤ 1000) (ht : t.At w) : Calls Tryz.prog 23 #[.agg #[.int .i64 t.k, .int .i64 t.l, .slice t.ao t.len t.cap, .int .i64 t.h, .int .i64 t.e], .func (.func 24) #[] #[], .func (.func 25) #[] #[]] w fun e w' => CP w t e w' := by
  have hs := alloc_size w (.cells #[.int .i64 t.k, .int .i64 t.l, .slice t.ao t.len t.cap, .int .i64 t.h, .int .i64 t.e] 36)
  have B0 := below_alloc w (.cells #[.int .i64 t.k, .int .i64 t.l, .slice t.ao t.len t.cap, .int .i64 t.h, .int .i64 t.e] 36)
  have b0 := Blk.new w [.int .i64 t.k, .int .i64 t.l, .slice t.ao t.len t.cap, .int .i64 t.h, .int .i64 t.e] 36
  have B1 := below_alloc (w.alloc (.cells #[.int .i64 t.k, .int .i64 t.l, .slice t.ao t.len t.cap, .int .i64 t.h, .int .i64 t.e] 36)) (.cells #[.int .i64 0, .int .i64 0, .slice none 0 0, .int .i64 0, .int .i64 0] 36)
  have b1 := Blk.new (w.alloc (.cells #[.int .i64 t.k, .int .i64 t.l, .slice t.ao t.len t.cap, .int .i64 t.h, .int .i64 t.e] 36)) [.int .i64 0, .int .i64 0, .slice none 0 0, .int .i64 0, .int .i64 0] 36
  rw [hs] at b1
  have HK := hyd (show Below w.heap.size w _ ∧ Blk _ w.heap.size [.int .i64 t.k, .int .i64 t.l, .slice t.ao t.len t.cap, .int .i64 t.h, .int .i64 t.e] 36 ∧ Blk _ (w.heap.size + 1) [.int .i64 0, .int .i64 0, .slice none 0 0, .int .i64 0, .int .i64 0] 36 ∧ t.At _ from ⟨Below.next B0 B1, b0.kept B1, b1, ht.kept (Below.next B0 B1)⟩)
  clear B0 B1 b0 b1
  generalize hw0 : w.alloc (.cells #[.int .i64 t.k, .int .i64 t.l, .slice t.ao t.len t.cap, .int .i64 t.h, .int .i64 t.e] 36) = u0 at *
  generalize hw1 : u0.alloc (.cells #[.int .i64 0, .int .i64 0, .slice none 0 0, .int .i64 0, .int .i64 0] 36) = w0 at *
  have x0 := HK.out.2.1.cell 0 rfl
  have x1 := HK.out.2.1.cell 1 rfl
  have x2 := HK.out.2.1.cell 2 rfl
  have x3 := HK.out.2.1.cell 3 rfl
  have x4 := HK.out.2.1.cell 4 rfl
  have hc := cCount_any t w0 HK.out.2.2.2
  rw [show min t.nodes 4001 = t.nodes by omega] at hc
  have i1 : ((t.nodes : Nat) : Int) ≤ 4000 := by omega
  have HNT := hyd hN
  clear ht hN
  go_enter Tryz.func23, Tryz.ntmps23
  go_wp2_with fail
  refine hc.mono ?_
  rintro _ w2 ⟨rfl, hb2⟩
  have HK2 := hyd (show Below w.heap.size w w2 ∧ Blk w2 w.heap.size [.int .i64 t.k, .int .i64 t.l, .slice t.ao t.len t.cap, .int .i64 t.h, .int .i64 t.e] 36 ∧ Blk w2 (w.heap.size + 1) [.int .i64 0, .int .i64 0, .slice none 0 0, .int .i64 0, .int .i64 0] 36 from ⟨Below.next HK.out.1 hb2, HK.out.2.1.kept hb2, HK.out.2.2.1.kept hb2⟩)
  have hU := unfolded_any t w2 HNT.out (HK.out.2.2.2.kept hb2)
  clear hc hb2 x0 x1 x2 x3 x4 hw0 hw1 hs HK
  have x0 := HK2.out.2.1.cell 0 rfl
  have x1 := HK2.out.2.1.cell 1 rfl
  have x2 := HK2.out.2.1.cell 2 rfl
  have x3 := HK2.out.2.1.cell 3 rfl
  have x4 := HK2.out.2.1.cell 4 rfl
  go_wp2_with fail
  refine hU.mono ?_
  rintro _ w3 ⟨u, rfl, uA, uB, uS, hb3⟩
  have th : w3.there (w.heap.size + 1) 0 5 := (HK2.out.2.2.kept hb3).there
  have HF := hyd (show ∀ vs, CP w t (.returned (.agg #[.int .i64 u.k, .int .i64 u.l, .slice u.ao u.len u.cap, .int .i64 u.h, .int .i64 u.e])) (w3.setCells (w.heap.size + 1) 0 vs) from fun vs => cp_store HK2.out.1 HK2.out.2.2.lt uA uB uS hb3 vs)
  clear uA uB uS hb3
  go_wp2_with (refine wpList_store_mid rfl 36 (.tmp 6) (.tmp 15) rfl (w.heap.size + 1) 0 #[.int .i64 u.k, .int .i64 u.l, .slice u.ao u.len u.cap, .int .i64 u.h, .int .i64 u.e] (by kernel_rfl) (by kernel_rfl) th (by kernel_rfl) (by simp [Value.oneCell']) ?_)
  exact bodyPost_ret (v := .agg #[.int .i64 u.k, .int .i64 u.l, .slice u.ao u.len u.cap, .int .i64 u.h, .int .i64 u.e]) (results_row (vs := [.int .i64 u.k, .int .i64 u.l, .slice u.ao u.len u.cap, .int .i64 u.h, .int .i64 u.e]) Tryz.underlying36 rfl (by kernel_rfl) rfl rfl (World.rangeAt_setCells_same w3 (w.heap.size + 1) 0 _ th)) rfl (HF.out _)

set_option maxRecDepth 100000 in
set_option maxHeartbeats 4000000 in
theorem copied_any (t : Ty) (w : World) (hN : t.nodes ≤ 1000) (ht : t.At w) : Calls Tryz.prog 15 #[.agg #[.int .i64 t.k, .int .i64 t.l, .slice t.ao t.len t.cap, .int .i64 t.h, .int .i64 t.e]] w fun e w' => CP w t e w' := by
  have hs := alloc_size w (.cells #[.int .i64 t.k, .int .i64 t.l, .slice t.ao t.len t.cap, .int .i64 t.h, .int .i64 t.e] 36)
  have B0 := below_alloc w (.cells #[.int .i64 t.k, .int .i64 t.l, .slice t.ao t.len t.cap, .int .i64 t.h, .int .i64 t.e] 36)
  have b0 := Blk.new w [.int .i64 t.k, .int .i64 t.l, .slice t.ao t.len t.cap, .int .i64 t.h, .int .i64 t.e] 36
  have B1 := below_alloc (w.alloc (.cells #[.int .i64 t.k, .int .i64 t.l, .slice t.ao t.len t.cap, .int .i64 t.h, .int .i64 t.e] 36)) (.cells #[.int .i64 0, .int .i64 0, .slice none 0 0, .int .i64 0, .int .i64 0] 36)
  have b1 := Blk.new (w.alloc (.cells #[.int .i64 t.k, .int .i64 t.l, .slice t.ao t.len t.cap, .int .i64 t.h, .int .i64 t.e] 36)) [.int .i64 0, .int .i64 0, .slice none 0 0, .int .i64 0, .int .i64 0] 36
  rw [hs] at b1
  have HK := hyd (show Below w.heap.size w _ ∧ Blk _ w.heap.size [.int .i64 t.k, .int .i64 t.l, .slice t.ao t.len t.cap, .int .i64 t.h, .int .i64 t.e] 36 ∧ Blk _ (w.heap.size + 1) [.int .i64 0, .int .i64 0, .slice none 0 0, .int .i64 0, .int .i64 0] 36 ∧ t.At _ from ⟨Below.next B0 B1, b0.kept B1, b1, ht.kept (Below.next B0 B1)⟩)
  clear B0 B1 b0 b1
  generalize hw0 : w.alloc (.cells #[.int .i64 t.k, .int .i64 t.l, .slice t.ao t.len t.cap, .int .i64 t.h, .int .i64 t.e] 36) = u0 at *
  generalize hw1 : u0.alloc (.cells #[.int .i64 0, .int .i64 0, .slice none 0 0, .int .i64 0, .int .i64 0] 36) = w0 at *
  have x0 := HK.out.2.1.cell 0 rfl
  have x1 := HK.out.2.1.cell 1 rfl
  have x2 := HK.out.2.1.cell 2 rfl
  have x3 := HK.out.2.1.cell 3 rfl
  have x4 := HK.out.2.1.cell 4 rfl
  have hU := copy_any t w0 hN HK.out.2.2.2
  clear ht hN
  go_enter Tryz.func15, Tryz.ntmps15
  go_wp2_with fail
  refine hU.mono ?_
  rintro _ w3 ⟨u, rfl, uA, uB, uS, hb3⟩
  have th : w3.there (w.heap.size + 1) 0 5 := (HK.out.2.2.1.kept hb3).there
  have HF := hyd (show ∀ vs, CP w t (.returned (.agg #[.int .i64 u.k, .int .i64 u.l, .slice u.ao u.len u.cap, .int .i64 u.h, .int .i64 u.e])) (w3.setCells (w.heap.size + 1) 0 vs) from fun vs => cp_store HK.out.1 HK.out.2.2.1.lt uA uB uS hb3 vs)
  clear uA uB uS hb3
  go_wp2_with (refine wpList_store_mid rfl 36 (.tmp 2) (.tmp 4) rfl (w.heap.size + 1) 0 #[.int .i64 u.k, .int .i64 u.l, .slice u.ao u.len u.cap, .int .i64 u.h, .int .i64 u.e] (by kernel_rfl) (by kernel_rfl) th (by kernel_rfl) (by simp [Value.oneCell']) ?_)
  exact bodyPost_ret (v := .agg #[.int .i64 u.k, .int .i64 u.l, .slice u.ao u.len u.cap, .int .i64 u.h, .int .i64 u.e]) (results_row (vs := [.int .i64 u.k, .int .i64 u.l, .slice u.ao u.len u.cap, .int .i64 u.h, .int .i64 u.e]) Tryz.underlying36 rfl (by kernel_rfl) rfl rfl (World.rangeAt_setCells_same w3 (w.heap.size + 1) 0 _ th)) rfl (HF.out _)
end Go.Proofs.YtjfijpiadfkmfaaGreatDoor

/- Layer 13: class.Pool. -/
namespace Go.Proofs.YtjfijpiadfkmfaaGreatDoor
open Go Go.RowKit

theorem flatL_at : ∀ {R : List Ty} {i : Nat} {t : Ty}, R[i]? = some t → ∀ {j : Nat} {v : Value}, t.vs[j]? = some v → (flatL R)[i * 5 + j]? = some v
  | [], _, _, h, _, _, _ => by simp at h
  | a :: R, 0, t, h, j, v, hv => by
    simp at h
    subst h
    have hj := (List.getElem?_eq_some_iff.1 hv).1
    unfold flatL
    rw [List.flatMap_cons, Nat.zero_mul, Nat.zero_add, List.getElem?_append_left hj]
    exact hv
  | a :: R, i + 1, t, h, j, v, hv => by
    have ih := flatL_at (R := R) (i := i) (t := t) (by simpa using h) hv
    unfold flatL at ih ⊢
    have h5 : a.vs.length = 5 := rfl
    rw [List.flatMap_cons, List.getElem?_append_right (by rw [h5]; omega), h5, show (i + 1) * 5 + j - 5 = i * 5 + j by omega]
    exact ih
theorem pool_cells {w : World} {base : Nat} {v : Value} {R : List Ty} (h : w.ownsRow base 36 5 v R.length (flatL R)) :
    ∃ ao b cap, v = .slice ao R.length cap ∧ (0 < R.length → ao = some ⟨b, 0, none⟩) ∧ R.length ≤ 9223372036854775807 ∧ ∀ i t, R[i]? = some t → w.rangeAt b (0 + i * 5) t.vs := by
  obtain ⟨_, ⟨rfl, h2⟩ | ⟨gg, cap, cur, rfl, _, hh, h3, h4, h5, h6⟩⟩ := h
  · refine ⟨none, 0, 0, by rw [h2], fun h => absurd h (by omega), by omega, fun i t ht => ?_⟩
    have := (List.getElem?_eq_some_iff.1 ht).1
    omega
  · refine ⟨_, gg, cap, rfl, fun _ => rfl, Nat.le_trans h3 h4, fun i t ht j v hv => ?_⟩
    have h7 := flatL_at ht hv
    rw [← h6] at h7
    rw [List.getElem?_take] at h7
    have h9 : cur[i * 5 + j]? = some v := by
      rw [← Array.getElem?_toList]
      split at h7
      · exact h7
      · cases h7
    simp only [World.cell?, Nat.zero_add, hh]
    exact h9
/-- What Pool answers. -/
structure PoolR (c : Kl) (w : World) (e : Ending) (w' : World) : Prop where
  yes : c.fm = true → ∃ T : Ty, e = .returned (.slice T.ao T.len T.cap) ∧ T.At w' ∧ Cop (fnL c.fs.x c.fs.len []) T ∧ T.len ≤ T.cap ∧ ∃ Q, Good c.n.len (fnL c.fs.x c.fs.len []) Q
  no : c.fm = false → e = .returned (.slice none 0 0)
  bl : Below w.heap.size w w'
theorem PoolR.ofNo {c : Kl} {w w' : World} (h : c.fm = false) (hb : Below w.heap.size w w') : PoolR c w (.returned (.slice none 0 0)) w' :=
  ⟨fun x => (by rw [h] at x; cases x), fun _ => rfl, hb⟩
theorem PoolR.ofYes {c : Kl} {w w' : World} (T : Ty) {Q : List (List Int)} (h : c.fm = true) (hT : T.At w') (hC : Cop (fnL c.fs.x c.fs.len []) T) (hl : T.len ≤ T.cap) (hG : Good c.n.len (fnL c.fs.x c.fs.len []) Q) (hb : Below w.heap.size w w') : PoolR c w (.returned (.slice T.ao T.len T.cap)) w' :=
  ⟨fun _ => ⟨T, rfl, hT, hC, hl, Q, hG⟩, fun x => (by rw [h] at x; cases x), hb⟩
theorem own_le_cap {w : World} {base : Nat} {e : TypeId} {size n cap : Nat} {xs : List Value} {ao : Option Addr} (h : w.ownsRow base e size (.slice ao n cap) n xs) : n ≤ cap := by
  obtain ⟨_, ⟨_, h2⟩ | ⟨gg, cap', cur, hv, _, _, h3, _⟩⟩ := h
  · omega
  · injection hv with _ _ hv
    rw [hv]; exact h3
theorem pool_ty {w : World} {base : Nat} {v : Value} {R : List Ty} (h : w.ownsRow base 36 5 v R.length (flatL R)) (hA : ∀ t ∈ R, t.At w) : ∃ P : Ty, v = .slice P.ao P.len P.cap ∧ P.len = R.length ∧ P.At w ∧ ∀ i, i < P.len → R[i]? = some (P.ps i) := by
  obtain ⟨ao, b, cap, rfl, h1, h2, h3⟩ := pool_cells h
  have hg : ∀ i, i < R.length → R[i]? = some (R.getD i .dm) := fun i hi => by
    rw [List.getElem?_eq_getElem hi, List.getD_eq_getElem?_getD, List.getElem?_eq_getElem hi]; rfl
  refine ⟨.mk 0 0 0 0 ao b 0 R.length cap (fun i => R.getD i .dm), rfl, rfl, ⟨h1, h2, fun i hi => ?_⟩, hg⟩
  have r := h3 i _ (hg i hi)
  exact ⟨⟨r 0 _ rfl, r 1 _ rfl, r 2 _ rfl, r 3 _ rfl, r 4 _ rfl⟩, hA _ (List.mem_of_getElem? (hg i hi))⟩

set_option maxRecDepth 100000 in
set_option maxHeartbeats 8000000 in
theorem pool_any (c : Kl) (w : World) (hc : c.At w) (hO : Og w) : Calls Tryz.prog 6 #[.agg #[.slice c.n.ao c.n.len c.n.cap, .slice c.g.ao c.g.len c.g.cap, .slice c.fs.ao c.fs.len c.fs.cap]] w fun e w' => PoolR c w e w' := by
  have B0 := below_alloc w (.cells #[.slice c.n.ao c.n.len c.n.cap, .slice c.g.ao c.g.len c.g.cap, .slice c.fs.ao c.fs.len c.fs.cap] 28)
  have b := Blk.new w [.slice c.n.ao c.n.len c.n.cap, .slice c.g.ao c.g.len c.g.cap, .slice c.fs.ao c.fs.len c.fs.cap] 28
  have c0 := b.cell 0 rfl
  have c1 := b.cell 1 rfl
  have c2 := b.cell 2 rfl
  have h := gather_any c _ (Kl.At.kept B0 hc) (hO.kept B0)
  have HB := hyd B0
  clear b B0
  go_enter Tryz.func6, Tryz.ntmps6
  go_wp2_with fail
  refine Calls.mono h ?_
  intro e w1 h1
  have HB1 := hyd (Below.next HB.out h1.bl)
  clear h c0 c1 c2 hc hO HB
  cases hf : c.fm
  · obtain rfl := h1.no hf
    have HF := hyd hf
    clear h1 hf
    go_wp2
    go_ret
    exact PoolR.ofNo HF.out HB1.out
  obtain ⟨p, S, rfl, ⟨m, v, es, cc, Q, hPw, _⟩, hLen⟩ := h1.yes hf
  obtain ⟨P, rfl, hPL, hPA, hPg⟩ := pool_ty hPw.own (fun t ht => (hPw.at_ t ht).kept hPw.bl)
  have p2 := hPw.blk.cell 2 rfl
  have HN : Hid (∀ j, j < P.len → (P.ps j).nodes ≤ 1000 ∧ j < 2000000000) := fun j hj => by
    have h2 := (ok_fm (hPw.good.ok _ (List.mem_of_getElem? (hPg j hj)))).2
    exact ⟨by omega, by omega⟩
  have HF := hyd (show c.fm = true ∧ P.len = (fnL c.fs.x c.fs.len []).length ∧ (∀ i, i < P.len → (fnL c.fs.x c.fs.len [])[i]? = some (P.ps i)) ∧ Good c.n.len (fnL c.fs.x c.fs.len []) Q from ⟨hf, hPL, hPg, hPw.good⟩)
  have HA := hyd hPA
  have hbd := hPA.bound
  clear h1 hf hPw hPL hPg hPA hLen
  go_wp2
  obtain ⟨i0, hi, hz0, hz1, hz2⟩ := info_parts Tryz.infoTy
  go_loopw [5, 20] (fun sv i wr => ∃ (j : Nat) (v : Value) (ts : Nat → Ty), j ≤ P.len ∧ v = sv ∧ i = .int .i64 j ∧ GRow w1 wr v j ts ∧ ∀ i, i < j → (ts i).same (P.ps i) = true) (fun _ i _ => P.len - (intOf i).toNat)
  case atStart => exact ⟨0, _, fun _ => .dm, Nat.zero_le _, rfl, rfl, GRow.start _ _, fun _ h => absurd h (Nat.not_lt_zero _)⟩
  case round =>
    obtain ⟨j, v, ts, hj, hv, rfl, hR, hsame⟩ := hrel
    subst hv
    have HS : Hid (∀ i, i < j → (ts i).same (P.ps i) = true) := hsame
    clear hsame p2
    by_cases hlt : j < P.len
    · have ij : (j : Int) < P.len := by omega
      rw [HA.out.nil (by omega)]
      have hA := HA.out.kept hR.bl
      have C := hA.cells hlt
      have P1 := hA.part hlt
      have Ba := below_alloc wr (.cells #[.int .i64 (P.ps j).k, .int .i64 (P.ps j).l, .slice (P.ps j).ao (P.ps j).len (P.ps j).cap, .int .i64 (P.ps j).h, .int .i64 (P.ps j).e] 36)
      have y0 := C.c0
      have y1 := C.c1
      have y2 := C.c2
      have y3 := C.c3
      have y4 := C.c4
      have hI := copied_any (P.ps j) _ (HN.out j hlt).1 (P1.kept Ba)
      have HR : Hid (GRow w1 wr v j ts) := hR
      clear C hA hR P1
      go_wp2_with fail
      refine hI.mono ?_
      intro r w2 hCP
      obtain ⟨u, rfl, uA, uB, uS, hb1⟩ := hCP
      have HU : Hid (u.At w2 ∧ u.Blk (fun b => wr.heap.size ≤ b) ∧ u.same (P.ps j) = true ∧ Below wr.heap.size wr w2) := ⟨uA, uB.mono (fun b hq => Nat.le_trans Ba.size hq), uS, Below.next Ba hb1⟩
      clear uA uB uS hb1 y0 y1 y2 y3 y4 hI Ba
      have hownA := own_kept HR.out.own (Below.next HU.out.2.2.2 (below_alloc w2 (.cells #[.int .i64 u.k, .int .i64 u.l, .slice u.ao u.len u.cap, .int .i64 u.h, .int .i64 u.e] 36)))
      have j1000 := (HN.out j hlt).2
      have hs0 : w1.heap.size ≤ w2.heap.size := Nat.le_trans HR.out.bl.size HU.out.2.2.2.size
      go_wp2_with ((at_builtin; refine wpList_append_lies _ rfl _ _ 31 rfl w1.heap.size 36 i0 _ 5 56 Tryz.underlying31 hi hz0 hz1 hz2 rfl (by decide) v j (flatT ts j) rfl hownA ⟨w2.heap.size, 0, none⟩ 1 1 u.vs rfl rfl (World.news_of_block (cs := #[.int .i64 u.k, .int .i64 u.l, .slice u.ao u.len u.cap, .int .i64 u.h, .int .i64 u.e]) (t := 36) (fr := (0, 0)) (heap_alloc_new w2 _)) (by intro x hx; simp [Ty.vs] at hx; rcases hx with rfl | rfl | rfl | rfl | rfl <;> rfl) (by omega) (by unfold maxLen; omega) (by omega) (by rw [alloc_size]; omega) (w2.heap.size + 1) (alloc_size _ _) ?_; intro gg cap3 w3 hown3 hgrow hat hltg; have HG : Hid (GRow w1 w3 (.slice (some ⟨gg, 0, none⟩) (j + 1) cap3) (j + 1) (fun i => if i < j then ts i else u)) := HR.out.push HU.out.2.2.2 HU.out.1 HU.out.2.1 hown3 hgrow hat; clear hown3 hgrow hat hltg))
      go_roundw
      case rel => exact ⟨j + 1, _, _, by omega, rfl, by go_num, HG.out, fun i hi => by
          by_cases hij : i < j
          · simp only [hij, if_true]; exact HS.out i hij
          · have e : i = j := by omega
            subst e
            simp only [Nat.lt_irrefl, if_false]; exact HU.out.2.2.1⟩
      case measure => simp [intOf]; omega
    · have e : j = P.len := by omega
      subst e
      have dl : ¬ (P.len : Int) < P.len := by omega
      obtain ⟨gao, gg, gcap, rfl, hTy⟩ := hR.ty hbd
      have hcp := own_le_cap hR.own
      have hC : Cop (fnL c.fs.x c.fs.len []) (.mk 0 0 0 0 gao gg 0 P.len gcap ts) := ⟨HF.out.2.1, fun i s hs => by
        have hi : i < P.len := by rw [HF.out.2.1]; exact (List.getElem?_eq_some_iff.1 hs).1
        have h2 := HF.out.2.2.1 i hi
        rw [h2] at hs
        injection hs with hs
        subst hs
        exact HS.out i hi⟩
      have HT := hyd (show Ty.At wr (.mk 0 0 0 0 gao gg 0 P.len gcap ts) ∧ Cop (fnL c.fs.x c.fs.len []) (.mk 0 0 0 0 gao gg 0 P.len gcap ts) ∧ P.len ≤ gcap ∧ Below w.heap.size w wr from ⟨(hTy 0 0 0 0).1, hC, hcp, Below.next HB1.out hR.bl⟩)
      clear hR hTy hcp hC
      go_wp2
      go_ret
      exact PoolR.ofYes (.mk 0 0 0 0 gao gg 0 P.len gcap ts) HF.out.1 HT.out.1 HT.out.2.1 HT.out.2.2.1 HF.out.2.2.2 HT.out.2.2.2
end Go.Proofs.YtjfijpiadfkmfaaGreatDoor

/- Layer 13: the reference's Place: where a type stands in a list. -/
namespace Go.Proofs.YtjfijpiadfkmfaaGreatDoor
open Go Go.RowKit

theorem ret_numN {a b : Nat} (h : a = b) : Ending.returned (.int .i64 (a : Int)) = .returned (.int .i64 (b : Int)) := by rw [h]
set_option maxRecDepth 100000 in
set_option maxHeartbeats 8000000 in
theorem rPlace_any (T t : Ty) (w : World) (hT : T.At w) (ht : t.At w) : Calls Tryz.prog 8 #[.slice T.ao T.len T.cap, .agg #[.int .i64 t.k, .int .i64 t.l, .slice t.ao t.len t.cap, .int .i64 t.h, .int .i64 t.e]] w fun e w' => e = .returned (.int .i64 (plN T.ps T.len t : Nat)) ∧ Below w.heap.size w w' := by
  have B0 := below_alloc w (tyO t)
  have b0 : Blk (w.alloc (tyO t)) w.heap.size t.vs 36 := Blk.new w t.vs 36
  have H1 := hyd (show (Below w.heap.size w (w.alloc (tyO t)) ∧ Blk (w.alloc (tyO t)) w.heap.size t.vs 36) ∧ T.At w ∧ t.At w from ⟨⟨B0, b0⟩, hT, ht⟩)
  have HY := hyd (fun j h1 h2 h3 => plN_hit (x := T.ps) (n := T.len) (j := j) (t := t) h1 h2 h3)
  have HN := hyd (fun h => plN_miss (x := T.ps) (n := T.len) (t := t) h)
  have hbd := hT.bound
  have HNT := hyd hT.nil
  generalize plN T.ps T.len t = R at *
  clear B0 b0 hT ht
  unfold tyO at H1
  generalize hw : w.alloc (.cells #[.int .i64 t.k, .int .i64 t.l, .slice t.ao t.len t.cap, .int .i64 t.h, .int .i64 t.e] 36) = u1 at *
  go_enter Tryz.func8, Tryz.ntmps8
  go_wp2
  clear hw
  go_loopw [5] (fun i wr => ∃ (j : Nat), j ≤ T.len ∧ i = .int .i64 j ∧ (Below w.heap.size w wr ∧ Blk wr w.heap.size t.vs 36) ∧ ∀ i, i < j → (T.ps i).same t = false) (fun i _ => T.len - (intOf i).toNat)
  case atStart => exact ⟨0, Nat.zero_le _, rfl, H1.out.1, fun i hi => absurd hi (Nat.not_lt_zero _)⟩
  case round =>
    obtain ⟨j, hj, rfl, hB, hall⟩ := hrel
    have HB := hyd hB
    have HL := hyd hall
    have HD := hyd H1.out.2
    clear hB hall H1
    by_cases hlt : j < T.len
    · have ij : (j : Int) < T.len := by omega
      rw [HNT.out (by omega)]
      have hTA := HD.out.1.kept HB.out.1
      have C := hTA.cells hlt
      have P := hTA.part hlt
      have htA := HD.out.2.kept HB.out.1
      have hs : ∀ y : Gr wr, Calls Tryz.prog 16 #[.agg #[.int .i64 (T.ps j).k, .int .i64 (T.ps j).l, .slice (T.ps j).ao (T.ps j).len (T.ps j).cap, .int .i64 (T.ps j).h, .int .i64 (T.ps j).e], .agg #[.int .i64 t.k, .int .i64 t.l, .slice t.ao t.len t.cap, .int .i64 t.h, .int .i64 t.e]] y.w fun e w' => e = .returned (.bool ((T.ps j).same t)) ∧ Below y.w.heap.size y.w w' := fun y => rSame_any2 (T.ps j) t y.w (P.kept y.bl) (htA.kept y.bl)
      have y0 : ∀ y : Gr wr, y.w.cell? ⟨T.b, T.o + j * 5, none⟩ = some (.int .i64 (T.ps j).k) := fun y => Gr.cell y C.c0
      have y1 : ∀ y : Gr wr, y.w.cell? ⟨T.b, T.o + j * 5 + 1, none⟩ = some (.int .i64 (T.ps j).l) := fun y => Gr.cell y C.c1
      have y2 : ∀ y : Gr wr, y.w.cell? ⟨T.b, T.o + j * 5 + 2, none⟩ = some (.slice (T.ps j).ao (T.ps j).len (T.ps j).cap) := fun y => Gr.cell y C.c2
      have y3 : ∀ y : Gr wr, y.w.cell? ⟨T.b, T.o + j * 5 + 3, none⟩ = some (.int .i64 (T.ps j).h) := fun y => Gr.cell y C.c3
      have y4 : ∀ y : Gr wr, y.w.cell? ⟨T.b, T.o + j * 5 + 4, none⟩ = some (.int .i64 (T.ps j).e) := fun y => Gr.cell y C.c4
      have z0 : ∀ y : Gr wr, y.w.cell? ⟨w.heap.size, 0, none⟩ = some (.int .i64 t.k) := fun y => Gr.cell y (HB.out.2.cell 0 rfl)
      have z1 : ∀ y : Gr wr, y.w.cell? ⟨w.heap.size, 1, none⟩ = some (.int .i64 t.l) := fun y => Gr.cell y (HB.out.2.cell 1 rfl)
      have z2 : ∀ y : Gr wr, y.w.cell? ⟨w.heap.size, 2, none⟩ = some (.slice t.ao t.len t.cap) := fun y => Gr.cell y (HB.out.2.cell 2 rfl)
      have z3 : ∀ y : Gr wr, y.w.cell? ⟨w.heap.size, 3, none⟩ = some (.int .i64 t.h) := fun y => Gr.cell y (HB.out.2.cell 3 rfl)
      have z4 : ∀ y : Gr wr, y.w.cell? ⟨w.heap.size, 4, none⟩ = some (.int .i64 t.e) := fun y => Gr.cell y (HB.out.2.cell 4 rfl)
      have hNE : Nonempty (Gr wr) := ⟨⟨wr, Below.refl _ _⟩⟩
      have HYJ := hyd (HY.out j hlt)
      have HLJ : Hid ((T.ps j).same t = false → ∀ i, i < j + 1 → (T.ps i).same t = false) := fun h i hi => by
        by_cases e : i = j
        · rw [e]; exact h
        · exact HL.out i (by omega)
      clear C P hTA htA
      generalize (T.ps j).same t = sb at *
      go_upto_region 4 with fail
      refine wp_region_gr (by kernel_rfl) (by kernel_rfl) ?_
      iterate 6 (go_big_quiet_step ((go_at_call 16; exact Calls.gr _ (hs _))))
      refine wpQuiet_nil ?_
      rintro q1 ⟨xg, rfl⟩
      have Bg := xg.bl
      generalize xg.w = q1 at Bg ⊢
      have HB2 := hyd (show Below w.heap.size w q1 ∧ Blk q1 w.heap.size t.vs 36 from ⟨Below.next HB.out.1 Bg, HB.out.2.kept Bg⟩)
      clear xg Bg HB hs y0 y1 y2 y3 y4 z0 z1 z2 z3 z4 hNE
      cases sb
      · have HE := hyd (HLJ.out rfl)
        clear HLJ HYJ HL
        go_wp2
        go_roundw
        case rel => exact ⟨j + 1, by omega, by go_num, HB2.out, HE.out⟩
        case measure => simp [intOf]; omega
      · have HE : Hid (R = j) := HYJ.out (by simp) HL.out
        clear HLJ HYJ
        go_wp2
        go_ret
        exact ⟨ret_numN HE.out.symm, HB2.out.1⟩
    · have ij : ¬ (j : Int) < T.len := by omega
      have HE : Hid (R = T.len) := HN.out (fun i hi => HL.out i (by omega))
      go_wp2
      go_ret
      exact ⟨ret_numN HE.out.symm, HB.out.1⟩
end Go.Proofs.YtjfijpiadfkmfaaGreatDoor

/- Layers 13 to 15: the reference's small: types of a size that is looked at. -/
namespace Go.Proofs.YtjfijpiadfkmfaaGreatDoor
open Go Go.RowKit

set_option maxRecDepth 100000 in
set_option maxHeartbeats 2000000 in
theorem rsmall_any (T : Ty) (w : World) (hT : T.At w) : Calls Tryz.prog 13 #[.slice T.ao T.len T.cap] w fun e w' => e = .returned (.bool (decide (∀ i, i < T.len → (T.ps i).nodes ≤ 40))) ∧ Below w.heap.size w w' := by
  have hnil := hT.nil
  have hbd := hT.bound
  have HT := hyd hT
  have HB := hyd (Below.refl w.heap.size w)
  generalize hANS : decide (∀ i, i < T.len → (T.ps i).nodes ≤ 40) = ANS at *
  have HANS := hyd hANS
  clear hT hANS
  generalize hlen : T.len = len at *
  have HL := hyd hlen
  clear hlen
  generalize T.ao = ao at *
  go_enter Tryz.func13, Tryz.ntmps13
  go_wp2
  go_loopw [3] (fun i wr => ∃ (j : Nat), j ≤ len ∧ i = .int .i64 j ∧ Below w.heap.size w wr ∧ (∀ i, i < j → (T.ps i).nodes ≤ 40)) (fun i _ => len - (intOf i).toNat)
  case atStart => exact ⟨0, Nat.zero_le _, rfl, HB.out, fun i hi => absurd hi (Nat.not_lt_zero _)⟩
  case round =>
    clear HB
    obtain ⟨j, hj, rfl, hBl, hall⟩ := hrel
    have HB := hyd hBl
    have HA := hyd hall
    clear hBl hall
    by_cases hlt : j < len
    · have ij : (j : Int) < len := by omega
      have a0 := hnil (by omega)
      subst a0
      have hjT : j < T.len := by rw [HL.out]; exact hlt
      have C := (HT.out.kept HB.out).cells hjT
      have c0 := C.c0
      have c1 := C.c1
      have c2 := C.c2
      have c3 := C.c3
      have c4 := C.c4
      have hs := rSmall2_any (T.ps j) wr ((HT.out.kept HB.out).part hjT)
      have HAS : Hid (∀ b, b = decide ((T.ps j).nodes ≤ 40) → (b = true → ∀ i, i < j + 1 → (T.ps i).nodes ≤ 40) ∧ (b = false → ANS = false)) := by
        intro b hb
        refine ⟨fun h1 i hi => ?_, fun h1 => ?_⟩
        · rcases Nat.lt_or_ge i j with h2 | h2
          · exact HA.out i h2
          · have : i = j := by omega
            subst this
            exact of_decide_eq_true (hb.symm.trans h1)
        · rw [← HANS.out, decide_eq_false_iff_not]
          intro hh
          have h2 := of_decide_eq_false (hb.symm.trans h1)
          exact h2 (hh j hlt)
      have H5 := hyd (HAS.out _ rfl)
      clear C HAS hjT
      generalize decide ((T.ps j).nodes ≤ 40) = bb at *
      go_wp2_with fail
      refine hs.mono ?_
      rintro _ w1 ⟨rfl, hb1⟩
      have HB1 := hyd (Below.next HB.out hb1)
      clear hs c0 c1 c2 c3 c4 hb1 HB
      cases bb
      · go_wp2
        go_ret
        exact ⟨ret_bool (H5.out.2 (by simp)).symm, HB1.out⟩
      · go_wp2
        go_roundw
        case rel => exact ⟨j + 1, by omega, by go_num, HB1.out, H5.out.1 (by simp)⟩
        case measure => simp [intOf]; omega
    · have e2 : j = len := by omega
      subst e2
      have dj : ¬ (j : Int) < j := by omega
      go_wp2
      go_ret
      exact ⟨ret_bool (by rw [← HANS.out]; symm; rw [decide_eq_true_eq]; exact HA.out), HB.out⟩
end Go.Proofs.YtjfijpiadfkmfaaGreatDoor
