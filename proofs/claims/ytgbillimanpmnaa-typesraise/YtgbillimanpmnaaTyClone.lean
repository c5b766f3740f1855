/- Layer 2: clone. -/
import Derived.Test.YtgbillimanpmnaaTyGrow
import Derived.Laws.AppendOwnNone
namespace Go.Proofs.Ytgbillimanpmnaa
open Go.RowKit

theorem Try.infoTy : (Try.prog.info? 28).map (fun i => (i.zero, i.size, i.bytes)) = some (some (.agg #[.int .i64 0, .int .i64 0, .slice none 0 0, .int .i64 0, .int .i64 0]), 5, 56) := by kernel_rfl

theorem own_kept {w w' : World} {base : Nat} {e : TypeId} {size : Nat} {v : Value} {n : Nat} {xs : List Value} (h : w.ownsRow base e size v n xs) (hb : Below w.heap.size w w') : w'.ownsRow base e size v n xs := by
  obtain ⟨h1, h2⟩ := h
  refine ⟨h1, ?_⟩
  rcases h2 with h2 | ⟨g, cap, cur, hv, hg, hh, r⟩
  · exact Or.inl h2
  · exact Or.inr ⟨g, cap, cur, hv, hg, (hb.block g (Array.getElem?_eq_some_iff.1 hh).1).trans hh, r⟩

/-- The variables of a call that clones: a type's, and the result's. -/
structure CBox (w w0 : World) (t : Ty) : Prop where
  bl : Below w.heap.size w w0
  sz : w0.heap.size = w.heap.size + 2
  x : Bx w0 w.heap.size t
  fx : ∀ i, i < 5 → w0.frozen? ⟨w.heap.size, i, none⟩ = false
  r : ∀ i, i < 5 → (w0.cell? ⟨w.heap.size + 1, i, none⟩).isSome = true
  fr : ∀ i, i < 5 → w0.frozen? ⟨w.heap.size + 1, i, none⟩ = false
theorem cbox_new (w : World) (t : Ty) : CBox w ((w.alloc (tyO t)).alloc (.cells #[.int .i64 0, .int .i64 0, .slice none 0 0, .int .i64 0, .int .i64 0] 28)) t where
  bl := Below.next (below_alloc _ _) (below_alloc _ _)
  sz := by rw [alloc_size, alloc_size]
  x := (Bx.new w t).kept (below_alloc _ _)
  fx := fun i hi => by
    rw [(below_alloc (w.alloc (tyO t)) _).frozen (p := ⟨w.heap.size, i, none⟩) (by rw [alloc_size]; exact Nat.lt_succ_self _)]
    simp [tyO]
  r := fun i hi => by
    have e : (w.alloc (tyO t)).heap.size = w.heap.size + 1 := alloc_size _ _
    rw [← e]
    match i, hi with
    | 0, _ => simp
    | 1, _ => simp
    | 2, _ => simp
    | 3, _ => simp
    | 4, _ => simp
  fr := fun i hi => by
    have e : (w.alloc (tyO t)).heap.size = w.heap.size + 1 := alloc_size _ _
    rw [← e]
    simp

/-- What clone answers. -/
def CP (w : World) (t : Ty) (e : Ending) (w' : World) : Prop :=
  ∃ u : Ty, e = .returned (.agg #[.int .i64 u.k, .int .i64 u.l, .slice u.ao u.len u.cap, .int .i64 u.h, .int .i64 u.e]) ∧ u.At w' ∧ u.Blk (fun b => w.heap.size ≤ b) ∧ u.same t = true ∧ Below w.heap.size w w'

theorem CP.intro {w : World} {t : Ty} {e : Ending} {w' : World} (u : Ty) (h1 : e = .returned (.agg #[.int .i64 u.k, .int .i64 u.l, .slice u.ao u.len u.cap, .int .i64 u.h, .int .i64 u.e])) (h2 : u.At w') (h3 : u.Blk (fun b => w.heap.size ≤ b)) (h4 : u.same t = true) (h5 : Below w.heap.size w w') : CP w t e w' := ⟨u, h1, h2, h3, h4, h5⟩

set_option maxRecDepth 100000 in
set_option maxHeartbeats 8000000 in
theorem clone2_any : ∀ (t : Ty) (w : World), t.nodes ≤ 1000 → t.At w → Calls Try.prog 46 #[.agg #[.int .i64 t.k, .int .i64 t.l, .slice t.ao t.len t.cap, .int .i64 t.h, .int .i64 t.e]] w fun e w' => CP w t e w' := by
  intro t
  induction t with
  | dm => intro w _ hAt; exact hAt.elim
  | mk k l h e ao b o len cap ps ih =>
    intro w hN hAt
    show Calls Try.prog 46 #[.agg #[.int .i64 k, .int .i64 l, .slice ao len cap, .int .i64 h, .int .i64 e]] w fun r w' => CP w (.mk k l h e ao b o len cap ps) r w'
    have K0 := cbox_new w (.mk k l h e ao b o len cap ps)
    have hb : len ≤ 9223372036854775807 := hAt.bound
    have hnil : 0 < len → ao = some ⟨b, o, none⟩ := hAt.nil
    have HP : Hid (∀ j, j < len → (ps j).nodes ≤ 1000 ∧ j < 1000) := fun j hj => by
      have h1 : (ps j).nodes < _ := nodes_part (t := .mk k l h e ao b o len cap ps) hj
      have h2 : 1 + sumTo (fun i => (ps i).nodes) len ≤ 1000 := hN
      have h3 : ∀ m, m ≤ sumTo (fun i => (ps i).nodes) m := fun m => by
        induction m with
        | zero => exact Nat.le_refl _
        | succ m ihm =>
          have : 1 ≤ (ps m).nodes := by rw [pn_nodes]; omega
          show m + 1 ≤ sumTo (fun i => (ps i).nodes) m + (ps m).nodes
          omega
      have h4 := h3 len
      exact ⟨by omega, by omega⟩
    have hA0 := hAt.kept K0.bl
    unfold tyO at K0 hA0
    simp only [Ty.k, Ty.l, Ty.h, Ty.e, Ty.ao, Ty.len, Ty.cap] at K0 hA0
    have x2 : ((w.alloc (.cells #[.int .i64 k, .int .i64 l, .slice ao len cap, .int .i64 h, .int .i64 e] 28)).alloc (.cells #[.int .i64 0, .int .i64 0, .slice none 0 0, .int .i64 0, .int .i64 0] 28)).cell? ⟨w.heap.size, 2, none⟩ = some (.slice ao len cap) := K0.x.c2
    clear hAt hN
    go_enter Try.func46, Try.ntmps46
    go_wp2
    clear x2
    generalize ((w.alloc (.cells #[.int .i64 k, .int .i64 l, .slice ao len cap, .int .i64 h, .int .i64 e] 28)).alloc (.cells #[.int .i64 0, .int .i64 0, .slice none 0 0, .int .i64 0, .int .i64 0] 28)) = w0 at K0 hA0 ⊢
    obtain ⟨i0, hi, hz0, hz1, hz2⟩ := info_parts Try.infoTy
    go_loopw [3, 9] (fun sv i wr => ∃ (j : Nat) (v : Value) (ts : Nat → Ty), j ≤ len ∧ v = sv ∧ i = .int .i64 j ∧ GRow w0 wr v j ts ∧ ∀ i, i < j → (ts i).same (ps i) = true) (fun _ i _ => len - (intOf i).toNat)
    case atStart => exact ⟨0, _, fun _ => .dm, Nat.zero_le _, rfl, rfl, GRow.start _ _, fun _ h => absurd h (Nat.not_lt_zero _)⟩
    case round =>
      obtain ⟨j, v, ts, hj, hv, rfl, hR, hsame⟩ := hrel
      subst hv
      have HS : Hid (∀ i, i < j → (ts i).same (ps i) = true) := hsame
      clear hsame
      by_cases hlt : j < len
      · have ij : (j : Int) < len := by omega
        have a0 := hnil (by omega)
        subst a0
        have hA := hA0.kept hR.bl
        have C : C5 wr b (o + j * 5) (ps j) := hA.cells hlt
        have P : (ps j).At wr := hA.part hlt
        have Ba := below_alloc wr (.cells #[.int .i64 (ps j).k, .int .i64 (ps j).l, .slice (ps j).ao (ps j).len (ps j).cap, .int .i64 (ps j).h, .int .i64 (ps j).e] 28)
        have y0 := C.c0
        have y1 := C.c1
        have y2 := C.c2
        have y3 := C.c3
        have y4 := C.c4
        have hI := ih j _ (HP.out j hlt).1 (P.kept Ba)
        have HR : Hid (GRow w0 wr v j ts) := hR
        clear C hA hR P
        go_wp2_with fail
        refine hI.mono ?_
        intro r w1 hCP
        obtain ⟨u, rfl, uA, uB, uS, hb1⟩ := hCP
        have HU : Hid (u.At w1 ∧ u.Blk (fun b => wr.heap.size ≤ b) ∧ u.same (ps j) = true ∧ Below wr.heap.size wr w1) := ⟨uA, uB.mono (fun b hq => Nat.le_trans Ba.size hq), uS, Below.next Ba hb1⟩
        clear uA uB uS hb1 y0 y1 y2 y3 y4 hI Ba
        have hownA := own_kept HR.out.own (Below.next HU.out.2.2.2 (below_alloc w1 (.cells #[.int .i64 u.k, .int .i64 u.l, .slice u.ao u.len u.cap, .int .i64 u.h, .int .i64 u.e] 28)))
        have j1000 := (HP.out j hlt).2
        have hs0 : w0.heap.size ≤ w1.heap.size := Nat.le_trans HR.out.bl.size HU.out.2.2.2.size
        go_wp2_with ((at_builtin; refine wpList_append_lies _ rfl _ _ 26 rfl w0.heap.size 28 i0 _ 5 56 Try.underlying26 hi hz0 hz1 hz2 rfl (by decide) v j (flatT ts j) rfl hownA ⟨w1.heap.size, 0, none⟩ 1 1 u.vs rfl rfl (World.news_of_block (cs := #[.int .i64 u.k, .int .i64 u.l, .slice u.ao u.len u.cap, .int .i64 u.h, .int .i64 u.e]) (t := 28) (fr := (0, 0)) (heap_alloc_new w1 _)) (by intro x hx; simp [Ty.vs] at hx; rcases hx with rfl | rfl | rfl | rfl | rfl <;> rfl) (by omega) (by unfold maxLen; omega) (by omega) (by rw [alloc_size]; omega) (w1.heap.size + 1) (alloc_size _ _) ?_; intro gg cap3 w3 hown3 hgrow hat hltg; have HG : Hid (GRow w0 w3 (.slice (some ⟨gg, 0, none⟩) (j + 1) cap3) (j + 1) (fun i => if i < j then ts i else u)) := HR.out.push HU.out.2.2.2 HU.out.1 HU.out.2.1 hown3 hgrow hat; clear hown3 hgrow hat hltg))
        go_roundw
        case rel => exact ⟨j + 1, _, _, by omega, rfl, by go_num, HG.out, fun i hi => by
            by_cases hij : i < j
            · simp only [hij, if_true]; exact HS.out i hij
            · have e : i = j := by omega
              subst e
              simp only [Nat.lt_irrefl, if_false]; exact HU.out.2.2.1⟩
        case measure => simp [intOf]; omega
      · have e : len = j := by omega
        subst e
        have dl : ¬ (len : Int) < len := by omega
        obtain ⟨gao, gg, gcap, rfl, hTy⟩ := hR.ty hb
        have x0 : wr.cell? ⟨w.heap.size, 0, none⟩ = some (.int .i64 k) := up hR.bl K0.x.c0
        have x1 : wr.cell? ⟨w.heap.size, 1, none⟩ = some (.int .i64 l) := up hR.bl K0.x.c1
        have x2 : wr.cell? ⟨w.heap.size, 2, none⟩ = some (.slice ao len cap) := up hR.bl K0.x.c2
        have x3 : wr.cell? ⟨w.heap.size, 3, none⟩ = some (.int .i64 h) := up hR.bl K0.x.c3
        have x4 : wr.cell? ⟨w.heap.size, 4, none⟩ = some (.int .i64 e) := up hR.bl K0.x.c4
        have f2 := (hR.bl.frozen (p := ⟨w.heap.size, 2, none⟩) (by have := K0.sz; show w.heap.size < _; omega)).trans (K0.fx 2 (by omega))
        obtain ⟨r0, hr0⟩ := Option.isSome_iff_exists.1 (K0.r 0 (by omega))
        have s0 := up hR.bl hr0
        have t0 := (hR.bl.frozen (p := ⟨w.heap.size + 1, 0, none⟩) (by have := K0.sz; show w.heap.size + 1 < _; omega)).trans (K0.fr 0 (by omega))
        obtain ⟨r1, hr1⟩ := Option.isSome_iff_exists.1 (K0.r 1 (by omega))
        have s1 := up hR.bl hr1
        have t1 := (hR.bl.frozen (p := ⟨w.heap.size + 1, 1, none⟩) (by have := K0.sz; show w.heap.size + 1 < _; omega)).trans (K0.fr 1 (by omega))
        obtain ⟨r2, hr2⟩ := Option.isSome_iff_exists.1 (K0.r 2 (by omega))
        have s2 := up hR.bl hr2
        have t2 := (hR.bl.frozen (p := ⟨w.heap.size + 1, 2, none⟩) (by have := K0.sz; show w.heap.size + 1 < _; omega)).trans (K0.fr 2 (by omega))
        obtain ⟨r3, hr3⟩ := Option.isSome_iff_exists.1 (K0.r 3 (by omega))
        have s3 := up hR.bl hr3
        have t3 := (hR.bl.frozen (p := ⟨w.heap.size + 1, 3, none⟩) (by have := K0.sz; show w.heap.size + 1 < _; omega)).trans (K0.fr 3 (by omega))
        obtain ⟨r4, hr4⟩ := Option.isSome_iff_exists.1 (K0.r 4 (by omega))
        have s4 := up hR.bl hr4
        have t4 := (hR.bl.frozen (p := ⟨w.heap.size + 1, 4, none⟩) (by have := K0.sz; show w.heap.size + 1 < _; omega)).trans (K0.fr 4 (by omega))
        have HT : Hid (Ty.At wr (.mk k l h e gao gg 0 len gcap ts) ∧ Ty.Blk (fun b => w0.heap.size ≤ b) (.mk k l h e gao gg 0 len gcap ts)) := hTy k l h e
        have HB : Hid (Below w.heap.size w wr ∧ w0.heap.size = w.heap.size + 2) := ⟨K0.bl.trans (hR.bl.mono (by have := K0.bl.size; omega)), K0.sz⟩
        clear hR hTy K0 hA0 hr0 hr1 hr2 hr3 hr4
        go_wp2
        refine bodyPost_ret (v := .agg #[.int .i64 k, .int .i64 l, .slice gao len gcap, .int .i64 h, .int .i64 e]) (by simp [results, Try.results46, go_sem, s0, s1, s2, s3, s4]) rfl (CP.intro (.mk k l h e gao gg 0 len gcap ts) rfl ?_ (HT.out.2.mono (fun b hq => by have := HB.out.2; omega)) ((same_iff _ _).2 ⟨⟨rfl, rfl, rfl, rfl, rfl⟩, HS.out⟩) ?_)
        · refine Ty.At.agree (fun b hq => ?_) HT.out.1 HT.out.2
          have := HB.out.2
          rw [Below.heap_setCell _ _ _ _ (by show b ≠ w.heap.size + 1; omega), Below.heap_setCell _ _ _ _ (by show b ≠ w.heap.size + 1; omega), Below.heap_setCell _ _ _ _ (by show b ≠ w.heap.size + 1; omega), Below.heap_setCell _ _ _ _ (by show b ≠ w.heap.size + 1; omega), Below.heap_setCell _ _ _ _ (by show b ≠ w.heap.size + 1; omega), Below.heap_setCell _ _ _ _ (by show b ≠ w.heap.size; omega)]
        · exact (((((HB.out.1.setCell (Nat.le_refl _) _).setCell (Nat.le_succ _) _).setCell (Nat.le_succ _) _).setCell (Nat.le_succ _) _).setCell (Nat.le_succ _) _).setCell (Nat.le_succ _) _
end Go.Proofs.Ytgbillimanpmnaa
