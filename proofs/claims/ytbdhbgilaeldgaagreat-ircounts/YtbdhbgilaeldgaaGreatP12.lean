/- Layer 2: clone. -/
import Derived.Test.YtbdhbgilaeldgaaGreatP11
import Derived.Laws.AppendOwnNone
import Derived.Test.YtbdhbgilaeldgaaGreatP3
import Derived.Deep.MidRow
namespace Go.Proofs.YtbdhbgilaeldgaaGreat
open Go.RowKit

theorem Tryz.infoTy : (Tryz.prog.info? 38).map (fun i => (i.zero, i.size, i.bytes)) = some (some (.agg #[.int .i64 0, .int .i64 0, .slice none 0 0, .int .i64 0, .int .i64 0]), 5, 56) := by kernel_rfl

theorem own_kept {w w' : World} {base : Nat} {e : TypeId} {size : Nat} {v : Value} {n : Nat} {xs : List Value} (h : w.ownsRow base e size v n xs) (hb : Below w.heap.size w w') : w'.ownsRow base e size v n xs := by
  obtain ⟨h1, h2⟩ := h
  refine ⟨h1, ?_⟩
  rcases h2 with h2 | ⟨g, cap, cur, hv, hg, hh, r⟩
  · exact Or.inl h2
  · exact Or.inr ⟨g, cap, cur, hv, hg, (hb.block g (Array.getElem?_eq_some_iff.1 hh).1).trans hh, r⟩

/-- The variables of a call that clones: a type's, and the result's. -/
structure CBox (w w0 : World) (t : Ty) : Prop where
  bl : Below w.heap.size w w0
  sz : w0.heap.size = w.heap.size + 2
  x : Bx w0 w.heap.size t
  fx : ∀ i, i < 5 → w0.frozen? ⟨w.heap.size, i, none⟩ = false
  r : ∀ i, i < 5 → (w0.cell? ⟨w.heap.size + 1, i, none⟩).isSome = true
  fr : ∀ i, i < 5 → w0.frozen? ⟨w.heap.size + 1, i, none⟩ = false
theorem cbox_new (w : World) (t : Ty) : CBox w ((w.alloc (tyO t)).alloc (.cells #[.int .i64 0, .int .i64 0, .slice none 0 0, .int .i64 0, .int .i64 0] 38)) t where
  bl := Below.next (below_alloc _ _) (below_alloc _ _)
  sz := by rw [alloc_size, alloc_size]
  x := (Bx.new w t).kept (below_alloc _ _)
  fx := fun i hi => by
    rw [(below_alloc (w.alloc (tyO t)) _).frozen (p := ⟨w.heap.size, i, none⟩) (by rw [alloc_size]; exact Nat.lt_succ_self _)]
    simp [tyO]
  r := fun i hi => by
    have e : (w.alloc (tyO t)).heap.size = w.heap.size + 1 := alloc_size _ _
    rw [← e]
    match i, hi with
    | 0, _ => simp
    | 1, _ => simp
    | 2, _ => simp
    | 3, _ => simp
    | 4, _ => simp
  fr := fun i hi => by
    have e : (w.alloc (tyO t)).heap.size = w.heap.size + 1 := alloc_size _ _
    rw [← e]
    simp

/-- What clone answers. -/
def CP (w : World) (t : Ty) (e : Ending) (w' : World) : Prop :=
  ∃ u : Ty, e = .returned (.agg #[.int .i64 u.k, .int .i64 u.l, .slice u.ao u.len u.cap, .int .i64 u.h, .int .i64 u.e]) ∧ u.At w' ∧ u.Blk (fun b => w.heap.size ≤ b) ∧ u.same t = true ∧ Below w.heap.size w w'

theorem CP.intro {w : World} {t : Ty} {e : Ending} {w' : World} (u : Ty) (h1 : e = .returned (.agg #[.int .i64 u.k, .int .i64 u.l, .slice u.ao u.len u.cap, .int .i64 u.h, .int .i64 u.e])) (h2 : u.At w') (h3 : u.Blk (fun b => w.heap.size ≤ b)) (h4 : u.same t = true) (h5 : Below w.heap.size w w') : CP w t e w' := ⟨u, h1, h2, h3, h4, h5⟩

set_option maxRecDepth 100000 in
set_option maxHeartbeats 8000000 in
theorem clone2_any : ∀ (t : Ty) (w : World), t.nodes ≤ 1000 → t.At w → Calls Tryz.prog 54 #[.agg #[.int .i64 t.k, .int .i64 t.l, .slice t.ao t.len t.cap, .int .i64 t.h, .int .i64 t.e]] w fun e w' => CP w t e w' := by
  intro t
  induction t with
  | dm => intro w _ hAt; exact hAt.elim
  | mk k l h e ao b o len cap ps ih =>
    intro w hN hAt
    show Calls Tryz.prog 54 #[.agg #[.int .i64 k, .int .i64 l, .slice ao len cap, .int .i64 h, .int .i64 e]] w fun r w' => CP w (.mk k l h e ao b o len cap ps) r w'
    have K0 := cbox_new w (.mk k l h e ao b o len cap ps)
    have hb : len ≤ 9223372036854775807 := hAt.bound
    have hnil : 0 < len → ao = some ⟨b, o, none⟩ := hAt.nil
    have HP : Hid (∀ j, j < len → (ps j).nodes ≤ 1000 ∧ j < 1000) := fun j hj => by
      have h1 : (ps j).nodes < _ := nodes_part (t := .mk k l h e ao b o len cap ps) hj
      have h2 : 1 + sumTo (fun i => (ps i).nodes) len ≤ 1000 := hN
      have h3 : ∀ m, m ≤ sumTo (fun i => (ps i).nodes) m := fun m => by
        induction m with
        | zero => exact Nat.le_refl _
        | succ m ihm =>
          have : 1 ≤ (ps m).nodes := by rw [pn_nodes]; omega
          show m + 1 ≤ sumTo (fun i => (ps i).nodes) m + (ps m).nodes
          omega
      have h4 := h3 len
      exact ⟨by omega, by omega⟩
    have hA0 := hAt.kept K0.bl
    unfold tyO at K0 hA0
    simp only [Ty.k, Ty.l, Ty.h, Ty.e, Ty.ao, Ty.len, Ty.cap] at K0 hA0
    have x2 : ((w.alloc (.cells #[.int .i64 k, .int .i64 l, .slice ao len cap, .int .i64 h, .int .i64 e] 38)).alloc (.cells #[.int .i64 0, .int .i64 0, .slice none 0 0, .int .i64 0, .int .i64 0] 38)).cell? ⟨w.heap.size, 2, none⟩ = some (.slice ao len cap) := K0.x.c2
    clear hAt hN
    go_enter Tryz.func54, Tryz.ntmps54
    go_wp2
    clear x2
    generalize ((w.alloc (.cells #[.int .i64 k, .int .i64 l, .slice ao len cap, .int .i64 h, .int .i64 e] 38)).alloc (.cells #[.int .i64 0, .int .i64 0, .slice none 0 0, .int .i64 0, .int .i64 0] 38)) = w0 at K0 hA0 ⊢
    obtain ⟨i0, hi, hz0, hz1, hz2⟩ := info_parts Tryz.infoTy
    go_loopw [3, 9] (fun sv i wr => ∃ (j : Nat) (v : Value) (ts : Nat → Ty), j ≤ len ∧ v = sv ∧ i = .int .i64 j ∧ GRow w0 wr v j ts ∧ ∀ i, i < j → (ts i).same (ps i) = true) (fun _ i _ => len - (intOf i).toNat)
    case atStart => exact ⟨0, _, fun _ => .dm, Nat.zero_le _, rfl, rfl, GRow.start _ _, fun _ h => absurd h (Nat.not_lt_zero _)⟩
    case round =>
      obtain ⟨j, v, ts, hj, hv, rfl, hR, hsame⟩ := hrel
      subst hv
      have HS : Hid (∀ i, i < j → (ts i).same (ps i) = true) := hsame
      clear hsame
      by_cases hlt : j < len
      · have ij : (j : Int) < len := by omega
        have a0 := hnil (by omega)
        subst a0
        have hA := hA0.kept hR.bl
        have C : C5 wr b (o + j * 5) (ps j) := hA.cells hlt
        have P : (ps j).At wr := hA.part hlt
        have Ba := below_alloc wr (.cells #[.int .i64 (ps j).k, .int .i64 (ps j).l, .slice (ps j).ao (ps j).len (ps j).cap, .int .i64 (ps j).h, .int .i64 (ps j).e] 38)
        have y0 := C.c0
        have y1 := C.c1
        have y2 := C.c2
        have y3 := C.c3
        have y4 := C.c4
        have hI := ih j _ (HP.out j hlt).1 (P.kept Ba)
        have HR : Hid (GRow w0 wr v j ts) := hR
        clear C hA hR P
        go_wp2_with fail
        refine hI.mono ?_
        intro r w1 hCP
        obtain ⟨u, rfl, uA, uB, uS, hb1⟩ := hCP
        have HU : Hid (u.At w1 ∧ u.Blk (fun b => wr.heap.size ≤ b) ∧ u.same (ps j) = true ∧ Below wr.heap.size wr w1) := ⟨uA, uB.mono (fun b hq => Nat.le_trans Ba.size hq), uS, Below.next Ba hb1⟩
        clear uA uB uS hb1 y0 y1 y2 y3 y4 hI Ba
        have hownA := own_kept HR.out.own (Below.next HU.out.2.2.2 (below_alloc w1 (.cells #[.int .i64 u.k, .int .i64 u.l, .slice u.ao u.len u.cap, .int .i64 u.h, .int .i64 u.e] 38)))
        have j1000 := (HP.out j hlt).2
        have hs0 : w0.heap.size ≤ w1.heap.size := Nat.le_trans HR.out.bl.size HU.out.2.2.2.size
        go_wp2_with ((at_builtin; refine wpList_append_lies _ rfl _ _ 36 rfl w0.heap.size 38 i0 _ 5 56 Tryz.underlying36 hi hz0 hz1 hz2 rfl (by decide) v j (flatT ts j) rfl hownA ⟨w1.heap.size, 0, none⟩ 1 1 u.vs rfl rfl (World.news_of_block (cs := #[.int .i64 u.k, .int .i64 u.l, .slice u.ao u.len u.cap, .int .i64 u.h, .int .i64 u.e]) (t := 38) (fr := (0, 0)) (heap_alloc_new w1 _)) (by intro x hx; simp [Ty.vs] at hx; rcases hx with rfl | rfl | rfl | rfl | rfl <;> rfl) (by omega) (by unfold maxLen; omega) (by omega) (by rw [alloc_size]; omega) (w1.heap.size + 1) (alloc_size _ _) ?_; intro gg cap3 w3 hown3 hgrow hat hltg; have HG : Hid (GRow w0 w3 (.slice (some ⟨gg, 0, none⟩) (j + 1) cap3) (j + 1) (fun i => if i < j then ts i else u)) := HR.out.push HU.out.2.2.2 HU.out.1 HU.out.2.1 hown3 hgrow hat; clear hown3 hgrow hat hltg))
        go_roundw
        case rel => exact ⟨j + 1, _, _, by omega, rfl, by go_num, HG.out, fun i hi => by
            by_cases hij : i < j
            · simp only [hij, if_true]; exact HS.out i hij
            · have e : i = j := by omega
              subst e
              simp only [Nat.lt_irrefl, if_false]; exact HU.out.2.2.1⟩
        case measure => simp [intOf]; omega
      · have e : len = j := by omega
        subst e
        have dl : ¬ (len : Int) < len := by omega
        obtain ⟨gao, gg, gcap, rfl, hTy⟩ := hR.ty hb
        have x0 : wr.cell? ⟨w.heap.size, 0, none⟩ = some (.int .i64 k) := up hR.bl K0.x.c0
        have x1 : wr.cell? ⟨w.heap.size, 1, none⟩ = some (.int .i64 l) := up hR.bl K0.x.c1
        have x2 : wr.cell? ⟨w.heap.size, 2, none⟩ = some (.slice ao len cap) := up hR.bl K0.x.c2
        have x3 : wr.cell? ⟨w.heap.size, 3, none⟩ = some (.int .i64 h) := up hR.bl K0.x.c3
        have x4 : wr.cell? ⟨w.heap.size, 4, none⟩ = some (.int .i64 e) := up hR.bl K0.x.c4
        have f2 := (hR.bl.frozen (p := ⟨w.heap.size, 2, none⟩) (by have := K0.sz; show w.heap.size < _; omega)).trans (K0.fx 2 (by omega))
        obtain ⟨r0, hr0⟩ := Option.isSome_iff_exists.1 (K0.r 0 (by omega))
        have s0 := up hR.bl hr0
        have t0 := (hR.bl.frozen (p := ⟨w.heap.size + 1, 0, none⟩) (by have := K0.sz; show w.heap.size + 1 < _; omega)).trans (K0.fr 0 (by omega))
        obtain ⟨r1, hr1⟩ := Option.isSome_iff_exists.1 (K0.r 1 (by omega))
        have s1 := up hR.bl hr1
        have t1 := (hR.bl.frozen (p := ⟨w.heap.size + 1, 1, none⟩) (by have := K0.sz; show w.heap.size + 1 < _; omega)).trans (K0.fr 1 (by omega))
        obtain ⟨r2, hr2⟩ := Option.isSome_iff_exists.1 (K0.r 2 (by omega))
        have s2 := up hR.bl hr2
        have t2 := (hR.bl.frozen (p := ⟨w.heap.size + 1, 2, none⟩) (by have := K0.sz; show w.heap.size + 1 < _; omega)).trans (K0.fr 2 (by omega))
        obtain ⟨r3, hr3⟩ := Option.isSome_iff_exists.1 (K0.r 3 (by omega))
        have s3 := up hR.bl hr3
        have t3 := (hR.bl.frozen (p := ⟨w.heap.size + 1, 3, none⟩) (by have := K0.sz; show w.heap.size + 1 < _; omega)).trans (K0.fr 3 (by omega))
        obtain ⟨r4, hr4⟩ := Option.isSome_iff_exists.1 (K0.r 4 (by omega))
        have s4 := up hR.bl hr4
        have t4 := (hR.bl.frozen (p := ⟨w.heap.size + 1, 4, none⟩) (by have := K0.sz; show w.heap.size + 1 < _; omega)).trans (K0.fr 4 (by omega))
        have HT : Hid (Ty.At wr (.mk k l h e gao gg 0 len gcap ts) ∧ Ty.Blk (fun b => w0.heap.size ≤ b) (.mk k l h e gao gg 0 len gcap ts)) := hTy k l h e
        have HB : Hid (Below w.heap.size w wr ∧ w0.heap.size = w.heap.size + 2) := ⟨K0.bl.trans (hR.bl.mono (by have := K0.bl.size; omega)), K0.sz⟩
        clear hR hTy K0 hA0 hr0 hr1 hr2 hr3 hr4
        go_wp2
        refine bodyPost_ret (v := .agg #[.int .i64 k, .int .i64 l, .slice gao len gcap, .int .i64 h, .int .i64 e]) (by simp [results, Tryz.results54, go_sem, s0, s1, s2, s3, s4]) rfl (CP.intro (.mk k l h e gao gg 0 len gcap ts) rfl ?_ (HT.out.2.mono (fun b hq => by have := HB.out.2; omega)) ((same_iff _ _).2 ⟨⟨rfl, rfl, rfl, rfl, rfl⟩, HS.out⟩) ?_)
        · refine Ty.At.agree (fun b hq => ?_) HT.out.1 HT.out.2
          have := HB.out.2
          rw [Below.heap_setCell _ _ _ _ (by show b ≠ w.heap.size + 1; omega), Below.heap_setCell _ _ _ _ (by show b ≠ w.heap.size + 1; omega), Below.heap_setCell _ _ _ _ (by show b ≠ w.heap.size + 1; omega), Below.heap_setCell _ _ _ _ (by show b ≠ w.heap.size + 1; omega), Below.heap_setCell _ _ _ _ (by show b ≠ w.heap.size + 1; omega), Below.heap_setCell _ _ _ _ (by show b ≠ w.heap.size; omega)]
        · exact (((((HB.out.1.setCell (Nat.le_refl _) _).setCell (Nat.le_succ _) _).setCell (Nat.le_succ _) _).setCell (Nat.le_succ _) _).setCell (Nat.le_succ _) _).setCell (Nat.le_succ _) _
end Go.Proofs.YtbdhbgilaeldgaaGreat

/- The law's own small lattice, and what is asked of it first; few. -/
namespace Go.Proofs.YtbdhbgilaeldgaaGreat
open Go.RowKit

theorem formed_gen {n : Strs} {ao : Option Addr} {gg len cap : Nat} {s : Nat → ByteArray} {R : Nat → Nat} {M : Nat → Nat → Bool} (h1 : n.len = len) (h2 : n.s = s) : formedB n (gridR ao gg len cap R M) = formedM len s M := by
  obtain ⟨ao, b, o, l, c, s'⟩ := n
  simp only at h1 h2
  subst h1 h2
  rfl
theorem grid_set_nil {g : Grid} {w : World} (h : g.At w) {a : Addr} (ha : w.cell? a = some (.slice none 0 0)) (hA : ∀ r, r < g.len → g.A r ≠ none) (v : Value) : g.At (w.setCell a v) where
  lc := h.lc
  nil := h.nil
  bound := h.bound
  lbound := h.lbound
  row := fun r hr => by
    have hc := h.row r hr
    rw [World.cell?_setCell_other _ _ _ _ (fun e => by rw [← e, ha] at hc; injection hc with hc; injection hc with h1 _ _; exact hA r hr h1.symm)]
    exact hc
  adr := h.adr
  cell := fun r hr c hc => by
    have hc := h.cell r hr c hc
    rw [World.cell?_setCell_other _ _ _ _ (fun e => by rw [← e, ha] at hc; cases hc)]
    exact hc
/-- The lattice of two. -/
structure Lt2 (n : Strs) (g : Grid) (w : World) : Prop where
  nat : n.At w
  gat : g.At w
  fd : formedB n g = true
  two : n.len = 2
  le : g.B 0 1 = true
  rows : ∀ r, r < g.len → g.A r ≠ none

theorem two_make (w : World) :
    Calls Tryz.prog 33 #[.slice (some ⟨w.heap.size, 0, none⟩) 2 2, .slice (some ⟨w.heap.size + 1, 0, none⟩) 1 1] ((w.alloc (.cells #[.string ⟨#[108, 111, 119]⟩, .string ⟨#[104, 105, 103, 104]⟩] 9)).alloc (.cells #[.int .i64 0, .int .i64 1] 74))
      fun e w' => ∃ (n : Strs) (g : Grid), e = .returned (.tuple #[.agg #[.slice n.ao n.len n.cap, .slice g.ao g.len g.cap], .int .i64 0]) ∧ Lt2 n g w' ∧ Below w.heap.size w w' := by
  refine (rmake_any (awkN w.heap.size) (awkP (w.heap.size + 1)) (awkW w) (awkN_at w) (awkP_at w) (Or.inr rfl)).mono ?_
  rintro e w1 ⟨er, n', g', rfl, hM, hb1⟩
  have h0 : er = 0 := hM.er.trans (awk_e _ _)
  subst h0
  obtain ⟨h1, h2, ao, gg, cap, R, rfl⟩ := hM.yes rfl
  refine ⟨n', _, rfl, ⟨hM.nat, hM.gat, ?_, h1, ?_, fun r _ => by simp [gridR]⟩, (awkW_below w).trans (hb1.mono (awkW_below w).size)⟩
  · rw [formed_gen h1 h2]
    have he := awk_e w.heap.size (w.heap.size + 1)
    unfold makeE at he
    split at he
    · cases he
    · split at he
      · cases he
      · split at he
        · cases he
        · rename_i h; simpa using h
  · show leastM (awkP (w.heap.size + 1)) 2 0 1 = true
    refine within_war 2 _ 2 0 1 (by omega) (by omega) ?_
    unfold prsM
    rw [Bool.or_eq_true, decide_eq_true_eq]
    exact Or.inr ⟨0, by show 0 < 1; omega, rfl, rfl⟩

/-- A type without Parts. -/
def leafT (k l : Int) : Ty := .mk k l 0 0 none 0 0 0 0 (fun _ => .dm)
theorem leaf_at (k l : Int) (w : World) : (leafT k l).At w := ⟨fun h => absurd h (Nat.lt_irrefl _), Nat.zero_le _, fun _ h => absurd h (Nat.not_lt_zero _)⟩
theorem leaf_ok (l : Int) (N : Nat) (h : inR N l = true) : (leafT 1 l).ok N = true := by
  unfold Ty.ok leafT
  rw [fm_eq, h]
  rfl
theorem two_bel {n : Strs} {g : Grid} {w : World} (h : Lt2 n g w) : belB n g (leafT 1 0) (leafT 1 1) = true := by
  unfold belB
  rw [h.fd, leaf_ok 0 _ (by rw [h.two]; rfl), leaf_ok 1 _ (by rw [h.two]; rfl)]
  show (((1 : Int) == 1) && g.B 0 1 && true) = true
  rw [h.le]; rfl

/-- What few answers. -/
def fewB (n : Strs) (g : Grid) (s t : Ty) : Bool := (smallB n g && decide (s.nodes ≤ 40)) && decide (t.nodes ≤ 40)

end Go.Proofs.YtbdhbgilaeldgaaGreat

/- Layer 2: a type stored. -/
namespace Go.Proofs.YtbdhbgilaeldgaaGreat
open Go.RowKit

/-- Five cells written. -/
def World.put5 (w : World) (B : Nat) (v0 v1 v2 v3 v4 : Value) : World := ((((w.setCell ⟨B, 0, none⟩ v0).setCell ⟨B, 1, none⟩ v1).setCell ⟨B, 2, none⟩ v2).setCell ⟨B, 3, none⟩ v3).setCell ⟨B, 4, none⟩ v4
theorem put5_heap (w : World) (B : Nat) (v0 v1 v2 v3 v4 : Value) {b : Nat} (h : b ≠ B) : (World.put5 w B v0 v1 v2 v3 v4).heap[b]? = w.heap[b]? := by
  unfold World.put5
  rw [Below.heap_setCell _ _ _ _ h, Below.heap_setCell _ _ _ _ h, Below.heap_setCell _ _ _ _ h, Below.heap_setCell _ _ _ _ h, Below.heap_setCell _ _ _ _ h]
theorem put5_below {w w1 : World} {B : Nat} (hB : w.heap.size ≤ B) (h : Below w.heap.size w w1) (v0 v1 v2 v3 v4 : Value) : Below w.heap.size w (World.put5 w1 B v0 v1 v2 v3 v4) :=
  ((((h.setCell hB _).setCell hB _).setCell hB _).setCell hB _).setCell hB _
theorem put5_frozen (w : World) (B : Nat) (v0 v1 v2 v3 v4 : Value) (a : Addr) : (World.put5 w B v0 v1 v2 v3 v4).frozen? a = w.frozen? a := by
  unfold World.put5
  rw [World.frozen?_setCell, World.frozen?_setCell, World.frozen?_setCell, World.frozen?_setCell, World.frozen?_setCell]
theorem put5_cells {w : World} {B : Nat} (v0 v1 v2 v3 v4 : Value) {t : Ty} (h : Bx w B t) (hf : ∀ i, i < 5 → w.frozen? ⟨B, i, none⟩ = false) : (World.put5 w B v0 v1 v2 v3 v4).cell? ⟨B, 0, none⟩ = some v0 ∧ (World.put5 w B v0 v1 v2 v3 v4).cell? ⟨B, 1, none⟩ = some v1 ∧ (World.put5 w B v0 v1 v2 v3 v4).cell? ⟨B, 2, none⟩ = some v2 ∧ (World.put5 w B v0 v1 v2 v3 v4).cell? ⟨B, 3, none⟩ = some v3 ∧ (World.put5 w B v0 v1 v2 v3 v4).cell? ⟨B, 4, none⟩ = some v4 := by
  have key := World.rangeAt_setCells_same w B 0 [v0, v1, v2, v3, v4] (fun j hj => ?_)
  · exact ⟨key 0 v0 rfl, key 1 v1 rfl, key 2 v2 rfl, key 3 v3 rfl, key 4 v4 rfl⟩
  · have hj' : j < 5 := hj
    rw [Nat.zero_add]
    refine ⟨?_, hf j hj'⟩
    match j, hj' with
    | 0, _ => rw [h.c0]; rfl
    | 1, _ => rw [h.c1]; rfl
    | 2, _ => rw [h.c2]; rfl
    | 3, _ => rw [h.c3]; rfl
    | 4, _ => rw [h.c4]; rfl
theorem wpList_store5 {w : World} {ops : Array Oper} {rest : List Oper} {o : Oper} {a : Act} {Q : Exit → Act → World → Prop} (hgd : o.guard = none) (hdst : o.dst = none) (p x : Operand) (ho : o.op = .store 38 p x) (B : Nat) (v0 v1 v2 v3 v4 : Value)
    (hp : a.eval p = .pointer (some ⟨B, 0, none⟩)) (hx : a.eval x = .agg #[v0, v1, v2, v3, v4]) (h0 : v0.oneCell' = true) (h1 : v1.oneCell' = true) (h2 : v2.oneCell' = true) (h3 : v3.oneCell' = true) (h4 : v4.oneCell' = true) {t : Ty} (hb : Bx w B t) (hf : ∀ i, i < 5 → w.frozen? ⟨B, i, none⟩ = false)
    (h : wpList Tryz.prog ops Q rest a (World.put5 w B v0 v1 v2 v3 v4)) : wpList Tryz.prog ops Q (o :: rest) a w := by
  refine wpList_store_mid hgd 38 p x ho B 0 #[v0, v1, v2, v3, v4] hp hx (fun j hj => ?_) (by kernel_rfl) (by simp [h0, h1, h2, h3, h4]) ?_
  · have hj' : j < 5 := hj
    rw [Nat.zero_add]
    refine ⟨?_, hf j hj'⟩
    match j, hj' with
    | 0, _ => rw [hb.c0]; rfl
    | 1, _ => rw [hb.c1]; rfl
    | 2, _ => rw [hb.c2]; rfl
    | 3, _ => rw [hb.c3]; rfl
    | 4, _ => rw [hb.c4]; rfl
  · rw [hdst]
    exact h
end Go.Proofs.YtbdhbgilaeldgaaGreat

/- Layer 2: Raise. -/
namespace Go.Proofs.YtbdhbgilaeldgaaGreat
open Go.RowKit

def Ty.setL (j : Int) : Ty → Ty
  | .dm => .dm
  | .mk k _ h e ao b o len cap ps => .mk k j h e ao b o len cap ps
theorem setL_at {w : World} {j : Int} : ∀ {t : Ty}, t.At w → (t.setL j).At w
  | .dm, h => h
  | .mk _ _ _ _ _ _ _ _ _ _, h => h
theorem setL_blk {Q : Nat → Prop} {j : Int} : ∀ {t : Ty}, t.Blk Q → (t.setL j).Blk Q
  | .dm, h => h
  | .mk _ _ _ _ _ _ _ _ _ _, h => h
theorem setL_v {w : World} {j : Int} : ∀ {t : Ty}, t.At w → (t.setL j).k = t.k ∧ (t.setL j).l = j ∧ (t.setL j).ao = t.ao ∧ (t.setL j).len = t.len ∧ (t.setL j).cap = t.cap ∧ (t.setL j).h = t.h ∧ (t.setL j).e = t.e
  | .dm, h => h.elim
  | .mk _ _ _ _ _ _ _ _ _ _, _ => ⟨rfl, rfl, rfl, rfl, rfl, rfl, rfl⟩
theorem setL_same {w w' : World} {j : Int} : ∀ {s t : Ty}, s.At w → t.At w' → s.same t = true → (s.setL j).same (t.setL j) = true
  | .dm, _, h, _, _ => h.elim
  | .mk _ _ _ _ _ _ _ _ _ _, .dm, _, h, _ => h.elim
  | .mk _ _ _ _ _ _ _ _ _ _, .mk _ _ _ _ _ _ _ _ _ _, _, _, h => by
    rw [same_iff] at h ⊢
    exact ⟨⟨h.1.1, rfl, h.1.2.2⟩, h.2⟩

theorem Bx.agree {w w' : World} {B : Nat} {t : Ty} (h : Bx w B t) (e : w'.heap[B]? = w.heap[B]?) : Bx w' B t :=
  ⟨(World.cell?_of_block (w := w) e).trans h.c0, (World.cell?_of_block (w := w) e).trans h.c1, (World.cell?_of_block (w := w) e).trans h.c2, (World.cell?_of_block (w := w) e).trans h.c3, (World.cell?_of_block (w := w) e).trans h.c4⟩

/-- What Raise answers, but for where it lies. -/
def raiseT (n : Strs) (g : Grid) (t : Ty) (a : Int) : Ty := if (okB n g t && inR n.len a) = true then t.setL (joinI n g t.l a) else leafT 0 0
def RP (w : World) (r : Ty) (e : Ending) (w' : World) : Prop :=
  ∃ u : Ty, e = .returned (.agg #[.int .i64 u.k, .int .i64 u.l, .slice u.ao u.len u.cap, .int .i64 u.h, .int .i64 u.e]) ∧ u.At w' ∧ u.Blk (fun b => w.heap.size ≤ b) ∧ u.same r = true ∧ Below w.heap.size w w'
theorem RP.intro {w : World} {r : Ty} {e : Ending} {w' : World} (u : Ty) (h1 : e = .returned (.agg #[.int .i64 u.k, .int .i64 u.l, .slice u.ao u.len u.cap, .int .i64 u.h, .int .i64 u.e])) (h2 : u.At w') (h3 : u.Blk (fun b => w.heap.size ≤ b)) (h4 : u.same r = true) (h5 : Below w.heap.size w w') : RP w r e w' := ⟨u, h1, h2, h3, h4, h5⟩

structure RBox (w w0 : World) (n : Strs) (g : Grid) (t : Ty) : Prop where
  bl : Below w.heap.size w w0
  sz : w.heap.size + 3 ≤ w0.heap.size
  l : Bl w0 w.heap.size n g
  x : Bx w0 (w.heap.size + 1) t
  fx : ∀ i, i < 5 → w0.frozen? ⟨w.heap.size + 1, i, none⟩ = false
  r : Bx w0 (w.heap.size + 2) (leafT 0 0)
  fr : ∀ i, i < 5 → w0.frozen? ⟨w.heap.size + 2, i, none⟩ = false
theorem RBox.step {w w0 w1 : World} {n : Strs} {g : Grid} {t : Ty} (h : RBox w w0 n g t) (hb : Below w0.heap.size w0 w1) : RBox w w1 n g t :=
  ⟨h.bl.trans (hb.mono (by have := h.sz; omega)), Nat.le_trans h.sz hb.size, h.l.kept hb, h.x.kept hb, fun i hi => (hb.frozen (p := ⟨w.heap.size + 1, i, none⟩) (by have := h.sz; show w.heap.size + 1 < _; omega)).trans (h.fx i hi), h.r.kept hb, fun i hi => (hb.frozen (p := ⟨w.heap.size + 2, i, none⟩) (by have := h.sz; show w.heap.size + 2 < _; omega)).trans (h.fr i hi)⟩
theorem frozen_new (w : World) (c : Array Value) (t : TypeId) (i : Nat) : (w.alloc (.cells c t)).frozen? ⟨w.heap.size, i, none⟩ = false := by simp
theorem rbox_new (w : World) (n : Strs) (g : Grid) (t : Ty) : RBox w (((w.alloc (latO n g)).alloc (tyO t)).alloc (.cells #[.int .i64 0, .int .i64 0, .slice none 0 0, .int .i64 0, .int .i64 0] 38)) n g t := by
  obtain ⟨L0, X0, B0⟩ := start_lt w n g t
  have ba := below_alloc ((w.alloc (latO n g)).alloc (tyO t)) (.cells #[.int .i64 0, .int .i64 0, .slice none 0 0, .int .i64 0, .int .i64 0] 38)
  have e1 : (w.alloc (latO n g)).heap.size = w.heap.size + 1 := alloc_size _ _
  have e2 : ((w.alloc (latO n g)).alloc (tyO t)).heap.size = w.heap.size + 2 := by rw [alloc_size, e1]
  refine ⟨Below.next B0 ba, by rw [alloc_size, e2]; omega, L0.kept ba, X0.kept ba, fun i hi => ?_, ?_, fun i hi => ?_⟩
  · rw [ba.frozen (p := ⟨w.heap.size + 1, i, none⟩) (by rw [e2]; exact Nat.lt_succ_self _), ← e1]
    simp [tyO]
  · rw [← e2]
    exact Bx.new _ (leafT 0 0)
  · rw [← e2]
    exact frozen_new _ _ _ _

theorem joinI_no {n : Strs} {g : Grid} {a b : Int} (h : inR n.len b = false) : joinI n g a b = -1 := by
  unfold joinI
  rw [if_neg]
  intro hh
  rw [Bool.and_eq_true, Bool.and_eq_true] at hh
  have : labB n b = inR n.len b := rfl
  rw [this, h] at hh
  exact Bool.noConfusion hh.1.2
theorem joinI_yes {n : Strs} {g : Grid} {t : Ty} {b : Int} (hk : okB n g t = true) (h : inR n.len b = true) : (joinI n g t.l b == -1) = false := by
  unfold okB at hk
  rw [Bool.and_eq_true] at hk
  obtain ⟨x, hx, hx1⟩ := (fd_ok hk.2).lab
  obtain ⟨y, hy, hy1⟩ := inR_nat h
  rw [hx, hy, joinI_nat hk.1 hx1 hy1]
  simp

set_option maxRecDepth 100000 in
set_option maxHeartbeats 4000000 in
theorem Raise_any (n : Strs) (g : Grid) (t : Ty) (a : Int) (w : World) (hn : n.At w) (hg : g.At w) (ht : t.At w) :
    Calls Tryz.prog 28 #[.agg #[.slice n.ao n.len n.cap, .slice g.ao g.len g.cap], .agg #[.int .i64 t.k, .int .i64 t.l, .slice t.ao t.len t.cap, .int .i64 t.h, .int .i64 t.e], .int .i64 a] w fun e w' => RP w (raiseT n g t a) e w' := by
  have K0 := rbox_new w n g t
  unfold latO tyO at K0
  have l0 := K0.l.c0
  have l1 := K0.l.c1
  have x1 := K0.x.c1
  go_enter Tryz.func28, Tryz.ntmps28
  go_wp2_with fail
  refine (Join_any n g t.l a _ (hn.kept K0.bl) (hg.kept K0.bl)).mono ?_
  rintro e w1 ⟨rfl, hb1⟩
  have K1 := K0.step hb1
  clear K0 hb1 l0 l1 x1
  have HN : Hid (n.At w ∧ g.At w ∧ t.At w) := ⟨hn, hg, ht⟩
  clear hn hg ht
  cases hj : (joinI n g t.l a == -1)
  · have HJ : Hid ((joinI n g t.l a == -1) = false) := hj
    have l0 := K1.l.c0
    have l1 := K1.l.c1
    have x0 := K1.x.c0
    have x1 := K1.x.c1
    have x2 := K1.x.c2
    have x3 := K1.x.c3
    have x4 := K1.x.c4
    go_wp2_with fail
    refine (Formed2_any n g t _ (HN.out.1.kept K1.bl) (HN.out.2.1.kept K1.bl) (HN.out.2.2.kept K1.bl)).mono ?_
    rintro e w2 ⟨rfl, hb2⟩
    have K2 := K1.step hb2
    clear K1 hb2 l0 l1 x0 x1 x2 x3 x4
    cases hok : okB n g t
    · have HE : Hid (raiseT n g t a = leafT 0 0) := by show raiseT n g t a = _; unfold raiseT; rw [hok]; rfl
      clear hj
      have RB := K2.r
      have RF := K2.fr
      obtain ⟨e0, e1, e2, e3, e4⟩ := put5_cells (.int .i64 0) (.int .i64 0) (.slice none 0 0) (.int .i64 0) (.int .i64 0) RB RF
      go_wp2_with (refine wpList_store5 rfl rfl _ _ rfl (w.heap.size + 2) _ _ _ _ _ rfl rfl rfl rfl rfl rfl rfl RB RF ?_)
      exact bodyPost_ret (v := .agg #[.int .i64 0, .int .i64 0, .slice none 0 0, .int .i64 0, .int .i64 0]) (by simp [results, Tryz.results28, go_sem, e0, e1, e2, e3, e4]) rfl (RP.intro (leafT 0 0) rfl (leaf_at _ _ _) ⟨fun h => absurd h (Nat.lt_irrefl _), fun _ h => absurd h (Nat.not_lt_zero _)⟩ (by rw [HE.out]; exact same_refl _) (put5_below (by omega) K2.bl _ _ _ _ _))
    · have HK : Hid (okB n g t = true) := hok
      have HE : Hid (raiseT n g t a = t.setL (joinI n g t.l a)) := by
        show raiseT n g t a = _
        unfold raiseT
        cases hi : inR n.len a
        · rw [joinI_no hi] at hj; cases hj
        · rw [hok]; rfl
      have hnod : t.nodes ≤ 1000 := by
        unfold okB at hok
        rw [Bool.and_eq_true] at hok
        have := (ok_parts hok.2).2
        omega
      have hC := clone2_any t w2 hnod (HN.out.2.2.kept K2.bl)
      clear hj hok hnod
      generalize joinI n g t.l a = jn at HE HJ ⊢
      have x0 := K2.x.c0
      have x1 := K2.x.c1
      have x2 := K2.x.c2
      have x3 := K2.x.c3
      have x4 := K2.x.c4
      go_wp2_with fail
      refine hC.mono ?_
      intro e w3 hCP
      obtain ⟨u, rfl, uA, uB, uS, hb3⟩ := hCP
      have K3 := K2.step hb3
      have HU : Hid (u.At w3 ∧ u.Blk (fun b => w.heap.size + 3 ≤ b) ∧ u.same t = true) := ⟨uA, uB.mono (fun b hq => Nat.le_trans K2.sz hq), uS⟩
      clear hC K2 hb3 uA uB uS x0 x1 x2 x3 x4
      dsimp only
      rename_i K a1
      refine a1 _ _ ?_
      refine wpList_store5 rfl rfl _ _ rfl (w.heap.size + 1) _ _ _ _ _ rfl rfl rfl rfl rfl rfl rfl K3.x K3.fx ?_
      obtain ⟨p0, p1, p2, p3, p4⟩ := put5_cells (.int .i64 u.k) (.int .i64 u.l) (.slice u.ao u.len u.cap) (.int .i64 u.h) (.int .i64 u.e) K3.x K3.fx
      have pf : ∀ a, (World.put5 w3 (w.heap.size + 1) (.int .i64 u.k) (.int .i64 u.l) (.slice u.ao u.len u.cap) (.int .i64 u.h) (.int .i64 u.e)).frozen? a = w3.frozen? a := fun a => put5_frozen _ _ _ _ _ _ _ _
      have ph : ∀ b, b ≠ w.heap.size + 1 → (World.put5 w3 (w.heap.size + 1) (.int .i64 u.k) (.int .i64 u.l) (.slice u.ao u.len u.cap) (.int .i64 u.h) (.int .i64 u.e)).heap[b]? = w3.heap[b]? := fun b hb => put5_heap _ _ _ _ _ _ _ hb
      have pb : Below w.heap.size w (World.put5 w3 (w.heap.size + 1) (.int .i64 u.k) (.int .i64 u.l) (.slice u.ao u.len u.cap) (.int .i64 u.h) (.int .i64 u.e)) := put5_below (by omega) K3.bl _ _ _ _ _
      generalize World.put5 w3 (w.heap.size + 1) (.int .i64 u.k) (.int .i64 u.l) (.slice u.ao u.len u.cap) (.int .i64 u.h) (.int .i64 u.e) = X at p0 p1 p2 p3 p4 pf ph pb ⊢
      have hz : (X.setCell ⟨w.heap.size + 1, 1, none⟩ (.int .i64 jn)).heap[w.heap.size + 2]? = w3.heap[w.heap.size + 2]? := by
        rw [Below.heap_setCell _ _ _ _ (by show w.heap.size + 2 ≠ w.heap.size + 1; omega), ph _ (by omega)]
      have RB : Bx (X.setCell ⟨w.heap.size + 1, 1, none⟩ (.int .i64 jn)) (w.heap.size + 2) (leafT 0 0) := K3.r.agree hz
      have RF : ∀ i, i < 5 → (X.setCell ⟨w.heap.size + 1, 1, none⟩ (.int .i64 jn)).frozen? ⟨w.heap.size + 2, i, none⟩ = false := fun i hi => by rw [World.frozen?_setCell, pf]; exact K3.fr i hi
      have HB : Hid (Below w.heap.size w (World.put5 (X.setCell ⟨w.heap.size + 1, 1, none⟩ (.int .i64 jn)) (w.heap.size + 2) (.int .i64 u.k) (.int .i64 jn) (.slice u.ao u.len u.cap) (.int .i64 u.h) (.int .i64 u.e))) := put5_below (by omega) (pb.setCell (by show w.heap.size ≤ w.heap.size + 1; omega) _) _ _ _ _ _
      have HA : Hid ((u.setL jn).At (World.put5 (X.setCell ⟨w.heap.size + 1, 1, none⟩ (.int .i64 jn)) (w.heap.size + 2) (.int .i64 u.k) (.int .i64 jn) (.slice u.ao u.len u.cap) (.int .i64 u.h) (.int .i64 u.e))) :=
        setL_at (Ty.At.agree (Q := fun b => w.heap.size + 3 ≤ b) (fun b hq => by rw [put5_heap _ _ _ _ _ _ _ (by omega), Below.heap_setCell _ _ _ _ (by show b ≠ w.heap.size + 1; omega), ph _ (by omega)]) HU.out.1 HU.out.2.1)
      have pf1 : X.frozen? ⟨w.heap.size + 1, 1, none⟩ = false := (pf _).trans (K3.fx 1 (by omega))
      have HR : Hid (Bx (X.setCell ⟨w.heap.size + 1, 1, none⟩ (.int .i64 jn)) (w.heap.size + 2) (leafT 0 0) ∧ ∀ i, i < 5 → (X.setCell ⟨w.heap.size + 1, 1, none⟩ (.int .i64 jn)).frozen? ⟨w.heap.size + 2, i, none⟩ = false) := ⟨RB, RF⟩
      clear hz K3 pf ph pb RB RF
      go_wp2_with (refine wpList_store5 rfl rfl _ _ rfl (w.heap.size + 2) _ _ _ _ _ rfl rfl rfl rfl rfl rfl rfl HR.out.1 HR.out.2 ?_)
      obtain ⟨e0, e1, e2, e3, e4⟩ := put5_cells (.int .i64 u.k) (.int .i64 jn) (.slice u.ao u.len u.cap) (.int .i64 u.h) (.int .i64 u.e) HR.out.1 HR.out.2
      have hv := setL_v (j := jn) HU.out.1
      exact bodyPost_ret (v := .agg #[.int .i64 u.k, .int .i64 jn, .slice u.ao u.len u.cap, .int .i64 u.h, .int .i64 u.e]) (by simp [results, Tryz.results28, go_sem, e0, e1, e2, e3, e4]) rfl (RP.intro (u.setL jn) (by rw [hv.1, hv.2.1, hv.2.2.1, hv.2.2.2.1, hv.2.2.2.2.1, hv.2.2.2.2.2.1, hv.2.2.2.2.2.2]) HA.out (setL_blk (HU.out.2.1.mono (fun b hq => by omega))) (by rw [HE.out]; exact setL_same HU.out.1 HN.out.2.2 HU.out.2.2) HB.out)
  · have HE : Hid (raiseT n g t a = leafT 0 0) := by
      show raiseT n g t a = _
      unfold raiseT
      cases hok : (okB n g t && inR n.len a)
      · rfl
      · rw [Bool.and_eq_true] at hok
        rw [joinI_yes hok.1 hok.2] at hj; cases hj
    have RB := K1.r
    have RF := K1.fr
    obtain ⟨e0, e1, e2, e3, e4⟩ := put5_cells (.int .i64 0) (.int .i64 0) (.slice none 0 0) (.int .i64 0) (.int .i64 0) RB RF
    go_wp2_with (refine wpList_store5 rfl rfl _ _ rfl (w.heap.size + 2) _ _ _ _ _ rfl rfl rfl rfl rfl rfl rfl RB RF ?_)
    exact bodyPost_ret (v := .agg #[.int .i64 0, .int .i64 0, .slice none 0 0, .int .i64 0, .int .i64 0]) (by simp [results, Tryz.results28, go_sem, e0, e1, e2, e3, e4]) rfl (RP.intro (leafT 0 0) rfl (leaf_at _ _ _) ⟨fun h => absurd h (Nat.lt_irrefl _), fun _ h => absurd h (Nat.not_lt_zero _)⟩ (by rw [HE.out]; exact same_refl _) (put5_below (by omega) K1.bl _ _ _ _ _))
end Go.Proofs.YtbdhbgilaeldgaaGreat

/- Layer 2: what follows of Raise. No program is walked here. -/
namespace Go.Proofs.YtbdhbgilaeldgaaGreat

theorem same_symm : ∀ s t : Ty, s.same t = true → t.same s = true := by
  intro s
  induction s with
  | dm =>
    intro t h
    rw [same_iff] at h ⊢
    exact ⟨⟨h.1.1.symm, h.1.2.1.symm, h.1.2.2.1.symm, h.1.2.2.2.1.symm, h.1.2.2.2.2.symm⟩, fun i hi => absurd hi (by rw [← h.1.2.2.2.2]; exact Nat.not_lt_zero _)⟩
  | mk k l hh e ao b o len cap ps ih =>
    intro t h
    rw [same_iff] at h ⊢
    exact ⟨⟨h.1.1.symm, h.1.2.1.symm, h.1.2.2.1.symm, h.1.2.2.2.1.symm, h.1.2.2.2.2.symm⟩, fun i hi => ih i (t.ps i) (h.2 i (by rw [h.1.2.2.2.2]; exact hi))⟩

theorem sum_congr {f h : Nat → Nat} : ∀ k, (∀ i, i < k → f i = h i) → sumTo f k = sumTo h k
  | 0, _ => rfl
  | k + 1, e => by
    show sumTo f k + f k = sumTo h k + h k
    rw [sum_congr k (fun i hi => e i (by omega)), e k (by omega)]

/-- What lies alike is formed alike. -/
theorem same_fm {N : Nat} {w w' : World} : ∀ s t : Ty, s.At w → t.At w' → s.same t = true → (∀ d, s.fm N d = t.fm N d) ∧ s.nodes = t.nodes := by
  intro s
  induction s with
  | dm => intro t h; exact h.elim
  | mk k l hh e ao b o len cap ps ih =>
    intro t hs ht h
    rcases t with _ | ⟨tk, tl, th, te, tao, tb, to', tlen, tcap, tps⟩
    · exact ht.elim
    rw [same_iff] at h
    obtain ⟨⟨h1, h2, h3, h4, h5⟩, h6⟩ := h
    have h1' : k = tk := h1
    have h2' : l = tl := h2
    have h3' : hh = th := h3
    have h4' : e = te := h4
    have h5' : len = tlen := h5
    subst h1' h2' h3' h4' h5'
    have sub : ∀ i, i < len → (∀ d, (ps i).fm N d = (tps i).fm N d) ∧ (ps i).nodes = (tps i).nodes := fun i hi => ih i (tps i) (hs.part (i := i) hi) (ht.part (i := i) hi) (h6 i hi)
    refine ⟨fun d => ?_, ?_⟩
    · rw [fm_eq, fm_eq]
      congr 1
      rw [decide_eq_decide]
      exact ⟨fun hh i hi => by rw [← (sub i hi).1]; exact hh i hi, fun hh i hi => by rw [(sub i hi).1]; exact hh i hi⟩
    · show 1 + sumTo (fun i => (ps i).nodes) len = 1 + sumTo (fun i => (tps i).nodes) len
      rw [sum_congr len (fun i hi => (sub i hi).2)]
theorem same_ok {N : Nat} {w w' : World} {s t : Ty} (hs : s.At w) (ht : t.At w') (h : s.same t = true) : s.ok N = t.ok N := by
  unfold Ty.ok
  rw [(same_fm (N := N) s t hs ht h).1, (same_fm (N := N) s t hs ht h).2]

theorem same_bel {N : Nat} {le : Nat → Nat → Bool} (P : Po N le) : ∀ s t : Ty, Fd N s → Fd N t → s.same t = true → s.bel le true t = true ∧ t.bel le true s = true := by
  intro s
  induction s with
  | dm => intro t hs; exact absurd rfl hs.ne
  | mk k l hh e ao b o len cap ps ih =>
    intro t hs ht h
    rw [same_iff] at h
    obtain ⟨⟨h1, h2, h3, h4, h5⟩, h6⟩ := h
    have sub : ∀ i, i < (Ty.mk k l hh e ao b o len cap ps).len → (ps i).bel le true (t.ps i) = true ∧ (t.ps i).bel le true (ps i) = true := fun i hi => ih i (t.ps i) (hs.sub (i := i) hi) (ht.sub (by omega)) (h6 i hi)
    obtain ⟨x, hx, hx1⟩ := hs.lab
    have two : (Ty.mk k l hh e ao b o len cap ps).k = 3 ∨ (Ty.mk k l hh e ao b o len cap ps).k = 4 → ∀ i, i < 2 → i < (Ty.mk k l hh e ao b o len cap ps).len := fun h34 i hi => by rw [hs.two h34]; exact hi
    rw [bel_iff hs ht, bel_iff ht hs]
    constructor
    · refine ⟨h1, by rw [← h2, hx, Int.toNat_natCast]; exact P.refl x hx1, fun h3' => ⟨(sub 0 (two (Or.inl h3') 0 (by omega))).1, (sub 1 (two (Or.inl h3') 1 (by omega))).1⟩, fun h4' => ⟨⟨(sub 0 (two (Or.inr h4') 0 (by omega))).2, (sub 1 (two (Or.inr h4') 1 (by omega))).1⟩, ?_, ?_⟩, fun h5' => h6 0 (by rw [hs.one h5']; omega)⟩
      · obtain ⟨y, hy, hy1⟩ := hs.heap h4'
        rw [← h3, hy, Int.toNat_natCast]; exact P.refl y hy1
      · rw [← h4]; exact exc_refl P (hs.exc h4')
    · refine ⟨h1.symm, by rw [← h2, hx, Int.toNat_natCast]; exact P.refl x hx1, fun h3' => ?_, fun h4' => ?_, fun h5' => ?_⟩
      · have q : (Ty.mk k l hh e ao b o len cap ps).k = 3 := h1.trans h3'
        exact ⟨(sub 0 (two (Or.inl q) 0 (by omega))).2, (sub 1 (two (Or.inl q) 1 (by omega))).2⟩
      · have q : (Ty.mk k l hh e ao b o len cap ps).k = 4 := h1.trans h4'
        refine ⟨⟨(sub 0 (two (Or.inr q) 0 (by omega))).1, (sub 1 (two (Or.inr q) 1 (by omega))).2⟩, ?_, ?_⟩
        · obtain ⟨y, hy, hy1⟩ := hs.heap q
          rw [← h3, hy, Int.toNat_natCast]; exact P.refl y hy1
        · rw [← h4]; exact exc_refl P (hs.exc q)
      · have q : (Ty.mk k l hh e ao b o len cap ps).k = 5 := h1.trans h5'
        exact same_symm _ _ (h6 0 (by rw [hs.one q]; omega))

theorem setL_fm {N d : Nat} {j : Int} (hj : inR N j = true) : ∀ {t : Ty}, t.fm N d = true → (t.setL j).fm N d = true
  | .dm, h => h
  | .mk k l hh e ao b o len cap ps, h => by
    show Ty.fm N (.mk k j hh e ao b o len cap ps) d = true
    rw [fm_eq] at h ⊢
    simp only [Bool.and_eq_true] at h ⊢
    exact ⟨⟨⟨h.1.1.1, hj⟩, h.1.2⟩, h.2⟩
theorem setL_nodes {j : Int} : ∀ t : Ty, (t.setL j).nodes = t.nodes
  | .dm => rfl
  | .mk _ _ _ _ _ _ _ _ _ _ => rfl
theorem setL_ok {N : Nat} {j : Int} {t : Ty} (h : t.ok N = true) (hj : inR N j = true) : (t.setL j).ok N = true := by
  have := ok_parts h
  unfold Ty.ok
  rw [setL_fm hj this.1, setL_nodes, decide_eq_true this.2]; rfl
theorem setL_self : ∀ t : Ty, t.setL t.l = t
  | .dm => rfl
  | .mk _ _ _ _ _ _ _ _ _ _ => rfl
theorem setL_bel {N : Nat} {le : Nat → Nat → Bool} (P : Po N le) {t : Ty} (ht : t.ok N = true) {i j : Nat} (hi : i < N) (hj : j < N) (h : le i j = true) : (t.setL i).bel le true (t.setL j) = true := by
  have r1 : inR N (i : Int) = true := by unfold inR; simp; omega
  have r2 : inR N (j : Int) = true := by unfold inR; simp; omega
  have F1 := fd_ok (setL_ok ht r1)
  have F2 := fd_ok (setL_ok ht r2)
  have F := fd_ok ht
  rw [bel_iff F1 F2]
  rcases t with _ | ⟨k, l, hh, e, ao, b, o, len, cap, ps⟩
  · exact absurd rfl F.ne
  have sub : ∀ q, q < 2 → k = 3 ∨ k = 4 → (ps q).bel le true (ps q) = true := fun q hq h34 => bel_refl P _ (F.sub (i := q) (by rw [F.two h34]; omega))
  refine ⟨rfl, by show le (i : Int).toNat (j : Int).toNat = true; rw [Int.toNat_natCast, Int.toNat_natCast]; exact h, fun h3 => ⟨sub 0 (by omega) (Or.inl h3), sub 1 (by omega) (Or.inl h3)⟩, fun h4 => ⟨⟨sub 0 (by omega) (Or.inr h4), sub 1 (by omega) (Or.inr h4)⟩, ?_, exc_refl P (F.exc h4)⟩, fun _ => same_refl _⟩
  obtain ⟨y, hy, hy1⟩ := F.heap h4
  show le hh.toNat hh.toNat = true
  have hy' : hh = y := hy
  rw [hy', Int.toNat_natCast]; exact P.refl y hy1
end Go.Proofs.YtbdhbgilaeldgaaGreat
