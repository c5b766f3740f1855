/- Layer 2: Raise. -/
import Derived.Test.YtgbillimanpmnaaTyStore
namespace Go.Proofs.Ytgbillimanpmnaa
open Go.RowKit

def Ty.setL (j : Int) : Ty → Ty
  | .dm => .dm
  | .mk k _ h e ao b o len cap ps => .mk k j h e ao b o len cap ps
theorem setL_at {w : World} {j : Int} : ∀ {t : Ty}, t.At w → (t.setL j).At w
  | .dm, h => h
  | .mk _ _ _ _ _ _ _ _ _ _, h => h
theorem setL_blk {Q : Nat → Prop} {j : Int} : ∀ {t : Ty}, t.Blk Q → (t.setL j).Blk Q
  | .dm, h => h
  | .mk _ _ _ _ _ _ _ _ _ _, h => h
theorem setL_v {w : World} {j : Int} : ∀ {t : Ty}, t.At w → (t.setL j).k = t.k ∧ (t.setL j).l = j ∧ (t.setL j).ao = t.ao ∧ (t.setL j).len = t.len ∧ (t.setL j).cap = t.cap ∧ (t.setL j).h = t.h ∧ (t.setL j).e = t.e
  | .dm, h => h.elim
  | .mk _ _ _ _ _ _ _ _ _ _, _ => ⟨rfl, rfl, rfl, rfl, rfl, rfl, rfl⟩
theorem setL_same {w w' : World} {j : Int} : ∀ {s t : Ty}, s.At w → t.At w' → s.same t = true → (s.setL j).same (t.setL j) = true
  | .dm, _, h, _, _ => h.elim
  | .mk _ _ _ _ _ _ _ _ _ _, .dm, _, h, _ => h.elim
  | .mk _ _ _ _ _ _ _ _ _ _, .mk _ _ _ _ _ _ _ _ _ _, _, _, h => by
    rw [same_iff] at h ⊢
    exact ⟨⟨h.1.1, rfl, h.1.2.2⟩, h.2⟩

theorem Bx.agree {w w' : World} {B : Nat} {t : Ty} (h : Bx w B t) (e : w'.heap[B]? = w.heap[B]?) : Bx w' B t :=
  ⟨(World.cell?_of_block (w := w) e).trans h.c0, (World.cell?_of_block (w := w) e).trans h.c1, (World.cell?_of_block (w := w) e).trans h.c2, (World.cell?_of_block (w := w) e).trans h.c3, (World.cell?_of_block (w := w) e).trans h.c4⟩

/-- What Raise answers, but for where it lies. -/
def raiseT (n : Strs) (g : Grid) (t : Ty) (a : Int) : Ty := if (okB n g t && inR n.len a) = true then t.setL (joinI n g t.l a) else leafT 0 0
def RP (w : World) (r : Ty) (e : Ending) (w' : World) : Prop :=
  ∃ u : Ty, e = .returned (.agg #[.int .i64 u.k, .int .i64 u.l, .slice u.ao u.len u.cap, .int .i64 u.h, .int .i64 u.e]) ∧ u.At w' ∧ u.Blk (fun b => w.heap.size ≤ b) ∧ u.same r = true ∧ Below w.heap.size w w'
theorem RP.intro {w : World} {r : Ty} {e : Ending} {w' : World} (u : Ty) (h1 : e = .returned (.agg #[.int .i64 u.k, .int .i64 u.l, .slice u.ao u.len u.cap, .int .i64 u.h, .int .i64 u.e])) (h2 : u.At w') (h3 : u.Blk (fun b => w.heap.size ≤ b)) (h4 : u.same r = true) (h5 : Below w.heap.size w w') : RP w r e w' := ⟨u, h1, h2, h3, h4, h5⟩

structure RBox (w w0 : World) (n : Strs) (g : Grid) (t : Ty) : Prop where
  bl : Below w.heap.size w w0
  sz : w.heap.size + 3 ≤ w0.heap.size
  l : Bl w0 w.heap.size n g
  x : Bx w0 (w.heap.size + 1) t
  fx : ∀ i, i < 5 → w0.frozen? ⟨w.heap.size + 1, i, none⟩ = false
  r : Bx w0 (w.heap.size + 2) (leafT 0 0)
  fr : ∀ i, i < 5 → w0.frozen? ⟨w.heap.size + 2, i, none⟩ = false
theorem RBox.step {w w0 w1 : World} {n : Strs} {g : Grid} {t : Ty} (h : RBox w w0 n g t) (hb : Below w0.heap.size w0 w1) : RBox w w1 n g t :=
  ⟨h.bl.trans (hb.mono (by have := h.sz; omega)), Nat.le_trans h.sz hb.size, h.l.kept hb, h.x.kept hb, fun i hi => (hb.frozen (p := ⟨w.heap.size + 1, i, none⟩) (by have := h.sz; show w.heap.size + 1 < _; omega)).trans (h.fx i hi), h.r.kept hb, fun i hi => (hb.frozen (p := ⟨w.heap.size + 2, i, none⟩) (by have := h.sz; show w.heap.size + 2 < _; omega)).trans (h.fr i hi)⟩
theorem frozen_new (w : World) (c : Array Value) (t : TypeId) (i : Nat) : (w.alloc (.cells c t)).frozen? ⟨w.heap.size, i, none⟩ = false := by simp
theorem rbox_new (w : World) (n : Strs) (g : Grid) (t : Ty) : RBox w (((w.alloc (latO n g)).alloc (tyO t)).alloc (.cells #[.int .i64 0, .int .i64 0, .slice none 0 0, .int .i64 0, .int .i64 0] 28)) n g t := by
  obtain ⟨L0, X0, B0⟩ := start_lt w n g t
  have ba := below_alloc ((w.alloc (latO n g)).alloc (tyO t)) (.cells #[.int .i64 0, .int .i64 0, .slice none 0 0, .int .i64 0, .int .i64 0] 28)
  have e1 : (w.alloc (latO n g)).heap.size = w.heap.size + 1 := alloc_size _ _
  have e2 : ((w.alloc (latO n g)).alloc (tyO t)).heap.size = w.heap.size + 2 := by rw [alloc_size, e1]
  refine ⟨Below.next B0 ba, by rw [alloc_size, e2]; omega, L0.kept ba, X0.kept ba, fun i hi => ?_, ?_, fun i hi => ?_⟩
  · rw [ba.frozen (p := ⟨w.heap.size + 1, i, none⟩) (by rw [e2]; exact Nat.lt_succ_self _), ← e1]
    simp [tyO]
  · rw [← e2]
    exact Bx.new _ (leafT 0 0)
  · rw [← e2]
    exact frozen_new _ _ _ _

theorem joinI_no {n : Strs} {g : Grid} {a b : Int} (h : inR n.len b = false) : joinI n g a b = -1 := by
  unfold joinI
  rw [if_neg]
  intro hh
  rw [Bool.and_eq_true, Bool.and_eq_true] at hh
  have : labB n b = inR n.len b := rfl
  rw [this, h] at hh
  exact Bool.noConfusion hh.1.2
theorem joinI_yes {n : Strs} {g : Grid} {t : Ty} {b : Int} (hk : okB n g t = true) (h : inR n.len b = true) : (joinI n g t.l b == -1) = false := by
  unfold okB at hk
  rw [Bool.and_eq_true] at hk
  obtain ⟨x, hx, hx1⟩ := (fd_ok hk.2).lab
  obtain ⟨y, hy, hy1⟩ := inR_nat h
  rw [hx, hy, joinI_nat hk.1 hx1 hy1]
  simp

set_option maxRecDepth 100000 in
set_option maxHeartbeats 4000000 in
theorem Raise_any (n : Strs) (g : Grid) (t : Ty) (a : Int) (w : World) (hn : n.At w) (hg : g.At w) (ht : t.At w) :
    Calls Try.prog 25 #[.agg #[.slice n.ao n.len n.cap, .slice g.ao g.len g.cap], .agg #[.int .i64 t.k, .int .i64 t.l, .slice t.ao t.len t.cap, .int .i64 t.h, .int .i64 t.e], .int .i64 a] w fun e w' => RP w (raiseT n g t a) e w' := by
  have K0 := rbox_new w n g t
  unfold latO tyO at K0
  have l0 := K0.l.c0
  have l1 := K0.l.c1
  have x1 := K0.x.c1
  go_enter Try.func25, Try.ntmps25
  go_wp2_with fail
  refine (Join_any n g t.l a _ (hn.kept K0.bl) (hg.kept K0.bl)).mono ?_
  rintro e w1 ⟨rfl, hb1⟩
  have K1 := K0.step hb1
  clear K0 hb1 l0 l1 x1
  have HN : Hid (n.At w ∧ g.At w ∧ t.At w) := ⟨hn, hg, ht⟩
  clear hn hg ht
  cases hj : (joinI n g t.l a == -1)
  · have HJ : Hid ((joinI n g t.l a == -1) = false) := hj
    have l0 := K1.l.c0
    have l1 := K1.l.c1
    have x0 := K1.x.c0
    have x1 := K1.x.c1
    have x2 := K1.x.c2
    have x3 := K1.x.c3
    have x4 := K1.x.c4
    go_wp2_with fail
    refine (Formed2_any n g t _ (HN.out.1.kept K1.bl) (HN.out.2.1.kept K1.bl) (HN.out.2.2.kept K1.bl)).mono ?_
    rintro e w2 ⟨rfl, hb2⟩
    have K2 := K1.step hb2
    clear K1 hb2 l0 l1 x0 x1 x2 x3 x4
    cases hok : okB n g t
    · have HE : Hid (raiseT n g t a = leafT 0 0) := by show raiseT n g t a = _; unfold raiseT; rw [hok]; rfl
      clear hj
      have RB := K2.r
      have RF := K2.fr
      obtain ⟨e0, e1, e2, e3, e4⟩ := put5_cells (.int .i64 0) (.int .i64 0) (.slice none 0 0) (.int .i64 0) (.int .i64 0) RB RF
      go_wp2_with (refine wpList_store5 rfl rfl _ _ rfl (w.heap.size + 2) _ _ _ _ _ rfl rfl rfl rfl rfl rfl rfl RB RF ?_)
      exact bodyPost_ret (v := .agg #[.int .i64 0, .int .i64 0, .slice none 0 0, .int .i64 0, .int .i64 0]) (by simp [results, Try.results25, go_sem, e0, e1, e2, e3, e4]) rfl (RP.intro (leafT 0 0) rfl (leaf_at _ _ _) ⟨fun h => absurd h (Nat.lt_irrefl _), fun _ h => absurd h (Nat.not_lt_zero _)⟩ (by rw [HE.out]; exact same_refl _) (put5_below (by omega) K2.bl _ _ _ _ _))
    · have HK : Hid (okB n g t = true) := hok
      have HE : Hid (raiseT n g t a = t.setL (joinI n g t.l a)) := by
        show raiseT n g t a = _
        unfold raiseT
        cases hi : inR n.len a
        · rw [joinI_no hi] at hj; cases hj
        · rw [hok]; rfl
      have hnod : t.nodes ≤ 1000 := by
        unfold okB at hok
        rw [Bool.and_eq_true] at hok
        have := (ok_parts hok.2).2
        omega
      have hC := clone2_any t w2 hnod (HN.out.2.2.kept K2.bl)
      clear hj hok hnod
      generalize joinI n g t.l a = jn at HE HJ ⊢
      have x0 := K2.x.c0
      have x1 := K2.x.c1
      have x2 := K2.x.c2
      have x3 := K2.x.c3
      have x4 := K2.x.c4
      go_wp2_with fail
      refine hC.mono ?_
      intro e w3 hCP
      obtain ⟨u, rfl, uA, uB, uS, hb3⟩ := hCP
      have K3 := K2.step hb3
      have HU : Hid (u.At w3 ∧ u.Blk (fun b => w.heap.size + 3 ≤ b) ∧ u.same t = true) := ⟨uA, uB.mono (fun b hq => Nat.le_trans K2.sz hq), uS⟩
      clear hC K2 hb3 uA uB uS x0 x1 x2 x3 x4
      dsimp only
      rename_i K a1
      refine a1 _ _ ?_
      refine wpList_store5 rfl rfl _ _ rfl (w.heap.size + 1) _ _ _ _ _ rfl rfl rfl rfl rfl rfl rfl K3.x K3.fx ?_
      obtain ⟨p0, p1, p2, p3, p4⟩ := put5_cells (.int .i64 u.k) (.int .i64 u.l) (.slice u.ao u.len u.cap) (.int .i64 u.h) (.int .i64 u.e) K3.x K3.fx
      have pf : ∀ a, (World.put5 w3 (w.heap.size + 1) (.int .i64 u.k) (.int .i64 u.l) (.slice u.ao u.len u.cap) (.int .i64 u.h) (.int .i64 u.e)).frozen? a = w3.frozen? a := fun a => put5_frozen _ _ _ _ _ _ _ _
      have ph : ∀ b, b ≠ w.heap.size + 1 → (World.put5 w3 (w.heap.size + 1) (.int .i64 u.k) (.int .i64 u.l) (.slice u.ao u.len u.cap) (.int .i64 u.h) (.int .i64 u.e)).heap[b]? = w3.heap[b]? := fun b hb => put5_heap _ _ _ _ _ _ _ hb
      have pb : Below w.heap.size w (World.put5 w3 (w.heap.size + 1) (.int .i64 u.k) (.int .i64 u.l) (.slice u.ao u.len u.cap) (.int .i64 u.h) (.int .i64 u.e)) := put5_below (by omega) K3.bl _ _ _ _ _
      generalize World.put5 w3 (w.heap.size + 1) (.int .i64 u.k) (.int .i64 u.l) (.slice u.ao u.len u.cap) (.int .i64 u.h) (.int .i64 u.e) = X at p0 p1 p2 p3 p4 pf ph pb ⊢
      have hz : (X.setCell ⟨w.heap.size + 1, 1, none⟩ (.int .i64 jn)).heap[w.heap.size + 2]? = w3.heap[w.heap.size + 2]? := by
        rw [Below.heap_setCell _ _ _ _ (by show w.heap.size + 2 ≠ w.heap.size + 1; omega), ph _ (by omega)]
      have RB : Bx (X.setCell ⟨w.heap.size + 1, 1, none⟩ (.int .i64 jn)) (w.heap.size + 2) (leafT 0 0) := K3.r.agree hz
      have RF : ∀ i, i < 5 → (X.setCell ⟨w.heap.size + 1, 1, none⟩ (.int .i64 jn)).frozen? ⟨w.heap.size + 2, i, none⟩ = false := fun i hi => by rw [World.frozen?_setCell, pf]; exact K3.fr i hi
      have HB : Hid (Below w.heap.size w (World.put5 (X.setCell ⟨w.heap.size + 1, 1, none⟩ (.int .i64 jn)) (w.heap.size + 2) (.int .i64 u.k) (.int .i64 jn) (.slice u.ao u.len u.cap) (.int .i64 u.h) (.int .i64 u.e))) := put5_below (by omega) (pb.setCell (by show w.heap.size ≤ w.heap.size + 1; omega) _) _ _ _ _ _
      have HA : Hid ((u.setL jn).At (World.put5 (X.setCell ⟨w.heap.size + 1, 1, none⟩ (.int .i64 jn)) (w.heap.size + 2) (.int .i64 u.k) (.int .i64 jn) (.slice u.ao u.len u.cap) (.int .i64 u.h) (.int .i64 u.e))) :=
        setL_at (Ty.At.agree (Q := fun b => w.heap.size + 3 ≤ b) (fun b hq => by rw [put5_heap _ _ _ _ _ _ _ (by omega), Below.heap_setCell _ _ _ _ (by show b ≠ w.heap.size + 1; omega), ph _ (by omega)]) HU.out.1 HU.out.2.1)
      have pf1 : X.frozen? ⟨w.heap.size + 1, 1, none⟩ = false := (pf _).trans (K3.fx 1 (by omega))
      have HR : Hid (Bx (X.setCell ⟨w.heap.size + 1, 1, none⟩ (.int .i64 jn)) (w.heap.size + 2) (leafT 0 0) ∧ ∀ i, i < 5 → (X.setCell ⟨w.heap.size + 1, 1, none⟩ (.int .i64 jn)).frozen? ⟨w.heap.size + 2, i, none⟩ = false) := ⟨RB, RF⟩
      clear hz K3 pf ph pb RB RF
      go_wp2_with (refine wpList_store5 rfl rfl _ _ rfl (w.heap.size + 2) _ _ _ _ _ rfl rfl rfl rfl rfl rfl rfl HR.out.1 HR.out.2 ?_)
      obtain ⟨e0, e1, e2, e3, e4⟩ := put5_cells (.int .i64 u.k) (.int .i64 jn) (.slice u.ao u.len u.cap) (.int .i64 u.h) (.int .i64 u.e) HR.out.1 HR.out.2
      have hv := setL_v (j := jn) HU.out.1
      exact bodyPost_ret (v := .agg #[.int .i64 u.k, .int .i64 jn, .slice u.ao u.len u.cap, .int .i64 u.h, .int .i64 u.e]) (by simp [results, Try.results25, go_sem, e0, e1, e2, e3, e4]) rfl (RP.intro (u.setL jn) (by rw [hv.1, hv.2.1, hv.2.2.1, hv.2.2.2.1, hv.2.2.2.2.1, hv.2.2.2.2.2.1, hv.2.2.2.2.2.2]) HA.out (setL_blk (HU.out.2.1.mono (fun b hq => by omega))) (by rw [HE.out]; exact setL_same HU.out.1 HN.out.2.2 HU.out.2.2) HB.out)
  · have HE : Hid (raiseT n g t a = leafT 0 0) := by
      show raiseT n g t a = _
      unfold raiseT
      cases hok : (okB n g t && inR n.len a)
      · rfl
      · rw [Bool.and_eq_true] at hok
        rw [joinI_yes hok.1 hok.2] at hj; cases hj
    have RB := K1.r
    have RF := K1.fr
    obtain ⟨e0, e1, e2, e3, e4⟩ := put5_cells (.int .i64 0) (.int .i64 0) (.slice none 0 0) (.int .i64 0) (.int .i64 0) RB RF
    go_wp2_with (refine wpList_store5 rfl rfl _ _ rfl (w.heap.size + 2) _ _ _ _ _ rfl rfl rfl rfl rfl rfl rfl RB RF ?_)
    exact bodyPost_ret (v := .agg #[.int .i64 0, .int .i64 0, .slice none 0 0, .int .i64 0, .int .i64 0]) (by simp [results, Try.results25, go_sem, e0, e1, e2, e3, e4]) rfl (RP.intro (leafT 0 0) rfl (leaf_at _ _ _) ⟨fun h => absurd h (Nat.lt_irrefl _), fun _ h => absurd h (Nat.not_lt_zero _)⟩ (by rw [HE.out]; exact same_refl _) (put5_below (by omega) K1.bl _ _ _ _ _))
end Go.Proofs.Ytgbillimanpmnaa
