/- Layer 2: a type stored. -/
import Derived.Test.YtbdhbgilaeldgaaP11
import Derived.Deep.MidRow
import Derived.Test.YtbdhbgilaeldgaaP9
import Derived.Deep.RegionHeld3
namespace Go.Proofs.Ytbdhbgilaeldgaa
open Go.RowKit

/-- Five cells written. -/
def World.put5 (w : World) (B : Nat) (v0 v1 v2 v3 v4 : Value) : World := ((((w.setCell ⟨B, 0, none⟩ v0).setCell ⟨B, 1, none⟩ v1).setCell ⟨B, 2, none⟩ v2).setCell ⟨B, 3, none⟩ v3).setCell ⟨B, 4, none⟩ v4
theorem put5_heap (w : World) (B : Nat) (v0 v1 v2 v3 v4 : Value) {b : Nat} (h : b ≠ B) : (World.put5 w B v0 v1 v2 v3 v4).heap[b]? = w.heap[b]? := by
  unfold World.put5
  rw [Below.heap_setCell _ _ _ _ h, Below.heap_setCell _ _ _ _ h, Below.heap_setCell _ _ _ _ h, Below.heap_setCell _ _ _ _ h, Below.heap_setCell _ _ _ _ h]
theorem put5_below {w w1 : World} {B : Nat} (hB : w.heap.size ≤ B) (h : Below w.heap.size w w1) (v0 v1 v2 v3 v4 : Value) : Below w.heap.size w (World.put5 w1 B v0 v1 v2 v3 v4) :=
  ((((h.setCell hB _).setCell hB _).setCell hB _).setCell hB _).setCell hB _
theorem put5_frozen (w : World) (B : Nat) (v0 v1 v2 v3 v4 : Value) (a : Addr) : (World.put5 w B v0 v1 v2 v3 v4).frozen? a = w.frozen? a := by
  unfold World.put5
  rw [World.frozen?_setCell, World.frozen?_setCell, World.frozen?_setCell, World.frozen?_setCell, World.frozen?_setCell]
theorem put5_cells {w : World} {B : Nat} (v0 v1 v2 v3 v4 : Value) {t : Ty} (h : Bx w B t) (hf : ∀ i, i < 5 → w.frozen? ⟨B, i, none⟩ = false) : (World.put5 w B v0 v1 v2 v3 v4).cell? ⟨B, 0, none⟩ = some v0 ∧ (World.put5 w B v0 v1 v2 v3 v4).cell? ⟨B, 1, none⟩ = some v1 ∧ (World.put5 w B v0 v1 v2 v3 v4).cell? ⟨B, 2, none⟩ = some v2 ∧ (World.put5 w B v0 v1 v2 v3 v4).cell? ⟨B, 3, none⟩ = some v3 ∧ (World.put5 w B v0 v1 v2 v3 v4).cell? ⟨B, 4, none⟩ = some v4 := by
  have key := World.rangeAt_setCells_same w B 0 [v0, v1, v2, v3, v4] (fun j hj => ?_)
  · exact ⟨key 0 v0 rfl, key 1 v1 rfl, key 2 v2 rfl, key 3 v3 rfl, key 4 v4 rfl⟩
  · have hj' : j < 5 := hj
    rw [Nat.zero_add]
    refine ⟨?_, hf j hj'⟩
    match j, hj' with
    | 0, _ => rw [h.c0]; rfl
    | 1, _ => rw [h.c1]; rfl
    | 2, _ => rw [h.c2]; rfl
    | 3, _ => rw [h.c3]; rfl
    | 4, _ => rw [h.c4]; rfl
theorem wpList_store5 {w : World} {ops : Array Oper} {rest : List Oper} {o : Oper} {a : Act} {Q : Exit → Act → World → Prop} (hgd : o.guard = none) (hdst : o.dst = none) (p x : Operand) (ho : o.op = .store 39 p x) (B : Nat) (v0 v1 v2 v3 v4 : Value)
    (hp : a.eval p = .pointer (some ⟨B, 0, none⟩)) (hx : a.eval x = .agg #[v0, v1, v2, v3, v4]) (h0 : v0.oneCell' = true) (h1 : v1.oneCell' = true) (h2 : v2.oneCell' = true) (h3 : v3.oneCell' = true) (h4 : v4.oneCell' = true) {t : Ty} (hb : Bx w B t) (hf : ∀ i, i < 5 → w.frozen? ⟨B, i, none⟩ = false)
    (h : wpList Try.prog ops Q rest a (World.put5 w B v0 v1 v2 v3 v4)) : wpList Try.prog ops Q (o :: rest) a w := by
  refine wpList_store_mid hgd 39 p x ho B 0 #[v0, v1, v2, v3, v4] hp hx (fun j hj => ?_) (by kernel_rfl) (by simp [h0, h1, h2, h3, h4]) ?_
  · have hj' : j < 5 := hj
    rw [Nat.zero_add]
    refine ⟨?_, hf j hj'⟩
    match j, hj' with
    | 0, _ => rw [hb.c0]; rfl
    | 1, _ => rw [hb.c1]; rfl
    | 2, _ => rw [hb.c2]; rfl
    | 3, _ => rw [hb.c3]; rfl
    | 4, _ => rw [hb.c4]; rfl
  · rw [hdst]
    exact h
end Go.Proofs.Ytbdhbgilaeldgaa

/- Layer 2: Raise. -/
namespace Go.Proofs.Ytbdhbgilaeldgaa
open Go.RowKit

def Ty.setL (j : Int) : Ty → Ty
  | .dm => .dm
  | .mk k _ h e ao b o len cap ps => .mk k j h e ao b o len cap ps
theorem setL_at {w : World} {j : Int} : ∀ {t : Ty}, t.At w → (t.setL j).At w
  | .dm, h => h
  | .mk _ _ _ _ _ _ _ _ _ _, h => h
theorem setL_blk {Q : Nat → Prop} {j : Int} : ∀ {t : Ty}, t.Blk Q → (t.setL j).Blk Q
  | .dm, h => h
  | .mk _ _ _ _ _ _ _ _ _ _, h => h
theorem setL_v {w : World} {j : Int} : ∀ {t : Ty}, t.At w → (t.setL j).k = t.k ∧ (t.setL j).l = j ∧ (t.setL j).ao = t.ao ∧ (t.setL j).len = t.len ∧ (t.setL j).cap = t.cap ∧ (t.setL j).h = t.h ∧ (t.setL j).e = t.e
  | .dm, h => h.elim
  | .mk _ _ _ _ _ _ _ _ _ _, _ => ⟨rfl, rfl, rfl, rfl, rfl, rfl, rfl⟩
theorem setL_same {w w' : World} {j : Int} : ∀ {s t : Ty}, s.At w → t.At w' → s.same t = true → (s.setL j).same (t.setL j) = true
  | .dm, _, h, _, _ => h.elim
  | .mk _ _ _ _ _ _ _ _ _ _, .dm, _, h, _ => h.elim
  | .mk _ _ _ _ _ _ _ _ _ _, .mk _ _ _ _ _ _ _ _ _ _, _, _, h => by
    rw [same_iff] at h ⊢
    exact ⟨⟨h.1.1, rfl, h.1.2.2⟩, h.2⟩

theorem Bx.agree {w w' : World} {B : Nat} {t : Ty} (h : Bx w B t) (e : w'.heap[B]? = w.heap[B]?) : Bx w' B t :=
  ⟨(World.cell?_of_block (w := w) e).trans h.c0, (World.cell?_of_block (w := w) e).trans h.c1, (World.cell?_of_block (w := w) e).trans h.c2, (World.cell?_of_block (w := w) e).trans h.c3, (World.cell?_of_block (w := w) e).trans h.c4⟩

/-- What Raise answers, but for where it lies. -/
def raiseT (n : Strs) (g : Grid) (t : Ty) (a : Int) : Ty := if (okB n g t && inR n.len a) = true then t.setL (joinI n g t.l a) else leafT 0 0
def RP (w : World) (r : Ty) (e : Ending) (w' : World) : Prop :=
  ∃ u : Ty, e = .returned (.agg #[.int .i64 u.k, .int .i64 u.l, .slice u.ao u.len u.cap, .int .i64 u.h, .int .i64 u.e]) ∧ u.At w' ∧ u.Blk (fun b => w.heap.size ≤ b) ∧ u.same r = true ∧ Below w.heap.size w w'
theorem RP.intro {w : World} {r : Ty} {e : Ending} {w' : World} (u : Ty) (h1 : e = .returned (.agg #[.int .i64 u.k, .int .i64 u.l, .slice u.ao u.len u.cap, .int .i64 u.h, .int .i64 u.e])) (h2 : u.At w') (h3 : u.Blk (fun b => w.heap.size ≤ b)) (h4 : u.same r = true) (h5 : Below w.heap.size w w') : RP w r e w' := ⟨u, h1, h2, h3, h4, h5⟩

structure RBox (w w0 : World) (n : Strs) (g : Grid) (t : Ty) : Prop where
  bl : Below w.heap.size w w0
  sz : w.heap.size + 3 ≤ w0.heap.size
  l : Bl w0 w.heap.size n g
  x : Bx w0 (w.heap.size + 1) t
  fx : ∀ i, i < 5 → w0.frozen? ⟨w.heap.size + 1, i, none⟩ = false
  r : Bx w0 (w.heap.size + 2) (leafT 0 0)
  fr : ∀ i, i < 5 → w0.frozen? ⟨w.heap.size + 2, i, none⟩ = false
theorem RBox.step {w w0 w1 : World} {n : Strs} {g : Grid} {t : Ty} (h : RBox w w0 n g t) (hb : Below w0.heap.size w0 w1) : RBox w w1 n g t :=
  ⟨h.bl.trans (hb.mono (by have := h.sz; omega)), Nat.le_trans h.sz hb.size, h.l.kept hb, h.x.kept hb, fun i hi => (hb.frozen (p := ⟨w.heap.size + 1, i, none⟩) (by have := h.sz; show w.heap.size + 1 < _; omega)).trans (h.fx i hi), h.r.kept hb, fun i hi => (hb.frozen (p := ⟨w.heap.size + 2, i, none⟩) (by have := h.sz; show w.heap.size + 2 < _; omega)).trans (h.fr i hi)⟩
theorem frozen_new (w : World) (c : Array Value) (t : TypeId) (i : Nat) : (w.alloc (.cells c t)).frozen? ⟨w.heap.size, i, none⟩ = false := by simp
theorem rbox_new (w : World) (n : Strs) (g : Grid) (t : Ty) : RBox w (((w.alloc (latO n g)).alloc (tyO t)).alloc (.cells #[.int .i64 0, .int .i64 0, .slice none 0 0, .int .i64 0, .int .i64 0] 39)) n g t := by
  obtain ⟨L0, X0, B0⟩ := start_lt w n g t
  have ba := below_alloc ((w.alloc (latO n g)).alloc (tyO t)) (.cells #[.int .i64 0, .int .i64 0, .slice none 0 0, .int .i64 0, .int .i64 0] 39)
  have e1 : (w.alloc (latO n g)).heap.size = w.heap.size + 1 := alloc_size _ _
  have e2 : ((w.alloc (latO n g)).alloc (tyO t)).heap.size = w.heap.size + 2 := by rw [alloc_size, e1]
  refine ⟨Below.next B0 ba, by rw [alloc_size, e2]; omega, L0.kept ba, X0.kept ba, fun i hi => ?_, ?_, fun i hi => ?_⟩
  · rw [ba.frozen (p := ⟨w.heap.size + 1, i, none⟩) (by rw [e2]; exact Nat.lt_succ_self _), ← e1]
    simp [tyO]
  · rw [← e2]
    exact Bx.new _ (leafT 0 0)
  · rw [← e2]
    exact frozen_new _ _ _ _

theorem joinI_no {n : Strs} {g : Grid} {a b : Int} (h : inR n.len b = false) : joinI n g a b = -1 := by
  unfold joinI
  rw [if_neg]
  intro hh
  rw [Bool.and_eq_true, Bool.and_eq_true] at hh
  have : labB n b = inR n.len b := rfl
  rw [this, h] at hh
  exact Bool.noConfusion hh.1.2
theorem joinI_yes {n : Strs} {g : Grid} {t : Ty} {b : Int} (hk : okB n g t = true) (h : inR n.len b = true) : (joinI n g t.l b == -1) = false := by
  unfold okB at hk
  rw [Bool.and_eq_true] at hk
  obtain ⟨x, hx, hx1⟩ := (fd_ok hk.2).lab
  obtain ⟨y, hy, hy1⟩ := inR_nat h
  rw [hx, hy, joinI_nat hk.1 hx1 hy1]
  simp

set_option maxRecDepth 100000 in
set_option maxHeartbeats 4000000 in
theorem Raise_any (n : Strs) (g : Grid) (t : Ty) (a : Int) (w : World) (hn : n.At w) (hg : g.At w) (ht : t.At w) :
    Calls Try.prog 81 #[.agg #[.slice n.ao n.len n.cap, .slice g.ao g.len g.cap], .agg #[.int .i64 t.k, .int .i64 t.l, .slice t.ao t.len t.cap, .int .i64 t.h, .int .i64 t.e], .int .i64 a] w fun e w' => RP w (raiseT n g t a) e w' := by
  have K0 := rbox_new w n g t
  unfold latO tyO at K0
  have l0 := K0.l.c0
  have l1 := K0.l.c1
  have x1 := K0.x.c1
  go_enter Try.func81, Try.ntmps81
  go_wp2_with fail
  refine (Join_any n g t.l a _ (hn.kept K0.bl) (hg.kept K0.bl)).mono ?_
  rintro e w1 ⟨rfl, hb1⟩
  have K1 := K0.step hb1
  clear K0 hb1 l0 l1 x1
  have HN : Hid (n.At w ∧ g.At w ∧ t.At w) := ⟨hn, hg, ht⟩
  clear hn hg ht
  cases hj : (joinI n g t.l a == -1)
  · have HJ : Hid ((joinI n g t.l a == -1) = false) := hj
    have l0 := K1.l.c0
    have l1 := K1.l.c1
    have x0 := K1.x.c0
    have x1 := K1.x.c1
    have x2 := K1.x.c2
    have x3 := K1.x.c3
    have x4 := K1.x.c4
    go_wp2_with fail
    refine (Formed2_any n g t _ (HN.out.1.kept K1.bl) (HN.out.2.1.kept K1.bl) (HN.out.2.2.kept K1.bl)).mono ?_
    rintro e w2 ⟨rfl, hb2⟩
    have K2 := K1.step hb2
    clear K1 hb2 l0 l1 x0 x1 x2 x3 x4
    cases hok : okB n g t
    · have HE : Hid (raiseT n g t a = leafT 0 0) := by show raiseT n g t a = _; unfold raiseT; rw [hok]; rfl
      clear hj
      have RB := K2.r
      have RF := K2.fr
      obtain ⟨e0, e1, e2, e3, e4⟩ := put5_cells (.int .i64 0) (.int .i64 0) (.slice none 0 0) (.int .i64 0) (.int .i64 0) RB RF
      go_wp2_with (refine wpList_store5 rfl rfl _ _ rfl (w.heap.size + 2) _ _ _ _ _ rfl rfl rfl rfl rfl rfl rfl RB RF ?_)
      exact bodyPost_ret (v := .agg #[.int .i64 0, .int .i64 0, .slice none 0 0, .int .i64 0, .int .i64 0]) (by simp [results, Try.results81, go_sem, e0, e1, e2, e3, e4]) rfl (RP.intro (leafT 0 0) rfl (leaf_at _ _ _) ⟨fun h => absurd h (Nat.lt_irrefl _), fun _ h => absurd h (Nat.not_lt_zero _)⟩ (by rw [HE.out]; exact same_refl _) (put5_below (by omega) K2.bl _ _ _ _ _))
    · have HK : Hid (okB n g t = true) := hok
      have HE : Hid (raiseT n g t a = t.setL (joinI n g t.l a)) := by
        show raiseT n g t a = _
        unfold raiseT
        cases hi : inR n.len a
        · rw [joinI_no hi] at hj; cases hj
        · rw [hok]; rfl
      have hnod : t.nodes ≤ 1000 := by
        unfold okB at hok
        rw [Bool.and_eq_true] at hok
        have := (ok_parts hok.2).2
        omega
      have hC := clone2_any t w2 hnod (HN.out.2.2.kept K2.bl)
      clear hj hok hnod
      generalize joinI n g t.l a = jn at HE HJ ⊢
      have x0 := K2.x.c0
      have x1 := K2.x.c1
      have x2 := K2.x.c2
      have x3 := K2.x.c3
      have x4 := K2.x.c4
      go_wp2_with fail
      refine hC.mono ?_
      intro e w3 hCP
      obtain ⟨u, rfl, uA, uB, uS, hb3⟩ := hCP
      have K3 := K2.step hb3
      have HU : Hid (u.At w3 ∧ u.Blk (fun b => w.heap.size + 3 ≤ b) ∧ u.same t = true) := ⟨uA, uB.mono (fun b hq => Nat.le_trans K2.sz hq), uS⟩
      clear hC K2 hb3 uA uB uS x0 x1 x2 x3 x4
      dsimp only
      rename_i K a1
      refine a1 _ _ ?_
      refine wpList_store5 rfl rfl _ _ rfl (w.heap.size + 1) _ _ _ _ _ rfl rfl rfl rfl rfl rfl rfl K3.x K3.fx ?_
      obtain ⟨p0, p1, p2, p3, p4⟩ := put5_cells (.int .i64 u.k) (.int .i64 u.l) (.slice u.ao u.len u.cap) (.int .i64 u.h) (.int .i64 u.e) K3.x K3.fx
      have pf : ∀ a, (World.put5 w3 (w.heap.size + 1) (.int .i64 u.k) (.int .i64 u.l) (.slice u.ao u.len u.cap) (.int .i64 u.h) (.int .i64 u.e)).frozen? a = w3.frozen? a := fun a => put5_frozen _ _ _ _ _ _ _ _
      have ph : ∀ b, b ≠ w.heap.size + 1 → (World.put5 w3 (w.heap.size + 1) (.int .i64 u.k) (.int .i64 u.l) (.slice u.ao u.len u.cap) (.int .i64 u.h) (.int .i64 u.e)).heap[b]? = w3.heap[b]? := fun b hb => put5_heap _ _ _ _ _ _ _ hb
      have pb : Below w.heap.size w (World.put5 w3 (w.heap.size + 1) (.int .i64 u.k) (.int .i64 u.l) (.slice u.ao u.len u.cap) (.int .i64 u.h) (.int .i64 u.e)) := put5_below (by omega) K3.bl _ _ _ _ _
      generalize World.put5 w3 (w.heap.size + 1) (.int .i64 u.k) (.int .i64 u.l) (.slice u.ao u.len u.cap) (.int .i64 u.h) (.int .i64 u.e) = X at p0 p1 p2 p3 p4 pf ph pb ⊢
      have hz : (X.setCell ⟨w.heap.size + 1, 1, none⟩ (.int .i64 jn)).heap[w.heap.size + 2]? = w3.heap[w.heap.size + 2]? := by
        rw [Below.heap_setCell _ _ _ _ (by show w.heap.size + 2 ≠ w.heap.size + 1; omega), ph _ (by omega)]
      have RB : Bx (X.setCell ⟨w.heap.size + 1, 1, none⟩ (.int .i64 jn)) (w.heap.size + 2) (leafT 0 0) := K3.r.agree hz
      have RF : ∀ i, i < 5 → (X.setCell ⟨w.heap.size + 1, 1, none⟩ (.int .i64 jn)).frozen? ⟨w.heap.size + 2, i, none⟩ = false := fun i hi => by rw [World.frozen?_setCell, pf]; exact K3.fr i hi
      have HB : Hid (Below w.heap.size w (World.put5 (X.setCell ⟨w.heap.size + 1, 1, none⟩ (.int .i64 jn)) (w.heap.size + 2) (.int .i64 u.k) (.int .i64 jn) (.slice u.ao u.len u.cap) (.int .i64 u.h) (.int .i64 u.e))) := put5_below (by omega) (pb.setCell (by show w.heap.size ≤ w.heap.size + 1; omega) _) _ _ _ _ _
      have HA : Hid ((u.setL jn).At (World.put5 (X.setCell ⟨w.heap.size + 1, 1, none⟩ (.int .i64 jn)) (w.heap.size + 2) (.int .i64 u.k) (.int .i64 jn) (.slice u.ao u.len u.cap) (.int .i64 u.h) (.int .i64 u.e))) :=
        setL_at (Ty.At.agree (Q := fun b => w.heap.size + 3 ≤ b) (fun b hq => by rw [put5_heap _ _ _ _ _ _ _ (by omega), Below.heap_setCell _ _ _ _ (by show b ≠ w.heap.size + 1; omega), ph _ (by omega)]) HU.out.1 HU.out.2.1)
      have pf1 : X.frozen? ⟨w.heap.size + 1, 1, none⟩ = false := (pf _).trans (K3.fx 1 (by omega))
      have HR : Hid (Bx (X.setCell ⟨w.heap.size + 1, 1, none⟩ (.int .i64 jn)) (w.heap.size + 2) (leafT 0 0) ∧ ∀ i, i < 5 → (X.setCell ⟨w.heap.size + 1, 1, none⟩ (.int .i64 jn)).frozen? ⟨w.heap.size + 2, i, none⟩ = false) := ⟨RB, RF⟩
      clear hz K3 pf ph pb RB RF
      go_wp2_with (refine wpList_store5 rfl rfl _ _ rfl (w.heap.size + 2) _ _ _ _ _ rfl rfl rfl rfl rfl rfl rfl HR.out.1 HR.out.2 ?_)
      obtain ⟨e0, e1, e2, e3, e4⟩ := put5_cells (.int .i64 u.k) (.int .i64 jn) (.slice u.ao u.len u.cap) (.int .i64 u.h) (.int .i64 u.e) HR.out.1 HR.out.2
      have hv := setL_v (j := jn) HU.out.1
      exact bodyPost_ret (v := .agg #[.int .i64 u.k, .int .i64 jn, .slice u.ao u.len u.cap, .int .i64 u.h, .int .i64 u.e]) (by simp [results, Try.results81, go_sem, e0, e1, e2, e3, e4]) rfl (RP.intro (u.setL jn) (by rw [hv.1, hv.2.1, hv.2.2.1, hv.2.2.2.1, hv.2.2.2.2.1, hv.2.2.2.2.2.1, hv.2.2.2.2.2.2]) HA.out (setL_blk (HU.out.2.1.mono (fun b hq => by omega))) (by rw [HE.out]; exact setL_same HU.out.1 HN.out.2.2 HU.out.2.2) HB.out)
  · have HE : Hid (raiseT n g t a = leafT 0 0) := by
      show raiseT n g t a = _
      unfold raiseT
      cases hok : (okB n g t && inR n.len a)
      · rfl
      · rw [Bool.and_eq_true] at hok
        rw [joinI_yes hok.1 hok.2] at hj; cases hj
    have RB := K1.r
    have RF := K1.fr
    obtain ⟨e0, e1, e2, e3, e4⟩ := put5_cells (.int .i64 0) (.int .i64 0) (.slice none 0 0) (.int .i64 0) (.int .i64 0) RB RF
    go_wp2_with (refine wpList_store5 rfl rfl _ _ rfl (w.heap.size + 2) _ _ _ _ _ rfl rfl rfl rfl rfl rfl rfl RB RF ?_)
    exact bodyPost_ret (v := .agg #[.int .i64 0, .int .i64 0, .slice none 0 0, .int .i64 0, .int .i64 0]) (by simp [results, Try.results81, go_sem, e0, e1, e2, e3, e4]) rfl (RP.intro (leafT 0 0) rfl (leaf_at _ _ _) ⟨fun h => absurd h (Nat.lt_irrefl _), fun _ h => absurd h (Nat.not_lt_zero _)⟩ (by rw [HE.out]; exact same_refl _) (put5_below (by omega) K1.bl _ _ _ _ _))
end Go.Proofs.Ytbdhbgilaeldgaa

/- Layer 2: what follows of Raise. No program is walked here. -/
namespace Go.Proofs.Ytbdhbgilaeldgaa

theorem same_symm : ∀ s t : Ty, s.same t = true → t.same s = true := by
  intro s
  induction s with
  | dm =>
    intro t h
    rw [same_iff] at h ⊢
    exact ⟨⟨h.1.1.symm, h.1.2.1.symm, h.1.2.2.1.symm, h.1.2.2.2.1.symm, h.1.2.2.2.2.symm⟩, fun i hi => absurd hi (by rw [← h.1.2.2.2.2]; exact Nat.not_lt_zero _)⟩
  | mk k l hh e ao b o len cap ps ih =>
    intro t h
    rw [same_iff] at h ⊢
    exact ⟨⟨h.1.1.symm, h.1.2.1.symm, h.1.2.2.1.symm, h.1.2.2.2.1.symm, h.1.2.2.2.2.symm⟩, fun i hi => ih i (t.ps i) (h.2 i (by rw [h.1.2.2.2.2]; exact hi))⟩

theorem sum_congr {f h : Nat → Nat} : ∀ k, (∀ i, i < k → f i = h i) → sumTo f k = sumTo h k
  | 0, _ => rfl
  | k + 1, e => by
    show sumTo f k + f k = sumTo h k + h k
    rw [sum_congr k (fun i hi => e i (by omega)), e k (by omega)]

/-- What lies alike is formed alike. -/
theorem same_fm {N : Nat} {w w' : World} : ∀ s t : Ty, s.At w → t.At w' → s.same t = true → (∀ d, s.fm N d = t.fm N d) ∧ s.nodes = t.nodes := by
  intro s
  induction s with
  | dm => intro t h; exact h.elim
  | mk k l hh e ao b o len cap ps ih =>
    intro t hs ht h
    rcases t with _ | ⟨tk, tl, th, te, tao, tb, to', tlen, tcap, tps⟩
    · exact ht.elim
    rw [same_iff] at h
    obtain ⟨⟨h1, h2, h3, h4, h5⟩, h6⟩ := h
    have h1' : k = tk := h1
    have h2' : l = tl := h2
    have h3' : hh = th := h3
    have h4' : e = te := h4
    have h5' : len = tlen := h5
    subst h1' h2' h3' h4' h5'
    have sub : ∀ i, i < len → (∀ d, (ps i).fm N d = (tps i).fm N d) ∧ (ps i).nodes = (tps i).nodes := fun i hi => ih i (tps i) (hs.part (i := i) hi) (ht.part (i := i) hi) (h6 i hi)
    refine ⟨fun d => ?_, ?_⟩
    · rw [fm_eq, fm_eq]
      congr 1
      rw [decide_eq_decide]
      exact ⟨fun hh i hi => by rw [← (sub i hi).1]; exact hh i hi, fun hh i hi => by rw [(sub i hi).1]; exact hh i hi⟩
    · show 1 + sumTo (fun i => (ps i).nodes) len = 1 + sumTo (fun i => (tps i).nodes) len
      rw [sum_congr len (fun i hi => (sub i hi).2)]
theorem same_ok {N : Nat} {w w' : World} {s t : Ty} (hs : s.At w) (ht : t.At w') (h : s.same t = true) : s.ok N = t.ok N := by
  unfold Ty.ok
  rw [(same_fm (N := N) s t hs ht h).1, (same_fm (N := N) s t hs ht h).2]

theorem same_bel {N : Nat} {le : Nat → Nat → Bool} (P : Po N le) : ∀ s t : Ty, Fd N s → Fd N t → s.same t = true → s.bel le true t = true ∧ t.bel le true s = true := by
  intro s
  induction s with
  | dm => intro t hs; exact absurd rfl hs.ne
  | mk k l hh e ao b o len cap ps ih =>
    intro t hs ht h
    rw [same_iff] at h
    obtain ⟨⟨h1, h2, h3, h4, h5⟩, h6⟩ := h
    have sub : ∀ i, i < (Ty.mk k l hh e ao b o len cap ps).len → (ps i).bel le true (t.ps i) = true ∧ (t.ps i).bel le true (ps i) = true := fun i hi => ih i (t.ps i) (hs.sub (i := i) hi) (ht.sub (by omega)) (h6 i hi)
    obtain ⟨x, hx, hx1⟩ := hs.lab
    have two : (Ty.mk k l hh e ao b o len cap ps).k = 3 ∨ (Ty.mk k l hh e ao b o len cap ps).k = 4 → ∀ i, i < 2 → i < (Ty.mk k l hh e ao b o len cap ps).len := fun h34 i hi => by rw [hs.two h34]; exact hi
    rw [bel_iff hs ht, bel_iff ht hs]
    constructor
    · refine ⟨h1, by rw [← h2, hx, Int.toNat_natCast]; exact P.refl x hx1, fun h3' => ⟨(sub 0 (two (Or.inl h3') 0 (by omega))).1, (sub 1 (two (Or.inl h3') 1 (by omega))).1⟩, fun h4' => ⟨⟨(sub 0 (two (Or.inr h4') 0 (by omega))).2, (sub 1 (two (Or.inr h4') 1 (by omega))).1⟩, ?_, ?_⟩, fun h5' => h6 0 (by rw [hs.one h5']; omega)⟩
      · obtain ⟨y, hy, hy1⟩ := hs.heap h4'
        rw [← h3, hy, Int.toNat_natCast]; exact P.refl y hy1
      · rw [← h4]; exact exc_refl P (hs.exc h4')
    · refine ⟨h1.symm, by rw [← h2, hx, Int.toNat_natCast]; exact P.refl x hx1, fun h3' => ?_, fun h4' => ?_, fun h5' => ?_⟩
      · have q : (Ty.mk k l hh e ao b o len cap ps).k = 3 := h1.trans h3'
        exact ⟨(sub 0 (two (Or.inl q) 0 (by omega))).2, (sub 1 (two (Or.inl q) 1 (by omega))).2⟩
      · have q : (Ty.mk k l hh e ao b o len cap ps).k = 4 := h1.trans h4'
        refine ⟨⟨(sub 0 (two (Or.inr q) 0 (by omega))).1, (sub 1 (two (Or.inr q) 1 (by omega))).2⟩, ?_, ?_⟩
        · obtain ⟨y, hy, hy1⟩ := hs.heap q
          rw [← h3, hy, Int.toNat_natCast]; exact P.refl y hy1
        · rw [← h4]; exact exc_refl P (hs.exc q)
      · have q : (Ty.mk k l hh e ao b o len cap ps).k = 5 := h1.trans h5'
        exact same_symm _ _ (h6 0 (by rw [hs.one q]; omega))

theorem setL_fm {N d : Nat} {j : Int} (hj : inR N j = true) : ∀ {t : Ty}, t.fm N d = true → (t.setL j).fm N d = true
  | .dm, h => h
  | .mk k l hh e ao b o len cap ps, h => by
    show Ty.fm N (.mk k j hh e ao b o len cap ps) d = true
    rw [fm_eq] at h ⊢
    simp only [Bool.and_eq_true] at h ⊢
    exact ⟨⟨⟨h.1.1.1, hj⟩, h.1.2⟩, h.2⟩
theorem setL_nodes {j : Int} : ∀ t : Ty, (t.setL j).nodes = t.nodes
  | .dm => rfl
  | .mk _ _ _ _ _ _ _ _ _ _ => rfl
theorem setL_ok {N : Nat} {j : Int} {t : Ty} (h : t.ok N = true) (hj : inR N j = true) : (t.setL j).ok N = true := by
  have := ok_parts h
  unfold Ty.ok
  rw [setL_fm hj this.1, setL_nodes, decide_eq_true this.2]; rfl
theorem setL_self : ∀ t : Ty, t.setL t.l = t
  | .dm => rfl
  | .mk _ _ _ _ _ _ _ _ _ _ => rfl
theorem setL_bel {N : Nat} {le : Nat → Nat → Bool} (P : Po N le) {t : Ty} (ht : t.ok N = true) {i j : Nat} (hi : i < N) (hj : j < N) (h : le i j = true) : (t.setL i).bel le true (t.setL j) = true := by
  have r1 : inR N (i : Int) = true := by unfold inR; simp; omega
  have r2 : inR N (j : Int) = true := by unfold inR; simp; omega
  have F1 := fd_ok (setL_ok ht r1)
  have F2 := fd_ok (setL_ok ht r2)
  have F := fd_ok ht
  rw [bel_iff F1 F2]
  rcases t with _ | ⟨k, l, hh, e, ao, b, o, len, cap, ps⟩
  · exact absurd rfl F.ne
  have sub : ∀ q, q < 2 → k = 3 ∨ k = 4 → (ps q).bel le true (ps q) = true := fun q hq h34 => bel_refl P _ (F.sub (i := q) (by rw [F.two h34]; omega))
  refine ⟨rfl, by show le (i : Int).toNat (j : Int).toNat = true; rw [Int.toNat_natCast, Int.toNat_natCast]; exact h, fun h3 => ⟨sub 0 (by omega) (Or.inl h3), sub 1 (by omega) (Or.inl h3)⟩, fun h4 => ⟨⟨sub 0 (by omega) (Or.inr h4), sub 1 (by omega) (Or.inr h4)⟩, ?_, exc_refl P (F.exc h4)⟩, fun _ => same_refl _⟩
  obtain ⟨y, hy, hy1⟩ := F.heap h4
  show le hh.toNat hh.toNat = true
  have hy' : hh = y := hy
  rw [hy', Int.toNat_natCast]; exact P.refl y hy1
end Go.Proofs.Ytbdhbgilaeldgaa

/- A region that draws its order: 'x := f(..)', reads ahead of a call, and a new variable that the call's answer goes into, the variable being made at any time. -/
namespace Go.Proofs.Ytbdhbgilaeldgaa
open Go Go.RowKit

section
variable {P : Program} {ops : Array Oper} {Q : Exit → Act → World → Prop}

theorem if_wanted {o : Oper} {a : Act} (hg : o.guard = none) : Region.wanted o (yielded ops a.tmps) = true := by simp [Region.wanted, hg]

/-- What is known of the three last operations. -/
structure Three (P : Program) (ops : Array Oper) (m : Nat) (listed : Array Bool) (oc oa oz : Oper) (ty : TypeId) (zs : List Value) (c d : Nat) : Prop where
  hoc : ops[m]? = some oc
  hoa : ops[m + 1]? = some oa
  hoz : ops[m + 2]? = some oz
  gc : oc.guard = none
  ga : oa.guard = none
  gz : oz.guard = none
  dc : oc.dst = some c
  da : oa.dst = some d
  dz : oz.dst = none
  opa : oa.op = .alloc ty
  opz : oz.op = .store ty (.tmp d) (.tmp c)
  r0 : Region.ready .any ops listed = [m, m + 1]
  r1 : Region.ready .any ops (listed.setIfInBounds m true) = [m + 1]
  r2 : Region.ready .any ops (listed.setIfInBounds (m + 1) true) = [m]
  r3 : Region.ready .any ops ((listed.setIfInBounds m true).setIfInBounds (m + 1) true) = [m + 2]
  r4 : Region.ready .any ops (((listed.setIfInBounds m true).setIfInBounds (m + 1) true).setIfInBounds (m + 2) true) = []
  hi : (P.info? ty).map (·.size) = some zs.length
  hal : ∀ u : World, (Instr.alloc ty true (.tuple #[])).run P u = .ok (.pointer (some ⟨u.heap.size, 0, none⟩)) (u.alloc (.cells zs.toArray ty))

theorem there_of {u : World} {B : Nat} {zs : List Value} {ty : TypeId} (h : u.heap[B]? = some (.cells zs.toArray ty (0, 0))) : u.there B 0 zs.length := fun j hj => by
  refine ⟨?_, ?_⟩
  · simp [World.cell?, h, hj]
  · simp [World.frozen?, h]
theorem below_setCells {B b : Nat} {a : World} (hb : B ≤ b) : ∀ (vs : List Value) (o : Nat) (w : World), Below B a w → Below B a (w.setCells b o vs)
  | [], _, _, h => h
  | v :: vs, o, _, h => below_setCells hb vs (o + 1) _ (h.setCell hb v)

theorem wpAnyH_three {m : Nat} {listed : Array Bool} {oc oa oz : Oper} {ty : TypeId} {zs : List Value} {c d : Nat} (T : Three P ops m listed oc oa oz ty zs c d) (w0 : World) (a : Act) (f : FuncId) (args : Array Value) (G : Array Value → Prop) (Pn : List PanicEntry → Prop)
    (hc : ∀ u, Below w0.heap.size w0 u → (execOp a.eval oc).run P u = .ok (.enter f args) u)
    (hc2 : ∀ u v, Below w0.heap.size w0 u → (execOp (a.put (some d) v).eval oc).run P u = .ok (.enter f args) u)
    (hcall : ∀ u, Below w0.heap.size w0 u → Calls P f args u fun e u' => Below u.heap.size u u' ∧ ((∃ vals : Array Value, e = .returned (.agg vals) ∧ G vals) ∨ ∃ ch, e = .panicked ch ∧ Pn ch))
    (hG : ∀ vals, G vals → vals.size = zs.length ∧ vals.all (·.oneCell') = true)
    (hcomm : ∀ v v', (a.put (some d) v).put (some c) v' = (a.put (some c) v').put (some d) v)
    (hev : ∀ v v', ((a.put (some c) v').put (some d) v).eval (.tmp d) = v ∧ ((a.put (some c) v').put (some d) v).eval (.tmp c) = v')
    (hpan : ∀ ch (a1 : Act) u, Pn ch → Below w0.heap.size w0 u → a1.defers = a.defers → Q (.panic ch) a1 u)
    (hQ : ∀ vals B u, G vals → Below w0.heap.size w0 u → w0.heap.size ≤ B → u.rangeAt B 0 vals.toList → Q .normal ((a.put (some c) (.agg vals)).put (some d) (.pointer (some ⟨B, 0, none⟩))) u)
    (w : World) (hw : Below w0.heap.size w0 w) : wpAnyH P .any ops Q (fun u => Below w0.heap.size w0 u) 3 listed a w := by
  -- the store, wherever the block lies
  have hstore : ∀ vals B u, G vals → Below w0.heap.size w0 u → w0.heap.size ≤ B → u.heap[B]? = some (.cells zs.toArray ty (0, 0)) →
      wpAnyH P .any ops Q (fun u => Below w0.heap.size w0 u) 1 ((listed.setIfInBounds m true).setIfInBounds (m + 1) true) ((a.put (some c) (.agg vals)).put (some d) (.pointer (some ⟨B, 0, none⟩))) u := by
    intro vals B u hg hu hB hz
    obtain ⟨h1, h2⟩ := hG vals hg
    refine wpAnyH_ready T.r3 (by simp) ?_
    refine AllReadyH.cons T.hoz (fun K hK => ?_) AllReadyH.nil
    rw [if_pos (if_wanted T.gz)]
    have ht : u.there B 0 vals.size := by rw [h1]; exact there_of hz
    refine wp_store_mid ty (.tmp d) (.tmp c) T.opz B 0 vals (hev _ _).1 (hev _ _).2 ht (by rw [T.hi, h1]) h2 ?_
    have hB2 : Below w0.heap.size w0 (u.setCells B 0 vals.toList) := below_setCells hB _ _ _ hu
    refine hK.out _ _ hB2 fun _ => ?_
    rw [T.dz]
    refine wpAnyH_done T.r4 ?_ _
    exact hQ vals B _ hg hB2 hB (World.rangeAt_setCells_same _ _ _ _ (by simpa using ht))
  refine wpAnyH_ready T.r0 (by simp) ?_
  refine AllReadyH.cons T.hoc (fun K hK => ?_) (AllReadyH.cons T.hoa (fun K hK => ?_) AllReadyH.nil)
  · -- the call first
    rw [if_pos (if_wanted T.gc)]
    unfold Oper.wp
    rw [hc w hw, Oper.upon_enter]
    refine (hcall w hw).mono ?_
    rintro e u ⟨hb, ⟨vals, rfl, hg⟩ | ⟨ch, rfl, hp⟩⟩
    · have hu := Below.next hw hb
      refine hK.out _ _ hu fun _ => ?_
      refine wpAnyH_ready T.r1 (by simp) ?_
      refine AllReadyH.cons T.hoa (fun K2 hK2 => ?_) AllReadyH.nil
      rw [if_pos (if_wanted T.ga)]
      unfold Oper.wp execOp
      simp only [T.opa, Sem.run_bind, T.hal, Result.andThen_ok, Sem.run_pure]
      have hu2 : Below w0.heap.size w0 (u.alloc (.cells zs.toArray ty)) := hu.alloc hu.size _
      refine hK2.out _ _ hu2 fun _ => ?_
      rw [T.dc, T.da]
      exact hstore vals u.heap.size _ hg hu2 hu.size (heap_alloc_new _ _)
    · exact hpan ch _ _ hp (Below.next hw hb) rfl
  · -- the variable first
    rw [if_pos (if_wanted T.ga)]
    unfold Oper.wp execOp
    simp only [T.opa, Sem.run_bind, T.hal, Result.andThen_ok, Sem.run_pure]
    have hu2 : Below w0.heap.size w0 (w.alloc (.cells zs.toArray ty)) := hw.alloc hw.size _
    refine hK.out _ _ hu2 fun _ => ?_
    rw [T.da]
    refine wpAnyH_ready T.r2 (by simp) ?_
    refine AllReadyH.cons T.hoc (fun K2 hK2 => ?_) AllReadyH.nil
    rw [if_pos (if_wanted T.gc)]
    unfold Oper.wp
    rw [hc2 _ _ hu2, Oper.upon_enter]
    refine (hcall _ hu2).mono ?_
    rintro e u ⟨hb, ⟨vals, rfl, hg⟩ | ⟨ch, rfl, hp⟩⟩
    · have hu := Below.next hu2 hb
      refine hK2.out _ _ hu fun _ => ?_
      rw [T.dc, hcomm, Array.setIfInBounds_comm _ _ (by omega)]
      refine hstore vals w.heap.size u hg hu hw.size ?_
      rw [hb.block _ (by simp), heap_alloc_new]
    · exact hpan ch _ _ hp (Below.next hu2 hb) rfl

/-- It yields a value, if anything. -/
def isRead (o : Oper) : Bool := match o.op with
  | .load .. | .fieldAddr .. | .indexAddr .. | .extract .. => true
  | _ => false
theorem run_val {s : Sem Value} {w w' : World} {n : Next} (hr : (do pure (Next.value (← s)) : Sem Next).run P w = .ok n w') : ∃ u, n = .value u := by
  simp only [Sem.run_bind] at hr
  cases hq : s.run P w with
  | ok v w2 => rw [hq] at hr; simp only [Result.andThen_ok, Sem.run_pure] at hr; exact ⟨v, (Result.ok.inj hr).1.symm⟩
  | halt x w2 => rw [hq] at hr; simp [Result.andThen] at hr
theorem read_value {o : Oper} (h : isRead o = true) (ρ : Operand → Value) (w w' : World) (n : Next) (hr : (execOp ρ o).run P w = .ok n w') : ∃ u, n = .value u := by
  cases ho : o.op
  case load => unfold execOp at hr; rw [ho] at hr; exact run_val hr
  case fieldAddr => unfold execOp at hr; rw [ho] at hr; exact run_val hr
  case indexAddr => unfold execOp at hr; rw [ho] at hr; exact run_val hr
  case extract => unfold execOp at hr; rw [ho] at hr; exact run_val hr
  all_goals (unfold isRead at h; rw [ho] at h; cases h)
theorem yieldsIf_of_quiet {S : World → Prop} {o : Oper} {a : Act} {K : Act → Prop} (hr : isRead o = true) (h : if Region.wanted o (yielded ops a.tmps) then o.quiet P a S K else K (a.put o.dst undef)) : ∃ v, YieldsIf P ops S o v a ∧ K (a.put o.dst v) := by
  by_cases hw : Region.wanted o (yielded ops a.tmps) = true
  · rw [if_pos hw] at h
    obtain ⟨v, h1, h2⟩ := h
    refine ⟨v, Or.inl ⟨hw, fun w hS => ?_⟩, h2⟩
    have h3 := h1 w hS
    unfold Oper.quietAt at h3
    cases hq : (execOp a.eval o).run P w with
    | ok n w' =>
      obtain ⟨u, rfl⟩ := read_value hr _ _ _ _ hq
      rw [hq] at h3
      simp only [Oper.quietUpon] at h3
      rw [h3.1, h3.2]
    | halt x w' => rw [hq] at h3; simp only [Oper.quietUpon] at h3
  · rw [if_neg hw] at h
    exact ⟨undef, Or.inr ⟨by simpa using hw, rfl⟩, h⟩
def lexR (ops : Array Oper) : List Oper → Nat → Array Bool → Bool
  | [], _, _ => true
  | o :: l, k, listed => isRead o && (Region.ready .any ops listed).contains k && Region.free .any ops listed k && lexR ops l (k + 1) (listed.setIfInBounds k true)
theorem wpAnyH_reads {S : World → Prop} {K : Act → Prop} {rest : Nat} {w : World} (hs : Region.noSelect ops = true) (hQ : ∀ c a d v w, Q (.panic c) (Act.put a d v) w → Q (.panic c) a w) (hS : S w) : ∀ (l : List Oper) (k : Nat) (listed : Array Bool) (a : Act), (∀ j, j < l.length → l[j]? = ops[k + j]?) →
    lexR ops l k listed = true → wpQuiet P ops S K l a → (∀ a', K a' → wpAnyH P .any ops Q S rest (listedTo l.length k listed) a' w) → wpAnyH P .any ops Q S (l.length + rest) listed a w
  | [], _, _, _, _, _, h, hK => by simpa [listedTo] using hK _ h
  | o :: l, k, listed, a, hl, hB, h, hK => by
    have h0 : ops[k]? = some o := by simpa using (hl 0 (by simp)).symm
    simp only [lexR, Bool.and_eq_true] at hB
    obtain ⟨⟨⟨hr, hc⟩, hf⟩, hB'⟩ := hB
    have h' : if Region.wanted o (yielded ops a.tmps) then o.quiet P a S (wpQuiet P ops S K l) else wpQuiet P ops S K l (a.put o.dst undef) := h
    obtain ⟨v, hy, hk⟩ := yieldsIf_of_quiet (ops := ops) hr h'
    rw [show (o :: l).length + rest = (l.length + rest) + 1 by simp; omega]
    exact wpAnyH_take h0 hs hf hc (fun c a w => hQ c a _ _ w) hy hS (wpAnyH_reads hs hQ hS l (k + 1) _ _ (fun j hj => by have := hl (j + 1) (by simp; omega); simpa [Nat.add_assoc, Nat.add_comm 1 j] using this) hB' hk hK)
/-- Those of these places listed. -/
def listedI : List Nat → Array Bool → Array Bool
  | [], l => l
  | i :: js, l => listedI js (l.setIfInBounds i true)
def lexI (ops : Array Oper) : List Nat → List Oper → Array Bool → Bool
  | [], [], _ => true
  | i :: js, o :: l, listed => isRead o && (Region.ready .any ops listed).contains i && Region.free .any ops listed i && lexI ops js l (listed.setIfInBounds i true)
  | _, _, _ => false
theorem wpAnyH_readsI {S : World → Prop} {K : Act → Prop} {rest : Nat} {w : World} (hs : Region.noSelect ops = true) (hQ : ∀ c a d v w, Q (.panic c) (Act.put a d v) w → Q (.panic c) a w) (hS : S w) : ∀ (js : List Nat) (l : List Oper) (listed : Array Bool) (a : Act), (∀ j, j < l.length → ∃ i, js[j]? = some i ∧ ops[i]? = l[j]?) →
    lexI ops js l listed = true → wpQuiet P ops S K l a → (∀ a', K a' → wpAnyH P .any ops Q S rest (listedI js listed) a' w) → wpAnyH P .any ops Q S (js.length + rest) listed a w
  | [], [], _, _, _, _, h, hK => by simpa [listedI] using hK _ h
  | [], _ :: _, _, _, _, hB, _, _ => by simp [lexI] at hB
  | _ :: _, [], _, _, _, hB, _, _ => by simp [lexI] at hB
  | i :: js, o :: l, listed, a, hl, hB, h, hK => by
    have h0 : ops[i]? = some o := by
      obtain ⟨i', h1, h2⟩ := hl 0 (by simp)
      have : i = i' := by simpa using h1
      subst this
      simpa using h2
    simp only [lexI, Bool.and_eq_true] at hB
    obtain ⟨⟨⟨hr, hc⟩, hf⟩, hB'⟩ := hB
    have h' : if Region.wanted o (yielded ops a.tmps) then o.quiet P a S (wpQuiet P ops S K l) else wpQuiet P ops S K l (a.put o.dst undef) := h
    obtain ⟨v, hy, hk⟩ := yieldsIf_of_quiet (ops := ops) hr h'
    rw [show (i :: js).length + rest = (js.length + rest) + 1 by simp; omega]
    exact wpAnyH_take h0 hs hf hc (fun c a w => hQ c a _ _ w) hy hS (wpAnyH_readsI hs hQ hS js l _ _ (fun j hj => by
      obtain ⟨i', h1, h2⟩ := hl (j + 1) (by simp; omega)
      exact ⟨i', by simpa using h1, by simpa using h2⟩) hB' hk hK)
/-- The worlds that meet S. -/
def Wd (S : World → Prop) : Type := { u : World // S u }
def Wd.w {S : World → Prop} (x : Wd S) : World := x.1
/-- A region that draws: first all that only reads. -/
theorem wp_region_reads {id : Nat} {a : Act} {w : World} {l : List Oper} (S : World → Prop) (js : List Nat) (rest : Nat) (hm : P.follows .mixedOrders = true) (hlen : l.length = js.length + rest) (hB : (Region.noSelect l.toArray && lexI l.toArray js (js.filterMap (l[·]?)) (Array.replicate l.length false)) = true) (hj : ∀ j, j < (js.filterMap (l[·]?)).length → ∃ i, js[j]? = some i ∧ l.toArray[i]? = (js.filterMap (l[·]?))[j]?)
    (hQ : ∀ c a d v w, Q (.panic c) (Act.put a d v) w → Q (.panic c) a w) (hS : S w.drew)
    (h : wpQuiet P l.toArray (fun u => ∃ x : Wd S, u = x.w) (fun a' => wpAnyH P .any l.toArray Q S rest (listedI js (Array.replicate l.length false)) a' w.drew) (js.filterMap (l[·]?)) a) : (Code.region id l.toArray true).wp P Q a w := by
  simp only [Bool.and_eq_true] at hB
  refine wp_region_held_drew (S := S) hm hS fun hS => ?_
  have e3 : Array.replicate l.toArray.size false = Array.replicate l.length false := by simp
  have e2 : l.toArray.size = js.length + rest := by simpa using hlen
  have eS : (fun u : World => ∃ x : Wd S, u = x.w) = S := by
    funext u; apply propext
    exact ⟨fun ⟨x, hx⟩ => hx ▸ x.2, fun h => ⟨⟨u, h⟩, rfl⟩⟩
  rw [eS] at h
  rw [e3, e2]
  exact wpAnyH_readsI hB.1 hQ hS js _ _ a hj hB.2 h (fun a' h => h)
theorem wp_store_blk {o : Oper} {a : Act} {w : World} {K : Act → World → Prop} (t : TypeId) (p x : Operand) (ho : o.op = .store t p x) (hdst : o.dst = none) (B : Nat) (vs c : List Value) (hp : a.eval p = .pointer (some ⟨B, 0, none⟩)) (hx : a.eval x = .agg vs.toArray) (h1 : vs.all (·.oneCell') = true)
    (hb : w.heap[B]? = some (.cells c.toArray t (0, 0))) (hl : c.length = vs.length) (hi : (P.info? t).map (·.size) = some vs.toArray.size) (h : K a (w.setCells B 0 vs)) : o.wp P a w K Q := by
  refine wp_store_mid t p x ho B 0 vs.toArray hp hx ?_ hi (by simpa using h1) ?_
  · have := there_of hb; rw [hl] at this; simpa using this
  · rw [hdst]; exact h
/-- The whole region. -/
theorem wp_region_new {id : Nat} {a : Act} {w : World} {l : List Oper} (m : Nat) {oc oa oz : Oper} {ty : TypeId} {zs : List Value} {c d : Nat} (hm : P.follows .mixedOrders = true) (hlen : l.length = m + 3) (hB : (Region.noSelect l.toArray && lexR l.toArray (l.take m) 0 (Array.replicate l.length false)) = true)
    (T : Three P l.toArray m (listedTo m 0 (Array.replicate l.length false)) oc oa oz ty zs c d) (G : Array Value → Prop) (Pn : List PanicEntry → Prop)
    (hQ : ∀ c a d v w, Q (.panic c) (Act.put a d v) w → Q (.panic c) a w) (hG : ∀ vals, G vals → vals.size = zs.length ∧ vals.all (·.oneCell') = true)
    (h : wpQuiet P l.toArray (fun u => ∃ x : Gr w, u = x.w) (fun a' => ∃ f args,
      (∀ u, Below w.heap.size w u → (execOp a'.eval oc).run P u = .ok (.enter f args) u) ∧ (∀ u v, Below w.heap.size w u → (execOp (a'.put (some d) v).eval oc).run P u = .ok (.enter f args) u) ∧
      (∀ v v', (a'.put (some d) v).put (some c) v' = (a'.put (some c) v').put (some d) v) ∧ (∀ v v', ((a'.put (some c) v').put (some d) v).eval (.tmp d) = v ∧ ((a'.put (some c) v').put (some d) v).eval (.tmp c) = v') ∧
      (∀ u, Below w.heap.size w u → Calls P f args u fun e u' => Below u.heap.size u u' ∧ ((∃ vals : Array Value, e = .returned (.agg vals) ∧ G vals) ∨ ∃ ch, e = .panicked ch ∧ Pn ch)) ∧
      (∀ ch (a1 : Act) u, Pn ch → Below w.heap.size w u → a1.defers = a'.defers → Q (.panic ch) a1 u) ∧
      (∀ vals B u, G vals → Below w.heap.size w u → w.heap.size ≤ B → u.rangeAt B 0 vals.toList → Q .normal ((a'.put (some c) (.agg vals)).put (some d) (.pointer (some ⟨B, 0, none⟩))) u)) (l.take m) a) : (Code.region id l.toArray true).wp P Q a w := by
  simp only [Bool.and_eq_true] at hB
  have e1 : (l.take m).length = m := by simp; omega
  refine wp_region_held_drew (S := fun u => ∃ x : Gr w, u = x.w) hm ⟨⟨_, (Below.refl _ _).drew⟩, rfl⟩ fun hS => ?_
  have e2 : l.toArray.size = (l.take m).length + 3 := by rw [e1]; simpa using hlen
  have e3 : Array.replicate l.toArray.size false = Array.replicate l.length false := by simp
  rw [e3, e2]
  refine wpAnyH_reads hB.1 hQ hS (l.take m) 0 _ a (fun j hj => by rw [e1] at hj; simp [hj]) hB.2 h ?_
  rintro a' ⟨f, args, h1, h2, h3, h4, h5, h6, h7⟩
  rw [e1]
  have hw : Below w.heap.size w w.drew := (Below.refl _ _).drew
  have key := wpAnyH_three T w a' f args G Pn h1 h2 h5 hG h3 h4 h6 h7 w.drew hw
  have eS : (fun u : World => ∃ x : Gr w, u = x.w) = (fun u => Below w.heap.size w u) := by
    funext u; apply propext
    exact ⟨fun ⟨x, hx⟩ => hx ▸ x.bl, fun h => ⟨⟨u, h⟩, rfl⟩⟩
  rw [eS]
  exact key
end
end Go.Proofs.Ytbdhbgilaeldgaa
