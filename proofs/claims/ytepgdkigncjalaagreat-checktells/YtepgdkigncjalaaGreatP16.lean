/- Layer 2: a type stored. -/
import Derived.Test.YtepgdkigncjalaaGreatP15
import Derived.Deep.MidRow
import Derived.Test.YtepgdkigncjalaaGreatP11
import Derived.Test.YtepgdkigncjalaaGreatP2
import Derived.Test.YtepgdkigncjalaaGreatP12
import Derived.Test.YtepgdkigncjalaaGreatP13
import Derived.BigQuiet
import Derived.Deep.QuietTactic
import Derived.Test.YtepgdkigncjalaaGreatP3
import Derived.WalkLawsBesides
namespace Go.Proofs.YtepgdkigncjalaaGreat
open Go.RowKit

/-- Five cells written. -/
def World.put5 (w : World) (B : Nat) (v0 v1 v2 v3 v4 : Value) : World := ((((w.setCell ⟨B, 0, none⟩ v0).setCell ⟨B, 1, none⟩ v1).setCell ⟨B, 2, none⟩ v2).setCell ⟨B, 3, none⟩ v3).setCell ⟨B, 4, none⟩ v4
theorem put5_heap (w : World) (B : Nat) (v0 v1 v2 v3 v4 : Value) {b : Nat} (h : b ≠ B) : (World.put5 w B v0 v1 v2 v3 v4).heap[b]? = w.heap[b]? := by
  unfold World.put5
  rw [Below.heap_setCell _ _ _ _ h, Below.heap_setCell _ _ _ _ h, Below.heap_setCell _ _ _ _ h, Below.heap_setCell _ _ _ _ h, Below.heap_setCell _ _ _ _ h]
theorem put5_below {w w1 : World} {B : Nat} (hB : w.heap.size ≤ B) (h : Below w.heap.size w w1) (v0 v1 v2 v3 v4 : Value) : Below w.heap.size w (World.put5 w1 B v0 v1 v2 v3 v4) :=
  ((((h.setCell hB _).setCell hB _).setCell hB _).setCell hB _).setCell hB _
theorem put5_frozen (w : World) (B : Nat) (v0 v1 v2 v3 v4 : Value) (a : Addr) : (World.put5 w B v0 v1 v2 v3 v4).frozen? a = w.frozen? a := by
  unfold World.put5
  rw [World.frozen?_setCell, World.frozen?_setCell, World.frozen?_setCell, World.frozen?_setCell, World.frozen?_setCell]
theorem put5_cells {w : World} {B : Nat} (v0 v1 v2 v3 v4 : Value) {t : Ty} (h : Bx w B t) (hf : ∀ i, i < 5 → w.frozen? ⟨B, i, none⟩ = false) : (World.put5 w B v0 v1 v2 v3 v4).cell? ⟨B, 0, none⟩ = some v0 ∧ (World.put5 w B v0 v1 v2 v3 v4).cell? ⟨B, 1, none⟩ = some v1 ∧ (World.put5 w B v0 v1 v2 v3 v4).cell? ⟨B, 2, none⟩ = some v2 ∧ (World.put5 w B v0 v1 v2 v3 v4).cell? ⟨B, 3, none⟩ = some v3 ∧ (World.put5 w B v0 v1 v2 v3 v4).cell? ⟨B, 4, none⟩ = some v4 := by
  have key := World.rangeAt_setCells_same w B 0 [v0, v1, v2, v3, v4] (fun j hj => ?_)
  · exact ⟨key 0 v0 rfl, key 1 v1 rfl, key 2 v2 rfl, key 3 v3 rfl, key 4 v4 rfl⟩
  · have hj' : j < 5 := hj
    rw [Nat.zero_add]
    refine ⟨?_, hf j hj'⟩
    match j, hj' with
    | 0, _ => rw [h.c0]; rfl
    | 1, _ => rw [h.c1]; rfl
    | 2, _ => rw [h.c2]; rfl
    | 3, _ => rw [h.c3]; rfl
    | 4, _ => rw [h.c4]; rfl
theorem wpList_store5 {w : World} {ops : Array Oper} {rest : List Oper} {o : Oper} {a : Act} {Q : Exit → Act → World → Prop} (hgd : o.guard = none) (hdst : o.dst = none) (p x : Operand) (ho : o.op = .store 34 p x) (B : Nat) (v0 v1 v2 v3 v4 : Value)
    (hp : a.eval p = .pointer (some ⟨B, 0, none⟩)) (hx : a.eval x = .agg #[v0, v1, v2, v3, v4]) (h0 : v0.oneCell' = true) (h1 : v1.oneCell' = true) (h2 : v2.oneCell' = true) (h3 : v3.oneCell' = true) (h4 : v4.oneCell' = true) {t : Ty} (hb : Bx w B t) (hf : ∀ i, i < 5 → w.frozen? ⟨B, i, none⟩ = false)
    (h : wpList Tryz.prog ops Q rest a (World.put5 w B v0 v1 v2 v3 v4)) : wpList Tryz.prog ops Q (o :: rest) a w := by
  refine wpList_store_mid hgd 34 p x ho B 0 #[v0, v1, v2, v3, v4] hp hx (fun j hj => ?_) (by kernel_rfl) (by simp [h0, h1, h2, h3, h4]) ?_
  · have hj' : j < 5 := hj
    rw [Nat.zero_add]
    refine ⟨?_, hf j hj'⟩
    match j, hj' with
    | 0, _ => rw [hb.c0]; rfl
    | 1, _ => rw [hb.c1]; rfl
    | 2, _ => rw [hb.c2]; rfl
    | 3, _ => rw [hb.c3]; rfl
    | 4, _ => rw [hb.c4]; rfl
  · rw [hdst]
    exact h
end Go.Proofs.YtepgdkigncjalaaGreat

/- Layer 2: Raise. -/
namespace Go.Proofs.YtepgdkigncjalaaGreat
open Go.RowKit

def Ty.setL (j : Int) : Ty → Ty
  | .dm => .dm
  | .mk k _ h e ao b o len cap ps => .mk k j h e ao b o len cap ps
theorem setL_at {w : World} {j : Int} : ∀ {t : Ty}, t.At w → (t.setL j).At w
  | .dm, h => h
  | .mk _ _ _ _ _ _ _ _ _ _, h => h
theorem setL_blk {Q : Nat → Prop} {j : Int} : ∀ {t : Ty}, t.Blk Q → (t.setL j).Blk Q
  | .dm, h => h
  | .mk _ _ _ _ _ _ _ _ _ _, h => h
theorem setL_v {w : World} {j : Int} : ∀ {t : Ty}, t.At w → (t.setL j).k = t.k ∧ (t.setL j).l = j ∧ (t.setL j).ao = t.ao ∧ (t.setL j).len = t.len ∧ (t.setL j).cap = t.cap ∧ (t.setL j).h = t.h ∧ (t.setL j).e = t.e
  | .dm, h => h.elim
  | .mk _ _ _ _ _ _ _ _ _ _, _ => ⟨rfl, rfl, rfl, rfl, rfl, rfl, rfl⟩
theorem setL_same {w w' : World} {j : Int} : ∀ {s t : Ty}, s.At w → t.At w' → s.same t = true → (s.setL j).same (t.setL j) = true
  | .dm, _, h, _, _ => h.elim
  | .mk _ _ _ _ _ _ _ _ _ _, .dm, _, h, _ => h.elim
  | .mk _ _ _ _ _ _ _ _ _ _, .mk _ _ _ _ _ _ _ _ _ _, _, _, h => by
    rw [same_iff] at h ⊢
    exact ⟨⟨h.1.1, rfl, h.1.2.2⟩, h.2⟩

theorem Bx.agree {w w' : World} {B : Nat} {t : Ty} (h : Bx w B t) (e : w'.heap[B]? = w.heap[B]?) : Bx w' B t :=
  ⟨(World.cell?_of_block (w := w) e).trans h.c0, (World.cell?_of_block (w := w) e).trans h.c1, (World.cell?_of_block (w := w) e).trans h.c2, (World.cell?_of_block (w := w) e).trans h.c3, (World.cell?_of_block (w := w) e).trans h.c4⟩

/-- What Raise answers, but for where it lies. -/
def raiseT (n : Strs) (g : Grid) (t : Ty) (a : Int) : Ty := if (okB n g t && inR n.len a) = true then t.setL (joinI n g t.l a) else leafT 0 0
def RP (w : World) (r : Ty) (e : Ending) (w' : World) : Prop :=
  ∃ u : Ty, e = .returned (.agg #[.int .i64 u.k, .int .i64 u.l, .slice u.ao u.len u.cap, .int .i64 u.h, .int .i64 u.e]) ∧ u.At w' ∧ u.Blk (fun b => w.heap.size ≤ b) ∧ u.same r = true ∧ Below w.heap.size w w'
theorem RP.intro {w : World} {r : Ty} {e : Ending} {w' : World} (u : Ty) (h1 : e = .returned (.agg #[.int .i64 u.k, .int .i64 u.l, .slice u.ao u.len u.cap, .int .i64 u.h, .int .i64 u.e])) (h2 : u.At w') (h3 : u.Blk (fun b => w.heap.size ≤ b)) (h4 : u.same r = true) (h5 : Below w.heap.size w w') : RP w r e w' := ⟨u, h1, h2, h3, h4, h5⟩

structure RBox (w w0 : World) (n : Strs) (g : Grid) (t : Ty) : Prop where
  bl : Below w.heap.size w w0
  sz : w.heap.size + 3 ≤ w0.heap.size
  l : Bl w0 w.heap.size n g
  x : Bx w0 (w.heap.size + 1) t
  fx : ∀ i, i < 5 → w0.frozen? ⟨w.heap.size + 1, i, none⟩ = false
  r : Bx w0 (w.heap.size + 2) (leafT 0 0)
  fr : ∀ i, i < 5 → w0.frozen? ⟨w.heap.size + 2, i, none⟩ = false
theorem RBox.step {w w0 w1 : World} {n : Strs} {g : Grid} {t : Ty} (h : RBox w w0 n g t) (hb : Below w0.heap.size w0 w1) : RBox w w1 n g t :=
  ⟨h.bl.trans (hb.mono (by have := h.sz; omega)), Nat.le_trans h.sz hb.size, h.l.kept hb, h.x.kept hb, fun i hi => (hb.frozen (p := ⟨w.heap.size + 1, i, none⟩) (by have := h.sz; show w.heap.size + 1 < _; omega)).trans (h.fx i hi), h.r.kept hb, fun i hi => (hb.frozen (p := ⟨w.heap.size + 2, i, none⟩) (by have := h.sz; show w.heap.size + 2 < _; omega)).trans (h.fr i hi)⟩
theorem frozen_new (w : World) (c : Array Value) (t : TypeId) (i : Nat) : (w.alloc (.cells c t)).frozen? ⟨w.heap.size, i, none⟩ = false := by simp
theorem rbox_new (w : World) (n : Strs) (g : Grid) (t : Ty) : RBox w (((w.alloc (latO n g)).alloc (tyO t)).alloc (.cells #[.int .i64 0, .int .i64 0, .slice none 0 0, .int .i64 0, .int .i64 0] 34)) n g t := by
  obtain ⟨L0, X0, B0⟩ := start_lt w n g t
  have ba := below_alloc ((w.alloc (latO n g)).alloc (tyO t)) (.cells #[.int .i64 0, .int .i64 0, .slice none 0 0, .int .i64 0, .int .i64 0] 34)
  have e1 : (w.alloc (latO n g)).heap.size = w.heap.size + 1 := alloc_size _ _
  have e2 : ((w.alloc (latO n g)).alloc (tyO t)).heap.size = w.heap.size + 2 := by rw [alloc_size, e1]
  refine ⟨Below.next B0 ba, by rw [alloc_size, e2]; omega, L0.kept ba, X0.kept ba, fun i hi => ?_, ?_, fun i hi => ?_⟩
  · rw [ba.frozen (p := ⟨w.heap.size + 1, i, none⟩) (by rw [e2]; exact Nat.lt_succ_self _), ← e1]
    simp [tyO]
  · rw [← e2]
    exact Bx.new _ (leafT 0 0)
  · rw [← e2]
    exact frozen_new _ _ _ _

theorem joinI_no {n : Strs} {g : Grid} {a b : Int} (h : inR n.len b = false) : joinI n g a b = -1 := by
  unfold joinI
  rw [if_neg]
  intro hh
  rw [Bool.and_eq_true, Bool.and_eq_true] at hh
  have : labB n b = inR n.len b := rfl
  rw [this, h] at hh
  exact Bool.noConfusion hh.1.2
theorem joinI_yes {n : Strs} {g : Grid} {t : Ty} {b : Int} (hk : okB n g t = true) (h : inR n.len b = true) : (joinI n g t.l b == -1) = false := by
  unfold okB at hk
  rw [Bool.and_eq_true] at hk
  obtain ⟨x, hx, hx1⟩ := (fd_ok hk.2).lab
  obtain ⟨y, hy, hy1⟩ := inR_nat h
  rw [hx, hy, joinI_nat hk.1 hx1 hy1]
  simp

set_option maxRecDepth 100000 in
set_option maxHeartbeats 4000000 in
theorem Raise_any (n : Strs) (g : Grid) (t : Ty) (a : Int) (w : World) (hn : n.At w) (hg : g.At w) (ht : t.At w) :
    Calls Tryz.prog 107 #[.agg #[.slice n.ao n.len n.cap, .slice g.ao g.len g.cap], .agg #[.int .i64 t.k, .int .i64 t.l, .slice t.ao t.len t.cap, .int .i64 t.h, .int .i64 t.e], .int .i64 a] w fun e w' => RP w (raiseT n g t a) e w' := by
  have K0 := rbox_new w n g t
  unfold latO tyO at K0
  have l0 := K0.l.c0
  have l1 := K0.l.c1
  have x1 := K0.x.c1
  go_enter Tryz.func107, Tryz.ntmps107
  go_wp2_with fail
  refine (Join_any n g t.l a _ (hn.kept K0.bl) (hg.kept K0.bl)).mono ?_
  rintro e w1 ⟨rfl, hb1⟩
  have K1 := K0.step hb1
  clear K0 hb1 l0 l1 x1
  have HN : Hid (n.At w ∧ g.At w ∧ t.At w) := ⟨hn, hg, ht⟩
  clear hn hg ht
  cases hj : (joinI n g t.l a == -1)
  · have HJ : Hid ((joinI n g t.l a == -1) = false) := hj
    have l0 := K1.l.c0
    have l1 := K1.l.c1
    have x0 := K1.x.c0
    have x1 := K1.x.c1
    have x2 := K1.x.c2
    have x3 := K1.x.c3
    have x4 := K1.x.c4
    go_wp2_with fail
    refine (Formed2_any n g t _ (HN.out.1.kept K1.bl) (HN.out.2.1.kept K1.bl) (HN.out.2.2.kept K1.bl)).mono ?_
    rintro e w2 ⟨rfl, hb2⟩
    have K2 := K1.step hb2
    clear K1 hb2 l0 l1 x0 x1 x2 x3 x4
    cases hok : okB n g t
    · have HE : Hid (raiseT n g t a = leafT 0 0) := by show raiseT n g t a = _; unfold raiseT; rw [hok]; rfl
      clear hj
      have RB := K2.r
      have RF := K2.fr
      obtain ⟨e0, e1, e2, e3, e4⟩ := put5_cells (.int .i64 0) (.int .i64 0) (.slice none 0 0) (.int .i64 0) (.int .i64 0) RB RF
      go_wp2_with (refine wpList_store5 rfl rfl _ _ rfl (w.heap.size + 2) _ _ _ _ _ rfl rfl rfl rfl rfl rfl rfl RB RF ?_)
      exact bodyPost_ret (v := .agg #[.int .i64 0, .int .i64 0, .slice none 0 0, .int .i64 0, .int .i64 0]) (by simp [results, Tryz.results107, go_sem, e0, e1, e2, e3, e4]) rfl (RP.intro (leafT 0 0) rfl (leaf_at _ _ _) ⟨fun h => absurd h (Nat.lt_irrefl _), fun _ h => absurd h (Nat.not_lt_zero _)⟩ (by rw [HE.out]; exact same_refl _) (put5_below (by omega) K2.bl _ _ _ _ _))
    · have HK : Hid (okB n g t = true) := hok
      have HE : Hid (raiseT n g t a = t.setL (joinI n g t.l a)) := by
        show raiseT n g t a = _
        unfold raiseT
        cases hi : inR n.len a
        · rw [joinI_no hi] at hj; cases hj
        · rw [hok]; rfl
      have hnod : t.nodes ≤ 1000 := by
        unfold okB at hok
        rw [Bool.and_eq_true] at hok
        have := (ok_parts hok.2).2
        omega
      have hC := clone2_any t w2 hnod (HN.out.2.2.kept K2.bl)
      clear hj hok hnod
      generalize joinI n g t.l a = jn at HE HJ ⊢
      have x0 := K2.x.c0
      have x1 := K2.x.c1
      have x2 := K2.x.c2
      have x3 := K2.x.c3
      have x4 := K2.x.c4
      go_wp2_with fail
      refine hC.mono ?_
      intro e w3 hCP
      obtain ⟨u, rfl, uA, uB, uS, hb3⟩ := hCP
      have K3 := K2.step hb3
      have HU : Hid (u.At w3 ∧ u.Blk (fun b => w.heap.size + 3 ≤ b) ∧ u.same t = true) := ⟨uA, uB.mono (fun b hq => Nat.le_trans K2.sz hq), uS⟩
      clear hC K2 hb3 uA uB uS x0 x1 x2 x3 x4
      dsimp only
      rename_i K a1
      refine a1 _ _ ?_
      refine wpList_store5 rfl rfl _ _ rfl (w.heap.size + 1) _ _ _ _ _ rfl rfl rfl rfl rfl rfl rfl K3.x K3.fx ?_
      obtain ⟨p0, p1, p2, p3, p4⟩ := put5_cells (.int .i64 u.k) (.int .i64 u.l) (.slice u.ao u.len u.cap) (.int .i64 u.h) (.int .i64 u.e) K3.x K3.fx
      have pf : ∀ a, (World.put5 w3 (w.heap.size + 1) (.int .i64 u.k) (.int .i64 u.l) (.slice u.ao u.len u.cap) (.int .i64 u.h) (.int .i64 u.e)).frozen? a = w3.frozen? a := fun a => put5_frozen _ _ _ _ _ _ _ _
      have ph : ∀ b, b ≠ w.heap.size + 1 → (World.put5 w3 (w.heap.size + 1) (.int .i64 u.k) (.int .i64 u.l) (.slice u.ao u.len u.cap) (.int .i64 u.h) (.int .i64 u.e)).heap[b]? = w3.heap[b]? := fun b hb => put5_heap _ _ _ _ _ _ _ hb
      have pb : Below w.heap.size w (World.put5 w3 (w.heap.size + 1) (.int .i64 u.k) (.int .i64 u.l) (.slice u.ao u.len u.cap) (.int .i64 u.h) (.int .i64 u.e)) := put5_below (by omega) K3.bl _ _ _ _ _
      generalize World.put5 w3 (w.heap.size + 1) (.int .i64 u.k) (.int .i64 u.l) (.slice u.ao u.len u.cap) (.int .i64 u.h) (.int .i64 u.e) = X at p0 p1 p2 p3 p4 pf ph pb ⊢
      have hz : (X.setCell ⟨w.heap.size + 1, 1, none⟩ (.int .i64 jn)).heap[w.heap.size + 2]? = w3.heap[w.heap.size + 2]? := by
        rw [Below.heap_setCell _ _ _ _ (by show w.heap.size + 2 ≠ w.heap.size + 1; omega), ph _ (by omega)]
      have RB : Bx (X.setCell ⟨w.heap.size + 1, 1, none⟩ (.int .i64 jn)) (w.heap.size + 2) (leafT 0 0) := K3.r.agree hz
      have RF : ∀ i, i < 5 → (X.setCell ⟨w.heap.size + 1, 1, none⟩ (.int .i64 jn)).frozen? ⟨w.heap.size + 2, i, none⟩ = false := fun i hi => by rw [World.frozen?_setCell, pf]; exact K3.fr i hi
      have HB : Hid (Below w.heap.size w (World.put5 (X.setCell ⟨w.heap.size + 1, 1, none⟩ (.int .i64 jn)) (w.heap.size + 2) (.int .i64 u.k) (.int .i64 jn) (.slice u.ao u.len u.cap) (.int .i64 u.h) (.int .i64 u.e))) := put5_below (by omega) (pb.setCell (by show w.heap.size ≤ w.heap.size + 1; omega) _) _ _ _ _ _
      have HA : Hid ((u.setL jn).At (World.put5 (X.setCell ⟨w.heap.size + 1, 1, none⟩ (.int .i64 jn)) (w.heap.size + 2) (.int .i64 u.k) (.int .i64 jn) (.slice u.ao u.len u.cap) (.int .i64 u.h) (.int .i64 u.e))) :=
        setL_at (Ty.At.agree (Q := fun b => w.heap.size + 3 ≤ b) (fun b hq => by rw [put5_heap _ _ _ _ _ _ _ (by omega), Below.heap_setCell _ _ _ _ (by show b ≠ w.heap.size + 1; omega), ph _ (by omega)]) HU.out.1 HU.out.2.1)
      have pf1 : X.frozen? ⟨w.heap.size + 1, 1, none⟩ = false := (pf _).trans (K3.fx 1 (by omega))
      have HR : Hid (Bx (X.setCell ⟨w.heap.size + 1, 1, none⟩ (.int .i64 jn)) (w.heap.size + 2) (leafT 0 0) ∧ ∀ i, i < 5 → (X.setCell ⟨w.heap.size + 1, 1, none⟩ (.int .i64 jn)).frozen? ⟨w.heap.size + 2, i, none⟩ = false) := ⟨RB, RF⟩
      clear hz K3 pf ph pb RB RF
      go_wp2_with (refine wpList_store5 rfl rfl _ _ rfl (w.heap.size + 2) _ _ _ _ _ rfl rfl rfl rfl rfl rfl rfl HR.out.1 HR.out.2 ?_)
      obtain ⟨e0, e1, e2, e3, e4⟩ := put5_cells (.int .i64 u.k) (.int .i64 jn) (.slice u.ao u.len u.cap) (.int .i64 u.h) (.int .i64 u.e) HR.out.1 HR.out.2
      have hv := setL_v (j := jn) HU.out.1
      exact bodyPost_ret (v := .agg #[.int .i64 u.k, .int .i64 jn, .slice u.ao u.len u.cap, .int .i64 u.h, .int .i64 u.e]) (by simp [results, Tryz.results107, go_sem, e0, e1, e2, e3, e4]) rfl (RP.intro (u.setL jn) (by rw [hv.1, hv.2.1, hv.2.2.1, hv.2.2.2.1, hv.2.2.2.2.1, hv.2.2.2.2.2.1, hv.2.2.2.2.2.2]) HA.out (setL_blk (HU.out.2.1.mono (fun b hq => by omega))) (by rw [HE.out]; exact setL_same HU.out.1 HN.out.2.2 HU.out.2.2) HB.out)
  · have HE : Hid (raiseT n g t a = leafT 0 0) := by
      show raiseT n g t a = _
      unfold raiseT
      cases hok : (okB n g t && inR n.len a)
      · rfl
      · rw [Bool.and_eq_true] at hok
        rw [joinI_yes hok.1 hok.2] at hj; cases hj
    have RB := K1.r
    have RF := K1.fr
    obtain ⟨e0, e1, e2, e3, e4⟩ := put5_cells (.int .i64 0) (.int .i64 0) (.slice none 0 0) (.int .i64 0) (.int .i64 0) RB RF
    go_wp2_with (refine wpList_store5 rfl rfl _ _ rfl (w.heap.size + 2) _ _ _ _ _ rfl rfl rfl rfl rfl rfl rfl RB RF ?_)
    exact bodyPost_ret (v := .agg #[.int .i64 0, .int .i64 0, .slice none 0 0, .int .i64 0, .int .i64 0]) (by simp [results, Tryz.results107, go_sem, e0, e1, e2, e3, e4]) rfl (RP.intro (leafT 0 0) rfl (leaf_at _ _ _) ⟨fun h => absurd h (Nat.lt_irrefl _), fun _ h => absurd h (Nat.not_lt_zero _)⟩ (by rw [HE.out]; exact same_refl _) (put5_below (by omega) K1.bl _ _ _ _ _))
end Go.Proofs.YtepgdkigncjalaaGreat

/- Layer 6: a name that is no keyword; what is small. -/
namespace Go.Proofs.YtepgdkigncjalaaGreat
open Go.RowKit

theorem wpList_want {ops : Array Oper} {rest : List Oper} {o : Oper} {a : Act} {w : World} {Q : Exit → Act → World → Prop} (hw : Region.wanted o (yielded ops a.tmps) = true) (h : ∀ K : Act → World → Prop, (∀ a w, wpList Tryz.prog ops Q rest a w → K a w) → o.wp Tryz.prog a w K Q) : wpList Tryz.prog ops Q (o :: rest) a w :=
  wpList_step fun K hK => by simp only [hw, if_true]; exact h K hK
theorem wpList_load_exG {ops : Array Oper} {rest : List Oper} {op : Oper} {a : Act} {w : World} {Q : Exit → Act → World → Prop} (hw : Region.wanted op (yielded ops a.tmps) = true) (x : Operand) (ho : op.op = .load 37 x)
    (b o : Nat) (hx : a.eval x = .pointer (some ⟨b, o, none⟩)) (e : Ex) (hc : C17 w b o e) (h : wpList Tryz.prog ops Q rest (a.put op.dst (.agg e.va)) w) : wpList Tryz.prog ops Q (op :: rest) a w :=
  wpList_want hw fun _ hK => wp_load_mid 37 x ho b o hx e.vs _ hc.range Tryz.underlying37 rfl (by kernel_rfl) (hK _ _ h)

/-- The keywords. -/
def kwsE : List (List UInt8) := [[108, 97, 116, 116, 105, 99, 101], [109, 97, 105, 110], [108, 101, 116], [105, 110], [105, 102], [116, 104, 101, 110], [101, 108, 115, 101], [102, 117, 110], [101, 110, 100], [114, 97, 105, 115, 101], [116, 114, 121], [119, 105, 116, 104], [111, 117, 116], [110, 101, 119], [110, 111, 116], [102, 115, 116], [115, 110, 100], [116, 114, 117, 101], [102, 97, 108, 115, 101], [105, 110, 116], [98, 111, 111, 108], [114, 101, 102], [110, 111, 110, 101]]
def kwE : List ByteArray := kwsE.map fun l => ⟨l.toArray⟩
def kwA : Array Value := (kwE.map Value.string).toArray
def kwS (b : Nat) : Strs := ⟨some ⟨b, 0, none⟩, b, 0, 23, 23, fun i => kwE.getD i ⟨#[]⟩⟩
theorem kwS_at (w : World) : (kwS w.heap.size).At (w.alloc (.cells kwA 9)) where
  lc := Nat.le_refl _
  nil := fun _ => rfl
  bound := by show 23 ≤ _; decide
  cell := fun i hi => by
    have hi : i < 23 := hi
    show (w.alloc (.cells kwA 9)).cell? ⟨w.heap.size, 0 + i, none⟩ = some (.string (kwE.getD i ⟨#[]⟩))
    have hl : i < kwE.length := hi
    rw [Nat.zero_add]
    simp [kwA, List.getD, hl]
  sz := fun i hi => by
    have hi : i < 23 := hi
    show (kwE.getD i ⟨#[]⟩).size ≤ _
    have : ∀ i : Fin 23, (kwE.getD i ⟨#[]⟩).size ≤ 9223372036854775807 := by decide +kernel
    exact this ⟨i, hi⟩
set_option maxHeartbeats 1000000 in
theorem wordsE_any (w : World) :
    Calls Tryz.prog 111 #[] w fun e w' => e = .returned (.slice (some ⟨w.heap.size, 0, none⟩) 23 23) ∧ w' = w.alloc (.cells kwA 9) := by
  go_enter Tryz.func111, Tryz.ntmps111
  go_wp2
  go_ret
  exact ⟨rfl, rfl⟩
/-- Is it a keyword? -/
def kwB' (s : ByteArray) : Bool := holdsB (kwS 0).s 23 s
set_option maxHeartbeats 1000000 in
theorem keywordE_any (s : ByteArray) (w : World) :
    Calls Tryz.prog 78 #[.string s] w fun e w' => e = .returned (.bool (kwB' s)) ∧ Below w.heap.size w w' := by
  have hc := contains_any (kwS w.heap.size) 23 23 s _ (kwS_at w) (Nat.le_refl _) (some ⟨w.heap.size, 0, none⟩) (fun _ => rfl)
  go_enter Tryz.func78, Tryz.ntmps78
  go_wp2_with (first
    | (go_at_call 111; refine (wordsE_any _).mono ?_; rintro e w' ⟨rfl, rfl⟩)
    | (go_at_call 46; refine hc.mono ?_; rintro e w' ⟨rfl, rfl⟩))
  go_ret
  exact ⟨rfl, below_alloc _ _⟩
set_option maxHeartbeats 1000000 in
theorem isName_yes (s : ByteArray) (w : World) (h1 : nameB s = true) (h2 : kwB' s = false) :
    Calls Tryz.prog 54 #[.string s] w fun e w' => e = .returned (.bool true) ∧ Below w.heap.size w w' := by
  have hn := name_any s w
  rw [h1] at hn
  clear h1
  go_enter Tryz.func54, Tryz.ntmps54
  go_wp2_with fail
  refine hn.mono ?_
  rintro e w1 ⟨rfl, b1⟩
  have hk := keywordE_any s w1
  rw [h2] at hk
  go_wp2_with fail
  refine hk.mono ?_
  rintro e w2 ⟨rfl, b2⟩
  go_wp2
  go_ret
  exact ⟨rfl, Below.next b1 b2⟩
set_option maxHeartbeats 1000000 in
theorem esmall_yes (t : Ex) (w : World) (ht : t.At w) (hp : t.Pl w) (hn : t.nodes ≤ 2000) (hd : t.nest ≤ 30) :
    Calls Tryz.prog 56 #[.agg t.va] w fun e w' => e = .returned (.bool true) ∧ Below w.heap.size w w' := by
  have B0 := below_alloc w (.cells t.va 37)
  have X0 := Bex.newV w t
  have h := eCount_any t _ (ht.kept B0)
  rw [show min t.nodes 2001 = t.nodes by omega] at h
  have i1 : (t.nodes : Int) ≤ 2000 := by omega
  go_enter Tryz.func56, Tryz.ntmps56
  go_wp2_with (refine wpList_load_exB rfl (.tmp 1) rfl _ rfl t X0 ?_)
  refine h.mono ?_
  rintro r w1 ⟨rfl, hb1⟩
  have X1 := X0.kept hb1
  have B1 := Below.next B0 hb1
  have h2 := eNest_any t _ (ht.kept B1) (hp.kept B1) hn
  rw [show min t.nest 31 = t.nest by omega] at h2
  have i2 : (t.nest : Int) ≤ 30 := by omega
  clear X0 B0 hb1 h
  go_wp2_with (refine wpList_load_exG (by kernel_rfl) (.tmp 1) rfl _ _ rfl t (C17.ofB X1) ?_)
  refine h2.mono ?_
  rintro r w2 ⟨rfl, hb2⟩
  clear X1 h2
  go_wp2
  go_ret
  exact ⟨rfl, Below.next B1 hb2⟩
end Go.Proofs.YtepgdkigncjalaaGreat

/- Layer 6: a node that is formed. -/
namespace Go.Proofs.YtepgdkigncjalaaGreat
open Go.RowKit

theorem wpQuiet_load_ex {ops : Array Oper} {C : World → Prop} {Q : Act → Prop} {a : Act} {o : Oper} {rest : List Oper} (hw : Region.wanted o (yielded ops a.tmps) = true) (x : Operand) (ho : o.op = .load 37 x) (b oo : Nat) (hx : a.eval x = .pointer (some ⟨b, oo, none⟩)) (e : Ex) (hc : ∀ w, C w → C17 w b oo e)
    (h : wpQuiet Tryz.prog ops C Q rest (a.put o.dst (.agg e.va))) : wpQuiet Tryz.prog ops C Q (o :: rest) a := by
  refine wpQuiet_step fun K hK => ?_
  rw [if_pos hw]
  refine ⟨.agg e.va, fun w hC => ?_, hK _ h⟩
  unfold Oper.quietAt execOp
  simp only [ho, hx, Sem.run_bind, load_exV (hc w hC), Result.andThen_ok, Sem.run_pure]
  exact ⟨rfl, rfl⟩

theorem quiet_load_ex {C : World → Prop} {K : Act → Prop} {a : Act} {o : Oper} (x : Operand) (ho : o.op = .load 37 x) (b oo : Nat) (hx : a.eval x = .pointer (some ⟨b, oo, none⟩)) (e : Ex) (hc : ∀ w, C w → C17 w b oo e)
    (h : K (a.put o.dst (.agg e.va))) : o.quiet Tryz.prog a C K := by
  refine ⟨.agg e.va, fun w hC => ?_, h⟩
  unfold Oper.quietAt execOp
  simp only [ho, hx, Sem.run_bind, load_exV (hc w hC), Result.andThen_ok, Sem.run_pure]
  exact ⟨rfl, rfl⟩
/-- The zero type. -/
def zT : Ty := .mk 0 0 0 0 none 0 0 0 0 fun _ => .dm
theorem zT_at (w : World) : zT.At w := ⟨fun h => absurd h (Nat.lt_irrefl 0), by decide, fun i hi => absurd hi (Nat.not_lt_zero _)⟩
set_option maxHeartbeats 1000000 in
theorem nameFormed_no (w : World) : Calls Tryz.prog 85 #[.string ⟨#[]⟩, .bool false] w fun e w' => e = .returned (.bool true) ∧ Below w.heap.size w w' := by
  go_enter Tryz.func85, Tryz.ntmps85
  go_wp2
  go_ret
  exact ⟨rfl, Below.refl _ _⟩
set_option maxHeartbeats 1000000 in
theorem nameFormed_yes (s : ByteArray) (w : World) (h1 : nameB s = true) (h2 : kwB' s = false) : Calls Tryz.prog 85 #[.string s, .bool true] w fun e w' => e = .returned (.bool true) ∧ Below w.heap.size w w' := by
  have h := isName_yes s w h1 h2
  go_enter Tryz.func85, Tryz.ntmps85
  go_wp2_with fail
  refine h.mono ?_
  rintro e w1 ⟨rfl, b1⟩
  go_wp2
  go_ret
  exact ⟨rfl, b1⟩
set_option maxHeartbeats 1000000 in
theorem typeFormed_yes (n : Strs) (g : Grid) (t : Ty) (w : World) (hn : n.At w) (hg : g.At w) (ht : t.At w) (h : okB n g t = true) :
    Calls Tryz.prog 87 #[.agg #[.slice n.ao n.len n.cap, .slice g.ao g.len g.cap], .agg #[.int .i64 t.k, .int .i64 t.l, .slice t.ao t.len t.cap, .int .i64 t.h, .int .i64 t.e], .bool true] w fun e w' => e = .returned (.bool true) ∧ Below w.heap.size w w' := by
  obtain ⟨L0, X0, B0⟩ := start_lt w n g t
  have hF := Formed2_any n g t _ (hn.kept B0) (hg.kept B0) (ht.kept B0)
  rw [h] at hF
  unfold latO tyO at *
  go_enter Tryz.func87, Tryz.ntmps87
  go_wp2_with fail
  refine hF.mono ?_
  rintro e w1 ⟨rfl, b1⟩
  clear L0 X0 hF
  go_wp2
  go_ret
  exact ⟨rfl, Below.next B0 b1⟩
theorem zT_same : zT.same zT = true := by decide +kernel
set_option maxHeartbeats 1000000 in
theorem typeFormed_no (n : Strs) (g : Grid) (w : World) :
    Calls Tryz.prog 87 #[.agg #[.slice n.ao n.len n.cap, .slice g.ao g.len g.cap], .agg #[.int .i64 0, .int .i64 0, .slice none 0 0, .int .i64 0, .int .i64 0], .bool false] w fun e w' => e = .returned (.bool true) ∧ Below w.heap.size w w' := by
  obtain ⟨L0, X0, B0⟩ := start_lt w n g zT
  have hF := Same_any2 zT zT ((w.alloc (latO n g)).alloc (tyO zT)) (zT_at _) (zT_at _) (by decide +kernel)
  rw [zT_same] at hF
  unfold latO tyO at *
  simp only [zT, Ty.k, Ty.l, Ty.ao, Ty.len, Ty.cap, Ty.h, Ty.e] at hF X0 B0 L0
  go_enter Tryz.func87, Tryz.ntmps87
  go_wp2_with fail
  refine hF.mono ?_
  rintro e w1 ⟨rfl, b1⟩
  clear L0 X0 hF
  go_wp2
  go_ret
  exact ⟨rfl, Below.next B0 b1⟩
def Yes (f : FuncId) (args : Array Value) (u : World) (v : Value) : Prop := Calls Tryz.prog f args u fun e u' => e = .returned v ∧ Below u.heap.size u u'
theorem start_le (w : World) (n : Strs) (g : Grid) (e : Ex) : Bl ((w.alloc (.cells #[.slice n.ao n.len n.cap, .slice g.ao g.len g.cap] 25)).alloc (.cells e.va 37)) w.heap.size n g ∧ Bex ((w.alloc (.cells #[.slice n.ao n.len n.cap, .slice g.ao g.len g.cap] 25)).alloc (.cells e.va 37)) (w.heap.size + 1) e ∧ Below w.heap.size w ((w.alloc (.cells #[.slice n.ao n.len n.cap, .slice g.ao g.len g.cap] 25)).alloc (.cells e.va 37)) :=
  ⟨(Bl.new w n g).kept (below_alloc _ _), (alloc_size w (.cells #[.slice n.ao n.len n.cap, .slice g.ao g.len g.cap] 25)) ▸ Bex.newV (w.alloc (.cells #[.slice n.ao n.len n.cap, .slice g.ao g.len g.cap] 25)) e, Below.next (below_alloc _ _) (below_alloc _ _)⟩
end Go.Proofs.YtepgdkigncjalaaGreat

/- Layer 7: raise, plain, limit, join, at: the judge's small calls, of types without Parts. -/
namespace Go.Proofs.YtepgdkigncjalaaGreat
open Go Go.RowKit

/-- A type without Parts. -/
def fT (k l : Int) (ao : Option Addr) (cap : Nat) : Ty := .mk k l 0 0 ao 0 0 0 cap fun _ => .dm
theorem fT_at (k l : Int) (ao : Option Addr) (cap : Nat) (w : World) : (fT k l ao cap).At w := ⟨fun h => absurd h (Nat.lt_irrefl 0), Nat.zero_le _, fun _ hi => absurd hi (Nat.not_lt_zero _)⟩
def flv (k l : Int) (ao : Option Addr) (cap : Nat) : List Value := [.int .i64 k, .int .i64 l, .slice ao 0 cap, .int .i64 0, .int .i64 0]
theorem fT_ok {k l : Int} {ao : Option Addr} {cap N : Nat} (hk : k = 1 ∨ k = 2) (hl : inR N l = true) : (fT k l ao cap).ok N = true := by
  unfold Ty.ok fT
  rw [fm_eq, hl]
  rcases hk with rfl | rfl <;> rfl
theorem fT_same {k l j : Int} {ao : Option Addr} {cap : Nat} {u : Ty} (h : u.same ((fT k l ao cap).setL j) = true) (hA : ∃ w, u.At w) : u.k = k ∧ u.l = j ∧ u.len = 0 ∧ u.h = 0 ∧ u.e = 0 := by
  rcases u with _ | ⟨uk, ul, uh, ue, uao, ub, uo, ulen, ucap, ups⟩
  · exact hA.elim fun _ h => h.elim
  · have h2 : ((((uk == k) && (ul == j)) && ((uh == 0) && (ue == 0))) && (ulen == 0)) = true := by
      have := h
      unfold Ty.same at this
      rw [Bool.and_eq_true] at this
      exact this.1
    simp only [Bool.and_eq_true, beq_iff_eq] at h2
    exact ⟨h2.1.1.1, h2.1.1.2, h2.2, h2.1.2.1, h2.1.2.2⟩
set_option maxRecDepth 100000 in
set_option maxHeartbeats 2000000 in
theorem jraise_fl (n : Strs) (g : Grid) (k l : Int) (ao : Option Addr) (cap : Nat) (a : Int) (w : World) (hn : n.At w) (hg : g.At w) (hF : formedB n g = true) (hk : k = 1 ∨ k = 2) (hl : inR n.len l = true) (ha : inR n.len a = true) :
    Calls Tryz.prog 64 #[.agg #[.slice n.ao n.len n.cap, .slice g.ao g.len g.cap], .agg #[.int .i64 k, .int .i64 l, .slice ao 0 cap, .int .i64 0, .int .i64 0], .int .i64 a] w fun e w' => ∃ ao' cap', e = .returned (.agg #[.int .i64 k, .int .i64 (joinI n g l a), .slice ao' 0 cap', .int .i64 0, .int .i64 0]) ∧ Below w.heap.size w w' := by
  have hok : okB n g (fT k l ao cap) = true := by unfold okB; rw [hF, fT_ok hk hl]; rfl
  have H := allocs_heap [.cells #[.slice n.ao n.len n.cap, .slice g.ao g.len g.cap] 92, .cells #[.int .i64 k, .int .i64 l, .slice ao 0 cap, .int .i64 0, .int .i64 0] 34, .cells #[.int .i64 0, .int .i64 0, .slice none 0 0, .int .i64 0, .int .i64 0] 34] w
  have B0 := allocs_below [.cells #[.slice n.ao n.len n.cap, .slice g.ao g.len g.cap] 92, .cells #[.int .i64 k, .int .i64 l, .slice ao 0 cap, .int .i64 0, .int .i64 0] 34, .cells #[.int .i64 0, .int .i64 0, .slice none 0 0, .int .i64 0, .int .i64 0] 34] w
  simp only [List.foldl] at H B0
  have bA : Blk _ w.heap.size [.slice n.ao n.len n.cap, .slice g.ao g.len g.cap] 92 := H 0 (by simp)
  have bB : Blk _ (w.heap.size + 1) [.int .i64 k, .int .i64 l, .slice ao 0 cap, .int .i64 0, .int .i64 0] 34 := H 1 (by simp)
  have bZ : Blk _ (w.heap.size + 2) [.int .i64 0, .int .i64 0, .slice none 0 0, .int .i64 0, .int .i64 0] 34 := H 2 (by simp)
  clear H
  have hR := Raise_any n g (fT k l ao cap) a _ (hn.kept B0) (hg.kept B0) (fT_at k l ao cap _)
  have hr : raiseT n g (fT k l ao cap) a = (fT k l ao cap).setL (joinI n g l a) := by unfold raiseT; rw [hok, ha]; rfl
  rw [hr] at hR
  have a0 := bA.cell 0 rfl
  have a1 := bA.cell 1 rfl
  have b0 := bB.cell 0 rfl
  have b1 := bB.cell 1 rfl
  have b2 := bB.cell 2 rfl
  have b3 := bB.cell 3 rfl
  have b4 := bB.cell 4 rfl
  clear hok hr hF hk hl ha bA bB
  simp only [fT, Ty.k, Ty.l, Ty.ao, Ty.len, Ty.cap, Ty.h, Ty.e] at hR
  go_enter Tryz.func64, Tryz.ntmps64
  go_wp2_with fail
  refine hR.mono ?_
  rintro _ w1 ⟨u, rfl, uA, uB, uS, hb1⟩
  obtain ⟨e1, e2, e3, e4, e5⟩ := fT_same (ao := ao) (cap := cap) uS ⟨_, uA⟩
  rw [e1, e2, e3, e4, e5]
  have bZ1 := bZ.kept hb1
  have B1 := Below.next B0 hb1
  clear hR uA uB uS hb1 B0 bZ a0 a1 b0 b1 b2 b3 b4 e1 e2 e3 e4 e5
  generalize u.ao = ao'
  generalize u.cap = cap'
  go_wp2_with (refine wpList_store_blk rfl rfl 34 (.tmp 6) (.tmp 11) rfl (w.heap.size + 2) [.int .i64 k, .int .i64 (joinI n g l a), .slice ao' 0 cap', .int .i64 0, .int .i64 0] rfl rfl rfl bZ1 rfl (by kernel_rfl) ?_; intro w2 W2)
  have c0 := W2.blk.cell 0 rfl
  have c1 := W2.blk.cell 1 rfl
  have c2 := W2.blk.cell 2 rfl
  have c3 := W2.blk.cell 3 rfl
  have c4 := W2.blk.cell 4 rfl
  refine bodyPost_ret (v := .agg #[.int .i64 k, .int .i64 (joinI n g l a), .slice ao' 0 cap', .int .i64 0, .int .i64 0]) (by simp [results, Tryz.results64, go_sem, c0, c1, c2, c3, c4]) rfl ⟨ao', cap', rfl, W2.below (by omega) B1⟩
end Go.Proofs.YtepgdkigncjalaaGreat

/- Layer 7: plain, limit, join, below, at. -/
namespace Go.Proofs.YtepgdkigncjalaaGreat
open Go Go.RowKit

set_option maxHeartbeats 1000000 in
theorem jplain (k l : Int) (w : World) : Calls Tryz.prog 89 #[.int .i64 k, .int .i64 l] w fun e w' => e = .returned (.agg #[.int .i64 k, .int .i64 l, .slice none 0 0, .int .i64 0, .int .i64 0]) ∧ Below w.heap.size w w' := by
  have B0 := below_alloc w (.cells #[.int .i64 k, .int .i64 l, .slice none 0 0, .int .i64 0, .int .i64 0] 34)
  go_enter Tryz.func89, Tryz.ntmps89
  go_wp2
  refine bodyPost_ret (v := .agg #[.int .i64 k, .int .i64 l, .slice none 0 0, .int .i64 0, .int .i64 0]) (by simp [results, Tryz.results89, go_sem]) rfl ⟨rfl, B0⟩

set_option maxHeartbeats 1000000 in
theorem jat (sb : Nat) (pc hp pc' : Int) (w : World) : Calls Tryz.prog 115 #[.agg #[.pointer (some ⟨sb, 0, none⟩), .int .i64 pc, .int .i64 hp], .int .i64 pc'] w fun e w' => e = .returned (.agg #[.pointer (some ⟨sb, 0, none⟩), .int .i64 pc', .int .i64 hp]) ∧ Below w.heap.size w w' := by
  have B0 := Below.next (below_alloc w (.cells #[.pointer (some ⟨sb, 0, none⟩), .int .i64 pc', .int .i64 hp] 73)) (below_alloc (w.alloc (.cells #[.pointer (some ⟨sb, 0, none⟩), .int .i64 pc', .int .i64 hp] 73)) (.cells #[.pointer (some ⟨sb, 0, none⟩), .int .i64 pc', .int .i64 hp] 73))
  go_enter Tryz.func115, Tryz.ntmps115
  go_wp2
  refine bodyPost_ret (v := .agg #[.pointer (some ⟨sb, 0, none⟩), .int .i64 pc', .int .i64 hp]) (by simp [results, Tryz.results115, go_sem]) rfl ⟨rfl, B0⟩

/-- The Both of all these. -/
def jfold (n : Strs) (g : Grid) (xs : List Int) : Int := xs.foldl (bothI n g) (-1)
theorem jfold_take {n : Strs} {g : Grid} {xs : List Int} {j : Nat} {x : Int} (h : xs[j]? = some x) : jfold n g (xs.take (j + 1)) = bothI n g (jfold n g (xs.take j)) x := by
  unfold jfold
  rw [List.take_add_one, h, List.foldl_append]
  rfl
set_option maxRecDepth 100000 in
set_option maxHeartbeats 2000000 in
theorem jjoin (n : Strs) (g : Grid) (xs : List Int) (B : Nat) (w : World) (hn : n.At w) (hg : g.At w) (hB : Blk w B (xs.map (Value.int .i64)) 3) (hx : xs.length ≤ 1000) (h0 : 0 < xs.length) :
    Calls Tryz.prog 63 #[.agg #[.slice n.ao n.len n.cap, .slice g.ao g.len g.cap], .slice (some ⟨B, 0, none⟩) xs.length xs.length] w fun e w' => e = .returned (.int .i64 (jfold n g xs)) ∧ Below w.heap.size w w' := by
  have B0 := below_alloc w (.cells #[.slice n.ao n.len n.cap, .slice g.ao g.len g.cap] 92)
  have bA : Blk _ w.heap.size [.slice n.ao n.len n.cap, .slice g.ao g.len g.cap] 92 := Blk.new w _ _
  have bX := hB.kept B0
  have HI : Hid (Below w.heap.size w (w.alloc (.cells #[.slice n.ao n.len n.cap, .slice g.ao g.len g.cap] 92)) ∧ Blk (w.alloc (.cells #[.slice n.ao n.len n.cap, .slice g.ao g.len g.cap] 92)) w.heap.size [.slice n.ao n.len n.cap, .slice g.ao g.len g.cap] 92 ∧ Blk (w.alloc (.cells #[.slice n.ao n.len n.cap, .slice g.ao g.len g.cap] 92)) B (xs.map (Value.int .i64)) 3) := ⟨B0, bA, bX⟩
  have HN : Hid (n.At w ∧ g.At w) := ⟨hn, hg⟩
  clear B0 bA bX hn hg hB
  go_enter Tryz.func63, Tryz.ntmps63
  go_wp2
  go_loopw [5, 10] (fun v i wr => ∃ j : Nat, j ≤ xs.length ∧ i = .int .i64 j ∧ v = .int .i64 (jfold n g (xs.take j)) ∧ Below w.heap.size w wr ∧ Blk wr w.heap.size [.slice n.ao n.len n.cap, .slice g.ao g.len g.cap] 92 ∧ Blk wr B (xs.map (Value.int .i64)) 3) (fun _ i _ => xs.length - (intOf i).toNat)
  case atStart => exact ⟨0, Nat.zero_le _, rfl, rfl, HI.out⟩
  case round =>
    clear HI
    obtain ⟨j, hj, rfl, rfl, hb, bA, bX⟩ := hrel
    have HI : Hid (Below w.heap.size w wr ∧ Blk wr w.heap.size [.slice n.ao n.len n.cap, .slice g.ao g.len g.cap] 92 ∧ Blk wr B (xs.map (Value.int .i64)) 3) := ⟨hb, bA, bX⟩
    by_cases hlt : j < xs.length
    · have ij : (j : Int) < xs.length := by omega
      obtain ⟨x, hx⟩ : ∃ x, xs[j]? = some x := ⟨_, List.getElem?_eq_getElem hlt⟩
      have c0 : wr.cell? ⟨B, j, none⟩ = some (.int .i64 x) := bX.cell j (by simp [hx])
      have a0 := bA.cell 0 rfl
      have a1 := bA.cell 1 rfl
      have HX : Hid (xs[j]? = some x) := hx
      clear hx hb bA bX
      go_wp2_with fail
      refine (Both_any n g (jfold n g (xs.take j)) x wr (HN.out.1.kept HI.out.1) (HN.out.2.kept HI.out.1)).mono ?_
      rintro _ w1 ⟨rfl, hb1⟩
      clear c0 a0 a1
      have HJ : Hid (bothI n g (jfold n g (xs.take j)) x = jfold n g (xs.take (j + 1))) := (jfold_take HX.out).symm
      generalize bothI n g (jfold n g (xs.take j)) x = y at HJ ⊢
      go_wp2
      go_roundw
      case rel => exact ⟨j + 1, by omega, by go_num, by rw [HJ.out], Below.next HI.out.1 hb1, HI.out.2.1.kept hb1, HI.out.2.2.kept hb1⟩
      case measure => simp [intOf]; omega
    · have e : j = xs.length := by omega
      subst e
      have d : ¬ (xs.length : Int) < xs.length := by omega
      have HE : Hid (xs.take xs.length = xs) := List.take_length
      clear hb bA bX
      go_wp2
      go_ret
      exact ⟨by first | rfl | rw [HE.out], HI.out.1⟩

set_option maxRecDepth 100000 in
set_option maxHeartbeats 2000000 in
theorem jlimit (n : Strs) (g : Grid) (e : Ex) (k l : Int) (ao : Option Addr) (cap : Nat) (w : World) (hn : n.At w) (hg : g.At w) (hF : formedB n g = true) (hk : k = 1 ∨ k = 2) (hl : inR n.len l = true) :
    Calls Tryz.prog 62 #[.agg #[.slice n.ao n.len n.cap, .slice g.ao g.len g.cap], .agg e.va, .agg #[.int .i64 k, .int .i64 l, .slice ao 0 cap, .int .i64 0, .int .i64 0]] w fun r w' => r = .returned (.tuple #[]) ∧ Below w.heap.size w w' := by
  have hok : okB n g (fT k l ao cap) = true := by unfold okB; rw [hF, fT_ok hk hl]; rfl
  have H := allocs_heap [.cells #[.slice n.ao n.len n.cap, .slice g.ao g.len g.cap] 92, .cells e.va 37, .cells #[.int .i64 k, .int .i64 l, .slice ao 0 cap, .int .i64 0, .int .i64 0] 34] w
  have B0 := allocs_below [.cells #[.slice n.ao n.len n.cap, .slice g.ao g.len g.cap] 92, .cells e.va 37, .cells #[.int .i64 k, .int .i64 l, .slice ao 0 cap, .int .i64 0, .int .i64 0] 34] w
  simp only [List.foldl] at H B0
  have bA : Blk _ w.heap.size [.slice n.ao n.len n.cap, .slice g.ao g.len g.cap] 92 := H 0 (by simp)
  have bB : Blk _ (w.heap.size + 2) [.int .i64 k, .int .i64 l, .slice ao 0 cap, .int .i64 0, .int .i64 0] 34 := H 2 (by simp)
  clear H
  have hR := Formed2_any n g (fT k l ao cap) _ (hn.kept B0) (hg.kept B0) (fT_at k l ao cap _)
  rw [hok] at hR
  have a0 := bA.cell 0 rfl
  have a1 := bA.cell 1 rfl
  have b0 := bB.cell 0 rfl
  have b1 := bB.cell 1 rfl
  have b2 := bB.cell 2 rfl
  have b3 := bB.cell 3 rfl
  have b4 := bB.cell 4 rfl
  clear hok hF hk hl bA bB
  simp only [fT, Ty.k, Ty.l, Ty.ao, Ty.len, Ty.cap, Ty.h, Ty.e] at hR
  go_enter Tryz.func62, Tryz.ntmps62
  go_wp2_with fail
  refine hR.mono ?_
  rintro _ w1 ⟨rfl, hb1⟩
  clear a0 a1 b0 b1 b2 b3 b4 hR
  go_wp2
  go_end0
  exact ⟨rfl, Below.next B0 hb1⟩

/-- All below the bound. -/
def belAll (n : Strs) (g : Grid) (xs : List Int) (bd : Int) : Bool := xs.all fun x => leqB n g x bd
/-- What goes up from where a rule isn't kept. -/
def fault (pl c : Int) : List PanicEntry := [{ v := .iface 87 (.agg #[.int .i64 pl, .int .i64 c]), recovered := false }]
set_option maxRecDepth 100000 in
set_option maxHeartbeats 2000000 in
theorem jbelow (n : Strs) (g : Grid) (e : Ex) (bd : Int) (xs : List Int) (B : Nat) (w : World) (hn : n.At w) (hg : g.At w) (hB : Blk w B (xs.map (Value.int .i64)) 3) (hx : xs.length ≤ 1000) (h0 : 0 < xs.length) :
    Calls Tryz.prog 120 #[.agg #[.slice n.ao n.len n.cap, .slice g.ao g.len g.cap], .agg e.va, .int .i64 bd, .slice (some ⟨B, 0, none⟩) xs.length xs.length] w fun r w' => ((belAll n g xs bd = true ∧ r = .returned (.tuple #[])) ∨ (belAll n g xs bd = false ∧ r = .panicked (fault e.pl 6))) ∧ Below w.heap.size w w' := by
  have H := allocs_heap [.cells #[.slice n.ao n.len n.cap, .slice g.ao g.len g.cap] 92, .cells e.va 37] w
  have B0 := allocs_below [.cells #[.slice n.ao n.len n.cap, .slice g.ao g.len g.cap] 92, .cells e.va 37] w
  simp only [List.foldl] at H B0
  have bA : Blk _ w.heap.size [.slice n.ao n.len n.cap, .slice g.ao g.len g.cap] 92 := H 0 (by simp)
  have bE : Blk _ (w.heap.size + 1) e.vs 37 := H 1 (by simp)
  clear H
  have bX := hB.kept B0
  have HI : Hid (_ ∧ _ ∧ _ ∧ _) := (⟨B0, bA, bE, bX⟩ : _ ∧ _ ∧ _ ∧ _)
  have HN : Hid (n.At w ∧ g.At w) := ⟨hn, hg⟩
  clear B0 bA bX hn hg hB bE
  go_enter Tryz.func120, Tryz.ntmps120
  go_wp2
  go_loopw [12] (fun i wr => ∃ j : Nat, j ≤ xs.length ∧ i = .int .i64 j ∧ (xs.take j).all (fun x => leqB n g x bd) = true ∧ Below w.heap.size w wr ∧ Blk wr w.heap.size [.slice n.ao n.len n.cap, .slice g.ao g.len g.cap] 92 ∧ Blk wr (w.heap.size + 1) e.vs 37 ∧ Blk wr B (xs.map (Value.int .i64)) 3) (fun i _ => xs.length - (intOf i).toNat)
  case atStart => exact ⟨0, Nat.zero_le _, rfl, rfl, HI.out⟩
  case round =>
    clear HI
    obtain ⟨j, hj, rfl, hal, hb, bA, bE, bX⟩ := hrel
    have HI : Hid (Below w.heap.size w wr ∧ Blk wr w.heap.size [.slice n.ao n.len n.cap, .slice g.ao g.len g.cap] 92 ∧ Blk wr (w.heap.size + 1) e.vs 37 ∧ Blk wr B (xs.map (Value.int .i64)) 3) := ⟨hb, bA, bE, bX⟩
    have HAL : Hid ((xs.take j).all (fun x => leqB n g x bd) = true) := hal
    clear hal
    by_cases hlt : j < xs.length
    · have ij : (j : Int) < xs.length := by omega
      obtain ⟨x, hx⟩ : ∃ x, xs[j]? = some x := ⟨_, List.getElem?_eq_getElem hlt⟩
      have c0 : wr.cell? ⟨B, j, none⟩ = some (.int .i64 x) := bX.cell j (by simp [hx])
      have a0 := bA.cell 0 rfl
      have a1 := bA.cell 1 rfl
      have HX : Hid (xs[j]? = some x) := hx
      clear hx hb bA bX bE
      go_wp2_with fail
      refine (leq_any n g x bd wr (HN.out.1.kept HI.out.1) (HN.out.2.kept HI.out.1)).mono ?_
      rintro _ w1 ⟨rfl, hb1⟩
      clear c0 a0 a1
      cases hq : leqB n g x bd
      · have e16 : w1.cell? ⟨w.heap.size + 1, 16, none⟩ = some (.int .i64 e.pl) := (HI.out.2.2.1.kept hb1).cell 16 rfl
        have HF : Hid (belAll n g xs bd = false) := by
          show xs.all _ = _
          rw [List.all_eq_false]
          exact ⟨x, List.mem_of_getElem? HX.out, by rw [hq]; decide⟩
        clear hq
        go_wp2
        exact ⟨rfl, Or.inr ⟨HF.out, rfl⟩, Below.next HI.out.1 hb1⟩
      · have HJ : Hid ((xs.take (j + 1)).all (fun x => leqB n g x bd) = true) := by
          show _ = _
          rw [List.take_add_one, HX.out, List.all_append, HAL.out]
          simp [hq]
        clear hq
        go_wp2
        go_roundw
        case rel => exact ⟨j + 1, by omega, by go_num, HJ.out, Below.next HI.out.1 hb1, HI.out.2.1.kept hb1, HI.out.2.2.1.kept hb1, HI.out.2.2.2.kept hb1⟩
        case measure => simp [intOf]; omega
    · have e2 : j = xs.length := by omega
      subst e2
      have d : ¬ (xs.length : Int) < xs.length := by omega
      have HE : Hid (belAll n g xs bd = true) := by have := HAL.out; rw [List.take_length] at this; exact this
      clear hb bA bX bE
      go_wp2
      first | go_end0 | refine bodyPost_ret (results_none rfl _ _ _) rfl ?_
      exact ⟨Or.inl ⟨HE.out, rfl⟩, HI.out.1⟩
end Go.Proofs.YtepgdkigncjalaaGreat
