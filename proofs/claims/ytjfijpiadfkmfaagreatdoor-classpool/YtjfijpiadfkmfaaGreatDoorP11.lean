/- Layer 2: a type stored. -/
import Derived.Test.YtjfijpiadfkmfaaGreatDoorP10
import Derived.Deep.MidRow
import Derived.Test.YtjfijpiadfkmfaaGreatDoorP8
namespace Go.Proofs.YtjfijpiadfkmfaaGreatDoor
open Go.RowKit

/-- Five cells written. -/
def World.put5 (w : World) (B : Nat) (v0 v1 v2 v3 v4 : Value) : World := ((((w.setCell ⟨B, 0, none⟩ v0).setCell ⟨B, 1, none⟩ v1).setCell ⟨B, 2, none⟩ v2).setCell ⟨B, 3, none⟩ v3).setCell ⟨B, 4, none⟩ v4
theorem put5_heap (w : World) (B : Nat) (v0 v1 v2 v3 v4 : Value) {b : Nat} (h : b ≠ B) : (World.put5 w B v0 v1 v2 v3 v4).heap[b]? = w.heap[b]? := by
  unfold World.put5
  rw [Below.heap_setCell _ _ _ _ h, Below.heap_setCell _ _ _ _ h, Below.heap_setCell _ _ _ _ h, Below.heap_setCell _ _ _ _ h, Below.heap_setCell _ _ _ _ h]
theorem put5_below {w w1 : World} {B : Nat} (hB : w.heap.size ≤ B) (h : Below w.heap.size w w1) (v0 v1 v2 v3 v4 : Value) : Below w.heap.size w (World.put5 w1 B v0 v1 v2 v3 v4) :=
  ((((h.setCell hB _).setCell hB _).setCell hB _).setCell hB _).setCell hB _
theorem put5_frozen (w : World) (B : Nat) (v0 v1 v2 v3 v4 : Value) (a : Addr) : (World.put5 w B v0 v1 v2 v3 v4).frozen? a = w.frozen? a := by
  unfold World.put5
  rw [World.frozen?_setCell, World.frozen?_setCell, World.frozen?_setCell, World.frozen?_setCell, World.frozen?_setCell]
theorem put5_cells {w : World} {B : Nat} (v0 v1 v2 v3 v4 : Value) {t : Ty} (h : Bx w B t) (hf : ∀ i, i < 5 → w.frozen? ⟨B, i, none⟩ = false) : (World.put5 w B v0 v1 v2 v3 v4).cell? ⟨B, 0, none⟩ = some v0 ∧ (World.put5 w B v0 v1 v2 v3 v4).cell? ⟨B, 1, none⟩ = some v1 ∧ (World.put5 w B v0 v1 v2 v3 v4).cell? ⟨B, 2, none⟩ = some v2 ∧ (World.put5 w B v0 v1 v2 v3 v4).cell? ⟨B, 3, none⟩ = some v3 ∧ (World.put5 w B v0 v1 v2 v3 v4).cell? ⟨B, 4, none⟩ = some v4 := by
  have key := World.rangeAt_setCells_same w B 0 [v0, v1, v2, v3, v4] (fun j hj => ?_)
  · exact ⟨key 0 v0 rfl, key 1 v1 rfl, key 2 v2 rfl, key 3 v3 rfl, key 4 v4 rfl⟩
  · have hj' : j < 5 := hj
    rw [Nat.zero_add]
    refine ⟨?_, hf j hj'⟩
    match j, hj' with
    | 0, _ => rw [h.c0]; rfl
    | 1, _ => rw [h.c1]; rfl
    | 2, _ => rw [h.c2]; rfl
    | 3, _ => rw [h.c3]; rfl
    | 4, _ => rw [h.c4]; rfl
theorem wpList_store5 {w : World} {ops : Array Oper} {rest : List Oper} {o : Oper} {a : Act} {Q : Exit → Act → World → Prop} (hgd : o.guard = none) (hdst : o.dst = none) (p x : Operand) (ho : o.op = .store 36 p x) (B : Nat) (v0 v1 v2 v3 v4 : Value)
    (hp : a.eval p = .pointer (some ⟨B, 0, none⟩)) (hx : a.eval x = .agg #[v0, v1, v2, v3, v4]) (h0 : v0.oneCell' = true) (h1 : v1.oneCell' = true) (h2 : v2.oneCell' = true) (h3 : v3.oneCell' = true) (h4 : v4.oneCell' = true) {t : Ty} (hb : Bx w B t) (hf : ∀ i, i < 5 → w.frozen? ⟨B, i, none⟩ = false)
    (h : wpList Tryz.prog ops Q rest a (World.put5 w B v0 v1 v2 v3 v4)) : wpList Tryz.prog ops Q (o :: rest) a w := by
  refine wpList_store_mid hgd 36 p x ho B 0 #[v0, v1, v2, v3, v4] hp hx (fun j hj => ?_) (by kernel_rfl) (by simp [h0, h1, h2, h3, h4]) ?_
  · have hj' : j < 5 := hj
    rw [Nat.zero_add]
    refine ⟨?_, hf j hj'⟩
    match j, hj' with
    | 0, _ => rw [hb.c0]; rfl
    | 1, _ => rw [hb.c1]; rfl
    | 2, _ => rw [hb.c2]; rfl
    | 3, _ => rw [hb.c3]; rfl
    | 4, _ => rw [hb.c4]; rfl
  · rw [hdst]
    exact h
end Go.Proofs.YtjfijpiadfkmfaaGreatDoor

/- Layer 2: Raise. -/
namespace Go.Proofs.YtjfijpiadfkmfaaGreatDoor
open Go.RowKit

def Ty.setL (j : Int) : Ty → Ty
  | .dm => .dm
  | .mk k _ h e ao b o len cap ps => .mk k j h e ao b o len cap ps
theorem setL_at {w : World} {j : Int} : ∀ {t : Ty}, t.At w → (t.setL j).At w
  | .dm, h => h
  | .mk _ _ _ _ _ _ _ _ _ _, h => h
theorem setL_blk {Q : Nat → Prop} {j : Int} : ∀ {t : Ty}, t.Blk Q → (t.setL j).Blk Q
  | .dm, h => h
  | .mk _ _ _ _ _ _ _ _ _ _, h => h
theorem setL_v {w : World} {j : Int} : ∀ {t : Ty}, t.At w → (t.setL j).k = t.k ∧ (t.setL j).l = j ∧ (t.setL j).ao = t.ao ∧ (t.setL j).len = t.len ∧ (t.setL j).cap = t.cap ∧ (t.setL j).h = t.h ∧ (t.setL j).e = t.e
  | .dm, h => h.elim
  | .mk _ _ _ _ _ _ _ _ _ _, _ => ⟨rfl, rfl, rfl, rfl, rfl, rfl, rfl⟩
theorem setL_same {w w' : World} {j : Int} : ∀ {s t : Ty}, s.At w → t.At w' → s.same t = true → (s.setL j).same (t.setL j) = true
  | .dm, _, h, _, _ => h.elim
  | .mk _ _ _ _ _ _ _ _ _ _, .dm, _, h, _ => h.elim
  | .mk _ _ _ _ _ _ _ _ _ _, .mk _ _ _ _ _ _ _ _ _ _, _, _, h => by
    rw [same_iff] at h ⊢
    exact ⟨⟨h.1.1, rfl, h.1.2.2⟩, h.2⟩

theorem Bx.agree {w w' : World} {B : Nat} {t : Ty} (h : Bx w B t) (e : w'.heap[B]? = w.heap[B]?) : Bx w' B t :=
  ⟨(World.cell?_of_block (w := w) e).trans h.c0, (World.cell?_of_block (w := w) e).trans h.c1, (World.cell?_of_block (w := w) e).trans h.c2, (World.cell?_of_block (w := w) e).trans h.c3, (World.cell?_of_block (w := w) e).trans h.c4⟩

/-- What Raise answers, but for where it lies. -/
def raiseT (n : Strs) (g : Grid) (t : Ty) (a : Int) : Ty := if (okB n g t && inR n.len a) = true then t.setL (joinI n g t.l a) else leafT 0 0
def RP (w : World) (r : Ty) (e : Ending) (w' : World) : Prop :=
  ∃ u : Ty, e = .returned (.agg #[.int .i64 u.k, .int .i64 u.l, .slice u.ao u.len u.cap, .int .i64 u.h, .int .i64 u.e]) ∧ u.At w' ∧ u.Blk (fun b => w.heap.size ≤ b) ∧ u.same r = true ∧ Below w.heap.size w w'
theorem RP.intro {w : World} {r : Ty} {e : Ending} {w' : World} (u : Ty) (h1 : e = .returned (.agg #[.int .i64 u.k, .int .i64 u.l, .slice u.ao u.len u.cap, .int .i64 u.h, .int .i64 u.e])) (h2 : u.At w') (h3 : u.Blk (fun b => w.heap.size ≤ b)) (h4 : u.same r = true) (h5 : Below w.heap.size w w') : RP w r e w' := ⟨u, h1, h2, h3, h4, h5⟩

structure RBox (w w0 : World) (n : Strs) (g : Grid) (t : Ty) : Prop where
  bl : Below w.heap.size w w0
  sz : w.heap.size + 3 ≤ w0.heap.size
  l : Bl w0 w.heap.size n g
  x : Bx w0 (w.heap.size + 1) t
  fx : ∀ i, i < 5 → w0.frozen? ⟨w.heap.size + 1, i, none⟩ = false
  r : Bx w0 (w.heap.size + 2) (leafT 0 0)
  fr : ∀ i, i < 5 → w0.frozen? ⟨w.heap.size + 2, i, none⟩ = false
theorem RBox.step {w w0 w1 : World} {n : Strs} {g : Grid} {t : Ty} (h : RBox w w0 n g t) (hb : Below w0.heap.size w0 w1) : RBox w w1 n g t :=
  ⟨h.bl.trans (hb.mono (by have := h.sz; omega)), Nat.le_trans h.sz hb.size, h.l.kept hb, h.x.kept hb, fun i hi => (hb.frozen (p := ⟨w.heap.size + 1, i, none⟩) (by have := h.sz; show w.heap.size + 1 < _; omega)).trans (h.fx i hi), h.r.kept hb, fun i hi => (hb.frozen (p := ⟨w.heap.size + 2, i, none⟩) (by have := h.sz; show w.heap.size + 2 < _; omega)).trans (h.fr i hi)⟩
theorem frozen_new (w : World) (c : Array Value) (t : TypeId) (i : Nat) : (w.alloc (.cells c t)).frozen? ⟨w.heap.size, i, none⟩ = false := by simp
theorem rbox_new (w : World) (n : Strs) (g : Grid) (t : Ty) : RBox w (((w.alloc (latO n g)).alloc (tyO t)).alloc (.cells #[.int .i64 0, .int .i64 0, .slice none 0 0, .int .i64 0, .int .i64 0] 36)) n g t := by
  obtain ⟨L0, X0, B0⟩ := start_lt w n g t
  have ba := below_alloc ((w.alloc (latO n g)).alloc (tyO t)) (.cells #[.int .i64 0, .int .i64 0, .slice none 0 0, .int .i64 0, .int .i64 0] 36)
  have e1 : (w.alloc (latO n g)).heap.size = w.heap.size + 1 := alloc_size _ _
  have e2 : ((w.alloc (latO n g)).alloc (tyO t)).heap.size = w.heap.size + 2 := by rw [alloc_size, e1]
  refine ⟨Below.next B0 ba, by rw [alloc_size, e2]; omega, L0.kept ba, X0.kept ba, fun i hi => ?_, ?_, fun i hi => ?_⟩
  · rw [ba.frozen (p := ⟨w.heap.size + 1, i, none⟩) (by rw [e2]; exact Nat.lt_succ_self _), ← e1]
    simp [tyO]
  · rw [← e2]
    exact Bx.new _ (leafT 0 0)
  · rw [← e2]
    exact frozen_new _ _ _ _

theorem joinI_no {n : Strs} {g : Grid} {a b : Int} (h : inR n.len b = false) : joinI n g a b = -1 := by
  unfold joinI
  rw [if_neg]
  intro hh
  rw [Bool.and_eq_true, Bool.and_eq_true] at hh
  have : labB n b = inR n.len b := rfl
  rw [this, h] at hh
  exact Bool.noConfusion hh.1.2
theorem joinI_yes {n : Strs} {g : Grid} {t : Ty} {b : Int} (hk : okB n g t = true) (h : inR n.len b = true) : (joinI n g t.l b == -1) = false := by
  unfold okB at hk
  rw [Bool.and_eq_true] at hk
  obtain ⟨x, hx, hx1⟩ := (fd_ok hk.2).lab
  obtain ⟨y, hy, hy1⟩ := inR_nat h
  rw [hx, hy, joinI_nat hk.1 hx1 hy1]
  simp

end Go.Proofs.YtjfijpiadfkmfaaGreatDoor

/- Layer 2: what follows of Raise. No program is walked here. -/
namespace Go.Proofs.YtjfijpiadfkmfaaGreatDoor

theorem same_symm : ∀ s t : Ty, s.same t = true → t.same s = true := by
  intro s
  induction s with
  | dm =>
    intro t h
    rw [same_iff] at h ⊢
    exact ⟨⟨h.1.1.symm, h.1.2.1.symm, h.1.2.2.1.symm, h.1.2.2.2.1.symm, h.1.2.2.2.2.symm⟩, fun i hi => absurd hi (by rw [← h.1.2.2.2.2]; exact Nat.not_lt_zero _)⟩
  | mk k l hh e ao b o len cap ps ih =>
    intro t h
    rw [same_iff] at h ⊢
    exact ⟨⟨h.1.1.symm, h.1.2.1.symm, h.1.2.2.1.symm, h.1.2.2.2.1.symm, h.1.2.2.2.2.symm⟩, fun i hi => ih i (t.ps i) (h.2 i (by rw [h.1.2.2.2.2]; exact hi))⟩

theorem sum_congr {f h : Nat → Nat} : ∀ k, (∀ i, i < k → f i = h i) → sumTo f k = sumTo h k
  | 0, _ => rfl
  | k + 1, e => by
    show sumTo f k + f k = sumTo h k + h k
    rw [sum_congr k (fun i hi => e i (by omega)), e k (by omega)]

/-- What lies alike is formed alike. -/
theorem same_fm {N : Nat} {w w' : World} : ∀ s t : Ty, s.At w → t.At w' → s.same t = true → (∀ d, s.fm N d = t.fm N d) ∧ s.nodes = t.nodes := by
  intro s
  induction s with
  | dm => intro t h; exact h.elim
  | mk k l hh e ao b o len cap ps ih =>
    intro t hs ht h
    rcases t with _ | ⟨tk, tl, th, te, tao, tb, to', tlen, tcap, tps⟩
    · exact ht.elim
    rw [same_iff] at h
    obtain ⟨⟨h1, h2, h3, h4, h5⟩, h6⟩ := h
    have h1' : k = tk := h1
    have h2' : l = tl := h2
    have h3' : hh = th := h3
    have h4' : e = te := h4
    have h5' : len = tlen := h5
    subst h1' h2' h3' h4' h5'
    have sub : ∀ i, i < len → (∀ d, (ps i).fm N d = (tps i).fm N d) ∧ (ps i).nodes = (tps i).nodes := fun i hi => ih i (tps i) (hs.part (i := i) hi) (ht.part (i := i) hi) (h6 i hi)
    refine ⟨fun d => ?_, ?_⟩
    · rw [fm_eq, fm_eq]
      congr 1
      rw [decide_eq_decide]
      exact ⟨fun hh i hi => by rw [← (sub i hi).1]; exact hh i hi, fun hh i hi => by rw [(sub i hi).1]; exact hh i hi⟩
    · show 1 + sumTo (fun i => (ps i).nodes) len = 1 + sumTo (fun i => (tps i).nodes) len
      rw [sum_congr len (fun i hi => (sub i hi).2)]
theorem same_ok {N : Nat} {w w' : World} {s t : Ty} (hs : s.At w) (ht : t.At w') (h : s.same t = true) : s.ok N = t.ok N := by
  unfold Ty.ok
  rw [(same_fm (N := N) s t hs ht h).1, (same_fm (N := N) s t hs ht h).2]

theorem same_bel {N : Nat} {le : Nat → Nat → Bool} (P : Po N le) : ∀ s t : Ty, Fd N s → Fd N t → s.same t = true → s.bel le true t = true ∧ t.bel le true s = true := by
  intro s
  induction s with
  | dm => intro t hs; exact absurd rfl hs.ne
  | mk k l hh e ao b o len cap ps ih =>
    intro t hs ht h
    rw [same_iff] at h
    obtain ⟨⟨h1, h2, h3, h4, h5⟩, h6⟩ := h
    have sub : ∀ i, i < (Ty.mk k l hh e ao b o len cap ps).len → (ps i).bel le true (t.ps i) = true ∧ (t.ps i).bel le true (ps i) = true := fun i hi => ih i (t.ps i) (hs.sub (i := i) hi) (ht.sub (by omega)) (h6 i hi)
    obtain ⟨x, hx, hx1⟩ := hs.lab
    have two : (Ty.mk k l hh e ao b o len cap ps).k = 3 ∨ (Ty.mk k l hh e ao b o len cap ps).k = 4 → ∀ i, i < 2 → i < (Ty.mk k l hh e ao b o len cap ps).len := fun h34 i hi => by rw [hs.two h34]; exact hi
    rw [bel_iff hs ht, bel_iff ht hs]
    constructor
    · refine ⟨h1, by rw [← h2, hx, Int.toNat_natCast]; exact P.refl x hx1, fun h3' => ⟨(sub 0 (two (Or.inl h3') 0 (by omega))).1, (sub 1 (two (Or.inl h3') 1 (by omega))).1⟩, fun h4' => ⟨⟨(sub 0 (two (Or.inr h4') 0 (by omega))).2, (sub 1 (two (Or.inr h4') 1 (by omega))).1⟩, ?_, ?_⟩, fun h5' => h6 0 (by rw [hs.one h5']; omega)⟩
      · obtain ⟨y, hy, hy1⟩ := hs.heap h4'
        rw [← h3, hy, Int.toNat_natCast]; exact P.refl y hy1
      · rw [← h4]; exact exc_refl P (hs.exc h4')
    · refine ⟨h1.symm, by rw [← h2, hx, Int.toNat_natCast]; exact P.refl x hx1, fun h3' => ?_, fun h4' => ?_, fun h5' => ?_⟩
      · have q : (Ty.mk k l hh e ao b o len cap ps).k = 3 := h1.trans h3'
        exact ⟨(sub 0 (two (Or.inl q) 0 (by omega))).2, (sub 1 (two (Or.inl q) 1 (by omega))).2⟩
      · have q : (Ty.mk k l hh e ao b o len cap ps).k = 4 := h1.trans h4'
        refine ⟨⟨(sub 0 (two (Or.inr q) 0 (by omega))).1, (sub 1 (two (Or.inr q) 1 (by omega))).2⟩, ?_, ?_⟩
        · obtain ⟨y, hy, hy1⟩ := hs.heap q
          rw [← h3, hy, Int.toNat_natCast]; exact P.refl y hy1
        · rw [← h4]; exact exc_refl P (hs.exc q)
      · have q : (Ty.mk k l hh e ao b o len cap ps).k = 5 := h1.trans h5'
        exact same_symm _ _ (h6 0 (by rw [hs.one q]; omega))

theorem setL_fm {N d : Nat} {j : Int} (hj : inR N j = true) : ∀ {t : Ty}, t.fm N d = true → (t.setL j).fm N d = true
  | .dm, h => h
  | .mk k l hh e ao b o len cap ps, h => by
    show Ty.fm N (.mk k j hh e ao b o len cap ps) d = true
    rw [fm_eq] at h ⊢
    simp only [Bool.and_eq_true] at h ⊢
    exact ⟨⟨⟨h.1.1.1, hj⟩, h.1.2⟩, h.2⟩
theorem setL_nodes {j : Int} : ∀ t : Ty, (t.setL j).nodes = t.nodes
  | .dm => rfl
  | .mk _ _ _ _ _ _ _ _ _ _ => rfl
theorem setL_ok {N : Nat} {j : Int} {t : Ty} (h : t.ok N = true) (hj : inR N j = true) : (t.setL j).ok N = true := by
  have := ok_parts h
  unfold Ty.ok
  rw [setL_fm hj this.1, setL_nodes, decide_eq_true this.2]; rfl
theorem setL_self : ∀ t : Ty, t.setL t.l = t
  | .dm => rfl
  | .mk _ _ _ _ _ _ _ _ _ _ => rfl
theorem setL_bel {N : Nat} {le : Nat → Nat → Bool} (P : Po N le) {t : Ty} (ht : t.ok N = true) {i j : Nat} (hi : i < N) (hj : j < N) (h : le i j = true) : (t.setL i).bel le true (t.setL j) = true := by
  have r1 : inR N (i : Int) = true := by unfold inR; simp; omega
  have r2 : inR N (j : Int) = true := by unfold inR; simp; omega
  have F1 := fd_ok (setL_ok ht r1)
  have F2 := fd_ok (setL_ok ht r2)
  have F := fd_ok ht
  rw [bel_iff F1 F2]
  rcases t with _ | ⟨k, l, hh, e, ao, b, o, len, cap, ps⟩
  · exact absurd rfl F.ne
  have sub : ∀ q, q < 2 → k = 3 ∨ k = 4 → (ps q).bel le true (ps q) = true := fun q hq h34 => bel_refl P _ (F.sub (i := q) (by rw [F.two h34]; omega))
  refine ⟨rfl, by show le (i : Int).toNat (j : Int).toNat = true; rw [Int.toNat_natCast, Int.toNat_natCast]; exact h, fun h3 => ⟨sub 0 (by omega) (Or.inl h3), sub 1 (by omega) (Or.inl h3)⟩, fun h4 => ⟨⟨sub 0 (by omega) (Or.inr h4), sub 1 (by omega) (Or.inr h4)⟩, ?_, exc_refl P (F.exc h4)⟩, fun _ => same_refl _⟩
  obtain ⟨y, hy, hy1⟩ := F.heap h4
  show le hh.toNat hh.toNat = true
  have hy' : hh = y := hy
  rw [hy', Int.toNat_natCast]; exact P.refl y hy1
end Go.Proofs.YtjfijpiadfkmfaaGreatDoor

/- Layer 13: a class's pool as data: types, each once, each behind its Parts, and their nodes. -/
namespace Go.Proofs.YtjfijpiadfkmfaaGreatDoor
open Go.RowKit

/-- Where a node stands. -/
def fnd (Q : List (List Int)) (n : List Int) : Int := if n ∈ Q then (Q.idxOf n : Int) else -1
theorem fnd_get {Q : List (List Int)} {n : List Int} (h : fnd Q n ≠ -1) : ∃ i : Nat, fnd Q n = i ∧ Q[i]? = some n := by
  unfold fnd at h ⊢
  by_cases hn : n ∈ Q
  · rw [if_pos hn]
    refine ⟨Q.idxOf n, rfl, ?_⟩
    have hl := List.idxOf_lt_length_of_mem hn
    rw [List.getElem?_eq_getElem hl, List.getElem_idxOf hl]
  · rw [if_neg hn] at h
    exact absurd rfl h
theorem fnd_of {Q : List (List Int)} {n : List Int} {i : Nat} (hQ : ∀ (i j : Nat) (n : List Int), Q[i]? = some n → Q[j]? = some n → i = j) (h : Q[i]? = some n) : fnd Q n = i := by
  have hn : n ∈ Q := List.mem_of_getElem? h
  have hl := List.idxOf_lt_length_of_mem hn
  unfold fnd
  rw [if_pos hn]
  have := hQ (Q.idxOf n) i n (by rw [List.getElem?_eq_getElem hl, List.getElem_idxOf hl]) h
  rw [this]
theorem fnd_no {Q : List (List Int)} {n : List Int} (h : fnd Q n = -1) : n ∉ Q := by
  intro hn
  unfold fnd at h
  rw [if_pos hn] at h
  omega
theorem fnd_ge (Q : List (List Int)) (n : List Int) : -1 ≤ fnd Q n := by
  unfold fnd; split <;> omega

/-- Where a type stands, that is so deep. -/
def plc (Q : List (List Int)) : Ty → Nat → Int
  | .dm, _ => -1
  | .mk k l h e _ _ _ len _ ps, d =>
    if 6 < d ∨ 2 < len then -1 else if 0 < len ∧ plc Q (ps 0) (d + 1) = -1 then -1 else if 1 < len ∧ plc Q (ps 1) (d + 1) = -1 then -1
    else fnd Q [k, l, h, e, if 0 < len then plc Q (ps 0) (d + 1) else -1, if 1 < len then plc Q (ps 1) (d + 1) else -1]

/-- A Part's place. -/
def Prt (R : List Ty) (i : Nat) (t : Ty) (j : Nat) (p : Int) : Prop :=
  (j < t.len → ∃ (a : Nat) (s : Ty), p = a ∧ a < i ∧ R[a]? = some s ∧ s.same (t.ps j) = true) ∧ (¬ j < t.len → p = -1)
/-- Types, each once, formed, behind their Parts; and their nodes. -/
structure Good (N : Nat) (R : List Ty) (Q : List (List Int)) : Prop where
  len : Q.length = R.length
  ok : ∀ t ∈ R, t.ok N = true
  ent : ∀ (i : Nat) (t : Ty), R[i]? = some t → ∃ p q, Q[i]? = some [t.k, t.l, t.h, t.e, p, q] ∧ Prt R i t 0 p ∧ Prt R i t 1 q
  dis : ∀ (i j : Nat) (s t : Ty), R[i]? = some s → R[j]? = some t → s.same t = true → i = j
theorem Good.nil (N : Nat) : Good N [] [] := ⟨rfl, by simp, by simp, by simp⟩

theorem fm_len {N : Nat} : ∀ {t : Ty} {d : Nat}, t.fm N d = true → d ≤ 6 ∧ (t.len : Int) = arityI t.k ∧ t.len ≤ 2 ∧ ∀ i, i < t.len → (t.ps i).fm N (d + 1) = true
  | .dm, _, h => by simp [Ty.fm] at h
  | .mk k l hh e ao b o len cap ps, d, h => by
    rw [fm_eq] at h
    simp only [Bool.and_eq_true, decide_eq_true_eq, beq_iff_eq] at h
    obtain ⟨⟨⟨⟨h1, h2⟩, h3⟩, h4⟩, h5⟩ := h
    refine ⟨h1, h2, ?_, h5⟩
    show len ≤ 2
    unfold arityI at h2
    repeat' split at h2
    all_goals omega
theorem ok_fm {N : Nat} {t : Ty} (h : t.ok N = true) : t.fm N 1 = true ∧ t.nodes ≤ 40 := by
  unfold Ty.ok at h
  simpa using h
theorem fm_down {N : Nat} : ∀ {t : Ty} {d : Nat}, t.fm N (d + 1) = true → t.fm N d = true
  | .dm, _, h => by simp [Ty.fm] at h
  | .mk k l hh e ao b o len cap ps, d, h => by
    rw [fm_eq] at h ⊢
    simp only [Bool.and_eq_true, decide_eq_true_eq, beq_iff_eq] at h ⊢
    obtain ⟨⟨⟨⟨h1, h2⟩, h3⟩, h4⟩, h5⟩ := h
    exact ⟨⟨⟨⟨by omega, h2⟩, h3⟩, h4⟩, fun i hi => fm_down (h5 i hi)⟩
theorem ok_part {N : Nat} : ∀ {t : Ty}, t.ok N = true → ∀ i, i < t.len → (t.ps i).ok N = true
  | .dm, h, _, hi => absurd hi (Nat.not_lt_zero _)
  | .mk k l hh e ao b o len cap ps, h, i, hi => by
    obtain ⟨h1, h2⟩ := ok_fm h
    have h3 := (fm_len h1).2.2.2 i hi
    unfold Ty.ok
    rw [fm_down h3]
    have h4 := sumTo_le (fun i => (ps i).nodes) hi
    have h5 : (Ty.mk k l hh e ao b o len cap ps).nodes = 1 + sumTo (fun i => (ps i).nodes) len := rfl
    have h6 : (Ty.mk k l hh e ao b o len cap ps).ps i = ps i := rfl
    simp only [Bool.true_and, decide_eq_true_eq]
    rw [h6]
    have h7 : (Ty.mk k l hh e ao b o len cap ps).len = len := rfl
    rw [h7] at h4
    omega
theorem Good.at_ {N : Nat} {R : List Ty} {Q : List (List Int)} (G : Good N R Q) {i : Nat} {n : List Int} (h : Q[i]? = some n) : ∃ t, R[i]? = some t := by
  have hl := (List.getElem?_eq_some_iff.1 h).1
  rw [G.len] at hl
  exact ⟨R[i], List.getElem?_eq_getElem hl⟩
theorem same_of_parts {s t : Ty} (h1 : s.k = t.k) (h2 : s.l = t.l) (h3 : s.h = t.h) (h4 : s.e = t.e) (h5 : s.len = t.len) (h6 : ∀ i, i < s.len → (s.ps i).same (t.ps i) = true) : s.same t = true := (same_iff s t).2 ⟨⟨h1, h2, h3, h4, h5⟩, h6⟩
theorem Good.uniq {N : Nat} {R : List Ty} {Q : List (List Int)} (G : Good N R Q) (i j : Nat) (n : List Int) (hi : Q[i]? = some n) (hj : Q[j]? = some n) : i = j := by
  obtain ⟨s, hs⟩ := G.at_ hi
  obtain ⟨t, ht⟩ := G.at_ hj
  obtain ⟨p, q, h1, h2, h3⟩ := G.ent i s hs
  obtain ⟨p', q', k1, k2, k3⟩ := G.ent j t ht
  rw [hi] at h1
  rw [hj] at k1
  have e := h1.symm.trans k1
  simp only [Option.some.injEq, List.cons.injEq, and_true] at e
  obtain ⟨e1, e2, e3, e4, e5, e6⟩ := e
  subst e5 e6
  have ks := fm_len (ok_fm (G.ok s (List.mem_of_getElem? hs))).1
  have kt := fm_len (ok_fm (G.ok t (List.mem_of_getElem? ht))).1
  have el : s.len = t.len := by
    have a := ks.2.1
    have b := kt.2.1
    rw [e1] at a
    omega
  refine G.dis i j s t hs ht (same_of_parts e1 e2 e3 e4 el fun m hm => ?_)
  have hm2 : m = 0 ∨ m = 1 := by have := ks.2.2.1; omega
  rcases hm2 with rfl | rfl
  · obtain ⟨a, u, ha, _, hu, hus⟩ := h2.1 hm
    obtain ⟨a', u', ha', _, hu', hus'⟩ := k2.1 (el ▸ hm)
    have : a = a' := by omega
    subst this
    rw [hu] at hu'
    cases hu'
    exact same_trans _ _ _ (same_symm _ _ hus) hus'
  · obtain ⟨a, u, ha, _, hu, hus⟩ := h3.1 hm
    obtain ⟨a', u', ha', _, hu', hus'⟩ := k3.1 (el ▸ hm)
    have : a = a' := by omega
    subst this
    rw [hu] at hu'
    cases hu'
    exact same_trans _ _ _ (same_symm _ _ hus) hus'
/-- A node that was found is that type's. -/
theorem Good.found {N : Nat} {R : List Ty} {Q : List (List Int)} (G : Good N R Q) {t : Ty} {p q : Int} {i m m' : Nat} (hl : t.len ≤ 2) (hp : Prt R m t 0 p) (hq : Prt R m' t 1 q) (h : Q[i]? = some [t.k, t.l, t.h, t.e, p, q]) : ∃ s, R[i]? = some s ∧ s.same t = true := by
  obtain ⟨s, hs⟩ := G.at_ h
  obtain ⟨p', q', h1, h2, h3⟩ := G.ent i s hs
  have e := h1.symm.trans h
  simp only [Option.some.injEq, List.cons.injEq, and_true] at e
  obtain ⟨e1, e2, e3, e4, e5, e6⟩ := e
  subst e5 e6
  have ks := fm_len (ok_fm (G.ok s (List.mem_of_getElem? hs))).1
  have el : s.len = t.len := by
    have a0 : 0 < s.len ↔ 0 < t.len := by
      constructor
      · intro h0
        obtain ⟨a, _, ha, _⟩ := h2.1 h0
        apply Classical.byContradiction
        intro hn
        have := hp.2 hn
        omega
      · intro h0
        obtain ⟨a, _, ha, _⟩ := hp.1 h0
        apply Classical.byContradiction
        intro hn
        have := h2.2 hn
        omega
    have a1 : 1 < s.len ↔ 1 < t.len := by
      constructor
      · intro h0
        obtain ⟨a, _, ha, _⟩ := h3.1 h0
        apply Classical.byContradiction
        intro hn
        have := hq.2 hn
        omega
      · intro h0
        obtain ⟨a, _, ha, _⟩ := hq.1 h0
        apply Classical.byContradiction
        intro hn
        have := h3.2 hn
        omega
    have := ks.2.2.1
    omega
  refine ⟨s, hs, same_of_parts e1 e2 e3 e4 el fun m hm => ?_⟩
  have hm2 : m = 0 ∨ m = 1 := by have := ks.2.2.1; omega
  rcases hm2 with rfl | rfl
  · obtain ⟨a, u, ha, _, hu, hus⟩ := h2.1 hm
    obtain ⟨a', u', ha', _, hu', hus'⟩ := hp.1 (el ▸ hm)
    have : a = a' := by omega
    subst this
    rw [hu] at hu'
    cases hu'
    exact same_trans _ _ _ (same_symm _ _ hus) hus'
  · obtain ⟨a, u, ha, _, hu, hus⟩ := h3.1 hm
    obtain ⟨a', u', ha', _, hu', hus'⟩ := hq.1 (el ▸ hm)
    have : a = a' := by omega
    subst this
    rw [hu] at hu'
    cases hu'
    exact same_trans _ _ _ (same_symm _ _ hus) hus'
theorem plc_sound {N : Nat} {R : List Ty} {Q : List (List Int)} (G : Good N R Q) : ∀ (t : Ty) (d : Nat), plc Q t d ≠ -1 → ∃ (i : Nat) (s : Ty), plc Q t d = i ∧ R[i]? = some s ∧ s.same t = true
  | .dm, _, h => absurd rfl h
  | .mk k l hh e ao b o len cap ps, d, h => by
    rw [plc] at h ⊢
    by_cases c1 : 6 < d ∨ 2 < len
    · rw [if_pos c1] at h; exact absurd rfl h
    rw [if_neg c1] at h ⊢
    by_cases c2 : 0 < len ∧ plc Q (ps 0) (d + 1) = -1
    · rw [if_pos c2] at h; exact absurd rfl h
    rw [if_neg c2] at h ⊢
    by_cases c3 : 1 < len ∧ plc Q (ps 1) (d + 1) = -1
    · rw [if_pos c3] at h; exact absurd rfl h
    rw [if_neg c3] at h ⊢
    obtain ⟨i, hi, hq⟩ := fnd_get h
    have P0 : Prt R R.length (.mk k l hh e ao b o len cap ps) 0 (if 0 < len then plc Q (ps 0) (d + 1) else -1) := by
      constructor
      · intro h0
        have h0 : 0 < len := h0
        rw [if_pos h0]
        obtain ⟨a, s, h1, h2, h3⟩ := plc_sound G (ps 0) (d + 1) (fun z => c2 ⟨h0, z⟩)
        exact ⟨a, s, h1, (List.getElem?_eq_some_iff.1 h2).1, h2, h3⟩
      · intro h0
        have h0 : ¬ 0 < len := h0
        rw [if_neg h0]
    have P1 : Prt R R.length (.mk k l hh e ao b o len cap ps) 1 (if 1 < len then plc Q (ps 1) (d + 1) else -1) := by
      constructor
      · intro h0
        have h0 : 1 < len := h0
        rw [if_pos h0]
        obtain ⟨a, s, h1, h2, h3⟩ := plc_sound G (ps 1) (d + 1) (fun z => c3 ⟨h0, z⟩)
        exact ⟨a, s, h1, (List.getElem?_eq_some_iff.1 h2).1, h2, h3⟩
      · intro h0
        have h0 : ¬ 1 < len := h0
        rw [if_neg h0]
    obtain ⟨s, hs, hss⟩ := G.found (t := .mk k l hh e ao b o len cap ps) (show len ≤ 2 by omega) P0 P1 hq
    exact ⟨i, s, hi, hs, hss⟩
theorem plc_of {N : Nat} {R : List Ty} {Q : List (List Int)} (G : Good N R Q) : ∀ (t : Ty) (d : Nat), t.fm N d = true → ∀ (i : Nat) (s : Ty), R[i]? = some s → s.same t = true → plc Q t d = i
  | .dm, _, h, _, _, _, _ => by simp [Ty.fm] at h
  | .mk k l hh e ao b o len cap ps, d, h, i, s, hs, hss => by
    obtain ⟨h1, h2, h3, h4⟩ := fm_len h
    have h3 : len ≤ 2 := h3
    obtain ⟨⟨k1, k2, k3, k4, k5⟩, k6⟩ := (same_iff _ _).1 hss
    have k5 : s.len = len := k5
    obtain ⟨p, q, m1, m2, m3⟩ := G.ent i s hs
    rw [plc, if_neg (by omega)]
    have a0 : 0 < len → plc Q (ps 0) (d + 1) = p := fun z => by
      obtain ⟨a, u, z1, _, z3, z4⟩ := m2.1 (by omega)
      rw [z1]
      exact plc_of G (ps 0) (d + 1) (h4 0 z) a u z3 (same_trans _ _ _ z4 (k6 0 (by omega)))
    have a1 : 1 < len → plc Q (ps 1) (d + 1) = q := fun z => by
      obtain ⟨a, u, z1, _, z3, z4⟩ := m3.1 (by omega)
      rw [z1]
      exact plc_of G (ps 1) (d + 1) (h4 1 z) a u z3 (same_trans _ _ _ z4 (k6 1 (by omega)))
    have b0 : (if 0 < len then plc Q (ps 0) (d + 1) else -1) = p := by
      by_cases z : 0 < len
      · rw [if_pos z, a0 z]
      · rw [if_neg z, m2.2 (by omega)]
    have b1 : (if 1 < len then plc Q (ps 1) (d + 1) else -1) = q := by
      by_cases z : 1 < len
      · rw [if_pos z, a1 z]
      · rw [if_neg z, m3.2 (by omega)]
    rw [if_neg (fun z => by
      obtain ⟨a, u, z1, _⟩ := m2.1 (by omega)
      have := a0 z.1
      omega), if_neg (fun z => by
      obtain ⟨a, u, z1, _⟩ := m3.1 (by omega)
      have := a1 z.1
      omega), b0, b1]
    apply fnd_of G.uniq
    rw [m1]
    have k1 : s.k = k := k1
    have k2 : s.l = l := k2
    have k3 : s.h = hh := k3
    have k4 : s.e = e := k4
    rw [k1, k2, k3, k4]

/-- Is it there? -/
def has (R : List Ty) (t : Ty) : Bool := R.any fun s => s.same t
theorem has_iff {R : List Ty} {t : Ty} : has R t = true ↔ ∃ (i : Nat) (s : Ty), R[i]? = some s ∧ s.same t = true := by
  unfold has
  rw [List.any_eq_true]
  constructor
  · rintro ⟨s, h1, h2⟩
    obtain ⟨i, hi⟩ := List.mem_iff_getElem?.1 h1
    exact ⟨i, s, hi, h2⟩
  · rintro ⟨i, s, h1, h2⟩
    exact ⟨s, List.mem_of_getElem? h1, h2⟩
def itr (f : Nat → List Ty → List Ty) : Nat → List Ty → List Ty
  | 0, R => R
  | n + 1, R => f n (itr f n R)
/-- A type put behind others, its Parts first, where they aren't there. -/
def putT : Ty → List Ty → List Ty
  | .dm, R => R
  | .mk k l h e ao b o len cap ps, R => if has (itr (fun i => putT (ps i)) len R) (.mk k l h e ao b o len cap ps) then itr (fun i => putT (ps i)) len R else itr (fun i => putT (ps i)) len R ++ [.mk k l h e ao b o len cap ps]
theorem putT_eq (t : Ty) (R : List Ty) (hd : t ≠ .dm) : putT t R = if has (itr (fun i => putT (t.ps i)) t.len R) t then itr (fun i => putT (t.ps i)) t.len R else itr (fun i => putT (t.ps i)) t.len R ++ [t] := by
  cases t with
  | dm => exact absurd rfl hd
  | mk k l h e ao b o len cap ps => rfl
def takeT (R : List Ty) (t : Ty) : List Ty := if has R t then R else putT t R
theorem Prt.mono {R R' : List Ty} {i i' : Nat} {t : Ty} {j : Nat} {p : Int} (h : Prt R i t j p) (hi : i ≤ i') (hR : ∀ (a : Nat) (s : Ty), R[a]? = some s → R'[a]? = some s) : Prt R' i' t j p :=
  ⟨fun hj => by obtain ⟨a, s, h1, h2, h3, h4⟩ := h.1 hj; exact ⟨a, s, h1, by omega, hR _ _ h3, h4⟩, h.2⟩
theorem pre_get {R X : List Ty} {a : Nat} {s : Ty} (h : R[a]? = some s) : (R ++ X)[a]? = some s := by
  rw [List.getElem?_append_left (List.getElem?_eq_some_iff.1 h).1]; exact h
/-- One more. -/
theorem Good.push {N : Nat} {R : List Ty} {Q : List (List Int)} (G : Good N R Q) {t : Ty} {p q : Int} (ht : t.ok N = true) (hp : Prt R R.length t 0 p) (hq : Prt R R.length t 1 q) (h : fnd Q [t.k, t.l, t.h, t.e, p, q] = -1) :
    has R t = false ∧ Good N (R ++ [t]) (Q ++ [[t.k, t.l, t.h, t.e, p, q]]) := by
  have hno : ∀ (i : Nat) (s : Ty), R[i]? = some s → s.same t = true → False := fun i s hs hss => by
    obtain ⟨⟨k1, k2, k3, k4, k5⟩, k6⟩ := (same_iff _ _).1 hss
    obtain ⟨p', q', m1, m2, m3⟩ := G.ent i s hs
    have e0 : p' = p := by
      by_cases z : 0 < t.len
      · obtain ⟨a, u, z1, _, z3, z4⟩ := m2.1 (by omega)
        obtain ⟨a', u', y1, _, y3, y4⟩ := hp.1 z
        have := G.dis a a' u u' z3 y3 (same_trans _ _ _ z4 (same_trans _ _ _ (k6 0 (by omega)) (same_symm _ _ y4)))
        omega
      · rw [m2.2 (by omega), hp.2 z]
    have e1 : q' = q := by
      by_cases z : 1 < t.len
      · obtain ⟨a, u, z1, _, z3, z4⟩ := m3.1 (by omega)
        obtain ⟨a', u', y1, _, y3, y4⟩ := hq.1 z
        have := G.dis a a' u u' z3 y3 (same_trans _ _ _ z4 (same_trans _ _ _ (k6 1 (by omega)) (same_symm _ _ y4)))
        omega
      · rw [m3.2 (by omega), hq.2 z]
    rw [k1, k2, k3, k4, e0, e1] at m1
    exact fnd_no h (List.mem_of_getElem? m1)
  have hlast : ∀ (i : Nat) (s : Ty), (R ++ [t])[i]? = some s → R[i]? = some s ∨ (i = R.length ∧ s = t) := fun i s hs => by
    by_cases z : i < R.length
    · rw [List.getElem?_append_left z] at hs; exact Or.inl hs
    · rw [List.getElem?_append_right (by omega)] at hs
      have : i - R.length = 0 := by
        apply Classical.byContradiction
        intro y
        have : ([t] : List Ty)[i - R.length]? = none := by simp; omega
        rw [this] at hs
        cases hs
      rw [this] at hs
      simp at hs
      exact Or.inr ⟨by omega, hs.symm⟩
  refine ⟨?_, ⟨by simp [G.len], ?_, ?_, ?_⟩⟩
  · cases hh : has R t with
    | false => rfl
    | true =>
      obtain ⟨i, s, h1, h2⟩ := has_iff.1 hh
      exact (hno i s h1 h2).elim
  · intro s hs
    rcases List.mem_append.1 hs with h1 | h1
    · exact G.ok s h1
    · rw [List.mem_singleton.1 h1]; exact ht
  · intro i s hs
    rcases hlast i s hs with h1 | ⟨h1, h2⟩
    · obtain ⟨p', q', m1, m2, m3⟩ := G.ent i s h1
      refine ⟨p', q', ?_, m2.mono (Nat.le_refl _) (fun _ _ => pre_get), m3.mono (Nat.le_refl _) (fun _ _ => pre_get)⟩
      rw [List.getElem?_append_left (List.getElem?_eq_some_iff.1 m1).1]; exact m1
    · subst h1 h2
      refine ⟨p, q, ?_, hp.mono (Nat.le_refl _) (fun _ _ => pre_get), hq.mono (Nat.le_refl _) (fun _ _ => pre_get)⟩
      rw [← G.len]; simp
  · intro i j s u hs hu hsu
    rcases hlast i s hs with h1 | ⟨h1, h2⟩
    · rcases hlast j u hu with k1 | ⟨k1, k2⟩
      · exact G.dis i j s u h1 k1 hsu
      · subst k2; exact (hno i s h1 hsu).elim
    · rcases hlast j u hu with k1 | ⟨k1, k2⟩
      · subst h2; exact (hno j u k1 (same_symm _ _ hsu)).elim
      · omega
/-- Behind a type's Parts: it is there, or is put. -/
theorem Good.here {N : Nat} {R : List Ty} {Q : List (List Int)} (G : Good N R Q) {t : Ty} {p q : Int} {i : Nat} (hl : t.len ≤ 2) (hp : Prt R R.length t 0 p) (hq : Prt R R.length t 1 q) (h : fnd Q [t.k, t.l, t.h, t.e, p, q] = i) : has R t = true ∧ ∃ s, R[i]? = some s ∧ s.same t = true := by
  have hn : fnd Q [t.k, t.l, t.h, t.e, p, q] ≠ -1 := by omega
  obtain ⟨j, hj, hq'⟩ := fnd_get hn
  have : j = i := by omega
  subst this
  obtain ⟨s, hs, hss⟩ := G.found hl hp hq hq'
  exact ⟨has_iff.2 ⟨j, s, hs, hss⟩, s, hs, hss⟩
end Go.Proofs.YtjfijpiadfkmfaaGreatDoor
