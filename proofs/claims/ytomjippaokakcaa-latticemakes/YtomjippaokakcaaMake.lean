/- The walk of layer 1's Make. -/
import Derived.Test.YtomjippaokakcaaLeast
namespace Go.Proofs.Ytomjippaokakcaa
open Go.RowKit

/-- A table at block T, its rows behind. -/
def gridOf (T n : Nat) (M : Nat → Nat → Bool) : Grid := ⟨some ⟨T, 0, none⟩, T, 0, n, n, fun j => some ⟨T + 1 + j, 0, none⟩, fun _ => n, fun _ => n, fun j => T + 1 + j, fun _ => 0, M⟩
theorem OwnG.at' {w wr : World} {n : Nat} {M : Nat → Nat → Bool} (h : OwnG w wr n M) (h8 : n ≤ 8) : (gridOf w.heap.size n M).At wr where
  lc := Nat.le_refl _
  nil := fun _ => rfl
  bound := by show n ≤ _; omega
  lbound := fun _ _ => by show n ≤ _; omega
  row := fun r hr => by
    show wr.cell? ⟨w.heap.size, 0 + r, none⟩ = _
    rw [Nat.zero_add]; exact h.top.cell hr
  adr := fun _ _ _ => rfl
  cell := fun r hr c hc => by
    show wr.cell? ⟨w.heap.size + 1 + r, 0 + c, none⟩ = _
    rw [Nat.zero_add]; exact (h.rows r hr).cell hc

/-- Formed, of names and truths alone. -/
def formedM (len : Nat) (s : Nat → ByteArray) (M : Nat → Nat → Bool) : Bool := formedB ⟨none, 0, 0, len, len, s⟩ (gridOf 0 len M)
theorem formed_canon {n : Strs} {T len : Nat} {s : Nat → ByteArray} {M : Nat → Nat → Bool} (h1 : n.len = len) (h2 : n.s = s) : formedB n (gridOf T len M) = formedM len s M := by
  obtain ⟨ao, b, o, l, c, s'⟩ := n
  simp only at h1 h2
  subst h1 h2
  rfl

/-- What Make answers: an error, or names and a table. -/
def makeE (n : Strs) (p : Prs) : Int := if 8 < n.len ∨ 64 < p.len then 1 else if prsB p n.len = false then 10 else if formedM n.len n.s (leastM p n.len) = false then 4 else 0

structure Made (n : Strs) (p : Prs) (e : Int) (n' : Strs) (g' : Grid) (w' : World) : Prop where
  er : e = makeE n p
  nat : n'.At w'
  gat : g'.At w'
  yes : e = 0 → n'.len = n.len ∧ n'.s = n.s ∧ ∃ T, g' = gridOf T n.len (leastM p n.len)
  no : e ≠ 0 → n'.len = 0 ∧ g'.len = 0

def noStrs : Strs := ⟨none, 0, 0, 0, 0, fun _ => ByteArray.empty⟩
def noGrid : Grid := ⟨none, 0, 0, 0, 0, fun _ => none, fun _ => 0, fun _ => 0, fun _ => 0, fun _ => 0, fun _ _ => false⟩
theorem noStrs_at (w : World) : noStrs.At w := ⟨Nat.le_refl _, fun h => absurd h (Nat.lt_irrefl _), Nat.zero_le _, fun _ h => absurd h (Nat.not_lt_zero _), fun _ h => absurd h (Nat.not_lt_zero _)⟩
theorem noGrid_at (w : World) : noGrid.At w := ⟨Nat.le_refl _, fun h => absurd h (Nat.lt_irrefl _), Nat.zero_le _, fun _ h => absurd h (Nat.not_lt_zero _), fun _ h => absurd h (Nat.not_lt_zero _), fun _ h => absurd h (Nat.not_lt_zero _), fun _ h => absurd h (Nat.not_lt_zero _)⟩

theorem clone_any (g : Strs) (w : World) (hg : g.At w) (h8 : g.len ≤ 8) (hs : g.ao = none ∨ g.ao = some ⟨g.b, g.o, none⟩) :
    Calls Try.prog 51 #[.slice g.ao g.len g.cap] w fun e w' => ∃ g' : Strs, e = .returned (.slice g'.ao g'.len g'.cap) ∧ g'.At w' ∧ g'.len = g.len ∧ g'.s = g.s ∧ Below w.heap.size w w' := by
  rcases hs with h | h
  · exact clone_nil g w hg h
  · exact clone_some g w hg h8 h

theorem makeE_1 {n : Strs} {p : Prs} (h : 8 < n.len ∨ 64 < p.len) : makeE n p = 1 := by unfold makeE; rw [if_pos h]
theorem makeE_10 {n : Strs} {p : Prs} (h : ¬ (8 < n.len ∨ 64 < p.len)) (h2 : prsB p n.len = false) : makeE n p = 10 := by unfold makeE; rw [if_neg h, if_pos h2]
theorem makeE_4 {n : Strs} {p : Prs} (h : ¬ (8 < n.len ∨ 64 < p.len)) (h2 : prsB p n.len = true) (h3 : formedM n.len n.s (leastM p n.len) = false) : makeE n p = 4 := by unfold makeE; rw [if_neg h, if_neg (by rw [h2]; simp), if_pos h3]
theorem makeE_0 {n : Strs} {p : Prs} (h : ¬ (8 < n.len ∨ 64 < p.len)) (h2 : prsB p n.len = true) (h3 : formedM n.len n.s (leastM p n.len) = true) : makeE n p = 0 := by unfold makeE; rw [if_neg h, if_neg (by rw [h2]; simp), if_neg (by rw [h3]; simp)]
theorem made_no {n : Strs} {p : Prs} {e : Int} (w : World) (h : makeE n p = e) (h0 : e ≠ 0) : Made n p e noStrs noGrid w := ⟨h.symm, noStrs_at w, noGrid_at w, fun h => absurd h h0, fun _ => ⟨rfl, rfl⟩⟩

theorem Strs.At.set {g : Strs} {w : World} (h : g.At w) {a : Addr} {p : Option Addr} {l c : Nat} (ha : w.cell? a = some (.slice p l c)) (v : Value) : g.At (w.setCell a v) :=
  ⟨h.lc, h.nil, h.bound, fun i hi => by
    have hc := h.cell i hi
    rw [World.cell?_setCell_other _ _ _ _ (fun e => by rw [← e, ha] at hc; cases hc)]
    exact hc, h.sz⟩
theorem gridOf_set {T n : Nat} {M : Nat → Nat → Bool} {w : World} (h : (gridOf T n M).At w) {a : Addr} (ha : a.block < T) (v : Value) : (gridOf T n M).At (w.setCell a v) where
  lc := h.lc
  nil := h.nil
  bound := h.bound
  lbound := h.lbound
  row := fun r hr => by
    rw [World.cell?_setCell_other _ _ _ _ (fun e => by have := congrArg Addr.block e; simp [gridOf] at this; omega)]
    exact h.row r hr
  adr := h.adr
  cell := fun r hr c hc => by
    rw [World.cell?_setCell_other _ _ _ _ (fun e => by have := congrArg Addr.block e; simp [gridOf] at this; omega)]
    exact h.cell r hr c hc
theorem below_set2 {w w1 : World} (h : Below w.heap.size w w1) (u v : Value) : Below w.heap.size w ((w1.setCell ⟨w.heap.size, 0, none⟩ u).setCell ⟨w.heap.size, 1, none⟩ v) :=
  (h.setCell (Nat.le_refl _) _).setCell (Nat.le_refl _) _

set_option maxHeartbeats 2000000 in
theorem make_any (n : Strs) (p : Prs) (w : World) (hn : n.At w) (hp : p.At w) (hs : n.ao = none ∨ n.ao = some ⟨n.b, n.o, none⟩) :
    Calls Try.prog 30 #[.slice n.ao n.len n.cap, .slice p.ao p.len p.cap] w fun e w' => ∃ (er : Int) (n' : Strs) (g' : Grid), e = .returned (.tuple #[.agg #[.slice n'.ao n'.len n'.cap, .slice g'.ao g'.len g'.cap], .int .i64 er]) ∧ Made n p er n' g' w' ∧ Below w.heap.size w w' := by
  have hnb := hn.bound
  have hpb := hp.bound
  have B0 := Box2.start w (.slice none 0 0) (.slice none 0 0) 25
  by_cases h1 : 8 < n.len ∨ 64 < p.len
  · have HE : Hid (makeE n p = 1) := makeE_1 h1
    by_cases h8 : 8 < n.len
    · have d8 : decide ((8 : Int) < n.len) = true := by simp; omega
      clear h1
      go_enter Try.func30, Try.ntmps30
      go_wp2
      exact bodyPost_ret (v := .tuple #[.agg #[.slice none 0 0, .slice none 0 0], .int .i64 1]) (by simp [results, Try.results30, go_sem]) rfl ⟨1, noStrs, noGrid, rfl, made_no _ HE.out (by decide), B0.bl⟩
    · have d8 : decide ((8 : Int) < n.len) = false := by simp; omega
      have d64 : decide ((64 : Int) < p.len) = true := by simp; omega
      clear h1
      go_enter Try.func30, Try.ntmps30
      go_wp2
      exact bodyPost_ret (v := .tuple #[.agg #[.slice none 0 0, .slice none 0 0], .int .i64 1]) (by simp [results, Try.results30, go_sem]) rfl ⟨1, noStrs, noGrid, rfl, made_no _ HE.out (by decide), B0.bl⟩
  · have d8 : decide ((8 : Int) < n.len) = false := by simp; omega
    have d64 : decide ((64 : Int) < p.len) = false := by simp; omega
    have H1 : Hid (¬ (8 < n.len ∨ 64 < p.len)) := h1
    have l8 : n.len ≤ 8 := by omega
    have l64 : p.len ≤ 64 := by omega
    clear h1
    go_enter Try.func30, Try.ntmps30
    go_wp2_with fail
    refine (pairsInRange_any p n.len _ (hp.kept B0.bl)).mono ?_
    rintro e w1 ⟨rfl, hb1⟩
    have B1 := B0.step hb1
    clear hb1 B0
    cases h2 : prsB p n.len
    · have c0 := B1.c0
      have c1 := B1.c1
      have f0 := B1.f0
      have f1 := B1.f1
      have HE : Hid (makeE n p = 10) := makeE_10 H1.out h2
      go_wp2
      exact bodyPost_ret (v := .tuple #[.agg #[.slice none 0 0, .slice none 0 0], .int .i64 10]) (by simp [results, Try.results30, go_sem, c0, c1]) rfl ⟨10, noStrs, noGrid, rfl, made_no _ HE.out (by decide), below_set2 B1.bl _ _⟩
    · go_wp2_with fail
      refine (clone_any n _ (hn.kept B1.bl) l8 hs).mono ?_
      rintro e w2 ⟨n', rfl, hn2, hl2, hs2, hb2⟩
      obtain ⟨ao', b', o', l', c', s'⟩ := n'
      dsimp only at hl2 hs2
      subst hl2 hs2
      have B2 := B1.step hb2
      clear hb2
      go_wp2_with fail
      refine (leastOrder_any p n.len _ (hp.kept B2.bl) l8 l64 h2).mono ?_
      rintro e w3 ⟨rfl, hO⟩
      have B3 := B2.step hO.bl
      have hn3 := hn2.kept hO.bl
      have hg3 := hO.at' l8
      have X3 := Box2.start w3 (.slice ao' n.len c') (.slice (some ⟨w2.heap.size, 0, none⟩) n.len n.len) 25
      have T3 := B2.lt
      clear hO
      go_wp2_with fail
      refine (formed_any ⟨ao', b', o', n.len, c', n.s⟩ (gridOf w2.heap.size n.len (leastM p n.len)) _ (hn3.kept X3.bl) (hg3.kept X3.bl)).mono ?_
      rintro e w4 ⟨rfl, hb4⟩
      have X4 := X3.step hb4
      have B4 := B3.step X4.bl
      have hn4 := hn3.kept X4.bl
      have hg4 := hg3.kept X4.bl
      clear hb4 X3 hn3 hg3 B3
      rw [formed_canon (n := ⟨ao', b', o', n.len, c', n.s⟩) (s := n.s) rfl rfl]
      have c0 := B4.c0
      have c1 := B4.c1
      have f0 := B4.f0
      have f1 := B4.f1
      have x0 := X4.c0
      have x1 := X4.c1
      cases h3 : formedM n.len n.s (leastM p n.len)
      · have HE : Hid (makeE n p = 4) := makeE_4 H1.out h2 h3
        go_wp2
        exact bodyPost_ret (v := .tuple #[.agg #[.slice none 0 0, .slice none 0 0], .int .i64 4]) (by simp [results, Try.results30, go_sem, c0, c1]) rfl ⟨4, noStrs, noGrid, rfl, made_no _ HE.out (by decide), below_set2 B4.bl _ _⟩
      · have HE : Hid (makeE n p = 0) := makeE_0 H1.out h2 h3
        go_wp2
        have c1' : (w4.setCell ⟨w.heap.size, 0, none⟩ (.slice ao' n.len c')).cell? ⟨w.heap.size, 1, none⟩ = some (.slice none 0 0) := by
          rw [World.cell?_setCell_other _ _ _ _ (by simp)]; exact c1
        refine bodyPost_ret (v := .tuple #[.agg #[.slice ao' n.len c', .slice (some ⟨w2.heap.size, 0, none⟩) n.len n.len], .int .i64 0]) (by simp [results, Try.results30, go_sem, c0, c1]) rfl ⟨0, ⟨ao', b', o', n.len, c', n.s⟩, gridOf w2.heap.size n.len (leastM p n.len), rfl, ?_, below_set2 B4.bl _ _⟩
        exact ⟨HE.out.symm, (hn4.set c0 _).set c1' _, gridOf_set (gridOf_set hg4 T3 _) T3 _, fun _ => ⟨rfl, rfl, _, rfl⟩, fun h => absurd rfl h⟩
end Go.Proofs.Ytomjippaokakcaa
