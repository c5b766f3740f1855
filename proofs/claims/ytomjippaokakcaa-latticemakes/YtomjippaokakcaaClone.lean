/- The walks of slices.Clone and layer 1's addAll. -/
import Derived.Test.YtomjippaokakcaaPairs
import Derived.Deep.OwnRows
namespace Go.Proofs.Ytomjippaokakcaa
open Go.RowKit

/-- Nothing but block p has turned. -/
structure Wrote (w w' : World) (p : Nat) : Prop where
  os : w'.os = w.os
  tape : w'.tape = w.tape
  output : w'.output = w.output
  size : w'.heap.size = w.heap.size
  block : ∀ k, k ≠ p → w'.heap[k]? = w.heap[k]?
theorem Wrote.refl (w : World) (p : Nat) : Wrote w w p := ⟨rfl, rfl, rfl, rfl, fun _ _ => rfl⟩
theorem Wrote.setCell {w w' : World} {p : Nat} (h : Wrote w w' p) (o : Nat) (v : Value) : Wrote w (w'.setCell ⟨p, o, none⟩ v) p :=
  ⟨h.os, h.tape, h.output, by rw [← h.size]; simp [World.setCell], fun k hk => (Below.heap_setCell _ _ _ _ hk).trans (h.block k hk)⟩

set_option maxHeartbeats 1000000 in
theorem addAll_any (p q n : Nat) (f h : Nat → Bool) (w : World) (hn : n ≤ 8) (hp : w.rowIs p 4 n (fun c => .bool (f c))) (hq : w.rowIs q 4 n (fun c => .bool (h c))) (hpq : p = q → ∀ c, f c = h c) :
    Calls Try.prog 62 #[.slice (some ⟨p, 0, none⟩) n n, .slice (some ⟨q, 0, none⟩) n n] w fun e w' => e = .returned (.tuple #[]) ∧ w'.rowIs p 4 n (fun c => .bool (f c || h c)) ∧ Wrote w w' p := by
  go_enter Try.func62, Try.ntmps62
  go_wp2
  go_loopw [8] (fun i wr => ∃ k : Nat, k ≤ n ∧ i = .int .i64 k ∧ wr.rowIs p 4 n (fun c => .bool (f c || (decide (c < k) && h c))) ∧ wr.rowIs q 4 n (fun c => .bool (h c)) ∧ Wrote w wr p) (fun i _ => n - (intOf i).toNat)
  case atStart => exact ⟨0, Nat.zero_le _, rfl, hp.congr (fun c _ => by simp), hq, Wrote.refl _ _⟩
  case round =>
    obtain ⟨k, hk, rfl, h1, h2, hw⟩ := hrel
    have H1 : Hid (wr.rowIs p 4 n (fun c => .bool (f c || (decide (c < k) && h c)))) := h1
    have H2 : Hid (wr.rowIs q 4 n (fun c => .bool (h c))) := h2
    clear hp hq
    by_cases hlt : k < n
    · have c1 := h1.cell hlt
      have c2 := h2.cell hlt
      have f1 := h1.frozen k
      clear h1 h2
      cases hb : h k
      · rw [hb] at c2
        go_wp2
        go_roundw
        case rel =>
          refine ⟨k + 1, by omega, by go_num, H1.out.congr (fun c _ => ?_), H2.out, hw⟩
          by_cases e : c = k
          · subst e; simp [hb]
          · rw [show decide (c < k + 1) = decide (c < k) from decide_eq_decide.2 (by omega)]
        case measure => simp [intOf]; omega
      · rw [hb] at c2
        go_wp2
        go_roundw
        case rel =>
          have hnew : (wr.setCell ⟨p, k, none⟩ (.bool true)).rowIs p 4 n (fun c => .bool (f c || (decide (c < k + 1) && h c))) := (H1.out.set k (.bool true)).congr (fun c _ => by
            by_cases e : c = k
            · subst e; simp [hb]
            · rw [if_neg e, show decide (c < k + 1) = decide (c < k) from decide_eq_decide.2 (by omega)])
          refine ⟨k + 1, by omega, by go_num, hnew, ?_, hw.setCell _ _⟩
          by_cases e : p = q
          · subst e
            exact hnew.congr (fun c _ => by rw [hpq rfl c]; simp)
          · exact H2.out.setOther (fun e' => e e'.symm) _
        case measure => simp [intOf]; omega
    · have e : k = n := by omega
      clear h1 h2
      have H3 : Hid (wr.rowIs p 4 n (fun c => .bool (f c || h c))) := H1.out.congr (fun c hc => by simp [show c < k by omega])
      clear H1 H2 e
      go_wp2
      go_end0
      exact ⟨rfl, H3.out, hw⟩

theorem run_eql_slice_nil {P : Program} (w : World) (t e : TypeId) (a : Option Addr) (l c : Nat) (h : P.underlying t = some (.slice e)) : (binOp .eql t (.slice a l c) (.slice none 0 0)).run P w = .ok (.bool a.isNone) w := by
  simp only [binOp, Sem.run_bind, run_equal_slice_nil w t e a l c h, Result.andThen]; rfl

theorem Try.infoString : (Try.prog.info? 9).map (fun i => (i.zero, i.size, i.bytes)) = some (some (.string ⟨#[]⟩), 1, 16) := by kernel_rfl

/-- What the names' cells hold. -/
def strCells (g : Strs) : List Value := (List.range g.len).map fun i => .string (g.s i)
theorem strCells_at (g : Strs) (i : Nat) (hi : i < g.len) : (strCells g)[i]? = some (.string (g.s i)) := by simp [strCells, hi]

theorem addr_add (b o i : Nat) : (⟨b, o, none⟩ : Addr).add i = ⟨b, o + i, none⟩ := by unfold Addr.add; split <;> simp_all

theorem strCells_news (g : Strs) (w : World) (hg : g.At w) (o : Obj) (j : Nat) (u : Value) (h : (strCells g)[j]? = some u) : (w.alloc o).cell? ((⟨g.b, g.o, none⟩ : Addr).add j) = some u := by
  have hj : j < g.len := by
    have := (List.getElem?_eq_some_iff.1 h).1
    simpa [strCells] using this
  rw [strCells_at g j hj] at h
  have hc := hg.cell j hj
  rw [← h]
  have := (((Below.refl _ _).alloc (Nat.le_refl _) o).cell (p := ⟨g.b, g.o + j, none⟩) (cell_lt hc)).trans hc
  rw [addr_add]; exact this

theorem strs_of_own {w : World} {base : Nat} {v : Value} {g : Strs} (h : w.ownsRow base 9 1 v (0 + g.len) ([] ++ strCells g)) (hv : v ≠ .slice none 0 0) (h8 : g.len ≤ 8) (hsz : ∀ i, i < g.len → (g.s i).size ≤ 9223372036854775807) :
    ∃ g' : Strs, v = .slice g'.ao g'.len g'.cap ∧ g'.At w ∧ g'.len = g.len ∧ g'.s = g.s := by
  rw [Nat.zero_add, List.nil_append] at h
  have h' := h
  obtain ⟨_, h0 | ⟨gb, cap, cur, rfl, _, _, hc, _⟩⟩ := h'
  · exact absurd h0.1 hv
  · refine ⟨⟨some ⟨gb, 0, none⟩, gb, 0, g.len, cap, g.s⟩, rfl, ⟨hc, fun _ => rfl, Nat.le_trans h8 (by omega), fun i hi => ?_, hsz⟩, rfl, rfl⟩
    show w.cell? ⟨gb, 0 + i, none⟩ = _
    rw [Nat.zero_add, h.cellAt i (by simpa using hi)]
    exact strCells_at g i hi

set_option maxHeartbeats 1000000 in
theorem clone_some (g : Strs) (w : World) (hg : g.At w) (h8 : g.len ≤ 8) (hs : g.ao = some ⟨g.b, g.o, none⟩) :
    Calls Try.prog 51 #[.slice g.ao g.len g.cap] w fun e w' => ∃ g' : Strs, e = .returned (.slice g'.ao g'.len g'.cap) ∧ g'.At w' ∧ g'.len = g.len ∧ g'.s = g.s ∧ Below w.heap.size w w' := by
  rw [hs]
  have hnl := fun w => run_eql_slice_nil (P := Try.prog) w 22 9 (some ⟨g.b, g.o, none⟩) g.len g.cap Try.underlying22
  obtain ⟨i0, hi, hz0, hz1, hz2⟩ := info_parts Try.infoString
  have hown : (w.alloc (.cells #[] 9)).ownsRow w.heap.size 9 1 (.slice (some ⟨w.heap.size, 0, none⟩) 0 0) 0 [] := World.ownsRow_lit w #[] 0 (Nat.le_refl _) (by omega) rfl
  go_enter Try.func51, Try.ntmps51
  go_wp2_with (at_builtin; refine wpList_append_own _ rfl _ _ 22 rfl w.heap.size 9 i0 (.string ⟨#[]⟩) 1 16 Try.underlying22 hi hz0 hz1 hz2 rfl (by decide) _ _ _ rfl hown ⟨g.b, g.o, none⟩ g.len g.cap (strCells g) rfl (by simp [strCells]) (strCells_news g w hg _) (by intro u hu; simp [strCells] at hu; obtain ⟨_, _, rfl⟩ := hu; rfl) (by unfold maxLen; omega) (by omega) (by simp) ?_; intro v' w1 hown' hgrow hiff)
  obtain ⟨g', hv, hat, hl, hss⟩ := strs_of_own hown' (fun e => absurd (hiff.1 e).1 (by intro h; injection h with h1; cases h1)) h8 hg.sz
  subst hv
  have hbl : Below w.heap.size w w1 := ((Below.refl _ _).alloc (Nat.le_refl _) _).grown hgrow (by simp) (fun k hk => Nat.le_of_eq (Option.some.inj hk))
  clear hown' hgrow hiff hown hi hz0 hz1 hz2
  go_wp2
  go_ret
  exact ⟨g', rfl, hat, hl, hss, hbl⟩

set_option maxHeartbeats 1000000 in
theorem clone_nil (g : Strs) (w : World) (hg : g.At w) (hs : g.ao = none) :
    Calls Try.prog 51 #[.slice g.ao g.len g.cap] w fun e w' => ∃ g' : Strs, e = .returned (.slice g'.ao g'.len g'.cap) ∧ g'.At w' ∧ g'.len = g.len ∧ g'.s = g.s ∧ Below w.heap.size w w' := by
  have h0 : g.len = 0 := by
    by_cases h : 0 < g.len
    · have := hg.nil h; rw [hs] at this; exact absurd this (by simp)
    · omega
  rw [hs]
  have hnl := fun w => run_eql_slice_nil (P := Try.prog) w 22 9 none g.len g.cap Try.underlying22
  have HG : Hid (Strs.At ⟨none, 0, 0, 0, 0, g.s⟩ w ∧ 0 = g.len) := ⟨⟨Nat.le_refl _, fun h => absurd h (Nat.lt_irrefl _), Nat.zero_le _, fun _ h => absurd h (Nat.not_lt_zero _), fun _ h => absurd h (Nat.not_lt_zero _)⟩, h0.symm⟩
  clear h0
  go_enter Try.func51, Try.ntmps51
  go_wp2
  go_ret
  exact ⟨⟨none, 0, 0, 0, 0, g.s⟩, rfl, HG.out.1, HG.out.2, rfl, Below.refl _ _⟩
end Go.Proofs.Ytomjippaokakcaa
