/- Layer 6: the reader of words: next, take, is, skip, need, name. -/
import Derived.Test.YtcoeefckldkbeaaGreatDoorP14
import Derived.Test.YtcoeefckldkbeaaGreatDoorP12
import Derived.Test.YtcoeefckldkbeaaGreatDoorP6
import Derived.Test.YtcoeefckldkbeaaGreatDoorP10
import Derived.Deep.QuietTactic
import Derived.BigQuiet
import Derived.Test.YtcoeefckldkbeaaGreatDoorP11
namespace Go.Proofs.YtcoeefckldkbeaaGreatDoor
open Go Go.RowKit

/-- A word. -/
structure Tq where
  k : Int
  s : ByteArray
  n : Int
  a : Int
structure C4 (w : World) (b o : Nat) (t : Tq) : Prop where
  c0 : w.cell? ⟨b, o, none⟩ = some (.int .i64 t.k)
  c1 : w.cell? ⟨b, o + 1, none⟩ = some (.string t.s)
  c2 : w.cell? ⟨b, o + 2, none⟩ = some (.int .i64 t.n)
  c3 : w.cell? ⟨b, o + 3, none⟩ = some (.int .i64 t.a)
/-- The reader in block p: these words are left. -/
def Rp (w : World) (p : Nat) (ts : List Tq) (L : Int) (x y : Value) : Prop := ∃ ao b o c, Blk w p [.slice ao ts.length c, .int .i64 L, x, y] 70 ∧ (0 < ts.length → ao = some ⟨b, o, none⟩ ∧ b < p) ∧ ts.length ≤ c ∧ ts.length ≤ 10000 ∧ True ∧ ∀ i t, ts[i]? = some t → C4 w b (o + i * 4) t
theorem C4.block {w w' : World} {b o : Nat} {t : Tq} (h : C4 w b o t) (hb : w'.heap[b]? = w.heap[b]?) : C4 w' b o t := by
  have e : ∀ q, w'.cell? ⟨b, q, none⟩ = w.cell? ⟨b, q, none⟩ := fun q => World.cell?_of_block (a := ⟨b, q, none⟩) hb
  exact ⟨(e _).trans h.c0, (e _).trans h.c1, (e _).trans h.c2, (e _).trans h.c3⟩
theorem Rp.lt {w : World} {p : Nat} {ts : List Tq} {L : Int} {x y : Value} (h : Rp w p ts L x y) : p < w.heap.size := by
  obtain ⟨ao, b, o, c, h1, _⟩ := h
  exact h1.lt
theorem Rp.below {w w' : World} {p B : Nat} {ts : List Tq} {L : Int} {x y : Value} (h : Rp w p ts L x y) (hB : p < B) (hb : Below B w w') : Rp w' p ts L x y := by
  obtain ⟨ao, b, o, c, h1, h2, h3, h4, h5, h6⟩ := h
  refine ⟨ao, b, o, c, by unfold Blk; rw [hb.block _ hB]; exact h1, h2, h3, h4, h5, fun i t ht => ?_⟩
  have hp : 0 < ts.length := by
    rcases Nat.lt_or_ge i ts.length with q | q
    · omega
    · rw [List.getElem?_eq_none q] at ht; cases ht
  exact (h6 i t ht).block (hb.block _ (by have := (h2 hp).2; omega))
theorem Rp.kept {w w' : World} {p : Nat} {ts : List Tq} {L : Int} {x y : Value} (h : Rp w p ts L x y) (hb : Below w.heap.size w w') : Rp w' p ts L x y := h.below h.lt hb
theorem gb_refl (w : World) (r : Option Nat) : w.grownBy w r := ⟨rfl, rfl, rfl, Nat.le_refl _, fun _ _ _ => rfl⟩
theorem gb_of {w w' : World} (r : Option Nat) (h : Below w.heap.size w w') : w.grownBy w' r := ⟨h.os, h.tape, h.output, h.size, fun k hk _ => h.block k hk⟩
theorem gb_trans {a b c : World} {r : Option Nat} (h : a.grownBy b r) (k : b.grownBy c r) : a.grownBy c r :=
  ⟨k.os.trans h.os, k.tape.trans h.tape, k.output.trans h.output, Nat.le_trans h.size k.size, fun i hi hn => (k.block i (Nat.lt_of_lt_of_le hi h.size) hn).trans (h.block i hi hn)⟩
theorem gb_next {a b c : World} {r : Option Nat} (h : a.grownBy b r) (k : Below b.heap.size b c) : a.grownBy c r := gb_trans h (gb_of r k)
theorem Blk.set {w : World} {B : Nat} {c : List Value} {t : TypeId} (h : Blk w B c t) (i : Nat) (v : Value) : Blk (w.setCell ⟨B, i, none⟩ v) B (c.set i v) t := by
  have hl := h.lt
  unfold Blk at h ⊢
  have e : c.toArray.setIfInBounds i v = (c.set i v).toArray := by
    apply Array.toList_inj.1
    simp
  rw [← e]
  simp [World.setCell, Array.getElem?_modify, h]
theorem gb_set (w : World) (p i : Nat) (v : Value) : w.grownBy (w.setCell ⟨p, i, none⟩ v) (some p) :=
  ⟨rfl, rfl, rfl, by simp [World.setCell], fun k _ hn => Below.heap_setCell _ _ _ _ (fun e => hn (by rw [e]))⟩
/-- The words go on: behind a change of the reader's own block. -/
theorem Rp.move {w w' : World} {p b o c : Nat} {ts : List Tq} {L : Int} {x y : Value} {ao : Option Addr} (hb : Blk w' p [.slice ao ts.length c, .int .i64 L, x, y] 70) (hg : w.grownBy w' (some p)) (hp : p < w.heap.size) (ha : 0 < ts.length → ao = some ⟨b, o, none⟩) (hbp : b < p) (h3 : ts.length ≤ c) (h4 : ts.length ≤ 10000) (h5 : True) (hr : ∀ i t, ts[i]? = some t → C4 w b (o + i * 4) t) : Rp w' p ts L x y :=
  ⟨ao, b, o, c, hb, fun h => ⟨ha h, hbp⟩, h3, h4, h5, fun i t ht => (hr i t ht).block (hg.block b (by omega) (fun e => Nat.ne_of_lt hbp (by simpa using e)))⟩
def Tq.v (t : Tq) : Value := .agg #[.int .i64 t.k, .string t.s, .int .i64 t.n, .int .i64 t.a]
def hd (ts : List Tq) (L : Int) : Tq := ts.headD ⟨0, ⟨#[]⟩, 0, L⟩
theorem Rp.hd {w : World} {p : Nat} {t : Tq} {ts : List Tq} {L : Int} {x y : Value} (h : Rp w p (t :: ts) L x y) : ∃ b o c, Blk w p [.slice (some ⟨b, o, none⟩) (ts.length + 1) c, .int .i64 L, x, y] 70 ∧ C4 w b o t ∧ ts.length + 1 ≤ c ∧ ts.length + 1 ≤ 10000 ∧ True ∧ b < p ∧ ∀ i t, ts[i]? = some t → C4 w b (o + 4 + i * 4) t := by
  obtain ⟨ao, b, o, c, h1, h2, h3, h4, h5, h6⟩ := h
  obtain ⟨rfl, hb1⟩ := h2 (by simp)
  refine ⟨b, o, c, h1, by simpa using h6 0 t rfl, by simpa using h3, by simpa using h4, h5, hb1, fun i t' ht => ?_⟩
  have := h6 (i + 1) t' (by simpa using ht)
  rw [show o + (i + 1) * 4 = o + 4 + i * 4 by omega] at this
  exact this
set_option maxHeartbeats 2000000 in
theorem rNext_any (ts : List Tq) (L : Int) (x y : Value) (p : Nat) (w : World) (h : Rp w p ts L x y) : Calls Tryz.prog 51 #[.pointer (some ⟨p, 0, none⟩)] w fun e w' => e = .returned (hd ts L).v ∧ Below w.heap.size w w' := by
  have B0 := below_alloc w (.cells #[.int .i64 0, .string ⟨#[]⟩, .int .i64 0, .int .i64 0] 62)
  cases ts with
  | nil =>
    obtain ⟨ao, b, o, c, h1, _⟩ := h
    have k := h1.kept B0
    have x0 : _ = some (Value.slice ao 0 c) := k.cell 0 rfl
    have x1 := k.cell 1 rfl
    have B1 := below_alloc w (.cells #[.int .i64 0, .string ⟨#[]⟩, .int .i64 0, .int .i64 L] 62)
    clear h1 k
    go_enter Tryz.func51, Tryz.ntmps51
    go_wp2
    exact bodyPost_ret (v := (hd [] L).v) (by simp [results, Tryz.results51, go_sem, hd, Tq.v]) rfl ⟨rfl, B1⟩
  | cons t ts =>
    obtain ⟨b, o, c, h1, hc, h3, h4, -, hb1, _⟩ := h.hd
    have hb2 : b < w.heap.size := by have := h.lt; omega
    have k := h1.kept B0
    have x0 := k.cell 0 rfl
    have hc' := hc.block (B0.block _ hb2)
    obtain ⟨c0, c1, c2, c3⟩ := hc'
    have B1 := below_alloc w (.cells #[.int .i64 t.k, .string t.s, .int .i64 t.n, .int .i64 t.a] 62)
    have hl : (0 : Int) < (ts.length : Int) + 1 := by omega
    have hz : (((ts.length : Int) + 1) == 0) = false := beq_eq_false_iff_ne.2 (by omega)
    clear h1 k hc h
    go_enter Tryz.func51, Tryz.ntmps51
    go_wp2
    exact bodyPost_ret (v := t.v) (by simp [results, Tryz.results51, go_sem, Tq.v]) rfl ⟨rfl, B1⟩
set_option maxHeartbeats 4000000 in
theorem rTake_any (t : Tq) (ts : List Tq) (L : Int) (x y : Value) (p : Nat) (w : World) (h : Rp w p (t :: ts) L x y) : Calls Tryz.prog 72 #[.pointer (some ⟨p, 0, none⟩)] w fun e w' => e = .returned t.v ∧ Rp w' p ts L x y ∧ w.grownBy w' (some p) := by
  obtain ⟨b, o, c, h1, hc, h3, h4, -, hb1, hr⟩ := h.hd
  have hb2 : b < w.heap.size := by have := h.lt; omega
  have B0 := below_alloc w (.cells #[.int .i64 0, .string ⟨#[]⟩, .int .i64 0, .int .i64 0] 62)
  have B1 := Below.next B0 (below_alloc (w.alloc (.cells #[.int .i64 0, .string ⟨#[]⟩, .int .i64 0, .int .i64 0] 62)) (.cells #[.int .i64 t.k, .string t.s, .int .i64 t.n, .int .i64 t.a] 62))
  have k := h1.kept B0
  have x0 := k.cell 0 rfl
  have k2 := h1.kept B1
  have x0' := k2.cell 0 rfl
  have xf := k2.frozen 0
  obtain ⟨c0, c1, c2, c3⟩ := hc.block (B0.block _ hb2)
  have hl : (0 : Int) < (ts.length : Int) + 1 := by omega
  have hpl := h.lt
  have n1 : ¬ w.heap.size = p := by omega
  have n2 : ¬ w.heap.size + 1 = p := by omega
  have n3 : ¬ p = w.heap.size := by omega
  have n4 : ¬ p = w.heap.size + 1 := by omega
  clear h
  go_enter Tryz.func72, Tryz.ntmps72
  have fin : ∀ (o' m c' : Nat), m = ts.length → (0 < m → o' = o + 4) → m ≤ c' → True → Rp (((w.setCell ⟨p, 0, none⟩ (.slice (some ⟨b, o', none⟩) m c')).alloc (.cells #[.int .i64 t.k, .string t.s, .int .i64 t.n, .int .i64 t.a] 62)).alloc (.cells #[.int .i64 t.k, .string t.s, .int .i64 t.n, .int .i64 t.a] 62)) p ts L x y ∧ w.grownBy (((w.setCell ⟨p, 0, none⟩ (.slice (some ⟨b, o', none⟩) m c')).alloc (.cells #[.int .i64 t.k, .string t.s, .int .i64 t.n, .int .i64 t.a] 62)).alloc (.cells #[.int .i64 t.k, .string t.s, .int .i64 t.n, .int .i64 t.a] 62)) (some p) := by
    intro o' m c' hm ho hc1 hc2
    subst hm
    have g1 := gb_set w p 0 (.slice (some ⟨b, o', none⟩) ts.length c')
    have g2 := gb_next (gb_next g1 (below_alloc _ (.cells #[.int .i64 t.k, .string t.s, .int .i64 t.n, .int .i64 t.a] 62))) (below_alloc _ (.cells #[.int .i64 t.k, .string t.s, .int .i64 t.n, .int .i64 t.a] 62))
    refine ⟨Rp.move (b := b) (o := o + 4) (c := c') (ao := some ⟨b, o', none⟩) ?_ g2 hpl (fun h => by rw [ho h]) hb1 hc1 (by omega) hc2 hr, g2⟩
    exact ((h1.set 0 (.slice (some ⟨b, o', none⟩) ts.length c')).kept (below_alloc _ _)).kept (below_alloc _ _)
  by_cases hc1 : c = 1
  · subst hc1
    have hz : ts.length = 0 := by omega
    have F := fin o 0 0 hz.symm (fun h => absurd h (Nat.lt_irrefl 0)) (Nat.le_refl _) trivial
    have HF : Hid (Rp _ p ts L x y ∧ w.grownBy _ (some p)) := F
    clear fin F h1 k k2
    go_wp2
    exact bodyPost_ret (v := t.v) (by simp [results, Tryz.results72, go_sem, Tq.v]) rfl ⟨rfl, HF.out⟩
  · have F := fin (o + 4) ts.length (c - 1) rfl (fun _ => rfl) (by omega) trivial
    have HF : Hid (Rp _ p ts L x y ∧ w.grownBy _ (some p)) := F
    clear fin F h1 k k2
    go_wp2
    exact bodyPost_ret (v := t.v) (by simp [results, Tryz.results72, go_sem, Tq.v]) rfl ⟨rfl, HF.out⟩
theorem fld0 (k n a : Int) (s : ByteArray) (w : World) : (Instr.field 62 (.agg #[.int .i64 k, .string s, .int .i64 n, .int .i64 a]) 0).run Tryz.prog w = .ok (.int .i64 k) w := by kernel_rfl
theorem fld1 (k n a : Int) (s : ByteArray) (w : World) : (Instr.field 62 (.agg #[.int .i64 k, .string s, .int .i64 n, .int .i64 a]) 1).run Tryz.prog w = .ok (.string s) w := by kernel_rfl
theorem fld2 (k n a : Int) (s : ByteArray) (w : World) : (Instr.field 62 (.agg #[.int .i64 k, .string s, .int .i64 n, .int .i64 a]) 2).run Tryz.prog w = .ok (.int .i64 n) w := by kernel_rfl
theorem fld3 (k n a : Int) (s : ByteArray) (w : World) : (Instr.field 62 (.agg #[.int .i64 k, .string s, .int .i64 n, .int .i64 a]) 3).run Tryz.prog w = .ok (.int .i64 a) w := by kernel_rfl
theorem hd_cons (t : Tq) (ts : List Tq) (L : Int) : hd (t :: ts) L = t := rfl
set_option maxRecDepth 100000 in
set_option maxHeartbeats 1000000 in
theorem rIs_any (l : List ByteArray) (lv : Value) (ts : List Tq) (L : Int) (x y : Value) (p : Nat) (w : World) (h : Rp w p ts L x y) (hl : SAt w lv l) : Calls Tryz.prog 71 #[.pointer (some ⟨p, 0, none⟩), lv] w fun e w' => e = .returned (.bool (inL (hd ts L).s l)) ∧ Below w.heap.size w w' := by
  have hN := rNext_any ts L x y p w h
  generalize hd ts L = t at *
  unfold Tq.v at hN
  go_enter Tryz.func71, Tryz.ntmps71
  go_wp2_with fail
  refine hN.mono ?_
  rintro _ w1 ⟨rfl, hb⟩
  have hC := sContains_any l lv t.s w1 (hl.kept hb)
  have hf := fld1 t.k t.n t.a t.s
  clear hN
  go_wp2_with fail
  refine hC.mono ?_
  rintro _ w2 ⟨rfl, hb2⟩
  go_wp2
  go_ret
  exact ⟨rfl, Below.next hb hb2⟩
theorem sxStrs1 (s : ByteArray) (w : World) : SAt (w.alloc (.cells #[.string s] 9)) (.slice (some ⟨w.heap.size, 0, none⟩) 1 1) [s] := by
  refine ⟨_, w.heap.size, 0, 1, rfl, fun _ => rfl, (fun h => by cases h), by simp, fun i x hx => ?_⟩
  have h := heap_alloc_new w (.cells #[.string s] 9)
  match i, hx with
  | 0, hx => simp only [List.getElem?_cons_zero, Option.some.injEq] at hx; subst hx; simp only [World.cell?]; rw [h]; rfl
  | i + 1, hx => simp at hx
set_option maxHeartbeats 1000000 in
theorem rSkip_no (s : ByteArray) (ts : List Tq) (L : Int) (x y : Value) (p : Nat) (w : World) (h : Rp w p ts L x y) (hs : ((hd ts L).s.toList == s.toList) = false) : Calls Tryz.prog 53 #[.pointer (some ⟨p, 0, none⟩), .string s] w fun e w' => e = .returned (.bool false) ∧ Below w.heap.size w w' := by
  have B0 := below_alloc w (.cells #[.string s] 9)
  have hI := rIs_any [s] (.slice (some ⟨w.heap.size, 0, none⟩) 1 1) ts L x y p _ (h.kept B0) (sxStrs1 s w)
  rw [show inL (hd ts L).s [s] = false by unfold inL; simpa using hs] at hI
  go_enter Tryz.func53, Tryz.ntmps53
  go_wp2_with fail
  refine hI.mono ?_
  rintro _ w1 ⟨rfl, hb⟩
  go_wp2
  go_ret
  exact ⟨rfl, Below.next B0 hb⟩
set_option maxHeartbeats 1000000 in
theorem rSkip_yes (s : ByteArray) (t : Tq) (ts : List Tq) (L : Int) (x y : Value) (p : Nat) (w : World) (h : Rp w p (t :: ts) L x y) (hs : (t.s.toList == s.toList) = true) : Calls Tryz.prog 53 #[.pointer (some ⟨p, 0, none⟩), .string s] w fun e w' => e = .returned (.bool true) ∧ Rp w' p ts L x y ∧ w.grownBy w' (some p) := by
  have B0 := below_alloc w (.cells #[.string s] 9)
  have hI := rIs_any [s] (.slice (some ⟨w.heap.size, 0, none⟩) 1 1) (t :: ts) L x y p _ (h.kept B0) (sxStrs1 s w)
  rw [hd_cons, show inL t.s [s] = true by unfold inL; simpa using hs] at hI
  go_enter Tryz.func53, Tryz.ntmps53
  go_wp2_with fail
  refine hI.mono ?_
  rintro _ w1 ⟨rfl, hb⟩
  have B1 := Below.next B0 hb
  have hT := rTake_any t ts L x y p w1 (h.kept B1)
  unfold Tq.v at hT
  clear hI
  go_wp2_with fail
  refine hT.mono ?_
  rintro _ w2 ⟨rfl, hR, hg⟩
  have HR : Hid (Rp w2 p ts L x y ∧ w.grownBy w2 (some p)) := ⟨hR, gb_trans (gb_of _ B1) hg⟩
  clear hR hg
  go_wp2
  go_ret
  exact ⟨rfl, HR.out⟩
/-- These words come next, and then those. -/
def Comes : List ByteArray → List Tq → List Tq → Prop
  | [], ts, us => ts = us
  | s :: l, t :: ts, us => (t.s.toList == s.toList) = true ∧ Comes l ts us
  | _ :: _, [], _ => False
set_option maxRecDepth 100000 in
set_option maxHeartbeats 2000000 in
theorem rNeed_any (l : List ByteArray) (lv : Value) (ts us : List Tq) (L : Int) (x y : Value) (p : Nat) (w : World) (h : Rp w p ts L x y) (hl : SAt w lv l) (hp : ∀ b, lv.ownBlock = some b → b ≠ p) (hc : Comes l ts us) : Calls Tryz.prog 39 #[.pointer (some ⟨p, 0, none⟩), lv] w fun e w' => e = .returned (.tuple #[]) ∧ Rp w' p us L x y ∧ w.grownBy w' (some p) := by
  obtain ⟨ao, b, o, cap, rfl, hnil, _, hlen, hcell⟩ := hl
  have HC : Hid (∀ i s, l[i]? = some s → w.cell? ⟨b, o + i, none⟩ = some (.string s)) := hcell
  have HP : Hid (0 < l.length → b ≠ p ∧ b < w.heap.size) := fun hq => by
    have a0 := hnil hq
    subst a0
    refine ⟨hp b rfl, ?_⟩
    obtain ⟨s, hs⟩ : ∃ s, l[0]? = some s := ⟨_, List.getElem?_eq_getElem hq⟩
    exact World.block_lt_of_cell? w _ (hcell 0 s hs)
  have HI : Hid (Rp w p ts L x y ∧ Comes l ts us) := ⟨h, hc⟩
  clear hcell hp h hc
  generalize hle : l.length = len at *
  have HL : Hid (l.length = len) := hle
  clear hle
  go_enter Tryz.func39, Tryz.ntmps39
  go_wp2
  go_loopw [8] (fun i wr => ∃ (j : Nat) (vs : List Tq), j ≤ len ∧ i = .int .i64 j ∧ Rp wr p vs L x y ∧ Comes (l.drop j) vs us ∧ w.grownBy wr (some p)) (fun i _ => len - (intOf i).toNat)
  case atStart => exact ⟨0, ts, Nat.zero_le _, rfl, HI.out.1, HI.out.2, gb_refl _ _⟩
  case round =>
    obtain ⟨j, vs, hj, rfl, hR, hcm, hg⟩ := hrel
    clear HI
    have HJ : Hid (Rp wr p vs L x y ∧ Comes (l.drop j) vs us ∧ w.grownBy wr (some p)) := ⟨hR, hcm, hg⟩
    clear hR hcm hg
    by_cases hlt : j < len
    · have ij : (j : Int) < len := by omega
      have a0 := hnil (by omega)
      subst a0
      have hjl : j < l.length := by rw [HL.out]; exact hlt
      obtain ⟨s, hs⟩ : ∃ s, l[j]? = some s := ⟨_, List.getElem?_eq_getElem hjl⟩
      have hd0 : l.drop j = s :: l.drop (j + 1) := by
        rw [List.drop_eq_getElem_cons hjl]
        congr 1
        rw [List.getElem?_eq_getElem hjl] at hs
        exact Option.some.inj hs
      have hcm := HJ.out.2.1
      rw [hd0] at hcm
      cases vs with
      | nil => exact hcm.elim
      | cons t vs =>
        have c : wr.cell? ⟨b, o + j, none⟩ = some (.string s) := by
          obtain ⟨h1, h2⟩ := HP.out (by omega)
          rw [World.cell?_of_block (a := ⟨b, o + j, none⟩) (HJ.out.2.2.block b h2 (fun e => h1 (by simpa using e)))]
          exact HC.out j s hs
        have hS := rSkip_yes s t vs L x y p wr HJ.out.1 hcm.1
        have HM : Hid (Comes (l.drop (j + 1)) vs us) := hcm.2
        clear hcm hd0 hs
        go_wp2_with fail
        refine hS.mono ?_
        rintro _ w2 ⟨rfl, hR, hg⟩
        have HK : Hid (Rp w2 p vs L x y ∧ Comes (l.drop (j + 1)) vs us ∧ w.grownBy w2 (some p)) := ⟨hR, HM.out, gb_trans HJ.out.2.2 hg⟩
        clear hR hg hS HJ c
        go_wp2
        go_roundw
        case rel => exact ⟨j + 1, vs, by omega, by go_num, HK.out⟩
        case measure => simp [intOf]; omega
    · have e : j = len := by omega
      subst e
      have d : ¬ (j : Int) < j := by omega
      go_wp2
      have hcm := HJ.out.2.1
      rw [← HL.out, List.drop_length] at hcm
      have e2 : vs = us := hcm
      subst e2
      go_end0
      exact ⟨rfl, HJ.out.1, HJ.out.2.2⟩
set_option maxHeartbeats 1000000 in
theorem rName_any (t : Tq) (ts : List Tq) (L : Int) (x y : Value) (p : Nat) (w : World) (h : Rp w p (t :: ts) L x y) (hk : t.k = 1) : Calls Tryz.prog 55 #[.pointer (some ⟨p, 0, none⟩)] w fun e w' => e = .returned (.string t.s) ∧ Rp w' p ts L x y ∧ w.grownBy w' (some p) := by
  have hN := rNext_any (t :: ts) L x y p w h
  rw [hd_cons] at hN
  unfold Tq.v at hN
  have hf0 := fld0 t.k t.n t.a t.s
  have hf1 := fld1 t.k t.n t.a t.s
  have HK : Hid (∀ w', Below w.heap.size w w' → Calls Tryz.prog 72 #[.pointer (some ⟨p, 0, none⟩)] w' fun e w'' => e = .returned t.v ∧ Rp w'' p ts L x y ∧ w'.grownBy w'' (some p)) := fun w' hb => rTake_any t ts L x y p w' (h.kept hb)
  obtain ⟨tk, tsx, tn, ta⟩ := t
  simp only at hk hN hf0 hf1 HK
  subst hk
  go_enter Tryz.func55, Tryz.ntmps55
  go_wp2_with fail
  refine hN.mono ?_
  rintro _ w1 ⟨rfl, hb⟩
  have hT := HK.out w1 hb
  unfold Tq.v at hT
  clear hN HK
  go_wp2_with fail
  refine hT.mono ?_
  rintro _ w2 ⟨rfl, hR, hg⟩
  have HR : Hid (Rp w2 p ts L x y ∧ w.grownBy w2 (some p)) := ⟨hR, gb_trans (gb_of _ hb) hg⟩
  clear hR hg
  go_wp2
  go_ret
  exact ⟨rfl, HR.out⟩
end Go.Proofs.YtcoeefckldkbeaaGreatDoor

/- Layer 6: the reader's labels and types. -/
namespace Go.Proofs.YtcoeefckldkbeaaGreatDoor
open Go Go.RowKit

/-- The lattice, apart from the reader's block. -/
structure Lt (w : World) (p : Nat) (n : Strs) (g : Grid) : Prop where
  hn : n.At w
  hg : g.At w
  f : formedB n g = true
  nb : n.b ≠ p
  gb : g.gb ≠ p
  ab : ∀ r, r < g.len → g.AB r ≠ p
theorem Lt.move {w w' : World} {p : Nat} {n : Strs} {g : Grid} (h : Lt w p n g) (k : w.grownBy w' (some p)) : Lt w' p n g := by
  have e : ∀ (b q : Nat) (v : Value), b ≠ p → w.cell? ⟨b, q, none⟩ = some v → w'.cell? ⟨b, q, none⟩ = some v := fun b q v hb hc => by
    rw [World.cell?_of_block (a := ⟨b, q, none⟩) (k.block b (World.block_lt_of_cell? w _ hc) (fun e => hb (by simpa using e)))]
    exact hc
  exact ⟨⟨h.hn.lc, h.hn.nil, h.hn.bound, fun i hi => e _ _ _ h.nb (h.hn.cell i hi), h.hn.sz⟩, ⟨h.hg.lc, h.hg.nil, h.hg.bound, h.hg.lbound, fun r hr => e _ _ _ h.gb (h.hg.row r hr), h.hg.adr, fun r hr c hc => e _ _ _ (h.ab r hr) (h.hg.cell r hr c hc)⟩, h.f, h.nb, h.gb, h.ab⟩
theorem Lt.kept {w w' : World} {p : Nat} {n : Strs} {g : Grid} (h : Lt w p n g) (hb : Below w.heap.size w w') : Lt w' p n g := h.move (gb_of _ hb)
theorem Rp.lat {w : World} {p : Nat} {ts : List Tq} {L : Int} {x y : Value} (h : Rp w p ts L x y) : w.cell? ⟨p, 2, none⟩ = some x ∧ w.cell? ⟨p, 3, none⟩ = some y := by
  obtain ⟨ao, b, o, c, h1, _⟩ := h
  exact ⟨h1.cell 2 rfl, h1.cell 3 rfl⟩
set_option maxRecDepth 100000 in
set_option maxHeartbeats 2000000 in
theorem rLabel_any (t : Tq) (ts : List Tq) (L : Int) (n : Strs) (g : Grid) (p i : Nat) (w : World) (h : Rp w p (t :: ts) L (.slice n.ao n.len n.cap) (.slice g.ao g.len g.cap)) (hl : Lt w p n g) (hk : t.k = 1) (hi : findN n g t.s = i) :
    Calls Tryz.prog 57 #[.pointer (some ⟨p, 0, none⟩)] w fun e w' => e = .returned (.int .i64 i) ∧ Rp w' p ts L (.slice n.ao n.len n.cap) (.slice g.ao g.len g.cap) ∧ w.grownBy w' (some p) := by
  have hN := rNext_any _ L _ _ p w h
  rw [hd_cons] at hN
  unfold Tq.v at hN
  obtain ⟨tk, s, tn, ta⟩ := t
  simp only at hk hN hi
  subst hk
  have HH : Hid (Rp w p (⟨1, s, tn, ta⟩ :: ts) L (.slice n.ao n.len n.cap) (.slice g.ao g.len g.cap) ∧ Lt w p n g ∧ findN n g s = i) := ⟨h, hl, hi⟩
  clear h hl hi
  go_enter Tryz.func57, Tryz.ntmps57
  go_wp2_with fail
  refine hN.mono ?_
  rintro _ w1 ⟨rfl, hb⟩
  have B1 := Below.next hb (below_alloc w1 (.cells #[.int .i64 1, .string s, .int .i64 tn, .int .i64 ta] 62))
  have h2 : Blk (w1.alloc (.cells #[.int .i64 1, .string s, .int .i64 tn, .int .i64 ta] 62)) w1.heap.size [.int .i64 1, .string s, .int .i64 tn, .int .i64 ta] 62 := Blk.new _ _ _
  clear hN hb
  go_upto_region 2 with fail
  generalize w1.alloc (.cells #[.int .i64 1, .string s, .int .i64 tn, .int .i64 ta] 62) = w2 at *
  generalize w1.heap.size = Y at *
  have HB : Hid (Below w.heap.size w w2) := B1
  have l2 := fun z => Gr.cell z (HH.out.1.kept B1).lat.1
  have l3 := fun z => Gr.cell z (HH.out.1.kept B1).lat.2
  have s1 := fun z => Gr.cell z (h2.cell 1 rfl)
  have hNE : Nonempty (Gr w2) := ⟨⟨_, Below.refl _ _⟩⟩
  have H1 : ∀ u, Below w2.heap.size w2 u → Calls Tryz.prog 79 #[.agg #[.slice n.ao n.len n.cap, .slice g.ao g.len g.cap], .string s] u fun e w' => e = .returned (.int .i64 i) ∧ Below u.heap.size u w' := fun u hu => by
    have := find_any n g s u ((HH.out.2.1.hn.kept HB.out).kept hu) ((HH.out.2.1.hg.kept HB.out).kept hu)
    rwa [HH.out.2.2] at this
  refine wp_region_gr (by kernel_rfl) (by kernel_rfl) ?_
  repeat (first | go_big_quiet_step ((go_at_call 79; with_reducible exact Calls.gr _ (H1 _ (Gr.bl _)))))
  refine wpQuiet_nil ?_
  rintro w3 ⟨x3, rfl⟩
  have B3 := Below.next HB.out x3.bl
  have k3 := h2.kept x3.bl
  generalize x3.w = w3 at B3 k3 ⊢
  clear x3 hNE l2 l3 s1 H1 h2 B1 HB
  have c0 := k3.cell 0 rfl
  have e1 : ((i : Int) == -1) = false := beq_eq_false_iff_ne.2 (by omega)
  have hT := rTake_any _ ts L _ _ p w3 (HH.out.1.kept B3)
  unfold Tq.v at hT
  go_wp2_with fail
  refine hT.mono ?_
  rintro _ w4 ⟨rfl, hR, hg⟩
  have HR : Hid (Rp w4 p ts L (.slice n.ao n.len n.cap) (.slice g.ao g.len g.cap) ∧ w.grownBy w4 (some p)) := ⟨hR, gb_trans (gb_of _ B3) hg⟩
  clear hR hg hT c0
  go_wp2
  go_ret
  exact ⟨rfl, HR.out⟩
end Go.Proofs.YtcoeefckldkbeaaGreatDoor

/- Layer 6: the reader's types that are Int, what is taken and given, the bound. -/
namespace Go.Proofs.YtcoeefckldkbeaaGreatDoor
open Go Go.RowKit

theorem Blk.gb {w w' : World} {B p : Nat} {c : List Value} {t : TypeId} (h : Blk w B c t) (k : w.grownBy w' (some p)) (hne : B ≠ p) : Blk w' B c t := by
  unfold Blk
  rw [k.block B h.lt (fun e => hne (by simpa using e))]
  exact h
theorem sxStrs2 (s t : ByteArray) (w : World) : SAt (w.alloc (.cells #[.string s, .string t] 9)) (.slice (some ⟨w.heap.size, 0, none⟩) 2 2) [s, t] := by
  refine ⟨_, w.heap.size, 0, 2, rfl, fun _ => rfl, (fun h => by cases h), by simp, fun i x hx => ?_⟩
  have h := heap_alloc_new w (.cells #[.string s, .string t] 9)
  match i, hx with
  | 0, hx => simp only [List.getElem?_cons_zero, Option.some.injEq] at hx; subst hx; simp only [World.cell?]; rw [h]; rfl
  | 1, hx => simp only [List.getElem?_cons_succ, List.getElem?_cons_zero, Option.some.injEq] at hx; subst hx; simp only [World.cell?]; rw [h]; rfl
  | i + 2, hx => simp at hx
/-- need of one word that is written out. -/
theorem need1 (s : ByteArray) (t : Tq) (ts : List Tq) (L : Int) (x y : Value) (p : Nat) (w : World) (h : Rp w p (t :: ts) L x y) (hs : (t.s.toList == s.toList) = true) : Calls Tryz.prog 39 #[.pointer (some ⟨p, 0, none⟩), .slice (some ⟨w.heap.size, 0, none⟩) 1 1] (w.alloc (.cells #[.string s] 9)) fun e w' => e = .returned (.tuple #[]) ∧ Rp w' p ts L x y ∧ w.grownBy w' (some p) := by
  have B0 := below_alloc w (.cells #[.string s] 9)
  refine (rNeed_any [s] _ (t :: ts) ts L x y p _ (h.kept B0) (sxStrs1 s w) (fun b hb => ?_) ⟨hs, rfl⟩).mono ?_
  · have : w.heap.size = b := by simpa [Value.ownBlock] using hb
    have := h.lt
    omega
  · rintro e w' ⟨h1, h2, h3⟩
    exact ⟨h1, h2, gb_trans (gb_of _ B0) h3⟩
theorem need2 (s s2 : ByteArray) (t t2 : Tq) (ts : List Tq) (L : Int) (x y : Value) (p : Nat) (w : World) (h : Rp w p (t :: t2 :: ts) L x y) (hs : (t.s.toList == s.toList) = true) (hs2 : (t2.s.toList == s2.toList) = true) : Calls Tryz.prog 39 #[.pointer (some ⟨p, 0, none⟩), .slice (some ⟨w.heap.size, 0, none⟩) 2 2] (w.alloc (.cells #[.string s, .string s2] 9)) fun e w' => e = .returned (.tuple #[]) ∧ Rp w' p ts L x y ∧ w.grownBy w' (some p) := by
  have B0 := below_alloc w (.cells #[.string s, .string s2] 9)
  refine (rNeed_any [s, s2] _ (t :: t2 :: ts) ts L x y p _ (h.kept B0) (sxStrs2 s s2 w) (fun b hb => ?_) ⟨hs, hs2, rfl⟩).mono ?_
  · have : w.heap.size = b := by simpa [Value.ownBlock] using hb
    have := h.lt
    omega
  · rintro e w' ⟨h1, h2, h3⟩
    exact ⟨h1, h2, gb_trans (gb_of _ B0) h3⟩
def tInt : List UInt8 := [105, 110, 116]
set_option maxRecDepth 100000 in
set_option maxHeartbeats 2000000 in
theorem rShape_int (t : Tq) (ts : List Tq) (L : Int) (x y : Value) (p : Nat) (w : World) (h : Rp w p (t :: ts) L x y) (hs : (t.s.toList == (⟨#[105, 110, 116]⟩ : ByteArray).toList) = true) :
    Calls Tryz.prog 77 #[.pointer (some ⟨p, 0, none⟩)] w fun e w' => e = .returned (.agg #[.int .i64 1, .int .i64 0, .slice none 0 0, .int .i64 0, .int .i64 0]) ∧ Rp w' p ts L x y ∧ w.grownBy w' (some p) := by
  have B0 := below_alloc w (.cells #[.int .i64 0, .int .i64 0, .slice none 0 0, .int .i64 0, .int .i64 0] 24)
  have hS := rSkip_yes _ t ts L x y p _ (h.kept B0) hs
  have b0 : Blk (w.alloc (.cells #[.int .i64 0, .int .i64 0, .slice none 0 0, .int .i64 0, .int .i64 0] 24)) w.heap.size [.int .i64 0, .int .i64 0, .slice none 0 0, .int .i64 0, .int .i64 0] 24 := Blk.new _ _ _
  have hp := h.lt
  clear h
  go_enter Tryz.func77, Tryz.ntmps77
  go_wp2_with fail
  refine hS.mono ?_
  rintro _ w1 ⟨rfl, hR, hg⟩
  have b1 := b0.gb hg (by omega)
  have hG := gb_trans (gb_of _ B0) hg
  clear hS b0 B0 hg
  go_wp2_with (refine wpList_store_blk rfl rfl 24 (.tmp 2) (.tmp 9) rfl w.heap.size [.int .i64 1, .int .i64 0, .slice none 0 0, .int .i64 0, .int .i64 0] (by kernel_rfl) (by kernel_rfl) rfl b1 rfl (by kernel_rfl) ?_; intro w2 W2)
  have c0 := W2.blk.cell 0 rfl
  have c1 := W2.blk.cell 1 rfl
  have c2 := W2.blk.cell 2 rfl
  have c3 := W2.blk.cell 3 rfl
  have c4 := W2.blk.cell 4 rfl
  have bw : Below w.heap.size w1 w2 := W2.below (Nat.le_refl _) (Below.refl _ _)
  refine bodyPost_ret (v := .agg #[.int .i64 1, .int .i64 0, .slice none 0 0, .int .i64 0, .int .i64 0]) (by simp [results, Tryz.results77, go_sem, c0, c1, c2, c3, c4]) rfl ⟨rfl, hR.below hp bw, ?_⟩
  exact ⟨bw.os.trans hG.os, bw.tape.trans hG.tape, bw.output.trans hG.output, Nat.le_trans hG.size bw.size, fun k hk hn => (bw.block k hk).trans (hG.block k hk hn)⟩
end Go.Proofs.YtcoeefckldkbeaaGreatDoor

/- Layer 6: the reader's typ, of an Int with a label; exc; head. -/
namespace Go.Proofs.YtcoeefckldkbeaaGreatDoor
open Go Go.RowKit

theorem gb_below {w w1 w2 : World} {r : Option Nat} (h : w.grownBy w1 r) (k : Below w.heap.size w1 w2) : w.grownBy w2 r :=
  ⟨k.os.trans h.os, k.tape.trans h.tape, k.output.trans h.output, Nat.le_trans h.size k.size, fun i hi hn => (k.block i hi).trans (h.block i hi hn)⟩
/-- The reader, its lattice, and where the call stands. -/
structure Rd6 (w wr : World) (p : Nat) (ts : List Tq) (L : Int) (n : Strs) (g : Grid) : Prop where
  r : Rp wr p ts L (.slice n.ao n.len n.cap) (.slice g.ao g.len g.cap)
  lw : Lt w p n g
  gb : w.grownBy wr (some p)
  hp : p < w.heap.size
theorem Rd6.l {w wr : World} {p : Nat} {ts : List Tq} {L : Int} {n : Strs} {g : Grid} (h : Rd6 w wr p ts L n g) : Lt wr p n g := h.lw.move h.gb
theorem Rd6.new {w wr w' : World} {p : Nat} {ts : List Tq} {L : Int} {n : Strs} {g : Grid} (h : Rd6 w wr p ts L n g) (hb : Below w.heap.size wr w') : Rd6 w w' p ts L n g := ⟨h.r.below h.hp hb, h.lw, gb_below h.gb hb, h.hp⟩
theorem Rd6.kept {w wr w' : World} {p : Nat} {ts : List Tq} {L : Int} {n : Strs} {g : Grid} (h : Rd6 w wr p ts L n g) (hb : Below wr.heap.size wr w') : Rd6 w w' p ts L n g := h.new (hb.mono h.gb.size)
theorem Rd6.move {w wr w' : World} {p : Nat} {ts us : List Tq} {L : Int} {n : Strs} {g : Grid} (h : Rd6 w wr p ts L n g) (hr : Rp w' p us L (.slice n.ao n.len n.cap) (.slice g.ao g.len g.cap)) (hb : wr.grownBy w' (some p)) : Rd6 w w' p us L n g := ⟨hr, h.lw, gb_trans h.gb hb, h.hp⟩
theorem Rd6.lt {w wr : World} {p : Nat} {ts : List Tq} {L : Int} {n : Strs} {g : Grid} (h : Rd6 w wr p ts L n g) : p < wr.heap.size := h.r.lt
theorem Rd6.start {w wr : World} {p : Nat} {ts : List Tq} {L : Int} {n : Strs} {g : Grid} (h : Rd6 w wr p ts L n g) : Rd6 wr wr p ts L n g := ⟨h.r, h.l, gb_refl _ _, h.lt⟩
theorem Rd6.call {w wr w' : World} {p : Nat} {ts us : List Tq} {L : Int} {n : Strs} {g : Grid} (h : Rd6 w wr p ts L n g) (k : Rd6 wr w' p us L n g) : Rd6 w w' p us L n g := h.move k.r k.gb
theorem leaf_okS {n : Strs} {g : Grid} {i : Nat} (hF : formedB n g = true) (hi : i < n.len) : okB n g (leafT 1 i) = true := by
  unfold okB
  have hl : inR n.len (i : Int) = true := by unfold inR; simp; omega
  rw [hF]
  show (leafT 1 i).ok n.len = true
  unfold Ty.ok leafT
  rw [fm_eq, hl]
  rfl
theorem leafS_at (k l : Int) (w : World) : (leafT k l).At w := ⟨fun h => absurd h (Nat.lt_irrefl 0), by decide, fun _ hi => absurd hi (Nat.not_lt_zero _)⟩
set_option maxRecDepth 100000 in
set_option maxHeartbeats 4000000 in
theorem rTyp_int (t t2 t3 : Tq) (ts : List Tq) (L : Int) (n : Strs) (g : Grid) (p i : Nat) (w : World) (h : Rd6 w w p (t :: t2 :: t3 :: ts) L n g) (hs : (t.s.toList == (⟨#[105, 110, 116]⟩ : ByteArray).toList) = true) (hs2 : (t2.s.toList == (⟨#[64]⟩ : ByteArray).toList) = true) (hk : t3.k = 1) (hi : findN n g t3.s = i) (hin : i < n.len) :
    Calls Tryz.prog 56 #[.pointer (some ⟨p, 0, none⟩)] w fun e w' => e = .returned (.agg #[.int .i64 1, .int .i64 i, .slice none 0 0, .int .i64 0, .int .i64 0]) ∧ Rd6 w w' p ts L n g := by
  have B0 := below_alloc w (.cells #[.int .i64 0, .int .i64 0, .slice none 0 0, .int .i64 0, .int .i64 0] 24)
  have HI : Hid (Rd6 w (w.alloc (.cells #[.int .i64 0, .int .i64 0, .slice none 0 0, .int .i64 0, .int .i64 0] 24)) p (t :: t2 :: t3 :: ts) L n g ∧ Blk (w.alloc (.cells #[.int .i64 0, .int .i64 0, .slice none 0 0, .int .i64 0, .int .i64 0] 24)) w.heap.size [.int .i64 0, .int .i64 0, .slice none 0 0, .int .i64 0, .int .i64 0] 24 ∧ p < w.heap.size) := ⟨h.kept B0, Blk.new _ _ _, h.lt⟩
  have hN := rNext_any _ L _ _ p _ HI.out.1.r
  rw [hd_cons] at hN
  unfold Tq.v at hN
  have hf := fld3 t.k t.n t.a t.s
  clear h B0
  go_enter Tryz.func56, Tryz.ntmps56
  go_wp2_with fail
  refine hN.mono ?_
  rintro _ w1 ⟨rfl, hb⟩
  have HI1 : Hid (Rd6 w w1 p (t :: t2 :: t3 :: ts) L n g ∧ Blk w1 w.heap.size [.int .i64 0, .int .i64 0, .slice none 0 0, .int .i64 0, .int .i64 0] 24 ∧ p < w.heap.size) := ⟨HI.out.1.kept hb, HI.out.2.1.kept hb, HI.out.2.2⟩
  have hS := rShape_int t (t2 :: t3 :: ts) L _ _ p w1 HI1.out.1.r hs
  clear hN hb HI
  go_wp2_with fail
  refine hS.mono ?_
  rintro _ w2 ⟨rfl, hR, hg⟩
  have HI2 : Hid (Rd6 w w2 p (t2 :: t3 :: ts) L n g ∧ Blk w2 w.heap.size [.int .i64 0, .int .i64 0, .slice none 0 0, .int .i64 0, .int .i64 0] 24 ∧ p < w.heap.size) := ⟨HI1.out.1.move hR hg, HI1.out.2.1.gb hg (by have := HI1.out.2.2; omega), HI1.out.2.2⟩
  clear hS hR hg HI1 hf
  have b3 := below_alloc w2 (.cells #[.int .i64 1, .int .i64 0, .slice none 0 0, .int .i64 0, .int .i64 0] 24)
  have HI3 : Hid (Rd6 w (w2.alloc (.cells #[.int .i64 1, .int .i64 0, .slice none 0 0, .int .i64 0, .int .i64 0] 24)) p (t2 :: t3 :: ts) L n g ∧ Blk (w2.alloc (.cells #[.int .i64 1, .int .i64 0, .slice none 0 0, .int .i64 0, .int .i64 0] 24)) w.heap.size [.int .i64 0, .int .i64 0, .slice none 0 0, .int .i64 0, .int .i64 0] 24 ∧ p < w.heap.size ∧ Blk (w2.alloc (.cells #[.int .i64 1, .int .i64 0, .slice none 0 0, .int .i64 0, .int .i64 0] 24)) w2.heap.size [.int .i64 1, .int .i64 0, .slice none 0 0, .int .i64 0, .int .i64 0] 24 ∧ p < w2.heap.size ∧ w.heap.size < w2.heap.size) := ⟨HI2.out.1.kept b3, HI2.out.2.1.kept b3, HI2.out.2.2, Blk.new _ _ _, HI2.out.1.lt, HI2.out.2.1.lt⟩
  clear HI2 b3
  go_upto_region 3 with fail
  generalize w2.alloc (.cells #[.int .i64 1, .int .i64 0, .slice none 0 0, .int .i64 0, .int .i64 0] 24) = w3 at *
  generalize w2.heap.size = Y at *
  have hD := need1 ⟨#[64]⟩ t2 (t3 :: ts) L _ _ p w3 HI3.out.1.r hs2
  go_wp2_with fail
  refine hD.mono ?_
  rintro _ w4 ⟨rfl, hR, hg⟩
  have HI4 : Hid (Rd6 w w4 p (t3 :: ts) L n g ∧ Blk w4 w.heap.size [.int .i64 0, .int .i64 0, .slice none 0 0, .int .i64 0, .int .i64 0] 24 ∧ p < w.heap.size ∧ Blk w4 Y [.int .i64 1, .int .i64 0, .slice none 0 0, .int .i64 0, .int .i64 0] 24 ∧ p < Y ∧ w.heap.size < Y) := ⟨HI3.out.1.move hR hg, HI3.out.2.1.gb hg (by have := HI3.out.2.2.1; omega), HI3.out.2.2.1, HI3.out.2.2.2.1.gb hg (by have := HI3.out.2.2.2.2.1; omega), HI3.out.2.2.2.2⟩
  clear hD hR hg HI3
  have hB := rLabel_any t3 ts L n g p i w4 HI4.out.1.r HI4.out.1.l hk hi
  go_wp2_with fail
  refine hB.mono ?_
  rintro _ w5 ⟨rfl, hR, hg⟩
  have HI5 : Hid (Rd6 w w5 p ts L n g ∧ Blk w5 w.heap.size [.int .i64 0, .int .i64 0, .slice none 0 0, .int .i64 0, .int .i64 0] 24 ∧ p < w.heap.size ∧ Blk w5 Y [.int .i64 1, .int .i64 0, .slice none 0 0, .int .i64 0, .int .i64 0] 24 ∧ p < Y ∧ w.heap.size < Y) := ⟨HI4.out.1.move hR hg, HI4.out.2.1.gb hg (by have := HI4.out.2.2.1; omega), HI4.out.2.2.1, HI4.out.2.2.2.1.gb hg (by have := HI4.out.2.2.2.2.1; omega), HI4.out.2.2.2.2⟩
  clear hB hR hg HI4
  have y1 := HI5.out.2.2.2.1.cell 1 rfl
  have yf := HI5.out.2.2.2.1.frozen 1
  go_upto_region 5 with fail
  have b6 : Below w.heap.size w5 (w5.setCell ⟨Y, 1, none⟩ (.int .i64 i)) := (Below.refl _ _).setCell (Nat.le_of_lt HI5.out.2.2.2.2.2) _
  have HI6 : Hid (Rd6 w (w5.setCell ⟨Y, 1, none⟩ (.int .i64 i)) p ts L n g ∧ Blk (w5.setCell ⟨Y, 1, none⟩ (.int .i64 i)) w.heap.size [.int .i64 0, .int .i64 0, .slice none 0 0, .int .i64 0, .int .i64 0] 24 ∧ Blk (w5.setCell ⟨Y, 1, none⟩ (.int .i64 i)) Y [.int .i64 1, .int .i64 i, .slice none 0 0, .int .i64 0, .int .i64 0] 24) := ⟨HI5.out.1.new b6, by
    unfold Blk
    rw [Below.heap_setCell _ _ _ _ (Nat.ne_of_lt HI5.out.2.2.2.2.2)]
    exact HI5.out.2.1, HI5.out.2.2.2.1.set 1 _⟩
  clear y1 yf HI5 b6
  generalize w5.setCell ⟨Y, 1, none⟩ (.int .i64 i) = w6 at *
  have l2 := fun z => Gr.cell z HI6.out.1.r.lat.1
  have l3 := fun z => Gr.cell z HI6.out.1.r.lat.2
  have y0 := fun z => Gr.cell z (HI6.out.2.2.cell 0 rfl)
  have y1 := fun z => Gr.cell z (HI6.out.2.2.cell 1 rfl)
  have y2 := fun z => Gr.cell z (HI6.out.2.2.cell 2 rfl)
  have y3 := fun z => Gr.cell z (HI6.out.2.2.cell 3 rfl)
  have y4 := fun z => Gr.cell z (HI6.out.2.2.cell 4 rfl)
  have hNE : Nonempty (Gr w6) := ⟨⟨_, Below.refl _ _⟩⟩
  have H1 : ∀ u, Below w6.heap.size w6 u → Calls Tryz.prog 78 #[.agg #[.slice n.ao n.len n.cap, .slice g.ao g.len g.cap], .agg #[.int .i64 1, .int .i64 i, .slice none 0 0, .int .i64 0, .int .i64 0]] u fun e w' => e = .returned (.bool true) ∧ Below u.heap.size u w' := fun u hu => by
    have := Formed2_any n g (leafT 1 i) u (HI6.out.1.l.hn.kept hu) (HI6.out.1.l.hg.kept hu) (leafS_at 1 i u)
    rwa [leaf_okS HI6.out.1.lw.f hin] at this
  refine wp_region_gr (by kernel_rfl) (by kernel_rfl) ?_
  repeat (first | go_big_quiet_step ((go_at_call 78; with_reducible exact Calls.gr _ (H1 _ (Gr.bl _)))))
  refine wpQuiet_nil ?_
  rintro w7 ⟨x7, rfl⟩
  have HI7 : Hid (Rd6 w x7.w p ts L n g ∧ Blk x7.w w.heap.size [.int .i64 0, .int .i64 0, .slice none 0 0, .int .i64 0, .int .i64 0] 24 ∧ Blk x7.w Y [.int .i64 1, .int .i64 i, .slice none 0 0, .int .i64 0, .int .i64 0] 24) := ⟨HI6.out.1.kept x7.bl, HI6.out.2.1.kept x7.bl, HI6.out.2.2.kept x7.bl⟩
  generalize x7.w = w7 at HI7 ⊢
  clear x7 hNE l2 l3 y0 y1 y2 y3 y4 H1 HI6
  have z0 := HI7.out.2.2.cell 0 rfl
  have z1 := HI7.out.2.2.cell 1 rfl
  have z2 := HI7.out.2.2.cell 2 rfl
  have z3 := HI7.out.2.2.cell 3 rfl
  have z4 := HI7.out.2.2.cell 4 rfl
  go_wp2_with (refine wpList_store_blk rfl rfl 24 (.tmp 2) (.tmp 26) rfl w.heap.size [.int .i64 1, .int .i64 i, .slice none 0 0, .int .i64 0, .int .i64 0] (by kernel_rfl) (by kernel_rfl) rfl HI7.out.2.1 rfl (by kernel_rfl) ?_; intro w8 W8)
  have c0 := W8.blk.cell 0 rfl
  have c1 := W8.blk.cell 1 rfl
  have c2 := W8.blk.cell 2 rfl
  have c3 := W8.blk.cell 3 rfl
  have c4 := W8.blk.cell 4 rfl
  exact bodyPost_ret (v := .agg #[.int .i64 1, .int .i64 i, .slice none 0 0, .int .i64 0, .int .i64 0]) (by simp [results, Tryz.results56, go_sem, c0, c1, c2, c3, c4]) rfl ⟨rfl, HI7.out.1.new (W8.below (Nat.le_refl _) (Below.refl _ _))⟩
set_option maxHeartbeats 1000000 in
theorem rExc_none (t : Tq) (ts : List Tq) (L : Int) (x y : Value) (p : Nat) (w : World) (h : Rp w p (t :: ts) L x y) (hs : (t.s.toList == (⟨#[110, 111, 110, 101]⟩ : ByteArray).toList) = true) :
    Calls Tryz.prog 41 #[.pointer (some ⟨p, 0, none⟩)] w fun e w' => e = .returned (.int .i64 (-1)) ∧ Rp w' p ts L x y ∧ w.grownBy w' (some p) := by
  have hS := rSkip_yes _ t ts L x y p w h hs
  go_enter Tryz.func41, Tryz.ntmps41
  go_wp2_with fail
  refine hS.mono ?_
  rintro _ w1 ⟨rfl, hR, hg⟩
  have HR : Hid (Rp w1 p ts L x y ∧ w.grownBy w1 (some p)) := ⟨hR, hg⟩
  clear hR hg
  go_wp2
  go_ret
  exact ⟨rfl, HR.out⟩
end Go.Proofs.YtcoeefckldkbeaaGreatDoor

/- A region that draws its order: all that only reads or moves comes first, wherever it stands; what is left is one behind the other. -/
namespace Go.Proofs.YtcoeefckldkbeaaGreatDoor
open Go Go.RowKit

section
variable {P : Program} {ops : Array Oper} {Q : Exit → Act → World → Prop}
def isReadM (o : Oper) : Bool := match o.op with
  | .load .. | .fieldAddr .. | .indexAddr .. | .extract .. | .move .. => true
  | _ => false
theorem readM_value {o : Oper} (h : isReadM o = true) (ρ : Operand → Value) (w w' : World) (n : Next) (hr : (execOp ρ o).run P w = .ok n w') : ∃ u, n = .value u := by
  cases ho : o.op
  case load => unfold execOp at hr; rw [ho] at hr; exact run_val hr
  case fieldAddr => unfold execOp at hr; rw [ho] at hr; exact run_val hr
  case indexAddr => unfold execOp at hr; rw [ho] at hr; exact run_val hr
  case extract => unfold execOp at hr; rw [ho] at hr; exact run_val hr
  case move => unfold execOp at hr; rw [ho] at hr; exact ⟨_, (Result.ok.inj hr).1.symm⟩
  all_goals (unfold isReadM at h; rw [ho] at h; cases h)
theorem yieldsIf_of_quietM {S : World → Prop} {o : Oper} {a : Act} {K : Act → Prop} (hr : isReadM o = true) (h : if Region.wanted o (yielded ops a.tmps) then o.quiet P a S K else K (a.put o.dst undef)) : ∃ v, YieldsIf P ops S o v a ∧ K (a.put o.dst v) := by
  by_cases hw : Region.wanted o (yielded ops a.tmps) = true
  · rw [if_pos hw] at h
    obtain ⟨v, h1, h2⟩ := h
    refine ⟨v, Or.inl ⟨hw, fun w hS => ?_⟩, h2⟩
    have h3 := h1 w hS
    unfold Oper.quietAt at h3
    cases hq : (execOp a.eval o).run P w with
    | ok n w' =>
      obtain ⟨u, rfl⟩ := readM_value hr _ _ _ _ hq
      rw [hq] at h3
      simp only [Oper.quietUpon] at h3
      rw [h3.1, h3.2]
    | halt x w' => rw [hq] at h3; simp only [Oper.quietUpon] at h3
  · rw [if_neg hw] at h
    exact ⟨undef, Or.inr ⟨by simpa using hw, rfl⟩, h⟩
def lexM (ops : Array Oper) : List Nat → List Oper → Array Bool → Bool
  | [], [], _ => true
  | i :: js, o :: l, listed => isReadM o && (Region.ready .any ops listed).contains i && Region.free .any ops listed i && lexM ops js l (listed.setIfInBounds i true)
  | _, _, _ => false
theorem wpAnyH_readsM {S : World → Prop} {K : Act → Prop} {rest : Nat} {w : World} (hs : Region.noSelect ops = true) (hQ : ∀ c a d v w, Q (.panic c) (Act.put a d v) w → Q (.panic c) a w) (hS : S w) : ∀ (js : List Nat) (l : List Oper) (listed : Array Bool) (a : Act), (∀ j, j < l.length → ∃ i, js[j]? = some i ∧ ops[i]? = l[j]?) →
    lexM ops js l listed = true → wpQuiet P ops S K l a → (∀ a', K a' → wpAnyH P .any ops Q S rest (listedI js listed) a' w) → wpAnyH P .any ops Q S (js.length + rest) listed a w
  | [], [], _, _, _, _, h, hK => by simpa [listedI] using hK _ h
  | [], _ :: _, _, _, _, hB, _, _ => by simp [lexM] at hB
  | _ :: _, [], _, _, _, hB, _, _ => by simp [lexM] at hB
  | i :: js, o :: l, listed, a, hl, hB, h, hK => by
    have h0 : ops[i]? = some o := by
      obtain ⟨i', h1, h2⟩ := hl 0 (by simp)
      have : i = i' := by simpa using h1
      subst this
      simpa using h2
    simp only [lexM, Bool.and_eq_true] at hB
    obtain ⟨⟨⟨hr, hc⟩, hf⟩, hB'⟩ := hB
    have h' : if Region.wanted o (yielded ops a.tmps) then o.quiet P a S (wpQuiet P ops S K l) else wpQuiet P ops S K l (a.put o.dst undef) := h
    obtain ⟨v, hy, hk⟩ := yieldsIf_of_quietM (ops := ops) hr h'
    rw [show (i :: js).length + rest = (js.length + rest) + 1 by simp; omega]
    exact wpAnyH_take h0 hs hf hc (fun c a w => hQ c a _ _ w) hy hS (wpAnyH_readsM hs hQ hS js l _ _ (fun j hj => by
      obtain ⟨i', h1, h2⟩ := hl (j + 1) (by simp; omega)
      exact ⟨i', by simpa using h1, by simpa using h2⟩) hB' hk hK)
/-- A region that draws: first all that only reads. -/
theorem wp_region_readsM {id : Nat} {a : Act} {w : World} {l : List Oper} (S : World → Prop) (js : List Nat) (rest : Nat) (hm : P.follows .mixedOrders = true) (hlen : l.length = js.length + rest) (hB : (Region.noSelect l.toArray && lexM l.toArray js (js.filterMap (l[·]?)) (Array.replicate l.length false)) = true) (hj : ∀ j, j < (js.filterMap (l[·]?)).length → ∃ i, js[j]? = some i ∧ l.toArray[i]? = (js.filterMap (l[·]?))[j]?)
    (hQ : ∀ c a d v w, Q (.panic c) (Act.put a d v) w → Q (.panic c) a w) (hS : S w.drew)
    (h : wpQuiet P l.toArray (fun u => ∃ x : Wd S, u = x.w) (fun a' => wpAnyH P .any l.toArray Q S rest (listedI js (Array.replicate l.length false)) a' w.drew) (js.filterMap (l[·]?)) a) : (Code.region id l.toArray true).wp P Q a w := by
  simp only [Bool.and_eq_true] at hB
  refine wp_region_held_drew (S := S) hm hS fun hS => ?_
  have e3 : Array.replicate l.toArray.size false = Array.replicate l.length false := by simp
  have e2 : l.toArray.size = js.length + rest := by simpa using hlen
  have eS : (fun u : World => ∃ x : Wd S, u = x.w) = S := by
    funext u; apply propext
    exact ⟨fun ⟨x, hx⟩ => hx ▸ x.2, fun h => ⟨⟨u, h⟩, rfl⟩⟩
  rw [eS] at h
  rw [e3, e2]
  exact wpAnyH_readsM hB.1 hQ hS js _ _ a hj hB.2 h (fun a' h => h)
end
/-- The same where nothing panics. -/
def NoPanM (Q : Exit → Act → World → Prop) (e : Exit) (a : Act) (w : World) : Prop := (∀ c, e ≠ .panic c) ∧ Q e a w
theorem wp_region_readsMN {P : Program} {Q : Exit → Act → World → Prop} {id : Nat} {a : Act} {w : World} {l : List Oper} (S : World → Prop) (js : List Nat) (rest : Nat) (hm : P.follows .mixedOrders = true) (hlen : l.length = js.length + rest) (hB : (Region.noSelect l.toArray && lexM l.toArray js (js.filterMap (l[·]?)) (Array.replicate l.length false)) = true) (hj : ∀ j, j < (js.filterMap (l[·]?)).length → ∃ i, js[j]? = some i ∧ l.toArray[i]? = (js.filterMap (l[·]?))[j]?)
    (hS : S w.drew)
    (h : wpQuiet P l.toArray (fun u => ∃ x : Wd S, u = x.w) (fun a' => wpAnyH P .any l.toArray (NoPanM Q) S rest (listedI js (Array.replicate l.length false)) a' w.drew) (js.filterMap (l[·]?)) a) : (Code.region id l.toArray true).wp P Q a w :=
  Code.wp_mono (fun _ _ _ h => h.2) (wp_region_readsM S js rest hm hlen hB hj (fun c _ _ _ _ h => absurd rfl (h.1 c)) hS h)
end Go.Proofs.YtcoeefckldkbeaaGreatDoor
