/- The walks of slices.EqualFunc and layer 1's Same. -/
import Derived.Test.YtomjippaokakcaaSame
namespace Go.Proofs.Ytomjippaokakcaa
open Go.RowKit

def Grid.row (g : Grid) (r : Nat) : Row := ⟨g.A r, g.AB r, g.AO r, g.L r, g.C r, g.B r⟩
theorem Grid.row_at {g : Grid} {w : World} (h : g.At w) {r : Nat} (hr : r < g.len) : (g.row r).At w := ⟨h.adr r hr, h.lbound r hr, h.cell r hr⟩
def eqGB (p q : Grid) : Bool := (p.len == q.len) && decide (∀ r, r < p.len → eqRB (p.row r) (q.row r) = true)
theorem eqG_no {p q : Grid} {k : Nat} (hk : k < p.len) (h : eqRB (p.row k) (q.row k) = false) : eqGB p q = false := by
  unfold eqGB
  rw [Bool.and_eq_false_iff, decide_eq_false_iff_not]
  right
  intro hh
  rw [hh k hk] at h
  exact Bool.noConfusion h

set_option maxRecDepth 100000 in
set_option maxHeartbeats 1000000 in
theorem eqFunc_any (p q : Grid) (w : World) (hp : p.At w) (hq : q.At w) :
    Calls Try.prog 54 #[.slice p.ao p.len p.cap, .slice q.ao q.len q.cap, .func (.func 55) #[] #[]] w fun e w' => e = .returned (.bool (eqGB p q)) ∧ Dr w w' := by
  have hpb := hp.bound
  have hqb := hq.bound
  by_cases hl : p.len = q.len
  · have bl : ((p.len : Int) != q.len) = false := by simp [hl]
    have HL : Hid (p.len = q.len) := hl
    by_cases h0 : p.len = 0
    · have HE : Hid (eqGB p q = true) := by show eqGB p q = true; unfold eqGB; rw [hl]; simp; intro i hi; omega
      rw [← hl, h0]
      clear hl HL bl
      go_enter Try.func54, Try.ntmps54
      go_wp2
      go_loop [17] (fun i => i = .int .i64 0) (fun _ => 0)
      case atStart => rfl
      case round =>
        subst hrel
        go_wp2
        go_ret
        exact ⟨ret_bool HE.out.symm, Dr.refl _⟩
    rw [hp.nil (by omega), hq.nil (by omega)]
    clear hl
    go_enter Try.func54, Try.ntmps54
    go_wp2
    go_loopw [17] (fun i wr => ∃ k : Nat, k ≤ p.len ∧ i = .int .i64 k ∧ (∀ x, x < k → eqRB (p.row x) (q.row x) = true) ∧ Dr w wr) (fun i _ => p.len - (intOf i).toNat)
    case atStart => exact ⟨0, Nat.zero_le _, rfl, fun _ h => absurd h (Nat.not_lt_zero _), Dr.refl _⟩
    case round =>
      obtain ⟨k, hk, rfl, hdone, hdr⟩ := hrel
      have HD : Hid (∀ x, x < k → eqRB (p.row x) (q.row x) = true) := hdone
      clear hdone
      by_cases hlt : k < p.len
      · have p1 := hp.kept (hdr.below _)
        have q1 := hq.kept (hdr.below _)
        have f1 := p1.row k hlt
        have f2 := q1.row k (by have := HL.out; omega)
        have i1 : (k : Int) < p.len := by omega
        have i2 : (k : Int) < q.len := by have := HL.out; omega
        go_wp2_with fail
        refine (eqRow_any (p.row k) (q.row k) _ (Grid.row_at p1 hlt) (Grid.row_at q1 (by have := HL.out; omega))).mono ?_
        rintro e w1 ⟨rfl, hdr1⟩
        have hd2 := hdr.trans hdr1
        clear hdr1
        cases hv : eqRB (p.row k) (q.row k)
        · go_wp2
          go_ret
          exact ⟨ret_bool (eqG_no hlt hv).symm, hd2⟩
        · go_wp2
          go_roundw
          case rel =>
            refine ⟨k + 1, by omega, by go_num, fun x hx => ?_, hd2⟩
            rcases Nat.lt_succ_iff_lt_or_eq.1 hx with h | h
            · exact HD.out x h
            · subst h; exact hv
          case measure => simp [intOf]; omega
      · have HE : Hid (eqGB p q = true) := by
          show eqGB p q = true
          unfold eqGB
          rw [HL.out, beq_self_eq_true, Bool.true_and, decide_eq_true_eq]
          exact fun x hx => HD.out x (by have := HL.out; omega)
        go_wp2
        go_ret
        exact ⟨ret_bool HE.out.symm, hdr⟩
  · have bl : ((p.len : Int) != q.len) = true := by rw [bne_iff_ne]; omega
    go_enter Try.func54, Try.ntmps54
    go_wp2
    go_ret
    exact ⟨ret_bool (by simp [eqGB, beq_eq_false_iff_ne.2 hl]), Dr.refl _⟩

def sameB (n : Strs) (g : Grid) (n2 : Strs) (g2 : Grid) : Bool := eqSB n n2 && eqGB g g2

/-- w1 is w, and behind it two variables of two cells each, and what came since. -/
structure Two (w w1 : World) (u v u2 v2 : Value) : Prop where
  bl : Below w.heap.size w w1
  lt : w.heap.size + 1 < w1.heap.size
  c0 : w1.cell? ⟨w.heap.size, 0, none⟩ = some u
  c1 : w1.cell? ⟨w.heap.size, 1, none⟩ = some v
  c2 : w1.cell? ⟨w.heap.size + 1, 0, none⟩ = some u2
  c3 : w1.cell? ⟨w.heap.size + 1, 1, none⟩ = some v2
theorem Two.start (w : World) (u v u2 v2 : Value) (t t2 : TypeId) : Two w ((w.alloc (.cells #[u, v] t)).alloc (.cells #[u2, v2] t2)) u v u2 v2 :=
  ⟨((Below.refl _ _).alloc (Nat.le_refl _) _).alloc (by simp) _, by simp, by simp, by simp, (cells2' w _ u2 v2 t2).1, (cells2' w _ u2 v2 t2).2⟩
theorem Two.step {w w1 w2 : World} {u v u2 v2 : Value} (h : Two w w1 u v u2 v2) (k : Below w1.heap.size w1 w2) : Two w w2 u v u2 v2 :=
  ⟨h.bl.trans (k.mono h.bl.size), Nat.lt_of_lt_of_le h.lt k.size, (k.cell (p := ⟨w.heap.size, 0, none⟩) (by have := h.lt; show w.heap.size < _; omega)).trans h.c0, (k.cell (p := ⟨w.heap.size, 1, none⟩) (by have := h.lt; show w.heap.size < _; omega)).trans h.c1,
    (k.cell (p := ⟨w.heap.size + 1, 0, none⟩) h.lt).trans h.c2, (k.cell (p := ⟨w.heap.size + 1, 1, none⟩) h.lt).trans h.c3⟩

/-- The worlds behind w in which both variables still hold what they held. -/
def Cls2 (w : World) (u v u2 v2 : Value) : Type := { w' : World // Two w w' u v u2 v2 }
def Cls2.w {w : World} {u v u2 v2 : Value} (x : Cls2 w u v u2 v2) : World := x.1
theorem Cls2.box {w : World} {u v u2 v2 : Value} (x : Cls2 w u v u2 v2) : Two w x.w u v u2 v2 := x.2
theorem wp_region_cls2 {P : Program} {w0 : World} {u v u2 v2 : Value} {id : Nat} {Q : Exit → Act → World → Prop} {a : Act} {w : World} {l : List Oper} (hb : Two w0 w u v u2 v2) (hm : P.follows .mixedOrders = true) (hB : Region.lexB .any l.toArray = true)
    (h : wpQuiet P l.toArray (fun w' => ∃ x : Cls2 w0 u v u2 v2, w' = x.w) (fun a' => ∀ w', (∃ x : Cls2 w0 u v u2 v2, w' = x.w) → Q .normal a' w') l a) : (Code.region id l.toArray true).wp P Q a w :=
  wp_region_quiet (C := fun w' => ∃ x : Cls2 w0 u v u2 v2, w' = x.w) hm hB ⟨⟨_, hb.step ((Below.refl _ _).drew)⟩, rfl⟩ (by simpa using h)
theorem Calls.cls2 {P : Program} {f : FuncId} {args : Array Value} {w0 : World} {u v u2 v2 r : Value} (x : Cls2 w0 u v u2 v2)
    (h : Calls P f args x.w fun e w' => e = .returned r ∧ Below x.w.heap.size x.w w') : Calls P f args x.w fun e w'' => e = .returned r ∧ ∃ y : Cls2 w0 u v u2 v2, w'' = y.w :=
  h.mono fun _ _ ⟨he, hb⟩ => ⟨he, ⟨_, x.box.step hb⟩, rfl⟩

set_option maxRecDepth 100000 in
set_option maxHeartbeats 1000000 in
theorem same_any (n : Strs) (g : Grid) (n2 : Strs) (g2 : Grid) (w : World) (hn : n.At w) (hg : g.At w) (hn2 : n2.At w) (hg2 : g2.At w) :
    Calls Try.prog 33 #[.agg #[.slice n.ao n.len n.cap, .slice g.ao g.len g.cap], .agg #[.slice n2.ao n2.len n2.cap, .slice g2.ao g2.len g2.cap]] w fun e w' => e = .returned (.bool (sameB n g n2 g2)) ∧ Below w.heap.size w w' := by
  have T0 := Two.start w (.slice n.ao n.len n.cap) (.slice g.ao g.len g.cap) (.slice n2.ao n2.len n2.cap) (.slice g2.ao g2.len g2.cap) 25 25
  go_enter Try.func33, Try.ntmps33
  go_wp2_with fail
  refine (eqStr_any n n2 _ (hn.kept T0.bl) (hn2.kept T0.bl)).mono ?_
  rintro e w1 ⟨rfl, hd1⟩
  have T1 := T0.step (hd1.below _)
  clear hd1 T0
  have c0 := T1.c0
  have c1 := T1.c1
  have c2 := T1.c2
  have c3 := T1.c3
  cases h1 : eqSB n n2
  · go_wp2
    go_ret
    exact ⟨ret_bool (by simp [sameB, h1]), T1.bl⟩
  · go_wp2_with fail
    refine (eqFunc_any g g2 _ (hg.kept T1.bl) (hg2.kept T1.bl)).mono ?_
    rintro e w2 ⟨rfl, hd2⟩
    have T2 := T1.step (hd2.below _)
    clear hd2 c0 c1 c2 c3
    go_wp2
    go_ret
    exact ⟨ret_bool (by simp [sameB, h1]), T2.bl⟩

/-- What Find answers. -/
def findN (n : Strs) (g : Grid) (s : ByteArray) : Int := if formedB n g = true then idxFrom n.s s n.len 0 else -1

set_option maxRecDepth 100000 in
set_option maxHeartbeats 1000000 in
theorem find_any (n : Strs) (g : Grid) (s : ByteArray) (w : World) (hn : n.At w) (hg : g.At w) :
    Calls Try.prog 34 #[.agg #[.slice n.ao n.len n.cap, .slice g.ao g.len g.cap], .string s] w fun e w' => e = .returned (.int .i64 (findN n g s)) ∧ Below w.heap.size w w' := by
  cases hF : formedB n g
  · have B0 := Box2.start w (.slice n.ao n.len n.cap) (.slice g.ao g.len g.cap) 25
    have HE : Hid (findN n g s = -1) := by show findN n g s = -1; unfold findN; rw [hF]; rfl
    go_enter Try.func34, Try.ntmps34
    go_wp2_with fail
    refine (formed_any n g _ (hn.kept B0.bl) (hg.kept B0.bl)).mono ?_
    rw [hF]
    rintro e w1 ⟨rfl, hb1⟩
    have B1 := B0.step hb1
    go_wp2
    go_ret
    exact ⟨ret_int HE.out.symm, B1.bl⟩
  · have hf := formed_parts hF
    have HE : Hid (findN n g s = idxFrom n.s s n.len 0) := by show findN n g s = _; unfold findN; rw [if_pos hF]
    have l8 := hf.2.2.1
    have B0 := Box2.start w (.slice n.ao n.len n.cap) (.slice g.ao g.len g.cap) 25
    have hfa := formed_any n g _ (hn.kept B0.bl) (hg.kept B0.bl)
    rw [hF] at hfa
    rw [hn.nil hf.2.1] at hfa B0 ⊢
    clear hF hf
    go_enter Try.func34, Try.ntmps34
    go_wp2_with fail
    refine hfa.mono ?_
    rintro e w1 ⟨rfl, hb1⟩
    have B1 := B0.step hb1
    clear hb1 B0 hfa
    have c0 := B1.c0
    have c1 := B1.c1
    go_wp2
    clear c0 c1
    have hn1 := hn.kept B1.bl
    go_loop [13] (fun i => ∃ k : Nat, k ≤ n.len ∧ i = .int .i64 k ∧ idxFrom n.s s n.len 0 = idxFrom n.s s (n.len - k) k) (fun i => n.len - (intOf i).toNat)
    case atStart => exact ⟨0, Nat.zero_le _, rfl, rfl⟩
    case round =>
      obtain ⟨k, hk, rfl, hdone⟩ := hrel
      have HD : Hid (idxFrom n.s s n.len 0 = idxFrom n.s s (n.len - k) k) := hdone
      clear hdone
      by_cases hlt : k < n.len
      · have r1 := hn1.cell k hlt
        have ik : (k : Int) < n.len := by omega
        obtain ⟨m, hm⟩ : ∃ m, n.len - k = m + 1 := ⟨n.len - k - 1, by omega⟩
        have HM : Hid (n.len - k = m + 1) := hm
        clear hm
        cases hv : ((n.s k).toList == s.toList)
        · go_wp2
          go_round
          case rel =>
            refine ⟨k + 1, by omega, by go_num, ?_⟩
            have hv' : (s.toList == (n.s k).toList) = false := by rw [beq_eq_false_iff_ne] at hv ⊢; exact fun h => hv h.symm
            rw [HD.out, HM.out, idxFrom, hv', show n.len - (k + 1) = m by have := HM.out; omega]; rfl
          case measure => simp [intOf]; omega
        · go_wp2
          go_ret
          refine ⟨ret_int ?_, B1.bl⟩
          have hv' : (s.toList == (n.s k).toList) = true := by rw [beq_iff_eq] at hv ⊢; exact hv.symm
          rw [HE.out, HD.out, HM.out, idxFrom, hv']; rfl
      · have HZ : Hid (n.len - k = 0) := by show n.len - k = 0; omega
        go_wp2
        go_ret
        exact ⟨ret_int (by rw [HE.out, HD.out, HZ.out]; rfl), B1.bl⟩
end Go.Proofs.Ytomjippaokakcaa
