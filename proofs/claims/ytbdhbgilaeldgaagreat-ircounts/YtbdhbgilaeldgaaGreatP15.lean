/- Layer 10: reads, slots; a leaf raised. -/
import Derived.Test.YtbdhbgilaeldgaaGreatP14
import Derived.Test.YtbdhbgilaeldgaaGreatP12
namespace Go.Proofs.YtbdhbgilaeldgaaGreat
open Go Go.RowKit

theorem run_int1 (x : Int) (w : World) : (Instr.buildSlice 42 1 #[(0, .int .i64 x)]).run Tryz.prog w = .ok (.slice (some ⟨w.heap.size, 0, none⟩) 1 1) (w.alloc (.cells #[.int .i64 x] 3)) := by
  obtain ⟨i0, hi, hz0, hz1, hz2⟩ := info_parts Tryz.infoInt
  simp [Instr.buildSlice, run_underlying Tryz.underlying42, sizeOf, typeInfo, hi, hz0, hz1, zeroValue, newRow, Value.cells, Instr.fill]
  kernel_rfl
theorem run_int2 (x y : Int) (w : World) : (Instr.buildSlice 42 2 #[(0, .int .i64 x), (1, .int .i64 y)]).run Tryz.prog w = .ok (.slice (some ⟨w.heap.size, 0, none⟩) 2 2) (w.alloc (.cells #[.int .i64 x, .int .i64 y] 3)) := by
  obtain ⟨i0, hi, hz0, hz1, hz2⟩ := info_parts Tryz.infoInt
  simp [Instr.buildSlice, run_underlying Tryz.underlying42, sizeOf, typeInfo, hi, hz0, hz1, zeroValue, newRow, Value.cells, Instr.fill]
  kernel_rfl

theorem rds1 {h : Hd} (e : h.op = 3 ∨ h.op = 5 ∨ h.op = 7 ∨ h.op = 8 ∨ h.op = 12 ∨ h.op = 13 ∨ h.op = 15 ∨ h.op = 16 ∨ h.op = 18) : h.rds = [h.a] := by unfold Hd.rds; rw [if_pos e]
theorem rds2 {h : Hd} (e : h.op = 4 ∨ h.op = 6 ∨ h.op = 11 ∨ h.op = 14) : h.rds = [h.a, h.b] := by unfold Hd.rds; rw [if_neg (by omega), if_pos e]
theorem rds9 {h : Hd} (e : h.op = 9) : h.rds = (List.range h.ar.len).map h.ar.f := by unfold Hd.rds; rw [if_neg (by omega), if_neg (by omega), if_pos e]
theorem rds0 {h : Hd} (e : ¬ (h.op = 3 ∨ h.op = 5 ∨ h.op = 7 ∨ h.op = 8 ∨ h.op = 12 ∨ h.op = 13 ∨ h.op = 15 ∨ h.op = 16 ∨ h.op = 18)) (e2 : ¬ (h.op = 4 ∨ h.op = 6 ∨ h.op = 11 ∨ h.op = 14)) (e3 : ¬ h.op = 9) : h.rds = [] := by unfold Hd.rds; rw [if_neg e, if_neg e2, if_neg e3]

theorem beqI {a b : Int} (h : ¬ a = b) : (a == b) = false := beq_eq_false_iff_ne.2 h
set_option maxRecDepth 100000 in
set_option maxHeartbeats 8000000 in
theorem reads_any (nd : Nd) (w : World) (hA : nd.At w) : Calls Tryz.prog 65 #[.agg nd.va] w fun e w' => ∃ v, e = .returned v ∧ IAt w' v nd.h.rds ∧ Below w.heap.size w w' := by
  have B0 := below_alloc w (.cells nd.va 44)
  have bN : Blk (w.alloc (.cells nd.va 44)) w.heap.size nd.vs 44 := Blk.new w _ _
  have HA : Hid (nd.h.ar.At (w.alloc (.cells nd.va 44)) ∧ Below w.heap.size w (w.alloc (.cells nd.va 44))) := ⟨(hA.kept B0).ar, B0⟩
  have c0 := bN.cell 0 (v := .int .i64 nd.h.op) rfl
  have c2 := bN.cell 2 (v := .int .i64 nd.h.a) rfl
  have c3 := bN.cell 3 (v := .int .i64 nd.h.b) rfl
  have c11 := bN.cell 11 (v := .slice nd.h.ar.ao nd.h.ar.len nd.h.ar.cap) rfl
  clear bN B0 hA
  go_enter Tryz.func65, Tryz.ntmps65
  go_upto_region 1 with fail
  generalize (w.alloc (.cells nd.va 44)) = w1 at *
  by_cases h1 : nd.h.op = 3 ∨ nd.h.op = 5 ∨ nd.h.op = 7 ∨ nd.h.op = 8 ∨ nd.h.op = 12 ∨ nd.h.op = 13 ∨ nd.h.op = 15 ∨ nd.h.op = 16 ∨ nd.h.op = 18
  · have HR : Hid (nd.h.rds = [nd.h.a]) := rds1 h1
    generalize nd.h.op = op at h1 c0
    have hr := run_int1 nd.h.a w1
    have K1 : Hid (IAt (w1.alloc (.cells #[.int .i64 nd.h.a] 3)) (.slice (some ⟨w1.heap.size, 0, none⟩) 1 1) [nd.h.a] ∧ Below w.heap.size w (w1.alloc (.cells #[.int .i64 nd.h.a] 3))) := ⟨IAt.blk (l := [nd.h.a]) (Blk.new w1 [.int .i64 nd.h.a] 3) (by simp), Below.next HA.out.2 (below_alloc _ _)⟩
    rcases h1 with rfl | rfl | rfl | rfl | rfl | rfl | rfl | rfl | rfl
    all_goals
      go_wp2_with (refine wpList_slice rfl 42 1 #[(0, .tmp 16)] rfl #[(0, .int .i64 nd.h.a)] rfl hr ?_)
      go_ret
      exact ⟨_, rfl, by rw [HR.out]; exact K1.out.1, K1.out.2⟩
  · by_cases h2 : nd.h.op = 4 ∨ nd.h.op = 6 ∨ nd.h.op = 11 ∨ nd.h.op = 14
    · have HR : Hid (nd.h.rds = [nd.h.a, nd.h.b]) := rds2 h2
      clear h1
      generalize nd.h.op = op at h2 c0
      have hr := run_int2 nd.h.a nd.h.b w1
      have K2 : Hid (IAt (w1.alloc (.cells #[.int .i64 nd.h.a, .int .i64 nd.h.b] 3)) (.slice (some ⟨w1.heap.size, 0, none⟩) 2 2) [nd.h.a, nd.h.b] ∧ Below w.heap.size w (w1.alloc (.cells #[.int .i64 nd.h.a, .int .i64 nd.h.b] 3))) := ⟨IAt.blk (l := [nd.h.a, nd.h.b]) (Blk.new w1 [.int .i64 nd.h.a, .int .i64 nd.h.b] 3) (by simp), Below.next HA.out.2 (below_alloc _ _)⟩
      rcases h2 with rfl | rfl | rfl | rfl
      all_goals
        go_wp2_with (refine wpList_slice rfl 42 2 #[(0, .tmp 24), (1, .tmp 26)] rfl #[(0, .int .i64 nd.h.a), (1, .int .i64 nd.h.b)] rfl hr ?_)
        go_ret
        exact ⟨_, rfl, by rw [HR.out]; exact K2.out.1, K2.out.2⟩
    · by_cases h3 : nd.h.op = 9
      · have HR : Hid (nd.h.rds = (List.range nd.h.ar.len).map nd.h.ar.f) := rds9 h3
        clear h1 h2
        rw [h3] at c0
        have K3 : Hid (IAt w1 (.slice nd.h.ar.ao nd.h.ar.len nd.h.ar.cap) ((List.range nd.h.ar.len).map nd.h.ar.f)) := IAt.is HA.out.1
        generalize nd.h.ar.ao = ao at *
        generalize (List.range nd.h.ar.len).map nd.h.ar.f = l at *
        generalize nd.h.ar.len = len at *
        generalize nd.h.ar.cap = cap at *
        clear h3
        go_wp2
        go_ret
        exact ⟨_, rfl, by rw [HR.out]; exact K3.out, HA.out.2⟩
      · have HR : Hid (nd.h.rds = []) := rds0 h1 h2 h3
        simp only [not_or] at h1 h2
        generalize nd.h.op = op at h1 h2 h3 c0
        have K3 : Hid (IAt w1 (.slice none 0 0) []) := IAt.nil w1 0
        have e3 := beqI h1.1
        have e5 := beqI h1.2.1
        have e7 := beqI h1.2.2.1
        have e8 := beqI h1.2.2.2.1
        have e12 := beqI h1.2.2.2.2.1
        have e13 := beqI h1.2.2.2.2.2.1
        have e15 := beqI h1.2.2.2.2.2.2.1
        have e16 := beqI h1.2.2.2.2.2.2.2.1
        have e18 := beqI h1.2.2.2.2.2.2.2.2
        have e4 := beqI h2.1
        have e6 := beqI h2.2.1
        have e11 := beqI h2.2.2.1
        have e14 := beqI h2.2.2.2
        have e9 := beqI h3
        clear h1 h2 h3
        go_wp2
        go_ret
        exact ⟨_, rfl, by rw [HR.out]; exact K3.out, HA.out.2⟩

def slotsB (m : Nat) (l : List Int) : Bool := l.all fun i => wthB i m
set_option maxRecDepth 100000 in
set_option maxHeartbeats 2000000 in
theorem slots_any (n : Strs) (g : Grid) (many : Int) (f : Fc) (l : List Int) (v : Value) (w : World) (hl : IAt w v l) : Calls Tryz.prog 46 #[.agg (shV n g many f).toArray, v] w fun e w' => e = .returned (.bool (slotsB f.slots.len l)) ∧ Below w.heap.size w w' := by
  obtain ⟨ao, b, o, cap, rfl, hnil, hbd, hcell⟩ := hl
  have B0 := below_alloc w (.cells (shV n g many f).toArray 64)
  have HI : Hid (Below w.heap.size w (w.alloc (.cells (shV n g many f).toArray 64)) ∧ Blk (w.alloc (.cells (shV n g many f).toArray 64)) w.heap.size (shV n g many f) 64) := ⟨B0, Blk.new w _ _⟩
  have HC : Hid (∀ i x, l[i]? = some x → w.cell? ⟨b, o + i, none⟩ = some (.int .i64 x)) := hcell
  clear B0 hcell
  generalize hsv : shV n g many f = sv at *
  have HV : Hid (sv[16]? = some (.slice f.slots.ao f.slots.len f.slots.cap)) := by show _ = _; rw [← hsv]; rfl
  clear hsv
  go_enter Tryz.func46, Tryz.ntmps46
  go_wp2
  go_loopw [9] (fun i wr => ∃ k : Nat, k ≤ l.length ∧ i = .int .i64 k ∧ slotsB f.slots.len (l.take k) = true ∧ Below w.heap.size w wr ∧ Blk wr w.heap.size sv 64) (fun i _ => l.length - (intOf i).toNat)
  case atStart => exact ⟨0, Nat.zero_le _, rfl, by simp [slotsB], HI.out⟩
  case round =>
    clear HI
    obtain ⟨k, hk, rfl, hall, hb, bS⟩ := hrel
    have HA : Hid (slotsB f.slots.len (l.take k) = true) := hall
    have HI : Hid (Below w.heap.size w wr ∧ Blk wr w.heap.size sv 64) := ⟨hb, bS⟩
    clear hall hb
    by_cases hlt : k < l.length
    · have ij : (k : Int) < l.length := by omega
      obtain ⟨x, hx⟩ : ∃ x, l[k]? = some x := ⟨_, List.getElem?_eq_getElem hlt⟩
      have a0 := hnil (by omega)
      subst a0
      have c0 := up HI.out.1 (HC.out k x hx)
      have HX : Hid (l[k]? = some x) := hx
      have d0 := bS.cell 16 HV.out
      clear bS hx
      go_wp2_with fail
      refine (within_any x f.slots.len wr).mono ?_
      rintro _ w1 ⟨rfl, hb1⟩
      clear c0 d0
      cases hq : wthB x f.slots.len
      · go_wp2
        go_ret
        refine ⟨ret_bool ?_, Below.next HI.out.1 hb1⟩
        symm
        unfold slotsB
        rw [List.all_eq_false]
        exact ⟨x, List.mem_of_getElem? HX.out, by rw [hq]; simp⟩
      · go_wp2
        go_roundw
        case rel => exact ⟨k + 1, by omega, by go_num, by unfold slotsB; rw [List.take_add_one, HX.out]; simp [hq]; simpa [slotsB] using HA.out, Below.next HI.out.1 hb1, HI.out.2.kept hb1⟩
        case measure => simp [intOf]; omega
    · have e2 : k = l.length := by omega
      subst e2
      have d : ¬ (l.length : Int) < l.length := by omega
      clear bS
      go_wp2
      go_ret
      exact ⟨ret_bool (by have := HA.out; rw [List.take_length] at this; exact this.symm), HI.out.1⟩
end Go.Proofs.YtbdhbgilaeldgaaGreat

/- Layer 2: labels bound. -/
namespace Go.Proofs.YtbdhbgilaeldgaaGreat
open Go.RowKit

/-- The join of two labels, if up, else their meet. -/
def bndL (n : Strs) (g : Grid) (a b : Int) (up : Bool) : Int := if up then joinI n g a b else meetI n g a b
/-- Likewise, of exception labels. -/
def bndE (n : Strs) (g : Grid) (a b : Int) (up : Bool) : Int := if up then bothI n g a b else meetI n g a b

/-- The bound of two formed types as data; it lies nowhere: 'same' holds it against what does. -/
def Ty.bnd (n : Strs) (g : Grid) : Ty → Ty → Bool → Ty
  | .dm, _, _ => .dm
  | .mk k l h e _ _ _ len _ ps, t, up => .mk k (bndL n g l t.l up) (if k = 4 then bndL n g h t.h (!up) else 0) (if k = 4 then bndE n g e t.e up else 0) none 0 0 len 0 (fun i => Ty.bnd n g (ps i) (t.ps i) (up != (decide (k = 4) && decide (i = 0))))
/-- Whether there is a bound. -/
def Ty.bok : Ty → Ty → Bool
  | .dm, _ => false
  | .mk k _ _ _ _ _ _ len _ ps, t => ((k == t.k) && (!(decide (k = 5)) || (ps 0).same (t.ps 0))) && decide (∀ i, i < len → Ty.bok (ps i) (t.ps i) = true)
end Go.Proofs.YtbdhbgilaeldgaaGreat

/- Layer 2: what the bounds of labels are. No program is walked here. -/
namespace Go.Proofs.YtbdhbgilaeldgaaGreat

/-- Bounds in a formed lattice: the one that is asked for, and its law: by way of 'up' an upper and least one, else a lower and greatest one. -/
def bl (g : Grid) (x y : Nat) (up : Bool) : Nat := if up then Jn g x y else Mt g x y
/-- a below b, if up, else b below a. -/
def dir (le : Nat → Nat → Bool) (up : Bool) (a b : Nat) : Bool := if up then le a b else le b a
theorem bndL_nat {n : Strs} {g : Grid} (hF : formedB n g = true) {x y : Nat} (hx : x < n.len) (hy : y < n.len) (up : Bool) : bndL n g x y up = (bl g x y up : Int) := by
  cases up
  · exact meetI_nat hF hx hy
  · exact joinI_nat hF hx hy
theorem bl_is {n : Strs} {g : Grid} (hF : formedB n g = true) {x y : Nat} (hx : x < n.len) (hy : y < n.len) (up : Bool) : bl g x y up < n.len ∧ dir g.B up x (bl g x y up) = true ∧ dir g.B up y (bl g x y up) = true ∧ ∀ c, c < n.len → dir g.B up x c = true → dir g.B up y c = true → dir g.B up (bl g x y up) c = true := by
  cases up
  · exact (mt_is hF hx hy).2
  · exact (jn_is hF hx hy).2
theorem bl_same {n : Strs} {g : Grid} (hF : formedB n g = true) {x : Nat} (hx : x < n.len) (up : Bool) : bl g x x up = x := by
  have h := bl_is hF hx hx up
  have h2 := h.2.2.2 x hx (by cases up <;> exact lq_refl hF hx) (by cases up <;> exact lq_refl hF hx)
  cases up
  · exact lq_anti hF h.1 hx h.2.1 h2
  · exact lq_anti hF h.1 hx h2 h.2.1

/-- An exception label: none, or a label. -/
def IsE (N : Nat) (a : Int) : Prop := a = -1 ∨ ∃ x : Nat, a = x ∧ x < N
theorem joinI_none {n : Strs} {g : Grid} (b : Int) : joinI n g (-1) b = -1 := by
  unfold joinI
  rw [if_neg]
  intro h
  rw [Bool.and_eq_true, Bool.and_eq_true] at h
  have : labB n (-1) = false := rfl
  rw [this] at h
  exact Bool.noConfusion h.1.1
theorem meetI_none {n : Strs} {g : Grid} (b : Int) : meetI n g (-1) b = -1 ∧ meetI n g b (-1) = -1 := by
  have e : labB n (-1) = false := rfl
  constructor
  · unfold meetI
    rw [if_neg]
    intro h
    rw [Bool.and_eq_true, Bool.and_eq_true, e] at h
    exact Bool.noConfusion h.1.1
  · unfold meetI
    rw [if_neg]
    intro h
    rw [Bool.and_eq_true, Bool.and_eq_true, e] at h
    exact Bool.noConfusion h.1.2
theorem nat_ne (x : Nat) : ¬ (x : Int) = -1 := by omega
theorem bndE_up {n : Strs} {g : Grid} (hF : formedB n g = true) {a b : Int} (ha : IsE n.len a) (hb : IsE n.len b) : IsE n.len (bndE n g a b true) ∧ excB g.B a (bndE n g a b true) = true ∧ excB g.B b (bndE n g a b true) = true ∧ ∀ c, IsE n.len c → excB g.B a c = true → excB g.B b c = true → excB g.B (bndE n g a b true) c = true := by
  have P := po_of hF
  show IsE n.len (bothI n g a b) ∧ _
  have self : ∀ x : Nat, x < n.len → joinI n g x x = (x : Int) := fun x hx => by
    have := bndL_nat hF hx hx true
    rw [bl_same hF hx true] at this
    exact this
  unfold bothI
  rcases ha with rfl | ⟨x, rfl, hx⟩
  · rcases hb with rfl | ⟨y, rfl, hy⟩
    · have e : bndE n g (-1) (-1) true = -1 := by show bothI n g (-1) (-1) = -1; unfold bothI; rw [if_pos rfl]; exact joinI_none _
      rw [e, if_pos rfl, joinI_none]
      exact ⟨Or.inl rfl, rfl, rfl, fun c _ _ _ => rfl⟩
    · have e : bndE n g (-1) y true = y := by show bothI n g (-1) y = y; unfold bothI; rw [if_pos rfl, if_neg (nat_ne y)]; exact self y hy
      rw [e, if_pos rfl, if_neg (nat_ne y), self y hy]
      exact ⟨Or.inr ⟨y, rfl, hy⟩, rfl, exc_refl P (Or.inr ⟨y, rfl, hy⟩), fun c _ _ h2 => h2⟩
  · rcases hb with rfl | ⟨y, rfl, hy⟩
    · have e : bndE n g x (-1) true = x := by show bothI n g x (-1) = x; unfold bothI; rw [if_pos rfl, if_neg (nat_ne x)]; exact self x hx
      rw [e, if_pos rfl, if_neg (nat_ne x), self x hx]
      exact ⟨Or.inr ⟨x, rfl, hx⟩, exc_refl P (Or.inr ⟨x, rfl, hx⟩), rfl, fun c _ h1 _ => h1⟩
    · have e : bndE n g x y true = (bl g x y true : Int) := by show bothI n g x y = _; unfold bothI; rw [if_neg (nat_ne x), if_neg (nat_ne y)]; exact bndL_nat hF hx hy true
      have e2 : joinI n g x y = (bl g x y true : Int) := bndL_nat hF hx hy true
      rw [e, if_neg (nat_ne x), if_neg (nat_ne y), e2]
      have h := bl_is hF hx hy true
      generalize bl g x y true = j at h
      refine ⟨Or.inr ⟨j, rfl, h.1⟩, exc_iff.2 (Or.inr ⟨nat_ne j, h.2.1⟩), exc_iff.2 (Or.inr ⟨nat_ne j, h.2.2.1⟩), fun c hc h1 h2 => ?_⟩
      rcases exc_iff.1 h1 with q | ⟨q, q1⟩
      · exact absurd q (nat_ne x)
      rcases exc_iff.1 h2 with r | ⟨_, r1⟩
      · exact absurd r (nat_ne y)
      rcases hc with rfl | ⟨z, rfl, hz⟩
      · exact absurd rfl q
      exact exc_iff.2 (Or.inr ⟨q, h.2.2.2 z hz q1 r1⟩)
theorem bndE_dn {n : Strs} {g : Grid} (hF : formedB n g = true) {a b : Int} (ha : IsE n.len a) (hb : IsE n.len b) : IsE n.len (bndE n g a b false) ∧ excB g.B (bndE n g a b false) a = true ∧ excB g.B (bndE n g a b false) b = true ∧ ∀ c, IsE n.len c → excB g.B c a = true → excB g.B c b = true → excB g.B c (bndE n g a b false) = true := by
  show IsE n.len (meetI n g a b) ∧ excB g.B (meetI n g a b) a = true ∧ excB g.B (meetI n g a b) b = true ∧ ∀ c, IsE n.len c → excB g.B c a = true → excB g.B c b = true → excB g.B c (meetI n g a b) = true
  rcases ha with rfl | ⟨x, rfl, hx⟩
  · rw [(meetI_none b).1]
    exact ⟨Or.inl rfl, rfl, rfl, fun c _ h1 _ => h1⟩
  · rcases hb with rfl | ⟨y, rfl, hy⟩
    · rw [(meetI_none (x : Int)).2]
      exact ⟨Or.inl rfl, rfl, rfl, fun c _ _ h2 => h2⟩
    · have e : meetI n g x y = (bl g x y false : Int) := bndL_nat hF hx hy false
      rw [e]
      have h := bl_is hF hx hy false
      generalize bl g x y false = j at h
      refine ⟨Or.inr ⟨j, rfl, h.1⟩, exc_iff.2 (Or.inr ⟨nat_ne x, h.2.1⟩), exc_iff.2 (Or.inr ⟨nat_ne y, h.2.2.1⟩), fun c hc h1 h2 => ?_⟩
      rcases hc with rfl | ⟨z, rfl, hz⟩
      · rfl
      rcases exc_iff.1 h1 with q | ⟨_, q1⟩
      · exact absurd q (nat_ne z)
      rcases exc_iff.1 h2 with r | ⟨_, r1⟩
      · exact absurd r (nat_ne z)
      exact exc_iff.2 (Or.inr ⟨nat_ne j, h.2.2.2 z hz q1 r1⟩)
end Go.Proofs.YtbdhbgilaeldgaaGreat

/- Layer 2: the bound of two formed types is formed. No program is walked here. -/
namespace Go.Proofs.YtbdhbgilaeldgaaGreat

theorem bnd_eq (n : Strs) (g : Grid) (k l h e : Int) (ao : Option Addr) (b o len cap : Nat) (ps : Nat → Ty) (t : Ty) (up : Bool) : Ty.bnd n g (.mk k l h e ao b o len cap ps) t up = .mk k (bndL n g l t.l up) (if k = 4 then bndL n g h t.h (!up) else 0) (if k = 4 then bndE n g e t.e up else 0) none 0 0 len 0 (fun i => Ty.bnd n g (ps i) (t.ps i) (up != (decide (k = 4) && decide (i = 0)))) := rfl
theorem bok_parts {s t : Ty} (h : s.bok t = true) : s.k = t.k ∧ (s.k = 5 → (s.ps 0).same (t.ps 0) = true) ∧ ∀ i, i < s.len → (s.ps i).bok (t.ps i) = true := by
  rcases s with _ | ⟨k, l, hh, e, ao, b, o, len, cap, ps⟩
  · cases h
  have h' : (((k == t.k) && (!(decide (k = 5)) || (ps 0).same (t.ps 0))) && decide (∀ i, i < len → Ty.bok (ps i) (t.ps i) = true)) = true := h
  rw [Bool.and_eq_true, Bool.and_eq_true, beq_iff_eq, decide_eq_true_eq] at h'
  refine ⟨h'.1.1, fun h5 => ?_, h'.2⟩
  have h5' : k = 5 := h5
  have := h'.1.2
  rw [decide_eq_true h5'] at this
  exact this
theorem inR_of {N x : Nat} (h : x < N) : inR N (x : Int) = true := by unfold inR; simp; omega
theorem bndE_is {n : Strs} {g : Grid} (hF : formedB n g = true) {a b : Int} (ha : IsE n.len a) (hb : IsE n.len b) (up : Bool) : IsE n.len (bndE n g a b up) := by
  cases up
  · exact (bndE_dn hF ha hb).1
  · exact (bndE_up hF ha hb).1
theorem bnd_fm {n : Strs} {g : Grid} (hF : formedB n g = true) : ∀ (s t : Ty) (d d' : Nat) (up : Bool), s.fm n.len d = true → t.fm n.len d' = true → s.bok t = true → (s.bnd n g t up).fm n.len d = true := by
  intro s
  induction s with
  | dm => intro t d d' up h; cases h
  | mk k l h e ao b o len cap ps ih =>
    intro t d d' up hs ht hk
    obtain ⟨gs, hd6, cs⟩ := fm_gd hs
    obtain ⟨gt, _, ct⟩ := fm_gd ht
    obtain ⟨e1, _, e3⟩ := bok_parts hk
    have e1' : k = t.k := e1
    have el : len = t.len := by
      have a1 : (len : Int) = arityI k := gs.ar
      have a2 := gt.ar
      rw [← e1'] at a2
      omega
    obtain ⟨x, hx, hx1⟩ : ∃ x : Nat, l = x ∧ x < n.len := inR_nat gs.lab
    obtain ⟨y, hy, hy1⟩ := inR_nat gt.lab
    rw [bnd_eq, fm_eq]
    simp only [Bool.and_eq_true, decide_eq_true_eq, beq_iff_eq]
    refine ⟨⟨⟨⟨hd6, gs.ar⟩, ?_⟩, ?_⟩, fun i hi => ih i (t.ps i) (d + 1) (d' + 1) _ (cs i hi) (ct i (by omega)) (e3 i hi)⟩
    · rw [hx, hy, bndL_nat hF hx1 hy1]
      exact inR_of (bl_is hF hx1 hy1 up).1
    · unfold bndI
      by_cases k4 : k = 4
      · have b1 : bndI n.len k h e = true := gs.bnd
        have b2 := gt.bnd
        rw [← e1', k4] at b2
        rw [k4] at b1
        obtain ⟨r1, r2⟩ := bnd4 b1
        obtain ⟨r3, r4⟩ := bnd4 b2
        obtain ⟨xh, hxh, hxh1⟩ := inR_nat r1
        obtain ⟨yh, hyh, hyh1⟩ := inR_nat r3
        rw [if_pos k4, if_pos k4, if_pos k4, Bool.and_eq_true, Bool.or_eq_true, beq_iff_eq]
        refine ⟨?_, ?_⟩
        · rw [hxh, hyh, bndL_nat hF hxh1 hyh1]
          exact inR_of (bl_is hF hxh1 hyh1 (!up)).1
        · rcases bndE_is hF (r2.imp (fun h => h) inR_nat) (r4.imp (fun h => h) inR_nat) up with q | ⟨z, hz, hz1⟩
          · exact Or.inl q
          · exact Or.inr (by rw [hz]; exact inR_of hz1)
      · rw [if_neg k4, if_neg k4, if_neg k4]; rfl
theorem bnd_nodes {n : Strs} {g : Grid} : ∀ (s t : Ty) (up : Bool), (s.bnd n g t up).nodes = s.nodes := by
  intro s
  induction s with
  | dm => intro t up; rfl
  | mk k l h e ao b o len cap ps ih =>
    intro t up
    rw [bnd_eq]
    show 1 + sumTo (fun i => (Ty.bnd n g (ps i) (t.ps i) (up != (decide (k = 4) && decide (i = 0)))).nodes) len = 1 + sumTo (fun i => (ps i).nodes) len
    rw [sum_congr len (fun i _ => ih i (t.ps i) _)]
theorem bnd_ok {n : Strs} {g : Grid} (hF : formedB n g = true) {s t : Ty} (up : Bool) (hs : s.ok n.len = true) (ht : t.ok n.len = true) (h : s.bok t = true) : (s.bnd n g t up).ok n.len = true := by
  have a := ok_parts hs
  have b := ok_parts ht
  unfold Ty.ok
  rw [bnd_fm hF s t 1 1 up a.1 b.1 h, bnd_nodes, decide_eq_true a.2]; rfl
end Go.Proofs.YtbdhbgilaeldgaaGreat

/- Layer 2: the bound of two formed types is one, and the least (greatest). No program is walked here. -/
namespace Go.Proofs.YtbdhbgilaeldgaaGreat

/-- s below u, if up, else u below s. -/
def D (le : Nat → Nat → Bool) (up : Bool) (s u : Ty) : Prop := (if up then s.bel le true u else u.bel le true s) = true
def dE (le : Nat → Nat → Bool) (up : Bool) (a b : Int) : Bool := if up then excB le a b else excB le b a
structure DS (le : Nat → Nat → Bool) (up : Bool) (s u : Ty) : Prop where
  k : s.k = u.k
  l : dir le up s.l.toNat u.l.toNat = true
  pair : s.k = 3 → D le up (s.ps 0) (u.ps 0) ∧ D le up (s.ps 1) (u.ps 1)
  func : s.k = 4 → (D le (!up) (s.ps 0) (u.ps 0) ∧ D le up (s.ps 1) (u.ps 1)) ∧ dir le (!up) s.h.toNat u.h.toNat = true ∧ dE le up s.e u.e = true
  ref : s.k = 5 → (s.ps 0).same (u.ps 0) = true
theorem D_iff {N : Nat} {le : Nat → Nat → Bool} {s u : Ty} (hs : Fd N s) (hu : Fd N u) (up : Bool) : D le up s u ↔ DS le up s u := by
  cases up
  · show u.bel le true s = true ↔ _
    rw [bel_iff hu hs]
    constructor
    · intro h
      refine ⟨h.k.symm, h.l, fun h3 => h.pair (h.k.trans h3), fun h4 => ?_, fun h5 => same_symm _ _ (h.ref (h.k.trans h5))⟩
      have f := h.func (h.k.trans h4)
      exact ⟨f.1, f.2⟩
    · intro h
      refine ⟨h.k.symm, h.l, fun h3 => h.pair (h.k.trans h3), fun h4 => ?_, fun h5 => same_symm _ _ (h.ref (h.k.trans h5))⟩
      have f := h.func (h.k.trans h4)
      exact ⟨f.1, f.2⟩
  · show s.bel le true u = true ↔ _
    rw [bel_iff hs hu]
    exact ⟨fun h => ⟨h.k, h.l, h.pair, h.func, h.ref⟩, fun h => ⟨h.k, h.l, h.pair, h.func, h.ref⟩⟩

theorem bndE_law {n : Strs} {g : Grid} (hF : formedB n g = true) {a b : Int} (ha : IsE n.len a) (hb : IsE n.len b) (up : Bool) : IsE n.len (bndE n g a b up) ∧ dE g.B up a (bndE n g a b up) = true ∧ dE g.B up b (bndE n g a b up) = true ∧ ∀ c, IsE n.len c → dE g.B up a c = true → dE g.B up b c = true → dE g.B up (bndE n g a b up) c = true := by
  cases up
  · exact bndE_dn hF ha hb
  · exact bndE_up hF ha hb
theorem bndE_same {n : Strs} {g : Grid} (hF : formedB n g = true) {a : Int} (ha : IsE n.len a) (up : Bool) : bndE n g a a up = a := by
  have P := po_of hF
  have h := bndE_law hF ha ha up
  have r : dE g.B up a a = true := by cases up <;> exact exc_refl P ha
  have h2 := h.2.2.2 a ha r r
  cases up
  · exact exc_anti P h.1 ha h.2.1 h2
  · exact exc_anti P h.1 ha h2 h.2.1

theorem bnd_v (n : Strs) (g : Grid) {s t : Ty} (hs : s ≠ .dm) (up : Bool) : (s.bnd n g t up).k = s.k ∧ (s.bnd n g t up).l = bndL n g s.l t.l up ∧ (s.bnd n g t up).h = (if s.k = 4 then bndL n g s.h t.h (!up) else 0) ∧ (s.bnd n g t up).e = (if s.k = 4 then bndE n g s.e t.e up else 0) ∧ (s.bnd n g t up).len = s.len ∧ ∀ i, (s.bnd n g t up).ps i = (s.ps i).bnd n g (t.ps i) (up != (decide (s.k = 4) && decide (i = 0))) := by
  rcases s with _ | ⟨k, l, h, e, ao, b, o, len, cap, ps⟩
  · exact absurd rfl hs
  · exact ⟨rfl, rfl, rfl, rfl, rfl, fun _ => rfl⟩

/-- What is the same has itself as bound. -/
theorem bnd_same {n : Strs} {g : Grid} (hF : formedB n g = true) : ∀ (s t : Ty) (up : Bool), Fd n.len s → Fd n.len t → s.same t = true → (s.bnd n g t up).same s = true := by
  intro s
  induction s with
  | dm => intro t up hs; exact absurd rfl hs.ne
  | mk k l h e ao b o len cap ps ih =>
    intro t up hs ht hq
    have v := bnd_v n g (t := t) hs.ne up
    rw [same_iff] at hq
    obtain ⟨⟨_, q2, q3, q4, q5⟩, q6⟩ := hq
    rw [same_iff]
    obtain ⟨x, hx, hx1⟩ := hs.lab
    refine ⟨⟨v.1, ?_, ?_, ?_, v.2.2.2.2.1⟩, fun i hi => ?_⟩
    · rw [v.2.1, ← q2, hx, bndL_nat hF hx1 hx1, bl_same hF hx1]
    · rw [v.2.2.1]
      by_cases k4 : (Ty.mk k l h e ao b o len cap ps).k = 4
      · obtain ⟨y, hy, hy1⟩ := hs.heap k4
        rw [if_pos k4, ← q3, hy, bndL_nat hF hy1 hy1, bl_same hF hy1]
      · rw [if_neg k4]; exact (hs.zero k4).1.symm
    · rw [v.2.2.2.1]
      by_cases k4 : (Ty.mk k l h e ao b o len cap ps).k = 4
      · rw [if_pos k4, ← q4]
        exact bndE_same hF (hs.exc k4) up
      · rw [if_neg k4]; exact (hs.zero k4).2.symm
    · have hi' : i < (Ty.mk k l h e ao b o len cap ps).len := by rw [← v.2.2.2.2.1]; exact hi
      rw [v.2.2.2.2.2 i]
      exact ih i (t.ps i) _ (hs.sub hi') (ht.sub (by rw [← q5]; exact hi')) (q6 i hi')

/-- The law of bounds. -/
theorem bnd_law {n : Strs} {g : Grid} (hF : formedB n g = true) : ∀ (s t : Ty) (up : Bool), (∃ d, s.fm n.len d = true) → (∃ d, t.fm n.len d = true) → s.bok t = true →
    D g.B up s (s.bnd n g t up) ∧ D g.B up t (s.bnd n g t up) ∧ ∀ u, Fd n.len u → D g.B up s u → D g.B up t u → D g.B up (s.bnd n g t up) u := by
  intro s
  induction s with
  | dm => intro t up ⟨d, h⟩; cases h
  | mk k l h e ao b o len cap ps ih =>
    intro t up ⟨d, hd⟩ ⟨d', hd'⟩ hk
    have hs := fd_of hd
    have ht := fd_of hd'
    have hB := fd_of (bnd_fm hF _ t d d' up hd hd' hk)
    have v := bnd_v n g (t := t) hs.ne up
    obtain ⟨e1, e2, e3⟩ := bok_parts hk
    have cs := (fm_gd hd).2.2
    have ct := (fm_gd hd').2.2
    have el : (Ty.mk k l h e ao b o len cap ps).len = t.len := by
      have a1 := hs.gd.ar
      have a2 := ht.gd.ar
      rw [← e1] at a2
      omega
    obtain ⟨x, hx, hx1⟩ := hs.lab
    obtain ⟨y, hy, hy1⟩ := ht.lab
    have hl : (Ty.bnd n g (Ty.mk k l h e ao b o len cap ps) t up).l = (bl g x y up : Int) := by rw [v.2.1, hx, hy]; exact bndL_nat hF hx1 hy1 up
    have L := bl_is hF hx1 hy1 up
    have sub : ∀ i, i < (Ty.mk k l h e ao b o len cap ps).len → ∀ up', D g.B up' (ps i) (Ty.bnd n g (ps i) (t.ps i) up') ∧ D g.B up' (t.ps i) (Ty.bnd n g (ps i) (t.ps i) up') ∧ ∀ u, Fd n.len u → D g.B up' (ps i) u → D g.B up' (t.ps i) u → D g.B up' (Ty.bnd n g (ps i) (t.ps i) up') u := fun i hi up' => ih i (t.ps i) up' ⟨_, cs i hi⟩ ⟨_, ct i (by omega)⟩ (e3 i hi)
    have p3 : ∀ i, (Ty.mk k l h e ao b o len cap ps).k = 3 → (Ty.bnd n g (Ty.mk k l h e ao b o len cap ps) t up).ps i = Ty.bnd n g (ps i) (t.ps i) up := fun i h3 => by
      rw [v.2.2.2.2.2 i, decide_eq_false (by omega)]; simp; rfl
    have p40 : (Ty.mk k l h e ao b o len cap ps).k = 4 → (Ty.bnd n g (Ty.mk k l h e ao b o len cap ps) t up).ps 0 = Ty.bnd n g (ps 0) (t.ps 0) (!up) := fun h4 => by
      rw [v.2.2.2.2.2 0, decide_eq_true h4]; simp; rfl
    have p41 : (Ty.mk k l h e ao b o len cap ps).k = 4 → (Ty.bnd n g (Ty.mk k l h e ao b o len cap ps) t up).ps 1 = Ty.bnd n g (ps 1) (t.ps 1) up := fun h4 => by
      rw [v.2.2.2.2.2 1]; simp; rfl
    have two : (Ty.mk k l h e ao b o len cap ps).k = 3 ∨ (Ty.mk k l h e ao b o len cap ps).k = 4 → ∀ i, i < 2 → i < (Ty.mk k l h e ao b o len cap ps).len := fun h34 i hi => by rw [hs.two h34]; exact hi
    have heap : (Ty.mk k l h e ao b o len cap ps).k = 4 → ∃ xh yh : Nat, (Ty.mk k l h e ao b o len cap ps).h = xh ∧ xh < n.len ∧ t.h = yh ∧ yh < n.len ∧ (Ty.bnd n g (Ty.mk k l h e ao b o len cap ps) t up).h = (bl g xh yh (!up) : Int) := fun h4 => by
      obtain ⟨xh, hxh, hxh1⟩ := hs.heap h4
      obtain ⟨yh, hyh, hyh1⟩ := ht.heap (e1 ▸ h4)
      exact ⟨xh, yh, hxh, hxh1, hyh, hyh1, by rw [v.2.2.1, if_pos h4, hxh, hyh]; exact bndL_nat hF hxh1 hyh1 (!up)⟩
    have same5 : (Ty.mk k l h e ao b o len cap ps).k = 5 → ((Ty.bnd n g (Ty.mk k l h e ao b o len cap ps) t up).ps 0).same (ps 0) = true := fun h5 => by
      have h1 := hs.one h5
      rw [v.2.2.2.2.2 0]
      exact bnd_same hF (ps 0) (t.ps 0) _ (hs.sub (i := 0) (by omega)) (ht.sub (by omega)) (e2 h5)
    refine ⟨?_, ?_, fun u hu d1 d2 => ?_⟩
    · rw [D_iff hs hB up]
      refine ⟨v.1.symm, by rw [hl, hx, Int.toNat_natCast, Int.toNat_natCast]; exact L.2.1, fun h3 => ?_, fun h4 => ?_, fun h5 => same_symm _ _ (same5 h5)⟩
      · rw [p3 0 h3, p3 1 h3]
        exact ⟨(sub 0 (two (Or.inl h3) 0 (by omega)) up).1, (sub 1 (two (Or.inl h3) 1 (by omega)) up).1⟩
      · rw [p40 h4, p41 h4]
        obtain ⟨xh, yh, a1, a2, a3, a4, a5⟩ := heap h4
        refine ⟨⟨(sub 0 (two (Or.inr h4) 0 (by omega)) (!up)).1, (sub 1 (two (Or.inr h4) 1 (by omega)) up).1⟩, ?_, ?_⟩
        · rw [a5, a1, Int.toNat_natCast, Int.toNat_natCast]; exact (bl_is hF a2 a4 (!up)).2.1
        · rw [v.2.2.2.1, if_pos h4]; exact (bndE_law hF (hs.exc h4) (ht.exc (e1 ▸ h4)) up).2.1
    · rw [D_iff ht hB up]
      refine ⟨e1.symm.trans v.1.symm, by rw [hl, hy, Int.toNat_natCast, Int.toNat_natCast]; exact L.2.2.1, fun h3' => ?_, fun h4' => ?_, fun h5' => ?_⟩
      · have h3 := e1.trans h3'
        rw [p3 0 h3, p3 1 h3]
        exact ⟨(sub 0 (two (Or.inl h3) 0 (by omega)) up).2.1, (sub 1 (two (Or.inl h3) 1 (by omega)) up).2.1⟩
      · have h4 := e1.trans h4'
        rw [p40 h4, p41 h4]
        obtain ⟨xh, yh, a1, a2, a3, a4, a5⟩ := heap h4
        refine ⟨⟨(sub 0 (two (Or.inr h4) 0 (by omega)) (!up)).2.1, (sub 1 (two (Or.inr h4) 1 (by omega)) up).2.1⟩, ?_, ?_⟩
        · rw [a5, a3, Int.toNat_natCast, Int.toNat_natCast]; exact (bl_is hF a2 a4 (!up)).2.2.1
        · rw [v.2.2.2.1, if_pos h4]; exact (bndE_law hF (hs.exc h4) (ht.exc h4') up).2.2.1
      · have h5 := e1.trans h5'
        exact same_trans _ _ _ (same_symm _ _ (e2 h5)) (same_symm _ _ (same5 h5))
    · rw [D_iff hs hu up] at d1
      rw [D_iff ht hu up] at d2
      rw [D_iff hB hu up]
      obtain ⟨z, hz, hz1⟩ := hu.lab
      refine ⟨v.1.trans d1.k, ?_, fun h3' => ?_, fun h4' => ?_, fun h5' => ?_⟩
      · have q1 := d1.l
        have q2 := d2.l
        rw [hx, hz, Int.toNat_natCast, Int.toNat_natCast] at q1
        rw [hy, hz, Int.toNat_natCast, Int.toNat_natCast] at q2
        rw [hl, hz, Int.toNat_natCast, Int.toNat_natCast]
        exact L.2.2.2 z hz1 q1 q2
      · have h3 := v.1.symm.trans h3'
        have u2 := hu.two (Or.inl (d1.k.symm.trans h3))
        have a := d1.pair h3
        have c := d2.pair (e1.symm.trans h3)
        rw [p3 0 h3, p3 1 h3]
        exact ⟨(sub 0 (two (Or.inl h3) 0 (by omega)) up).2.2 _ (hu.sub (by omega)) a.1 c.1, (sub 1 (two (Or.inl h3) 1 (by omega)) up).2.2 _ (hu.sub (by omega)) a.2 c.2⟩
      · have h4 := v.1.symm.trans h4'
        have hu4 := d1.k.symm.trans h4
        have u2 := hu.two (Or.inr hu4)
        have a := d1.func h4
        have c := d2.func (e1.symm.trans h4)
        rw [p40 h4, p41 h4]
        obtain ⟨xh, yh, a1, a2, a3, a4, a5⟩ := heap h4
        obtain ⟨zh, hzh, hzh1⟩ := hu.heap hu4
        refine ⟨⟨(sub 0 (two (Or.inr h4) 0 (by omega)) (!up)).2.2 _ (hu.sub (by omega)) a.1.1 c.1.1, (sub 1 (two (Or.inr h4) 1 (by omega)) up).2.2 _ (hu.sub (by omega)) a.1.2 c.1.2⟩, ?_, ?_⟩
        · have q1 := a.2.1
          have q2 := c.2.1
          rw [a1, hzh, Int.toNat_natCast, Int.toNat_natCast] at q1
          rw [a3, hzh, Int.toNat_natCast, Int.toNat_natCast] at q2
          rw [a5, hzh, Int.toNat_natCast, Int.toNat_natCast]
          exact (bl_is hF a2 a4 (!up)).2.2.2 zh hzh1 q1 q2
        · rw [v.2.2.2.1, if_pos h4]
          exact (bndE_law hF (hs.exc h4) (ht.exc (e1.symm.trans h4)) up).2.2.2 _ (hu.exc hu4) a.2.2 c.2.2
      · have h5 := v.1.symm.trans h5'
        exact same_trans _ _ _ (same5 h5) (d1.ref h5)
end Go.Proofs.YtbdhbgilaeldgaaGreat

/- Layer 2: there is a bound, if anything is above (below) both. No program is walked here. -/
namespace Go.Proofs.YtbdhbgilaeldgaaGreat

theorem bok_intro {N : Nat} {s t : Ty} (hs : Fd N s) (h1 : s.k = t.k) (h2 : s.k = 5 → (s.ps 0).same (t.ps 0) = true) (h3 : ∀ i, i < s.len → (s.ps i).bok (t.ps i) = true) : s.bok t = true := by
  rcases s with _ | ⟨k, l, hh, e, ao, b, o, len, cap, ps⟩
  · exact absurd rfl hs.ne
  show (((k == t.k) && (!(decide (k = 5)) || (ps 0).same (t.ps 0))) && decide (∀ i, i < len → Ty.bok (ps i) (t.ps i) = true)) = true
  have h1' : k = t.k := h1
  rw [Bool.and_eq_true, Bool.and_eq_true, beq_iff_eq, decide_eq_true_eq]
  refine ⟨⟨h1', ?_⟩, h3⟩
  by_cases h5 : k = 5
  · have : (ps 0).same (t.ps 0) = true := h2 h5
    rw [this, Bool.or_true]
  · rw [decide_eq_false h5]; rfl
theorem same_bok {N : Nat} : ∀ s t : Ty, Fd N s → Fd N t → s.same t = true → s.bok t = true := by
  intro s
  induction s with
  | dm => intro t hs; exact absurd rfl hs.ne
  | mk k l h e ao b o len cap ps ih =>
    intro t hs ht hq
    rw [same_iff] at hq
    obtain ⟨⟨q1, _, _, _, q5⟩, q6⟩ := hq
    refine bok_intro hs q1 (fun h5 => q6 0 (by rw [hs.one h5]; omega)) (fun i hi => ih i (t.ps i) (hs.sub (i := i) hi) (ht.sub (by omega)) (q6 i hi))
theorem bok_of {N : Nat} {le : Nat → Nat → Bool} : ∀ (s t u : Ty) (up : Bool), Fd N s → Fd N t → Fd N u → D le up s u → D le up t u → s.bok t = true := by
  intro s
  induction s with
  | dm => intro t u up hs; exact absurd rfl hs.ne
  | mk k l h e ao b o len cap ps ih =>
    intro t u up hs ht hu d1 d2
    rw [D_iff hs hu up] at d1
    rw [D_iff ht hu up] at d2
    have e1 := d1.k.trans d2.k.symm
    have same5 : (Ty.mk k l h e ao b o len cap ps).k = 5 → (ps 0).same (t.ps 0) = true := fun h5 => same_trans _ _ _ (d1.ref h5) (same_symm _ _ (d2.ref (e1.symm.trans h5)))
    refine bok_intro hs e1 same5 (fun i hi => ?_)
    have elt : (Ty.mk k l h e ao b o len cap ps).len = t.len := by
      have a1 := hs.gd.ar
      have a2 := ht.gd.ar
      rw [← e1] at a2
      omega
    have elu : (Ty.mk k l h e ao b o len cap ps).len = u.len := by
      have a1 := hs.gd.ar
      have a2 := hu.gd.ar
      rw [← d1.k] at a2
      omega
    have go := fun up' (x1 : D le up' (ps i) (u.ps i)) (x2 : D le up' (t.ps i) (u.ps i)) => ih i (t.ps i) (u.ps i) up' (hs.sub (i := i) hi) (ht.sub (by omega)) (hu.sub (by omega)) x1 x2
    by_cases h3 : (Ty.mk k l h e ao b o len cap ps).k = 3
    · have p1 := d1.pair h3
      have p2 := d2.pair (e1.symm.trans h3)
      have h2 := hs.two (Or.inl h3)
      by_cases e0 : i = 0
      · subst e0; exact go up p1.1 p2.1
      · have e1' : i = 1 := by omega
        subst e1'; exact go up p1.2 p2.2
    · by_cases h4 : (Ty.mk k l h e ao b o len cap ps).k = 4
      · have p1 := d1.func h4
        have p2 := d2.func (e1.symm.trans h4)
        have h2 := hs.two (Or.inr h4)
        by_cases e0 : i = 0
        · subst e0; exact go (!up) p1.1.1 p2.1.1
        · have e1' : i = 1 := by omega
          subst e1'; exact go up p1.1.2 p2.1.2
      · by_cases h5 : (Ty.mk k l h e ao b o len cap ps).k = 5
        · have h1 := hs.one h5
          have e0 : i = 0 := by omega
          subst e0
          exact same_bok (ps 0) (t.ps 0) (hs.sub (i := 0) hi) (ht.sub (by omega)) (same5 h5)
        · exfalso
          have a1 := hs.gd.ar
          unfold arityI at a1
          rw [if_neg h5, if_neg h3, if_neg h4] at a1
          split at a1
          · omega
          · split at a1 <;> omega

/-- No part of it is none. -/
def Ty.Nd : Ty → Prop
  | .dm => False
  | .mk _ _ _ _ _ _ _ len _ ps => ∀ i, i < len → Ty.Nd (ps i)
theorem Ty.At.nd {w : World} : ∀ {t : Ty}, t.At w → t.Nd
  | .dm, h => h
  | .mk _ _ _ _ _ _ _ _ _ _, h => fun i hi => Ty.At.nd (h.2.2 i hi).2
theorem bnd_nd {n : Strs} {g : Grid} : ∀ (s t : Ty) (up : Bool), s.Nd → (s.bnd n g t up).Nd
  | .dm, _, _, h => h
  | .mk _ _ _ _ _ _ _ _ _ ps, t, _, h => fun i hi => bnd_nd (ps i) (t.ps i) _ (h i hi)
/-- What is alike is formed alike. -/
theorem same_fm_nd {N : Nat} : ∀ s t : Ty, s.Nd → t.Nd → s.same t = true → (∀ d, s.fm N d = t.fm N d) ∧ s.nodes = t.nodes := by
  intro s
  induction s with
  | dm => intro t h; exact h.elim
  | mk k l hh e ao b o len cap ps ih =>
    intro t hs ht h
    rcases t with _ | ⟨tk, tl, th, te, tao, tb, to', tlen, tcap, tps⟩
    · exact ht.elim
    rw [same_iff] at h
    obtain ⟨⟨h1, h2, h3, h4, h5⟩, h6⟩ := h
    have h1' : k = tk := h1
    have h2' : l = tl := h2
    have h3' : hh = th := h3
    have h4' : e = te := h4
    have h5' : len = tlen := h5
    subst h1' h2' h3' h4' h5'
    have sub : ∀ i, i < len → (∀ d, (ps i).fm N d = (tps i).fm N d) ∧ (ps i).nodes = (tps i).nodes := fun i hi => ih i (tps i) (hs i hi) (ht i hi) (h6 i hi)
    refine ⟨fun d => ?_, ?_⟩
    · rw [fm_eq, fm_eq]
      congr 1
      rw [decide_eq_decide]
      exact ⟨fun hh i hi => by rw [← (sub i hi).1]; exact hh i hi, fun hh i hi => by rw [(sub i hi).1]; exact hh i hi⟩
    · show 1 + sumTo (fun i => (ps i).nodes) len = 1 + sumTo (fun i => (tps i).nodes) len
      rw [sum_congr len (fun i hi => (sub i hi).2)]

/-- What TypesLeast asks of a join (up) or meet, told as data. -/
structure BFacts (n : Strs) (g : Grid) (s t : Ty) (up : Bool) (ok : Bool) (j : Ty) : Prop where
  yes : ok = true → (if up then belB n g s j else belB n g j s) = true ∧ (if up then belB n g t j else belB n g j t) = true
  least : ∀ u, (if up then belB n g s u else belB n g u s) = true → (if up then belB n g t u else belB n g u t) = true → ok = true ∧ (if up then belB n g j u else belB n g u j) = true
theorem bnd_facts {n : Strs} {g : Grid} {s t j : Ty} {w w' : World} (up : Bool) (sA : s.At w') (jA : j.At w) (hj : ((okB n g s && okB n g t) && s.bok t) = true → j.same (s.bnd n g t up) = true) : BFacts n g s t up ((okB n g s && okB n g t) && s.bok t) j := by
  have main : ∀ (hF : formedB n g = true) (hs : s.ok n.len = true) (ht : t.ok n.len = true) (hk : s.bok t = true), j.ok n.len = true ∧ D g.B up s j ∧ D g.B up t j ∧ ∀ u, Fd n.len u → D g.B up s u → D g.B up t u → D g.B up j u := fun hF hs ht hk => by
    have P := po_of hF
    have bo := bnd_ok hF up hs ht hk
    have hjs := hj (by unfold okB; rw [hF, hs, ht, hk]; rfl)
    have sf := same_fm_nd (N := n.len) j (s.bnd n g t up) jA.nd (bnd_nd s t up sA.nd) hjs
    have jo : j.ok n.len = true := by unfold Ty.ok at bo ⊢; rw [sf.1, sf.2]; exact bo
    have law := bnd_law hF s t up ⟨1, (ok_parts hs).1⟩ ⟨1, (ok_parts ht).1⟩ hk
    have sm := same_bel P j (s.bnd n g t up) (fd_ok jo) (fd_ok bo) hjs
    refine ⟨jo, ?_, ?_, fun u hu d1 d2 => ?_⟩
    · cases up
      · exact (bel_trans P j (s.bnd n g t false) s (fd_ok jo) (fd_ok bo) (fd_ok hs)).1 sm.1 law.1
      · exact (bel_trans P s (s.bnd n g t true) j (fd_ok hs) (fd_ok bo) (fd_ok jo)).1 law.1 sm.2
    · cases up
      · exact (bel_trans P j (s.bnd n g t false) t (fd_ok jo) (fd_ok bo) (fd_ok ht)).1 sm.1 law.2.1
      · exact (bel_trans P t (s.bnd n g t true) j (fd_ok ht) (fd_ok bo) (fd_ok jo)).1 law.2.1 sm.2
    · have l := law.2.2 u hu d1 d2
      cases up
      · exact (bel_trans P u (s.bnd n g t false) j hu (fd_ok bo) (fd_ok jo)).1 l sm.2
      · exact (bel_trans P j (s.bnd n g t true) u (fd_ok jo) (fd_ok bo) hu).1 sm.1 l
  refine ⟨fun h => ?_, fun u h1 h2 => ?_⟩
  · rw [Bool.and_eq_true, Bool.and_eq_true] at h
    have o1 := h.1.1
    have o2 := h.1.2
    unfold okB at o1 o2
    rw [Bool.and_eq_true] at o1 o2
    obtain ⟨jo, d1, d2, _⟩ := main o1.1 o1.2 o2.2 h.2
    cases up
    · exact ⟨belB_iff.2 ⟨o1.1, jo, o1.2, d1⟩, belB_iff.2 ⟨o1.1, jo, o2.2, d2⟩⟩
    · exact ⟨belB_iff.2 ⟨o1.1, o1.2, jo, d1⟩, belB_iff.2 ⟨o1.1, o2.2, jo, d2⟩⟩
  · have key : formedB n g = true ∧ s.ok n.len = true ∧ t.ok n.len = true ∧ u.ok n.len = true ∧ D g.B up s u ∧ D g.B up t u := by
      cases up
      · have a := belB_iff.1 h1
        have c := belB_iff.1 h2
        exact ⟨a.1, a.2.2.1, c.2.2.1, a.2.1, a.2.2.2, c.2.2.2⟩
      · have a := belB_iff.1 h1
        have c := belB_iff.1 h2
        exact ⟨a.1, a.2.1, c.2.1, a.2.2.1, a.2.2.2, c.2.2.2⟩
    obtain ⟨hF, hs, ht, hu, d1, d2⟩ := key
    have hk := bok_of s t u up (fd_ok hs) (fd_ok ht) (fd_ok hu) d1 d2
    obtain ⟨jo, _, _, l⟩ := main hF hs ht hk
    have dj := l u (fd_ok hu) d1 d2
    refine ⟨by unfold okB; rw [hF, hs, ht, hk]; rfl, ?_⟩
    cases up
    · exact belB_iff.2 ⟨hF, hu, jo, dj⟩
    · exact belB_iff.2 ⟨hF, jo, hu, dj⟩
end Go.Proofs.YtbdhbgilaeldgaaGreat
