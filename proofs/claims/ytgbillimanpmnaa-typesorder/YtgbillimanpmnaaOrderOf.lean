/- The walk of layer 1's orderOf. -/
import Derived.Test.YtgbillimanpmnaaReads
namespace Go.Proofs.Ytgbillimanpmnaa
open Go.RowKit

/-- What has been gone through. -/
def seen (k j a b : Nat) : Bool := decide (a < k) || (a == k && decide (b < j))
def upTo (g : Grid) (k j a : Nat) : Nat := mask 8 (fun b => g.le a b && seen k j a b)
def dnTo (g : Grid) (k j b : Nat) : Nat := mask 8 (fun a => g.le a b && seen k j a b)

theorem upTo_lt (g : Grid) (k j a : Nat) : upTo g k j a < 256 := mask8_lt _
theorem dnTo_lt (g : Grid) (k j b : Nat) : dnTo g k j b < 256 := mask8_lt _

theorem upTo_no (g : Grid) (k j a : Nat) (h : g.le k j = false) : upTo g k (j + 1) a = upTo g k j a := by
  refine mask_congr 8 _ _ fun b _ => ?_
  by_cases ha : a = k
  · subst ha
    by_cases hb : b = j
    · subst hb; simp [h]
    · simp [seen, show (b < j + 1) = (b < j) by simp; omega]
  · simp [seen, beq_eq_false_iff_ne.2 ha]
theorem dnTo_no (g : Grid) (k j b : Nat) (h : g.le k j = false) : dnTo g k (j + 1) b = dnTo g k j b := by
  refine mask_congr 8 _ _ fun a _ => ?_
  by_cases ha : a = k
  · subst ha
    by_cases hb : b = j
    · subst hb; simp [h]
    · simp [seen, show (b < j + 1) = (b < j) by simp; omega]
  · simp [seen, beq_eq_false_iff_ne.2 ha]
theorem upTo_yes (g : Grid) (k j a : Nat) (hj : j < 8) (h : g.le k j = true) : upTo g k (j + 1) a = if a = k then upTo g k j k ||| 2 ^ j else upTo g k j a := by
  by_cases ha : a = k
  · subst ha
    rw [if_pos rfl]
    unfold upTo
    rw [mask_or _ _ hj]
    refine mask_congr 8 _ _ fun b _ => ?_
    by_cases hb : b = j
    · subst hb; simp [h, seen]
    · simp [seen, beq_eq_false_iff_ne.2 hb, show (b < j + 1) = (b < j) by simp; omega]
  · rw [if_neg ha]
    exact mask_congr 8 _ _ fun b _ => by simp [seen, beq_eq_false_iff_ne.2 ha]
theorem dnTo_yes (g : Grid) (k j b : Nat) (hk : k < 8) (h : g.le k j = true) : dnTo g k (j + 1) b = if b = j then dnTo g k j j ||| 2 ^ k else dnTo g k j b := by
  by_cases hb : b = j
  · subst hb
    rw [if_pos rfl]
    unfold dnTo
    rw [mask_or _ _ hk]
    refine mask_congr 8 _ _ fun a _ => ?_
    by_cases ha : a = k
    · subst ha; simp [h, seen]
    · simp [seen, beq_eq_false_iff_ne.2 ha]
  · rw [if_neg hb]
    exact mask_congr 8 _ _ fun a _ => by simp [seen, show (b < j + 1) = (b < j) by simp; omega]
theorem upTo_row (g : Grid) (k a : Nat) : upTo g k (g.L k) a = upTo g (k + 1) 0 a := by
  refine mask_congr 8 _ _ fun b _ => ?_
  by_cases ha : a = k
  · subst ha
    by_cases hb : b < g.L a
    · simp [seen, hb]
    · simp [Grid.le, hb]
  · simp [seen, beq_eq_false_iff_ne.2 ha, show (a < k + 1) = (a < k) by simp; omega]
theorem dnTo_row (g : Grid) (k b : Nat) : dnTo g k (g.L k) b = dnTo g (k + 1) 0 b := by
  refine mask_congr 8 _ _ fun a _ => ?_
  by_cases ha : a = k
  · subst ha
    by_cases hb : b < g.L a
    · simp [seen, hb]
    · simp [Grid.le, hb]
  · simp [seen, beq_eq_false_iff_ne.2 ha, show (a < k + 1) = (a < k) by simp; omega]

theorem mask_none (n : Nat) : mask n (fun _ => false) = 0 := by
  induction n with
  | zero => rfl
  | succ n ih => simp [mask, ih]
theorem upTo_start (g : Grid) (a : Nat) : upTo g 0 0 a = 0 := by
  unfold upTo; rw [mask_congr 8 _ (fun _ => false) (fun b _ => by simp [seen]), mask_none]
theorem dnTo_start (g : Grid) (b : Nat) : dnTo g 0 0 b = 0 := by
  unfold dnTo; rw [mask_congr 8 _ (fun _ => false) (fun b _ => by simp [seen]), mask_none]

theorem OrdOwn.congr {w : World} {B n : Nat} {U D U' D' : Nat → Nat} (h : OrdOwn w B n U D) (hU : ∀ i, U' i = U i) (hD : ∀ i, D' i = D i) : OrdOwn w B n U' D' :=
  ⟨⟨h.at'.size, fun i hi => by rw [hU]; exact h.at'.up i hi, fun i hi => by rw [hD]; exact h.at'.dn i hi⟩, h.free⟩

theorem OrdOwn.set {w : World} {B n : Nat} {U D U' D' : Nat → Nat} (h : OrdOwn w B n U D) {k j x y : Nat} {p q : Int} (hk : k < 8) (hj : j < 8) (hp : p = x) (hq : q = y)
    (hU : ∀ i, U' i = if i = k then x else U i) (hD : ∀ i, D' i = if i = j then y else D i) :
    OrdOwn ((w.setCell ⟨B, 1 + k, none⟩ (.int .u64 p)).setCell ⟨B, 9 + j, none⟩ (.int .u64 q)).drew.drew B n U' D' := by
  subst hp hq
  refine ⟨⟨?_, fun i hi => ?_, fun i hi => ?_⟩, fun i hi => ?_⟩
  · show ((w.setCell ⟨B, 1 + k, none⟩ _).setCell ⟨B, 9 + j, none⟩ _).cell? _ = _
    rw [World.cell?_setCell_other _ _ _ _ (by simp <;> omega), World.cell?_setCell_other _ _ _ _ (by simp <;> omega)]
    exact h.at'.size
  · show ((w.setCell ⟨B, 1 + k, none⟩ _).setCell ⟨B, 9 + j, none⟩ _).cell? _ = _
    rw [World.cell?_setCell_other _ _ _ _ (by simp <;> omega), hU]
    by_cases e : i = k
    · subst e; rw [if_pos rfl]; exact World.cell?_setCell_same _ _ _ (h.at'.up i hi)
    · rw [if_neg e, World.cell?_setCell_other _ _ _ _ (by simp <;> omega)]; exact h.at'.up i hi
  · show ((w.setCell ⟨B, 1 + k, none⟩ _).setCell ⟨B, 9 + j, none⟩ _).cell? _ = _
    rw [hD]
    have hh : (w.setCell ⟨B, 1 + k, none⟩ (.int .u64 x)).cell? ⟨B, 9 + i, none⟩ = some (.int .u64 (D i)) := by
      rw [World.cell?_setCell_other _ _ _ _ (by simp <;> omega)]; exact h.at'.dn i hi
    by_cases e : i = j
    · subst e; rw [if_pos rfl]; exact World.cell?_setCell_same _ _ _ hh
    · rw [if_neg e, World.cell?_setCell_other _ _ _ _ (by simp <;> omega)]; exact hh
  · show ((w.setCell ⟨B, 1 + k, none⟩ _).setCell ⟨B, 9 + j, none⟩ _).frozen? _ = _
    rw [World.frozen?_setCell, World.frozen?_setCell]; exact h.free i hi

theorem OrdOwn.start (w : World) (n : Nat) (t : TypeId) : OrdOwn (w.alloc (.cells #[.int .i64 n, .int .u64 0, .int .u64 0, .int .u64 0, .int .u64 0, .int .u64 0, .int .u64 0, .int .u64 0, .int .u64 0, .int .u64 0, .int .u64 0, .int .u64 0, .int .u64 0, .int .u64 0, .int .u64 0, .int .u64 0, .int .u64 0] t)) w.heap.size n (fun _ => 0) (fun _ => 0) := by
  refine ⟨⟨by simp, fun i hi => ?_, fun i hi => ?_⟩, fun i hi => by simp⟩
  · match i, hi with
    | 0, _ | 1, _ | 2, _ | 3, _ | 4, _ | 5, _ | 6, _ | 7, _ => simp
  · match i, hi with
    | 0, _ | 1, _ | 2, _ | 3, _ | 4, _ | 5, _ | 6, _ | 7, _ => simp

theorem or_pow (x j : Nat) (hx : x < 256) (hj : j < 8) : bits .or .u64 (x : Int) (2 ^ j) = ((x ||| 2 ^ j : Nat) : Int) := by
  have hp : (2 : Nat) ^ j ≤ 2 ^ 7 := Nat.pow_le_pow_right (by omega) (by omega)
  have hc : ((2 : Int) ^ j) = ((2 ^ j : Nat) : Int) := by simp
  rw [hc, or_u8 _ _ hx (by omega)]

theorem le_at (g : Grid) {k j : Nat} (hk : k < g.len) (hj : j < g.L k) {r : Bool} (h : g.B k j = r) : g.le k j = r := by simp [Grid.le, hk, hj, h]

set_option maxHeartbeats 1000000 in
theorem orderOf_any (g : Grid) (w : World) (hg : g.At w) (h8 : g.len ≤ 8) (hL : ∀ r, r < g.len → g.L r ≤ 8) :
    Calls Try.prog 62 #[.slice g.ao g.len g.cap] w fun e w' => e = .returned (.pointer (some ⟨w.heap.size, 0, none⟩)) ∧ OrdAt w' w.heap.size g.len (upTo g g.len 0) (dnTo g g.len 0) ∧ Below w.heap.size w w' := by
  go_enter Try.func62, Try.ntmps62
  go_wp2
  go_loopw [14] (fun i wr => ∃ k : Nat, k ≤ g.len ∧ i = .int .i64 k ∧ OrdOwn wr w.heap.size g.len (upTo g k 0) (dnTo g k 0) ∧ Below w.heap.size w wr) (fun i _ => g.len - (intOf i).toNat)
  case atStart =>
    exact ⟨0, Nat.zero_le _, rfl, (OrdOwn.start w g.len _).congr (upTo_start g) (dnTo_start g), (Below.refl _ _).alloc (Nat.le_refl _) _⟩
  case round =>
    obtain ⟨k, hk, rfl, hown, hbl⟩ := hrel
    have HO : Hid (OrdOwn wr w.heap.size g.len (upTo g k 0) (dnTo g k 0)) := hown
    clear hown
    have hg1 := (hg.kept hbl)
    by_cases hlt : k < g.len
    · have r1 := hg1.row k hlt
      have r2 := hg1.nil (by omega)
      have L8 := hL k hlt
      go_wp2
      go_loopw [21] (fun i wr => ∃ j : Nat, j ≤ g.L k ∧ i = .int .i64 j ∧ OrdOwn wr w.heap.size g.len (upTo g k j) (dnTo g k j) ∧ Below w.heap.size w wr) (fun i _ => g.L k - (intOf i).toNat)
      case atStart => exact ⟨0, Nat.zero_le _, rfl, HO.out, hbl⟩
      case round =>
        obtain ⟨j, hj, rfl, hown2, hbl2⟩ := hrel
        clear HO r1 hg1
        have hg2 := (hg.kept hbl2)
        by_cases hjl : j < g.L k
        · have a1 := hg2.adr k hlt (by omega)
          have a2 := hg2.cell k hlt j hjl
          have u1 := hown2.at'.up k (by omega)
          have d1 := hown2.at'.dn j (by omega)
          have f1 := hown2.free (1 + k) (by omega)
          have f2 := hown2.free (9 + j) (by omega)
          have HO2 : Hid (OrdOwn wr w.heap.size g.len (upTo g k j) (dnTo g k j)) := hown2
          have k8 : (k : Int) < 8 := by omega
          have j8 : (j : Int) < 8 := by omega
          have s1 := shl8 k (by omega)
          have s2 := shl8 j (by omega)
          clear hown2 hg2 r2
          cases hbit : g.B k j
          · go_wp2
            go_roundw
            case rel => exact ⟨j + 1, by omega, by go_num, HO2.out.congr (fun a => upTo_no g k j a (le_at g hlt hjl hbit)) (fun a => dnTo_no g k j a (le_at g hlt hjl hbit)), hbl2⟩
            case measure => simp [intOf]; omega
          · go_wp2
            go_region
            go_wp2
            go_region
            go_wp2
            go_roundw
            case rel =>
              exact ⟨j + 1, by omega, by go_num, HO2.out.set (by omega) (by omega) (or_pow _ _ (upTo_lt _ _ _ _) (by omega)) (or_pow _ _ (dnTo_lt _ _ _ _) (by omega)) (fun a => upTo_yes g k j a (by omega) (le_at g hlt hjl hbit)) (fun a => dnTo_yes g k j a (by omega) (le_at g hlt hjl hbit)),
                (((hbl2.setCell (Nat.le_refl _) _).setCell (Nat.le_refl _) _).drew).drew⟩
            case measure => simp [intOf]; omega
        · have e : j = g.L k := by omega
          subst e
          have HO2 : Hid (OrdOwn wr w.heap.size g.len (upTo g k (g.L k)) (dnTo g k (g.L k))) := hown2
          clear hown2
          go_wp2
          go_roundw
          case rel => exact ⟨k + 1, by omega, by go_num, HO2.out.congr (fun a => (upTo_row g k a).symm) (fun a => (dnTo_row g k a).symm), hbl2⟩
          case measure => simp [intOf]; omega
    · have e : k = g.len := by omega
      have HO3 : Hid (OrdAt wr w.heap.size g.len (upTo g g.len 0) (dnTo g g.len 0)) := by rw [← e]; exact e ▸ HO.out.at'
      clear HO
      go_wp2
      go_ret
      exact ⟨rfl, HO3.out, hbl⟩
end Go.Proofs.Ytgbillimanpmnaa
