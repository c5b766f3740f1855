/- Layer 4: the walks of longer, put and number. -/
import Derived.Test.YtboehlfdfpiodaaBtBase
namespace Go.Proofs.Ytboehlfdfpiodaa
open Go.RowKit

/-- The row behind 'longer'. -/
def longF (B : Bys) (i : Nat) : Value := .int .u8 (if i < B.len then (B.f i : Int) else 0)

/-- What B's cells hold. -/
def Bys.cells (B : Bys) : List Value := (List.range B.len).map fun i => .int .u8 (B.f i)
theorem Bys.cells_len (B : Bys) : B.cells.length = B.len := by simp [Bys.cells]
theorem Bys.cells_at (B : Bys) (i : Nat) (h : i < B.len) : B.cells[i]? = some (.int .u8 (B.f i)) := by simp [Bys.cells, h]
theorem Bys.cells_one (B : Bys) : ∀ v ∈ B.cells, v.oneCell' = true := by
  intro v hv
  simp only [Bys.cells, List.mem_map] at hv
  obtain ⟨i, _, rfl⟩ := hv
  rfl
theorem Bys.news {B : Bys} {w : World} (h : B.At w) (j : Nat) (v : Value) (hv : B.cells[j]? = some v) : w.cell? ((⟨B.b, B.o, none⟩ : Addr).add j) = some v := by
  have hj : j < B.len := by have := (List.getElem?_eq_some_iff.1 hv).1; rwa [B.cells_len] at this
  rw [B.cells_at j hj] at hv
  rw [addr_add, h.cell j hj, ← hv]

theorem long_row {w : World} {g n : Nat} {B : Bys} {T : TypeId} (hn : B.len ≤ n) (h : w.heap[g]? = some (.cells (splice (List.replicate n (Value.int .u8 0)) 0 B.cells).toArray T (0, 0))) : w.rowIs g T n (longF B) := by
  refine ⟨_, h, ?_, fun i hi => ?_⟩
  · rw [List.size_toArray, length_splice _ _ _ (by rw [B.cells_len, List.length_replicate]; omega), List.length_replicate]
  · rw [List.getElem?_toArray]
    unfold splice longF
    rw [List.take_zero, List.nil_append, B.cells_len, Nat.zero_add]
    by_cases hb : i < B.len
    · rw [List.getElem?_append_left (by rw [B.cells_len]; exact hb), B.cells_at i hb, if_pos hb]
    · rw [List.getElem?_append_right (by rw [B.cells_len]; omega), if_neg hb, List.getElem?_drop, B.cells_len, List.getElem?_replicate, if_pos (by omega)]

theorem made_row {w w1 : World} {n : Nat} (h : w1.ownsRow w.heap.size 5 1 (.slice (some ⟨w.heap.size, 0, none⟩) n n) n (madeCells (Value.int .u8 0).cells (n * 1)).toList) : w1.heap[w.heap.size]? = some (.cells (List.replicate n (Value.int .u8 0)).toArray 5 (0, 0)) := by
  obtain ⟨_, h0 | ⟨g, cap, cur, hv, _, hg, _, _, hs, hl⟩⟩ := h
  · cases h0.1
  · injection hv with h1 _ h3
    injection h1 with h1
    injection h1 with h1
    subst h1 h3
    rw [hg]
    congr 2
    have e : (madeCells (Value.int .u8 0).cells (n * 1)).toList = List.replicate n (Value.int .u8 0) := by
      rw [Nat.mul_one]; exact toList_madeCells_one _ _
    rw [e, List.take_of_length_le (by rw [Array.length_toList, hs]; exact Nat.le_refl _)] at hl
    rw [← hl]

set_option maxHeartbeats 1000000 in
theorem longer_any (B : Bys) (more : Nat) (w : World) (hB : B.At w) (hm : B.len + more ≤ 1000000) :
    Calls Try.prog 31 #[.slice B.ao B.len B.cap, .int .i64 more] w fun e w' => e = .returned (.slice (some ⟨w.heap.size, 0, none⟩) (B.len + more : Nat) (B.len + more : Nat)) ∧ w'.rowIs w.heap.size 5 (B.len + more) (longF B) ∧ Below w.heap.size w w' := by
  obtain ⟨i0, hi, hz0, hz1, hz2⟩ := info_parts Try.infoByte
  have hby : i0.bytes * (B.len + more) ≤ 281474976710656 := by rw [hz2]; omega
  have hmx : B.len + more ≤ maxLen := by unfold maxLen; omega
  have HB : Hid (B.At w) := hB
  have hmin : Hid (B.cells.length = Nat.min B.len (B.len + more)) := by show _ = _; rw [B.cells_len]; exact (Nat.min_eq_left (by omega)).symm
  have hfit : Hid (0 + B.cells.length ≤ (List.replicate (B.len + more) (Value.int .u8 0)).length) := by show _ ≤ _; rw [B.cells_len, List.length_replicate]; omega
  clear hB
  have KEY : Hid (∀ w1 : World, Below w.heap.size w w1 → 0 < B.cells.length → (some ⟨w.heap.size, 0, none⟩ : Option Addr) = some ⟨w.heap.size, 0, none⟩ ∧ ∃ ad, B.ao = some ad ∧ ∀ j v, B.cells[j]? = some v → w1.cell? (ad.add j) = some v) := fun w1 hb h0 => ⟨rfl, _, HB.out.nil (by rw [B.cells_len] at h0; exact h0), Bys.news (HB.out.kept hb)⟩
  go_enter Try.func31, Try.ntmps31
  go_wp2_with (first
    | (at_make; refine wpList_make_full _ rfl (.tmp 9) (.tmp 9) 22 rfl w.heap.size 5 i0 (.int .u8 0) 1 Try.underlying22 hi hz0 hz1 .i64 .i64 _ _ (B.len + more) rfl rfl (by omega) (by omega) hby hmx (Nat.le_refl _) ?_; intro w1 hown hgr; have HR : Hid (w1.heap[w.heap.size]? = some (.cells (List.replicate (B.len + more) (Value.int .u8 0)).toArray 5 (0, 0))) := made_row hown; have hbl : Below w.heap.size w w1 := (Below.refl _ _).grown hgr (Nat.le_refl _) (fun k hk => by cases hk); clear hown hgr)
    | (refine wpList_copy_splice rfl (.tmp 11) (.tmp 12) 22 22 rfl 5 Try.underlying22 (by rw [hi]; simp [hz1]) _ _ _ _ _ _ rfl rfl w.heap.size 0 _ 5 HR.out B.cells hmin.out (KEY.out _ hbl) hfit.out B.cells_one w.heap.size w hbl (Nat.le_refl _) ?_; intro w2 HG2 hB2))
  have HG3 : Hid (w2.rowIs w.heap.size 5 (B.len + more) (longF B)) := long_row (Nat.le_add_right _ _) HG2.out
  clear HG2
  go_wp2
  go_ret
  exact ⟨rfl, HG3.out, hB2⟩

theorem cast_div (n m : Nat) : ((n / 256 ^ m : Nat) : Int) = (n : Int) / 256 ^ m := by rw [Int.natCast_ediv, Int.natCast_pow]; rfl

/-- The row with the k bytes of n laid over it from o on, those from place t on. -/
def putF (F : Nat → Value) (o k n t j : Nat) : Value := if o + t ≤ j ∧ j < o + k then .int .u8 (beF k n (j - o)) else F j

set_option maxHeartbeats 1000000 in
theorem put_any (F : Nat → Value) (g N o k c n : Nat) (w : World) (hg : w.rowIs g 5 N F) (hN : o + k ≤ N) (hk : k ≤ 8) :
    Calls Try.prog 32 #[.slice (some ⟨g, o, none⟩) k c, .int .u64 n] w fun e w' => e = .returned (.tuple #[]) ∧ w'.rowIs g 5 N (putF F o k n 0) ∧ w.grownBy w' (some g) := by
  go_enter Try.func32, Try.ntmps32
  go_wp2
  go_loopw [4, 1] (fun i m wr => ∃ t : Nat, t ≤ k ∧ i = .int .i64 ((t : Int) - 1) ∧ m = .int .u64 ((n / 256 ^ (k - t) : Nat) : Int) ∧ wr.rowIs g 5 N (putF F o k n t) ∧ w.grownBy wr (some g)) (fun i _ _ => (intOf i + 1).toNat)
  case atStart => exact ⟨k, Nat.le_refl _, rfl, by simp, hg.congr (fun j _ => by unfold putF; rw [if_neg (by omega)]), gb_refl _ _⟩
  case round =>
    obtain ⟨t, ht, rfl, rfl, hr, hgr⟩ := hrel
    have HR : Hid (wr.rowIs g 5 N (putF F o k n t)) := hr
    clear hg
    by_cases h0 : t = 0
    · subst h0
      clear hr
      go_wp2
      go_end0
      exact ⟨rfl, HR.out, hgr⟩
    · have c1 := hr.cell (i := o + (t - 1)) (by omega)
      have f1 := hr.frozen (o + (t - 1))
      clear hr
      have E1 : Hid ((n : Int) / 256 ^ (k - t) / 256 = ((n / 256 ^ (k - (t - 1)) : Nat) : Int)) := by
        show _ = _
        rw [show k - (t - 1) = k - t + 1 by omega, Nat.pow_succ, ← Nat.div_div_eq_div_mul, Int.natCast_ediv, cast_div]
        rfl
      have E2 : Hid ((n : Int) / 256 ^ (k - t) % 256 = ((beF k n (t - 1) : Nat) : Int)) := by
        show _ = _
        unfold beF
        rw [show k - 1 - (t - 1) = k - t by omega, Int.natCast_emod, cast_div]
        rfl
      go_wp2
      go_roundw
      case rel =>
        refine ⟨t - 1, by omega, by congr 1; omega, by rw [E1.out], ?_, gb_set hgr _ _⟩
        refine (HR.out.set (o + (t - 1)) _).congr (fun j _ => ?_)
        rw [E2.out]
        unfold putF
        by_cases e : j = o + (t - 1)
        · subst e
          rw [if_pos rfl, if_pos (by omega), show o + (t - 1) - o = t - 1 by omega]
        · rw [if_neg e]
          by_cases h : o + t ≤ j ∧ j < o + k
          · rw [if_pos h, if_pos (by omega)]
          · rw [if_neg h, if_neg (by omega)]
      case measure => simp [intOf]; omega

/-- The row behind 'number'. -/
def numF (B : Bys) (k n j : Nat) : Nat := if j < B.len then B.f j else beF k n (j - B.len)

theorem num_row {w : World} {g T : Nat} {B : Bys} {k n : Nat} (h : w.rowIs g T (B.len + k) (putF (longF B) B.len k n 0)) : w.rowIs g T (B.len + k) (fun j => .int .u8 (numF B k n j)) := by
  refine h.congr (fun j hj => ?_)
  unfold putF numF longF
  by_cases h : j < B.len
  · rw [if_neg (by omega), if_pos h, if_pos h]
  · rw [if_pos (by omega), if_neg h]

set_option maxHeartbeats 1000000 in
theorem number_any (B : Bys) (k n : Nat) (w : World) (hB : B.At w) (hm : B.len ≤ 999000) (hk0 : 0 < k) (hk : k ≤ 8) :
    Calls Try.prog 30 #[.slice B.ao B.len B.cap, .int .i64 k, .int .u64 n] w fun e w' => e = .returned (.slice (some ⟨w.heap.size, 0, none⟩) (B.len + k : Nat) (B.len + k : Nat)) ∧ w'.rowIs w.heap.size 5 (B.len + k) (fun j => .int .u8 (numF B k n j)) ∧ Below w.heap.size w w' := by
  have HB : Hid (B.At w) := hB
  clear hB
  go_enter Try.func30, Try.ntmps30
  go_wp2_with (first
    | (go_at_call 31; refine (longer_any B k w HB.out (by omega)).mono ?_; rintro e w1 ⟨rfl, hr1, hb1⟩; have HR1 : Hid (w1.rowIs w.heap.size 5 (B.len + k) (longF B)) := hr1; clear hr1)
    | (go_at_call 32; refine (put_any (longF B) w.heap.size (B.len + k) B.len k k n w1 HR1.out (Nat.le_refl _) hk).mono ?_; rintro e w2 ⟨rfl, hr2, hg2⟩; have HR2 : Hid (w2.rowIs w.heap.size 5 (B.len + k) (fun j => .int .u8 (numF B k n j))) := num_row hr2; have hb2 : Below w.heap.size w w2 := hb1.grown hg2 hb1.size (fun k hk => by injection hk with hk; omega); clear hr2))
  go_ret
  exact ⟨rfl, HR2.out, hb2⟩
end Go.Proofs.Ytboehlfdfpiodaa
