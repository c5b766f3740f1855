/- (Beside other layers, in a namespace of its own.) Layer 4: the walks of longer, put and number. -/
import Derived.Test.YtjfijpiadfkmfaaGreatDoorP23
import Derived.Test.YtjfijpiadfkmfaaGreatDoorP20
import Derived.Deep.AppendLies
namespace Go.Proofs.YtjfijpiadfkmfaaGreatDoor.By
open Go.RowKit

/-- The row behind 'longer'. -/
def longF (B : Bys) (i : Nat) : Value := .int .u8 (if i < B.len then (B.f i : Int) else 0)

/-- What B's cells hold. -/
def Bys.cells (B : Bys) : List Value := (List.range B.len).map fun i => .int .u8 (B.f i)
theorem Bys.cells_len (B : Bys) : B.cells.length = B.len := by simp [Bys.cells]
theorem Bys.cells_at (B : Bys) (i : Nat) (h : i < B.len) : B.cells[i]? = some (.int .u8 (B.f i)) := by simp [Bys.cells, h]
theorem Bys.cells_one (B : Bys) : ∀ v ∈ B.cells, v.oneCell' = true := by
  intro v hv
  simp only [Bys.cells, List.mem_map] at hv
  obtain ⟨i, _, rfl⟩ := hv
  rfl
theorem Bys.news {B : Bys} {w : World} (h : B.At w) (j : Nat) (v : Value) (hv : B.cells[j]? = some v) : w.cell? ((⟨B.b, B.o, none⟩ : Addr).add j) = some v := by
  have hj : j < B.len := by have := (List.getElem?_eq_some_iff.1 hv).1; rwa [B.cells_len] at this
  rw [B.cells_at j hj] at hv
  rw [addr_add, h.cell j hj, ← hv]

theorem long_row {w : World} {g n : Nat} {B : Bys} {T : TypeId} (hn : B.len ≤ n) (h : w.heap[g]? = some (.cells (splice (List.replicate n (Value.int .u8 0)) 0 B.cells).toArray T (0, 0))) : w.rowIs g T n (longF B) := by
  refine ⟨_, h, ?_, fun i hi => ?_⟩
  · rw [List.size_toArray, length_splice _ _ _ (by rw [B.cells_len, List.length_replicate]; omega), List.length_replicate]
  · rw [List.getElem?_toArray]
    unfold splice longF
    rw [List.take_zero, List.nil_append, B.cells_len, Nat.zero_add]
    by_cases hb : i < B.len
    · rw [List.getElem?_append_left (by rw [B.cells_len]; exact hb), B.cells_at i hb, if_pos hb]
    · rw [List.getElem?_append_right (by rw [B.cells_len]; omega), if_neg hb, List.getElem?_drop, B.cells_len, List.getElem?_replicate, if_pos (by omega)]

theorem made_row {w w1 : World} {n : Nat} (h : w1.ownsRow w.heap.size 5 1 (.slice (some ⟨w.heap.size, 0, none⟩) n n) n (madeCells (Value.int .u8 0).cells (n * 1)).toList) : w1.heap[w.heap.size]? = some (.cells (List.replicate n (Value.int .u8 0)).toArray 5 (0, 0)) := by
  obtain ⟨_, h0 | ⟨g, cap, cur, hv, _, hg, _, _, hs, hl⟩⟩ := h
  · cases h0.1
  · injection hv with h1 _ h3
    injection h1 with h1
    injection h1 with h1
    subst h1 h3
    rw [hg]
    congr 2
    have e : (madeCells (Value.int .u8 0).cells (n * 1)).toList = List.replicate n (Value.int .u8 0) := by
      rw [Nat.mul_one]; exact toList_madeCells_one _ _
    rw [e, List.take_of_length_le (by rw [Array.length_toList, hs]; exact Nat.le_refl _)] at hl
    rw [← hl]

set_option maxHeartbeats 1000000 in
theorem longer_any (B : Bys) (more : Nat) (w : World) (hB : B.At w) (hm : B.len + more ≤ 1000000) :
    Calls Tryz.prog 93 #[.slice B.ao B.len B.cap, .int .i64 more] w fun e w' => e = .returned (.slice (some ⟨w.heap.size, 0, none⟩) (B.len + more : Nat) (B.len + more : Nat)) ∧ w'.rowIs w.heap.size 5 (B.len + more) (longF B) ∧ Below w.heap.size w w' := by
  obtain ⟨i0, hi, hz0, hz1, hz2⟩ := info_parts Tryz.infoByte
  have hby : i0.bytes * (B.len + more) ≤ 281474976710656 := by rw [hz2]; omega
  have hmx : B.len + more ≤ maxLen := by unfold maxLen; omega
  have HB : Hid (B.At w) := hB
  have hmin : Hid (B.cells.length = Nat.min B.len (B.len + more)) := by show _ = _; rw [B.cells_len]; exact (Nat.min_eq_left (by omega)).symm
  have hfit : Hid (0 + B.cells.length ≤ (List.replicate (B.len + more) (Value.int .u8 0)).length) := by show _ ≤ _; rw [B.cells_len, List.length_replicate]; omega
  clear hB
  have KEY : Hid (∀ w1 : World, Below w.heap.size w w1 → 0 < B.cells.length → (some ⟨w.heap.size, 0, none⟩ : Option Addr) = some ⟨w.heap.size, 0, none⟩ ∧ ∃ ad, B.ao = some ad ∧ ∀ j v, B.cells[j]? = some v → w1.cell? (ad.add j) = some v) := fun w1 hb h0 => ⟨rfl, _, HB.out.nil (by rw [B.cells_len] at h0; exact h0), Bys.news (HB.out.kept hb)⟩
  go_enter Tryz.func93, Tryz.ntmps93
  go_wp2_with (first
    | (at_make; refine wpList_make_full _ rfl (.tmp 9) (.tmp 9) 45 rfl w.heap.size 5 i0 (.int .u8 0) 1 Tryz.underlying45 hi hz0 hz1 .i64 .i64 _ _ (B.len + more) rfl rfl (by omega) (by omega) hby hmx (Nat.le_refl _) ?_; intro w1 hown hgr; have HR : Hid (w1.heap[w.heap.size]? = some (.cells (List.replicate (B.len + more) (Value.int .u8 0)).toArray 5 (0, 0))) := made_row hown; have hbl : Below w.heap.size w w1 := (Below.refl _ _).grown hgr (Nat.le_refl _) (fun k hk => by cases hk); clear hown hgr)
    | (refine wpList_copy_splice rfl (.tmp 11) (.tmp 12) 45 45 rfl 5 Tryz.underlying45 (by rw [hi]; simp [hz1]) _ _ _ _ _ _ rfl rfl w.heap.size 0 _ 5 HR.out B.cells hmin.out (KEY.out _ hbl) hfit.out B.cells_one w.heap.size w hbl (Nat.le_refl _) ?_; intro w2 HG2 hB2))
  have HG3 : Hid (w2.rowIs w.heap.size 5 (B.len + more) (longF B)) := long_row (Nat.le_add_right _ _) HG2.out
  clear HG2
  go_wp2
  go_ret
  exact ⟨rfl, HG3.out, hB2⟩

theorem cast_div (n m : Nat) : ((n / 256 ^ m : Nat) : Int) = (n : Int) / 256 ^ m := by rw [Int.natCast_ediv, Int.natCast_pow]; rfl

/-- The row with the k bytes of n laid over it from o on, those from place t on. -/
def putF (F : Nat → Value) (o k n t j : Nat) : Value := if o + t ≤ j ∧ j < o + k then .int .u8 (beF k n (j - o)) else F j

set_option maxHeartbeats 1000000 in
theorem put_any (F : Nat → Value) (g N o k c n : Nat) (w : World) (hg : w.rowIs g 5 N F) (hN : o + k ≤ N) (hk : k ≤ 8) :
    Calls Tryz.prog 94 #[.slice (some ⟨g, o, none⟩) k c, .int .u64 n] w fun e w' => e = .returned (.tuple #[]) ∧ w'.rowIs g 5 N (putF F o k n 0) ∧ w.grownBy w' (some g) := by
  go_enter Tryz.func94, Tryz.ntmps94
  go_wp2
  go_loopw [4, 1] (fun i m wr => ∃ t : Nat, t ≤ k ∧ i = .int .i64 ((t : Int) - 1) ∧ m = .int .u64 ((n / 256 ^ (k - t) : Nat) : Int) ∧ wr.rowIs g 5 N (putF F o k n t) ∧ w.grownBy wr (some g)) (fun i _ _ => (intOf i + 1).toNat)
  case atStart => exact ⟨k, Nat.le_refl _, rfl, by simp, hg.congr (fun j _ => by unfold putF; rw [if_neg (by omega)]), gb_refl _ _⟩
  case round =>
    obtain ⟨t, ht, rfl, rfl, hr, hgr⟩ := hrel
    have HR : Hid (wr.rowIs g 5 N (putF F o k n t)) := hr
    clear hg
    by_cases h0 : t = 0
    · subst h0
      clear hr
      go_wp2
      go_end0
      exact ⟨rfl, HR.out, hgr⟩
    · have c1 := hr.cell (i := o + (t - 1)) (by omega)
      have f1 := hr.frozen (o + (t - 1))
      clear hr
      have E1 : Hid ((n : Int) / 256 ^ (k - t) / 256 = ((n / 256 ^ (k - (t - 1)) : Nat) : Int)) := by
        show _ = _
        rw [show k - (t - 1) = k - t + 1 by omega, Nat.pow_succ, ← Nat.div_div_eq_div_mul, Int.natCast_ediv, cast_div]
        rfl
      have E2 : Hid ((n : Int) / 256 ^ (k - t) % 256 = ((beF k n (t - 1) : Nat) : Int)) := by
        show _ = _
        unfold beF
        rw [show k - 1 - (t - 1) = k - t by omega, Int.natCast_emod, cast_div]
        rfl
      go_wp2
      go_roundw
      case rel =>
        refine ⟨t - 1, by omega, by congr 1; omega, by rw [E1.out], ?_, gb_set hgr _ _⟩
        refine (HR.out.set (o + (t - 1)) _).congr (fun j _ => ?_)
        rw [E2.out]
        unfold putF
        by_cases e : j = o + (t - 1)
        · subst e
          rw [if_pos rfl, if_pos (by omega), show o + (t - 1) - o = t - 1 by omega]
        · rw [if_neg e]
          by_cases h : o + t ≤ j ∧ j < o + k
          · rw [if_pos h, if_pos (by omega)]
          · rw [if_neg h, if_neg (by omega)]
      case measure => simp [intOf]; omega

/-- The row behind 'number'. -/
def numF (B : Bys) (k n j : Nat) : Nat := if j < B.len then B.f j else beF k n (j - B.len)

theorem num_row {w : World} {g T : Nat} {B : Bys} {k n : Nat} (h : w.rowIs g T (B.len + k) (putF (longF B) B.len k n 0)) : w.rowIs g T (B.len + k) (fun j => .int .u8 (numF B k n j)) := by
  refine h.congr (fun j hj => ?_)
  unfold putF numF longF
  by_cases h : j < B.len
  · rw [if_neg (by omega), if_pos h, if_pos h]
  · rw [if_pos (by omega), if_neg h]

set_option maxHeartbeats 1000000 in
theorem number_any (B : Bys) (k n : Nat) (w : World) (hB : B.At w) (hm : B.len ≤ 999000) (hk0 : 0 < k) (hk : k ≤ 8) :
    Calls Tryz.prog 92 #[.slice B.ao B.len B.cap, .int .i64 k, .int .u64 n] w fun e w' => e = .returned (.slice (some ⟨w.heap.size, 0, none⟩) (B.len + k : Nat) (B.len + k : Nat)) ∧ w'.rowIs w.heap.size 5 (B.len + k) (fun j => .int .u8 (numF B k n j)) ∧ Below w.heap.size w w' := by
  have HB : Hid (B.At w) := hB
  clear hB
  go_enter Tryz.func92, Tryz.ntmps92
  go_wp2_with (first
    | (go_at_call 93; refine (longer_any B k w HB.out (by omega)).mono ?_; rintro e w1 ⟨rfl, hr1, hb1⟩; have HR1 : Hid (w1.rowIs w.heap.size 5 (B.len + k) (longF B)) := hr1; clear hr1)
    | (go_at_call 94; refine (put_any (longF B) w.heap.size (B.len + k) B.len k k n w1 HR1.out (Nat.le_refl _) hk).mono ?_; rintro e w2 ⟨rfl, hr2, hg2⟩; have HR2 : Hid (w2.rowIs w.heap.size 5 (B.len + k) (fun j => .int .u8 (numF B k n j))) := num_row hr2; have hb2 : Below w.heap.size w w2 := hb1.grown hg2 hb1.size (fun k hk => by injection hk with hk; omega); clear hr2))
  go_ret
  exact ⟨rfl, HR2.out, hb2⟩
end Go.Proofs.YtjfijpiadfkmfaaGreatDoor.By

/- (Beside other layers, in a namespace of its own.) Layer 4: the walks of Short, Long and Text, the writers. -/
namespace Go.Proofs.YtjfijpiadfkmfaaGreatDoor.By
open Go.RowKit

/-- Bytes in a block of their own. -/
def mkB (g n : Nat) (f : Nat → Nat) : Bys := ⟨some ⟨g, 0, none⟩, g, 0, n, n, f⟩
theorem mkB_at {w : World} {g n : Nat} {f : Nat → Nat} (h : w.rowIs g 5 n (fun j => .int .u8 (f j))) (hf : ∀ j, f j < 256) (hn : n ≤ 9223372036854775807) : (mkB g n f).At w :=
  ⟨Nat.le_refl _, fun _ => rfl, fun h => (by cases h), hn, fun i hi => (by show w.cell? ⟨g, 0 + i, none⟩ = _; rw [Nat.zero_add]; exact h.cell hi), fun i _ => hf i⟩

theorem range_split (a b : Nat) (f : Nat → Nat) : (List.range (a + b)).map f = (List.range a).map f ++ (List.range b).map (fun i => f (a + i)) := by
  rw [List.range_add, List.map_append, List.map_map]; rfl

/-- B's bytes, those of them that matter. -/
def Bys.g (B : Bys) (j : Nat) : Nat := if j < B.len then B.f j else 0
theorem Bys.g_lt {B : Bys} {w : World} (h : B.At w) (j : Nat) : B.g j < 256 := by
  unfold Bys.g; split
  · exact h.lt j (by assumption)
  · omega
theorem Bys.g_l (B : Bys) : (List.range B.len).map B.g = B.l := by
  unfold Bys.l
  apply List.map_congr_left
  intro i hi
  rw [List.mem_range] at hi
  unfold Bys.g; rw [if_pos hi]

def numG (B : Bys) (k n j : Nat) : Nat := if j < B.len then B.g j else beF k n (j - B.len)
theorem numG_lt {B : Bys} {w : World} (h : B.At w) (k n j : Nat) : numG B k n j < 256 := by
  unfold numG; split
  · exact B.g_lt h j
  · exact beF_lt _ _ _
theorem numG_l (B : Bys) (b k n : Nat) : (mkB b (B.len + k) (numG B k n)).l = B.l ++ be k n := by
  show (List.range (B.len + k)).map _ = _
  rw [range_split, ← B.g_l]
  congr 1
  · apply List.map_congr_left
    intro i hi
    rw [List.mem_range] at hi
    show numG B k n i = _
    unfold numG; rw [if_pos hi]
  · unfold be
    apply List.map_congr_left
    intro i _
    show numG B k n (B.len + i) = _
    unfold numG; rw [if_neg (by omega), Nat.add_sub_cancel_left]
theorem num_at {w w' : World} {B : Bys} {g k n : Nat} (hB : B.At w) (h : w'.rowIs g 5 (B.len + k) (fun j => .int .u8 (numF B k n j))) (hn : B.len + k ≤ 9223372036854775807) : (mkB g (B.len + k) (numG B k n)).At w' := by
  refine mkB_at (h.congr (fun j _ => ?_)) (numG_lt hB k n) hn
  unfold numF numG Bys.g
  split <;> rfl

set_option maxHeartbeats 1000000 in
theorem wshort_no (B : Bys) (n : Int) (w : World) (hn : n < 0 ∨ 65535 < n) :
    Calls Tryz.prog 56 #[.slice B.ao B.len B.cap, .int .i64 n] w fun e w' => e = .returned (.tuple #[.slice none 0 0, .int .i64 10]) ∧ w' = w := by
  rcases hn with hn | hn
  all_goals
    go_enter Tryz.func56, Tryz.ntmps56
    go_wp2
    go_ret2
    exact ⟨rfl, rfl⟩

set_option maxHeartbeats 1000000 in
theorem wshort_yes (B : Bys) (n : Nat) (w : World) (hB : B.At w) (hm : B.len ≤ 999000) (hn : n ≤ 65535) :
    Calls Tryz.prog 56 #[.slice B.ao B.len B.cap, .int .i64 n] w fun e w' => e = .returned (.tuple #[.slice (some ⟨w.heap.size, 0, none⟩) (B.len + 2 : Nat) (B.len + 2 : Nat), .int .i64 0]) ∧ (mkB w.heap.size (B.len + 2) (numG B 2 n)).At w' ∧ Below w.heap.size w w' := by
  have HB : Hid (B.At w) := hB
  clear hB
  go_enter Tryz.func56, Tryz.ntmps56
  go_wp2_with (go_at_call 92; refine (number_any B 2 n w HB.out (by omega) (by omega) (by omega)).mono ?_; rintro e w1 ⟨rfl, hr1, hb1⟩; have HR1 : Hid ((mkB w.heap.size (B.len + 2) (numG B 2 n)).At w1) := num_at HB.out hr1 (by omega); clear hr1)
  go_ret2
  exact ⟨rfl, HR1.out, hb1⟩

/-- A long's number as its bytes say it. -/
def uns (n : Int) : Nat := (n % 18446744073709551616).toNat

set_option maxHeartbeats 1000000 in
theorem wlong_any (B : Bys) (n : Int) (w : World) (hB : B.At w) (hm : B.len ≤ 999000) :
    Calls Tryz.prog 96 #[.slice B.ao B.len B.cap, .int .i64 n] w fun e w' => e = .returned (.slice (some ⟨w.heap.size, 0, none⟩) (B.len + 8 : Nat) (B.len + 8 : Nat)) ∧ (mkB w.heap.size (B.len + 8) (numG B 8 (uns n))).At w' ∧ Below w.heap.size w w' := by
  have HB : Hid (B.At w) := hB
  have HU : Hid (IntKind.u64.wrap n = (uns n : Nat)) := by show _ = _; rw [IntKind.wrap_u64]; unfold uns; omega
  clear hB
  go_enter Tryz.func96, Tryz.ntmps96
  go_wp2_with (go_at_call 92; rw [HU.out]; refine (number_any B 8 (uns n) w HB.out (by omega) (by omega) (by omega)).mono ?_; rintro e w1 ⟨rfl, hr1, hb1⟩; have HR1 : Hid ((mkB w.heap.size (B.len + 8) (numG B 8 (uns n))).At w1) := num_at HB.out hr1 (by omega); clear hr1)
  go_ret
  exact ⟨rfl, HR1.out, hb1⟩

/-- Byte i of a string. -/
def sB (s : ByteArray) (i : Nat) : Nat := (s.data.toList.getD i 0).toNat
theorem sB_lt (s : ByteArray) (i : Nat) : sB s i < 256 := UInt8.toNat_lt _
def sL (s : ByteArray) : List Nat := s.data.toList.map UInt8.toNat
theorem sL_len (s : ByteArray) : (sL s).length = s.size := by simp [sL]
theorem sL_range (s : ByteArray) : (List.range s.size).map (sB s) = sL s := by
  apply List.ext_getElem?
  intro i
  by_cases h : i < s.size
  · simp [sL, sB, h]
  · have h' : s.data.toList.length ≤ i := by rw [← Lib.size_eq]; omega
    rw [List.getElem?_eq_none (by simp; omega), List.getElem?_eq_none (by rw [sL_len]; omega)]

/-- The row with s laid over it from o on. -/
def strF (F : Nat → Value) (o : Nat) (s : ByteArray) (j : Nat) : Value := if o ≤ j ∧ j < o + s.size then .int .u8 (sB s (j - o)) else F j

theorem wpList_copy_str {w : World} {ops : Array Oper} {rest : List Oper} {o : Oper} {a : Act} {Q : Exit → Act → World → Prop} (hgd : o.guard = none) (d x : Operand) 
    (ho : o.op = .call { callee := .builtin .copy, args := #[d, x], argTypes := #[45, 9] }) (dp : Option Addr) (dLen dCap : Nat) (s : ByteArray) (hd : a.eval d = .slice dp dLen dCap) (hs : a.eval x = .string s)
    (g off N : Nat) (F : Nat → Value) (hg : w.rowIs g 5 N F) (hpos : 0 < s.size → dp = some ⟨g, off, none⟩) (hle : s.size ≤ dLen) (hfit : off + s.size ≤ N)
    (h : ∀ w', Hid (w'.rowIs g 5 N (strF F off s)) → w.grownBy w' (some g) → wpList Tryz.prog ops Q rest (a.put o.dst (goInt s.size)) w') : wpList Tryz.prog ops Q (o :: rest) a w := by
  obtain ⟨i0, hi, hz0, hz1, hz2⟩ := info_parts Tryz.infoByte
  refine wpList_plain hgd fun K hK => ?_
  by_cases h0 : s.size = 0
  · have hrun := Lib.run_copy_empty_string (P := Tryz.prog) w 45 9 o.type 5 dp dLen dCap s Tryz.underlying45 (by rw [hi]; rfl) h0
    unfold Oper.wp
    simp [execOp, ho, resolve, invoke, builtin, hd, hs, hrun, Result.andThen]
    refine hK _ _ ?_
    have := h w (hg.congr (fun j _ => by unfold strF; rw [if_neg (by omega)])) (gb_refl _ _)
    rw [h0] at this
    exact this
  · obtain ⟨cur, hb, hsz, hc⟩ := hg
    obtain rfl := hpos (by omega)
    have hrun := Lib.run_copy_row_string (P := Tryz.prog) w 45 9 o.type 5 g off dLen dCap s cur 5 Tryz.underlying45 (by rw [hi]; simp [hz1]) hb hle (by omega)
    unfold Oper.wp
    simp [execOp, ho, resolve, invoke, builtin, hd, hs, hrun, Result.andThen]
    refine hK _ _ ?_
    refine h _ (show World.rowIs _ _ _ _ _ from ⟨_, setRow_heap w g _ _ 5 _ hb, ?_, fun j hj => ?_⟩) ⟨rfl, rfl, rfl, by simp [World.setRow], fun k _ hk => setRow_other w g k _ (fun e => hk (by rw [e]))⟩
    · simp [Lib.byteCells_length]; omega
    · have hl : (Lib.byteCells s.data.toList).length = s.size := by rw [Lib.byteCells_length, ← Lib.size_eq]
      have hcl : ∀ i, cur.toList[i]? = cur[i]? := fun i => Array.getElem?_toList
      rw [List.getElem?_toArray]
      have ht : (cur.toList.take off).length = off := by simp; omega
      unfold strF
      by_cases h1 : j < off
      · rw [List.getElem?_append_left (by omega), List.getElem?_take_of_lt h1, if_neg (by omega), hcl]
        exact hc j hj
      · rw [List.getElem?_append_right (by omega), ht]
        by_cases h2 : j < off + s.size
        · rw [List.getElem?_append_left (by omega), if_pos (by omega)]
          have h' : j - off < s.data.toList.length := by rw [← Lib.size_eq]; omega
          unfold Lib.byteCells sB
          rw [List.getElem?_map, List.getElem?_eq_getElem h', List.getD_eq_getElem?_getD, List.getElem?_eq_getElem h']
          rfl
        · rw [List.getElem?_append_right (by omega), if_neg (by omega), hl, List.getElem?_drop, hcl, show off + s.size + (j - off - s.size) = j by omega]
          exact hc j hj

/-- The row behind 'Text'. -/
def txtG (B : Bys) (s : ByteArray) (j : Nat) : Nat := if j < B.len then B.g j else if j < B.len + 2 then beF 2 s.size (j - B.len) else sB s (j - (B.len + 2))
theorem txtG_lt {B : Bys} {w : World} (h : B.At w) (s : ByteArray) (j : Nat) : txtG B s j < 256 := by
  unfold txtG; split
  · exact B.g_lt h j
  · split
    · exact beF_lt _ _ _
    · exact sB_lt _ _
theorem txtG_l (B : Bys) (b : Nat) (s : ByteArray) : (mkB b (B.len + (2 + s.size)) (txtG B s)).l = B.l ++ (be 2 s.size ++ sL s) := by
  show (List.range (B.len + (2 + s.size))).map (txtG B s) = _
  rw [range_split, range_split, ← B.g_l, ← sL_range]
  congr 1
  · apply List.map_congr_left
    intro i hi
    rw [List.mem_range] at hi
    unfold txtG; rw [if_pos hi]
  · congr 1
    · unfold be
      apply List.map_congr_left
      intro i hi
      rw [List.mem_range] at hi
      unfold txtG; rw [if_neg (by omega), if_pos (by omega), Nat.add_sub_cancel_left]
    · apply List.map_congr_left
      intro i _
      unfold txtG; rw [if_neg (by omega), if_neg (by omega), ← Nat.add_assoc, Nat.add_sub_cancel_left]
theorem txt_at {w w' : World} {B : Bys} {g : Nat} {s : ByteArray} (hB : B.At w) (h : w'.rowIs g 5 (B.len + (2 + s.size)) (strF (putF (longF B) B.len 2 s.size 0) (B.len + 2) s)) (hn : B.len + (2 + s.size) ≤ 9223372036854775807) : (mkB g (B.len + (2 + s.size)) (txtG B s)).At w' := by
  refine mkB_at (h.congr (fun j hj => ?_)) (txtG_lt hB s) hn
  unfold strF putF longF txtG Bys.g
  by_cases h1 : j < B.len
  · rw [if_neg (by omega), if_neg (by omega), if_pos h1, if_pos h1, if_pos h1]
  · by_cases h2 : j < B.len + 2
    · rw [if_neg (by omega), if_pos (by omega), if_neg h1, if_pos h2]
    · rw [if_pos (by omega), if_neg h1, if_neg h2]

set_option maxHeartbeats 1000000 in
theorem wtext_no (B : Bys) (s : ByteArray) (w : World) (hs : 65535 < s.size) (hz : s.size ≤ 9223372036854775807) :
    Calls Tryz.prog 58 #[.slice B.ao B.len B.cap, .string s] w fun e w' => e = .returned (.tuple #[.slice none 0 0, .int .i64 1]) ∧ w' = w := by
  go_enter Tryz.func58, Tryz.ntmps58
  go_wp2
  go_ret2
  exact ⟨rfl, rfl⟩

theorem longer_txt (B : Bys) (s : ByteArray) (w : World) (hB : B.At w) (hm : B.len + (2 + s.size) ≤ 1000000) :
    Calls Tryz.prog 93 #[.slice B.ao B.len B.cap, .int .i64 (2 + (s.size : Int))] w fun e w' => e = .returned (.slice (some ⟨w.heap.size, 0, none⟩) (B.len + (2 + s.size) : Nat) (B.len + (2 + s.size) : Nat)) ∧ w'.rowIs w.heap.size 5 (B.len + (2 + s.size)) (longF B) ∧ Below w.heap.size w w' := by
  have hl := longer_any B (2 + s.size) w hB hm
  rwa [show ((2 + s.size : Nat) : Int) = 2 + (s.size : Int) by omega] at hl

set_option maxHeartbeats 1000000 in
theorem wtext_yes (B : Bys) (s : ByteArray) (w : World) (hB : B.At w) (hm : B.len ≤ 900000) (hs : s.size ≤ 65535) :
    Calls Tryz.prog 58 #[.slice B.ao B.len B.cap, .string s] w fun e w' => e = .returned (.tuple #[.slice (some ⟨w.heap.size, 0, none⟩) (B.len + (2 + s.size) : Nat) (B.len + (2 + s.size) : Nat), .int .i64 0]) ∧ (mkB w.heap.size (B.len + (2 + s.size)) (txtG B s)).At w' ∧ Below w.heap.size w w' := by
  have HB : Hid (B.At w) := hB
  clear hB
  go_enter Tryz.func58, Tryz.ntmps58
  by_cases h0 : s.size = 0
  · have H0 : Hid (s.size = 0) := h0
    clear h0
    go_wp2_with (first
      | (go_at_call 93; refine (longer_txt B s w HB.out (by omega)).mono ?_; rintro e w1 ⟨rfl, hr1, hb1⟩; have HR1 : Hid (w1.rowIs w.heap.size 5 (B.len + (2 + s.size)) (longF B)) := hr1; clear hr1)
      | (go_at_call 94; refine (put_any (longF B) w.heap.size (B.len + (2 + s.size)) B.len 2 _ s.size w1 HR1.out (by omega) (by omega)).mono ?_; rintro e w2 ⟨rfl, hr2, hg2⟩; have HR2 : Hid (w2.rowIs w.heap.size 5 (B.len + (2 + s.size)) (putF (longF B) B.len 2 s.size 0)) := hr2; have hb2 : Below w.heap.size w w2 := hb1.grown hg2 hb1.size (fun k hk => by injection hk with hk; omega); clear hr2 hg2)
      | (refine wpList_copy_str rfl (.tmp 30) (.tmp 31) rfl _ _ _ s rfl rfl w.heap.size (B.len + 2) (B.len + (2 + s.size)) _ HR2.out (fun h => absurd h (by have := H0.out; omega)) (by omega) (by omega) ?_; intro w3 HR3 hg3; have hb3 : Below w.heap.size w w3 := hb2.grown hg3 hb2.size (fun k hk => by injection hk with hk; omega)))
    · have he : s = ByteArray.empty := by assumption
      have HX : Hid ((mkB w.heap.size (B.len + (2 + s.size)) (txtG B s)).At w3) := txt_at HB.out HR3.out (by have := H0.out; omega)
      have HY : Hid ((mkB w.heap.size (B.len + 2) (txtG B ByteArray.empty)).At w3) := by have h := HX.out; rw [he] at h; exact h
      go_ret2
      exact ⟨rfl, HY.out, hb3⟩
    · have he : ¬ s = ByteArray.empty := by assumption
      exact absurd (by have := H0.out; exact ByteArray.ext (Array.eq_empty_of_size_eq_zero this)) he
  · go_wp2_with (first
      | (go_at_call 93; refine (longer_txt B s w HB.out (by omega)).mono ?_; rintro e w1 ⟨rfl, hr1, hb1⟩; have HR1 : Hid (w1.rowIs w.heap.size 5 (B.len + (2 + s.size)) (longF B)) := hr1; clear hr1)
      | (go_at_call 94; refine (put_any (longF B) w.heap.size (B.len + (2 + s.size)) B.len 2 _ s.size w1 HR1.out (by omega) (by omega)).mono ?_; rintro e w2 ⟨rfl, hr2, hg2⟩; have HR2 : Hid (w2.rowIs w.heap.size 5 (B.len + (2 + s.size)) (putF (longF B) B.len 2 s.size 0)) := hr2; have hb2 : Below w.heap.size w w2 := hb1.grown hg2 hb1.size (fun k hk => by injection hk with hk; omega); clear hr2 hg2)
      | (refine wpList_copy_str rfl (.tmp 30) (.tmp 31) rfl _ _ _ s rfl rfl w.heap.size (B.len + 2) (B.len + (2 + s.size)) _ HR2.out (fun _ => rfl) (by omega) (by omega) ?_; intro w3 HR3 hg3; have hb3 : Below w.heap.size w w3 := hb2.grown hg3 hb2.size (fun k hk => by injection hk with hk; omega)))
    go_ret2
    exact ⟨rfl, txt_at HB.out HR3.out (by omega), hb3⟩
end Go.Proofs.YtjfijpiadfkmfaaGreatDoor.By

/- Layer 13: a writer in memory: add, short, orNone, text. -/
namespace Go.Proofs.YtjfijpiadfkmfaaGreatDoor
open Go Go.RowKit

def bv (l : List Nat) : List Value := l.map fun (b : Nat) => Value.int .u8 (b : Int)
theorem bv_len (l : List Nat) : (bv l).length = l.length := by simp [bv]
theorem bv_cells (F : By.Bys) : F.cells = bv F.l := by
  unfold By.Bys.cells bv By.Bys.l
  rw [List.map_map]
  rfl
/-- A writer in block q, over the memory wE, with this row. -/
structure Ww (wE : World) (p q : Nat) (v : Value) (lg : Bool) (l : List Nat) (w : World) : Prop where
  bl : Below wE.heap.size wE w
  blk : Blk w q [.pointer (some ⟨p, 0, none⟩), v, .bool lg] 68
  own : w.ownsRow wE.heap.size 5 1 v l.length (bv l)
  lq : wE.heap.size ≤ q
  lt : l.length ≤ 262144
def WS (q : Nat) (v : Value) : Nat → Prop := fun b => b = q ∨ v.ownBlock = some b
theorem Ww.ge {wE w : World} {p q : Nat} {v : Value} {lg : Bool} {l : List Nat} (h : Ww wE p q v lg l w) {x : Nat} (hx : WS q v x) : wE.heap.size ≤ x ∧ x < w.heap.size := by
  rcases hx with rfl | hx
  · exact ⟨h.lq, h.blk.lt⟩
  · exact owb h.own hx
theorem Ww.nq {wE w : World} {p q : Nat} {v : Value} {lg : Bool} {l : List Nat} (h : Ww wE p q v lg l w) : v.ownBlock ≠ some q := by
  intro e
  obtain ⟨cur, h1⟩ := own_blk h.own e
  have h2 := h.blk
  unfold Blk at h2
  rw [h1] at h2
  injection h2 with h2
  injection h2 with _ h2
  exact absurd h2 (by decide)
theorem Ww.agree {wE w w' : World} {p q : Nat} {v : Value} {lg : Bool} {l : List Nat} (h : Ww wE p q v lg l w) (hb : Below wE.heap.size wE w') (ag : ∀ x, WS q v x → w'.heap[x]? = w.heap[x]?) : Ww wE p q v lg l w' :=
  ⟨hb, by unfold Blk; rw [ag q (Or.inl rfl)]; exact h.blk, own_same h.own (fun b hb => ag b (Or.inr hb)), h.lq, h.lt⟩
theorem Ww.kept {wE w w' : World} {p q : Nat} {v : Value} {lg : Bool} {l : List Nat} (h : Ww wE p q v lg l w) (hb : Below w.heap.size w w') : Ww wE p q v lg l w' :=
  h.agree (Below.next h.bl hb) (fun x hx => hb.block x (h.ge hx).2)
/-- A writer, its blocks S; what it has written, or that it is too long. -/
def Wl (wE : World) (p q : Nat) (S : Nat → Prop) (st : Option (List Nat)) (w : World) : Prop := ∃ v lg l, Ww wE p q v lg l w ∧ S = WS q v ∧ ((st = some l ∧ lg = false) ∨ (st = none ∧ lg = true))
theorem Wl.kept {wE w w' : World} {p q : Nat} {S : Nat → Prop} {st : Option (List Nat)} (h : Wl wE p q S st w) (hb : Below w.heap.size w w') : Wl wE p q S st w' := by
  obtain ⟨v, lg, l, h1, h2, h3⟩ := h
  exact ⟨v, lg, l, h1.kept hb, h2, h3⟩
theorem Wl.ge {wE w : World} {p q : Nat} {S : Nat → Prop} {st : Option (List Nat)} (h : Wl wE p q S st w) {x : Nat} (hx : S x) : wE.heap.size ≤ x ∧ x < w.heap.size := by
  obtain ⟨v, lg, l, h1, rfl, h3⟩ := h
  exact h1.ge hx
theorem Wl.bl {wE w : World} {p q : Nat} {S : Nat → Prop} {st : Option (List Nat)} (h : Wl wE p q S st w) : Below wE.heap.size wE w := by
  obtain ⟨v, lg, l, h1, _⟩ := h
  exact h1.bl
/-- The writer behind a call, and all else as it was. -/
structure Wg (wE : World) (p q : Nat) (S : Nat → Prop) (w : World) (S' : Nat → Prop) (st : Option (List Nat)) (w' : World) : Prop where
  wl : Wl wE p q S' st w'
  ft : Ftp S w w'
  ss : ∀ x, x < w.heap.size → S' x → S x
theorem Wg.of {wE w w' : World} {p q : Nat} {S : Nat → Prop} {st : Option (List Nat)} (h : Wl wE p q S st w) (hb : Below w.heap.size w w') : Wg wE p q S w S st w' := ⟨h.kept hb, Ftp.of_below hb, fun _ _ h => h⟩
theorem Wg.ahead {wE w w1 w2 : World} {p q : Nat} {S S' : Nat → Prop} {st : Option (List Nat)} (hb : Below w.heap.size w w1) (h : Wg wE p q S w1 S' st w2) : Wg wE p q S w S' st w2 :=
  ⟨h.wl, (Ftp.of_below (S := S) hb).next h.ft (fun _ _ x => x), fun x hx => h.ss x (Nat.lt_of_lt_of_le hx hb.size)⟩
theorem Wg.trans {wE w w1 w2 : World} {p q : Nat} {S S1 S2 : Nat → Prop} {st1 st2 : Option (List Nat)} (h : Wg wE p q S w S1 st1 w1) (k : Wg wE p q S1 w1 S2 st2 w2) : Wg wE p q S w S2 st2 w2 :=
  ⟨k.wl, h.ft.next k.ft h.ss, fun x hx h2 => h.ss x hx (k.ss x (Nat.lt_of_lt_of_le hx h.ft.size) h2)⟩
theorem Wg.kept {wE w w1 w2 : World} {p q : Nat} {S S' : Nat → Prop} {st : Option (List Nat)} (h : Wg wE p q S w S' st w1) (hb : Below w1.heap.size w1 w2) : Wg wE p q S w S' st w2 := h.trans (Wg.of h.wl hb)
theorem Wg.blk {wE w w1 : World} {p q : Nat} {S S' : Nat → Prop} {st : Option (List Nat)} (h : Wg wE p q S w S' st w1) {B : Nat} {c : List Value} {t : TypeId} (hb : Blk w B c t) (hn : ¬ S B) : Blk w1 B c t ∧ ¬ S' B :=
  ⟨h.ft.blk hb hn, fun x => hn (h.ss B hb.lt x)⟩
/-- What a writer's call answers. -/
structure WR (wE : World) (p q : Nat) (S : Nat → Prop) (w : World) (st : Option (List Nat)) (e : Ending) (w' : World) : Prop where
  ret : e = .returned (.tuple #[])
  wg : ∃ S', Wg wE p q S w S' st w'
/-- These bytes more. -/
def wAdd (f : List Nat) : Option (List Nat) → Option (List Nat)
  | none => none
  | some l => if 262144 < l.length + f.length then none else some (l ++ f)
theorem Ww.long {wE w w' : World} {p q : Nat} {v : Value} {lg : Bool} {l : List Nat} (h : Ww wE p q v lg l w) (W : WroteB w w' q [.pointer (some ⟨p, 0, none⟩), v, .bool true] 68) : Wg wE p q (WS q v) w (WS q v) none w' :=
  ⟨⟨v, true, l, ⟨W.below h.lq h.bl, W.blk, own_same h.own (fun b hb => W.other b (fun e => h.nq (e ▸ hb))), h.lq, h.lt⟩, rfl, Or.inr ⟨rfl, rfl⟩⟩, ftp_wrote W (Or.inl rfl), fun _ _ h => h⟩
/-- The row with more bytes, stored. -/
theorem Ww.more {wE w w1 w2 : World} {p q : Nat} {v : Value} {lg : Bool} {l f : List Nat} {gg cap M : Nat} (h : Ww wE p q v lg l w) (hM : M = l.length + f.length) (hl : l.length + f.length ≤ 262144) (ho : w1.ownsRow wE.heap.size 5 1 (.slice (some ⟨gg, 0, none⟩) M cap) M (bv l ++ bv f)) (hgrow : w.grownBy w1 v.ownBlock) (hgg : v.ownBlock = some gg ∨ gg = w.heap.size)
    (W : WroteB w1 w2 q [.pointer (some ⟨p, 0, none⟩), .slice (some ⟨gg, 0, none⟩) M cap, .bool lg] 68) (st : Option (List Nat)) (hst : (st = some (l ++ f) ∧ lg = false) ∨ (st = none ∧ lg = true)) : ∃ S', Wg wE p q (WS q v) w S' st w2 := by
  have hqg : gg ≠ q := by
    rcases hgg with e | e
    · exact fun z => h.nq (by rw [e, z])
    · have := h.blk.lt; omega
  refine ⟨WS q (.slice (some ⟨gg, 0, none⟩) M cap), ⟨_, lg, l ++ f, ⟨W.below h.lq (gb_bel h.bl hgrow (fun k hk => (owb h.own hk).1)), W.blk, ?_, h.lq, by simpa using hl⟩, rfl, hst⟩, ?_, fun x hx hs => ?_⟩
  · have e1 : bv (l ++ f) = bv l ++ bv f := by simp [bv]
    rw [e1, List.length_append, ← hM]
    refine own_same ho (fun b hb => W.other b (fun e => ?_))
    have : gg = b := by simpa [Value.ownBlock] using hb
    exact hqg (this.trans e)
  · have h1 : Ftp (WS q v) w w1 := ⟨hgrow.os, hgrow.tape, hgrow.output, hgrow.size, fun k hk hn => hgrow.block k hk (fun e => hn (Or.inr e.symm))⟩
    exact h1.next (ftp_wrote (S := fun b => b = q) W rfl) (fun x _ e => Or.inl e)
  · rcases hs with e | e
    · exact Or.inl e
    · have : gg = x := by simpa [Value.ownBlock] using e
      subst this
      rcases hgg with z | z
      · exact Or.inr z
      · omega

set_option maxRecDepth 100000 in
set_option maxHeartbeats 4000000 in
theorem add_no {wE w : World} {p q : Nat} {S : Nat → Prop} {st : Option (List Nat)} (h : Wl wE p q S st w) (x : Value) (e : Int) (he : e ≠ 0) : Calls Tryz.prog 55 #[.pointer (some ⟨q, 0, none⟩), x, .int .i64 e] w fun r w' => WR wE p q S w none r w' := by
  obtain ⟨v, lg, l, hW, rfl, _⟩ := h
  have de : (e != 0) = true := by simpa using he
  have c2 := hW.blk.cell 2 rfl
  have f2 := hW.blk.frozen 2
  have HG := hyd (hW.long (wrote_cell (i := 2) hW.blk (.bool true)))
  clear hW he
  go_enter Tryz.func55, Tryz.ntmps55
  go_wp2
  go_end0
  exact ⟨rfl, _, HG.out⟩

set_option maxRecDepth 100000 in
set_option maxHeartbeats 4000000 in
theorem add_yes {wE w : World} {p q : Nat} {S : Nat → Prop} {st : Option (List Nat)} (h : Wl wE p q S st w) (F : By.Bys) (hF : F.At w) (h0 : 0 < F.len) (hF2 : F.len ≤ 1000000) : Calls Tryz.prog 55 #[.pointer (some ⟨q, 0, none⟩), .slice F.ao F.len F.cap, .int .i64 0] w fun r w' => WR wE p q S w (wAdd F.l st) r w' := by
  obtain ⟨v, lg, l, hW, rfl, hst⟩ := h
  obtain ⟨vo, vc, rfl⟩ := owform hW.own
  have c1 := hW.blk.cell 1 rfl
  have c2 := hW.blk.cell 2 rfl
  have f2 := hW.blk.frozen 2
  have hll : l.length ≤ 262144 := hW.lt
  by_cases hl : 262144 < l.length + F.len
  · have dl : (262144 : Int) < (l.length : Int) + (F.len : Int) := by omega
    have HS : Hid (wAdd F.l st = none) := by
      show _ = _
      rcases hst with ⟨rfl, _⟩ | ⟨rfl, _⟩
      · show (if 262144 < l.length + F.l.length then none else some (l ++ F.l)) = none; rw [By.Bys.len_l, if_pos hl]
      · rfl
    have HG := hyd (hW.long (wrote_cell (i := 2) hW.blk (.bool true)))
    clear hW hst hF
    go_enter Tryz.func55, Tryz.ntmps55
    go_wp2
    go_end0
    rw [HS.out]
    exact ⟨rfl, _, HG.out⟩
  · have dl : ¬ (262144 : Int) < (l.length : Int) + (F.len : Int) := by omega
    have HS : Hid ((wAdd F.l st = some (l ++ F.l) ∧ lg = false) ∨ (wAdd F.l st = none ∧ lg = true)) := by
      rcases hst with ⟨rfl, e⟩ | ⟨rfl, e⟩
      · left
        refine ⟨?_, e⟩
        show (if 262144 < l.length + F.l.length then none else some (l ++ F.l)) = some (l ++ F.l); rw [By.Bys.len_l, if_neg hl]
      · exact Or.inr ⟨rfl, e⟩
    have HW := hyd hW
    have HF := hyd hF
    have hfa := hF.nil h0
    obtain ⟨i0, hi, hz0, hz1, hz2⟩ := info_parts By.Tryz.infoByte
    clear hst hF c2 f2
    rw [hfa]
    go_enter Tryz.func55, Tryz.ntmps55
    go_wp2_with ((at_builtin; refine wpList_append_lies _ rfl _ _ 45 rfl wE.heap.size 5 i0 _ 1 1 Tryz.underlying45 hi hz0 hz1 hz2 rfl (by decide) (.slice vo l.length vc) l.length (bv l) rfl HW.out.own ⟨F.b, F.o, none⟩ F.len F.cap F.cells rfl (by rw [By.Bys.cells_len]; omega) (By.Bys.news HF.out) (By.Bys.cells_one F) h0 (by unfold maxLen; omega) (by omega) HW.out.bl.size w.heap.size rfl ?_; intro gg cap3 w3 hown3 hgrow hgg hltg; have hb3 : Blk w3 q [.pointer (some ⟨p, 0, none⟩), .slice vo l.length vc, .bool lg] 68 := (by unfold Blk; rw [hgrow.block q HW.out.blk.lt (fun e => HW.out.nq e.symm)]; exact HW.out.blk); have d1 := hb3.cell 1 rfl; have g1 := hb3.frozen 1; have HE := hyd (HW.out.more (f := F.l) (M := l.length + F.len) (by rw [By.Bys.len_l]) (by rw [By.Bys.len_l]; omega) (by rw [← bv_cells]; exact hown3) hgrow hgg (wrote_cell (i := 1) hb3 _) _ HS.out); clear hown3 hgrow hgg hltg hb3))
    go_end0
    exact ⟨rfl, HE.out⟩
end Go.Proofs.YtjfijpiadfkmfaaGreatDoor

/- Layer 13: a writer's short, orNone, text. -/
namespace Go.Proofs.YtjfijpiadfkmfaaGreatDoor
open Go Go.RowKit

def nilB : By.Bys := ⟨none, 0, 0, 0, 0, fun _ => 0⟩
theorem nilB_at (w : World) : nilB.At w := ⟨Nat.le_refl _, fun h => absurd h (Nat.lt_irrefl 0), fun _ => rfl, Nat.zero_le _, fun _ h => absurd h (Nat.not_lt_zero _), fun _ h => absurd h (Nat.not_lt_zero _)⟩
/-- A short. -/
def wSh (n : Int) (st : Option (List Nat)) : Option (List Nat) := if 0 ≤ n ∧ n ≤ 65535 then wAdd (By.be 2 n.toNat) st else none
theorem wSh_none (n : Int) : wSh n none = none := by unfold wSh; split <;> rfl
def wTx (s : ByteArray) (st : Option (List Nat)) : Option (List Nat) := if s.size ≤ 65535 then wAdd (By.be 2 s.size ++ By.sL s) st else none
theorem wTx_none (s : ByteArray) : wTx s none = none := by unfold wTx; split <;> rfl

set_option maxRecDepth 100000 in
set_option maxHeartbeats 4000000 in
theorem wshort_any {wE w : World} {p q : Nat} {S : Nat → Prop} {st : Option (List Nat)} (h : Wl wE p q S st w) (n : Int) : Calls Tryz.prog 26 #[.pointer (some ⟨q, 0, none⟩), .int .i64 n] w fun r w' => WR wE p q S w (wSh n st) r w' := by
  have HH := hyd h
  obtain ⟨v, lg, l, hW, rfl, hst⟩ := h
  have c2 := hW.blk.cell 2 rfl
  have HB := hyd (Below.refl w.heap.size w)
  clear hW
  rcases hst with ⟨rfl, rfl⟩ | ⟨rfl, rfl⟩
  · by_cases hn : 0 ≤ n ∧ n ≤ 65535
    · obtain ⟨k, rfl⟩ : ∃ k : Nat, n = k := ⟨n.toNat, by omega⟩
      have hk : k ≤ 65535 := by omega
      have hs := By.wshort_yes nilB k w (nilB_at w) (by show 0 ≤ 999000; omega) hk
      have HE : Hid (wSh (k : Int) (some l) = wAdd (By.be 2 k) (some l)) := by show _ = _; unfold wSh; rw [if_pos hn]; rfl
      have hl : (By.mkB w.heap.size (nilB.len + 2) (By.numG nilB 2 k)).l = By.be 2 k := by rw [By.numG_l]; rfl
      have HL := hyd hl
      clear hl hn
      go_enter Tryz.func26, Tryz.ntmps26
      go_wp2_with fail
      refine hs.mono ?_
      rintro _ w1 ⟨rfl, hA, hb1⟩
      have ha := add_yes (HH.out.kept hb1) (By.mkB w.heap.size (nilB.len + 2) (By.numG nilB 2 k)) hA (by show 0 < 0 + 2; omega) (by show 0 + 2 ≤ 1000000; omega)
      rw [HL.out] at ha
      have HB1 := hyd hb1
      clear hs c2 hA hb1
      go_wp2_with fail
      refine Calls.mono ha ?_
      rintro _ w2 ⟨rfl, S', hg⟩
      have HG := hyd (Wg.ahead HB1.out hg)
      clear ha hg
      go_wp2
      go_end0
      rw [HE.out]
      exact ⟨rfl, S', HG.out⟩
    · have hs := By.wshort_no nilB n w (by omega)
      have HE : Hid (wSh n (some l) = none) := by show _ = _; unfold wSh; rw [if_neg hn]
      have ha := add_no HH.out (.slice none 0 0) 10 (by decide)
      clear hn
      go_enter Tryz.func26, Tryz.ntmps26
      go_wp2_with fail
      refine hs.mono ?_
      rintro _ w1 ⟨rfl, rfl⟩
      clear hs c2
      go_wp2_with fail
      refine Calls.mono ha ?_
      rintro _ w2 ⟨rfl, S', hg⟩
      have HG := hyd hg
      clear ha hg
      go_wp2
      go_end0
      rw [HE.out]
      exact ⟨rfl, S', HG.out⟩
  · go_enter Tryz.func26, Tryz.ntmps26
    go_wp2
    go_end0
    rw [wSh_none]
    exact ⟨rfl, _, Wg.of HH.out HB.out⟩

set_option maxRecDepth 100000 in
set_option maxHeartbeats 4000000 in
theorem wtext_any {wE w : World} {p q : Nat} {S : Nat → Prop} {st : Option (List Nat)} (h : Wl wE p q S st w) (s : ByteArray) (hz : s.size ≤ 9223372036854775807) : Calls Tryz.prog 28 #[.pointer (some ⟨q, 0, none⟩), .string s] w fun r w' => WR wE p q S w (wTx s st) r w' := by
  have HH := hyd h
  obtain ⟨v, lg, l, hW, rfl, hst⟩ := h
  have c2 := hW.blk.cell 2 rfl
  have HB := hyd (Below.refl w.heap.size w)
  clear hW
  rcases hst with ⟨rfl, rfl⟩ | ⟨rfl, rfl⟩
  · by_cases hn : s.size ≤ 65535
    · have hs := By.wtext_yes nilB s w (nilB_at w) (by show 0 ≤ 900000; omega) hn
      have HE : Hid (wTx s (some l) = wAdd (By.be 2 s.size ++ By.sL s) (some l)) := by show _ = _; unfold wTx; rw [if_pos hn]
      have hl : (By.mkB w.heap.size (nilB.len + (2 + s.size)) (By.txtG nilB s)).l = By.be 2 s.size ++ By.sL s := by rw [By.txtG_l]; rfl
      have HL := hyd hl
      have HN := hyd hn
      clear hl hn
      go_enter Tryz.func28, Tryz.ntmps28
      go_wp2_with fail
      refine hs.mono ?_
      rintro _ w1 ⟨rfl, hA, hb1⟩
      have ha := add_yes (HH.out.kept hb1) (By.mkB w.heap.size (nilB.len + (2 + s.size)) (By.txtG nilB s)) hA (by show 0 < 0 + (2 + s.size); omega) (by show 0 + (2 + s.size) ≤ 1000000; have := HN.out; omega)
      rw [HL.out] at ha
      have HB1 := hyd hb1
      clear hs c2 hA hb1
      go_wp2_with fail
      refine Calls.mono ha ?_
      rintro _ w2 ⟨rfl, S', hg⟩
      have HG := hyd (Wg.ahead HB1.out hg)
      clear ha hg
      go_wp2
      go_end0
      rw [HE.out]
      exact ⟨rfl, S', HG.out⟩
    · have hs := By.wtext_no nilB s w (by omega) hz
      have HE : Hid (wTx s (some l) = none) := by show _ = _; unfold wTx; rw [if_neg hn]
      have ha := add_no HH.out (.slice none 0 0) 1 (by decide)
      clear hn
      go_enter Tryz.func28, Tryz.ntmps28
      go_wp2_with fail
      refine hs.mono ?_
      rintro _ w1 ⟨rfl, rfl⟩
      clear hs c2
      go_wp2_with fail
      refine Calls.mono ha ?_
      rintro _ w2 ⟨rfl, S', hg⟩
      have HG := hyd hg
      clear ha hg
      go_wp2
      go_end0
      rw [HE.out]
      exact ⟨rfl, S', HG.out⟩
  · go_enter Tryz.func28, Tryz.ntmps28
    go_wp2
    go_end0
    rw [wTx_none]
    exact ⟨rfl, _, Wg.of HH.out HB.out⟩

set_option maxRecDepth 100000 in
set_option maxHeartbeats 4000000 in
theorem worNone_any {wE w : World} {p q : Nat} {S : Nat → Prop} {st : Option (List Nat)} (h : Wl wE p q S st w) (n : Int) (hg : -1 ≤ n) (hl : n ≤ 9223372036854775806) : Calls Tryz.prog 61 #[.pointer (some ⟨q, 0, none⟩), .int .i64 n] w fun r w' => WR wE p q S w (wSh (n + 1) st) r w' := by
  have hs := wshort_any h (n + 1)
  have g1 : -9223372036854775808 ≤ n + 1 := by omega
  have g2 : n + 1 ≤ 9223372036854775807 := by omega
  clear hg hl
  go_enter Tryz.func61, Tryz.ntmps61
  go_wp2_with fail
  refine Calls.mono hs ?_
  rintro _ w2 ⟨rfl, S', hg⟩
  have HG := hyd hg
  clear hs hg
  go_wp2
  go_end0
  exact ⟨rfl, S', HG.out⟩
end Go.Proofs.YtjfijpiadfkmfaaGreatDoor
