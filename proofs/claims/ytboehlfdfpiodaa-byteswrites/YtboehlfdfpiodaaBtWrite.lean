/- Layer 4: the walks of Short, Long and Text, the writers. -/
import Derived.Test.YtboehlfdfpiodaaBtPut
namespace Go.Proofs.Ytboehlfdfpiodaa
open Go.RowKit

/-- Bytes in a block of their own. -/
def mkB (g n : Nat) (f : Nat → Nat) : Bys := ⟨some ⟨g, 0, none⟩, g, 0, n, n, f⟩
theorem mkB_at {w : World} {g n : Nat} {f : Nat → Nat} (h : w.rowIs g 5 n (fun j => .int .u8 (f j))) (hf : ∀ j, f j < 256) (hn : n ≤ 9223372036854775807) : (mkB g n f).At w :=
  ⟨Nat.le_refl _, fun _ => rfl, fun h => (by cases h), hn, fun i hi => (by show w.cell? ⟨g, 0 + i, none⟩ = _; rw [Nat.zero_add]; exact h.cell hi), fun i _ => hf i⟩

theorem range_split (a b : Nat) (f : Nat → Nat) : (List.range (a + b)).map f = (List.range a).map f ++ (List.range b).map (fun i => f (a + i)) := by
  rw [List.range_add, List.map_append, List.map_map]; rfl

/-- B's bytes, those of them that matter. -/
def Bys.g (B : Bys) (j : Nat) : Nat := if j < B.len then B.f j else 0
theorem Bys.g_lt {B : Bys} {w : World} (h : B.At w) (j : Nat) : B.g j < 256 := by
  unfold Bys.g; split
  · exact h.lt j (by assumption)
  · omega
theorem Bys.g_l (B : Bys) : (List.range B.len).map B.g = B.l := by
  unfold Bys.l
  apply List.map_congr_left
  intro i hi
  rw [List.mem_range] at hi
  unfold Bys.g; rw [if_pos hi]

def numG (B : Bys) (k n j : Nat) : Nat := if j < B.len then B.g j else beF k n (j - B.len)
theorem numG_lt {B : Bys} {w : World} (h : B.At w) (k n j : Nat) : numG B k n j < 256 := by
  unfold numG; split
  · exact B.g_lt h j
  · exact beF_lt _ _ _
theorem numG_l (B : Bys) (b k n : Nat) : (mkB b (B.len + k) (numG B k n)).l = B.l ++ be k n := by
  show (List.range (B.len + k)).map _ = _
  rw [range_split, ← B.g_l]
  congr 1
  · apply List.map_congr_left
    intro i hi
    rw [List.mem_range] at hi
    show numG B k n i = _
    unfold numG; rw [if_pos hi]
  · unfold be
    apply List.map_congr_left
    intro i _
    show numG B k n (B.len + i) = _
    unfold numG; rw [if_neg (by omega), Nat.add_sub_cancel_left]
theorem num_at {w w' : World} {B : Bys} {g k n : Nat} (hB : B.At w) (h : w'.rowIs g 5 (B.len + k) (fun j => .int .u8 (numF B k n j))) (hn : B.len + k ≤ 9223372036854775807) : (mkB g (B.len + k) (numG B k n)).At w' := by
  refine mkB_at (h.congr (fun j _ => ?_)) (numG_lt hB k n) hn
  unfold numF numG Bys.g
  split <;> rfl

set_option maxHeartbeats 1000000 in
theorem wshort_no (B : Bys) (n : Int) (w : World) (hn : n < 0 ∨ 65535 < n) :
    Calls Try.prog 10 #[.slice B.ao B.len B.cap, .int .i64 n] w fun e w' => e = .returned (.tuple #[.slice none 0 0, .int .i64 10]) ∧ w' = w := by
  rcases hn with hn | hn
  all_goals
    go_enter Try.func10, Try.ntmps10
    go_wp2
    go_ret2
    exact ⟨rfl, rfl⟩

set_option maxHeartbeats 1000000 in
theorem wshort_yes (B : Bys) (n : Nat) (w : World) (hB : B.At w) (hm : B.len ≤ 999000) (hn : n ≤ 65535) :
    Calls Try.prog 10 #[.slice B.ao B.len B.cap, .int .i64 n] w fun e w' => e = .returned (.tuple #[.slice (some ⟨w.heap.size, 0, none⟩) (B.len + 2 : Nat) (B.len + 2 : Nat), .int .i64 0]) ∧ (mkB w.heap.size (B.len + 2) (numG B 2 n)).At w' ∧ Below w.heap.size w w' := by
  have HB : Hid (B.At w) := hB
  clear hB
  go_enter Try.func10, Try.ntmps10
  go_wp2_with (go_at_call 30; refine (number_any B 2 n w HB.out (by omega) (by omega) (by omega)).mono ?_; rintro e w1 ⟨rfl, hr1, hb1⟩; have HR1 : Hid ((mkB w.heap.size (B.len + 2) (numG B 2 n)).At w1) := num_at HB.out hr1 (by omega); clear hr1)
  go_ret2
  exact ⟨rfl, HR1.out, hb1⟩

/-- A long's number as its bytes say it. -/
def uns (n : Int) : Nat := (n % 18446744073709551616).toNat

set_option maxHeartbeats 1000000 in
theorem wlong_any (B : Bys) (n : Int) (w : World) (hB : B.At w) (hm : B.len ≤ 999000) :
    Calls Try.prog 15 #[.slice B.ao B.len B.cap, .int .i64 n] w fun e w' => e = .returned (.slice (some ⟨w.heap.size, 0, none⟩) (B.len + 8 : Nat) (B.len + 8 : Nat)) ∧ (mkB w.heap.size (B.len + 8) (numG B 8 (uns n))).At w' ∧ Below w.heap.size w w' := by
  have HB : Hid (B.At w) := hB
  have HU : Hid (IntKind.u64.wrap n = (uns n : Nat)) := by show _ = _; rw [IntKind.wrap_u64]; unfold uns; omega
  clear hB
  go_enter Try.func15, Try.ntmps15
  go_wp2_with (go_at_call 30; rw [HU.out]; refine (number_any B 8 (uns n) w HB.out (by omega) (by omega) (by omega)).mono ?_; rintro e w1 ⟨rfl, hr1, hb1⟩; have HR1 : Hid ((mkB w.heap.size (B.len + 8) (numG B 8 (uns n))).At w1) := num_at HB.out hr1 (by omega); clear hr1)
  go_ret
  exact ⟨rfl, HR1.out, hb1⟩

/-- Byte i of a string. -/
def sB (s : ByteArray) (i : Nat) : Nat := (s.data.toList.getD i 0).toNat
theorem sB_lt (s : ByteArray) (i : Nat) : sB s i < 256 := UInt8.toNat_lt _
def sL (s : ByteArray) : List Nat := s.data.toList.map UInt8.toNat
theorem sL_len (s : ByteArray) : (sL s).length = s.size := by simp [sL]
theorem sL_range (s : ByteArray) : (List.range s.size).map (sB s) = sL s := by
  apply List.ext_getElem?
  intro i
  by_cases h : i < s.size
  · simp [sL, sB, h]
  · have h' : s.data.toList.length ≤ i := by rw [← Lib.size_eq]; omega
    rw [List.getElem?_eq_none (by simp; omega), List.getElem?_eq_none (by rw [sL_len]; omega)]

/-- The row with s laid over it from o on. -/
def strF (F : Nat → Value) (o : Nat) (s : ByteArray) (j : Nat) : Value := if o ≤ j ∧ j < o + s.size then .int .u8 (sB s (j - o)) else F j

theorem wpList_copy_str {w : World} {ops : Array Oper} {rest : List Oper} {o : Oper} {a : Act} {Q : Exit → Act → World → Prop} (hgd : o.guard = none) (d x : Operand) 
    (ho : o.op = .call { callee := .builtin .copy, args := #[d, x], argTypes := #[22, 9] }) (dp : Option Addr) (dLen dCap : Nat) (s : ByteArray) (hd : a.eval d = .slice dp dLen dCap) (hs : a.eval x = .string s)
    (g off N : Nat) (F : Nat → Value) (hg : w.rowIs g 5 N F) (hpos : 0 < s.size → dp = some ⟨g, off, none⟩) (hle : s.size ≤ dLen) (hfit : off + s.size ≤ N)
    (h : ∀ w', Hid (w'.rowIs g 5 N (strF F off s)) → w.grownBy w' (some g) → wpList Try.prog ops Q rest (a.put o.dst (goInt s.size)) w') : wpList Try.prog ops Q (o :: rest) a w := by
  obtain ⟨i0, hi, hz0, hz1, hz2⟩ := info_parts Try.infoByte
  refine wpList_plain hgd fun K hK => ?_
  by_cases h0 : s.size = 0
  · have hrun := Lib.run_copy_empty_string (P := Try.prog) w 22 9 o.type 5 dp dLen dCap s Try.underlying22 (by rw [hi]; rfl) h0
    unfold Oper.wp
    simp [execOp, ho, resolve, invoke, builtin, hd, hs, hrun, Result.andThen]
    refine hK _ _ ?_
    have := h w (hg.congr (fun j _ => by unfold strF; rw [if_neg (by omega)])) (gb_refl _ _)
    rw [h0] at this
    exact this
  · obtain ⟨cur, hb, hsz, hc⟩ := hg
    obtain rfl := hpos (by omega)
    have hrun := Lib.run_copy_row_string (P := Try.prog) w 22 9 o.type 5 g off dLen dCap s cur 5 Try.underlying22 (by rw [hi]; simp [hz1]) hb hle (by omega)
    unfold Oper.wp
    simp [execOp, ho, resolve, invoke, builtin, hd, hs, hrun, Result.andThen]
    refine hK _ _ ?_
    refine h _ (show World.rowIs _ _ _ _ _ from ⟨_, setRow_heap w g _ _ 5 _ hb, ?_, fun j hj => ?_⟩) ⟨rfl, rfl, rfl, by simp [World.setRow], fun k _ hk => setRow_other w g k _ (fun e => hk (by rw [e]))⟩
    · simp [Lib.byteCells_length]; omega
    · have hl : (Lib.byteCells s.data.toList).length = s.size := by rw [Lib.byteCells_length, ← Lib.size_eq]
      have hcl : ∀ i, cur.toList[i]? = cur[i]? := fun i => Array.getElem?_toList
      rw [List.getElem?_toArray]
      have ht : (cur.toList.take off).length = off := by simp; omega
      unfold strF
      by_cases h1 : j < off
      · rw [List.getElem?_append_left (by omega), List.getElem?_take_of_lt h1, if_neg (by omega), hcl]
        exact hc j hj
      · rw [List.getElem?_append_right (by omega), ht]
        by_cases h2 : j < off + s.size
        · rw [List.getElem?_append_left (by omega), if_pos (by omega)]
          have h' : j - off < s.data.toList.length := by rw [← Lib.size_eq]; omega
          unfold Lib.byteCells sB
          rw [List.getElem?_map, List.getElem?_eq_getElem h', List.getD_eq_getElem?_getD, List.getElem?_eq_getElem h']
          rfl
        · rw [List.getElem?_append_right (by omega), if_neg (by omega), hl, List.getElem?_drop, hcl, show off + s.size + (j - off - s.size) = j by omega]
          exact hc j hj

/-- The row behind 'Text'. -/
def txtG (B : Bys) (s : ByteArray) (j : Nat) : Nat := if j < B.len then B.g j else if j < B.len + 2 then beF 2 s.size (j - B.len) else sB s (j - (B.len + 2))
theorem txtG_lt {B : Bys} {w : World} (h : B.At w) (s : ByteArray) (j : Nat) : txtG B s j < 256 := by
  unfold txtG; split
  · exact B.g_lt h j
  · split
    · exact beF_lt _ _ _
    · exact sB_lt _ _
theorem txtG_l (B : Bys) (b : Nat) (s : ByteArray) : (mkB b (B.len + (2 + s.size)) (txtG B s)).l = B.l ++ (be 2 s.size ++ sL s) := by
  show (List.range (B.len + (2 + s.size))).map (txtG B s) = _
  rw [range_split, range_split, ← B.g_l, ← sL_range]
  congr 1
  · apply List.map_congr_left
    intro i hi
    rw [List.mem_range] at hi
    unfold txtG; rw [if_pos hi]
  · congr 1
    · unfold be
      apply List.map_congr_left
      intro i hi
      rw [List.mem_range] at hi
      unfold txtG; rw [if_neg (by omega), if_pos (by omega), Nat.add_sub_cancel_left]
    · apply List.map_congr_left
      intro i _
      unfold txtG; rw [if_neg (by omega), if_neg (by omega), ← Nat.add_assoc, Nat.add_sub_cancel_left]
theorem txt_at {w w' : World} {B : Bys} {g : Nat} {s : ByteArray} (hB : B.At w) (h : w'.rowIs g 5 (B.len + (2 + s.size)) (strF (putF (longF B) B.len 2 s.size 0) (B.len + 2) s)) (hn : B.len + (2 + s.size) ≤ 9223372036854775807) : (mkB g (B.len + (2 + s.size)) (txtG B s)).At w' := by
  refine mkB_at (h.congr (fun j hj => ?_)) (txtG_lt hB s) hn
  unfold strF putF longF txtG Bys.g
  by_cases h1 : j < B.len
  · rw [if_neg (by omega), if_neg (by omega), if_pos h1, if_pos h1, if_pos h1]
  · by_cases h2 : j < B.len + 2
    · rw [if_neg (by omega), if_pos (by omega), if_neg h1, if_pos h2]
    · rw [if_pos (by omega), if_neg h1, if_neg h2]

set_option maxHeartbeats 1000000 in
theorem wtext_no (B : Bys) (s : ByteArray) (w : World) (hs : 65535 < s.size) (hz : s.size ≤ 9223372036854775807) :
    Calls Try.prog 12 #[.slice B.ao B.len B.cap, .string s] w fun e w' => e = .returned (.tuple #[.slice none 0 0, .int .i64 1]) ∧ w' = w := by
  go_enter Try.func12, Try.ntmps12
  go_wp2
  go_ret2
  exact ⟨rfl, rfl⟩

theorem longer_txt (B : Bys) (s : ByteArray) (w : World) (hB : B.At w) (hm : B.len + (2 + s.size) ≤ 1000000) :
    Calls Try.prog 31 #[.slice B.ao B.len B.cap, .int .i64 (2 + (s.size : Int))] w fun e w' => e = .returned (.slice (some ⟨w.heap.size, 0, none⟩) (B.len + (2 + s.size) : Nat) (B.len + (2 + s.size) : Nat)) ∧ w'.rowIs w.heap.size 5 (B.len + (2 + s.size)) (longF B) ∧ Below w.heap.size w w' := by
  have hl := longer_any B (2 + s.size) w hB hm
  rwa [show ((2 + s.size : Nat) : Int) = 2 + (s.size : Int) by omega] at hl

set_option maxHeartbeats 1000000 in
theorem wtext_yes (B : Bys) (s : ByteArray) (w : World) (hB : B.At w) (hm : B.len ≤ 900000) (hs : s.size ≤ 65535) :
    Calls Try.prog 12 #[.slice B.ao B.len B.cap, .string s] w fun e w' => e = .returned (.tuple #[.slice (some ⟨w.heap.size, 0, none⟩) (B.len + (2 + s.size) : Nat) (B.len + (2 + s.size) : Nat), .int .i64 0]) ∧ (mkB w.heap.size (B.len + (2 + s.size)) (txtG B s)).At w' ∧ Below w.heap.size w w' := by
  have HB : Hid (B.At w) := hB
  clear hB
  go_enter Try.func12, Try.ntmps12
  by_cases h0 : s.size = 0
  · have H0 : Hid (s.size = 0) := h0
    clear h0
    go_wp2_with (first
      | (go_at_call 31; refine (longer_txt B s w HB.out (by omega)).mono ?_; rintro e w1 ⟨rfl, hr1, hb1⟩; have HR1 : Hid (w1.rowIs w.heap.size 5 (B.len + (2 + s.size)) (longF B)) := hr1; clear hr1)
      | (go_at_call 32; refine (put_any (longF B) w.heap.size (B.len + (2 + s.size)) B.len 2 _ s.size w1 HR1.out (by omega) (by omega)).mono ?_; rintro e w2 ⟨rfl, hr2, hg2⟩; have HR2 : Hid (w2.rowIs w.heap.size 5 (B.len + (2 + s.size)) (putF (longF B) B.len 2 s.size 0)) := hr2; have hb2 : Below w.heap.size w w2 := hb1.grown hg2 hb1.size (fun k hk => by injection hk with hk; omega); clear hr2 hg2)
      | (refine wpList_copy_str rfl (.tmp 30) (.tmp 31) rfl _ _ _ s rfl rfl w.heap.size (B.len + 2) (B.len + (2 + s.size)) _ HR2.out (fun h => absurd h (by have := H0.out; omega)) (by omega) (by omega) ?_; intro w3 HR3 hg3; have hb3 : Below w.heap.size w w3 := hb2.grown hg3 hb2.size (fun k hk => by injection hk with hk; omega)))
    · have he : s = ByteArray.empty := by assumption
      have HX : Hid ((mkB w.heap.size (B.len + (2 + s.size)) (txtG B s)).At w3) := txt_at HB.out HR3.out (by have := H0.out; omega)
      have HY : Hid ((mkB w.heap.size (B.len + 2) (txtG B ByteArray.empty)).At w3) := by have h := HX.out; rw [he] at h; exact h
      go_ret2
      exact ⟨rfl, HY.out, hb3⟩
    · have he : ¬ s = ByteArray.empty := by assumption
      exact absurd (by have := H0.out; exact ByteArray.ext (Array.eq_empty_of_size_eq_zero this)) he
  · go_wp2_with (first
      | (go_at_call 31; refine (longer_txt B s w HB.out (by omega)).mono ?_; rintro e w1 ⟨rfl, hr1, hb1⟩; have HR1 : Hid (w1.rowIs w.heap.size 5 (B.len + (2 + s.size)) (longF B)) := hr1; clear hr1)
      | (go_at_call 32; refine (put_any (longF B) w.heap.size (B.len + (2 + s.size)) B.len 2 _ s.size w1 HR1.out (by omega) (by omega)).mono ?_; rintro e w2 ⟨rfl, hr2, hg2⟩; have HR2 : Hid (w2.rowIs w.heap.size 5 (B.len + (2 + s.size)) (putF (longF B) B.len 2 s.size 0)) := hr2; have hb2 : Below w.heap.size w w2 := hb1.grown hg2 hb1.size (fun k hk => by injection hk with hk; omega); clear hr2 hg2)
      | (refine wpList_copy_str rfl (.tmp 30) (.tmp 31) rfl _ _ _ s rfl rfl w.heap.size (B.len + 2) (B.len + (2 + s.size)) _ HR2.out (fun _ => rfl) (by omega) (by omega) ?_; intro w3 HR3 hg3; have hb3 : Below w.heap.size w w3 := hb2.grown hg3 hb2.size (fun k hk => by injection hk with hk; omega)))
    go_ret2
    exact ⟨rfl, txt_at HB.out HR3.out (by omega), hb3⟩
end Go.Proofs.Ytboehlfdfpiodaa
