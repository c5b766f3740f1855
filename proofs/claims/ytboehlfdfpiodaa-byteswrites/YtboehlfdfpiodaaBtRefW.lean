/- Layer 4: the walks of the reference's Same, Short, Text and Long, the writers. -/
import Derived.Test.YtboehlfdfpiodaaBtApp
import Derived.Test.YtboehlfdfpiodaaBtMath
import Derived.Lib.AppendStr
import Derived.Deep.Cut
import Derived.Deep.CutRange
import Derived.Deep.DeepCutAuto
namespace Go.Proofs.Ytboehlfdfpiodaa
open Go.RowKit

theorem l_eq {A B : Bys} (h : A.l = B.l) : A.len = B.len ∧ ∀ i, i < A.len → A.f i = B.f i := by
  have hl : A.len = B.len := by rw [← A.len_l, h, B.len_l]
  refine ⟨hl, fun i hi => ?_⟩
  have := congrArg (fun l => l[i]?) h
  simpa [Bys.l, hi, hl ▸ hi] using this

set_option maxHeartbeats 2000000 in
theorem xsame_any (A B : Bys) (w : World) (hA : A.At w) (hB : B.At w) (h : A.l = B.l) :
    Calls Try.prog 14 #[.slice A.ao A.len A.cap, .slice B.ao B.len B.cap] w fun e w' => e = .returned (.bool true) ∧ Below w.heap.size w w' := by
  obtain ⟨hl, hf⟩ := l_eq h
  have HA : Hid (A.At w) := hA
  have HB : Hid (B.At w) := hB
  have hab := hA.bound
  have hal := hA.lc
  have hbb := hB.bound
  have hbl := hB.lc
  have HF : Hid (∀ i, i < A.len → A.f i = B.f i) := hf
  rw [← hl]
  rw [← hl] at hbl
  have HL : Hid (A.len = B.len) := hl
  clear hA hB h hl hf
  by_cases hz : A.len = 0
  · rw [hz]
    go_enter Try.func14, Try.ntmps14
    go_wp2
    go_loop [5] (fun i => i = .int .i64 0) (fun _ => 0)
    case atStart => rfl
    case round =>
      subst hrel
      go_wp2
      go_ret
      exact ⟨rfl, Below.refl _ _⟩
  have ha := HA.out.nil (by omega)
  have hb := HB.out.nil (by have := HL.out; omega)
  rw [ha, hb]
  clear ha hb
  go_enter Try.func14, Try.ntmps14
  go_wp2
  go_loopw [5] (fun i wr => ∃ k : Nat, k ≤ A.len ∧ i = .int .i64 k ∧ Below w.heap.size w wr) (fun i _ => A.len - (intOf i).toNat)
  case atStart => exact ⟨0, Nat.zero_le _, rfl, Below.refl _ _⟩
  case round =>
    obtain ⟨k, hk, rfl, hw⟩ := hrel
    have HW : Hid (Below w.heap.size w wr) := hw
    clear hw
    by_cases hlt : k < A.len
    · have c1 := (HA.out.kept HW.out).cell k hlt
      have c2 := (HB.out.kept HW.out).cell k (by have := HL.out; omega)
      rw [← HF.out k hlt] at c2
      go_wp2
      go_region
      go_wp2
      go_roundw
      case rel => exact ⟨k + 1, by omega, by go_num, HW.out.drew⟩
      case measure => simp [intOf]; omega
    · go_wp2
      go_ret
      exact ⟨rfl, HW.out⟩

theorem one_at (w : World) (x : Nat) (hx : x < 256) (T : TypeId) : (mkB w.heap.size 1 (fun _ => x)).At (w.alloc (.cells #[.int .u8 x] T)) :=
  ⟨Nat.le_refl _, fun _ => rfl, fun h => (by cases h), (by show (1 : Nat) ≤ _; omega), fun i hi => (by
    have hi' : i < 1 := hi
    have : i = 0 := by omega
    subst this
    show (w.alloc _).cell? ⟨w.heap.size, 0 + 0, none⟩ = some (.int .u8 (x : Int))
    simp), fun _ _ => hx⟩
theorem Own.alloc {w : World} {base : Nat} {v : Value} {l : List Nat} (h : Own w base v l) (o : Obj) : Own (w.alloc o) base v l := ⟨h.1.alloc o, h.2⟩
theorem be2 (n : Nat) (h : n ≤ 65535) : be 2 n = [n / 256, n % 256] := by
  show [n / 256 ^ 1 % 256, n / 256 ^ 0 % 256] = _
  rw [Nat.pow_one, Nat.pow_zero, Nat.div_one]
  congr 1
  omega

set_option maxHeartbeats 2000000 in
theorem xwshort_no (B : Bys) (n : Int) (w : World) (hn : n < 0 ∨ 65535 < n) :
    Calls Try.prog 11 #[.slice B.ao B.len B.cap, .int .i64 n] w fun e w' => e = .returned (.tuple #[.slice none 0 0, .int .i64 10]) ∧ w' = w := by
  rcases hn with hn | hn
  all_goals
    go_enter Try.func11, Try.ntmps11
    go_wp2
    go_ret2
    exact ⟨rfl, rfl⟩

set_option maxHeartbeats 2000000 in
theorem xwshort_yes (B : Bys) (n : Nat) (w : World) (hB : B.At w) (hm : B.len ≤ 900000) (hn : n ≤ 65535) :
    Calls Try.prog 11 #[.slice B.ao B.len B.cap, .int .i64 n] w fun e w' => ∃ v, e = .returned (.tuple #[v, .int .i64 0]) ∧ Own w' w.heap.size v (B.l ++ be 2 n) ∧ Below w.heap.size w w' := by
  have HB : Hid (B.At w) := hB
  clear hB
  obtain ⟨x, hx⟩ : ∃ x, x = n / 256 := ⟨_, rfl⟩
  obtain ⟨y, hy⟩ : ∃ y, y = n % 256 := ⟨_, rfl⟩
  have HE : Hid (be 2 n = [x, y]) := by show _ = _; rw [be2 n hn, hx, hy]
  have hx8 : x < 256 := by omega
  have hy8 : y < 256 := by omega
  have i1 : (n : Int).tdiv 256 = (x : Int) := by rw [hx]; exact (Int.ofNat_tdiv n 256).symm
  have i2 : (n : Int).tmod 256 = (y : Int) := by rw [hy]; exact Int.ofNat_tmod n 256
  clear hx hy
  go_enter Try.func11, Try.ntmps11
  go_wp2_with (first
    | (refine wpList_append_bys rfl (.tmp 13) (.tmp 14) rfl w.heap.size _ [] rfl (Own.nil _ _) B rfl HB.out (by show 0 + B.len ≤ _; omega) (Nat.le_refl _) ?_; intro v1 w1 HO1 hg1; have HB1 : Hid (Below w.heap.size w w1) := (Below.refl _ _).grown hg1 (Nat.le_refl _) (fun k hk => by cases hk); have hs1 := HB1.out.size; clear hg1)
    | (refine wpList_append_bys rfl (.tmp 16) (.tmp 20) rfl w.heap.size _ _ rfl (HO1.out.alloc _) (mkB w1.heap.size 1 (fun _ => x)) rfl (one_at w1 x hx8 _) (by show ([] ++ B.l).length + 1 ≤ _; rw [List.nil_append, B.len_l]; omega) (Nat.le_of_lt (by simp; omega)) ?_; intro v2 w2 HO2 hg2; have HB2 : Hid (Below w.heap.size w w2) := (HB1.out.alloc hs1 _).grown hg2 (Nat.le_of_lt (by simp; omega)) HO1.out.block; have hs2 := HB2.out.size; clear hg2)
    | (refine wpList_append_bys rfl (.tmp 22) (.tmp 26) rfl w.heap.size _ _ rfl (HO2.out.alloc _) (mkB w2.heap.size 1 (fun _ => y)) rfl (one_at w2 y hy8 _) (by show ([] ++ B.l ++ [x]).length + 1 ≤ _; rw [List.nil_append, List.length_append, B.len_l]; simp; omega) (Nat.le_of_lt (by simp; omega)) ?_; intro v3 w3 HO3 hg3; have HB3 : Hid (Below w.heap.size w w3) := (HB2.out.alloc hs2 _).grown hg3 (Nat.le_of_lt (by simp; omega)) HO2.out.block; clear hg3))
  go_ret2
  refine ⟨_, rfl, ?_, HB3.out⟩
  have h := HO3.out
  rw [HE.out]
  rw [show (mkB w1.heap.size 1 fun _ => x).l = [x] from rfl, show (mkB w2.heap.size 1 fun _ => y).l = [y] from rfl] at h
  simpa using h

/-- What Short and Text write, and tell. -/
def shortR (l : List Nat) (n : Int) : List Nat × Int := if 0 ≤ n ∧ n ≤ 65535 then (l ++ be 2 n.toNat, 0) else ([], 10)
def textR (l : List Nat) (s : ByteArray) : List Nat × Int := if s.size ≤ 65535 then (l ++ (be 2 s.size ++ sL s), 0) else ([], 1)

theorem wshort_r (B : Bys) (n : Int) (w : World) (hB : B.At w) (hm : B.len ≤ 900000) :
    Calls Try.prog 10 #[.slice B.ao B.len B.cap, .int .i64 n] w fun e w' => ∃ E : Bys, e = .returned (.tuple #[.slice E.ao E.len E.cap, .int .i64 (shortR B.l n).2]) ∧ E.At w' ∧ E.l = (shortR B.l n).1 ∧ Below w.heap.size w w' := by
  by_cases h : 0 ≤ n ∧ n ≤ 65535
  · have e : shortR B.l n = (B.l ++ be 2 n.toNat, 0) := if_pos h
    rw [e]
    obtain ⟨m, rfl⟩ := Int.eq_ofNat_of_zero_le h.1
    refine (wshort_yes B m w hB (by omega) (by omega)).mono ?_
    rintro e w' ⟨rfl, h1, hb⟩
    exact ⟨_, rfl, h1, numG_l B _ 2 m, hb⟩
  · have e : shortR B.l n = ([], 10) := if_neg h
    rw [e]
    refine (wshort_no B n w (by omega)).mono ?_
    rintro e w' ⟨rfl, rfl⟩
    exact ⟨⟨none, 0, 0, 0, 0, fun _ => 0⟩, rfl, nil_at _, rfl, Below.refl _ _⟩
theorem xwshort_r (B : Bys) (n : Int) (w : World) (hB : B.At w) (hm : B.len ≤ 900000) :
    Calls Try.prog 11 #[.slice B.ao B.len B.cap, .int .i64 n] w fun e w' => ∃ E : Bys, e = .returned (.tuple #[.slice E.ao E.len E.cap, .int .i64 (shortR B.l n).2]) ∧ E.At w' ∧ E.l = (shortR B.l n).1 ∧ Below w.heap.size w w' := by
  by_cases h : 0 ≤ n ∧ n ≤ 65535
  · have e : shortR B.l n = (B.l ++ be 2 n.toNat, 0) := if_pos h
    rw [e]
    obtain ⟨m, rfl⟩ := Int.eq_ofNat_of_zero_le h.1
    refine (xwshort_yes B m w hB hm (by omega)).mono ?_
    rintro e w' ⟨v, rfl, h1, hb⟩
    obtain ⟨R, rfl, hR, hl, _⟩ := h1.bys
    exact ⟨R, rfl, hR, hl, hb⟩
  · have e : shortR B.l n = ([], 10) := if_neg h
    rw [e]
    refine (xwshort_no B n w (by omega)).mono ?_
    rintro e w' ⟨rfl, rfl⟩
    exact ⟨⟨none, 0, 0, 0, 0, fun _ => 0⟩, rfl, nil_at _, rfl, Below.refl _ _⟩
theorem wtext_r (B : Bys) (s : ByteArray) (w : World) (hB : B.At w) (hm : B.len ≤ 900000) (hs : s.size ≤ 9223372036854775807) :
    Calls Try.prog 12 #[.slice B.ao B.len B.cap, .string s] w fun e w' => ∃ E : Bys, e = .returned (.tuple #[.slice E.ao E.len E.cap, .int .i64 (textR B.l s).2]) ∧ E.At w' ∧ E.l = (textR B.l s).1 ∧ Below w.heap.size w w' := by
  by_cases h : s.size ≤ 65535
  · have e : textR B.l s = (B.l ++ (be 2 s.size ++ sL s), 0) := if_pos h
    rw [e]
    refine (wtext_yes B s w hB hm h).mono ?_
    rintro e w' ⟨rfl, h1, hb⟩
    exact ⟨_, rfl, h1, txtG_l B _ s, hb⟩
  · have e : textR B.l s = ([], 1) := if_neg h
    rw [e]
    refine (wtext_no B s w (by omega) hs).mono ?_
    rintro e w' ⟨rfl, rfl⟩
    exact ⟨⟨none, 0, 0, 0, 0, fun _ => 0⟩, rfl, nil_at _, rfl, Below.refl _ _⟩

theorem sL_lt (s : ByteArray) : ∀ x ∈ sL s, x < 256 := by
  intro x hx
  simp only [sL, List.mem_map] at hx
  obtain ⟨u, _, rfl⟩ := hx
  exact UInt8.toNat_lt u
theorem strCells_L (s : ByteArray) : Lib.strCells s = cellsL (sL s) := by simp [Lib.strCells, cellsL, sL, Function.comp_def]
theorem wpList_append_str {w : World} {ops : Array Oper} {rest : List Oper} {o : Oper} {a : Act} {Q : Exit → Act → World → Prop} (hgd : o.guard = none) (sl x : Operand)
    (hop : o.op = .call { callee := .builtin .append, args := #[sl, x], argTypes := #[22, 9] }) (base : Nat) (v : Value) (l : List Nat) (hs : a.eval sl = v) (ho : Own w base v l) (s : ByteArray) (hx : a.eval x = .string s)
    (hm : l.length + s.size ≤ 10000000) (hb : base ≤ w.heap.size) (h : ∀ v' w', Hid (Own w' base v' (l ++ sL s)) → w.grownBy w' v.ownBlock → wpList Try.prog ops Q rest (a.put o.dst v') w') : wpList Try.prog ops Q (o :: rest) a w := by
  obtain ⟨i0, hi, hz0, hz1, hz2⟩ := info_parts Try.infoByte
  refine Lib.wpList_append_own_string w hgd sl x 22 9 hop base 5 i0 Try.underlying22 Try.underlying9 hi hz0 hz1 hz2 v _ _ hs ho.1 s hx (by unfold maxLen; omega) (by omega) hb ?_
  intro v' w' h1 h2 _
  refine h v' w' (show Own w' base v' (l ++ sL s) from ⟨?_, ?_⟩) h2
  · rw [← cellsL_app, ← strCells_L, List.length_append, sL_len]; exact h1
  · intro y hy
    rcases List.mem_append.1 hy with h' | h'
    · exact ho.2 y h'
    · exact sL_lt s y h'
set_option maxHeartbeats 2000000 in
theorem xwtext_r (B : Bys) (s : ByteArray) (w : World) (hB : B.At w) (hm : B.len ≤ 900000) (hs : s.size ≤ 9223372036854775807) :
    Calls Try.prog 13 #[.slice B.ao B.len B.cap, .string s] w fun e w' => ∃ E : Bys, e = .returned (.tuple #[.slice E.ao E.len E.cap, .int .i64 (textR B.l s).2]) ∧ E.At w' ∧ E.l = (textR B.l s).1 ∧ Below w.heap.size w w' := by
  have HB : Hid (B.At w) := hB
  clear hB
  by_cases h : s.size ≤ 65535
  · have e : textR B.l s = (B.l ++ (be 2 s.size ++ sL s), 0) := if_pos h
    rw [e]
    clear e
    go_enter Try.func13, Try.ntmps13
    go_wp2_with (first
      | (go_at_call 11; refine (xwshort_yes B s.size w HB.out hm h).mono ?_; rintro e w1 ⟨v1, rfl, h1, hb1⟩; have HO1 : Hid (Own w1 w.heap.size v1 (B.l ++ be 2 s.size)) := h1; have HB1 : Hid (Below w.heap.size w w1) := hb1; have HN : Hid ((B.l ++ be 2 s.size).length = B.len + 2) := (by show _ = _; rw [List.length_append, B.len_l, be_len]); clear h1 hb1)
      | (refine wpList_append_str rfl (.tmp 17) (.tmp 18) rfl w.heap.size v1 _ rfl HO1.out s rfl (by rw [HN.out]; omega) HB1.out.size ?_; intro v2 w2 HO2 hg2; have HB2 : Hid (Below w.heap.size w w2) := HB1.out.grown hg2 HB1.out.size HO1.out.block; clear hg2))
    obtain ⟨R, rfl, hR, hl, _⟩ := HO2.out.bys
    have HRR : Hid (R.At w2 ∧ R.l = B.l ++ (be 2 s.size ++ sL s)) := ⟨hR, by rw [hl, List.append_assoc]⟩
    clear hR hl
    go_ret2
    exact ⟨R, rfl, HRR.out.1, HRR.out.2, HB2.out⟩
  · have e : textR B.l s = ([], 1) := if_neg h
    rw [e]
    go_enter Try.func13, Try.ntmps13
    go_wp2_with (go_at_call 11; refine (xwshort_no B s.size w (by omega)).mono ?_; rintro e w1 ⟨rfl, rfl⟩)
    go_ret2
    exact ⟨⟨none, 0, 0, 0, 0, fun _ => 0⟩, rfl, nil_at _, rfl, Below.refl _ _⟩

/-- Byte by byte, by division downwards. -/
def dn (N : Int) : Nat → Int
  | 0 => N
  | t + 1 => dn N t / 256
theorem dn_byte (N : Int) (t : Nat) (ht : t < 8) : dn N t % 256 = (beF 8 (uns N) (7 - t) : Int) := by
  unfold beF uns
  have key : ∀ c : Nat, 0 < c → True := fun _ _ => trivial
  match t, ht with
  | 0, _ => simp only [dn]; show _ = (((N % 18446744073709551616).toNat / 256 ^ 0 % 256 : Nat) : Int); omega
  | 1, _ => simp only [dn]; show _ = (((N % 18446744073709551616).toNat / 256 ^ 1 % 256 : Nat) : Int); omega
  | 2, _ => simp only [dn]; show _ = (((N % 18446744073709551616).toNat / 256 ^ 2 % 256 : Nat) : Int); omega
  | 3, _ => simp only [dn]; show _ = (((N % 18446744073709551616).toNat / 256 ^ 3 % 256 : Nat) : Int); omega
  | 4, _ => simp only [dn]; show _ = (((N % 18446744073709551616).toNat / 256 ^ 4 % 256 : Nat) : Int); omega
  | 5, _ => simp only [dn]; show _ = (((N % 18446744073709551616).toNat / 256 ^ 5 % 256 : Nat) : Int); omega
  | 6, _ => simp only [dn]; show _ = (((N % 18446744073709551616).toNat / 256 ^ 6 % 256 : Nat) : Int); omega
  | 7, _ => simp only [dn]; show _ = (((N % 18446744073709551616).toNat / 256 ^ 7 % 256 : Nat) : Int); omega
theorem dn_range (N : Int) (h : -9223372036854775808 ≤ N ∧ N ≤ 9223372036854775807) (t : Nat) : -9223372036854775808 ≤ dn N t ∧ dn N t ≤ 9223372036854775807 := by
  induction t with
  | zero => exact h
  | succ t ih => show _ ≤ dn N t / 256 ∧ dn N t / 256 ≤ _; omega
end Go.Proofs.Ytboehlfdfpiodaa
