/- Layer 13: class.all, over each kind of list. -/
import Derived.Test.YtjfijpiadfkmfaaGreatDoorP14
import Derived.Test.YtjfijpiadfkmfaaGreatDoorP10
import Derived.Test.YtjfijpiadfkmfaaGreatDoorP11
import Derived.Test.YtjfijpiadfkmfaaGreatDoorP12
namespace Go.Proofs.YtjfijpiadfkmfaaGreatDoor
open Go Go.RowKit

/-- What all answers, and what holds behind it. -/
structure AllR (I : Nat → World → Prop) (J : World → Prop) (len : Nat) (ans : Nat → Bool) (e : Ending) (w' : World) : Prop where
  ret : e = .returned (.bool (decide (∀ i, i < len → ans i = true)))
  yes : (∀ i, i < len → ans i = true) → I len w'
  no : (∃ i, i < len ∧ ans i = false) → J w'

def z_ty : List Value := [.int .i64 0, .int .i64 0, .slice none 0 0, .int .i64 0, .int .i64 0]
theorem alloc_ty (w : World) : (Instr.alloc 36 true (.tuple #[])).run Tryz.prog w = .ok (.pointer (some ⟨w.heap.size, 0, none⟩)) (w.alloc (.cells z_ty.toArray 36)) := by
  have hz : (Tryz.prog.info? 36).map (·.zero) = some (some (.agg z_ty.toArray)) := by kernel_rfl
  cases hq : Tryz.prog.info? 36 with
  | none => rw [hq] at hz; simp at hz
  | some i =>
    rw [hq] at hz
    simp at hz
    simp [Instr.alloc, newVar, newRow, zeroValue, typeInfo, hq, hz, Value.cells, z_ty]

set_option maxRecDepth 100000 in
set_option maxHeartbeats 8000000 in
theorem all_ty (q : Value) (I : Nat → World → Prop) (J : World → Prop) (ans : Nat → Bool) (ao : Option Addr) (b o len cap : Nat) (vs : Nat → List Value) (w : World) (hnil : 0 < len → ao = some ⟨b, o, none⟩) (hbd : len ≤ 9223372036854775807)
    (hz : ∀ i, i < len → (vs i).length = 5) (h1 : ∀ i, i < len → (vs i).all (·.oneCell') = true) (hrow : ∀ i u, i < len → I i u → u.rangeAt b (o + i * 5) (vs i)) (hgrow : ∀ i u u', i ≤ len → I i u → Below u.heap.size u u' → I i u')
    (hcall : ∀ i u, i < len → I i u → Calls Tryz.prog 43 #[q, .agg (vs i).toArray] u fun e u' => e = .returned (.bool (ans i)) ∧ (ans i = true → I (i + 1) u') ∧ (ans i = false → J u')) (hI : I 0 w) :
    Calls Tryz.prog 83 #[.slice ao len cap, .func (.func 43) #[q] #[]] w fun e w' => AllR I J len ans e w' := by
  have HI := hyd hI
  have HH := hyd (show (∀ i, i < len → (vs i).length = 5) ∧ (∀ i, i < len → (vs i).all (·.oneCell') = true) ∧ (∀ i u, i < len → I i u → u.rangeAt b (o + i * 5) (vs i)) ∧ (∀ i u u', i ≤ len → I i u → Below u.heap.size u u' → I i u') from ⟨hz, h1, hrow, hgrow⟩)
  have HC := hyd hcall
  clear hI hz h1 hrow hgrow hcall
  go_enter Tryz.func83, Tryz.ntmps83
  go_wp2
  go_loopw [9] (fun i wr => ∃ (k : Nat), k ≤ len ∧ i = .int .i64 k ∧ (∀ i, i < k → ans i = true) ∧ I k wr) (fun i _ => len - (intOf i).toNat)
  case atStart => exact ⟨0, Nat.zero_le _, rfl, fun i hi => absurd hi (Nat.not_lt_zero _), HI.out⟩
  case round =>
    clear HI
    obtain ⟨k, hk, rfl, hall, hB⟩ := hrel
    have HA := hyd hall
    have HI := hyd hB
    clear hall hB
    by_cases hlt : k < len
    · have ij : (k : Int) < len := by omega
      have a0 := hnil (by omega)
      subst a0
      have r1 : wr.rangeAt b (o + k * 5) (vs k) := HH.out.2.2.1 k wr hlt HI.out
      have hl1 := HH.out.1 k hlt
      have ho1 := HH.out.2.1 k hlt
      have hcl : Calls Tryz.prog 43 #[q, .agg (vs k).toArray] (wr.alloc (.cells (vs k).toArray 36)) _ := HC.out k _ hlt (HH.out.2.2.2 k wr _ hk HI.out (below_alloc wr _))
      have HK := hyd (show ∀ i, i < k → ans i = true from HA.out)
      have bN : Blk (wr.alloc (.cells (vs k).toArray 36)) wr.heap.size (vs k) 36 := Blk.new wr _ _
      clear HI
      generalize vs k = xs at *
      have hi18 : (Tryz.prog.info? 36).map (·.size) = some xs.length := by rw [hl1]; kernel_rfl
      go_upto_region 4 with (first | (refine wpList_load_mid rfl 36 (.tmp 11) rfl b (o + k * 5) (by kernel_rfl) xs _ r1 Tryz.underlying36 rfl hi18 ?_) | (refine wpList_new_mid rfl rfl 36 rfl (.tmp 6) (.tmp 12) rfl z_ty (alloc_ty _) rfl xs.toArray (by kernel_rfl) (by kernel_rfl) (by rw [List.size_toArray, hl1]; rfl) (by rw [List.size_toArray]; exact hi18) (by simpa using ho1) ?_))
      have rN := bN.range
      generalize (wr.alloc (.cells xs.toArray 36)) = w3 at *
      generalize wr.heap.size = B9 at *
      go_wp2_with (refine wpList_load_mid rfl 36 (.tmp 6) rfl B9 0 (by kernel_rfl) xs _ rN Tryz.underlying36 rfl hi18 ?_)
      refine Calls.mono hcl ?_
      rintro _ w4 ⟨rfl, hy, hn⟩
      clear hcl bN rN r1
      have HAS : Hid ((ans k = true → (∀ i, i < k + 1 → ans i = true) ∧ I (k + 1) w4) ∧ (ans k = false → decide (∀ i, i < len → ans i = true) = false ∧ J w4 ∧ ¬ ∀ i, i < len → ans i = true)) := by
        refine ⟨fun h => ⟨fun i hi => ?_, hy h⟩, fun h => ⟨?_, hn h, fun hh => by rw [hh k hlt] at h; cases h⟩⟩
        · rcases Nat.lt_or_ge i k with h2 | h2
          · exact HK.out i h2
          · have : i = k := by omega
            subst this; exact h
        · rw [decide_eq_false_iff_not]
          intro hh
          rw [hh k hlt] at h
          cases h
      clear hy hn
      generalize ans k = bb at *
      cases bb
      · go_wp2
        go_ret
        have := HAS.out.2 (by simp)
        exact ⟨ret_bool this.1.symm, fun h => absurd h this.2.2, fun _ => this.2.1⟩
      · go_wp2
        go_roundw
        case rel => exact ⟨k + 1, by omega, by go_num, (HAS.out.1 (by simp)).1, (HAS.out.1 (by simp)).2⟩
        case measure => simp [intOf]; omega
    · have e2 : k = len := by omega
      subst e2
      have d : ¬ (k : Int) < k := by omega
      go_wp2
      go_ret
      exact ⟨ret_bool (by symm; rw [decide_eq_true_eq]; exact HA.out), fun _ => HI.out, fun ⟨i, hi, h⟩ => by rw [HA.out i hi] at h; cases h⟩

def z_ins : List Value := [.int .i64 0, .int .i64 0, .int .i64 0, .int .i64 0, .slice none 0 0, .int .i64 0, .int .i64 0]
theorem alloc_ins (w : World) : (Instr.alloc 54 true (.tuple #[])).run Tryz.prog w = .ok (.pointer (some ⟨w.heap.size, 0, none⟩)) (w.alloc (.cells z_ins.toArray 54)) := by
  have hz : (Tryz.prog.info? 54).map (·.zero) = some (some (.agg z_ins.toArray)) := by kernel_rfl
  cases hq : Tryz.prog.info? 54 with
  | none => rw [hq] at hz; simp at hz
  | some i =>
    rw [hq] at hz
    simp at hz
    simp [Instr.alloc, newVar, newRow, zeroValue, typeInfo, hq, hz, Value.cells, z_ins]

set_option maxRecDepth 100000 in
set_option maxHeartbeats 8000000 in
theorem all_ins (q : Value) (I : Nat → World → Prop) (J : World → Prop) (ans : Nat → Bool) (ao : Option Addr) (b o len cap : Nat) (vs : Nat → List Value) (w : World) (hnil : 0 < len → ao = some ⟨b, o, none⟩) (hbd : len ≤ 9223372036854775807)
    (hz : ∀ i, i < len → (vs i).length = 7) (h1 : ∀ i, i < len → (vs i).all (·.oneCell') = true) (hrow : ∀ i u, i < len → I i u → u.rangeAt b (o + i * 7) (vs i)) (hgrow : ∀ i u u', i ≤ len → I i u → Below u.heap.size u u' → I i u')
    (hcall : ∀ i u, i < len → I i u → Calls Tryz.prog 46 #[q, .agg (vs i).toArray] u fun e u' => e = .returned (.bool (ans i)) ∧ (ans i = true → I (i + 1) u') ∧ (ans i = false → J u')) (hI : I 0 w) :
    Calls Tryz.prog 45 #[.slice ao len cap, .func (.func 46) #[q] #[]] w fun e w' => AllR I J len ans e w' := by
  have HI := hyd hI
  have HH := hyd (show (∀ i, i < len → (vs i).length = 7) ∧ (∀ i, i < len → (vs i).all (·.oneCell') = true) ∧ (∀ i u, i < len → I i u → u.rangeAt b (o + i * 7) (vs i)) ∧ (∀ i u u', i ≤ len → I i u → Below u.heap.size u u' → I i u') from ⟨hz, h1, hrow, hgrow⟩)
  have HC := hyd hcall
  clear hI hz h1 hrow hgrow hcall
  go_enter Tryz.func45, Tryz.ntmps45
  go_wp2
  go_loopw [9] (fun i wr => ∃ (k : Nat), k ≤ len ∧ i = .int .i64 k ∧ (∀ i, i < k → ans i = true) ∧ I k wr) (fun i _ => len - (intOf i).toNat)
  case atStart => exact ⟨0, Nat.zero_le _, rfl, fun i hi => absurd hi (Nat.not_lt_zero _), HI.out⟩
  case round =>
    clear HI
    obtain ⟨k, hk, rfl, hall, hB⟩ := hrel
    have HA := hyd hall
    have HI := hyd hB
    clear hall hB
    by_cases hlt : k < len
    · have ij : (k : Int) < len := by omega
      have a0 := hnil (by omega)
      subst a0
      have r1 : wr.rangeAt b (o + k * 7) (vs k) := HH.out.2.2.1 k wr hlt HI.out
      have hl1 := HH.out.1 k hlt
      have ho1 := HH.out.2.1 k hlt
      have hcl : Calls Tryz.prog 46 #[q, .agg (vs k).toArray] (wr.alloc (.cells (vs k).toArray 54)) _ := HC.out k _ hlt (HH.out.2.2.2 k wr _ hk HI.out (below_alloc wr _))
      have HK := hyd (show ∀ i, i < k → ans i = true from HA.out)
      have bN : Blk (wr.alloc (.cells (vs k).toArray 54)) wr.heap.size (vs k) 54 := Blk.new wr _ _
      clear HI
      generalize vs k = xs at *
      have hi18 : (Tryz.prog.info? 54).map (·.size) = some xs.length := by rw [hl1]; kernel_rfl
      go_upto_region 4 with (first | (refine wpList_load_mid rfl 54 (.tmp 11) rfl b (o + k * 7) (by kernel_rfl) xs _ r1 Tryz.underlying54 rfl hi18 ?_) | (refine wpList_new_mid rfl rfl 54 rfl (.tmp 6) (.tmp 12) rfl z_ins (alloc_ins _) rfl xs.toArray (by kernel_rfl) (by kernel_rfl) (by rw [List.size_toArray, hl1]; rfl) (by rw [List.size_toArray]; exact hi18) (by simpa using ho1) ?_))
      have rN := bN.range
      generalize (wr.alloc (.cells xs.toArray 54)) = w3 at *
      generalize wr.heap.size = B9 at *
      go_wp2_with (refine wpList_load_mid rfl 54 (.tmp 6) rfl B9 0 (by kernel_rfl) xs _ rN Tryz.underlying54 rfl hi18 ?_)
      refine Calls.mono hcl ?_
      rintro _ w4 ⟨rfl, hy, hn⟩
      clear hcl bN rN r1
      have HAS : Hid ((ans k = true → (∀ i, i < k + 1 → ans i = true) ∧ I (k + 1) w4) ∧ (ans k = false → decide (∀ i, i < len → ans i = true) = false ∧ J w4 ∧ ¬ ∀ i, i < len → ans i = true)) := by
        refine ⟨fun h => ⟨fun i hi => ?_, hy h⟩, fun h => ⟨?_, hn h, fun hh => by rw [hh k hlt] at h; cases h⟩⟩
        · rcases Nat.lt_or_ge i k with h2 | h2
          · exact HK.out i h2
          · have : i = k := by omega
            subst this; exact h
        · rw [decide_eq_false_iff_not]
          intro hh
          rw [hh k hlt] at h
          cases h
      clear hy hn
      generalize ans k = bb at *
      cases bb
      · go_wp2
        go_ret
        have := HAS.out.2 (by simp)
        exact ⟨ret_bool this.1.symm, fun h => absurd h this.2.2, fun _ => this.2.1⟩
      · go_wp2
        go_roundw
        case rel => exact ⟨k + 1, by omega, by go_num, (HAS.out.1 (by simp)).1, (HAS.out.1 (by simp)).2⟩
        case measure => simp [intOf]; omega
    · have e2 : k = len := by omega
      subst e2
      have d : ¬ (k : Int) < k := by omega
      go_wp2
      go_ret
      exact ⟨ret_bool (by symm; rw [decide_eq_true_eq]; exact HA.out), fun _ => HI.out, fun ⟨i, hi, h⟩ => by rw [HA.out i hi] at h; cases h⟩

def z_fn : List Value := [.int .i64 0, .int .i64 0, .slice none 0 0, .int .i64 0, .int .i64 0, .int .i64 0, .int .i64 0, .slice none 0 0, .int .i64 0, .int .i64 0, .slice none 0 0, .int .i64 0, .int .i64 0, .int .i64 0, .slice none 0 0, .slice none 0 0, .slice none 0 0, .slice none 0 0]
theorem alloc_fn (w : World) : (Instr.alloc 42 true (.tuple #[])).run Tryz.prog w = .ok (.pointer (some ⟨w.heap.size, 0, none⟩)) (w.alloc (.cells z_fn.toArray 42)) := by
  have hz : (Tryz.prog.info? 42).map (·.zero) = some (some (.agg z_fn.toArray)) := by kernel_rfl
  cases hq : Tryz.prog.info? 42 with
  | none => rw [hq] at hz; simp at hz
  | some i =>
    rw [hq] at hz
    simp at hz
    simp [Instr.alloc, newVar, newRow, zeroValue, typeInfo, hq, hz, Value.cells, z_fn]

set_option maxRecDepth 100000 in
set_option maxHeartbeats 8000000 in
theorem all_fn (q : Value) (I : Nat → World → Prop) (J : World → Prop) (ans : Nat → Bool) (ao : Option Addr) (b o len cap : Nat) (vs : Nat → List Value) (w : World) (hnil : 0 < len → ao = some ⟨b, o, none⟩) (hbd : len ≤ 9223372036854775807)
    (hz : ∀ i, i < len → (vs i).length = 18) (h1 : ∀ i, i < len → (vs i).all (·.oneCell') = true) (hrow : ∀ i u, i < len → I i u → u.rangeAt b (o + i * 18) (vs i)) (hgrow : ∀ i u u', i ≤ len → I i u → Below u.heap.size u u' → I i u')
    (hcall : ∀ i u, i < len → I i u → Calls Tryz.prog 22 #[q, .agg (vs i).toArray] u fun e u' => e = .returned (.bool (ans i)) ∧ (ans i = true → I (i + 1) u') ∧ (ans i = false → J u')) (hI : I 0 w) :
    Calls Tryz.prog 21 #[.slice ao len cap, .func (.func 22) #[q] #[]] w fun e w' => AllR I J len ans e w' := by
  have HI := hyd hI
  have HH := hyd (show (∀ i, i < len → (vs i).length = 18) ∧ (∀ i, i < len → (vs i).all (·.oneCell') = true) ∧ (∀ i u, i < len → I i u → u.rangeAt b (o + i * 18) (vs i)) ∧ (∀ i u u', i ≤ len → I i u → Below u.heap.size u u' → I i u') from ⟨hz, h1, hrow, hgrow⟩)
  have HC := hyd hcall
  clear hI hz h1 hrow hgrow hcall
  go_enter Tryz.func21, Tryz.ntmps21
  go_wp2
  go_loopw [9] (fun i wr => ∃ (k : Nat), k ≤ len ∧ i = .int .i64 k ∧ (∀ i, i < k → ans i = true) ∧ I k wr) (fun i _ => len - (intOf i).toNat)
  case atStart => exact ⟨0, Nat.zero_le _, rfl, fun i hi => absurd hi (Nat.not_lt_zero _), HI.out⟩
  case round =>
    clear HI
    obtain ⟨k, hk, rfl, hall, hB⟩ := hrel
    have HA := hyd hall
    have HI := hyd hB
    clear hall hB
    by_cases hlt : k < len
    · have ij : (k : Int) < len := by omega
      have a0 := hnil (by omega)
      subst a0
      have r1 : wr.rangeAt b (o + k * 18) (vs k) := HH.out.2.2.1 k wr hlt HI.out
      have hl1 := HH.out.1 k hlt
      have ho1 := HH.out.2.1 k hlt
      have hcl : Calls Tryz.prog 22 #[q, .agg (vs k).toArray] (wr.alloc (.cells (vs k).toArray 42)) _ := HC.out k _ hlt (HH.out.2.2.2 k wr _ hk HI.out (below_alloc wr _))
      have HK := hyd (show ∀ i, i < k → ans i = true from HA.out)
      have bN : Blk (wr.alloc (.cells (vs k).toArray 42)) wr.heap.size (vs k) 42 := Blk.new wr _ _
      clear HI
      generalize vs k = xs at *
      have hi18 : (Tryz.prog.info? 42).map (·.size) = some xs.length := by rw [hl1]; kernel_rfl
      go_upto_region 4 with (first | (refine wpList_load_mid rfl 42 (.tmp 11) rfl b (o + k * 18) (by kernel_rfl) xs _ r1 Tryz.underlying42 rfl hi18 ?_) | (refine wpList_new_mid rfl rfl 42 rfl (.tmp 6) (.tmp 12) rfl z_fn (alloc_fn _) rfl xs.toArray (by kernel_rfl) (by kernel_rfl) (by rw [List.size_toArray, hl1]; rfl) (by rw [List.size_toArray]; exact hi18) (by simpa using ho1) ?_))
      have rN := bN.range
      generalize (wr.alloc (.cells xs.toArray 42)) = w3 at *
      generalize wr.heap.size = B9 at *
      go_wp2_with (refine wpList_load_mid rfl 42 (.tmp 6) rfl B9 0 (by kernel_rfl) xs _ rN Tryz.underlying42 rfl hi18 ?_)
      refine Calls.mono hcl ?_
      rintro _ w4 ⟨rfl, hy, hn⟩
      clear hcl bN rN r1
      have HAS : Hid ((ans k = true → (∀ i, i < k + 1 → ans i = true) ∧ I (k + 1) w4) ∧ (ans k = false → decide (∀ i, i < len → ans i = true) = false ∧ J w4 ∧ ¬ ∀ i, i < len → ans i = true)) := by
        refine ⟨fun h => ⟨fun i hi => ?_, hy h⟩, fun h => ⟨?_, hn h, fun hh => by rw [hh k hlt] at h; cases h⟩⟩
        · rcases Nat.lt_or_ge i k with h2 | h2
          · exact HK.out i h2
          · have : i = k := by omega
            subst this; exact h
        · rw [decide_eq_false_iff_not]
          intro hh
          rw [hh k hlt] at h
          cases h
      clear hy hn
      generalize ans k = bb at *
      cases bb
      · go_wp2
        go_ret
        have := HAS.out.2 (by simp)
        exact ⟨ret_bool this.1.symm, fun h => absurd h this.2.2, fun _ => this.2.1⟩
      · go_wp2
        go_roundw
        case rel => exact ⟨k + 1, by omega, by go_num, (HAS.out.1 (by simp)).1, (HAS.out.1 (by simp)).2⟩
        case measure => simp [intOf]; omega
    · have e2 : k = len := by omega
      subst e2
      have d : ¬ (k : Int) < k := by omega
      go_wp2
      go_ret
      exact ⟨ret_bool (by symm; rw [decide_eq_true_eq]; exact HA.out), fun _ => HI.out, fun ⟨i, hi, h⟩ => by rw [HA.out i hi] at h; cases h⟩

def z_hn : List Value := [.int .i64 0, .int .i64 0, .int .i64 0]
theorem alloc_hn (w : World) : (Instr.alloc 98 true (.tuple #[])).run Tryz.prog w = .ok (.pointer (some ⟨w.heap.size, 0, none⟩)) (w.alloc (.cells z_hn.toArray 98)) := by
  have hz : (Tryz.prog.info? 98).map (·.zero) = some (some (.agg z_hn.toArray)) := by kernel_rfl
  cases hq : Tryz.prog.info? 98 with
  | none => rw [hq] at hz; simp at hz
  | some i =>
    rw [hq] at hz
    simp at hz
    simp [Instr.alloc, newVar, newRow, zeroValue, typeInfo, hq, hz, Value.cells, z_hn]

set_option maxRecDepth 100000 in
set_option maxHeartbeats 8000000 in
theorem all_hn (I : Nat → World → Prop) (J : World → Prop) (ans : Nat → Bool) (ao : Option Addr) (b o len cap : Nat) (vs : Nat → List Value) (w : World) (hnil : 0 < len → ao = some ⟨b, o, none⟩) (hbd : len ≤ 9223372036854775807)
    (hz : ∀ i, i < len → (vs i).length = 3) (h1 : ∀ i, i < len → (vs i).all (·.oneCell') = true) (hrow : ∀ i u, i < len → I i u → u.rangeAt b (o + i * 3) (vs i)) (hgrow : ∀ i u u', i ≤ len → I i u → Below u.heap.size u u' → I i u')
    (hcall : ∀ i u, i < len → I i u → Calls Tryz.prog 49 #[.agg (vs i).toArray] u fun e u' => e = .returned (.bool (ans i)) ∧ (ans i = true → I (i + 1) u') ∧ (ans i = false → J u')) (hI : I 0 w) :
    Calls Tryz.prog 48 #[.slice ao len cap, .func (.func 49) #[] #[]] w fun e w' => AllR I J len ans e w' := by
  have HI := hyd hI
  have HH := hyd (show (∀ i, i < len → (vs i).length = 3) ∧ (∀ i, i < len → (vs i).all (·.oneCell') = true) ∧ (∀ i u, i < len → I i u → u.rangeAt b (o + i * 3) (vs i)) ∧ (∀ i u u', i ≤ len → I i u → Below u.heap.size u u' → I i u') from ⟨hz, h1, hrow, hgrow⟩)
  have HC := hyd hcall
  clear hI hz h1 hrow hgrow hcall
  go_enter Tryz.func48, Tryz.ntmps48
  go_wp2
  go_loopw [9] (fun i wr => ∃ (k : Nat), k ≤ len ∧ i = .int .i64 k ∧ (∀ i, i < k → ans i = true) ∧ I k wr) (fun i _ => len - (intOf i).toNat)
  case atStart => exact ⟨0, Nat.zero_le _, rfl, fun i hi => absurd hi (Nat.not_lt_zero _), HI.out⟩
  case round =>
    clear HI
    obtain ⟨k, hk, rfl, hall, hB⟩ := hrel
    have HA := hyd hall
    have HI := hyd hB
    clear hall hB
    by_cases hlt : k < len
    · have ij : (k : Int) < len := by omega
      have a0 := hnil (by omega)
      subst a0
      have r1 : wr.rangeAt b (o + k * 3) (vs k) := HH.out.2.2.1 k wr hlt HI.out
      have hl1 := HH.out.1 k hlt
      have ho1 := HH.out.2.1 k hlt
      have hcl : Calls Tryz.prog 49 #[.agg (vs k).toArray] (wr.alloc (.cells (vs k).toArray 98)) _ := HC.out k _ hlt (HH.out.2.2.2 k wr _ hk HI.out (below_alloc wr _))
      have HK := hyd (show ∀ i, i < k → ans i = true from HA.out)
      have bN : Blk (wr.alloc (.cells (vs k).toArray 98)) wr.heap.size (vs k) 98 := Blk.new wr _ _
      clear HI
      generalize vs k = xs at *
      have hi18 : (Tryz.prog.info? 98).map (·.size) = some xs.length := by rw [hl1]; kernel_rfl
      go_upto_region 4 with (first | (refine wpList_load_mid rfl 98 (.tmp 11) rfl b (o + k * 3) (by kernel_rfl) xs _ r1 Tryz.underlying98 rfl hi18 ?_) | (refine wpList_new_mid rfl rfl 98 rfl (.tmp 6) (.tmp 12) rfl z_hn (alloc_hn _) rfl xs.toArray (by kernel_rfl) (by kernel_rfl) (by rw [List.size_toArray, hl1]; rfl) (by rw [List.size_toArray]; exact hi18) (by simpa using ho1) ?_))
      have rN := bN.range
      generalize (wr.alloc (.cells xs.toArray 98)) = w3 at *
      generalize wr.heap.size = B9 at *
      go_wp2_with (refine wpList_load_mid rfl 98 (.tmp 6) rfl B9 0 (by kernel_rfl) xs _ rN Tryz.underlying98 rfl hi18 ?_)
      refine Calls.mono hcl ?_
      rintro _ w4 ⟨rfl, hy, hn⟩
      clear hcl bN rN r1
      have HAS : Hid ((ans k = true → (∀ i, i < k + 1 → ans i = true) ∧ I (k + 1) w4) ∧ (ans k = false → decide (∀ i, i < len → ans i = true) = false ∧ J w4 ∧ ¬ ∀ i, i < len → ans i = true)) := by
        refine ⟨fun h => ⟨fun i hi => ?_, hy h⟩, fun h => ⟨?_, hn h, fun hh => by rw [hh k hlt] at h; cases h⟩⟩
        · rcases Nat.lt_or_ge i k with h2 | h2
          · exact HK.out i h2
          · have : i = k := by omega
            subst this; exact h
        · rw [decide_eq_false_iff_not]
          intro hh
          rw [hh k hlt] at h
          cases h
      clear hy hn
      generalize ans k = bb at *
      cases bb
      · go_wp2
        go_ret
        have := HAS.out.2 (by simp)
        exact ⟨ret_bool this.1.symm, fun h => absurd h this.2.2, fun _ => this.2.1⟩
      · go_wp2
        go_roundw
        case rel => exact ⟨k + 1, by omega, by go_num, (HAS.out.1 (by simp)).1, (HAS.out.1 (by simp)).2⟩
        case measure => simp [intOf]; omega
    · have e2 : k = len := by omega
      subst e2
      have d : ¬ (k : Int) < k := by omega
      go_wp2
      go_ret
      exact ⟨ret_bool (by symm; rw [decide_eq_true_eq]; exact HA.out), fun _ => HI.out, fun ⟨i, hi, h⟩ => by rw [HA.out i hi] at h; cases h⟩

def z_rn : List Value := [.int .i64 0, .int .i64 0, .slice none 0 0]
theorem alloc_rn (w : World) : (Instr.alloc 57 true (.tuple #[])).run Tryz.prog w = .ok (.pointer (some ⟨w.heap.size, 0, none⟩)) (w.alloc (.cells z_rn.toArray 57)) := by
  have hz : (Tryz.prog.info? 57).map (·.zero) = some (some (.agg z_rn.toArray)) := by kernel_rfl
  cases hq : Tryz.prog.info? 57 with
  | none => rw [hq] at hz; simp at hz
  | some i =>
    rw [hq] at hz
    simp at hz
    simp [Instr.alloc, newVar, newRow, zeroValue, typeInfo, hq, hz, Value.cells, z_rn]

set_option maxRecDepth 100000 in
set_option maxHeartbeats 8000000 in
theorem all_rn (I : Nat → World → Prop) (J : World → Prop) (ans : Nat → Bool) (ao : Option Addr) (b o len cap : Nat) (vs : Nat → List Value) (w : World) (hnil : 0 < len → ao = some ⟨b, o, none⟩) (hbd : len ≤ 9223372036854775807)
    (hz : ∀ i, i < len → (vs i).length = 3) (h1 : ∀ i, i < len → (vs i).all (·.oneCell') = true) (hrow : ∀ i u, i < len → I i u → u.rangeAt b (o + i * 3) (vs i)) (hgrow : ∀ i u u', i ≤ len → I i u → Below u.heap.size u u' → I i u')
    (hcall : ∀ i u, i < len → I i u → Calls Tryz.prog 51 #[.agg (vs i).toArray] u fun e u' => e = .returned (.bool (ans i)) ∧ (ans i = true → I (i + 1) u') ∧ (ans i = false → J u')) (hI : I 0 w) :
    Calls Tryz.prog 50 #[.slice ao len cap, .func (.func 51) #[] #[]] w fun e w' => AllR I J len ans e w' := by
  have HI := hyd hI
  have HH := hyd (show (∀ i, i < len → (vs i).length = 3) ∧ (∀ i, i < len → (vs i).all (·.oneCell') = true) ∧ (∀ i u, i < len → I i u → u.rangeAt b (o + i * 3) (vs i)) ∧ (∀ i u u', i ≤ len → I i u → Below u.heap.size u u' → I i u') from ⟨hz, h1, hrow, hgrow⟩)
  have HC := hyd hcall
  clear hI hz h1 hrow hgrow hcall
  go_enter Tryz.func50, Tryz.ntmps50
  go_wp2
  go_loopw [9] (fun i wr => ∃ (k : Nat), k ≤ len ∧ i = .int .i64 k ∧ (∀ i, i < k → ans i = true) ∧ I k wr) (fun i _ => len - (intOf i).toNat)
  case atStart => exact ⟨0, Nat.zero_le _, rfl, fun i hi => absurd hi (Nat.not_lt_zero _), HI.out⟩
  case round =>
    clear HI
    obtain ⟨k, hk, rfl, hall, hB⟩ := hrel
    have HA := hyd hall
    have HI := hyd hB
    clear hall hB
    by_cases hlt : k < len
    · have ij : (k : Int) < len := by omega
      have a0 := hnil (by omega)
      subst a0
      have r1 : wr.rangeAt b (o + k * 3) (vs k) := HH.out.2.2.1 k wr hlt HI.out
      have hl1 := HH.out.1 k hlt
      have ho1 := HH.out.2.1 k hlt
      have hcl : Calls Tryz.prog 51 #[.agg (vs k).toArray] (wr.alloc (.cells (vs k).toArray 57)) _ := HC.out k _ hlt (HH.out.2.2.2 k wr _ hk HI.out (below_alloc wr _))
      have HK := hyd (show ∀ i, i < k → ans i = true from HA.out)
      have bN : Blk (wr.alloc (.cells (vs k).toArray 57)) wr.heap.size (vs k) 57 := Blk.new wr _ _
      clear HI
      generalize vs k = xs at *
      have hi18 : (Tryz.prog.info? 57).map (·.size) = some xs.length := by rw [hl1]; kernel_rfl
      go_upto_region 4 with (first | (refine wpList_load_mid rfl 57 (.tmp 11) rfl b (o + k * 3) (by kernel_rfl) xs _ r1 Tryz.underlying57 rfl hi18 ?_) | (refine wpList_new_mid rfl rfl 57 rfl (.tmp 6) (.tmp 12) rfl z_rn (alloc_rn _) rfl xs.toArray (by kernel_rfl) (by kernel_rfl) (by rw [List.size_toArray, hl1]; rfl) (by rw [List.size_toArray]; exact hi18) (by simpa using ho1) ?_))
      have rN := bN.range
      generalize (wr.alloc (.cells xs.toArray 57)) = w3 at *
      generalize wr.heap.size = B9 at *
      go_wp2_with (refine wpList_load_mid rfl 57 (.tmp 6) rfl B9 0 (by kernel_rfl) xs _ rN Tryz.underlying57 rfl hi18 ?_)
      refine Calls.mono hcl ?_
      rintro _ w4 ⟨rfl, hy, hn⟩
      clear hcl bN rN r1
      have HAS : Hid ((ans k = true → (∀ i, i < k + 1 → ans i = true) ∧ I (k + 1) w4) ∧ (ans k = false → decide (∀ i, i < len → ans i = true) = false ∧ J w4 ∧ ¬ ∀ i, i < len → ans i = true)) := by
        refine ⟨fun h => ⟨fun i hi => ?_, hy h⟩, fun h => ⟨?_, hn h, fun hh => by rw [hh k hlt] at h; cases h⟩⟩
        · rcases Nat.lt_or_ge i k with h2 | h2
          · exact HK.out i h2
          · have : i = k := by omega
            subst this; exact h
        · rw [decide_eq_false_iff_not]
          intro hh
          rw [hh k hlt] at h
          cases h
      clear hy hn
      generalize ans k = bb at *
      cases bb
      · go_wp2
        go_ret
        have := HAS.out.2 (by simp)
        exact ⟨ret_bool this.1.symm, fun h => absurd h this.2.2, fun _ => this.2.1⟩
      · go_wp2
        go_roundw
        case rel => exact ⟨k + 1, by omega, by go_num, (HAS.out.1 (by simp)).1, (HAS.out.1 (by simp)).2⟩
        case measure => simp [intOf]; omega
    · have e2 : k = len := by omega
      subst e2
      have d : ¬ (k : Int) < k := by omega
      go_wp2
      go_ret
      exact ⟨ret_bool (by symm; rw [decide_eq_true_eq]; exact HA.out), fun _ => HI.out, fun ⟨i, hi, h⟩ => by rw [HA.out i hi] at h; cases h⟩

set_option maxRecDepth 100000 in
set_option maxHeartbeats 8000000 in
theorem all_int (ans : Int → Bool) (r : Rw Int) (w : World) (hr : NmAt w r) (hcall : ∀ a u, Calls Tryz.prog 87 #[.int .i64 a] u fun e u' => e = .returned (.bool (ans a)) ∧ Below u.heap.size u u') :
    Calls Tryz.prog 88 #[.slice r.ao r.len r.cap, .func (.func 87) #[] #[]] w fun e w' => e = .returned (.bool (decide (∀ i, i < r.len → ans (r.x i) = true))) ∧ Below w.heap.size w w' := by
  have hnil := hr.nil
  have hbd := hr.bound
  have HI := hyd (Below.refl w.heap.size w)
  have HR := hyd hr
  have HC := hyd hcall
  clear hr hcall
  go_enter Tryz.func88, Tryz.ntmps88
  go_wp2
  go_loopw [9] (fun i wr => ∃ (k : Nat), k ≤ r.len ∧ i = .int .i64 k ∧ (∀ i, i < k → ans (r.x i) = true) ∧ Below w.heap.size w wr) (fun i _ => r.len - (intOf i).toNat)
  case atStart => exact ⟨0, Nat.zero_le _, rfl, fun i hi => absurd hi (Nat.not_lt_zero _), HI.out⟩
  case round =>
    clear HI
    obtain ⟨k, hk, rfl, hall, hB⟩ := hrel
    have HA := hyd hall
    have HI := hyd hB
    clear hall hB
    by_cases hlt : k < r.len
    · have ij : (k : Int) < r.len := by omega
      have a0 := hnil (by omega)
      rw [a0]
      have r1 : wr.cell? ⟨r.b, r.o + k, none⟩ = some (.int .i64 (r.x k)) := by have := range_kept (HR.out.row k hlt) HI.out 0 _ rfl; simpa using this
      have hcl := HC.out (r.x k) wr
      go_wp2_with fail
      refine Calls.mono hcl ?_
      rintro _ w4 ⟨rfl, hb4⟩
      have HB := hyd (Below.next HI.out hb4)
      have HAS : Hid ((ans (r.x k) = true → (∀ i, i < k + 1 → ans (r.x i) = true)) ∧ (ans (r.x k) = false → decide (∀ i, i < r.len → ans (r.x i) = true) = false)) := by
        refine ⟨fun h i hi => ?_, fun h => ?_⟩
        · rcases Nat.lt_or_ge i k with h2 | h2
          · exact HA.out i h2
          · have : i = k := by omega
            subst this; exact h
        · rw [decide_eq_false_iff_not]
          intro hh
          rw [hh k hlt] at h
          cases h
      clear hcl hb4 HI r1
      generalize ans (r.x k) = bb at *
      cases bb
      · go_wp2
        go_ret
        exact ⟨ret_bool (HAS.out.2 (by simp)).symm, HB.out⟩
      · go_wp2
        go_roundw
        case rel => exact ⟨k + 1, by omega, by go_num, HAS.out.1 (by simp), HB.out⟩
        case measure => simp [intOf]; omega
    · have e2 : k = r.len := by omega
      subst e2
      have d : ¬ (r.len : Int) < r.len := by omega
      go_wp2
      go_ret
      exact ⟨ret_bool (by symm; rw [decide_eq_true_eq]; exact HA.out), HI.out⟩
end Go.Proofs.YtjfijpiadfkmfaaGreatDoor

/- Layer 13: what is put into a pool: what was there stays, and it grows by no more than there are nodes. -/
namespace Go.Proofs.YtjfijpiadfkmfaaGreatDoor
open Go.RowKit

theorem itr_pre {f : Nat → List Ty → List Ty} (hf : ∀ i R (a : Nat) (s : Ty), R[a]? = some s → (f i R)[a]? = some s) : ∀ (j : Nat) (R : List Ty) (a : Nat) (s : Ty), R[a]? = some s → (itr f j R)[a]? = some s
  | 0, _, _, _, h => h
  | j + 1, R, a, s, h => hf j _ a s (itr_pre hf j R a s h)
theorem putT_pre : ∀ (t : Ty) (R : List Ty) (a : Nat) (s : Ty), R[a]? = some s → (putT t R)[a]? = some s
  | .dm, _, _, _, h => h
  | .mk k l hh e ao b o len cap ps, R, a, s, h => by
    have h1 := itr_pre (f := fun i => putT (ps i)) (fun i R a s => putT_pre (ps i) R a s) len R a s h
    rw [putT]
    split
    · exact h1
    · exact pre_get h1
theorem itr_len {f : Nat → List Ty → List Ty} {c : Nat → Nat} (hf : ∀ i R, (f i R).length ≤ R.length + c i) : ∀ (j : Nat) (R : List Ty), (itr f j R).length ≤ R.length + sumTo c j
  | 0, R => by simp [itr, sumTo]
  | j + 1, R => by
    have h1 := hf j (itr f j R)
    have h2 := itr_len hf j R
    show (f j (itr f j R)).length ≤ R.length + (sumTo c j + c j)
    omega
theorem putT_len : ∀ (t : Ty) (R : List Ty), (putT t R).length ≤ R.length + t.nodes
  | .dm, R => by simp [putT]
  | .mk k l hh e ao b o len cap ps, R => by
    have h1 := itr_len (f := fun i => putT (ps i)) (c := fun i => (ps i).nodes) (fun i R => putT_len (ps i) R) len R
    have h2 : (Ty.mk k l hh e ao b o len cap ps).nodes = 1 + sumTo (fun i => (ps i).nodes) len := rfl
    rw [putT]
    split
    · omega
    · rw [List.length_append]
      have : [Ty.mk k l hh e ao b o len cap ps].length = 1 := rfl
      omega
/-- A Part's place, wherever. -/
def PrtAt (R : List Ty) (t : Ty) (x : Int) : Prop := ∃ (a : Nat) (s : Ty), x = a ∧ R[a]? = some s ∧ s.same t = true
theorem PrtAt.pre {R R' : List Ty} {t : Ty} {x : Int} (h : PrtAt R t x) (hR : ∀ (a : Nat) (s : Ty), R[a]? = some s → R'[a]? = some s) : PrtAt R' t x := by
  obtain ⟨a, s, h1, h2, h3⟩ := h
  exact ⟨a, s, h1, hR a s h2, h3⟩
theorem PrtAt.prt {R : List Ty} {t : Ty} {j : Nat} {x : Int} (h1 : j < t.len → PrtAt R (t.ps j) x) (h2 : ¬ j < t.len → x = -1) : Prt R R.length t j x :=
  ⟨fun hj => by obtain ⟨a, s, e, hs, hss⟩ := h1 hj; exact ⟨a, s, e, (List.getElem?_eq_some_iff.1 hs).1, hs, hss⟩, h2⟩
theorem takeT_len (R : List Ty) (t : Ty) : (takeT R t).length ≤ R.length + t.nodes := by
  unfold takeT
  split
  · omega
  · exact putT_len t R
end Go.Proofs.YtjfijpiadfkmfaaGreatDoor

/- A region that draws its order: all that only reads or moves comes first, wherever it stands; what is left is one behind the other. -/
namespace Go.Proofs.YtjfijpiadfkmfaaGreatDoor
open Go Go.RowKit

section
variable {P : Program} {ops : Array Oper} {Q : Exit → Act → World → Prop}
def isReadM (o : Oper) : Bool := match o.op with
  | .load .. | .fieldAddr .. | .indexAddr .. | .extract .. | .move .. => true
  | _ => false
theorem readM_value {o : Oper} (h : isReadM o = true) (ρ : Operand → Value) (w w' : World) (n : Next) (hr : (execOp ρ o).run P w = .ok n w') : ∃ u, n = .value u := by
  cases ho : o.op
  case load => unfold execOp at hr; rw [ho] at hr; exact run_val hr
  case fieldAddr => unfold execOp at hr; rw [ho] at hr; exact run_val hr
  case indexAddr => unfold execOp at hr; rw [ho] at hr; exact run_val hr
  case extract => unfold execOp at hr; rw [ho] at hr; exact run_val hr
  case move => unfold execOp at hr; rw [ho] at hr; exact ⟨_, (Result.ok.inj hr).1.symm⟩
  all_goals (unfold isReadM at h; rw [ho] at h; cases h)
theorem yieldsIf_of_quietM {S : World → Prop} {o : Oper} {a : Act} {K : Act → Prop} (hr : isReadM o = true) (h : if Region.wanted o (yielded ops a.tmps) then o.quiet P a S K else K (a.put o.dst undef)) : ∃ v, YieldsIf P ops S o v a ∧ K (a.put o.dst v) := by
  by_cases hw : Region.wanted o (yielded ops a.tmps) = true
  · rw [if_pos hw] at h
    obtain ⟨v, h1, h2⟩ := h
    refine ⟨v, Or.inl ⟨hw, fun w hS => ?_⟩, h2⟩
    have h3 := h1 w hS
    unfold Oper.quietAt at h3
    cases hq : (execOp a.eval o).run P w with
    | ok n w' =>
      obtain ⟨u, rfl⟩ := readM_value hr _ _ _ _ hq
      rw [hq] at h3
      simp only [Oper.quietUpon] at h3
      rw [h3.1, h3.2]
    | halt x w' => rw [hq] at h3; simp only [Oper.quietUpon] at h3
  · rw [if_neg hw] at h
    exact ⟨undef, Or.inr ⟨by simpa using hw, rfl⟩, h⟩
def lexM (ops : Array Oper) : List Nat → List Oper → Array Bool → Bool
  | [], [], _ => true
  | i :: js, o :: l, listed => isReadM o && (Region.ready .any ops listed).contains i && Region.free .any ops listed i && lexM ops js l (listed.setIfInBounds i true)
  | _, _, _ => false
theorem wpAnyH_readsM {S : World → Prop} {K : Act → Prop} {rest : Nat} {w : World} (hs : Region.noSelect ops = true) (hQ : ∀ c a d v w, Q (.panic c) (Act.put a d v) w → Q (.panic c) a w) (hS : S w) : ∀ (js : List Nat) (l : List Oper) (listed : Array Bool) (a : Act), (∀ j, j < l.length → ∃ i, js[j]? = some i ∧ ops[i]? = l[j]?) →
    lexM ops js l listed = true → wpQuiet P ops S K l a → (∀ a', K a' → wpAnyH P .any ops Q S rest (listedI js listed) a' w) → wpAnyH P .any ops Q S (js.length + rest) listed a w
  | [], [], _, _, _, _, h, hK => by simpa [listedI] using hK _ h
  | [], _ :: _, _, _, _, hB, _, _ => by simp [lexM] at hB
  | _ :: _, [], _, _, _, hB, _, _ => by simp [lexM] at hB
  | i :: js, o :: l, listed, a, hl, hB, h, hK => by
    have h0 : ops[i]? = some o := by
      obtain ⟨i', h1, h2⟩ := hl 0 (by simp)
      have : i = i' := by simpa using h1
      subst this
      simpa using h2
    simp only [lexM, Bool.and_eq_true] at hB
    obtain ⟨⟨⟨hr, hc⟩, hf⟩, hB'⟩ := hB
    have h' : if Region.wanted o (yielded ops a.tmps) then o.quiet P a S (wpQuiet P ops S K l) else wpQuiet P ops S K l (a.put o.dst undef) := h
    obtain ⟨v, hy, hk⟩ := yieldsIf_of_quietM (ops := ops) hr h'
    rw [show (i :: js).length + rest = (js.length + rest) + 1 by simp; omega]
    exact wpAnyH_take h0 hs hf hc (fun c a w => hQ c a _ _ w) hy hS (wpAnyH_readsM hs hQ hS js l _ _ (fun j hj => by
      obtain ⟨i', h1, h2⟩ := hl (j + 1) (by simp; omega)
      exact ⟨i', by simpa using h1, by simpa using h2⟩) hB' hk hK)
/-- A region that draws: first all that only reads. -/
theorem wp_region_readsM {id : Nat} {a : Act} {w : World} {l : List Oper} (S : World → Prop) (js : List Nat) (rest : Nat) (hm : P.follows .mixedOrders = true) (hlen : l.length = js.length + rest) (hB : (Region.noSelect l.toArray && lexM l.toArray js (js.filterMap (l[·]?)) (Array.replicate l.length false)) = true) (hj : ∀ j, j < (js.filterMap (l[·]?)).length → ∃ i, js[j]? = some i ∧ l.toArray[i]? = (js.filterMap (l[·]?))[j]?)
    (hQ : ∀ c a d v w, Q (.panic c) (Act.put a d v) w → Q (.panic c) a w) (hS : S w.drew)
    (h : wpQuiet P l.toArray (fun u => ∃ x : Wd S, u = x.w) (fun a' => wpAnyH P .any l.toArray Q S rest (listedI js (Array.replicate l.length false)) a' w.drew) (js.filterMap (l[·]?)) a) : (Code.region id l.toArray true).wp P Q a w := by
  simp only [Bool.and_eq_true] at hB
  refine wp_region_held_drew (S := S) hm hS fun hS => ?_
  have e3 : Array.replicate l.toArray.size false = Array.replicate l.length false := by simp
  have e2 : l.toArray.size = js.length + rest := by simpa using hlen
  have eS : (fun u : World => ∃ x : Wd S, u = x.w) = S := by
    funext u; apply propext
    exact ⟨fun ⟨x, hx⟩ => hx ▸ x.2, fun h => ⟨⟨u, h⟩, rfl⟩⟩
  rw [eS] at h
  rw [e3, e2]
  exact wpAnyH_readsM hB.1 hQ hS js _ _ a hj hB.2 h (fun a' h => h)
end
/-- The same where nothing panics. -/
def NoPanM (Q : Exit → Act → World → Prop) (e : Exit) (a : Act) (w : World) : Prop := (∀ c, e ≠ .panic c) ∧ Q e a w
theorem wp_region_readsMN {P : Program} {Q : Exit → Act → World → Prop} {id : Nat} {a : Act} {w : World} {l : List Oper} (S : World → Prop) (js : List Nat) (rest : Nat) (hm : P.follows .mixedOrders = true) (hlen : l.length = js.length + rest) (hB : (Region.noSelect l.toArray && lexM l.toArray js (js.filterMap (l[·]?)) (Array.replicate l.length false)) = true) (hj : ∀ j, j < (js.filterMap (l[·]?)).length → ∃ i, js[j]? = some i ∧ l.toArray[i]? = (js.filterMap (l[·]?))[j]?)
    (hS : S w.drew)
    (h : wpQuiet P l.toArray (fun u => ∃ x : Wd S, u = x.w) (fun a' => wpAnyH P .any l.toArray (NoPanM Q) S rest (listedI js (Array.replicate l.length false)) a' w.drew) (js.filterMap (l[·]?)) a) : (Code.region id l.toArray true).wp P Q a w :=
  Code.wp_mono (fun _ _ _ h => h.2) (wp_region_readsM S js rest hm hlen hB hj (fun c _ _ _ _ h => absurd rfl (h.1 c)) hS h)
end Go.Proofs.YtjfijpiadfkmfaaGreatDoor
