/- Layer 13: class.all, over each kind of list. -/
import Derived.Test.YtmkncmmegjfipaaGreatDoorP15
import Derived.Test.YtmkncmmegjfipaaGreatDoorP10
import Derived.Test.YtmkncmmegjfipaaGreatDoorP13
import Derived.Test.YtmkncmmegjfipaaGreatDoorP9
namespace Go.Proofs.YtmkncmmegjfipaaGreatDoor
open Go Go.RowKit

/-- What all answers, and what holds behind it. -/
structure AllR (I : Nat → World → Prop) (J : World → Prop) (len : Nat) (ans : Nat → Bool) (e : Ending) (w' : World) : Prop where
  ret : e = .returned (.bool (decide (∀ i, i < len → ans i = true)))
  yes : (∀ i, i < len → ans i = true) → I len w'
  no : (∃ i, i < len ∧ ans i = false) → J w'

def z_ty : List Value := [.int .i64 0, .int .i64 0, .slice none 0 0, .int .i64 0, .int .i64 0]
theorem alloc_ty (w : World) : (Instr.alloc 53 true (.tuple #[])).run Tryz.prog w = .ok (.pointer (some ⟨w.heap.size, 0, none⟩)) (w.alloc (.cells z_ty.toArray 53)) := by
  have hz : (Tryz.prog.info? 53).map (·.zero) = some (some (.agg z_ty.toArray)) := by kernel_rfl
  cases hq : Tryz.prog.info? 53 with
  | none => rw [hq] at hz; simp at hz
  | some i =>
    rw [hq] at hz
    simp at hz
    simp [Instr.alloc, newVar, newRow, zeroValue, typeInfo, hq, hz, Value.cells, z_ty]

set_option maxRecDepth 100000 in
set_option maxHeartbeats 8000000 in
theorem all_ty (q : Value) (I : Nat → World → Prop) (J : World → Prop) (ans : Nat → Bool) (ao : Option Addr) (b o len cap : Nat) (vs : Nat → List Value) (w : World) (hnil : 0 < len → ao = some ⟨b, o, none⟩) (hbd : len ≤ 9223372036854775807)
    (hz : ∀ i, i < len → (vs i).length = 5) (h1 : ∀ i, i < len → (vs i).all (·.oneCell') = true) (hrow : ∀ i u, i < len → I i u → u.rangeAt b (o + i * 5) (vs i)) (hgrow : ∀ i u u', i ≤ len → I i u → Below u.heap.size u u' → I i u')
    (hcall : ∀ i u, i < len → I i u → Calls Tryz.prog 99 #[q, .agg (vs i).toArray] u fun e u' => e = .returned (.bool (ans i)) ∧ (ans i = true → I (i + 1) u') ∧ (ans i = false → J u')) (hI : I 0 w) :
    Calls Tryz.prog 140 #[.slice ao len cap, .func (.func 99) #[q] #[]] w fun e w' => AllR I J len ans e w' := by
  have HI := hyd hI
  have HH := hyd (show (∀ i, i < len → (vs i).length = 5) ∧ (∀ i, i < len → (vs i).all (·.oneCell') = true) ∧ (∀ i u, i < len → I i u → u.rangeAt b (o + i * 5) (vs i)) ∧ (∀ i u u', i ≤ len → I i u → Below u.heap.size u u' → I i u') from ⟨hz, h1, hrow, hgrow⟩)
  have HC := hyd hcall
  clear hI hz h1 hrow hgrow hcall
  go_enter Tryz.func140, Tryz.ntmps140
  go_wp2
  go_loopw [9] (fun i wr => ∃ (k : Nat), k ≤ len ∧ i = .int .i64 k ∧ (∀ i, i < k → ans i = true) ∧ I k wr) (fun i _ => len - (intOf i).toNat)
  case atStart => exact ⟨0, Nat.zero_le _, rfl, fun i hi => absurd hi (Nat.not_lt_zero _), HI.out⟩
  case round =>
    clear HI
    obtain ⟨k, hk, rfl, hall, hB⟩ := hrel
    have HA := hyd hall
    have HI := hyd hB
    clear hall hB
    by_cases hlt : k < len
    · have ij : (k : Int) < len := by omega
      have a0 := hnil (by omega)
      subst a0
      have r1 : wr.rangeAt b (o + k * 5) (vs k) := HH.out.2.2.1 k wr hlt HI.out
      have hl1 := HH.out.1 k hlt
      have ho1 := HH.out.2.1 k hlt
      have hcl : Calls Tryz.prog 99 #[q, .agg (vs k).toArray] (wr.alloc (.cells (vs k).toArray 53)) _ := HC.out k _ hlt (HH.out.2.2.2 k wr _ hk HI.out (below_alloc wr _))
      have HK := hyd (show ∀ i, i < k → ans i = true from HA.out)
      have bN : Blk (wr.alloc (.cells (vs k).toArray 53)) wr.heap.size (vs k) 53 := Blk.new wr _ _
      clear HI
      generalize vs k = xs at *
      have hi18 : (Tryz.prog.info? 53).map (·.size) = some xs.length := by rw [hl1]; kernel_rfl
      go_upto_region 4 with (first | (refine wpList_load_mid rfl 53 (.tmp 11) rfl b (o + k * 5) (by kernel_rfl) xs _ r1 Tryz.underlying53 rfl hi18 ?_) | (refine wpList_new_mid rfl rfl 53 rfl (.tmp 6) (.tmp 12) rfl z_ty (alloc_ty _) rfl xs.toArray (by kernel_rfl) (by kernel_rfl) (by rw [List.size_toArray, hl1]; rfl) (by rw [List.size_toArray]; exact hi18) (by simpa using ho1) ?_))
      have rN := bN.range
      generalize (wr.alloc (.cells xs.toArray 53)) = w3 at *
      generalize wr.heap.size = B9 at *
      go_wp2_with (refine wpList_load_mid rfl 53 (.tmp 6) rfl B9 0 (by kernel_rfl) xs _ rN Tryz.underlying53 rfl hi18 ?_)
      refine Calls.mono hcl ?_
      rintro _ w4 ⟨rfl, hy, hn⟩
      clear hcl bN rN r1
      have HAS : Hid ((ans k = true → (∀ i, i < k + 1 → ans i = true) ∧ I (k + 1) w4) ∧ (ans k = false → decide (∀ i, i < len → ans i = true) = false ∧ J w4 ∧ ¬ ∀ i, i < len → ans i = true)) := by
        refine ⟨fun h => ⟨fun i hi => ?_, hy h⟩, fun h => ⟨?_, hn h, fun hh => by rw [hh k hlt] at h; cases h⟩⟩
        · rcases Nat.lt_or_ge i k with h2 | h2
          · exact HK.out i h2
          · have : i = k := by omega
            subst this; exact h
        · rw [decide_eq_false_iff_not]
          intro hh
          rw [hh k hlt] at h
          cases h
      clear hy hn
      generalize ans k = bb at *
      cases bb
      · go_wp2
        go_ret
        have := HAS.out.2 (by simp)
        exact ⟨ret_bool this.1.symm, fun h => absurd h this.2.2, fun _ => this.2.1⟩
      · go_wp2
        go_roundw
        case rel => exact ⟨k + 1, by omega, by go_num, (HAS.out.1 (by simp)).1, (HAS.out.1 (by simp)).2⟩
        case measure => simp [intOf]; omega
    · have e2 : k = len := by omega
      subst e2
      have d : ¬ (k : Int) < k := by omega
      go_wp2
      go_ret
      exact ⟨ret_bool (by symm; rw [decide_eq_true_eq]; exact HA.out), fun _ => HI.out, fun ⟨i, hi, h⟩ => by rw [HA.out i hi] at h; cases h⟩

def z_ins : List Value := [.int .i64 0, .int .i64 0, .int .i64 0, .int .i64 0, .slice none 0 0, .int .i64 0, .int .i64 0]
theorem alloc_ins (w : World) : (Instr.alloc 60 true (.tuple #[])).run Tryz.prog w = .ok (.pointer (some ⟨w.heap.size, 0, none⟩)) (w.alloc (.cells z_ins.toArray 60)) := by
  have hz : (Tryz.prog.info? 60).map (·.zero) = some (some (.agg z_ins.toArray)) := by kernel_rfl
  cases hq : Tryz.prog.info? 60 with
  | none => rw [hq] at hz; simp at hz
  | some i =>
    rw [hq] at hz
    simp at hz
    simp [Instr.alloc, newVar, newRow, zeroValue, typeInfo, hq, hz, Value.cells, z_ins]

set_option maxRecDepth 100000 in
set_option maxHeartbeats 8000000 in
theorem all_ins (q : Value) (I : Nat → World → Prop) (J : World → Prop) (ans : Nat → Bool) (ao : Option Addr) (b o len cap : Nat) (vs : Nat → List Value) (w : World) (hnil : 0 < len → ao = some ⟨b, o, none⟩) (hbd : len ≤ 9223372036854775807)
    (hz : ∀ i, i < len → (vs i).length = 7) (h1 : ∀ i, i < len → (vs i).all (·.oneCell') = true) (hrow : ∀ i u, i < len → I i u → u.rangeAt b (o + i * 7) (vs i)) (hgrow : ∀ i u u', i ≤ len → I i u → Below u.heap.size u u' → I i u')
    (hcall : ∀ i u, i < len → I i u → Calls Tryz.prog 102 #[q, .agg (vs i).toArray] u fun e u' => e = .returned (.bool (ans i)) ∧ (ans i = true → I (i + 1) u') ∧ (ans i = false → J u')) (hI : I 0 w) :
    Calls Tryz.prog 101 #[.slice ao len cap, .func (.func 102) #[q] #[]] w fun e w' => AllR I J len ans e w' := by
  have HI := hyd hI
  have HH := hyd (show (∀ i, i < len → (vs i).length = 7) ∧ (∀ i, i < len → (vs i).all (·.oneCell') = true) ∧ (∀ i u, i < len → I i u → u.rangeAt b (o + i * 7) (vs i)) ∧ (∀ i u u', i ≤ len → I i u → Below u.heap.size u u' → I i u') from ⟨hz, h1, hrow, hgrow⟩)
  have HC := hyd hcall
  clear hI hz h1 hrow hgrow hcall
  go_enter Tryz.func101, Tryz.ntmps101
  go_wp2
  go_loopw [9] (fun i wr => ∃ (k : Nat), k ≤ len ∧ i = .int .i64 k ∧ (∀ i, i < k → ans i = true) ∧ I k wr) (fun i _ => len - (intOf i).toNat)
  case atStart => exact ⟨0, Nat.zero_le _, rfl, fun i hi => absurd hi (Nat.not_lt_zero _), HI.out⟩
  case round =>
    clear HI
    obtain ⟨k, hk, rfl, hall, hB⟩ := hrel
    have HA := hyd hall
    have HI := hyd hB
    clear hall hB
    by_cases hlt : k < len
    · have ij : (k : Int) < len := by omega
      have a0 := hnil (by omega)
      subst a0
      have r1 : wr.rangeAt b (o + k * 7) (vs k) := HH.out.2.2.1 k wr hlt HI.out
      have hl1 := HH.out.1 k hlt
      have ho1 := HH.out.2.1 k hlt
      have hcl : Calls Tryz.prog 102 #[q, .agg (vs k).toArray] (wr.alloc (.cells (vs k).toArray 60)) _ := HC.out k _ hlt (HH.out.2.2.2 k wr _ hk HI.out (below_alloc wr _))
      have HK := hyd (show ∀ i, i < k → ans i = true from HA.out)
      have bN : Blk (wr.alloc (.cells (vs k).toArray 60)) wr.heap.size (vs k) 60 := Blk.new wr _ _
      clear HI
      generalize vs k = xs at *
      have hi18 : (Tryz.prog.info? 60).map (·.size) = some xs.length := by rw [hl1]; kernel_rfl
      go_upto_region 4 with (first | (refine wpList_load_mid rfl 60 (.tmp 11) rfl b (o + k * 7) (by kernel_rfl) xs _ r1 Tryz.underlying60 rfl hi18 ?_) | (refine wpList_new_mid rfl rfl 60 rfl (.tmp 6) (.tmp 12) rfl z_ins (alloc_ins _) rfl xs.toArray (by kernel_rfl) (by kernel_rfl) (by rw [List.size_toArray, hl1]; rfl) (by rw [List.size_toArray]; exact hi18) (by simpa using ho1) ?_))
      have rN := bN.range
      generalize (wr.alloc (.cells xs.toArray 60)) = w3 at *
      generalize wr.heap.size = B9 at *
      go_wp2_with (refine wpList_load_mid rfl 60 (.tmp 6) rfl B9 0 (by kernel_rfl) xs _ rN Tryz.underlying60 rfl hi18 ?_)
      refine Calls.mono hcl ?_
      rintro _ w4 ⟨rfl, hy, hn⟩
      clear hcl bN rN r1
      have HAS : Hid ((ans k = true → (∀ i, i < k + 1 → ans i = true) ∧ I (k + 1) w4) ∧ (ans k = false → decide (∀ i, i < len → ans i = true) = false ∧ J w4 ∧ ¬ ∀ i, i < len → ans i = true)) := by
        refine ⟨fun h => ⟨fun i hi => ?_, hy h⟩, fun h => ⟨?_, hn h, fun hh => by rw [hh k hlt] at h; cases h⟩⟩
        · rcases Nat.lt_or_ge i k with h2 | h2
          · exact HK.out i h2
          · have : i = k := by omega
            subst this; exact h
        · rw [decide_eq_false_iff_not]
          intro hh
          rw [hh k hlt] at h
          cases h
      clear hy hn
      generalize ans k = bb at *
      cases bb
      · go_wp2
        go_ret
        have := HAS.out.2 (by simp)
        exact ⟨ret_bool this.1.symm, fun h => absurd h this.2.2, fun _ => this.2.1⟩
      · go_wp2
        go_roundw
        case rel => exact ⟨k + 1, by omega, by go_num, (HAS.out.1 (by simp)).1, (HAS.out.1 (by simp)).2⟩
        case measure => simp [intOf]; omega
    · have e2 : k = len := by omega
      subst e2
      have d : ¬ (k : Int) < k := by omega
      go_wp2
      go_ret
      exact ⟨ret_bool (by symm; rw [decide_eq_true_eq]; exact HA.out), fun _ => HI.out, fun ⟨i, hi, h⟩ => by rw [HA.out i hi] at h; cases h⟩

def z_fn : List Value := [.int .i64 0, .int .i64 0, .slice none 0 0, .int .i64 0, .int .i64 0, .int .i64 0, .int .i64 0, .slice none 0 0, .int .i64 0, .int .i64 0, .slice none 0 0, .int .i64 0, .int .i64 0, .int .i64 0, .slice none 0 0, .slice none 0 0, .slice none 0 0, .slice none 0 0]
theorem alloc_fn (w : World) : (Instr.alloc 66 true (.tuple #[])).run Tryz.prog w = .ok (.pointer (some ⟨w.heap.size, 0, none⟩)) (w.alloc (.cells z_fn.toArray 66)) := by
  have hz : (Tryz.prog.info? 66).map (·.zero) = some (some (.agg z_fn.toArray)) := by kernel_rfl
  cases hq : Tryz.prog.info? 66 with
  | none => rw [hq] at hz; simp at hz
  | some i =>
    rw [hq] at hz
    simp at hz
    simp [Instr.alloc, newVar, newRow, zeroValue, typeInfo, hq, hz, Value.cells, z_fn]

set_option maxRecDepth 100000 in
set_option maxHeartbeats 8000000 in
theorem all_fn (q : Value) (I : Nat → World → Prop) (J : World → Prop) (ans : Nat → Bool) (ao : Option Addr) (b o len cap : Nat) (vs : Nat → List Value) (w : World) (hnil : 0 < len → ao = some ⟨b, o, none⟩) (hbd : len ≤ 9223372036854775807)
    (hz : ∀ i, i < len → (vs i).length = 18) (h1 : ∀ i, i < len → (vs i).all (·.oneCell') = true) (hrow : ∀ i u, i < len → I i u → u.rangeAt b (o + i * 18) (vs i)) (hgrow : ∀ i u u', i ≤ len → I i u → Below u.heap.size u u' → I i u')
    (hcall : ∀ i u, i < len → I i u → Calls Tryz.prog 69 #[q, .agg (vs i).toArray] u fun e u' => e = .returned (.bool (ans i)) ∧ (ans i = true → I (i + 1) u') ∧ (ans i = false → J u')) (hI : I 0 w) :
    Calls Tryz.prog 68 #[.slice ao len cap, .func (.func 69) #[q] #[]] w fun e w' => AllR I J len ans e w' := by
  have HI := hyd hI
  have HH := hyd (show (∀ i, i < len → (vs i).length = 18) ∧ (∀ i, i < len → (vs i).all (·.oneCell') = true) ∧ (∀ i u, i < len → I i u → u.rangeAt b (o + i * 18) (vs i)) ∧ (∀ i u u', i ≤ len → I i u → Below u.heap.size u u' → I i u') from ⟨hz, h1, hrow, hgrow⟩)
  have HC := hyd hcall
  clear hI hz h1 hrow hgrow hcall
  go_enter Tryz.func68, Tryz.ntmps68
  go_wp2
  go_loopw [9] (fun i wr => ∃ (k : Nat), k ≤ len ∧ i = .int .i64 k ∧ (∀ i, i < k → ans i = true) ∧ I k wr) (fun i _ => len - (intOf i).toNat)
  case atStart => exact ⟨0, Nat.zero_le _, rfl, fun i hi => absurd hi (Nat.not_lt_zero _), HI.out⟩
  case round =>
    clear HI
    obtain ⟨k, hk, rfl, hall, hB⟩ := hrel
    have HA := hyd hall
    have HI := hyd hB
    clear hall hB
    by_cases hlt : k < len
    · have ij : (k : Int) < len := by omega
      have a0 := hnil (by omega)
      subst a0
      have r1 : wr.rangeAt b (o + k * 18) (vs k) := HH.out.2.2.1 k wr hlt HI.out
      have hl1 := HH.out.1 k hlt
      have ho1 := HH.out.2.1 k hlt
      have hcl : Calls Tryz.prog 69 #[q, .agg (vs k).toArray] (wr.alloc (.cells (vs k).toArray 66)) _ := HC.out k _ hlt (HH.out.2.2.2 k wr _ hk HI.out (below_alloc wr _))
      have HK := hyd (show ∀ i, i < k → ans i = true from HA.out)
      have bN : Blk (wr.alloc (.cells (vs k).toArray 66)) wr.heap.size (vs k) 66 := Blk.new wr _ _
      clear HI
      generalize vs k = xs at *
      have hi18 : (Tryz.prog.info? 66).map (·.size) = some xs.length := by rw [hl1]; kernel_rfl
      go_upto_region 4 with (first | (refine wpList_load_mid rfl 66 (.tmp 11) rfl b (o + k * 18) (by kernel_rfl) xs _ r1 Tryz.underlying66 rfl hi18 ?_) | (refine wpList_new_mid rfl rfl 66 rfl (.tmp 6) (.tmp 12) rfl z_fn (alloc_fn _) rfl xs.toArray (by kernel_rfl) (by kernel_rfl) (by rw [List.size_toArray, hl1]; rfl) (by rw [List.size_toArray]; exact hi18) (by simpa using ho1) ?_))
      have rN := bN.range
      generalize (wr.alloc (.cells xs.toArray 66)) = w3 at *
      generalize wr.heap.size = B9 at *
      go_wp2_with (refine wpList_load_mid rfl 66 (.tmp 6) rfl B9 0 (by kernel_rfl) xs _ rN Tryz.underlying66 rfl hi18 ?_)
      refine Calls.mono hcl ?_
      rintro _ w4 ⟨rfl, hy, hn⟩
      clear hcl bN rN r1
      have HAS : Hid ((ans k = true → (∀ i, i < k + 1 → ans i = true) ∧ I (k + 1) w4) ∧ (ans k = false → decide (∀ i, i < len → ans i = true) = false ∧ J w4 ∧ ¬ ∀ i, i < len → ans i = true)) := by
        refine ⟨fun h => ⟨fun i hi => ?_, hy h⟩, fun h => ⟨?_, hn h, fun hh => by rw [hh k hlt] at h; cases h⟩⟩
        · rcases Nat.lt_or_ge i k with h2 | h2
          · exact HK.out i h2
          · have : i = k := by omega
            subst this; exact h
        · rw [decide_eq_false_iff_not]
          intro hh
          rw [hh k hlt] at h
          cases h
      clear hy hn
      generalize ans k = bb at *
      cases bb
      · go_wp2
        go_ret
        have := HAS.out.2 (by simp)
        exact ⟨ret_bool this.1.symm, fun h => absurd h this.2.2, fun _ => this.2.1⟩
      · go_wp2
        go_roundw
        case rel => exact ⟨k + 1, by omega, by go_num, (HAS.out.1 (by simp)).1, (HAS.out.1 (by simp)).2⟩
        case measure => simp [intOf]; omega
    · have e2 : k = len := by omega
      subst e2
      have d : ¬ (k : Int) < k := by omega
      go_wp2
      go_ret
      exact ⟨ret_bool (by symm; rw [decide_eq_true_eq]; exact HA.out), fun _ => HI.out, fun ⟨i, hi, h⟩ => by rw [HA.out i hi] at h; cases h⟩

def z_hn : List Value := [.int .i64 0, .int .i64 0, .int .i64 0]
theorem alloc_hn (w : World) : (Instr.alloc 68 true (.tuple #[])).run Tryz.prog w = .ok (.pointer (some ⟨w.heap.size, 0, none⟩)) (w.alloc (.cells z_hn.toArray 68)) := by
  have hz : (Tryz.prog.info? 68).map (·.zero) = some (some (.agg z_hn.toArray)) := by kernel_rfl
  cases hq : Tryz.prog.info? 68 with
  | none => rw [hq] at hz; simp at hz
  | some i =>
    rw [hq] at hz
    simp at hz
    simp [Instr.alloc, newVar, newRow, zeroValue, typeInfo, hq, hz, Value.cells, z_hn]

set_option maxRecDepth 100000 in
set_option maxHeartbeats 8000000 in
theorem all_hn (I : Nat → World → Prop) (J : World → Prop) (ans : Nat → Bool) (ao : Option Addr) (b o len cap : Nat) (vs : Nat → List Value) (w : World) (hnil : 0 < len → ao = some ⟨b, o, none⟩) (hbd : len ≤ 9223372036854775807)
    (hz : ∀ i, i < len → (vs i).length = 3) (h1 : ∀ i, i < len → (vs i).all (·.oneCell') = true) (hrow : ∀ i u, i < len → I i u → u.rangeAt b (o + i * 3) (vs i)) (hgrow : ∀ i u u', i ≤ len → I i u → Below u.heap.size u u' → I i u')
    (hcall : ∀ i u, i < len → I i u → Calls Tryz.prog 105 #[.agg (vs i).toArray] u fun e u' => e = .returned (.bool (ans i)) ∧ (ans i = true → I (i + 1) u') ∧ (ans i = false → J u')) (hI : I 0 w) :
    Calls Tryz.prog 104 #[.slice ao len cap, .func (.func 105) #[] #[]] w fun e w' => AllR I J len ans e w' := by
  have HI := hyd hI
  have HH := hyd (show (∀ i, i < len → (vs i).length = 3) ∧ (∀ i, i < len → (vs i).all (·.oneCell') = true) ∧ (∀ i u, i < len → I i u → u.rangeAt b (o + i * 3) (vs i)) ∧ (∀ i u u', i ≤ len → I i u → Below u.heap.size u u' → I i u') from ⟨hz, h1, hrow, hgrow⟩)
  have HC := hyd hcall
  clear hI hz h1 hrow hgrow hcall
  go_enter Tryz.func104, Tryz.ntmps104
  go_wp2
  go_loopw [9] (fun i wr => ∃ (k : Nat), k ≤ len ∧ i = .int .i64 k ∧ (∀ i, i < k → ans i = true) ∧ I k wr) (fun i _ => len - (intOf i).toNat)
  case atStart => exact ⟨0, Nat.zero_le _, rfl, fun i hi => absurd hi (Nat.not_lt_zero _), HI.out⟩
  case round =>
    clear HI
    obtain ⟨k, hk, rfl, hall, hB⟩ := hrel
    have HA := hyd hall
    have HI := hyd hB
    clear hall hB
    by_cases hlt : k < len
    · have ij : (k : Int) < len := by omega
      have a0 := hnil (by omega)
      subst a0
      have r1 : wr.rangeAt b (o + k * 3) (vs k) := HH.out.2.2.1 k wr hlt HI.out
      have hl1 := HH.out.1 k hlt
      have ho1 := HH.out.2.1 k hlt
      have hcl : Calls Tryz.prog 105 #[.agg (vs k).toArray] (wr.alloc (.cells (vs k).toArray 68)) _ := HC.out k _ hlt (HH.out.2.2.2 k wr _ hk HI.out (below_alloc wr _))
      have HK := hyd (show ∀ i, i < k → ans i = true from HA.out)
      have bN : Blk (wr.alloc (.cells (vs k).toArray 68)) wr.heap.size (vs k) 68 := Blk.new wr _ _
      clear HI
      generalize vs k = xs at *
      have hi18 : (Tryz.prog.info? 68).map (·.size) = some xs.length := by rw [hl1]; kernel_rfl
      go_upto_region 4 with (first | (refine wpList_load_mid rfl 68 (.tmp 11) rfl b (o + k * 3) (by kernel_rfl) xs _ r1 Tryz.underlying68 rfl hi18 ?_) | (refine wpList_new_mid rfl rfl 68 rfl (.tmp 6) (.tmp 12) rfl z_hn (alloc_hn _) rfl xs.toArray (by kernel_rfl) (by kernel_rfl) (by rw [List.size_toArray, hl1]; rfl) (by rw [List.size_toArray]; exact hi18) (by simpa using ho1) ?_))
      have rN := bN.range
      generalize (wr.alloc (.cells xs.toArray 68)) = w3 at *
      generalize wr.heap.size = B9 at *
      go_wp2_with (refine wpList_load_mid rfl 68 (.tmp 6) rfl B9 0 (by kernel_rfl) xs _ rN Tryz.underlying68 rfl hi18 ?_)
      refine Calls.mono hcl ?_
      rintro _ w4 ⟨rfl, hy, hn⟩
      clear hcl bN rN r1
      have HAS : Hid ((ans k = true → (∀ i, i < k + 1 → ans i = true) ∧ I (k + 1) w4) ∧ (ans k = false → decide (∀ i, i < len → ans i = true) = false ∧ J w4 ∧ ¬ ∀ i, i < len → ans i = true)) := by
        refine ⟨fun h => ⟨fun i hi => ?_, hy h⟩, fun h => ⟨?_, hn h, fun hh => by rw [hh k hlt] at h; cases h⟩⟩
        · rcases Nat.lt_or_ge i k with h2 | h2
          · exact HK.out i h2
          · have : i = k := by omega
            subst this; exact h
        · rw [decide_eq_false_iff_not]
          intro hh
          rw [hh k hlt] at h
          cases h
      clear hy hn
      generalize ans k = bb at *
      cases bb
      · go_wp2
        go_ret
        have := HAS.out.2 (by simp)
        exact ⟨ret_bool this.1.symm, fun h => absurd h this.2.2, fun _ => this.2.1⟩
      · go_wp2
        go_roundw
        case rel => exact ⟨k + 1, by omega, by go_num, (HAS.out.1 (by simp)).1, (HAS.out.1 (by simp)).2⟩
        case measure => simp [intOf]; omega
    · have e2 : k = len := by omega
      subst e2
      have d : ¬ (k : Int) < k := by omega
      go_wp2
      go_ret
      exact ⟨ret_bool (by symm; rw [decide_eq_true_eq]; exact HA.out), fun _ => HI.out, fun ⟨i, hi, h⟩ => by rw [HA.out i hi] at h; cases h⟩

def z_rn : List Value := [.int .i64 0, .int .i64 0, .slice none 0 0]
theorem alloc_rn (w : World) : (Instr.alloc 110 true (.tuple #[])).run Tryz.prog w = .ok (.pointer (some ⟨w.heap.size, 0, none⟩)) (w.alloc (.cells z_rn.toArray 110)) := by
  have hz : (Tryz.prog.info? 110).map (·.zero) = some (some (.agg z_rn.toArray)) := by kernel_rfl
  cases hq : Tryz.prog.info? 110 with
  | none => rw [hq] at hz; simp at hz
  | some i =>
    rw [hq] at hz
    simp at hz
    simp [Instr.alloc, newVar, newRow, zeroValue, typeInfo, hq, hz, Value.cells, z_rn]

set_option maxRecDepth 100000 in
set_option maxHeartbeats 8000000 in
theorem all_rn (I : Nat → World → Prop) (J : World → Prop) (ans : Nat → Bool) (ao : Option Addr) (b o len cap : Nat) (vs : Nat → List Value) (w : World) (hnil : 0 < len → ao = some ⟨b, o, none⟩) (hbd : len ≤ 9223372036854775807)
    (hz : ∀ i, i < len → (vs i).length = 3) (h1 : ∀ i, i < len → (vs i).all (·.oneCell') = true) (hrow : ∀ i u, i < len → I i u → u.rangeAt b (o + i * 3) (vs i)) (hgrow : ∀ i u u', i ≤ len → I i u → Below u.heap.size u u' → I i u')
    (hcall : ∀ i u, i < len → I i u → Calls Tryz.prog 107 #[.agg (vs i).toArray] u fun e u' => e = .returned (.bool (ans i)) ∧ (ans i = true → I (i + 1) u') ∧ (ans i = false → J u')) (hI : I 0 w) :
    Calls Tryz.prog 106 #[.slice ao len cap, .func (.func 107) #[] #[]] w fun e w' => AllR I J len ans e w' := by
  have HI := hyd hI
  have HH := hyd (show (∀ i, i < len → (vs i).length = 3) ∧ (∀ i, i < len → (vs i).all (·.oneCell') = true) ∧ (∀ i u, i < len → I i u → u.rangeAt b (o + i * 3) (vs i)) ∧ (∀ i u u', i ≤ len → I i u → Below u.heap.size u u' → I i u') from ⟨hz, h1, hrow, hgrow⟩)
  have HC := hyd hcall
  clear hI hz h1 hrow hgrow hcall
  go_enter Tryz.func106, Tryz.ntmps106
  go_wp2
  go_loopw [9] (fun i wr => ∃ (k : Nat), k ≤ len ∧ i = .int .i64 k ∧ (∀ i, i < k → ans i = true) ∧ I k wr) (fun i _ => len - (intOf i).toNat)
  case atStart => exact ⟨0, Nat.zero_le _, rfl, fun i hi => absurd hi (Nat.not_lt_zero _), HI.out⟩
  case round =>
    clear HI
    obtain ⟨k, hk, rfl, hall, hB⟩ := hrel
    have HA := hyd hall
    have HI := hyd hB
    clear hall hB
    by_cases hlt : k < len
    · have ij : (k : Int) < len := by omega
      have a0 := hnil (by omega)
      subst a0
      have r1 : wr.rangeAt b (o + k * 3) (vs k) := HH.out.2.2.1 k wr hlt HI.out
      have hl1 := HH.out.1 k hlt
      have ho1 := HH.out.2.1 k hlt
      have hcl : Calls Tryz.prog 107 #[.agg (vs k).toArray] (wr.alloc (.cells (vs k).toArray 110)) _ := HC.out k _ hlt (HH.out.2.2.2 k wr _ hk HI.out (below_alloc wr _))
      have HK := hyd (show ∀ i, i < k → ans i = true from HA.out)
      have bN : Blk (wr.alloc (.cells (vs k).toArray 110)) wr.heap.size (vs k) 110 := Blk.new wr _ _
      clear HI
      generalize vs k = xs at *
      have hi18 : (Tryz.prog.info? 110).map (·.size) = some xs.length := by rw [hl1]; kernel_rfl
      go_upto_region 4 with (first | (refine wpList_load_mid rfl 110 (.tmp 11) rfl b (o + k * 3) (by kernel_rfl) xs _ r1 Tryz.underlying110 rfl hi18 ?_) | (refine wpList_new_mid rfl rfl 110 rfl (.tmp 6) (.tmp 12) rfl z_rn (alloc_rn _) rfl xs.toArray (by kernel_rfl) (by kernel_rfl) (by rw [List.size_toArray, hl1]; rfl) (by rw [List.size_toArray]; exact hi18) (by simpa using ho1) ?_))
      have rN := bN.range
      generalize (wr.alloc (.cells xs.toArray 110)) = w3 at *
      generalize wr.heap.size = B9 at *
      go_wp2_with (refine wpList_load_mid rfl 110 (.tmp 6) rfl B9 0 (by kernel_rfl) xs _ rN Tryz.underlying110 rfl hi18 ?_)
      refine Calls.mono hcl ?_
      rintro _ w4 ⟨rfl, hy, hn⟩
      clear hcl bN rN r1
      have HAS : Hid ((ans k = true → (∀ i, i < k + 1 → ans i = true) ∧ I (k + 1) w4) ∧ (ans k = false → decide (∀ i, i < len → ans i = true) = false ∧ J w4 ∧ ¬ ∀ i, i < len → ans i = true)) := by
        refine ⟨fun h => ⟨fun i hi => ?_, hy h⟩, fun h => ⟨?_, hn h, fun hh => by rw [hh k hlt] at h; cases h⟩⟩
        · rcases Nat.lt_or_ge i k with h2 | h2
          · exact HK.out i h2
          · have : i = k := by omega
            subst this; exact h
        · rw [decide_eq_false_iff_not]
          intro hh
          rw [hh k hlt] at h
          cases h
      clear hy hn
      generalize ans k = bb at *
      cases bb
      · go_wp2
        go_ret
        have := HAS.out.2 (by simp)
        exact ⟨ret_bool this.1.symm, fun h => absurd h this.2.2, fun _ => this.2.1⟩
      · go_wp2
        go_roundw
        case rel => exact ⟨k + 1, by omega, by go_num, (HAS.out.1 (by simp)).1, (HAS.out.1 (by simp)).2⟩
        case measure => simp [intOf]; omega
    · have e2 : k = len := by omega
      subst e2
      have d : ¬ (k : Int) < k := by omega
      go_wp2
      go_ret
      exact ⟨ret_bool (by symm; rw [decide_eq_true_eq]; exact HA.out), fun _ => HI.out, fun ⟨i, hi, h⟩ => by rw [HA.out i hi] at h; cases h⟩

set_option maxRecDepth 100000 in
set_option maxHeartbeats 8000000 in
theorem all_int (ans : Int → Bool) (r : Rw Int) (w : World) (hr : NmAt w r) (hcall : ∀ a u, Calls Tryz.prog 144 #[.int .i64 a] u fun e u' => e = .returned (.bool (ans a)) ∧ Below u.heap.size u u') :
    Calls Tryz.prog 145 #[.slice r.ao r.len r.cap, .func (.func 144) #[] #[]] w fun e w' => e = .returned (.bool (decide (∀ i, i < r.len → ans (r.x i) = true))) ∧ Below w.heap.size w w' := by
  have hnil := hr.nil
  have hbd := hr.bound
  have HI := hyd (Below.refl w.heap.size w)
  have HR := hyd hr
  have HC := hyd hcall
  clear hr hcall
  go_enter Tryz.func145, Tryz.ntmps145
  go_wp2
  go_loopw [9] (fun i wr => ∃ (k : Nat), k ≤ r.len ∧ i = .int .i64 k ∧ (∀ i, i < k → ans (r.x i) = true) ∧ Below w.heap.size w wr) (fun i _ => r.len - (intOf i).toNat)
  case atStart => exact ⟨0, Nat.zero_le _, rfl, fun i hi => absurd hi (Nat.not_lt_zero _), HI.out⟩
  case round =>
    clear HI
    obtain ⟨k, hk, rfl, hall, hB⟩ := hrel
    have HA := hyd hall
    have HI := hyd hB
    clear hall hB
    by_cases hlt : k < r.len
    · have ij : (k : Int) < r.len := by omega
      have a0 := hnil (by omega)
      rw [a0]
      have r1 : wr.cell? ⟨r.b, r.o + k, none⟩ = some (.int .i64 (r.x k)) := by have := range_kept (HR.out.row k hlt) HI.out 0 _ rfl; simpa using this
      have hcl := HC.out (r.x k) wr
      go_wp2_with fail
      refine Calls.mono hcl ?_
      rintro _ w4 ⟨rfl, hb4⟩
      have HB := hyd (Below.next HI.out hb4)
      have HAS : Hid ((ans (r.x k) = true → (∀ i, i < k + 1 → ans (r.x i) = true)) ∧ (ans (r.x k) = false → decide (∀ i, i < r.len → ans (r.x i) = true) = false)) := by
        refine ⟨fun h i hi => ?_, fun h => ?_⟩
        · rcases Nat.lt_or_ge i k with h2 | h2
          · exact HA.out i h2
          · have : i = k := by omega
            subst this; exact h
        · rw [decide_eq_false_iff_not]
          intro hh
          rw [hh k hlt] at h
          cases h
      clear hcl hb4 HI r1
      generalize ans (r.x k) = bb at *
      cases bb
      · go_wp2
        go_ret
        exact ⟨ret_bool (HAS.out.2 (by simp)).symm, HB.out⟩
      · go_wp2
        go_roundw
        case rel => exact ⟨k + 1, by omega, by go_num, HAS.out.1 (by simp), HB.out⟩
        case measure => simp [intOf]; omega
    · have e2 : k = r.len := by omega
      subst e2
      have d : ¬ (r.len : Int) < r.len := by omega
      go_wp2
      go_ret
      exact ⟨ret_bool (by symm; rw [decide_eq_true_eq]; exact HA.out), HI.out⟩
end Go.Proofs.YtmkncmmegjfipaaGreatDoor

/- Layer 15: the leaves: what is a place, what goes on, what raises, the handler. -/
namespace Go.Proofs.YtmkncmmegjfipaaGreatDoor
open Go Go.RowKit

set_option maxHeartbeats 4000000 in
theorem fplace_any (f : Cf) (a : Int) (w : World) : Calls Tryz.prog 177 #[.agg f.vs.toArray, .int .i64 a] w fun e w' => e = .returned (.bool (f.pl a)) ∧ Below w.heap.size w w' := by
  have B0 := hyd (below_alloc w (.cells f.vs.toArray 66))
  have b := Blk.new w f.vs 66
  have c14 := b.cell 14 rfl
  have HF : Hid (f.pl a = (decide (0 ≤ a) && decide (a < f.cd.len))) := rfl
  generalize f.pl a = F at *
  generalize f.vs.toArray = V at *
  clear b
  by_cases h1 : 0 ≤ a
  · by_cases h2 : a < f.cd.len
    · have HG : Hid (F = true) := by show _ = _; rw [HF.out, decide_eq_true h1, decide_eq_true h2]; rfl
      go_enter Tryz.func177, Tryz.ntmps177
      go_wp2
      go_ret
      exact ⟨ret_bool HG.out.symm, B0.out⟩
    · have HG : Hid (F = false) := by show _ = _; rw [HF.out, decide_eq_true h1, decide_eq_false h2]; rfl
      go_enter Tryz.func177, Tryz.ntmps177
      go_wp2
      go_ret
      exact ⟨ret_bool HG.out.symm, B0.out⟩
  · have HG : Hid (F = false) := by show _ = _; rw [HF.out, decide_eq_false h1]; rfl
    go_enter Tryz.func177, Tryz.ntmps177
    go_wp2
    go_ret
    exact ⟨ret_bool HG.out.symm, B0.out⟩
theorem ret_num {a b : Int} (h : a = b) : Ending.returned (.int .i64 a) = .returned (.int .i64 b) := by rw [h]
/-- A function in its box, a call's own world behind it. -/
structure Fx (w0 : World) (f : Cf) (B : Nat) (w : World) : Prop where
  bl : Below w0.heap.size w0 w
  b : Blk w B f.vs 66
  f : f.At w
theorem Fx.kept {w0 : World} {f : Cf} {B : Nat} {w w' : World} (h : Fx w0 f B w) (hb : Below w.heap.size w w') : Fx w0 f B w' := ⟨Below.next h.bl hb, h.b.kept hb, Cf.At.kept hb h.f⟩
theorem Fx.new (w : World) (f : Cf) (hf : f.At w) : Fx w f w.heap.size (w.alloc (.cells f.vs.toArray 66)) :=
  ⟨below_alloc w _, Blk.new w f.vs 66, Cf.At.kept (below_alloc w _) hf⟩

set_option maxRecDepth 100000 in
set_option maxHeartbeats 8000000 in
theorem handler_any (f : Cf) (p : Nat) (w : World) (hf : f.At w) (hp : p < f.cd.len) : Calls Tryz.prog 172 #[.agg f.vs.toArray, .int .i64 p] w fun e w' => e = .returned (.int .i64 (f.han p)) ∧ Below w.heap.size w w' := by
  have H1 := hyd (Fx.new w f hf)
  have hpl : f.pl p = true := Cf.pl_iff.2 ⟨by omega, by omega⟩
  have HM := hyd (fun h => Cf.han_miss (f := f) (p := p) h)
  have HH := hyd (fun j h1 h2 h3 => Cf.han_hit (f := f) (p := p) (j := j) h1 h2 h3)
  have HHI : Hid (∀ i, f.hit p i = (decide ((f.hd.x i).fr ≤ p) && decide ((p : Int) < (f.hd.x i).to))) := fun _ => rfl
  have hbd := hf.hd.bound
  have HNIL := hyd hf.hd.nil
  clear hp hf
  generalize f.han p = R at *
  have h0 := fplace_any f p (w.alloc (.cells f.vs.toArray 66))
  rw [hpl] at h0
  have rF := H1.out.b.range
  generalize hw : w.alloc (.cells f.vs.toArray 66) = u1 at *
  go_enter Tryz.func172, Tryz.ntmps172
  go_wp2_with (refine wpList_load_mid rfl 66 (.tmp 2) rfl w.heap.size 0 (by kernel_rfl) f.vs _ rF Tryz.underlying66 rfl (by kernel_rfl) ?_)
  refine h0.mono ?_
  rintro _ u2 ⟨rfl, hb⟩
  have H2 := hyd (H1.out.kept hb)
  clear h0 hb H1 rF hpl hw
  have c15 := H2.out.b.cell 15 rfl
  by_cases hz : 0 < f.hd.len
  · rw [HNIL.out hz] at c15
    go_wp2
    go_loopw [14] (fun i wr => ∃ (j : Nat), j ≤ f.hd.len ∧ i = .int .i64 j ∧ Fx w f w.heap.size wr ∧ (∀ i, i < j → f.hit p i = false)) (fun i _ => f.hd.len - (intOf i).toNat)
    case atStart => exact ⟨0, Nat.zero_le _, rfl, H2.out, fun i hi => absurd hi (Nat.not_lt_zero _)⟩
    case round =>
      clear H2 c15
      obtain ⟨j, hj, rfl, hBl, hall⟩ := hrel
      have HB := hyd hBl
      have HL := hyd hall
      clear hBl hall
      by_cases hlt : j < f.hd.len
      · have ij : (j : Int) < f.hd.len := by omega
        have r0 := HB.out.f.hd.row j hlt
        have HH2 := hyd (HH.out j hlt)
        have HHJ := hyd (HHI.out j)
        generalize f.hd.x j = x at *
        go_upto_region 6 with (first | (refine wpList_load_mid rfl 68 (.tmp 16) rfl f.hd.b (f.hd.o + j * 3) (by kernel_rfl) x.vs _ r0 Tryz.underlying68 rfl (by kernel_rfl) ?_) | (refine wpList_new_mid rfl rfl 68 rfl (.tmp 6) (.tmp 17) rfl z_hn (alloc_hn _) rfl x.vs.toArray (by kernel_rfl) (by kernel_rfl) rfl (by kernel_rfl) (by simpa using x.vs_one) ?_))
        have B1 := below_alloc wr (.cells x.vs.toArray 68)
        have HU := hyd (show Fx w f w.heap.size (wr.alloc (.cells x.vs.toArray 68)) ∧ Blk _ wr.heap.size x.vs 68 from ⟨HB.out.kept B1, Blk.new wr _ _⟩)
        clear r0 HB B1
        generalize wr.alloc (.cells x.vs.toArray 68) = U at *
        generalize wr.heap.size = BX at *
        have d0 := HU.out.2.cell 0 rfl
        have d1 := HU.out.2.cell 1 rfl
        have d2 := HU.out.2.cell 2 rfl
        by_cases k1 : x.fr ≤ (p : Int)
        · by_cases k2 : (p : Int) < x.to
          · have HE : Hid (R = x.at_) := HH2.out (by rw [HHJ.out, decide_eq_true k1, decide_eq_true k2]; rfl) HL.out
            go_wp2
            go_ret
            exact ⟨ret_num HE.out.symm, HU.out.1.bl⟩
          · have HE : Hid (f.hit p j = false) := by show _ = _; rw [HHJ.out, decide_eq_true k1, decide_eq_false k2]; rfl
            go_wp2
            go_roundw
            case rel => exact ⟨j + 1, by omega, by go_num, HU.out.1, fun i hi => by
              by_cases e : i = j
              · rw [e]; exact HE.out
              · exact HL.out i (by omega)⟩
            case measure => simp [intOf]; omega
        · have HE : Hid (f.hit p j = false) := by show _ = _; rw [HHJ.out, decide_eq_false k1]; rfl
          go_wp2
          go_roundw
          case rel => exact ⟨j + 1, by omega, by go_num, HU.out.1, fun i hi => by
            by_cases e : i = j
            · rw [e]; exact HE.out
            · exact HL.out i (by omega)⟩
          case measure => simp [intOf]; omega
      · have e2 : ¬ (j : Int) < f.hd.len := by omega
        have HE : Hid (R = -1) := HM.out (fun i hi => HL.out i (by omega))
        go_wp2
        go_ret
        exact ⟨ret_num HE.out.symm, HB.out.bl⟩
  · have i0 : ¬ (0 : Int) < f.hd.len := by omega
    have HE : Hid (R = -1) := HM.out (fun i hi => by omega)
    clear hz
    go_wp2
    go_loopw [14] (fun i wr => i = .int .i64 0 ∧ Below w.heap.size w wr) (fun _ _ => 0)
    case atStart => exact ⟨rfl, H2.out.bl⟩
    case round =>
      obtain ⟨rfl, hb⟩ := hrel
      have HB := hyd hb
      clear hb
      go_wp2
      go_ret
      exact ⟨ret_num HE.out.symm, HB.out⟩
end Go.Proofs.YtmkncmmegjfipaaGreatDoor

/- Layer 3: values, as they lie in memory; what is told of them. -/
namespace Go.Proofs.YtmkncmmegjfipaaGreatDoor
open Go.RowKit

/-- A value: its numbers, where its Parts lie, and they ('dm': none; it lies nowhere). -/
inductive Vl where
  | dm : Vl
  | mk (k m : Int) (ao : Option Addr) (b o len cap : Nat) (ps : Nat → Vl) : Vl
def Vl.k : Vl → Int | .dm => 0 | .mk k _ _ _ _ _ _ _ => k
def Vl.m : Vl → Int | .dm => 0 | .mk _ m _ _ _ _ _ _ => m
def Vl.ao : Vl → Option Addr | .dm => none | .mk _ _ ao _ _ _ _ _ => ao
def Vl.b : Vl → Nat | .dm => 0 | .mk _ _ _ b _ _ _ _ => b
def Vl.o : Vl → Nat | .dm => 0 | .mk _ _ _ _ o _ _ _ => o
def Vl.len : Vl → Nat | .dm => 0 | .mk _ _ _ _ _ len _ _ => len
def Vl.cap : Vl → Nat | .dm => 0 | .mk _ _ _ _ _ _ cap _ => cap
def Vl.ps : Vl → Nat → Vl | .dm => fun _ => .dm | .mk _ _ _ _ _ _ _ ps => ps

/-- Three cells that hold a value. -/
structure C3 (w : World) (b o : Nat) (t : Vl) : Prop where
  c0 : w.cell? ⟨b, o, none⟩ = some (.int .i64 t.k)
  c1 : w.cell? ⟨b, o + 1, none⟩ = some (.int .i64 t.m)
  c2 : w.cell? ⟨b, o + 2, none⟩ = some (.slice t.ao t.len t.cap)
theorem C3.kept {w w' : World} {b o : Nat} {t : Vl} (h : C3 w b o t) (hb : Below w.heap.size w w') : C3 w' b o t := ⟨up hb h.c0, up hb h.c1, up hb h.c2⟩

def Vl.At (w : World) : Vl → Prop
  | .dm => False
  | .mk _ _ ao b o len _ ps => (0 < len → ao = some ⟨b, o, none⟩) ∧ len ≤ 9223372036854775807 ∧ ∀ i, i < len → C3 w b (o + i * 3) (ps i) ∧ Vl.At w (ps i)
theorem Vl.At.kept {w w' : World} (hb : Below w.heap.size w w') : ∀ {t : Vl}, t.At w → t.At w'
  | .dm, h => h.elim
  | .mk _ _ _ _ _ _ _ _, h => ⟨h.1, h.2.1, fun i hi => ⟨(h.2.2 i hi).1.kept hb, Vl.At.kept hb (h.2.2 i hi).2⟩⟩
theorem Vl.At.nil {w : World} : ∀ {t : Vl}, t.At w → 0 < t.len → t.ao = some ⟨t.b, t.o, none⟩
  | .dm, h => h.elim
  | .mk _ _ _ _ _ _ _ _, h => h.1
theorem Vl.At.bound {w : World} : ∀ {t : Vl}, t.At w → t.len ≤ 9223372036854775807
  | .dm, h => h.elim
  | .mk _ _ _ _ _ _ _ _, h => h.2.1
theorem Vl.At.cells {w : World} : ∀ {t : Vl}, t.At w → ∀ {i}, i < t.len → C3 w t.b (t.o + i * 3) (t.ps i)
  | .dm, h, _, _ => h.elim
  | .mk _ _ _ _ _ _ _ _, h, i, hi => (h.2.2 i hi).1
theorem Vl.At.part {w : World} : ∀ {t : Vl}, t.At w → ∀ {i}, i < t.len → (t.ps i).At w
  | .dm, h, _, _ => h.elim
  | .mk _ _ _ _ _ _ _ _, h, i, hi => (h.2.2 i hi).2

/-- A variable that holds a value, at a block's beginning. -/
structure Bv (w : World) (B : Nat) (t : Vl) : Prop where
  c0 : w.cell? ⟨B, 0, none⟩ = some (.int .i64 t.k)
  c1 : w.cell? ⟨B, 1, none⟩ = some (.int .i64 t.m)
  c2 : w.cell? ⟨B, 2, none⟩ = some (.slice t.ao t.len t.cap)
theorem Bv.kept {w w' : World} {B : Nat} {t : Vl} (h : Bv w B t) (hb : Below w.heap.size w w') : Bv w' B t := ⟨up hb h.c0, up hb h.c1, up hb h.c2⟩
theorem Bv.new (w : World) (t : Vl) : Bv (w.alloc (.cells #[.int .i64 t.k, .int .i64 t.m, .slice t.ao t.len t.cap] 31)) w.heap.size t := by
  constructor <;> simp
def vlO (t : Vl) : Obj := .cells #[.int .i64 t.k, .int .i64 t.m, .slice t.ao t.len t.cap] 31

/-- How many nodes. -/
def Vl.nodes : Vl → Nat
  | .dm => 1
  | .mk _ _ _ _ _ len _ ps => 1 + sumTo (fun i => Vl.nodes (ps i)) len
/-- A node is formed, its Parts apart. -/
def ndB (k m : Int) (len : Nat) : Bool := if k = 1 then len == 0 else if k = 2 then (len == 0) && ((m == 0) || (m == 1)) else if k = 3 then (len == 2) && (m == 0) else if k = 4 then decide (0 ≤ m) && decide (m < 60) else if k = 5 then ((len == 0) && decide (0 ≤ m)) && decide (m ≤ 2147483647) else false
/-- Formed, but for the number of nodes. -/
def Vl.fm : Vl → Bool
  | .dm => false
  | .mk k m _ _ _ len _ ps => ndB k m len && decide (∀ i, i < len → Vl.fm (ps i) = true)
/-- Formed. -/
def Vl.ok (v : Vl) : Bool := decide (v.nodes ≤ 2000) && v.fm
/-- All alike. -/
def Vl.same : Vl → Vl → Bool
  | .dm, t => ((0 == t.k) && (0 == t.m)) && (0 == t.len)
  | .mk k m _ _ _ len _ ps, t => (((k == t.k) && (m == t.m)) && (len == t.len)) && decide (∀ i, i < len → Vl.same (ps i) (t.ps i) = true)
end Go.Proofs.YtmkncmmegjfipaaGreatDoor
