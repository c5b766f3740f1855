/- Layer 13: class.all, over each kind of list. -/
import Derived.Test.YtdplabhgdonbiaaDoorP14
import Derived.Test.YtdplabhgdonbiaaDoorP10
import Derived.Test.YtdplabhgdonbiaaDoorP12
namespace Go.Proofs.YtdplabhgdonbiaaDoor
open Go Go.RowKit

/-- What all answers, and what holds behind it. -/
structure AllR (I : Nat → World → Prop) (J : World → Prop) (len : Nat) (ans : Nat → Bool) (e : Ending) (w' : World) : Prop where
  ret : e = .returned (.bool (decide (∀ i, i < len → ans i = true)))
  yes : (∀ i, i < len → ans i = true) → I len w'
  no : (∃ i, i < len ∧ ans i = false) → J w'

def z_ty : List Value := [.int .i64 0, .int .i64 0, .slice none 0 0, .int .i64 0, .int .i64 0]
theorem alloc_ty (w : World) : (Instr.alloc 37 true (.tuple #[])).run Tryd.prog w = .ok (.pointer (some ⟨w.heap.size, 0, none⟩)) (w.alloc (.cells z_ty.toArray 37)) := by
  have hz : (Tryd.prog.info? 37).map (·.zero) = some (some (.agg z_ty.toArray)) := by kernel_rfl
  cases hq : Tryd.prog.info? 37 with
  | none => rw [hq] at hz; simp at hz
  | some i =>
    rw [hq] at hz
    simp at hz
    simp [Instr.alloc, newVar, newRow, zeroValue, typeInfo, hq, hz, Value.cells, z_ty]

set_option maxRecDepth 100000 in
set_option maxHeartbeats 8000000 in
theorem all_ty (q : Value) (I : Nat → World → Prop) (J : World → Prop) (ans : Nat → Bool) (ao : Option Addr) (b o len cap : Nat) (vs : Nat → List Value) (w : World) (hnil : 0 < len → ao = some ⟨b, o, none⟩) (hbd : len ≤ 9223372036854775807)
    (hz : ∀ i, i < len → (vs i).length = 5) (h1 : ∀ i, i < len → (vs i).all (·.oneCell') = true) (hrow : ∀ i u, i < len → I i u → u.rangeAt b (o + i * 5) (vs i)) (hgrow : ∀ i u u', i ≤ len → I i u → Below u.heap.size u u' → I i u')
    (hcall : ∀ i u, i < len → I i u → Calls Tryd.prog 59 #[q, .agg (vs i).toArray] u fun e u' => e = .returned (.bool (ans i)) ∧ (ans i = true → I (i + 1) u') ∧ (ans i = false → J u')) (hI : I 0 w) :
    Calls Tryd.prog 84 #[.slice ao len cap, .func (.func 59) #[q] #[]] w fun e w' => AllR I J len ans e w' := by
  have HI := hyd hI
  have HH := hyd (show (∀ i, i < len → (vs i).length = 5) ∧ (∀ i, i < len → (vs i).all (·.oneCell') = true) ∧ (∀ i u, i < len → I i u → u.rangeAt b (o + i * 5) (vs i)) ∧ (∀ i u u', i ≤ len → I i u → Below u.heap.size u u' → I i u') from ⟨hz, h1, hrow, hgrow⟩)
  have HC := hyd hcall
  clear hI hz h1 hrow hgrow hcall
  go_enter Tryd.func84, Tryd.ntmps84
  go_wp2
  go_loopw [9] (fun i wr => ∃ (k : Nat), k ≤ len ∧ i = .int .i64 k ∧ (∀ i, i < k → ans i = true) ∧ I k wr) (fun i _ => len - (intOf i).toNat)
  case atStart => exact ⟨0, Nat.zero_le _, rfl, fun i hi => absurd hi (Nat.not_lt_zero _), HI.out⟩
  case round =>
    clear HI
    obtain ⟨k, hk, rfl, hall, hB⟩ := hrel
    have HA := hyd hall
    have HI := hyd hB
    clear hall hB
    by_cases hlt : k < len
    · have ij : (k : Int) < len := by omega
      have a0 := hnil (by omega)
      subst a0
      have r1 : wr.rangeAt b (o + k * 5) (vs k) := HH.out.2.2.1 k wr hlt HI.out
      have hl1 := HH.out.1 k hlt
      have ho1 := HH.out.2.1 k hlt
      have hcl : Calls Tryd.prog 59 #[q, .agg (vs k).toArray] (wr.alloc (.cells (vs k).toArray 37)) _ := HC.out k _ hlt (HH.out.2.2.2 k wr _ hk HI.out (below_alloc wr _))
      have HK := hyd (show ∀ i, i < k → ans i = true from HA.out)
      have bN : Blk (wr.alloc (.cells (vs k).toArray 37)) wr.heap.size (vs k) 37 := Blk.new wr _ _
      clear HI
      generalize vs k = xs at *
      have hi18 : (Tryd.prog.info? 37).map (·.size) = some xs.length := by rw [hl1]; kernel_rfl
      go_upto_region 4 with (first | (refine wpList_load_mid rfl 37 (.tmp 11) rfl b (o + k * 5) (by kernel_rfl) xs _ r1 Tryd.underlying37 rfl hi18 ?_) | (refine wpList_new_mid rfl rfl 37 rfl (.tmp 6) (.tmp 12) rfl z_ty (alloc_ty _) rfl xs.toArray (by kernel_rfl) (by kernel_rfl) (by rw [List.size_toArray, hl1]; rfl) (by rw [List.size_toArray]; exact hi18) (by simpa using ho1) ?_))
      have rN := bN.range
      generalize (wr.alloc (.cells xs.toArray 37)) = w3 at *
      generalize wr.heap.size = B9 at *
      go_wp2_with (refine wpList_load_mid rfl 37 (.tmp 6) rfl B9 0 (by kernel_rfl) xs _ rN Tryd.underlying37 rfl hi18 ?_)
      refine Calls.mono hcl ?_
      rintro _ w4 ⟨rfl, hy, hn⟩
      clear hcl bN rN r1
      have HAS : Hid ((ans k = true → (∀ i, i < k + 1 → ans i = true) ∧ I (k + 1) w4) ∧ (ans k = false → decide (∀ i, i < len → ans i = true) = false ∧ J w4 ∧ ¬ ∀ i, i < len → ans i = true)) := by
        refine ⟨fun h => ⟨fun i hi => ?_, hy h⟩, fun h => ⟨?_, hn h, fun hh => by rw [hh k hlt] at h; cases h⟩⟩
        · rcases Nat.lt_or_ge i k with h2 | h2
          · exact HK.out i h2
          · have : i = k := by omega
            subst this; exact h
        · rw [decide_eq_false_iff_not]
          intro hh
          rw [hh k hlt] at h
          cases h
      clear hy hn
      generalize ans k = bb at *
      cases bb
      · go_wp2
        go_ret
        have := HAS.out.2 (by simp)
        exact ⟨ret_bool this.1.symm, fun h => absurd h this.2.2, fun _ => this.2.1⟩
      · go_wp2
        go_roundw
        case rel => exact ⟨k + 1, by omega, by go_num, (HAS.out.1 (by simp)).1, (HAS.out.1 (by simp)).2⟩
        case measure => simp [intOf]; omega
    · have e2 : k = len := by omega
      subst e2
      have d : ¬ (k : Int) < k := by omega
      go_wp2
      go_ret
      exact ⟨ret_bool (by symm; rw [decide_eq_true_eq]; exact HA.out), fun _ => HI.out, fun ⟨i, hi, h⟩ => by rw [HA.out i hi] at h; cases h⟩

def z_ins : List Value := [.int .i64 0, .int .i64 0, .int .i64 0, .int .i64 0, .slice none 0 0, .int .i64 0, .int .i64 0]
theorem alloc_ins (w : World) : (Instr.alloc 48 true (.tuple #[])).run Tryd.prog w = .ok (.pointer (some ⟨w.heap.size, 0, none⟩)) (w.alloc (.cells z_ins.toArray 48)) := by
  have hz : (Tryd.prog.info? 48).map (·.zero) = some (some (.agg z_ins.toArray)) := by kernel_rfl
  cases hq : Tryd.prog.info? 48 with
  | none => rw [hq] at hz; simp at hz
  | some i =>
    rw [hq] at hz
    simp at hz
    simp [Instr.alloc, newVar, newRow, zeroValue, typeInfo, hq, hz, Value.cells, z_ins]

set_option maxRecDepth 100000 in
set_option maxHeartbeats 8000000 in
theorem all_ins (q : Value) (I : Nat → World → Prop) (J : World → Prop) (ans : Nat → Bool) (ao : Option Addr) (b o len cap : Nat) (vs : Nat → List Value) (w : World) (hnil : 0 < len → ao = some ⟨b, o, none⟩) (hbd : len ≤ 9223372036854775807)
    (hz : ∀ i, i < len → (vs i).length = 7) (h1 : ∀ i, i < len → (vs i).all (·.oneCell') = true) (hrow : ∀ i u, i < len → I i u → u.rangeAt b (o + i * 7) (vs i)) (hgrow : ∀ i u u', i ≤ len → I i u → Below u.heap.size u u' → I i u')
    (hcall : ∀ i u, i < len → I i u → Calls Tryd.prog 62 #[q, .agg (vs i).toArray] u fun e u' => e = .returned (.bool (ans i)) ∧ (ans i = true → I (i + 1) u') ∧ (ans i = false → J u')) (hI : I 0 w) :
    Calls Tryd.prog 61 #[.slice ao len cap, .func (.func 62) #[q] #[]] w fun e w' => AllR I J len ans e w' := by
  have HI := hyd hI
  have HH := hyd (show (∀ i, i < len → (vs i).length = 7) ∧ (∀ i, i < len → (vs i).all (·.oneCell') = true) ∧ (∀ i u, i < len → I i u → u.rangeAt b (o + i * 7) (vs i)) ∧ (∀ i u u', i ≤ len → I i u → Below u.heap.size u u' → I i u') from ⟨hz, h1, hrow, hgrow⟩)
  have HC := hyd hcall
  clear hI hz h1 hrow hgrow hcall
  go_enter Tryd.func61, Tryd.ntmps61
  go_wp2
  go_loopw [9] (fun i wr => ∃ (k : Nat), k ≤ len ∧ i = .int .i64 k ∧ (∀ i, i < k → ans i = true) ∧ I k wr) (fun i _ => len - (intOf i).toNat)
  case atStart => exact ⟨0, Nat.zero_le _, rfl, fun i hi => absurd hi (Nat.not_lt_zero _), HI.out⟩
  case round =>
    clear HI
    obtain ⟨k, hk, rfl, hall, hB⟩ := hrel
    have HA := hyd hall
    have HI := hyd hB
    clear hall hB
    by_cases hlt : k < len
    · have ij : (k : Int) < len := by omega
      have a0 := hnil (by omega)
      subst a0
      have r1 : wr.rangeAt b (o + k * 7) (vs k) := HH.out.2.2.1 k wr hlt HI.out
      have hl1 := HH.out.1 k hlt
      have ho1 := HH.out.2.1 k hlt
      have hcl : Calls Tryd.prog 62 #[q, .agg (vs k).toArray] (wr.alloc (.cells (vs k).toArray 48)) _ := HC.out k _ hlt (HH.out.2.2.2 k wr _ hk HI.out (below_alloc wr _))
      have HK := hyd (show ∀ i, i < k → ans i = true from HA.out)
      have bN : Blk (wr.alloc (.cells (vs k).toArray 48)) wr.heap.size (vs k) 48 := Blk.new wr _ _
      clear HI
      generalize vs k = xs at *
      have hi18 : (Tryd.prog.info? 48).map (·.size) = some xs.length := by rw [hl1]; kernel_rfl
      go_upto_region 4 with (first | (refine wpList_load_mid rfl 48 (.tmp 11) rfl b (o + k * 7) (by kernel_rfl) xs _ r1 Tryd.underlying48 rfl hi18 ?_) | (refine wpList_new_mid rfl rfl 48 rfl (.tmp 6) (.tmp 12) rfl z_ins (alloc_ins _) rfl xs.toArray (by kernel_rfl) (by kernel_rfl) (by rw [List.size_toArray, hl1]; rfl) (by rw [List.size_toArray]; exact hi18) (by simpa using ho1) ?_))
      have rN := bN.range
      generalize (wr.alloc (.cells xs.toArray 48)) = w3 at *
      generalize wr.heap.size = B9 at *
      go_wp2_with (refine wpList_load_mid rfl 48 (.tmp 6) rfl B9 0 (by kernel_rfl) xs _ rN Tryd.underlying48 rfl hi18 ?_)
      refine Calls.mono hcl ?_
      rintro _ w4 ⟨rfl, hy, hn⟩
      clear hcl bN rN r1
      have HAS : Hid ((ans k = true → (∀ i, i < k + 1 → ans i = true) ∧ I (k + 1) w4) ∧ (ans k = false → decide (∀ i, i < len → ans i = true) = false ∧ J w4 ∧ ¬ ∀ i, i < len → ans i = true)) := by
        refine ⟨fun h => ⟨fun i hi => ?_, hy h⟩, fun h => ⟨?_, hn h, fun hh => by rw [hh k hlt] at h; cases h⟩⟩
        · rcases Nat.lt_or_ge i k with h2 | h2
          · exact HK.out i h2
          · have : i = k := by omega
            subst this; exact h
        · rw [decide_eq_false_iff_not]
          intro hh
          rw [hh k hlt] at h
          cases h
      clear hy hn
      generalize ans k = bb at *
      cases bb
      · go_wp2
        go_ret
        have := HAS.out.2 (by simp)
        exact ⟨ret_bool this.1.symm, fun h => absurd h this.2.2, fun _ => this.2.1⟩
      · go_wp2
        go_roundw
        case rel => exact ⟨k + 1, by omega, by go_num, (HAS.out.1 (by simp)).1, (HAS.out.1 (by simp)).2⟩
        case measure => simp [intOf]; omega
    · have e2 : k = len := by omega
      subst e2
      have d : ¬ (k : Int) < k := by omega
      go_wp2
      go_ret
      exact ⟨ret_bool (by symm; rw [decide_eq_true_eq]; exact HA.out), fun _ => HI.out, fun ⟨i, hi, h⟩ => by rw [HA.out i hi] at h; cases h⟩

def z_fn : List Value := [.int .i64 0, .int .i64 0, .slice none 0 0, .int .i64 0, .int .i64 0, .int .i64 0, .int .i64 0, .slice none 0 0, .int .i64 0, .int .i64 0, .slice none 0 0, .int .i64 0, .int .i64 0, .int .i64 0, .slice none 0 0, .slice none 0 0, .slice none 0 0, .slice none 0 0]
theorem alloc_fn (w : World) : (Instr.alloc 43 true (.tuple #[])).run Tryd.prog w = .ok (.pointer (some ⟨w.heap.size, 0, none⟩)) (w.alloc (.cells z_fn.toArray 43)) := by
  have hz : (Tryd.prog.info? 43).map (·.zero) = some (some (.agg z_fn.toArray)) := by kernel_rfl
  cases hq : Tryd.prog.info? 43 with
  | none => rw [hq] at hz; simp at hz
  | some i =>
    rw [hq] at hz
    simp at hz
    simp [Instr.alloc, newVar, newRow, zeroValue, typeInfo, hq, hz, Value.cells, z_fn]

set_option maxRecDepth 100000 in
set_option maxHeartbeats 8000000 in
theorem all_fn (q : Value) (I : Nat → World → Prop) (J : World → Prop) (ans : Nat → Bool) (ao : Option Addr) (b o len cap : Nat) (vs : Nat → List Value) (w : World) (hnil : 0 < len → ao = some ⟨b, o, none⟩) (hbd : len ≤ 9223372036854775807)
    (hz : ∀ i, i < len → (vs i).length = 18) (h1 : ∀ i, i < len → (vs i).all (·.oneCell') = true) (hrow : ∀ i u, i < len → I i u → u.rangeAt b (o + i * 18) (vs i)) (hgrow : ∀ i u u', i ≤ len → I i u → Below u.heap.size u u' → I i u')
    (hcall : ∀ i u, i < len → I i u → Calls Tryd.prog 38 #[q, .agg (vs i).toArray] u fun e u' => e = .returned (.bool (ans i)) ∧ (ans i = true → I (i + 1) u') ∧ (ans i = false → J u')) (hI : I 0 w) :
    Calls Tryd.prog 37 #[.slice ao len cap, .func (.func 38) #[q] #[]] w fun e w' => AllR I J len ans e w' := by
  have HI := hyd hI
  have HH := hyd (show (∀ i, i < len → (vs i).length = 18) ∧ (∀ i, i < len → (vs i).all (·.oneCell') = true) ∧ (∀ i u, i < len → I i u → u.rangeAt b (o + i * 18) (vs i)) ∧ (∀ i u u', i ≤ len → I i u → Below u.heap.size u u' → I i u') from ⟨hz, h1, hrow, hgrow⟩)
  have HC := hyd hcall
  clear hI hz h1 hrow hgrow hcall
  go_enter Tryd.func37, Tryd.ntmps37
  go_wp2
  go_loopw [9] (fun i wr => ∃ (k : Nat), k ≤ len ∧ i = .int .i64 k ∧ (∀ i, i < k → ans i = true) ∧ I k wr) (fun i _ => len - (intOf i).toNat)
  case atStart => exact ⟨0, Nat.zero_le _, rfl, fun i hi => absurd hi (Nat.not_lt_zero _), HI.out⟩
  case round =>
    clear HI
    obtain ⟨k, hk, rfl, hall, hB⟩ := hrel
    have HA := hyd hall
    have HI := hyd hB
    clear hall hB
    by_cases hlt : k < len
    · have ij : (k : Int) < len := by omega
      have a0 := hnil (by omega)
      subst a0
      have r1 : wr.rangeAt b (o + k * 18) (vs k) := HH.out.2.2.1 k wr hlt HI.out
      have hl1 := HH.out.1 k hlt
      have ho1 := HH.out.2.1 k hlt
      have hcl : Calls Tryd.prog 38 #[q, .agg (vs k).toArray] (wr.alloc (.cells (vs k).toArray 43)) _ := HC.out k _ hlt (HH.out.2.2.2 k wr _ hk HI.out (below_alloc wr _))
      have HK := hyd (show ∀ i, i < k → ans i = true from HA.out)
      have bN : Blk (wr.alloc (.cells (vs k).toArray 43)) wr.heap.size (vs k) 43 := Blk.new wr _ _
      clear HI
      generalize vs k = xs at *
      have hi18 : (Tryd.prog.info? 43).map (·.size) = some xs.length := by rw [hl1]; kernel_rfl
      go_upto_region 4 with (first | (refine wpList_load_mid rfl 43 (.tmp 11) rfl b (o + k * 18) (by kernel_rfl) xs _ r1 Tryd.underlying43 rfl hi18 ?_) | (refine wpList_new_mid rfl rfl 43 rfl (.tmp 6) (.tmp 12) rfl z_fn (alloc_fn _) rfl xs.toArray (by kernel_rfl) (by kernel_rfl) (by rw [List.size_toArray, hl1]; rfl) (by rw [List.size_toArray]; exact hi18) (by simpa using ho1) ?_))
      have rN := bN.range
      generalize (wr.alloc (.cells xs.toArray 43)) = w3 at *
      generalize wr.heap.size = B9 at *
      go_wp2_with (refine wpList_load_mid rfl 43 (.tmp 6) rfl B9 0 (by kernel_rfl) xs _ rN Tryd.underlying43 rfl hi18 ?_)
      refine Calls.mono hcl ?_
      rintro _ w4 ⟨rfl, hy, hn⟩
      clear hcl bN rN r1
      have HAS : Hid ((ans k = true → (∀ i, i < k + 1 → ans i = true) ∧ I (k + 1) w4) ∧ (ans k = false → decide (∀ i, i < len → ans i = true) = false ∧ J w4 ∧ ¬ ∀ i, i < len → ans i = true)) := by
        refine ⟨fun h => ⟨fun i hi => ?_, hy h⟩, fun h => ⟨?_, hn h, fun hh => by rw [hh k hlt] at h; cases h⟩⟩
        · rcases Nat.lt_or_ge i k with h2 | h2
          · exact HK.out i h2
          · have : i = k := by omega
            subst this; exact h
        · rw [decide_eq_false_iff_not]
          intro hh
          rw [hh k hlt] at h
          cases h
      clear hy hn
      generalize ans k = bb at *
      cases bb
      · go_wp2
        go_ret
        have := HAS.out.2 (by simp)
        exact ⟨ret_bool this.1.symm, fun h => absurd h this.2.2, fun _ => this.2.1⟩
      · go_wp2
        go_roundw
        case rel => exact ⟨k + 1, by omega, by go_num, (HAS.out.1 (by simp)).1, (HAS.out.1 (by simp)).2⟩
        case measure => simp [intOf]; omega
    · have e2 : k = len := by omega
      subst e2
      have d : ¬ (k : Int) < k := by omega
      go_wp2
      go_ret
      exact ⟨ret_bool (by symm; rw [decide_eq_true_eq]; exact HA.out), fun _ => HI.out, fun ⟨i, hi, h⟩ => by rw [HA.out i hi] at h; cases h⟩

def z_hn : List Value := [.int .i64 0, .int .i64 0, .int .i64 0]
theorem alloc_hn (w : World) : (Instr.alloc 50 true (.tuple #[])).run Tryd.prog w = .ok (.pointer (some ⟨w.heap.size, 0, none⟩)) (w.alloc (.cells z_hn.toArray 50)) := by
  have hz : (Tryd.prog.info? 50).map (·.zero) = some (some (.agg z_hn.toArray)) := by kernel_rfl
  cases hq : Tryd.prog.info? 50 with
  | none => rw [hq] at hz; simp at hz
  | some i =>
    rw [hq] at hz
    simp at hz
    simp [Instr.alloc, newVar, newRow, zeroValue, typeInfo, hq, hz, Value.cells, z_hn]

set_option maxRecDepth 100000 in
set_option maxHeartbeats 8000000 in
theorem all_hn (I : Nat → World → Prop) (J : World → Prop) (ans : Nat → Bool) (ao : Option Addr) (b o len cap : Nat) (vs : Nat → List Value) (w : World) (hnil : 0 < len → ao = some ⟨b, o, none⟩) (hbd : len ≤ 9223372036854775807)
    (hz : ∀ i, i < len → (vs i).length = 3) (h1 : ∀ i, i < len → (vs i).all (·.oneCell') = true) (hrow : ∀ i u, i < len → I i u → u.rangeAt b (o + i * 3) (vs i)) (hgrow : ∀ i u u', i ≤ len → I i u → Below u.heap.size u u' → I i u')
    (hcall : ∀ i u, i < len → I i u → Calls Tryd.prog 65 #[.agg (vs i).toArray] u fun e u' => e = .returned (.bool (ans i)) ∧ (ans i = true → I (i + 1) u') ∧ (ans i = false → J u')) (hI : I 0 w) :
    Calls Tryd.prog 64 #[.slice ao len cap, .func (.func 65) #[] #[]] w fun e w' => AllR I J len ans e w' := by
  have HI := hyd hI
  have HH := hyd (show (∀ i, i < len → (vs i).length = 3) ∧ (∀ i, i < len → (vs i).all (·.oneCell') = true) ∧ (∀ i u, i < len → I i u → u.rangeAt b (o + i * 3) (vs i)) ∧ (∀ i u u', i ≤ len → I i u → Below u.heap.size u u' → I i u') from ⟨hz, h1, hrow, hgrow⟩)
  have HC := hyd hcall
  clear hI hz h1 hrow hgrow hcall
  go_enter Tryd.func64, Tryd.ntmps64
  go_wp2
  go_loopw [9] (fun i wr => ∃ (k : Nat), k ≤ len ∧ i = .int .i64 k ∧ (∀ i, i < k → ans i = true) ∧ I k wr) (fun i _ => len - (intOf i).toNat)
  case atStart => exact ⟨0, Nat.zero_le _, rfl, fun i hi => absurd hi (Nat.not_lt_zero _), HI.out⟩
  case round =>
    clear HI
    obtain ⟨k, hk, rfl, hall, hB⟩ := hrel
    have HA := hyd hall
    have HI := hyd hB
    clear hall hB
    by_cases hlt : k < len
    · have ij : (k : Int) < len := by omega
      have a0 := hnil (by omega)
      subst a0
      have r1 : wr.rangeAt b (o + k * 3) (vs k) := HH.out.2.2.1 k wr hlt HI.out
      have hl1 := HH.out.1 k hlt
      have ho1 := HH.out.2.1 k hlt
      have hcl : Calls Tryd.prog 65 #[.agg (vs k).toArray] (wr.alloc (.cells (vs k).toArray 50)) _ := HC.out k _ hlt (HH.out.2.2.2 k wr _ hk HI.out (below_alloc wr _))
      have HK := hyd (show ∀ i, i < k → ans i = true from HA.out)
      have bN : Blk (wr.alloc (.cells (vs k).toArray 50)) wr.heap.size (vs k) 50 := Blk.new wr _ _
      clear HI
      generalize vs k = xs at *
      have hi18 : (Tryd.prog.info? 50).map (·.size) = some xs.length := by rw [hl1]; kernel_rfl
      go_upto_region 4 with (first | (refine wpList_load_mid rfl 50 (.tmp 11) rfl b (o + k * 3) (by kernel_rfl) xs _ r1 Tryd.underlying50 rfl hi18 ?_) | (refine wpList_new_mid rfl rfl 50 rfl (.tmp 6) (.tmp 12) rfl z_hn (alloc_hn _) rfl xs.toArray (by kernel_rfl) (by kernel_rfl) (by rw [List.size_toArray, hl1]; rfl) (by rw [List.size_toArray]; exact hi18) (by simpa using ho1) ?_))
      have rN := bN.range
      generalize (wr.alloc (.cells xs.toArray 50)) = w3 at *
      generalize wr.heap.size = B9 at *
      go_wp2_with (refine wpList_load_mid rfl 50 (.tmp 6) rfl B9 0 (by kernel_rfl) xs _ rN Tryd.underlying50 rfl hi18 ?_)
      refine Calls.mono hcl ?_
      rintro _ w4 ⟨rfl, hy, hn⟩
      clear hcl bN rN r1
      have HAS : Hid ((ans k = true → (∀ i, i < k + 1 → ans i = true) ∧ I (k + 1) w4) ∧ (ans k = false → decide (∀ i, i < len → ans i = true) = false ∧ J w4 ∧ ¬ ∀ i, i < len → ans i = true)) := by
        refine ⟨fun h => ⟨fun i hi => ?_, hy h⟩, fun h => ⟨?_, hn h, fun hh => by rw [hh k hlt] at h; cases h⟩⟩
        · rcases Nat.lt_or_ge i k with h2 | h2
          · exact HK.out i h2
          · have : i = k := by omega
            subst this; exact h
        · rw [decide_eq_false_iff_not]
          intro hh
          rw [hh k hlt] at h
          cases h
      clear hy hn
      generalize ans k = bb at *
      cases bb
      · go_wp2
        go_ret
        have := HAS.out.2 (by simp)
        exact ⟨ret_bool this.1.symm, fun h => absurd h this.2.2, fun _ => this.2.1⟩
      · go_wp2
        go_roundw
        case rel => exact ⟨k + 1, by omega, by go_num, (HAS.out.1 (by simp)).1, (HAS.out.1 (by simp)).2⟩
        case measure => simp [intOf]; omega
    · have e2 : k = len := by omega
      subst e2
      have d : ¬ (k : Int) < k := by omega
      go_wp2
      go_ret
      exact ⟨ret_bool (by symm; rw [decide_eq_true_eq]; exact HA.out), fun _ => HI.out, fun ⟨i, hi, h⟩ => by rw [HA.out i hi] at h; cases h⟩

def z_rn : List Value := [.int .i64 0, .int .i64 0, .slice none 0 0]
theorem alloc_rn (w : World) : (Instr.alloc 58 true (.tuple #[])).run Tryd.prog w = .ok (.pointer (some ⟨w.heap.size, 0, none⟩)) (w.alloc (.cells z_rn.toArray 58)) := by
  have hz : (Tryd.prog.info? 58).map (·.zero) = some (some (.agg z_rn.toArray)) := by kernel_rfl
  cases hq : Tryd.prog.info? 58 with
  | none => rw [hq] at hz; simp at hz
  | some i =>
    rw [hq] at hz
    simp at hz
    simp [Instr.alloc, newVar, newRow, zeroValue, typeInfo, hq, hz, Value.cells, z_rn]

set_option maxRecDepth 100000 in
set_option maxHeartbeats 8000000 in
theorem all_rn (I : Nat → World → Prop) (J : World → Prop) (ans : Nat → Bool) (ao : Option Addr) (b o len cap : Nat) (vs : Nat → List Value) (w : World) (hnil : 0 < len → ao = some ⟨b, o, none⟩) (hbd : len ≤ 9223372036854775807)
    (hz : ∀ i, i < len → (vs i).length = 3) (h1 : ∀ i, i < len → (vs i).all (·.oneCell') = true) (hrow : ∀ i u, i < len → I i u → u.rangeAt b (o + i * 3) (vs i)) (hgrow : ∀ i u u', i ≤ len → I i u → Below u.heap.size u u' → I i u')
    (hcall : ∀ i u, i < len → I i u → Calls Tryd.prog 67 #[.agg (vs i).toArray] u fun e u' => e = .returned (.bool (ans i)) ∧ (ans i = true → I (i + 1) u') ∧ (ans i = false → J u')) (hI : I 0 w) :
    Calls Tryd.prog 66 #[.slice ao len cap, .func (.func 67) #[] #[]] w fun e w' => AllR I J len ans e w' := by
  have HI := hyd hI
  have HH := hyd (show (∀ i, i < len → (vs i).length = 3) ∧ (∀ i, i < len → (vs i).all (·.oneCell') = true) ∧ (∀ i u, i < len → I i u → u.rangeAt b (o + i * 3) (vs i)) ∧ (∀ i u u', i ≤ len → I i u → Below u.heap.size u u' → I i u') from ⟨hz, h1, hrow, hgrow⟩)
  have HC := hyd hcall
  clear hI hz h1 hrow hgrow hcall
  go_enter Tryd.func66, Tryd.ntmps66
  go_wp2
  go_loopw [9] (fun i wr => ∃ (k : Nat), k ≤ len ∧ i = .int .i64 k ∧ (∀ i, i < k → ans i = true) ∧ I k wr) (fun i _ => len - (intOf i).toNat)
  case atStart => exact ⟨0, Nat.zero_le _, rfl, fun i hi => absurd hi (Nat.not_lt_zero _), HI.out⟩
  case round =>
    clear HI
    obtain ⟨k, hk, rfl, hall, hB⟩ := hrel
    have HA := hyd hall
    have HI := hyd hB
    clear hall hB
    by_cases hlt : k < len
    · have ij : (k : Int) < len := by omega
      have a0 := hnil (by omega)
      subst a0
      have r1 : wr.rangeAt b (o + k * 3) (vs k) := HH.out.2.2.1 k wr hlt HI.out
      have hl1 := HH.out.1 k hlt
      have ho1 := HH.out.2.1 k hlt
      have hcl : Calls Tryd.prog 67 #[.agg (vs k).toArray] (wr.alloc (.cells (vs k).toArray 58)) _ := HC.out k _ hlt (HH.out.2.2.2 k wr _ hk HI.out (below_alloc wr _))
      have HK := hyd (show ∀ i, i < k → ans i = true from HA.out)
      have bN : Blk (wr.alloc (.cells (vs k).toArray 58)) wr.heap.size (vs k) 58 := Blk.new wr _ _
      clear HI
      generalize vs k = xs at *
      have hi18 : (Tryd.prog.info? 58).map (·.size) = some xs.length := by rw [hl1]; kernel_rfl
      go_upto_region 4 with (first | (refine wpList_load_mid rfl 58 (.tmp 11) rfl b (o + k * 3) (by kernel_rfl) xs _ r1 Tryd.underlying58 rfl hi18 ?_) | (refine wpList_new_mid rfl rfl 58 rfl (.tmp 6) (.tmp 12) rfl z_rn (alloc_rn _) rfl xs.toArray (by kernel_rfl) (by kernel_rfl) (by rw [List.size_toArray, hl1]; rfl) (by rw [List.size_toArray]; exact hi18) (by simpa using ho1) ?_))
      have rN := bN.range
      generalize (wr.alloc (.cells xs.toArray 58)) = w3 at *
      generalize wr.heap.size = B9 at *
      go_wp2_with (refine wpList_load_mid rfl 58 (.tmp 6) rfl B9 0 (by kernel_rfl) xs _ rN Tryd.underlying58 rfl hi18 ?_)
      refine Calls.mono hcl ?_
      rintro _ w4 ⟨rfl, hy, hn⟩
      clear hcl bN rN r1
      have HAS : Hid ((ans k = true → (∀ i, i < k + 1 → ans i = true) ∧ I (k + 1) w4) ∧ (ans k = false → decide (∀ i, i < len → ans i = true) = false ∧ J w4 ∧ ¬ ∀ i, i < len → ans i = true)) := by
        refine ⟨fun h => ⟨fun i hi => ?_, hy h⟩, fun h => ⟨?_, hn h, fun hh => by rw [hh k hlt] at h; cases h⟩⟩
        · rcases Nat.lt_or_ge i k with h2 | h2
          · exact HK.out i h2
          · have : i = k := by omega
            subst this; exact h
        · rw [decide_eq_false_iff_not]
          intro hh
          rw [hh k hlt] at h
          cases h
      clear hy hn
      generalize ans k = bb at *
      cases bb
      · go_wp2
        go_ret
        have := HAS.out.2 (by simp)
        exact ⟨ret_bool this.1.symm, fun h => absurd h this.2.2, fun _ => this.2.1⟩
      · go_wp2
        go_roundw
        case rel => exact ⟨k + 1, by omega, by go_num, (HAS.out.1 (by simp)).1, (HAS.out.1 (by simp)).2⟩
        case measure => simp [intOf]; omega
    · have e2 : k = len := by omega
      subst e2
      have d : ¬ (k : Int) < k := by omega
      go_wp2
      go_ret
      exact ⟨ret_bool (by symm; rw [decide_eq_true_eq]; exact HA.out), fun _ => HI.out, fun ⟨i, hi, h⟩ => by rw [HA.out i hi] at h; cases h⟩

set_option maxRecDepth 100000 in
set_option maxHeartbeats 8000000 in
theorem all_int (ans : Int → Bool) (r : Rw Int) (w : World) (hr : NmAt w r) (hcall : ∀ a u, Calls Tryd.prog 88 #[.int .i64 a] u fun e u' => e = .returned (.bool (ans a)) ∧ Below u.heap.size u u') :
    Calls Tryd.prog 89 #[.slice r.ao r.len r.cap, .func (.func 88) #[] #[]] w fun e w' => e = .returned (.bool (decide (∀ i, i < r.len → ans (r.x i) = true))) ∧ Below w.heap.size w w' := by
  have hnil := hr.nil
  have hbd := hr.bound
  have HI := hyd (Below.refl w.heap.size w)
  have HR := hyd hr
  have HC := hyd hcall
  clear hr hcall
  go_enter Tryd.func89, Tryd.ntmps89
  go_wp2
  go_loopw [9] (fun i wr => ∃ (k : Nat), k ≤ r.len ∧ i = .int .i64 k ∧ (∀ i, i < k → ans (r.x i) = true) ∧ Below w.heap.size w wr) (fun i _ => r.len - (intOf i).toNat)
  case atStart => exact ⟨0, Nat.zero_le _, rfl, fun i hi => absurd hi (Nat.not_lt_zero _), HI.out⟩
  case round =>
    clear HI
    obtain ⟨k, hk, rfl, hall, hB⟩ := hrel
    have HA := hyd hall
    have HI := hyd hB
    clear hall hB
    by_cases hlt : k < r.len
    · have ij : (k : Int) < r.len := by omega
      have a0 := hnil (by omega)
      rw [a0]
      have r1 : wr.cell? ⟨r.b, r.o + k, none⟩ = some (.int .i64 (r.x k)) := by have := range_kept (HR.out.row k hlt) HI.out 0 _ rfl; simpa using this
      have hcl := HC.out (r.x k) wr
      go_wp2_with fail
      refine Calls.mono hcl ?_
      rintro _ w4 ⟨rfl, hb4⟩
      have HB := hyd (Below.next HI.out hb4)
      have HAS : Hid ((ans (r.x k) = true → (∀ i, i < k + 1 → ans (r.x i) = true)) ∧ (ans (r.x k) = false → decide (∀ i, i < r.len → ans (r.x i) = true) = false)) := by
        refine ⟨fun h i hi => ?_, fun h => ?_⟩
        · rcases Nat.lt_or_ge i k with h2 | h2
          · exact HA.out i h2
          · have : i = k := by omega
            subst this; exact h
        · rw [decide_eq_false_iff_not]
          intro hh
          rw [hh k hlt] at h
          cases h
      clear hcl hb4 HI r1
      generalize ans (r.x k) = bb at *
      cases bb
      · go_wp2
        go_ret
        exact ⟨ret_bool (HAS.out.2 (by simp)).symm, HB.out⟩
      · go_wp2
        go_roundw
        case rel => exact ⟨k + 1, by omega, by go_num, HAS.out.1 (by simp), HB.out⟩
        case measure => simp [intOf]; omega
    · have e2 : k = r.len := by omega
      subst e2
      have d : ¬ (r.len : Int) < r.len := by omega
      go_wp2
      go_ret
      exact ⟨ret_bool (by symm; rw [decide_eq_true_eq]; exact HA.out), HI.out⟩
end Go.Proofs.YtdplabhgdonbiaaDoor

/- Layer 14: what the rules of form ask of handlers, regions, instructions. -/
namespace Go.Proofs.YtdplabhgdonbiaaDoor
open Go Go.RowKit

theorem all_step14 {P : Nat → Prop} {j : Nat} (h : ∀ i, i < j → P i) (hj : P j) : ∀ i, i < j + 1 → P i := fun i hi => by
  rcases Nat.lt_or_ge i j with h2 | h2
  · exact h i h2
  · have : i = j := by omega
    subst this
    exact hj

set_option maxRecDepth 100000 in
set_option maxHeartbeats 8000000 in
theorem handlers_any14 (f : Cf) (w : World) (hf : f.At w) : Calls Tryd.prog 32 #[.agg f.vs.toArray] w fun e w' => e = .returned (.bool f.hanB) ∧ Below w.heap.size w w' := by
  have B1 := below_alloc w (.cells f.vs.toArray 43)
  have b := Blk.new w f.vs 43
  have H1 := hyd (show Below w.heap.size w _ ∧ _ from ⟨B1, b⟩)
  have HD := hyd hf
  have HA : Hid (f.hanB = decide (∀ i, i < f.hd.len → (f.hd.x i).hold f.cd.len = true)) := rfl
  have hbd := hf.hd.bound
  have hnil := hf.hd.nil
  generalize f.hanB = F at *
  have c15 := b.cell 15 rfl
  clear B1 b hf
  generalize hw0 : w.alloc (.cells f.vs.toArray 43) = u0 at *
  have HN : Hid (∀ (j : Nat) (wr : World), j < f.hd.len → Below w.heap.size w wr → wr.rangeAt f.hd.b (f.hd.o + j * 3) (f.hd.x j).vs) := fun j wr hj hb => (HD.out.hd.kept hb).row j hj
  have HNo : Hid (∀ j, j < f.hd.len → (f.hd.x j).hold f.cd.len = false → F = false) := fun j hj h => by
    rw [HA.out, decide_eq_false_iff_not]
    exact fun hh => by have := hh j hj; rw [h] at this; cases this
  by_cases h0 : f.hd.len = 0
  · have HE : Hid (F = true) := by show _ = _; rw [HA.out, decide_eq_true_eq]; intro i hi; omega
    have i0 : ¬ (0 : Int) < f.hd.len := by omega
    clear h0
    go_enter Tryd.func32, Tryd.ntmps32
    go_wp2
    go_loopw [8] (fun i wr => i = .int .i64 0 ∧ Below w.heap.size w wr) (fun _ _ => 0)
    case atStart => exact ⟨rfl, H1.out.1⟩
    case round =>
      obtain ⟨rfl, hb⟩ := hrel
      have HB := hyd hb
      clear hb
      go_wp2
      go_ret
      exact ⟨ret_bool HE.out.symm, HB.out⟩
  · have a0 := hnil (by omega)
    rw [a0] at c15
    have HA0 := hyd a0
    clear a0 hnil
    go_enter Tryd.func32, Tryd.ntmps32
    go_wp2
    clear hw0
    go_loopw [8] (fun i wr => ∃ (j : Nat), j ≤ f.hd.len ∧ i = .int .i64 j ∧ (Below w.heap.size w wr ∧ Blk wr w.heap.size f.vs 43) ∧ (∀ i, i < j → (f.hd.x i).hold f.cd.len = true)) (fun i _ => f.hd.len - (intOf i).toNat)
    case atStart => exact ⟨0, Nat.zero_le _, rfl, H1.out, fun i hi => absurd hi (Nat.not_lt_zero _)⟩
    case round =>
      clear H1 c15
      obtain ⟨j, hj, rfl, hBl, hall⟩ := hrel
      have HB := hyd hBl
      have HL := hyd hall
      clear hBl hall
      by_cases hlt : j < f.hd.len
      · have ij : (j : Int) < f.hd.len := by omega
        have r0 := HN.out j wr hlt HB.out.1
        have HNo2 := hyd (HNo.out j hlt)
        have HY := hyd (all_step14 (P := fun i => (f.hd.x i).hold f.cd.len = true) HL.out)
        have HH : Hid ((f.hd.x j).hold f.cd.len = ((decide ((f.hd.x j).fr < (f.hd.x j).to) && decide ((f.hd.x j).to ≤ (f.hd.x j).at_)) && decide ((f.hd.x j).at_ < f.cd.len))) := rfl
        have B2 := below_alloc wr (.cells (f.hd.x j).vs.toArray 50)
        have bH := Blk.new wr (f.hd.x j).vs 50
        have HB2 := hyd (show Below w.heap.size w _ ∧ Blk _ w.heap.size f.vs 43 from ⟨Below.next HB.out.1 B2, HB.out.2.kept B2⟩)
        have c14 := HB2.out.2.cell 14 rfl
        have d0 := bH.cell 0 rfl
        have d1 := bH.cell 1 rfl
        have d2 := bH.cell 2 rfl
        clear B2 bH HB
        generalize hh : f.hd.x j = h at *
        go_upto_region 4 with (first | (refine wpList_load_mid rfl 50 (.tmp 10) rfl f.hd.b (f.hd.o + j * 3) (by kernel_rfl) h.vs _ r0 Tryd.underlying50 rfl (by kernel_rfl) ?_) | (refine wpList_new_mid rfl rfl 50 rfl (.tmp 4) (.tmp 11) rfl z_hn (alloc_hn _) rfl h.vs.toArray (by kernel_rfl) (by kernel_rfl) rfl (by kernel_rfl) (by simpa using h.vs_one) ?_))
        clear hh r0
        generalize wr.alloc (.cells h.vs.toArray 50) = u2 at *
        generalize wr.heap.size = BH at *
        generalize hq : h.hold f.cd.len = q at *
        clear hq
        by_cases k1 : h.fr < h.to
        · by_cases k2 : h.to ≤ h.at_
          · by_cases k3 : h.at_ < (f.cd.len : Int)
            · have HE : Hid (q = true) := by show _ = _; rw [HH.out, decide_eq_true k1, decide_eq_true k2, decide_eq_true k3]; rfl
              have HE2 := hyd (HY.out (by show _ = _; rw [HE.out]))
              go_wp2
              go_roundw
              case rel => exact ⟨j + 1, by omega, by go_num, HB2.out, HE2.out⟩
              case measure => simp [intOf]; omega
            · have HE : Hid (q = false) := by show _ = _; rw [HH.out, decide_eq_true k1, decide_eq_true k2, decide_eq_false k3]; rfl
              have HE2 := hyd (HNo2.out HE.out)
              go_wp2
              go_ret
              exact ⟨ret_bool HE2.out.symm, HB2.out.1⟩
          · have HE : Hid (q = false) := by show _ = _; rw [HH.out, decide_eq_true k1, decide_eq_false k2]; rfl
            have HE2 := hyd (HNo2.out HE.out)
            go_wp2
            go_ret
            exact ⟨ret_bool HE2.out.symm, HB2.out.1⟩
        · have HE : Hid (q = false) := by show _ = _; rw [HH.out, decide_eq_false k1]; rfl
          have HE2 := hyd (HNo2.out HE.out)
          go_wp2
          go_ret
          exact ⟨ret_bool HE2.out.symm, HB2.out.1⟩
      · have e2 : ¬ (j : Int) < f.hd.len := by omega
        have HE : Hid (F = true) := by show _ = _; rw [HA.out, decide_eq_true_eq]; intro i hi; exact HL.out i (by omega)
        go_wp2
        go_ret
        exact ⟨ret_bool HE.out.symm, HB.out.1⟩
end Go.Proofs.YtdplabhgdonbiaaDoor
