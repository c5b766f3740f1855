/- Layer 13: class.all, over each kind of list. -/
import Derived.Test.YtmajlfocfjcgmaaGreatDoorP13
import Derived.Test.YtmajlfocfjcgmaaGreatDoorP8
import Derived.Test.YtmajlfocfjcgmaaGreatDoorP11
import Derived.BigQuiet
namespace Go.Proofs.YtmajlfocfjcgmaaGreatDoor
open Go Go.RowKit

/-- What all answers, and what holds behind it. -/
structure AllR (I : Nat → World → Prop) (J : World → Prop) (len : Nat) (ans : Nat → Bool) (e : Ending) (w' : World) : Prop where
  ret : e = .returned (.bool (decide (∀ i, i < len → ans i = true)))
  yes : (∀ i, i < len → ans i = true) → I len w'
  no : (∃ i, i < len ∧ ans i = false) → J w'

def z_ty : List Value := [.int .i64 0, .int .i64 0, .slice none 0 0, .int .i64 0, .int .i64 0]
theorem alloc_ty (w : World) : (Instr.alloc 37 true (.tuple #[])).run Tryz.prog w = .ok (.pointer (some ⟨w.heap.size, 0, none⟩)) (w.alloc (.cells z_ty.toArray 37)) := by
  have hz : (Tryz.prog.info? 37).map (·.zero) = some (some (.agg z_ty.toArray)) := by kernel_rfl
  cases hq : Tryz.prog.info? 37 with
  | none => rw [hq] at hz; simp at hz
  | some i =>
    rw [hq] at hz
    simp at hz
    simp [Instr.alloc, newVar, newRow, zeroValue, typeInfo, hq, hz, Value.cells, z_ty]

set_option maxRecDepth 100000 in
set_option maxHeartbeats 8000000 in
theorem all_ty (q : Value) (I : Nat → World → Prop) (J : World → Prop) (ans : Nat → Bool) (ao : Option Addr) (b o len cap : Nat) (vs : Nat → List Value) (w : World) (hnil : 0 < len → ao = some ⟨b, o, none⟩) (hbd : len ≤ 9223372036854775807)
    (hz : ∀ i, i < len → (vs i).length = 5) (h1 : ∀ i, i < len → (vs i).all (·.oneCell') = true) (hrow : ∀ i u, i < len → I i u → u.rangeAt b (o + i * 5) (vs i)) (hgrow : ∀ i u u', i ≤ len → I i u → Below u.heap.size u u' → I i u')
    (hcall : ∀ i u, i < len → I i u → Calls Tryz.prog 51 #[q, .agg (vs i).toArray] u fun e u' => e = .returned (.bool (ans i)) ∧ (ans i = true → I (i + 1) u') ∧ (ans i = false → J u')) (hI : I 0 w) :
    Calls Tryz.prog 83 #[.slice ao len cap, .func (.func 51) #[q] #[]] w fun e w' => AllR I J len ans e w' := by
  have HI := hyd hI
  have HH := hyd (show (∀ i, i < len → (vs i).length = 5) ∧ (∀ i, i < len → (vs i).all (·.oneCell') = true) ∧ (∀ i u, i < len → I i u → u.rangeAt b (o + i * 5) (vs i)) ∧ (∀ i u u', i ≤ len → I i u → Below u.heap.size u u' → I i u') from ⟨hz, h1, hrow, hgrow⟩)
  have HC := hyd hcall
  clear hI hz h1 hrow hgrow hcall
  go_enter Tryz.func83, Tryz.ntmps83
  go_wp2
  go_loopw [9] (fun i wr => ∃ (k : Nat), k ≤ len ∧ i = .int .i64 k ∧ (∀ i, i < k → ans i = true) ∧ I k wr) (fun i _ => len - (intOf i).toNat)
  case atStart => exact ⟨0, Nat.zero_le _, rfl, fun i hi => absurd hi (Nat.not_lt_zero _), HI.out⟩
  case round =>
    clear HI
    obtain ⟨k, hk, rfl, hall, hB⟩ := hrel
    have HA := hyd hall
    have HI := hyd hB
    clear hall hB
    by_cases hlt : k < len
    · have ij : (k : Int) < len := by omega
      have a0 := hnil (by omega)
      subst a0
      have r1 : wr.rangeAt b (o + k * 5) (vs k) := HH.out.2.2.1 k wr hlt HI.out
      have hl1 := HH.out.1 k hlt
      have ho1 := HH.out.2.1 k hlt
      have hcl : Calls Tryz.prog 51 #[q, .agg (vs k).toArray] (wr.alloc (.cells (vs k).toArray 37)) _ := HC.out k _ hlt (HH.out.2.2.2 k wr _ hk HI.out (below_alloc wr _))
      have HK := hyd (show ∀ i, i < k → ans i = true from HA.out)
      have bN : Blk (wr.alloc (.cells (vs k).toArray 37)) wr.heap.size (vs k) 37 := Blk.new wr _ _
      clear HI
      generalize vs k = xs at *
      have hi18 : (Tryz.prog.info? 37).map (·.size) = some xs.length := by rw [hl1]; kernel_rfl
      go_upto_region 4 with (first | (refine wpList_load_mid rfl 37 (.tmp 11) rfl b (o + k * 5) (by kernel_rfl) xs _ r1 Tryz.underlying37 rfl hi18 ?_) | (refine wpList_new_mid rfl rfl 37 rfl (.tmp 6) (.tmp 12) rfl z_ty (alloc_ty _) rfl xs.toArray (by kernel_rfl) (by kernel_rfl) (by rw [List.size_toArray, hl1]; rfl) (by rw [List.size_toArray]; exact hi18) (by simpa using ho1) ?_))
      have rN := bN.range
      generalize (wr.alloc (.cells xs.toArray 37)) = w3 at *
      generalize wr.heap.size = B9 at *
      go_wp2_with (refine wpList_load_mid rfl 37 (.tmp 6) rfl B9 0 (by kernel_rfl) xs _ rN Tryz.underlying37 rfl hi18 ?_)
      refine Calls.mono hcl ?_
      rintro _ w4 ⟨rfl, hy, hn⟩
      clear hcl bN rN r1
      have HAS : Hid ((ans k = true → (∀ i, i < k + 1 → ans i = true) ∧ I (k + 1) w4) ∧ (ans k = false → decide (∀ i, i < len → ans i = true) = false ∧ J w4 ∧ ¬ ∀ i, i < len → ans i = true)) := by
        refine ⟨fun h => ⟨fun i hi => ?_, hy h⟩, fun h => ⟨?_, hn h, fun hh => by rw [hh k hlt] at h; cases h⟩⟩
        · rcases Nat.lt_or_ge i k with h2 | h2
          · exact HK.out i h2
          · have : i = k := by omega
            subst this; exact h
        · rw [decide_eq_false_iff_not]
          intro hh
          rw [hh k hlt] at h
          cases h
      clear hy hn
      generalize ans k = bb at *
      cases bb
      · go_wp2
        go_ret
        have := HAS.out.2 (by simp)
        exact ⟨ret_bool this.1.symm, fun h => absurd h this.2.2, fun _ => this.2.1⟩
      · go_wp2
        go_roundw
        case rel => exact ⟨k + 1, by omega, by go_num, (HAS.out.1 (by simp)).1, (HAS.out.1 (by simp)).2⟩
        case measure => simp [intOf]; omega
    · have e2 : k = len := by omega
      subst e2
      have d : ¬ (k : Int) < k := by omega
      go_wp2
      go_ret
      exact ⟨ret_bool (by symm; rw [decide_eq_true_eq]; exact HA.out), fun _ => HI.out, fun ⟨i, hi, h⟩ => by rw [HA.out i hi] at h; cases h⟩

def z_ins : List Value := [.int .i64 0, .int .i64 0, .int .i64 0, .int .i64 0, .slice none 0 0, .int .i64 0, .int .i64 0]
theorem alloc_ins (w : World) : (Instr.alloc 50 true (.tuple #[])).run Tryz.prog w = .ok (.pointer (some ⟨w.heap.size, 0, none⟩)) (w.alloc (.cells z_ins.toArray 50)) := by
  have hz : (Tryz.prog.info? 50).map (·.zero) = some (some (.agg z_ins.toArray)) := by kernel_rfl
  cases hq : Tryz.prog.info? 50 with
  | none => rw [hq] at hz; simp at hz
  | some i =>
    rw [hq] at hz
    simp at hz
    simp [Instr.alloc, newVar, newRow, zeroValue, typeInfo, hq, hz, Value.cells, z_ins]

set_option maxRecDepth 100000 in
set_option maxHeartbeats 8000000 in
theorem all_ins (q : Value) (I : Nat → World → Prop) (J : World → Prop) (ans : Nat → Bool) (ao : Option Addr) (b o len cap : Nat) (vs : Nat → List Value) (w : World) (hnil : 0 < len → ao = some ⟨b, o, none⟩) (hbd : len ≤ 9223372036854775807)
    (hz : ∀ i, i < len → (vs i).length = 7) (h1 : ∀ i, i < len → (vs i).all (·.oneCell') = true) (hrow : ∀ i u, i < len → I i u → u.rangeAt b (o + i * 7) (vs i)) (hgrow : ∀ i u u', i ≤ len → I i u → Below u.heap.size u u' → I i u')
    (hcall : ∀ i u, i < len → I i u → Calls Tryz.prog 54 #[q, .agg (vs i).toArray] u fun e u' => e = .returned (.bool (ans i)) ∧ (ans i = true → I (i + 1) u') ∧ (ans i = false → J u')) (hI : I 0 w) :
    Calls Tryz.prog 53 #[.slice ao len cap, .func (.func 54) #[q] #[]] w fun e w' => AllR I J len ans e w' := by
  have HI := hyd hI
  have HH := hyd (show (∀ i, i < len → (vs i).length = 7) ∧ (∀ i, i < len → (vs i).all (·.oneCell') = true) ∧ (∀ i u, i < len → I i u → u.rangeAt b (o + i * 7) (vs i)) ∧ (∀ i u u', i ≤ len → I i u → Below u.heap.size u u' → I i u') from ⟨hz, h1, hrow, hgrow⟩)
  have HC := hyd hcall
  clear hI hz h1 hrow hgrow hcall
  go_enter Tryz.func53, Tryz.ntmps53
  go_wp2
  go_loopw [9] (fun i wr => ∃ (k : Nat), k ≤ len ∧ i = .int .i64 k ∧ (∀ i, i < k → ans i = true) ∧ I k wr) (fun i _ => len - (intOf i).toNat)
  case atStart => exact ⟨0, Nat.zero_le _, rfl, fun i hi => absurd hi (Nat.not_lt_zero _), HI.out⟩
  case round =>
    clear HI
    obtain ⟨k, hk, rfl, hall, hB⟩ := hrel
    have HA := hyd hall
    have HI := hyd hB
    clear hall hB
    by_cases hlt : k < len
    · have ij : (k : Int) < len := by omega
      have a0 := hnil (by omega)
      subst a0
      have r1 : wr.rangeAt b (o + k * 7) (vs k) := HH.out.2.2.1 k wr hlt HI.out
      have hl1 := HH.out.1 k hlt
      have ho1 := HH.out.2.1 k hlt
      have hcl : Calls Tryz.prog 54 #[q, .agg (vs k).toArray] (wr.alloc (.cells (vs k).toArray 50)) _ := HC.out k _ hlt (HH.out.2.2.2 k wr _ hk HI.out (below_alloc wr _))
      have HK := hyd (show ∀ i, i < k → ans i = true from HA.out)
      have bN : Blk (wr.alloc (.cells (vs k).toArray 50)) wr.heap.size (vs k) 50 := Blk.new wr _ _
      clear HI
      generalize vs k = xs at *
      have hi18 : (Tryz.prog.info? 50).map (·.size) = some xs.length := by rw [hl1]; kernel_rfl
      go_upto_region 4 with (first | (refine wpList_load_mid rfl 50 (.tmp 11) rfl b (o + k * 7) (by kernel_rfl) xs _ r1 Tryz.underlying50 rfl hi18 ?_) | (refine wpList_new_mid rfl rfl 50 rfl (.tmp 6) (.tmp 12) rfl z_ins (alloc_ins _) rfl xs.toArray (by kernel_rfl) (by kernel_rfl) (by rw [List.size_toArray, hl1]; rfl) (by rw [List.size_toArray]; exact hi18) (by simpa using ho1) ?_))
      have rN := bN.range
      generalize (wr.alloc (.cells xs.toArray 50)) = w3 at *
      generalize wr.heap.size = B9 at *
      go_wp2_with (refine wpList_load_mid rfl 50 (.tmp 6) rfl B9 0 (by kernel_rfl) xs _ rN Tryz.underlying50 rfl hi18 ?_)
      refine Calls.mono hcl ?_
      rintro _ w4 ⟨rfl, hy, hn⟩
      clear hcl bN rN r1
      have HAS : Hid ((ans k = true → (∀ i, i < k + 1 → ans i = true) ∧ I (k + 1) w4) ∧ (ans k = false → decide (∀ i, i < len → ans i = true) = false ∧ J w4 ∧ ¬ ∀ i, i < len → ans i = true)) := by
        refine ⟨fun h => ⟨fun i hi => ?_, hy h⟩, fun h => ⟨?_, hn h, fun hh => by rw [hh k hlt] at h; cases h⟩⟩
        · rcases Nat.lt_or_ge i k with h2 | h2
          · exact HK.out i h2
          · have : i = k := by omega
            subst this; exact h
        · rw [decide_eq_false_iff_not]
          intro hh
          rw [hh k hlt] at h
          cases h
      clear hy hn
      generalize ans k = bb at *
      cases bb
      · go_wp2
        go_ret
        have := HAS.out.2 (by simp)
        exact ⟨ret_bool this.1.symm, fun h => absurd h this.2.2, fun _ => this.2.1⟩
      · go_wp2
        go_roundw
        case rel => exact ⟨k + 1, by omega, by go_num, (HAS.out.1 (by simp)).1, (HAS.out.1 (by simp)).2⟩
        case measure => simp [intOf]; omega
    · have e2 : k = len := by omega
      subst e2
      have d : ¬ (k : Int) < k := by omega
      go_wp2
      go_ret
      exact ⟨ret_bool (by symm; rw [decide_eq_true_eq]; exact HA.out), fun _ => HI.out, fun ⟨i, hi, h⟩ => by rw [HA.out i hi] at h; cases h⟩

def z_fn : List Value := [.int .i64 0, .int .i64 0, .slice none 0 0, .int .i64 0, .int .i64 0, .int .i64 0, .int .i64 0, .slice none 0 0, .int .i64 0, .int .i64 0, .slice none 0 0, .int .i64 0, .int .i64 0, .int .i64 0, .slice none 0 0, .slice none 0 0, .slice none 0 0, .slice none 0 0]
theorem alloc_fn (w : World) : (Instr.alloc 43 true (.tuple #[])).run Tryz.prog w = .ok (.pointer (some ⟨w.heap.size, 0, none⟩)) (w.alloc (.cells z_fn.toArray 43)) := by
  have hz : (Tryz.prog.info? 43).map (·.zero) = some (some (.agg z_fn.toArray)) := by kernel_rfl
  cases hq : Tryz.prog.info? 43 with
  | none => rw [hq] at hz; simp at hz
  | some i =>
    rw [hq] at hz
    simp at hz
    simp [Instr.alloc, newVar, newRow, zeroValue, typeInfo, hq, hz, Value.cells, z_fn]

set_option maxRecDepth 100000 in
set_option maxHeartbeats 8000000 in
theorem all_fn (q : Value) (I : Nat → World → Prop) (J : World → Prop) (ans : Nat → Bool) (ao : Option Addr) (b o len cap : Nat) (vs : Nat → List Value) (w : World) (hnil : 0 < len → ao = some ⟨b, o, none⟩) (hbd : len ≤ 9223372036854775807)
    (hz : ∀ i, i < len → (vs i).length = 18) (h1 : ∀ i, i < len → (vs i).all (·.oneCell') = true) (hrow : ∀ i u, i < len → I i u → u.rangeAt b (o + i * 18) (vs i)) (hgrow : ∀ i u u', i ≤ len → I i u → Below u.heap.size u u' → I i u')
    (hcall : ∀ i u, i < len → I i u → Calls Tryz.prog 37 #[q, .agg (vs i).toArray] u fun e u' => e = .returned (.bool (ans i)) ∧ (ans i = true → I (i + 1) u') ∧ (ans i = false → J u')) (hI : I 0 w) :
    Calls Tryz.prog 36 #[.slice ao len cap, .func (.func 37) #[q] #[]] w fun e w' => AllR I J len ans e w' := by
  have HI := hyd hI
  have HH := hyd (show (∀ i, i < len → (vs i).length = 18) ∧ (∀ i, i < len → (vs i).all (·.oneCell') = true) ∧ (∀ i u, i < len → I i u → u.rangeAt b (o + i * 18) (vs i)) ∧ (∀ i u u', i ≤ len → I i u → Below u.heap.size u u' → I i u') from ⟨hz, h1, hrow, hgrow⟩)
  have HC := hyd hcall
  clear hI hz h1 hrow hgrow hcall
  go_enter Tryz.func36, Tryz.ntmps36
  go_wp2
  go_loopw [9] (fun i wr => ∃ (k : Nat), k ≤ len ∧ i = .int .i64 k ∧ (∀ i, i < k → ans i = true) ∧ I k wr) (fun i _ => len - (intOf i).toNat)
  case atStart => exact ⟨0, Nat.zero_le _, rfl, fun i hi => absurd hi (Nat.not_lt_zero _), HI.out⟩
  case round =>
    clear HI
    obtain ⟨k, hk, rfl, hall, hB⟩ := hrel
    have HA := hyd hall
    have HI := hyd hB
    clear hall hB
    by_cases hlt : k < len
    · have ij : (k : Int) < len := by omega
      have a0 := hnil (by omega)
      subst a0
      have r1 : wr.rangeAt b (o + k * 18) (vs k) := HH.out.2.2.1 k wr hlt HI.out
      have hl1 := HH.out.1 k hlt
      have ho1 := HH.out.2.1 k hlt
      have hcl : Calls Tryz.prog 37 #[q, .agg (vs k).toArray] (wr.alloc (.cells (vs k).toArray 43)) _ := HC.out k _ hlt (HH.out.2.2.2 k wr _ hk HI.out (below_alloc wr _))
      have HK := hyd (show ∀ i, i < k → ans i = true from HA.out)
      have bN : Blk (wr.alloc (.cells (vs k).toArray 43)) wr.heap.size (vs k) 43 := Blk.new wr _ _
      clear HI
      generalize vs k = xs at *
      have hi18 : (Tryz.prog.info? 43).map (·.size) = some xs.length := by rw [hl1]; kernel_rfl
      go_upto_region 4 with (first | (refine wpList_load_mid rfl 43 (.tmp 11) rfl b (o + k * 18) (by kernel_rfl) xs _ r1 Tryz.underlying43 rfl hi18 ?_) | (refine wpList_new_mid rfl rfl 43 rfl (.tmp 6) (.tmp 12) rfl z_fn (alloc_fn _) rfl xs.toArray (by kernel_rfl) (by kernel_rfl) (by rw [List.size_toArray, hl1]; rfl) (by rw [List.size_toArray]; exact hi18) (by simpa using ho1) ?_))
      have rN := bN.range
      generalize (wr.alloc (.cells xs.toArray 43)) = w3 at *
      generalize wr.heap.size = B9 at *
      go_wp2_with (refine wpList_load_mid rfl 43 (.tmp 6) rfl B9 0 (by kernel_rfl) xs _ rN Tryz.underlying43 rfl hi18 ?_)
      refine Calls.mono hcl ?_
      rintro _ w4 ⟨rfl, hy, hn⟩
      clear hcl bN rN r1
      have HAS : Hid ((ans k = true → (∀ i, i < k + 1 → ans i = true) ∧ I (k + 1) w4) ∧ (ans k = false → decide (∀ i, i < len → ans i = true) = false ∧ J w4 ∧ ¬ ∀ i, i < len → ans i = true)) := by
        refine ⟨fun h => ⟨fun i hi => ?_, hy h⟩, fun h => ⟨?_, hn h, fun hh => by rw [hh k hlt] at h; cases h⟩⟩
        · rcases Nat.lt_or_ge i k with h2 | h2
          · exact HK.out i h2
          · have : i = k := by omega
            subst this; exact h
        · rw [decide_eq_false_iff_not]
          intro hh
          rw [hh k hlt] at h
          cases h
      clear hy hn
      generalize ans k = bb at *
      cases bb
      · go_wp2
        go_ret
        have := HAS.out.2 (by simp)
        exact ⟨ret_bool this.1.symm, fun h => absurd h this.2.2, fun _ => this.2.1⟩
      · go_wp2
        go_roundw
        case rel => exact ⟨k + 1, by omega, by go_num, (HAS.out.1 (by simp)).1, (HAS.out.1 (by simp)).2⟩
        case measure => simp [intOf]; omega
    · have e2 : k = len := by omega
      subst e2
      have d : ¬ (k : Int) < k := by omega
      go_wp2
      go_ret
      exact ⟨ret_bool (by symm; rw [decide_eq_true_eq]; exact HA.out), fun _ => HI.out, fun ⟨i, hi, h⟩ => by rw [HA.out i hi] at h; cases h⟩

def z_hn : List Value := [.int .i64 0, .int .i64 0, .int .i64 0]
theorem alloc_hn (w : World) : (Instr.alloc 75 true (.tuple #[])).run Tryz.prog w = .ok (.pointer (some ⟨w.heap.size, 0, none⟩)) (w.alloc (.cells z_hn.toArray 75)) := by
  have hz : (Tryz.prog.info? 75).map (·.zero) = some (some (.agg z_hn.toArray)) := by kernel_rfl
  cases hq : Tryz.prog.info? 75 with
  | none => rw [hq] at hz; simp at hz
  | some i =>
    rw [hq] at hz
    simp at hz
    simp [Instr.alloc, newVar, newRow, zeroValue, typeInfo, hq, hz, Value.cells, z_hn]

set_option maxRecDepth 100000 in
set_option maxHeartbeats 8000000 in
theorem all_hn (I : Nat → World → Prop) (J : World → Prop) (ans : Nat → Bool) (ao : Option Addr) (b o len cap : Nat) (vs : Nat → List Value) (w : World) (hnil : 0 < len → ao = some ⟨b, o, none⟩) (hbd : len ≤ 9223372036854775807)
    (hz : ∀ i, i < len → (vs i).length = 3) (h1 : ∀ i, i < len → (vs i).all (·.oneCell') = true) (hrow : ∀ i u, i < len → I i u → u.rangeAt b (o + i * 3) (vs i)) (hgrow : ∀ i u u', i ≤ len → I i u → Below u.heap.size u u' → I i u')
    (hcall : ∀ i u, i < len → I i u → Calls Tryz.prog 57 #[.agg (vs i).toArray] u fun e u' => e = .returned (.bool (ans i)) ∧ (ans i = true → I (i + 1) u') ∧ (ans i = false → J u')) (hI : I 0 w) :
    Calls Tryz.prog 56 #[.slice ao len cap, .func (.func 57) #[] #[]] w fun e w' => AllR I J len ans e w' := by
  have HI := hyd hI
  have HH := hyd (show (∀ i, i < len → (vs i).length = 3) ∧ (∀ i, i < len → (vs i).all (·.oneCell') = true) ∧ (∀ i u, i < len → I i u → u.rangeAt b (o + i * 3) (vs i)) ∧ (∀ i u u', i ≤ len → I i u → Below u.heap.size u u' → I i u') from ⟨hz, h1, hrow, hgrow⟩)
  have HC := hyd hcall
  clear hI hz h1 hrow hgrow hcall
  go_enter Tryz.func56, Tryz.ntmps56
  go_wp2
  go_loopw [9] (fun i wr => ∃ (k : Nat), k ≤ len ∧ i = .int .i64 k ∧ (∀ i, i < k → ans i = true) ∧ I k wr) (fun i _ => len - (intOf i).toNat)
  case atStart => exact ⟨0, Nat.zero_le _, rfl, fun i hi => absurd hi (Nat.not_lt_zero _), HI.out⟩
  case round =>
    clear HI
    obtain ⟨k, hk, rfl, hall, hB⟩ := hrel
    have HA := hyd hall
    have HI := hyd hB
    clear hall hB
    by_cases hlt : k < len
    · have ij : (k : Int) < len := by omega
      have a0 := hnil (by omega)
      subst a0
      have r1 : wr.rangeAt b (o + k * 3) (vs k) := HH.out.2.2.1 k wr hlt HI.out
      have hl1 := HH.out.1 k hlt
      have ho1 := HH.out.2.1 k hlt
      have hcl : Calls Tryz.prog 57 #[.agg (vs k).toArray] (wr.alloc (.cells (vs k).toArray 75)) _ := HC.out k _ hlt (HH.out.2.2.2 k wr _ hk HI.out (below_alloc wr _))
      have HK := hyd (show ∀ i, i < k → ans i = true from HA.out)
      have bN : Blk (wr.alloc (.cells (vs k).toArray 75)) wr.heap.size (vs k) 75 := Blk.new wr _ _
      clear HI
      generalize vs k = xs at *
      have hi18 : (Tryz.prog.info? 75).map (·.size) = some xs.length := by rw [hl1]; kernel_rfl
      go_upto_region 4 with (first | (refine wpList_load_mid rfl 75 (.tmp 11) rfl b (o + k * 3) (by kernel_rfl) xs _ r1 Tryz.underlying75 rfl hi18 ?_) | (refine wpList_new_mid rfl rfl 75 rfl (.tmp 6) (.tmp 12) rfl z_hn (alloc_hn _) rfl xs.toArray (by kernel_rfl) (by kernel_rfl) (by rw [List.size_toArray, hl1]; rfl) (by rw [List.size_toArray]; exact hi18) (by simpa using ho1) ?_))
      have rN := bN.range
      generalize (wr.alloc (.cells xs.toArray 75)) = w3 at *
      generalize wr.heap.size = B9 at *
      go_wp2_with (refine wpList_load_mid rfl 75 (.tmp 6) rfl B9 0 (by kernel_rfl) xs _ rN Tryz.underlying75 rfl hi18 ?_)
      refine Calls.mono hcl ?_
      rintro _ w4 ⟨rfl, hy, hn⟩
      clear hcl bN rN r1
      have HAS : Hid ((ans k = true → (∀ i, i < k + 1 → ans i = true) ∧ I (k + 1) w4) ∧ (ans k = false → decide (∀ i, i < len → ans i = true) = false ∧ J w4 ∧ ¬ ∀ i, i < len → ans i = true)) := by
        refine ⟨fun h => ⟨fun i hi => ?_, hy h⟩, fun h => ⟨?_, hn h, fun hh => by rw [hh k hlt] at h; cases h⟩⟩
        · rcases Nat.lt_or_ge i k with h2 | h2
          · exact HK.out i h2
          · have : i = k := by omega
            subst this; exact h
        · rw [decide_eq_false_iff_not]
          intro hh
          rw [hh k hlt] at h
          cases h
      clear hy hn
      generalize ans k = bb at *
      cases bb
      · go_wp2
        go_ret
        have := HAS.out.2 (by simp)
        exact ⟨ret_bool this.1.symm, fun h => absurd h this.2.2, fun _ => this.2.1⟩
      · go_wp2
        go_roundw
        case rel => exact ⟨k + 1, by omega, by go_num, (HAS.out.1 (by simp)).1, (HAS.out.1 (by simp)).2⟩
        case measure => simp [intOf]; omega
    · have e2 : k = len := by omega
      subst e2
      have d : ¬ (k : Int) < k := by omega
      go_wp2
      go_ret
      exact ⟨ret_bool (by symm; rw [decide_eq_true_eq]; exact HA.out), fun _ => HI.out, fun ⟨i, hi, h⟩ => by rw [HA.out i hi] at h; cases h⟩

def z_rn : List Value := [.int .i64 0, .int .i64 0, .slice none 0 0]
theorem alloc_rn (w : World) : (Instr.alloc 57 true (.tuple #[])).run Tryz.prog w = .ok (.pointer (some ⟨w.heap.size, 0, none⟩)) (w.alloc (.cells z_rn.toArray 57)) := by
  have hz : (Tryz.prog.info? 57).map (·.zero) = some (some (.agg z_rn.toArray)) := by kernel_rfl
  cases hq : Tryz.prog.info? 57 with
  | none => rw [hq] at hz; simp at hz
  | some i =>
    rw [hq] at hz
    simp at hz
    simp [Instr.alloc, newVar, newRow, zeroValue, typeInfo, hq, hz, Value.cells, z_rn]

set_option maxRecDepth 100000 in
set_option maxHeartbeats 8000000 in
theorem all_rn (I : Nat → World → Prop) (J : World → Prop) (ans : Nat → Bool) (ao : Option Addr) (b o len cap : Nat) (vs : Nat → List Value) (w : World) (hnil : 0 < len → ao = some ⟨b, o, none⟩) (hbd : len ≤ 9223372036854775807)
    (hz : ∀ i, i < len → (vs i).length = 3) (h1 : ∀ i, i < len → (vs i).all (·.oneCell') = true) (hrow : ∀ i u, i < len → I i u → u.rangeAt b (o + i * 3) (vs i)) (hgrow : ∀ i u u', i ≤ len → I i u → Below u.heap.size u u' → I i u')
    (hcall : ∀ i u, i < len → I i u → Calls Tryz.prog 59 #[.agg (vs i).toArray] u fun e u' => e = .returned (.bool (ans i)) ∧ (ans i = true → I (i + 1) u') ∧ (ans i = false → J u')) (hI : I 0 w) :
    Calls Tryz.prog 58 #[.slice ao len cap, .func (.func 59) #[] #[]] w fun e w' => AllR I J len ans e w' := by
  have HI := hyd hI
  have HH := hyd (show (∀ i, i < len → (vs i).length = 3) ∧ (∀ i, i < len → (vs i).all (·.oneCell') = true) ∧ (∀ i u, i < len → I i u → u.rangeAt b (o + i * 3) (vs i)) ∧ (∀ i u u', i ≤ len → I i u → Below u.heap.size u u' → I i u') from ⟨hz, h1, hrow, hgrow⟩)
  have HC := hyd hcall
  clear hI hz h1 hrow hgrow hcall
  go_enter Tryz.func58, Tryz.ntmps58
  go_wp2
  go_loopw [9] (fun i wr => ∃ (k : Nat), k ≤ len ∧ i = .int .i64 k ∧ (∀ i, i < k → ans i = true) ∧ I k wr) (fun i _ => len - (intOf i).toNat)
  case atStart => exact ⟨0, Nat.zero_le _, rfl, fun i hi => absurd hi (Nat.not_lt_zero _), HI.out⟩
  case round =>
    clear HI
    obtain ⟨k, hk, rfl, hall, hB⟩ := hrel
    have HA := hyd hall
    have HI := hyd hB
    clear hall hB
    by_cases hlt : k < len
    · have ij : (k : Int) < len := by omega
      have a0 := hnil (by omega)
      subst a0
      have r1 : wr.rangeAt b (o + k * 3) (vs k) := HH.out.2.2.1 k wr hlt HI.out
      have hl1 := HH.out.1 k hlt
      have ho1 := HH.out.2.1 k hlt
      have hcl : Calls Tryz.prog 59 #[.agg (vs k).toArray] (wr.alloc (.cells (vs k).toArray 57)) _ := HC.out k _ hlt (HH.out.2.2.2 k wr _ hk HI.out (below_alloc wr _))
      have HK := hyd (show ∀ i, i < k → ans i = true from HA.out)
      have bN : Blk (wr.alloc (.cells (vs k).toArray 57)) wr.heap.size (vs k) 57 := Blk.new wr _ _
      clear HI
      generalize vs k = xs at *
      have hi18 : (Tryz.prog.info? 57).map (·.size) = some xs.length := by rw [hl1]; kernel_rfl
      go_upto_region 4 with (first | (refine wpList_load_mid rfl 57 (.tmp 11) rfl b (o + k * 3) (by kernel_rfl) xs _ r1 Tryz.underlying57 rfl hi18 ?_) | (refine wpList_new_mid rfl rfl 57 rfl (.tmp 6) (.tmp 12) rfl z_rn (alloc_rn _) rfl xs.toArray (by kernel_rfl) (by kernel_rfl) (by rw [List.size_toArray, hl1]; rfl) (by rw [List.size_toArray]; exact hi18) (by simpa using ho1) ?_))
      have rN := bN.range
      generalize (wr.alloc (.cells xs.toArray 57)) = w3 at *
      generalize wr.heap.size = B9 at *
      go_wp2_with (refine wpList_load_mid rfl 57 (.tmp 6) rfl B9 0 (by kernel_rfl) xs _ rN Tryz.underlying57 rfl hi18 ?_)
      refine Calls.mono hcl ?_
      rintro _ w4 ⟨rfl, hy, hn⟩
      clear hcl bN rN r1
      have HAS : Hid ((ans k = true → (∀ i, i < k + 1 → ans i = true) ∧ I (k + 1) w4) ∧ (ans k = false → decide (∀ i, i < len → ans i = true) = false ∧ J w4 ∧ ¬ ∀ i, i < len → ans i = true)) := by
        refine ⟨fun h => ⟨fun i hi => ?_, hy h⟩, fun h => ⟨?_, hn h, fun hh => by rw [hh k hlt] at h; cases h⟩⟩
        · rcases Nat.lt_or_ge i k with h2 | h2
          · exact HK.out i h2
          · have : i = k := by omega
            subst this; exact h
        · rw [decide_eq_false_iff_not]
          intro hh
          rw [hh k hlt] at h
          cases h
      clear hy hn
      generalize ans k = bb at *
      cases bb
      · go_wp2
        go_ret
        have := HAS.out.2 (by simp)
        exact ⟨ret_bool this.1.symm, fun h => absurd h this.2.2, fun _ => this.2.1⟩
      · go_wp2
        go_roundw
        case rel => exact ⟨k + 1, by omega, by go_num, (HAS.out.1 (by simp)).1, (HAS.out.1 (by simp)).2⟩
        case measure => simp [intOf]; omega
    · have e2 : k = len := by omega
      subst e2
      have d : ¬ (k : Int) < k := by omega
      go_wp2
      go_ret
      exact ⟨ret_bool (by symm; rw [decide_eq_true_eq]; exact HA.out), fun _ => HI.out, fun ⟨i, hi, h⟩ => by rw [HA.out i hi] at h; cases h⟩

set_option maxRecDepth 100000 in
set_option maxHeartbeats 8000000 in
theorem all_int (ans : Int → Bool) (r : Rw Int) (w : World) (hr : NmAt w r) (hcall : ∀ a u, Calls Tryz.prog 87 #[.int .i64 a] u fun e u' => e = .returned (.bool (ans a)) ∧ Below u.heap.size u u') :
    Calls Tryz.prog 88 #[.slice r.ao r.len r.cap, .func (.func 87) #[] #[]] w fun e w' => e = .returned (.bool (decide (∀ i, i < r.len → ans (r.x i) = true))) ∧ Below w.heap.size w w' := by
  have hnil := hr.nil
  have hbd := hr.bound
  have HI := hyd (Below.refl w.heap.size w)
  have HR := hyd hr
  have HC := hyd hcall
  clear hr hcall
  go_enter Tryz.func88, Tryz.ntmps88
  go_wp2
  go_loopw [9] (fun i wr => ∃ (k : Nat), k ≤ r.len ∧ i = .int .i64 k ∧ (∀ i, i < k → ans (r.x i) = true) ∧ Below w.heap.size w wr) (fun i _ => r.len - (intOf i).toNat)
  case atStart => exact ⟨0, Nat.zero_le _, rfl, fun i hi => absurd hi (Nat.not_lt_zero _), HI.out⟩
  case round =>
    clear HI
    obtain ⟨k, hk, rfl, hall, hB⟩ := hrel
    have HA := hyd hall
    have HI := hyd hB
    clear hall hB
    by_cases hlt : k < r.len
    · have ij : (k : Int) < r.len := by omega
      have a0 := hnil (by omega)
      rw [a0]
      have r1 : wr.cell? ⟨r.b, r.o + k, none⟩ = some (.int .i64 (r.x k)) := by have := range_kept (HR.out.row k hlt) HI.out 0 _ rfl; simpa using this
      have hcl := HC.out (r.x k) wr
      go_wp2_with fail
      refine Calls.mono hcl ?_
      rintro _ w4 ⟨rfl, hb4⟩
      have HB := hyd (Below.next HI.out hb4)
      have HAS : Hid ((ans (r.x k) = true → (∀ i, i < k + 1 → ans (r.x i) = true)) ∧ (ans (r.x k) = false → decide (∀ i, i < r.len → ans (r.x i) = true) = false)) := by
        refine ⟨fun h i hi => ?_, fun h => ?_⟩
        · rcases Nat.lt_or_ge i k with h2 | h2
          · exact HA.out i h2
          · have : i = k := by omega
            subst this; exact h
        · rw [decide_eq_false_iff_not]
          intro hh
          rw [hh k hlt] at h
          cases h
      clear hcl hb4 HI r1
      generalize ans (r.x k) = bb at *
      cases bb
      · go_wp2
        go_ret
        exact ⟨ret_bool (HAS.out.2 (by simp)).symm, HB.out⟩
      · go_wp2
        go_roundw
        case rel => exact ⟨k + 1, by omega, by go_num, HAS.out.1 (by simp), HB.out⟩
        case measure => simp [intOf]; omega
    · have e2 : k = r.len := by omega
      subst e2
      have d : ¬ (r.len : Int) < r.len := by omega
      go_wp2
      go_ret
      exact ⟨ret_bool (by symm; rw [decide_eq_true_eq]; exact HA.out), HI.out⟩
end Go.Proofs.YtmajlfocfjcgmaaGreatDoor

/- Layer 15: the leaves: what is a place, what goes on, what raises, the handler. -/
namespace Go.Proofs.YtmajlfocfjcgmaaGreatDoor
open Go Go.RowKit

set_option maxHeartbeats 4000000 in
theorem fplace_any (f : Cf) (a : Int) (w : World) : Calls Tryz.prog 16 #[.agg f.vs.toArray, .int .i64 a] w fun e w' => e = .returned (.bool (f.pl a)) ∧ Below w.heap.size w w' := by
  have B0 := hyd (below_alloc w (.cells f.vs.toArray 43))
  have b := Blk.new w f.vs 43
  have c14 := b.cell 14 rfl
  have HF : Hid (f.pl a = (decide (0 ≤ a) && decide (a < f.cd.len))) := rfl
  generalize f.pl a = F at *
  generalize f.vs.toArray = V at *
  clear b
  by_cases h1 : 0 ≤ a
  · by_cases h2 : a < f.cd.len
    · have HG : Hid (F = true) := by show _ = _; rw [HF.out, decide_eq_true h1, decide_eq_true h2]; rfl
      go_enter Tryz.func16, Tryz.ntmps16
      go_wp2
      go_ret
      exact ⟨ret_bool HG.out.symm, B0.out⟩
    · have HG : Hid (F = false) := by show _ = _; rw [HF.out, decide_eq_true h1, decide_eq_false h2]; rfl
      go_enter Tryz.func16, Tryz.ntmps16
      go_wp2
      go_ret
      exact ⟨ret_bool HG.out.symm, B0.out⟩
  · have HG : Hid (F = false) := by show _ = _; rw [HF.out, decide_eq_false h1]; rfl
    go_enter Tryz.func16, Tryz.ntmps16
    go_wp2
    go_ret
    exact ⟨ret_bool HG.out.symm, B0.out⟩
set_option maxHeartbeats 4000000 in
theorem goesOn_any (op : Int) (w : World) : Calls Tryz.prog 29 #[.int .i64 op] w fun e w' => e = .returned (.bool (nxO op)) ∧ Below w.heap.size w w' := by
  have HF : Hid (nxO op = (((decide (op ≠ 0) && decide (op ≠ 24)) && decide (op ≠ 26)) && decide (op ≠ 27))) := rfl
  generalize nxO op = F at *
  by_cases h1 : op = 0
  · subst h1
    go_enter Tryz.func29, Tryz.ntmps29
    go_wp2
    go_ret
    exact ⟨ret_bool HF.out.symm, Below.refl _ _⟩
  by_cases h2 : op = 24
  · subst h2
    clear h1
    go_enter Tryz.func29, Tryz.ntmps29
    go_wp2
    go_ret
    exact ⟨ret_bool HF.out.symm, Below.refl _ _⟩
  by_cases h3 : op = 26
  · subst h3
    clear h1 h2
    go_enter Tryz.func29, Tryz.ntmps29
    go_wp2
    go_ret
    exact ⟨ret_bool HF.out.symm, Below.refl _ _⟩
  by_cases h4 : op = 27
  · subst h4
    clear h1 h2 h3
    go_enter Tryz.func29, Tryz.ntmps29
    go_wp2
    go_ret
    exact ⟨ret_bool HF.out.symm, Below.refl _ _⟩
  have HG : Hid (F = true) := by show _ = _; rw [HF.out, decide_eq_true h1, decide_eq_true h2, decide_eq_true h3, decide_eq_true h4]; rfl
  have e1 : (op != 0) = true := by simpa using h1
  have e2 : (op != 24) = true := by simpa using h2
  have e3 : (op != 26) = true := by simpa using h3
  have e4 : (op != 27) = true := by simpa using h4
  clear h1 h2 h3 h4
  go_enter Tryz.func29, Tryz.ntmps29
  go_wp2
  go_ret
  exact ⟨ret_bool HG.out.symm, Below.refl _ _⟩

theorem ret_num {a b : Int} (h : a = b) : Ending.returned (.int .i64 a) = .returned (.int .i64 b) := by rw [h]
/-- A function in its box, a call's own world behind it. -/
structure Fx (w0 : World) (f : Cf) (B : Nat) (w : World) : Prop where
  bl : Below w0.heap.size w0 w
  b : Blk w B f.vs 43
  f : f.At w
theorem Fx.kept {w0 : World} {f : Cf} {B : Nat} {w w' : World} (h : Fx w0 f B w) (hb : Below w.heap.size w w') : Fx w0 f B w' := ⟨Below.next h.bl hb, h.b.kept hb, Cf.At.kept hb h.f⟩
theorem Fx.new (w : World) (f : Cf) (hf : f.At w) : Fx w f w.heap.size (w.alloc (.cells f.vs.toArray 43)) :=
  ⟨below_alloc w _, Blk.new w f.vs 43, Cf.At.kept (below_alloc w _) hf⟩

set_option maxRecDepth 100000 in
set_option maxHeartbeats 8000000 in
theorem handler_any (f : Cf) (p : Nat) (w : World) (hf : f.At w) (hp : p < f.cd.len) : Calls Tryz.prog 18 #[.agg f.vs.toArray, .int .i64 p] w fun e w' => e = .returned (.int .i64 (f.han p)) ∧ Below w.heap.size w w' := by
  have H1 := hyd (Fx.new w f hf)
  have hpl : f.pl p = true := Cf.pl_iff.2 ⟨by omega, by omega⟩
  have HM := hyd (fun h => Cf.han_miss (f := f) (p := p) h)
  have HH := hyd (fun j h1 h2 h3 => Cf.han_hit (f := f) (p := p) (j := j) h1 h2 h3)
  have HHI : Hid (∀ i, f.hit p i = (decide ((f.hd.x i).fr ≤ p) && decide ((p : Int) < (f.hd.x i).to))) := fun _ => rfl
  have hbd := hf.hd.bound
  have HNIL := hyd hf.hd.nil
  clear hp hf
  generalize f.han p = R at *
  have h0 := fplace_any f p (w.alloc (.cells f.vs.toArray 43))
  rw [hpl] at h0
  have rF := H1.out.b.range
  generalize hw : w.alloc (.cells f.vs.toArray 43) = u1 at *
  go_enter Tryz.func18, Tryz.ntmps18
  go_wp2_with (refine wpList_load_mid rfl 43 (.tmp 2) rfl w.heap.size 0 (by kernel_rfl) f.vs _ rF Tryz.underlying43 rfl (by kernel_rfl) ?_)
  refine h0.mono ?_
  rintro _ u2 ⟨rfl, hb⟩
  have H2 := hyd (H1.out.kept hb)
  clear h0 hb H1 rF hpl hw
  have c15 := H2.out.b.cell 15 rfl
  by_cases hz : 0 < f.hd.len
  · rw [HNIL.out hz] at c15
    go_wp2
    go_loopw [14] (fun i wr => ∃ (j : Nat), j ≤ f.hd.len ∧ i = .int .i64 j ∧ Fx w f w.heap.size wr ∧ (∀ i, i < j → f.hit p i = false)) (fun i _ => f.hd.len - (intOf i).toNat)
    case atStart => exact ⟨0, Nat.zero_le _, rfl, H2.out, fun i hi => absurd hi (Nat.not_lt_zero _)⟩
    case round =>
      clear H2 c15
      obtain ⟨j, hj, rfl, hBl, hall⟩ := hrel
      have HB := hyd hBl
      have HL := hyd hall
      clear hBl hall
      by_cases hlt : j < f.hd.len
      · have ij : (j : Int) < f.hd.len := by omega
        have r0 := HB.out.f.hd.row j hlt
        have HH2 := hyd (HH.out j hlt)
        have HHJ := hyd (HHI.out j)
        generalize f.hd.x j = x at *
        go_upto_region 6 with (first | (refine wpList_load_mid rfl 75 (.tmp 16) rfl f.hd.b (f.hd.o + j * 3) (by kernel_rfl) x.vs _ r0 Tryz.underlying75 rfl (by kernel_rfl) ?_) | (refine wpList_new_mid rfl rfl 75 rfl (.tmp 6) (.tmp 17) rfl z_hn (alloc_hn _) rfl x.vs.toArray (by kernel_rfl) (by kernel_rfl) rfl (by kernel_rfl) (by simpa using x.vs_one) ?_))
        have B1 := below_alloc wr (.cells x.vs.toArray 75)
        have HU := hyd (show Fx w f w.heap.size (wr.alloc (.cells x.vs.toArray 75)) ∧ Blk _ wr.heap.size x.vs 75 from ⟨HB.out.kept B1, Blk.new wr _ _⟩)
        clear r0 HB B1
        generalize wr.alloc (.cells x.vs.toArray 75) = U at *
        generalize wr.heap.size = BX at *
        have d0 := HU.out.2.cell 0 rfl
        have d1 := HU.out.2.cell 1 rfl
        have d2 := HU.out.2.cell 2 rfl
        by_cases k1 : x.fr ≤ (p : Int)
        · by_cases k2 : (p : Int) < x.to
          · have HE : Hid (R = x.at_) := HH2.out (by rw [HHJ.out, decide_eq_true k1, decide_eq_true k2]; rfl) HL.out
            go_wp2
            go_ret
            exact ⟨ret_num HE.out.symm, HU.out.1.bl⟩
          · have HE : Hid (f.hit p j = false) := by show _ = _; rw [HHJ.out, decide_eq_true k1, decide_eq_false k2]; rfl
            go_wp2
            go_roundw
            case rel => exact ⟨j + 1, by omega, by go_num, HU.out.1, fun i hi => by
              by_cases e : i = j
              · rw [e]; exact HE.out
              · exact HL.out i (by omega)⟩
            case measure => simp [intOf]; omega
        · have HE : Hid (f.hit p j = false) := by show _ = _; rw [HHJ.out, decide_eq_false k1]; rfl
          go_wp2
          go_roundw
          case rel => exact ⟨j + 1, by omega, by go_num, HU.out.1, fun i hi => by
            by_cases e : i = j
            · rw [e]; exact HE.out
            · exact HL.out i (by omega)⟩
          case measure => simp [intOf]; omega
      · have e2 : ¬ (j : Int) < f.hd.len := by omega
        have HE : Hid (R = -1) := HM.out (fun i hi => HL.out i (by omega))
        go_wp2
        go_ret
        exact ⟨ret_num HE.out.symm, HB.out.bl⟩
  · have i0 : ¬ (0 : Int) < f.hd.len := by omega
    have HE : Hid (R = -1) := HM.out (fun i hi => by omega)
    clear hz
    go_wp2
    go_loopw [14] (fun i wr => i = .int .i64 0 ∧ Below w.heap.size w wr) (fun _ _ => 0)
    case atStart => exact ⟨rfl, H2.out.bl⟩
    case round =>
      obtain ⟨rfl, hb⟩ := hrel
      have HB := hyd hb
      clear hb
      go_wp2
      go_ret
      exact ⟨ret_num HE.out.symm, HB.out⟩
end Go.Proofs.YtmajlfocfjcgmaaGreatDoor

/- Layer 15: what raises, where it jumps to, what is in a list. -/
namespace Go.Proofs.YtmajlfocfjcgmaaGreatDoor
open Go Go.RowKit

set_option maxRecDepth 100000 in
set_option maxHeartbeats 8000000 in
theorem raises_any (f : Cf) (g : Rw Bool) (p : Nat) (w : World) (hf : f.At w) (hg : BlAt w g) (hp : p < f.cd.len) : Calls Tryz.prog 19 #[.agg f.vs.toArray, .slice g.ao g.len g.cap, .int .i64 p] w fun e w' => e = .returned (.bool (f.rs g p)) ∧ Below w.heap.size w w' := by
  have H1 := hyd (Fx.new w f hf)
  have hpl : f.pl p = true := Cf.pl_iff.2 ⟨by omega, by omega⟩
  have HF : Hid (f.rs g p = (rsO (f.cd.x p).op || (decide ((f.cd.x p).op = 19) && rsG g p))) := rfl
  have hbd := hf.cd.bound
  have ip : (p : Int) < f.cd.len := by omega
  have HN14 := hyd (hf.cd.nil (by omega))
  have HGR := hyd hg
  clear hf hg
  generalize f.rs g p = F at *
  have h0 := fplace_any f p (w.alloc (.cells f.vs.toArray 43))
  rw [hpl] at h0
  have rF := H1.out.b.range
  generalize hw : w.alloc (.cells f.vs.toArray 43) = u1 at *
  go_enter Tryz.func19, Tryz.ntmps19
  go_wp2_with (refine wpList_load_mid rfl 43 (.tmp 3) rfl w.heap.size 0 (by kernel_rfl) f.vs _ rF Tryz.underlying43 rfl (by kernel_rfl) ?_)
  refine h0.mono ?_
  rintro _ u2 ⟨rfl, hb⟩
  have H2 := hyd (H1.out.kept hb)
  have HG := hyd (BlAt.kept HGR.out H2.out.bl)
  clear h0 hb H1 rF hpl hw HGR
  have c14 := H2.out.b.cell 14 rfl
  rw [HN14.out] at c14
  have r0 := H2.out.f.cd.row p hp 0 _ rfl
  simp only [Nat.add_zero] at r0
  generalize (f.cd.x p).op = op at *
  have HNG := hyd HG.out.nil
  by_cases o9 : op = 9
  · subst o9
    have HE : Hid (F = true) := HF.out
    go_wp2
    go_ret
    exact ⟨ret_bool HE.out.symm, H2.out.bl⟩
  have n9 : (op == 9) = false := by simpa using o9
  by_cases o10 : op = 10
  · subst o10
    have HE : Hid (F = true) := HF.out
    go_wp2
    go_ret
    exact ⟨ret_bool HE.out.symm, H2.out.bl⟩
  have n10 : (op == 10) = false := by simpa using o10
  by_cases o26 : op = 26
  · subst o26
    have HE : Hid (F = true) := HF.out
    go_wp2
    go_ret
    exact ⟨ret_bool HE.out.symm, H2.out.bl⟩
  have n26 : (op == 26) = false := by simpa using o26
  have HF2 : Hid (F = (decide (op = 19) && rsG g p)) := by show _ = _; rw [HF.out]; unfold rsO; rw [decide_eq_false o9, decide_eq_false o10, decide_eq_false o26]; rfl
  clear o9 o10 o26 HF
  by_cases o19 : op = 19
  · subst o19
    have HF3 : Hid (F = (decide (p < g.len) && g.x p)) := HF2.out
    clear n9 n10 n26
    by_cases gl : p < g.len
    · have il : (p : Int) < g.len := by omega
      have HE : Hid (F = g.x p) := by show _ = _; rw [HF3.out, decide_eq_true gl]; rfl
      rw [HNG.out (by omega)]
      have q0 := HG.out.row p gl 0 _ rfl
      simp only [Nat.add_zero, Nat.mul_one] at q0
      clear gl
      go_wp2
      go_ret
      exact ⟨ret_bool HE.out.symm, H2.out.bl⟩
    · have il : ¬ (p : Int) < g.len := by omega
      have HE : Hid (F = false) := by show _ = _; rw [HF3.out, decide_eq_false gl]; rfl
      clear gl
      go_wp2
      go_ret
      exact ⟨ret_bool HE.out.symm, H2.out.bl⟩
  have n19 : (op == 19) = false := by simpa using o19
  have HE : Hid (F = false) := by show _ = _; rw [HF2.out, decide_eq_false o19]; rfl
  clear o19 HF2
  go_wp2
  go_ret
  exact ⟨ret_bool HE.out.symm, H2.out.bl⟩

set_option maxRecDepth 100000 in
set_option maxHeartbeats 8000000 in
theorem target_any (f : Cf) (p : Nat) (w : World) (hf : f.At w) (hp : p < f.cd.len) : Calls Tryz.prog 30 #[.agg f.vs.toArray, .int .i64 p] w fun e w' => e = .returned (.int .i64 (f.tg p)) ∧ Below w.heap.size w w' := by
  have H2 := hyd (Fx.new w f hf)
  have HF : Hid (f.tg p = if ((f.cd.x p).op = 24 ∨ (f.cd.x p).op = 25) ∧ (0 ≤ (f.cd.x p).a ∧ (f.cd.x p).a < f.cd.len) then (f.cd.x p).a else -1) := rfl
  have hbd := hf.cd.bound
  have ip : (p : Int) < f.cd.len := by omega
  have HN14 := hyd (hf.cd.nil (by omega))
  clear hf
  generalize f.tg p = F at *
  have c14 := H2.out.b.cell 14 rfl
  rw [HN14.out] at c14
  have r0 := H2.out.f.cd.row p hp
  generalize f.cd.x p = x at *
  generalize hw : w.alloc (.cells f.vs.toArray 43) = u2 at *
  go_enter Tryz.func30, Tryz.ntmps30
  go_upto_region 2 with (first | (refine wpList_load_mid rfl 50 (.tmp 10) rfl f.cd.b (f.cd.o + p * 7) (by kernel_rfl) x.vs _ r0 Tryz.underlying50 rfl (by kernel_rfl) ?_) | (refine wpList_new_mid rfl rfl 50 rfl (.tmp 5) (.tmp 11) rfl z_ins (alloc_ins _) rfl x.vs.toArray (by kernel_rfl) (by kernel_rfl) rfl (by kernel_rfl) (by simpa using x.vs_one) ?_))
  have B1 := below_alloc u2 (.cells x.vs.toArray 50)
  have HS := hyd (show Fx w f w.heap.size _ ∧ Blk _ u2.heap.size x.vs 50 from ⟨H2.out.kept B1, Blk.new u2 _ _⟩)
  clear H2 hw r0 c14 B1
  generalize u2.alloc (.cells x.vs.toArray 50) = u3 at *
  generalize u2.heap.size = BI at *
  have d0 := HS.out.2.cell 0 rfl
  have d1 := HS.out.2.cell 1 rfl
  have c14 := HS.out.1.b.cell 14 rfl
  rw [HN14.out] at c14
  generalize x.op = op at *
  generalize x.a = a at *
  by_cases o1 : op = 24 ∨ op = 25
  · have HF2 : Hid (F = if 0 ≤ a ∧ a < f.cd.len then a else -1) := by
      show _ = _
      rw [HF.out]
      by_cases h : 0 ≤ a ∧ a < f.cd.len
      · rw [if_pos ⟨o1, h⟩, if_pos h]
      · rw [if_neg (fun k => h k.2), if_neg h]
    clear HF
    have key : ∀ q, (0 ≤ a ∧ a < f.cd.len ∧ q = a) ∨ (0 ≤ a ∧ ¬ a < f.cd.len ∧ q = -1) ∨ (¬ 0 ≤ a ∧ q = -1) ↔ q = if 0 ≤ a ∧ a < f.cd.len then a else -1 := by
      intro q
      by_cases h1 : 0 ≤ a <;> by_cases h2 : a < f.cd.len <;> simp [h1, h2]
    have HK := hyd ((key F).2 HF2.out)
    clear key HF2
    by_cases a1 : a < 0
    · have HE : Hid (F = -1) := by rcases HK.out with h | h | h; exact absurd h.1 (by omega); exact absurd h.1 (by omega); exact h.2
      clear HK
      rcases o1 with o1 | o1
      · subst o1
        go_wp2
        go_ret
        exact ⟨ret_num HE.out.symm, HS.out.1.bl⟩
      · subst o1
        go_wp2
        go_ret
        exact ⟨ret_num HE.out.symm, HS.out.1.bl⟩
    · by_cases a2 : (f.cd.len : Int) ≤ a
      · have HE : Hid (F = -1) := by rcases HK.out with h | h | h; exact absurd h.2.1 (by omega); exact h.2.2; exact h.2
        clear HK
        rcases o1 with o1 | o1
        · subst o1
          go_wp2
          go_ret
          exact ⟨ret_num HE.out.symm, HS.out.1.bl⟩
        · subst o1
          go_wp2
          go_ret
          exact ⟨ret_num HE.out.symm, HS.out.1.bl⟩
      · have HE : Hid (F = a) := by rcases HK.out with h | h | h; exact h.2.2; exact absurd h.2.1 (by omega); exact absurd h.1 (by omega)
        clear HK
        rcases o1 with o1 | o1
        · subst o1
          go_wp2
          go_ret
          exact ⟨ret_num HE.out.symm, HS.out.1.bl⟩
        · subst o1
          go_wp2
          go_ret
          exact ⟨ret_num HE.out.symm, HS.out.1.bl⟩
  · have HE : Hid (F = -1) := by show _ = _; rw [HF.out, if_neg (fun h => o1 h.1)]
    have n1 : (op == 24) = false := by simp; omega
    have n2 : (op == 25) = false := by simp; omega
    clear o1 HF
    go_wp2
    go_ret
    exact ⟨ret_num HE.out.symm, HS.out.1.bl⟩

/-- Is it among them? -/
def Rw.has (r : Rw Int) (a : Int) : Bool := decide (a ∈ r.ls)
end Go.Proofs.YtmajlfocfjcgmaaGreatDoor
