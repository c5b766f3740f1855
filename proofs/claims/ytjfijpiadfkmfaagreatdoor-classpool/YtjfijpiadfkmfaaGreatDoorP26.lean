/- Layer 13: a writer's lists: put and putList. -/
import Derived.Test.YtjfijpiadfkmfaaGreatDoorP25
namespace Go.Proofs.YtjfijpiadfkmfaaGreatDoor
open Go Go.RowKit

/-- Step by step. -/
def iterS (G : Nat → Option (List Nat) → Option (List Nat)) : Nat → Option (List Nat) → Option (List Nat)
  | 0, st => st
  | k + 1, st => G k (iterS G k st)
theorem iterS_none {G : Nat → Option (List Nat) → Option (List Nat)} (hG : ∀ k, G k none = none) {j : Nat} {st : Option (List Nat)} (h : iterS G j st = none) : ∀ {len : Nat}, j ≤ len → iterS G len st = none
  | len, hl => by
    induction hl with
    | refl => exact h
    | step _ ih =>
      show G _ (iterS G _ st) = none
      rw [ih]
      exact hG _

def z_pt : List Value := [.slice none 0 0, .slice none 0 0, .int .i64 0]
theorem alloc_pt (w : World) : (Instr.alloc 44 true (.tuple #[])).run Tryz.prog w = .ok (.pointer (some ⟨w.heap.size, 0, none⟩)) (w.alloc (.cells z_pt.toArray 44)) := by
  have hz : (Tryz.prog.info? 44).map (·.zero) = some (some (.agg z_pt.toArray)) := by kernel_rfl
  cases hq : Tryz.prog.info? 44 with
  | none => rw [hq] at hz; simp at hz
  | some i =>
    rw [hq] at hz
    simp at hz
    simp [Instr.alloc, newVar, newRow, zeroValue, typeInfo, hq, hz, Value.cells, z_pt]

set_option maxRecDepth 100000 in
set_option maxHeartbeats 8000000 in
theorem put_typ {wE : World} {p q : Nat} (G : Nat → Option (List Nat) → Option (List Nat)) (hG : ∀ k, G k none = none) (ao : Option Addr) (b o len cap : Nat) (vs : Nat → List Value) (w : World) (S : Nat → Prop) (st : Option (List Nat)) (hnil : 0 < len → ao = some ⟨b, o, none⟩) (hbd : len ≤ 9223372036854775807)
    (hz : ∀ i, i < len → (vs i).length = 5) (h1 : ∀ i, i < len → (vs i).all (·.oneCell') = true) (hrow : ∀ i u, i < len → Below wE.heap.size wE u → u.rangeAt b (o + i * 5) (vs i))
    (hcall : ∀ i u S1 st1, i < len → Wl wE p q S1 st1 u → Calls Tryz.prog 32 #[.pointer (some ⟨q, 0, none⟩), .agg (vs i).toArray] u fun r u' => WR wE p q S1 u (G i st1) r u') (hI : Wl wE p q S st w) :
    Calls Tryz.prog 59 #[.pointer (some ⟨q, 0, none⟩), .slice ao len cap, .func (.func 32) #[.pointer (some ⟨q, 0, none⟩)] #[]] w fun r w' => WR wE p q S w (iterS G len st) r w' := by
  have HI := hyd hI
  have HH := hyd (show (∀ i, i < len → (vs i).length = 5) ∧ (∀ i, i < len → (vs i).all (·.oneCell') = true) ∧ (∀ i u, i < len → Below wE.heap.size wE u → u.rangeAt b (o + i * 5) (vs i)) ∧ (∀ k, G k none = none) from ⟨hz, h1, hrow, hG⟩)
  have HC := hyd hcall
  clear hI hz h1 hrow hcall hG
  go_enter Tryz.func59, Tryz.ntmps59
  go_wp2
  go_loopw [10] (fun i wr => ∃ (k : Nat) (S1 : Nat → Prop), k ≤ len ∧ i = .int .i64 k ∧ Wg wE p q S w S1 (iterS G k st) wr) (fun i _ => len - (intOf i).toNat)
  case atStart => exact ⟨0, S, Nat.zero_le _, rfl, Wg.of HI.out (Below.refl _ _)⟩
  case round =>
    clear HI
    obtain ⟨k, S1, hk, rfl, hB⟩ := hrel
    have HI := hyd hB
    clear hB
    by_cases hlt : k < len
    · have ij : (k : Int) < len := by omega
      have a0 := hnil (by omega)
      subst a0
      have r1 : wr.rangeAt b (o + k * 5) (vs k) := HH.out.2.2.1 k wr hlt HI.out.wl.bl
      have hl1 := HH.out.1 k hlt
      have ho1 := HH.out.2.1 k hlt
      have B1 := below_alloc wr (.cells (vs k).toArray 36)
      have HK : Hid (iterS G (k + 1) st = G k (iterS G k st)) := rfl
      have hcl := fun u S1 st1 => HC.out k u S1 st1 hlt
      have HW := hyd (show Wg wE p q S w S1 (iterS G k st) (wr.alloc (.cells (vs k).toArray 36)) ∧ Blk (wr.alloc (.cells (vs k).toArray 36)) wr.heap.size (vs k) 36 from ⟨HI.out.kept B1, Blk.new wr _ _⟩)
      have HNN : Hid (iterS G k st = none → iterS G len st = none) := fun h => iterS_none HH.out.2.2.2 h hk
      clear HI B1
      generalize iterS G k st = sk at *
      generalize vs k = xs at *
      have hi18 : (Tryz.prog.info? 36).map (·.size) = some xs.length := by rw [hl1]; kernel_rfl
      go_upto_region 3 with (first | (refine wpList_load_mid rfl 36 (.tmp 12) rfl b (o + k * 5) (by kernel_rfl) xs _ r1 Tryz.underlying36 rfl hi18 ?_) | (refine wpList_new_mid rfl rfl 36 rfl (.tmp 7) (.tmp 13) rfl z_ty (alloc_ty _) rfl xs.toArray (by kernel_rfl) (by kernel_rfl) (by rw [List.size_toArray, hl1]; rfl) (by rw [List.size_toArray]; exact hi18) (by simpa using ho1) ?_))
      generalize (wr.alloc (.cells xs.toArray 36)) = u at *
      generalize wr.heap.size = B9 at *
      obtain ⟨v, lg, l, hW, hS, hst⟩ := HW.out.1.wl
      have c2 := hW.blk.cell 2 rfl
      have rN := HW.out.2.range
      clear hW hS r1
      rcases hst with ⟨hs1, rfl⟩ | ⟨hs1, rfl⟩
      · have hcu := hcl u S1 sk HW.out.1.wl
        go_wp2_with (refine wpList_load_mid rfl 36 (.tmp 7) rfl B9 0 (by kernel_rfl) xs _ rN Tryz.underlying36 rfl hi18 ?_)
        refine Calls.mono hcu ?_
        rintro _ u2 ⟨rfl, S2, hg⟩
        have HG2 := hyd (HW.out.1.trans hg)
        clear hcu hg c2 rN hs1
        go_wp2
        go_roundw
        case rel => exact ⟨k + 1, S2, by omega, by go_num, by rw [HK.out]; exact HG2.out⟩
        case measure => simp [intOf]; omega
      · have HE := hyd (HNN.out hs1)
        subst hs1
        clear hcl
        go_wp2
        refine bodyPost_ret (results_none rfl _ _ _) rfl ?_
        rw [HE.out]
        exact ⟨rfl, S1, HW.out.1⟩
    · have e2 : k = len := by omega
      subst e2
      have d : ¬ (k : Int) < k := by omega
      go_wp2
      go_end0
      exact ⟨rfl, S1, HI.out⟩

set_option maxRecDepth 100000 in
set_option maxHeartbeats 4000000 in
theorem putList_typ {wE : World} {p q : Nat} (G : Nat → Option (List Nat) → Option (List Nat)) (ao : Option Addr) (len cap : Nat) (w : World) (S : Nat → Prop) (st : Option (List Nat)) (hI : Wl wE p q S st w)
    (hput : ∀ u S1 st1, Wl wE p q S1 st1 u → Calls Tryz.prog 59 #[.pointer (some ⟨q, 0, none⟩), .slice ao len cap, .func (.func 32) #[.pointer (some ⟨q, 0, none⟩)] #[]] u fun r w' => WR wE p q S1 u (iterS G len st1) r w') :
    Calls Tryz.prog 31 #[.pointer (some ⟨q, 0, none⟩), .slice ao len cap, .func (.func 32) #[.pointer (some ⟨q, 0, none⟩)] #[]] w fun r w' => WR wE p q S w (iterS G len (wSh len st)) r w' := by
  have hs := wshort_any hI (len : Int)
  have HP := hyd hput
  clear hput
  go_enter Tryz.func31, Tryz.ntmps31
  go_wp2_with fail
  refine Calls.mono hs ?_
  rintro _ u1 ⟨rfl, S1, hg1⟩
  have hp := HP.out u1 S1 _ hg1.wl
  have HG1 := hyd hg1
  clear hs hg1
  go_wp2_with fail
  refine Calls.mono hp ?_
  rintro _ u2 ⟨rfl, S2, hg2⟩
  have HG2 := hyd (HG1.out.trans hg2)
  clear hp hg2
  go_wp2
  go_end0
  exact ⟨rfl, S2, HG2.out⟩

set_option maxRecDepth 100000 in
set_option maxHeartbeats 8000000 in
theorem put_place {wE : World} {p q : Nat} (G : Nat → Option (List Nat) → Option (List Nat)) (hG : ∀ k, G k none = none) (ao : Option Addr) (b o len cap : Nat) (vs : Nat → List Value) (w : World) (S : Nat → Prop) (st : Option (List Nat)) (hnil : 0 < len → ao = some ⟨b, o, none⟩) (hbd : len ≤ 9223372036854775807)
    (hz : ∀ i, i < len → (vs i).length = 5) (h1 : ∀ i, i < len → (vs i).all (·.oneCell') = true) (hrow : ∀ i u, i < len → Below wE.heap.size wE u → u.rangeAt b (o + i * 5) (vs i))
    (hcall : ∀ i u S1 st1, i < len → Wl wE p q S1 st1 u → Calls Tryz.prog 60 #[.pointer (some ⟨q, 0, none⟩), .agg (vs i).toArray] u fun r u' => WR wE p q S1 u (G i st1) r u') (hI : Wl wE p q S st w) :
    Calls Tryz.prog 59 #[.pointer (some ⟨q, 0, none⟩), .slice ao len cap, .func (.func 60) #[.pointer (some ⟨q, 0, none⟩)] #[]] w fun r w' => WR wE p q S w (iterS G len st) r w' := by
  have HI := hyd hI
  have HH := hyd (show (∀ i, i < len → (vs i).length = 5) ∧ (∀ i, i < len → (vs i).all (·.oneCell') = true) ∧ (∀ i u, i < len → Below wE.heap.size wE u → u.rangeAt b (o + i * 5) (vs i)) ∧ (∀ k, G k none = none) from ⟨hz, h1, hrow, hG⟩)
  have HC := hyd hcall
  clear hI hz h1 hrow hcall hG
  go_enter Tryz.func59, Tryz.ntmps59
  go_wp2
  go_loopw [10] (fun i wr => ∃ (k : Nat) (S1 : Nat → Prop), k ≤ len ∧ i = .int .i64 k ∧ Wg wE p q S w S1 (iterS G k st) wr) (fun i _ => len - (intOf i).toNat)
  case atStart => exact ⟨0, S, Nat.zero_le _, rfl, Wg.of HI.out (Below.refl _ _)⟩
  case round =>
    clear HI
    obtain ⟨k, S1, hk, rfl, hB⟩ := hrel
    have HI := hyd hB
    clear hB
    by_cases hlt : k < len
    · have ij : (k : Int) < len := by omega
      have a0 := hnil (by omega)
      subst a0
      have r1 : wr.rangeAt b (o + k * 5) (vs k) := HH.out.2.2.1 k wr hlt HI.out.wl.bl
      have hl1 := HH.out.1 k hlt
      have ho1 := HH.out.2.1 k hlt
      have B1 := below_alloc wr (.cells (vs k).toArray 36)
      have HK : Hid (iterS G (k + 1) st = G k (iterS G k st)) := rfl
      have hcl := fun u S1 st1 => HC.out k u S1 st1 hlt
      have HW := hyd (show Wg wE p q S w S1 (iterS G k st) (wr.alloc (.cells (vs k).toArray 36)) ∧ Blk (wr.alloc (.cells (vs k).toArray 36)) wr.heap.size (vs k) 36 from ⟨HI.out.kept B1, Blk.new wr _ _⟩)
      have HNN : Hid (iterS G k st = none → iterS G len st = none) := fun h => iterS_none HH.out.2.2.2 h hk
      clear HI B1
      generalize iterS G k st = sk at *
      generalize vs k = xs at *
      have hi18 : (Tryz.prog.info? 36).map (·.size) = some xs.length := by rw [hl1]; kernel_rfl
      go_upto_region 3 with (first | (refine wpList_load_mid rfl 36 (.tmp 12) rfl b (o + k * 5) (by kernel_rfl) xs _ r1 Tryz.underlying36 rfl hi18 ?_) | (refine wpList_new_mid rfl rfl 36 rfl (.tmp 7) (.tmp 13) rfl z_ty (alloc_ty _) rfl xs.toArray (by kernel_rfl) (by kernel_rfl) (by rw [List.size_toArray, hl1]; rfl) (by rw [List.size_toArray]; exact hi18) (by simpa using ho1) ?_))
      generalize (wr.alloc (.cells xs.toArray 36)) = u at *
      generalize wr.heap.size = B9 at *
      obtain ⟨v, lg, l, hW, hS, hst⟩ := HW.out.1.wl
      have c2 := hW.blk.cell 2 rfl
      have rN := HW.out.2.range
      clear hW hS r1
      rcases hst with ⟨hs1, rfl⟩ | ⟨hs1, rfl⟩
      · have hcu := hcl u S1 sk HW.out.1.wl
        go_wp2_with (refine wpList_load_mid rfl 36 (.tmp 7) rfl B9 0 (by kernel_rfl) xs _ rN Tryz.underlying36 rfl hi18 ?_)
        refine Calls.mono hcu ?_
        rintro _ u2 ⟨rfl, S2, hg⟩
        have HG2 := hyd (HW.out.1.trans hg)
        clear hcu hg c2 rN hs1
        go_wp2
        go_roundw
        case rel => exact ⟨k + 1, S2, by omega, by go_num, by rw [HK.out]; exact HG2.out⟩
        case measure => simp [intOf]; omega
      · have HE := hyd (HNN.out hs1)
        subst hs1
        clear hcl
        go_wp2
        refine bodyPost_ret (results_none rfl _ _ _) rfl ?_
        rw [HE.out]
        exact ⟨rfl, S1, HW.out.1⟩
    · have e2 : k = len := by omega
      subst e2
      have d : ¬ (k : Int) < k := by omega
      go_wp2
      go_end0
      exact ⟨rfl, S1, HI.out⟩

set_option maxRecDepth 100000 in
set_option maxHeartbeats 4000000 in
theorem putList_place {wE : World} {p q : Nat} (G : Nat → Option (List Nat) → Option (List Nat)) (ao : Option Addr) (len cap : Nat) (w : World) (S : Nat → Prop) (st : Option (List Nat)) (hI : Wl wE p q S st w)
    (hput : ∀ u S1 st1, Wl wE p q S1 st1 u → Calls Tryz.prog 59 #[.pointer (some ⟨q, 0, none⟩), .slice ao len cap, .func (.func 60) #[.pointer (some ⟨q, 0, none⟩)] #[]] u fun r w' => WR wE p q S1 u (iterS G len st1) r w') :
    Calls Tryz.prog 31 #[.pointer (some ⟨q, 0, none⟩), .slice ao len cap, .func (.func 60) #[.pointer (some ⟨q, 0, none⟩)] #[]] w fun r w' => WR wE p q S w (iterS G len (wSh len st)) r w' := by
  have hs := wshort_any hI (len : Int)
  have HP := hyd hput
  clear hput
  go_enter Tryz.func31, Tryz.ntmps31
  go_wp2_with fail
  refine Calls.mono hs ?_
  rintro _ u1 ⟨rfl, S1, hg1⟩
  have hp := HP.out u1 S1 _ hg1.wl
  have HG1 := hyd hg1
  clear hs hg1
  go_wp2_with fail
  refine Calls.mono hp ?_
  rintro _ u2 ⟨rfl, S2, hg2⟩
  have HG2 := hyd (HG1.out.trans hg2)
  clear hp hg2
  go_wp2
  go_end0
  exact ⟨rfl, S2, HG2.out⟩

set_option maxRecDepth 100000 in
set_option maxHeartbeats 8000000 in
theorem put_slot {wE : World} {p q : Nat} (G : Nat → Option (List Nat) → Option (List Nat)) (hG : ∀ k, G k none = none) (ao : Option Addr) (b o len cap : Nat) (vs : Nat → List Value) (w : World) (S : Nat → Prop) (st : Option (List Nat)) (hnil : 0 < len → ao = some ⟨b, o, none⟩) (hbd : len ≤ 9223372036854775807)
    (hz : ∀ i, i < len → (vs i).length = 5) (h1 : ∀ i, i < len → (vs i).all (·.oneCell') = true) (hrow : ∀ i u, i < len → Below wE.heap.size wE u → u.rangeAt b (o + i * 5) (vs i))
    (hcall : ∀ i u S1 st1, i < len → Wl wE p q S1 st1 u → Calls Tryz.prog 99 #[.pointer (some ⟨q, 0, none⟩), .agg (vs i).toArray] u fun r u' => WR wE p q S1 u (G i st1) r u') (hI : Wl wE p q S st w) :
    Calls Tryz.prog 59 #[.pointer (some ⟨q, 0, none⟩), .slice ao len cap, .func (.func 99) #[.pointer (some ⟨q, 0, none⟩)] #[]] w fun r w' => WR wE p q S w (iterS G len st) r w' := by
  have HI := hyd hI
  have HH := hyd (show (∀ i, i < len → (vs i).length = 5) ∧ (∀ i, i < len → (vs i).all (·.oneCell') = true) ∧ (∀ i u, i < len → Below wE.heap.size wE u → u.rangeAt b (o + i * 5) (vs i)) ∧ (∀ k, G k none = none) from ⟨hz, h1, hrow, hG⟩)
  have HC := hyd hcall
  clear hI hz h1 hrow hcall hG
  go_enter Tryz.func59, Tryz.ntmps59
  go_wp2
  go_loopw [10] (fun i wr => ∃ (k : Nat) (S1 : Nat → Prop), k ≤ len ∧ i = .int .i64 k ∧ Wg wE p q S w S1 (iterS G k st) wr) (fun i _ => len - (intOf i).toNat)
  case atStart => exact ⟨0, S, Nat.zero_le _, rfl, Wg.of HI.out (Below.refl _ _)⟩
  case round =>
    clear HI
    obtain ⟨k, S1, hk, rfl, hB⟩ := hrel
    have HI := hyd hB
    clear hB
    by_cases hlt : k < len
    · have ij : (k : Int) < len := by omega
      have a0 := hnil (by omega)
      subst a0
      have r1 : wr.rangeAt b (o + k * 5) (vs k) := HH.out.2.2.1 k wr hlt HI.out.wl.bl
      have hl1 := HH.out.1 k hlt
      have ho1 := HH.out.2.1 k hlt
      have B1 := below_alloc wr (.cells (vs k).toArray 36)
      have HK : Hid (iterS G (k + 1) st = G k (iterS G k st)) := rfl
      have hcl := fun u S1 st1 => HC.out k u S1 st1 hlt
      have HW := hyd (show Wg wE p q S w S1 (iterS G k st) (wr.alloc (.cells (vs k).toArray 36)) ∧ Blk (wr.alloc (.cells (vs k).toArray 36)) wr.heap.size (vs k) 36 from ⟨HI.out.kept B1, Blk.new wr _ _⟩)
      have HNN : Hid (iterS G k st = none → iterS G len st = none) := fun h => iterS_none HH.out.2.2.2 h hk
      clear HI B1
      generalize iterS G k st = sk at *
      generalize vs k = xs at *
      have hi18 : (Tryz.prog.info? 36).map (·.size) = some xs.length := by rw [hl1]; kernel_rfl
      go_upto_region 3 with (first | (refine wpList_load_mid rfl 36 (.tmp 12) rfl b (o + k * 5) (by kernel_rfl) xs _ r1 Tryz.underlying36 rfl hi18 ?_) | (refine wpList_new_mid rfl rfl 36 rfl (.tmp 7) (.tmp 13) rfl z_ty (alloc_ty _) rfl xs.toArray (by kernel_rfl) (by kernel_rfl) (by rw [List.size_toArray, hl1]; rfl) (by rw [List.size_toArray]; exact hi18) (by simpa using ho1) ?_))
      generalize (wr.alloc (.cells xs.toArray 36)) = u at *
      generalize wr.heap.size = B9 at *
      obtain ⟨v, lg, l, hW, hS, hst⟩ := HW.out.1.wl
      have c2 := hW.blk.cell 2 rfl
      have rN := HW.out.2.range
      clear hW hS r1
      rcases hst with ⟨hs1, rfl⟩ | ⟨hs1, rfl⟩
      · have hcu := hcl u S1 sk HW.out.1.wl
        go_wp2_with (refine wpList_load_mid rfl 36 (.tmp 7) rfl B9 0 (by kernel_rfl) xs _ rN Tryz.underlying36 rfl hi18 ?_)
        refine Calls.mono hcu ?_
        rintro _ u2 ⟨rfl, S2, hg⟩
        have HG2 := hyd (HW.out.1.trans hg)
        clear hcu hg c2 rN hs1
        go_wp2
        go_roundw
        case rel => exact ⟨k + 1, S2, by omega, by go_num, by rw [HK.out]; exact HG2.out⟩
        case measure => simp [intOf]; omega
      · have HE := hyd (HNN.out hs1)
        subst hs1
        clear hcl
        go_wp2
        refine bodyPost_ret (results_none rfl _ _ _) rfl ?_
        rw [HE.out]
        exact ⟨rfl, S1, HW.out.1⟩
    · have e2 : k = len := by omega
      subst e2
      have d : ¬ (k : Int) < k := by omega
      go_wp2
      go_end0
      exact ⟨rfl, S1, HI.out⟩

set_option maxRecDepth 100000 in
set_option maxHeartbeats 8000000 in
theorem put_func {wE : World} {p q : Nat} (G : Nat → Option (List Nat) → Option (List Nat)) (hG : ∀ k, G k none = none) (ao : Option Addr) (b o len cap : Nat) (vs : Nat → List Value) (w : World) (S : Nat → Prop) (st : Option (List Nat)) (hnil : 0 < len → ao = some ⟨b, o, none⟩) (hbd : len ≤ 9223372036854775807)
    (hz : ∀ i, i < len → (vs i).length = 18) (h1 : ∀ i, i < len → (vs i).all (·.oneCell') = true) (hrow : ∀ i u, i < len → Below wE.heap.size wE u → u.rangeAt b (o + i * 18) (vs i))
    (hcall : ∀ i u S1 st1, i < len → Wl wE p q S1 st1 u → Calls Tryz.prog 34 #[.pointer (some ⟨q, 0, none⟩), .agg (vs i).toArray] u fun r u' => WR wE p q S1 u (G i st1) r u') (hI : Wl wE p q S st w) :
    Calls Tryz.prog 62 #[.pointer (some ⟨q, 0, none⟩), .slice ao len cap, .func (.func 34) #[.pointer (some ⟨q, 0, none⟩)] #[]] w fun r w' => WR wE p q S w (iterS G len st) r w' := by
  have HI := hyd hI
  have HH := hyd (show (∀ i, i < len → (vs i).length = 18) ∧ (∀ i, i < len → (vs i).all (·.oneCell') = true) ∧ (∀ i u, i < len → Below wE.heap.size wE u → u.rangeAt b (o + i * 18) (vs i)) ∧ (∀ k, G k none = none) from ⟨hz, h1, hrow, hG⟩)
  have HC := hyd hcall
  clear hI hz h1 hrow hcall hG
  go_enter Tryz.func62, Tryz.ntmps62
  go_wp2
  go_loopw [10] (fun i wr => ∃ (k : Nat) (S1 : Nat → Prop), k ≤ len ∧ i = .int .i64 k ∧ Wg wE p q S w S1 (iterS G k st) wr) (fun i _ => len - (intOf i).toNat)
  case atStart => exact ⟨0, S, Nat.zero_le _, rfl, Wg.of HI.out (Below.refl _ _)⟩
  case round =>
    clear HI
    obtain ⟨k, S1, hk, rfl, hB⟩ := hrel
    have HI := hyd hB
    clear hB
    by_cases hlt : k < len
    · have ij : (k : Int) < len := by omega
      have a0 := hnil (by omega)
      subst a0
      have r1 : wr.rangeAt b (o + k * 18) (vs k) := HH.out.2.2.1 k wr hlt HI.out.wl.bl
      have hl1 := HH.out.1 k hlt
      have ho1 := HH.out.2.1 k hlt
      have B1 := below_alloc wr (.cells (vs k).toArray 42)
      have HK : Hid (iterS G (k + 1) st = G k (iterS G k st)) := rfl
      have hcl := fun u S1 st1 => HC.out k u S1 st1 hlt
      have HW := hyd (show Wg wE p q S w S1 (iterS G k st) (wr.alloc (.cells (vs k).toArray 42)) ∧ Blk (wr.alloc (.cells (vs k).toArray 42)) wr.heap.size (vs k) 42 from ⟨HI.out.kept B1, Blk.new wr _ _⟩)
      have HNN : Hid (iterS G k st = none → iterS G len st = none) := fun h => iterS_none HH.out.2.2.2 h hk
      clear HI B1
      generalize iterS G k st = sk at *
      generalize vs k = xs at *
      have hi18 : (Tryz.prog.info? 42).map (·.size) = some xs.length := by rw [hl1]; kernel_rfl
      go_upto_region 3 with (first | (refine wpList_load_mid rfl 42 (.tmp 12) rfl b (o + k * 18) (by kernel_rfl) xs _ r1 Tryz.underlying42 rfl hi18 ?_) | (refine wpList_new_mid rfl rfl 42 rfl (.tmp 7) (.tmp 13) rfl z_fn (alloc_fn _) rfl xs.toArray (by kernel_rfl) (by kernel_rfl) (by rw [List.size_toArray, hl1]; rfl) (by rw [List.size_toArray]; exact hi18) (by simpa using ho1) ?_))
      generalize (wr.alloc (.cells xs.toArray 42)) = u at *
      generalize wr.heap.size = B9 at *
      obtain ⟨v, lg, l, hW, hS, hst⟩ := HW.out.1.wl
      have c2 := hW.blk.cell 2 rfl
      have rN := HW.out.2.range
      clear hW hS r1
      rcases hst with ⟨hs1, rfl⟩ | ⟨hs1, rfl⟩
      · have hcu := hcl u S1 sk HW.out.1.wl
        go_wp2_with (refine wpList_load_mid rfl 42 (.tmp 7) rfl B9 0 (by kernel_rfl) xs _ rN Tryz.underlying42 rfl hi18 ?_)
        refine Calls.mono hcu ?_
        rintro _ u2 ⟨rfl, S2, hg⟩
        have HG2 := hyd (HW.out.1.trans hg)
        clear hcu hg c2 rN hs1
        go_wp2
        go_roundw
        case rel => exact ⟨k + 1, S2, by omega, by go_num, by rw [HK.out]; exact HG2.out⟩
        case measure => simp [intOf]; omega
      · have HE := hyd (HNN.out hs1)
        subst hs1
        clear hcl
        go_wp2
        refine bodyPost_ret (results_none rfl _ _ _) rfl ?_
        rw [HE.out]
        exact ⟨rfl, S1, HW.out.1⟩
    · have e2 : k = len := by omega
      subst e2
      have d : ¬ (k : Int) < k := by omega
      go_wp2
      go_end0
      exact ⟨rfl, S1, HI.out⟩

set_option maxRecDepth 100000 in
set_option maxHeartbeats 4000000 in
theorem putList_func {wE : World} {p q : Nat} (G : Nat → Option (List Nat) → Option (List Nat)) (ao : Option Addr) (len cap : Nat) (w : World) (S : Nat → Prop) (st : Option (List Nat)) (hI : Wl wE p q S st w)
    (hput : ∀ u S1 st1, Wl wE p q S1 st1 u → Calls Tryz.prog 62 #[.pointer (some ⟨q, 0, none⟩), .slice ao len cap, .func (.func 34) #[.pointer (some ⟨q, 0, none⟩)] #[]] u fun r w' => WR wE p q S1 u (iterS G len st1) r w') :
    Calls Tryz.prog 33 #[.pointer (some ⟨q, 0, none⟩), .slice ao len cap, .func (.func 34) #[.pointer (some ⟨q, 0, none⟩)] #[]] w fun r w' => WR wE p q S w (iterS G len (wSh len st)) r w' := by
  have hs := wshort_any hI (len : Int)
  have HP := hyd hput
  clear hput
  go_enter Tryz.func33, Tryz.ntmps33
  go_wp2_with fail
  refine Calls.mono hs ?_
  rintro _ u1 ⟨rfl, S1, hg1⟩
  have hp := HP.out u1 S1 _ hg1.wl
  have HG1 := hyd hg1
  clear hs hg1
  go_wp2_with fail
  refine Calls.mono hp ?_
  rintro _ u2 ⟨rfl, S2, hg2⟩
  have HG2 := hyd (HG1.out.trans hg2)
  clear hp hg2
  go_wp2
  go_end0
  exact ⟨rfl, S2, HG2.out⟩

set_option maxRecDepth 100000 in
set_option maxHeartbeats 8000000 in
theorem put_ins {wE : World} {p q : Nat} (G : Nat → Option (List Nat) → Option (List Nat)) (hG : ∀ k, G k none = none) (ao : Option Addr) (b o len cap : Nat) (vs : Nat → List Value) (w : World) (S : Nat → Prop) (st : Option (List Nat)) (hnil : 0 < len → ao = some ⟨b, o, none⟩) (hbd : len ≤ 9223372036854775807)
    (hz : ∀ i, i < len → (vs i).length = 7) (h1 : ∀ i, i < len → (vs i).all (·.oneCell') = true) (hrow : ∀ i u, i < len → Below wE.heap.size wE u → u.rangeAt b (o + i * 7) (vs i))
    (hcall : ∀ i u S1 st1, i < len → Wl wE p q S1 st1 u → Calls Tryz.prog 64 #[.pointer (some ⟨q, 0, none⟩), .agg (vs i).toArray] u fun r u' => WR wE p q S1 u (G i st1) r u') (hI : Wl wE p q S st w) :
    Calls Tryz.prog 95 #[.pointer (some ⟨q, 0, none⟩), .slice ao len cap, .func (.func 64) #[.pointer (some ⟨q, 0, none⟩)] #[]] w fun r w' => WR wE p q S w (iterS G len st) r w' := by
  have HI := hyd hI
  have HH := hyd (show (∀ i, i < len → (vs i).length = 7) ∧ (∀ i, i < len → (vs i).all (·.oneCell') = true) ∧ (∀ i u, i < len → Below wE.heap.size wE u → u.rangeAt b (o + i * 7) (vs i)) ∧ (∀ k, G k none = none) from ⟨hz, h1, hrow, hG⟩)
  have HC := hyd hcall
  clear hI hz h1 hrow hcall hG
  go_enter Tryz.func95, Tryz.ntmps95
  go_wp2
  go_loopw [10] (fun i wr => ∃ (k : Nat) (S1 : Nat → Prop), k ≤ len ∧ i = .int .i64 k ∧ Wg wE p q S w S1 (iterS G k st) wr) (fun i _ => len - (intOf i).toNat)
  case atStart => exact ⟨0, S, Nat.zero_le _, rfl, Wg.of HI.out (Below.refl _ _)⟩
  case round =>
    clear HI
    obtain ⟨k, S1, hk, rfl, hB⟩ := hrel
    have HI := hyd hB
    clear hB
    by_cases hlt : k < len
    · have ij : (k : Int) < len := by omega
      have a0 := hnil (by omega)
      subst a0
      have r1 : wr.rangeAt b (o + k * 7) (vs k) := HH.out.2.2.1 k wr hlt HI.out.wl.bl
      have hl1 := HH.out.1 k hlt
      have ho1 := HH.out.2.1 k hlt
      have B1 := below_alloc wr (.cells (vs k).toArray 54)
      have HK : Hid (iterS G (k + 1) st = G k (iterS G k st)) := rfl
      have hcl := fun u S1 st1 => HC.out k u S1 st1 hlt
      have HW := hyd (show Wg wE p q S w S1 (iterS G k st) (wr.alloc (.cells (vs k).toArray 54)) ∧ Blk (wr.alloc (.cells (vs k).toArray 54)) wr.heap.size (vs k) 54 from ⟨HI.out.kept B1, Blk.new wr _ _⟩)
      have HNN : Hid (iterS G k st = none → iterS G len st = none) := fun h => iterS_none HH.out.2.2.2 h hk
      clear HI B1
      generalize iterS G k st = sk at *
      generalize vs k = xs at *
      have hi18 : (Tryz.prog.info? 54).map (·.size) = some xs.length := by rw [hl1]; kernel_rfl
      go_upto_region 3 with (first | (refine wpList_load_mid rfl 54 (.tmp 12) rfl b (o + k * 7) (by kernel_rfl) xs _ r1 Tryz.underlying54 rfl hi18 ?_) | (refine wpList_new_mid rfl rfl 54 rfl (.tmp 7) (.tmp 13) rfl z_ins (alloc_ins _) rfl xs.toArray (by kernel_rfl) (by kernel_rfl) (by rw [List.size_toArray, hl1]; rfl) (by rw [List.size_toArray]; exact hi18) (by simpa using ho1) ?_))
      generalize (wr.alloc (.cells xs.toArray 54)) = u at *
      generalize wr.heap.size = B9 at *
      obtain ⟨v, lg, l, hW, hS, hst⟩ := HW.out.1.wl
      have c2 := hW.blk.cell 2 rfl
      have rN := HW.out.2.range
      clear hW hS r1
      rcases hst with ⟨hs1, rfl⟩ | ⟨hs1, rfl⟩
      · have hcu := hcl u S1 sk HW.out.1.wl
        go_wp2_with (refine wpList_load_mid rfl 54 (.tmp 7) rfl B9 0 (by kernel_rfl) xs _ rN Tryz.underlying54 rfl hi18 ?_)
        refine Calls.mono hcu ?_
        rintro _ u2 ⟨rfl, S2, hg⟩
        have HG2 := hyd (HW.out.1.trans hg)
        clear hcu hg c2 rN hs1
        go_wp2
        go_roundw
        case rel => exact ⟨k + 1, S2, by omega, by go_num, by rw [HK.out]; exact HG2.out⟩
        case measure => simp [intOf]; omega
      · have HE := hyd (HNN.out hs1)
        subst hs1
        clear hcl
        go_wp2
        refine bodyPost_ret (results_none rfl _ _ _) rfl ?_
        rw [HE.out]
        exact ⟨rfl, S1, HW.out.1⟩
    · have e2 : k = len := by omega
      subst e2
      have d : ¬ (k : Int) < k := by omega
      go_wp2
      go_end0
      exact ⟨rfl, S1, HI.out⟩

set_option maxRecDepth 100000 in
set_option maxHeartbeats 4000000 in
theorem putList_ins {wE : World} {p q : Nat} (G : Nat → Option (List Nat) → Option (List Nat)) (ao : Option Addr) (len cap : Nat) (w : World) (S : Nat → Prop) (st : Option (List Nat)) (hI : Wl wE p q S st w)
    (hput : ∀ u S1 st1, Wl wE p q S1 st1 u → Calls Tryz.prog 95 #[.pointer (some ⟨q, 0, none⟩), .slice ao len cap, .func (.func 64) #[.pointer (some ⟨q, 0, none⟩)] #[]] u fun r w' => WR wE p q S1 u (iterS G len st1) r w') :
    Calls Tryz.prog 63 #[.pointer (some ⟨q, 0, none⟩), .slice ao len cap, .func (.func 64) #[.pointer (some ⟨q, 0, none⟩)] #[]] w fun r w' => WR wE p q S w (iterS G len (wSh len st)) r w' := by
  have hs := wshort_any hI (len : Int)
  have HP := hyd hput
  clear hput
  go_enter Tryz.func63, Tryz.ntmps63
  go_wp2_with fail
  refine Calls.mono hs ?_
  rintro _ u1 ⟨rfl, S1, hg1⟩
  have hp := HP.out u1 S1 _ hg1.wl
  have HG1 := hyd hg1
  clear hs hg1
  go_wp2_with fail
  refine Calls.mono hp ?_
  rintro _ u2 ⟨rfl, S2, hg2⟩
  have HG2 := hyd (HG1.out.trans hg2)
  clear hp hg2
  go_wp2
  go_end0
  exact ⟨rfl, S2, HG2.out⟩

set_option maxRecDepth 100000 in
set_option maxHeartbeats 8000000 in
theorem put_hand {wE : World} {p q : Nat} (G : Nat → Option (List Nat) → Option (List Nat)) (hG : ∀ k, G k none = none) (ao : Option Addr) (b o len cap : Nat) (vs : Nat → List Value) (w : World) (S : Nat → Prop) (st : Option (List Nat)) (hnil : 0 < len → ao = some ⟨b, o, none⟩) (hbd : len ≤ 9223372036854775807)
    (hz : ∀ i, i < len → (vs i).length = 3) (h1 : ∀ i, i < len → (vs i).all (·.oneCell') = true) (hrow : ∀ i u, i < len → Below wE.heap.size wE u → u.rangeAt b (o + i * 3) (vs i))
    (hcall : ∀ i u S1 st1, i < len → Wl wE p q S1 st1 u → Calls Tryz.prog 66 #[.pointer (some ⟨q, 0, none⟩), .agg (vs i).toArray] u fun r u' => WR wE p q S1 u (G i st1) r u') (hI : Wl wE p q S st w) :
    Calls Tryz.prog 97 #[.pointer (some ⟨q, 0, none⟩), .slice ao len cap, .func (.func 66) #[.pointer (some ⟨q, 0, none⟩)] #[]] w fun r w' => WR wE p q S w (iterS G len st) r w' := by
  have HI := hyd hI
  have HH := hyd (show (∀ i, i < len → (vs i).length = 3) ∧ (∀ i, i < len → (vs i).all (·.oneCell') = true) ∧ (∀ i u, i < len → Below wE.heap.size wE u → u.rangeAt b (o + i * 3) (vs i)) ∧ (∀ k, G k none = none) from ⟨hz, h1, hrow, hG⟩)
  have HC := hyd hcall
  clear hI hz h1 hrow hcall hG
  go_enter Tryz.func97, Tryz.ntmps97
  go_wp2
  go_loopw [10] (fun i wr => ∃ (k : Nat) (S1 : Nat → Prop), k ≤ len ∧ i = .int .i64 k ∧ Wg wE p q S w S1 (iterS G k st) wr) (fun i _ => len - (intOf i).toNat)
  case atStart => exact ⟨0, S, Nat.zero_le _, rfl, Wg.of HI.out (Below.refl _ _)⟩
  case round =>
    clear HI
    obtain ⟨k, S1, hk, rfl, hB⟩ := hrel
    have HI := hyd hB
    clear hB
    by_cases hlt : k < len
    · have ij : (k : Int) < len := by omega
      have a0 := hnil (by omega)
      subst a0
      have r1 : wr.rangeAt b (o + k * 3) (vs k) := HH.out.2.2.1 k wr hlt HI.out.wl.bl
      have hl1 := HH.out.1 k hlt
      have ho1 := HH.out.2.1 k hlt
      have B1 := below_alloc wr (.cells (vs k).toArray 98)
      have HK : Hid (iterS G (k + 1) st = G k (iterS G k st)) := rfl
      have hcl := fun u S1 st1 => HC.out k u S1 st1 hlt
      have HW := hyd (show Wg wE p q S w S1 (iterS G k st) (wr.alloc (.cells (vs k).toArray 98)) ∧ Blk (wr.alloc (.cells (vs k).toArray 98)) wr.heap.size (vs k) 98 from ⟨HI.out.kept B1, Blk.new wr _ _⟩)
      have HNN : Hid (iterS G k st = none → iterS G len st = none) := fun h => iterS_none HH.out.2.2.2 h hk
      clear HI B1
      generalize iterS G k st = sk at *
      generalize vs k = xs at *
      have hi18 : (Tryz.prog.info? 98).map (·.size) = some xs.length := by rw [hl1]; kernel_rfl
      go_upto_region 3 with (first | (refine wpList_load_mid rfl 98 (.tmp 12) rfl b (o + k * 3) (by kernel_rfl) xs _ r1 Tryz.underlying98 rfl hi18 ?_) | (refine wpList_new_mid rfl rfl 98 rfl (.tmp 7) (.tmp 13) rfl z_hn (alloc_hn _) rfl xs.toArray (by kernel_rfl) (by kernel_rfl) (by rw [List.size_toArray, hl1]; rfl) (by rw [List.size_toArray]; exact hi18) (by simpa using ho1) ?_))
      generalize (wr.alloc (.cells xs.toArray 98)) = u at *
      generalize wr.heap.size = B9 at *
      obtain ⟨v, lg, l, hW, hS, hst⟩ := HW.out.1.wl
      have c2 := hW.blk.cell 2 rfl
      have rN := HW.out.2.range
      clear hW hS r1
      rcases hst with ⟨hs1, rfl⟩ | ⟨hs1, rfl⟩
      · have hcu := hcl u S1 sk HW.out.1.wl
        go_wp2_with (refine wpList_load_mid rfl 98 (.tmp 7) rfl B9 0 (by kernel_rfl) xs _ rN Tryz.underlying98 rfl hi18 ?_)
        refine Calls.mono hcu ?_
        rintro _ u2 ⟨rfl, S2, hg⟩
        have HG2 := hyd (HW.out.1.trans hg)
        clear hcu hg c2 rN hs1
        go_wp2
        go_roundw
        case rel => exact ⟨k + 1, S2, by omega, by go_num, by rw [HK.out]; exact HG2.out⟩
        case measure => simp [intOf]; omega
      · have HE := hyd (HNN.out hs1)
        subst hs1
        clear hcl
        go_wp2
        refine bodyPost_ret (results_none rfl _ _ _) rfl ?_
        rw [HE.out]
        exact ⟨rfl, S1, HW.out.1⟩
    · have e2 : k = len := by omega
      subst e2
      have d : ¬ (k : Int) < k := by omega
      go_wp2
      go_end0
      exact ⟨rfl, S1, HI.out⟩

set_option maxRecDepth 100000 in
set_option maxHeartbeats 4000000 in
theorem putList_hand {wE : World} {p q : Nat} (G : Nat → Option (List Nat) → Option (List Nat)) (ao : Option Addr) (len cap : Nat) (w : World) (S : Nat → Prop) (st : Option (List Nat)) (hI : Wl wE p q S st w)
    (hput : ∀ u S1 st1, Wl wE p q S1 st1 u → Calls Tryz.prog 97 #[.pointer (some ⟨q, 0, none⟩), .slice ao len cap, .func (.func 66) #[.pointer (some ⟨q, 0, none⟩)] #[]] u fun r w' => WR wE p q S1 u (iterS G len st1) r w') :
    Calls Tryz.prog 65 #[.pointer (some ⟨q, 0, none⟩), .slice ao len cap, .func (.func 66) #[.pointer (some ⟨q, 0, none⟩)] #[]] w fun r w' => WR wE p q S w (iterS G len (wSh len st)) r w' := by
  have hs := wshort_any hI (len : Int)
  have HP := hyd hput
  clear hput
  go_enter Tryz.func65, Tryz.ntmps65
  go_wp2_with fail
  refine Calls.mono hs ?_
  rintro _ u1 ⟨rfl, S1, hg1⟩
  have hp := HP.out u1 S1 _ hg1.wl
  have HG1 := hyd hg1
  clear hs hg1
  go_wp2_with fail
  refine Calls.mono hp ?_
  rintro _ u2 ⟨rfl, S2, hg2⟩
  have HG2 := hyd (HG1.out.trans hg2)
  clear hp hg2
  go_wp2
  go_end0
  exact ⟨rfl, S2, HG2.out⟩

set_option maxRecDepth 100000 in
set_option maxHeartbeats 8000000 in
theorem put_region {wE : World} {p q : Nat} (G : Nat → Option (List Nat) → Option (List Nat)) (hG : ∀ k, G k none = none) (ao : Option Addr) (b o len cap : Nat) (vs : Nat → List Value) (w : World) (S : Nat → Prop) (st : Option (List Nat)) (hnil : 0 < len → ao = some ⟨b, o, none⟩) (hbd : len ≤ 9223372036854775807)
    (hz : ∀ i, i < len → (vs i).length = 3) (h1 : ∀ i, i < len → (vs i).all (·.oneCell') = true) (hrow : ∀ i u, i < len → Below wE.heap.size wE u → u.rangeAt b (o + i * 3) (vs i))
    (hcall : ∀ i u S1 st1, i < len → Wl wE p q S1 st1 u → Calls Tryz.prog 70 #[.pointer (some ⟨q, 0, none⟩), .agg (vs i).toArray] u fun r u' => WR wE p q S1 u (G i st1) r u') (hI : Wl wE p q S st w) :
    Calls Tryz.prog 100 #[.pointer (some ⟨q, 0, none⟩), .slice ao len cap, .func (.func 70) #[.pointer (some ⟨q, 0, none⟩)] #[]] w fun r w' => WR wE p q S w (iterS G len st) r w' := by
  have HI := hyd hI
  have HH := hyd (show (∀ i, i < len → (vs i).length = 3) ∧ (∀ i, i < len → (vs i).all (·.oneCell') = true) ∧ (∀ i u, i < len → Below wE.heap.size wE u → u.rangeAt b (o + i * 3) (vs i)) ∧ (∀ k, G k none = none) from ⟨hz, h1, hrow, hG⟩)
  have HC := hyd hcall
  clear hI hz h1 hrow hcall hG
  go_enter Tryz.func100, Tryz.ntmps100
  go_wp2
  go_loopw [10] (fun i wr => ∃ (k : Nat) (S1 : Nat → Prop), k ≤ len ∧ i = .int .i64 k ∧ Wg wE p q S w S1 (iterS G k st) wr) (fun i _ => len - (intOf i).toNat)
  case atStart => exact ⟨0, S, Nat.zero_le _, rfl, Wg.of HI.out (Below.refl _ _)⟩
  case round =>
    clear HI
    obtain ⟨k, S1, hk, rfl, hB⟩ := hrel
    have HI := hyd hB
    clear hB
    by_cases hlt : k < len
    · have ij : (k : Int) < len := by omega
      have a0 := hnil (by omega)
      subst a0
      have r1 : wr.rangeAt b (o + k * 3) (vs k) := HH.out.2.2.1 k wr hlt HI.out.wl.bl
      have hl1 := HH.out.1 k hlt
      have ho1 := HH.out.2.1 k hlt
      have B1 := below_alloc wr (.cells (vs k).toArray 57)
      have HK : Hid (iterS G (k + 1) st = G k (iterS G k st)) := rfl
      have hcl := fun u S1 st1 => HC.out k u S1 st1 hlt
      have HW := hyd (show Wg wE p q S w S1 (iterS G k st) (wr.alloc (.cells (vs k).toArray 57)) ∧ Blk (wr.alloc (.cells (vs k).toArray 57)) wr.heap.size (vs k) 57 from ⟨HI.out.kept B1, Blk.new wr _ _⟩)
      have HNN : Hid (iterS G k st = none → iterS G len st = none) := fun h => iterS_none HH.out.2.2.2 h hk
      clear HI B1
      generalize iterS G k st = sk at *
      generalize vs k = xs at *
      have hi18 : (Tryz.prog.info? 57).map (·.size) = some xs.length := by rw [hl1]; kernel_rfl
      go_upto_region 3 with (first | (refine wpList_load_mid rfl 57 (.tmp 12) rfl b (o + k * 3) (by kernel_rfl) xs _ r1 Tryz.underlying57 rfl hi18 ?_) | (refine wpList_new_mid rfl rfl 57 rfl (.tmp 7) (.tmp 13) rfl z_rn (alloc_rn _) rfl xs.toArray (by kernel_rfl) (by kernel_rfl) (by rw [List.size_toArray, hl1]; rfl) (by rw [List.size_toArray]; exact hi18) (by simpa using ho1) ?_))
      generalize (wr.alloc (.cells xs.toArray 57)) = u at *
      generalize wr.heap.size = B9 at *
      obtain ⟨v, lg, l, hW, hS, hst⟩ := HW.out.1.wl
      have c2 := hW.blk.cell 2 rfl
      have rN := HW.out.2.range
      clear hW hS r1
      rcases hst with ⟨hs1, rfl⟩ | ⟨hs1, rfl⟩
      · have hcu := hcl u S1 sk HW.out.1.wl
        go_wp2_with (refine wpList_load_mid rfl 57 (.tmp 7) rfl B9 0 (by kernel_rfl) xs _ rN Tryz.underlying57 rfl hi18 ?_)
        refine Calls.mono hcu ?_
        rintro _ u2 ⟨rfl, S2, hg⟩
        have HG2 := hyd (HW.out.1.trans hg)
        clear hcu hg c2 rN hs1
        go_wp2
        go_roundw
        case rel => exact ⟨k + 1, S2, by omega, by go_num, by rw [HK.out]; exact HG2.out⟩
        case measure => simp [intOf]; omega
      · have HE := hyd (HNN.out hs1)
        subst hs1
        clear hcl
        go_wp2
        refine bodyPost_ret (results_none rfl _ _ _) rfl ?_
        rw [HE.out]
        exact ⟨rfl, S1, HW.out.1⟩
    · have e2 : k = len := by omega
      subst e2
      have d : ¬ (k : Int) < k := by omega
      go_wp2
      go_end0
      exact ⟨rfl, S1, HI.out⟩

set_option maxRecDepth 100000 in
set_option maxHeartbeats 4000000 in
theorem putList_region {wE : World} {p q : Nat} (G : Nat → Option (List Nat) → Option (List Nat)) (ao : Option Addr) (len cap : Nat) (w : World) (S : Nat → Prop) (st : Option (List Nat)) (hI : Wl wE p q S st w)
    (hput : ∀ u S1 st1, Wl wE p q S1 st1 u → Calls Tryz.prog 100 #[.pointer (some ⟨q, 0, none⟩), .slice ao len cap, .func (.func 70) #[.pointer (some ⟨q, 0, none⟩)] #[]] u fun r w' => WR wE p q S1 u (iterS G len st1) r w') :
    Calls Tryz.prog 69 #[.pointer (some ⟨q, 0, none⟩), .slice ao len cap, .func (.func 70) #[.pointer (some ⟨q, 0, none⟩)] #[]] w fun r w' => WR wE p q S w (iterS G len (wSh len st)) r w' := by
  have hs := wshort_any hI (len : Int)
  have HP := hyd hput
  clear hput
  go_enter Tryz.func69, Tryz.ntmps69
  go_wp2_with fail
  refine Calls.mono hs ?_
  rintro _ u1 ⟨rfl, S1, hg1⟩
  have hp := HP.out u1 S1 _ hg1.wl
  have HG1 := hyd hg1
  clear hs hg1
  go_wp2_with fail
  refine Calls.mono hp ?_
  rintro _ u2 ⟨rfl, S2, hg2⟩
  have HG2 := hyd (HG1.out.trans hg2)
  clear hp hg2
  go_wp2
  go_end0
  exact ⟨rfl, S2, HG2.out⟩

set_option maxRecDepth 100000 in
set_option maxHeartbeats 8000000 in
theorem put_point {wE : World} {p q : Nat} (G : Nat → Option (List Nat) → Option (List Nat)) (hG : ∀ k, G k none = none) (ao : Option Addr) (b o len cap : Nat) (vs : Nat → List Value) (w : World) (S : Nat → Prop) (st : Option (List Nat)) (hnil : 0 < len → ao = some ⟨b, o, none⟩) (hbd : len ≤ 9223372036854775807)
    (hz : ∀ i, i < len → (vs i).length = 3) (h1 : ∀ i, i < len → (vs i).all (·.oneCell') = true) (hrow : ∀ i u, i < len → Below wE.heap.size wE u → u.rangeAt b (o + i * 3) (vs i))
    (hcall : ∀ i u S1 st1, i < len → Wl wE p q S1 st1 u → Calls Tryz.prog 68 #[.pointer (some ⟨q, 0, none⟩), .agg (vs i).toArray] u fun r u' => WR wE p q S1 u (G i st1) r u') (hI : Wl wE p q S st w) :
    Calls Tryz.prog 98 #[.pointer (some ⟨q, 0, none⟩), .slice ao len cap, .func (.func 68) #[.pointer (some ⟨q, 0, none⟩)] #[]] w fun r w' => WR wE p q S w (iterS G len st) r w' := by
  have HI := hyd hI
  have HH := hyd (show (∀ i, i < len → (vs i).length = 3) ∧ (∀ i, i < len → (vs i).all (·.oneCell') = true) ∧ (∀ i u, i < len → Below wE.heap.size wE u → u.rangeAt b (o + i * 3) (vs i)) ∧ (∀ k, G k none = none) from ⟨hz, h1, hrow, hG⟩)
  have HC := hyd hcall
  clear hI hz h1 hrow hcall hG
  go_enter Tryz.func98, Tryz.ntmps98
  go_wp2
  go_loopw [10] (fun i wr => ∃ (k : Nat) (S1 : Nat → Prop), k ≤ len ∧ i = .int .i64 k ∧ Wg wE p q S w S1 (iterS G k st) wr) (fun i _ => len - (intOf i).toNat)
  case atStart => exact ⟨0, S, Nat.zero_le _, rfl, Wg.of HI.out (Below.refl _ _)⟩
  case round =>
    clear HI
    obtain ⟨k, S1, hk, rfl, hB⟩ := hrel
    have HI := hyd hB
    clear hB
    by_cases hlt : k < len
    · have ij : (k : Int) < len := by omega
      have a0 := hnil (by omega)
      subst a0
      have r1 : wr.rangeAt b (o + k * 3) (vs k) := HH.out.2.2.1 k wr hlt HI.out.wl.bl
      have hl1 := HH.out.1 k hlt
      have ho1 := HH.out.2.1 k hlt
      have B1 := below_alloc wr (.cells (vs k).toArray 44)
      have HK : Hid (iterS G (k + 1) st = G k (iterS G k st)) := rfl
      have hcl := fun u S1 st1 => HC.out k u S1 st1 hlt
      have HW := hyd (show Wg wE p q S w S1 (iterS G k st) (wr.alloc (.cells (vs k).toArray 44)) ∧ Blk (wr.alloc (.cells (vs k).toArray 44)) wr.heap.size (vs k) 44 from ⟨HI.out.kept B1, Blk.new wr _ _⟩)
      have HNN : Hid (iterS G k st = none → iterS G len st = none) := fun h => iterS_none HH.out.2.2.2 h hk
      clear HI B1
      generalize iterS G k st = sk at *
      generalize vs k = xs at *
      have hi18 : (Tryz.prog.info? 44).map (·.size) = some xs.length := by rw [hl1]; kernel_rfl
      go_upto_region 3 with (first | (refine wpList_load_mid rfl 44 (.tmp 12) rfl b (o + k * 3) (by kernel_rfl) xs _ r1 Tryz.underlying44 rfl hi18 ?_) | (refine wpList_new_mid rfl rfl 44 rfl (.tmp 7) (.tmp 13) rfl z_pt (alloc_pt _) rfl xs.toArray (by kernel_rfl) (by kernel_rfl) (by rw [List.size_toArray, hl1]; rfl) (by rw [List.size_toArray]; exact hi18) (by simpa using ho1) ?_))
      generalize (wr.alloc (.cells xs.toArray 44)) = u at *
      generalize wr.heap.size = B9 at *
      obtain ⟨v, lg, l, hW, hS, hst⟩ := HW.out.1.wl
      have c2 := hW.blk.cell 2 rfl
      have rN := HW.out.2.range
      clear hW hS r1
      rcases hst with ⟨hs1, rfl⟩ | ⟨hs1, rfl⟩
      · have hcu := hcl u S1 sk HW.out.1.wl
        go_wp2_with (refine wpList_load_mid rfl 44 (.tmp 7) rfl B9 0 (by kernel_rfl) xs _ rN Tryz.underlying44 rfl hi18 ?_)
        refine Calls.mono hcu ?_
        rintro _ u2 ⟨rfl, S2, hg⟩
        have HG2 := hyd (HW.out.1.trans hg)
        clear hcu hg c2 rN hs1
        go_wp2
        go_roundw
        case rel => exact ⟨k + 1, S2, by omega, by go_num, by rw [HK.out]; exact HG2.out⟩
        case measure => simp [intOf]; omega
      · have HE := hyd (HNN.out hs1)
        subst hs1
        clear hcl
        go_wp2
        refine bodyPost_ret (results_none rfl _ _ _) rfl ?_
        rw [HE.out]
        exact ⟨rfl, S1, HW.out.1⟩
    · have e2 : k = len := by omega
      subst e2
      have d : ¬ (k : Int) < k := by omega
      go_wp2
      go_end0
      exact ⟨rfl, S1, HI.out⟩

set_option maxRecDepth 100000 in
set_option maxHeartbeats 4000000 in
theorem putList_point {wE : World} {p q : Nat} (G : Nat → Option (List Nat) → Option (List Nat)) (ao : Option Addr) (len cap : Nat) (w : World) (S : Nat → Prop) (st : Option (List Nat)) (hI : Wl wE p q S st w)
    (hput : ∀ u S1 st1, Wl wE p q S1 st1 u → Calls Tryz.prog 98 #[.pointer (some ⟨q, 0, none⟩), .slice ao len cap, .func (.func 68) #[.pointer (some ⟨q, 0, none⟩)] #[]] u fun r w' => WR wE p q S1 u (iterS G len st1) r w') :
    Calls Tryz.prog 67 #[.pointer (some ⟨q, 0, none⟩), .slice ao len cap, .func (.func 68) #[.pointer (some ⟨q, 0, none⟩)] #[]] w fun r w' => WR wE p q S w (iterS G len (wSh len st)) r w' := by
  have hs := wshort_any hI (len : Int)
  have HP := hyd hput
  clear hput
  go_enter Tryz.func67, Tryz.ntmps67
  go_wp2_with fail
  refine Calls.mono hs ?_
  rintro _ u1 ⟨rfl, S1, hg1⟩
  have hp := HP.out u1 S1 _ hg1.wl
  have HG1 := hyd hg1
  clear hs hg1
  go_wp2_with fail
  refine Calls.mono hp ?_
  rintro _ u2 ⟨rfl, S2, hg2⟩
  have HG2 := hyd (HG1.out.trans hg2)
  clear hp hg2
  go_wp2
  go_end0
  exact ⟨rfl, S2, HG2.out⟩

set_option maxRecDepth 100000 in
set_option maxHeartbeats 8000000 in
theorem put_text {wE : World} {p q : Nat} (G : Nat → Option (List Nat) → Option (List Nat)) (hG : ∀ k, G k none = none) (ao : Option Addr) (b o len cap : Nat) (val : Nat → ByteArray) (w : World) (S : Nat → Prop) (st : Option (List Nat)) (hnil : 0 < len → ao = some ⟨b, o, none⟩) (hbd : len ≤ 9223372036854775807)
    (hrow : ∀ i u, i < len → Below wE.heap.size wE u → u.cell? ⟨b, o + i, none⟩ = some (.string (val i)))
    (hcall : ∀ i u S1 st1, i < len → Wl wE p q S1 st1 u → Calls Tryz.prog 28 #[.pointer (some ⟨q, 0, none⟩), .string (val i)] u fun r u' => WR wE p q S1 u (G i st1) r u') (hI : Wl wE p q S st w) :
    Calls Tryz.prog 57 #[.pointer (some ⟨q, 0, none⟩), .slice ao len cap, .func (.func 28) #[.pointer (some ⟨q, 0, none⟩)] #[]] w fun r w' => WR wE p q S w (iterS G len st) r w' := by
  have HI := hyd hI
  have HH := hyd (show (∀ i u, i < len → Below wE.heap.size wE u → u.cell? ⟨b, o + i, none⟩ = some (.string (val i))) ∧ (∀ k, G k none = none) from ⟨hrow, hG⟩)
  have HC := hyd hcall
  clear hI hrow hcall hG
  go_enter Tryz.func57, Tryz.ntmps57
  go_wp2
  go_loopw [10] (fun i wr => ∃ (k : Nat) (S1 : Nat → Prop), k ≤ len ∧ i = .int .i64 k ∧ Wg wE p q S w S1 (iterS G k st) wr) (fun i _ => len - (intOf i).toNat)
  case atStart => exact ⟨0, S, Nat.zero_le _, rfl, Wg.of HI.out (Below.refl _ _)⟩
  case round =>
    clear HI
    obtain ⟨k, S1, hk, rfl, hB⟩ := hrel
    have HI := hyd hB
    clear hB
    by_cases hlt : k < len
    · have ij : (k : Int) < len := by omega
      have a0 := hnil (by omega)
      subst a0
      have r1 := HH.out.1 k wr hlt HI.out.wl.bl
      have HK : Hid (iterS G (k + 1) st = G k (iterS G k st)) := rfl
      have hcl := fun u S1 st1 => HC.out k u S1 st1 hlt
      have HNN : Hid (iterS G k st = none → iterS G len st = none) := fun h => iterS_none HH.out.2 h hk
      generalize iterS G k st = sk at *
      generalize val k = x at *
      obtain ⟨v, lg, l, hW, hS, hst⟩ := HI.out.wl
      have c2 := hW.blk.cell 2 rfl
      clear hW hS
      rcases hst with ⟨hs1, rfl⟩ | ⟨hs1, rfl⟩
      · have hcu := hcl wr S1 sk HI.out.wl
        go_wp2_with fail
        refine Calls.mono hcu ?_
        rintro _ u2 ⟨rfl, S2, hg⟩
        have HG2 := hyd (HI.out.trans hg)
        clear hcu hg c2 hs1 r1
        go_wp2
        go_roundw
        case rel => exact ⟨k + 1, S2, by omega, by go_num, by rw [HK.out]; exact HG2.out⟩
        case measure => simp [intOf]; omega
      · have HE := hyd (HNN.out hs1)
        subst hs1
        clear hcl
        go_wp2
        refine bodyPost_ret (results_none rfl _ _ _) rfl ?_
        rw [HE.out]
        exact ⟨rfl, S1, HI.out⟩
    · have e2 : k = len := by omega
      subst e2
      have d : ¬ (k : Int) < k := by omega
      go_wp2
      go_end0
      exact ⟨rfl, S1, HI.out⟩

set_option maxRecDepth 100000 in
set_option maxHeartbeats 4000000 in
theorem putList_text {wE : World} {p q : Nat} (G : Nat → Option (List Nat) → Option (List Nat)) (ao : Option Addr) (len cap : Nat) (w : World) (S : Nat → Prop) (st : Option (List Nat)) (hI : Wl wE p q S st w)
    (hput : ∀ u S1 st1, Wl wE p q S1 st1 u → Calls Tryz.prog 57 #[.pointer (some ⟨q, 0, none⟩), .slice ao len cap, .func (.func 28) #[.pointer (some ⟨q, 0, none⟩)] #[]] u fun r w' => WR wE p q S1 u (iterS G len st1) r w') :
    Calls Tryz.prog 27 #[.pointer (some ⟨q, 0, none⟩), .slice ao len cap, .func (.func 28) #[.pointer (some ⟨q, 0, none⟩)] #[]] w fun r w' => WR wE p q S w (iterS G len (wSh len st)) r w' := by
  have hs := wshort_any hI (len : Int)
  have HP := hyd hput
  clear hput
  go_enter Tryz.func27, Tryz.ntmps27
  go_wp2_with fail
  refine Calls.mono hs ?_
  rintro _ u1 ⟨rfl, S1, hg1⟩
  have hp := HP.out u1 S1 _ hg1.wl
  have HG1 := hyd hg1
  clear hs hg1
  go_wp2_with fail
  refine Calls.mono hp ?_
  rintro _ u2 ⟨rfl, S2, hg2⟩
  have HG2 := hyd (HG1.out.trans hg2)
  clear hp hg2
  go_wp2
  go_end0
  exact ⟨rfl, S2, HG2.out⟩

set_option maxRecDepth 100000 in
set_option maxHeartbeats 8000000 in
theorem put_row {wE : World} {p q : Nat} (G : Nat → Option (List Nat) → Option (List Nat)) (hG : ∀ k, G k none = none) (ao : Option Addr) (b o len cap : Nat) (val : Nat → Option Addr × Nat × Nat) (w : World) (S : Nat → Prop) (st : Option (List Nat)) (hnil : 0 < len → ao = some ⟨b, o, none⟩) (hbd : len ≤ 9223372036854775807)
    (hrow : ∀ i u, i < len → Below wE.heap.size wE u → u.cell? ⟨b, o + i, none⟩ = some (.slice (val i).1 (val i).2.1 (val i).2.2))
    (hcall : ∀ i u S1 st1, i < len → Wl wE p q S1 st1 u → Calls Tryz.prog 30 #[.pointer (some ⟨q, 0, none⟩), .slice (val i).1 (val i).2.1 (val i).2.2] u fun r u' => WR wE p q S1 u (G i st1) r u') (hI : Wl wE p q S st w) :
    Calls Tryz.prog 29 #[.pointer (some ⟨q, 0, none⟩), .slice ao len cap, .func (.func 30) #[.pointer (some ⟨q, 0, none⟩)] #[]] w fun r w' => WR wE p q S w (iterS G len st) r w' := by
  have HI := hyd hI
  have HH := hyd (show (∀ i u, i < len → Below wE.heap.size wE u → u.cell? ⟨b, o + i, none⟩ = some (.slice (val i).1 (val i).2.1 (val i).2.2)) ∧ (∀ k, G k none = none) from ⟨hrow, hG⟩)
  have HC := hyd hcall
  clear hI hrow hcall hG
  go_enter Tryz.func29, Tryz.ntmps29
  go_wp2
  go_loopw [10] (fun i wr => ∃ (k : Nat) (S1 : Nat → Prop), k ≤ len ∧ i = .int .i64 k ∧ Wg wE p q S w S1 (iterS G k st) wr) (fun i _ => len - (intOf i).toNat)
  case atStart => exact ⟨0, S, Nat.zero_le _, rfl, Wg.of HI.out (Below.refl _ _)⟩
  case round =>
    clear HI
    obtain ⟨k, S1, hk, rfl, hB⟩ := hrel
    have HI := hyd hB
    clear hB
    by_cases hlt : k < len
    · have ij : (k : Int) < len := by omega
      have a0 := hnil (by omega)
      subst a0
      have r1 := HH.out.1 k wr hlt HI.out.wl.bl
      have HK : Hid (iterS G (k + 1) st = G k (iterS G k st)) := rfl
      have hcl := fun u S1 st1 => HC.out k u S1 st1 hlt
      have HNN : Hid (iterS G k st = none → iterS G len st = none) := fun h => iterS_none HH.out.2 h hk
      generalize iterS G k st = sk at *
      generalize val k = x at *
      obtain ⟨v, lg, l, hW, hS, hst⟩ := HI.out.wl
      have c2 := hW.blk.cell 2 rfl
      clear hW hS
      rcases hst with ⟨hs1, rfl⟩ | ⟨hs1, rfl⟩
      · have hcu := hcl wr S1 sk HI.out.wl
        go_wp2_with fail
        refine Calls.mono hcu ?_
        rintro _ u2 ⟨rfl, S2, hg⟩
        have HG2 := hyd (HI.out.trans hg)
        clear hcu hg c2 hs1 r1
        go_wp2
        go_roundw
        case rel => exact ⟨k + 1, S2, by omega, by go_num, by rw [HK.out]; exact HG2.out⟩
        case measure => simp [intOf]; omega
      · have HE := hyd (HNN.out hs1)
        subst hs1
        clear hcl
        go_wp2
        refine bodyPost_ret (results_none rfl _ _ _) rfl ?_
        rw [HE.out]
        exact ⟨rfl, S1, HI.out⟩
    · have e2 : k = len := by omega
      subst e2
      have d : ¬ (k : Int) < k := by omega
      go_wp2
      go_end0
      exact ⟨rfl, S1, HI.out⟩

set_option maxRecDepth 100000 in
set_option maxHeartbeats 8000000 in
theorem put_short {wE : World} {p q : Nat} (G : Nat → Option (List Nat) → Option (List Nat)) (hG : ∀ k, G k none = none) (ao : Option Addr) (b o len cap : Nat) (val : Nat → Int) (w : World) (S : Nat → Prop) (st : Option (List Nat)) (hnil : 0 < len → ao = some ⟨b, o, none⟩) (hbd : len ≤ 9223372036854775807)
    (hrow : ∀ i u, i < len → Below wE.heap.size wE u → u.cell? ⟨b, o + i, none⟩ = some (.int .i64 (val i)))
    (hcall : ∀ i u S1 st1, i < len → Wl wE p q S1 st1 u → Calls Tryz.prog 26 #[.pointer (some ⟨q, 0, none⟩), .int .i64 (val i)] u fun r u' => WR wE p q S1 u (G i st1) r u') (hI : Wl wE p q S st w) :
    Calls Tryz.prog 114 #[.pointer (some ⟨q, 0, none⟩), .slice ao len cap, .func (.func 26) #[.pointer (some ⟨q, 0, none⟩)] #[]] w fun r w' => WR wE p q S w (iterS G len st) r w' := by
  have HI := hyd hI
  have HH := hyd (show (∀ i u, i < len → Below wE.heap.size wE u → u.cell? ⟨b, o + i, none⟩ = some (.int .i64 (val i))) ∧ (∀ k, G k none = none) from ⟨hrow, hG⟩)
  have HC := hyd hcall
  clear hI hrow hcall hG
  go_enter Tryz.func114, Tryz.ntmps114
  go_wp2
  go_loopw [10] (fun i wr => ∃ (k : Nat) (S1 : Nat → Prop), k ≤ len ∧ i = .int .i64 k ∧ Wg wE p q S w S1 (iterS G k st) wr) (fun i _ => len - (intOf i).toNat)
  case atStart => exact ⟨0, S, Nat.zero_le _, rfl, Wg.of HI.out (Below.refl _ _)⟩
  case round =>
    clear HI
    obtain ⟨k, S1, hk, rfl, hB⟩ := hrel
    have HI := hyd hB
    clear hB
    by_cases hlt : k < len
    · have ij : (k : Int) < len := by omega
      have a0 := hnil (by omega)
      subst a0
      have r1 := HH.out.1 k wr hlt HI.out.wl.bl
      have HK : Hid (iterS G (k + 1) st = G k (iterS G k st)) := rfl
      have hcl := fun u S1 st1 => HC.out k u S1 st1 hlt
      have HNN : Hid (iterS G k st = none → iterS G len st = none) := fun h => iterS_none HH.out.2 h hk
      generalize iterS G k st = sk at *
      generalize val k = x at *
      obtain ⟨v, lg, l, hW, hS, hst⟩ := HI.out.wl
      have c2 := hW.blk.cell 2 rfl
      clear hW hS
      rcases hst with ⟨hs1, rfl⟩ | ⟨hs1, rfl⟩
      · have hcu := hcl wr S1 sk HI.out.wl
        go_wp2_with fail
        refine Calls.mono hcu ?_
        rintro _ u2 ⟨rfl, S2, hg⟩
        have HG2 := hyd (HI.out.trans hg)
        clear hcu hg c2 hs1 r1
        go_wp2
        go_roundw
        case rel => exact ⟨k + 1, S2, by omega, by go_num, by rw [HK.out]; exact HG2.out⟩
        case measure => simp [intOf]; omega
      · have HE := hyd (HNN.out hs1)
        subst hs1
        clear hcl
        go_wp2
        refine bodyPost_ret (results_none rfl _ _ _) rfl ?_
        rw [HE.out]
        exact ⟨rfl, S1, HI.out⟩
    · have e2 : k = len := by omega
      subst e2
      have d : ¬ (k : Int) < k := by omega
      go_wp2
      go_end0
      exact ⟨rfl, S1, HI.out⟩

set_option maxRecDepth 100000 in
set_option maxHeartbeats 4000000 in
theorem putList_short {wE : World} {p q : Nat} (G : Nat → Option (List Nat) → Option (List Nat)) (ao : Option Addr) (len cap : Nat) (w : World) (S : Nat → Prop) (st : Option (List Nat)) (hI : Wl wE p q S st w)
    (hput : ∀ u S1 st1, Wl wE p q S1 st1 u → Calls Tryz.prog 114 #[.pointer (some ⟨q, 0, none⟩), .slice ao len cap, .func (.func 26) #[.pointer (some ⟨q, 0, none⟩)] #[]] u fun r w' => WR wE p q S1 u (iterS G len st1) r w') :
    Calls Tryz.prog 101 #[.pointer (some ⟨q, 0, none⟩), .slice ao len cap, .func (.func 26) #[.pointer (some ⟨q, 0, none⟩)] #[]] w fun r w' => WR wE p q S w (iterS G len (wSh len st)) r w' := by
  have hs := wshort_any hI (len : Int)
  have HP := hyd hput
  clear hput
  go_enter Tryz.func101, Tryz.ntmps101
  go_wp2_with fail
  refine Calls.mono hs ?_
  rintro _ u1 ⟨rfl, S1, hg1⟩
  have hp := HP.out u1 S1 _ hg1.wl
  have HG1 := hyd hg1
  clear hs hg1
  go_wp2_with fail
  refine Calls.mono hp ?_
  rintro _ u2 ⟨rfl, S2, hg2⟩
  have HG2 := hyd (HG1.out.trans hg2)
  clear hp hg2
  go_wp2
  go_end0
  exact ⟨rfl, S2, HG2.out⟩
end Go.Proofs.YtjfijpiadfkmfaaGreatDoor
