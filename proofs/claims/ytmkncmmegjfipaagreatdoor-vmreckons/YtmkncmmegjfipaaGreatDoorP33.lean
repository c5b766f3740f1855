/- Layer 18: the statement VmReckons, walked. -/
import Derived.Test.YtmkncmmegjfipaaGreatDoorP32
import Derived.Test.YtmkncmmegjfipaaGreatDoorP27
import Derived.Test.YtmkncmmegjfipaaGreatDoorRows
import Derived.Stop.LaidErr
import Derived.Stop.Joined
import Derived.Lib.LaidTab
import Derived.LaidMore
import Derived.OpenShut
import Derived.Test.YtmkncmmegjfipaaGreatDoorP31
namespace Go.Proofs.YtmkncmmegjfipaaGreatDoor
open Go Go.RowKit

/-- What lies before the statement's class: the code, the function's box. -/
structure L5 (n : Strs) (g : Grid) (w : World) (X S F : Nat) (cd : List In) (fv : List Value) (u : World) : Prop where
  l : Lt1 n g u
  bl : Below w.heap.size w u
  x : Blk u X [.slice n.ao n.len n.cap, .slice g.ao g.len g.cap] 25
  s : Blk u S (cd.flatMap In.vs) 60
  f : Blk u F fv 66
theorem L5.kept {n : Strs} {g : Grid} {w : World} {X S F : Nat} {cd : List In} {fv : List Value} {u u' : World} (h : L5 n g w X S F cd fv u) (hb : Below u.heap.size u u') : L5 n g w X S F cd fv u' := ⟨h.l.keptV hb, Below.next h.bl hb, h.x.kept hb, h.s.kept hb, h.f.kept hb⟩
/-- The class in its box, a value, limits; all behind what lies before. -/
structure L6 (n : Strs) (g : Grid) (u5 : World) (FS C A M : Nat) (fv : List Value) (u : World) : Prop where
  bl : Below u5.heap.size u5 u
  le : u5.heap.size ≤ FS ∧ FS < C ∧ C < A ∧ A < M
  fs : Blk u FS fv 66
  c : Blk u C [.slice n.ao n.len n.cap, .slice g.ao g.len g.cap, .slice (some ⟨FS, 0, none⟩) 1 1] 28
  a : Blk u A [.int .i64 1, .int .i64 0, .slice none 0 0] 31
  m : Blk u M [.int .i64 20, .int .i64 1, .int .i64 0] 34
theorem L6.kept {n : Strs} {g : Grid} {u5 : World} {FS C A M : Nat} {fv : List Value} {u u' : World} (h : L6 n g u5 FS C A M fv u) (hb : Below u.heap.size u u') : L6 n g u5 FS C A M fv u' := ⟨Below.next h.bl hb, h.le, h.fs.kept hb, h.c.kept hb, h.a.kept hb, h.m.kept hb⟩
theorem lawC_at {w : World} {S : Nat} {op a b : Int} (hop : I64 op) (ha : I64 a) (hb : I64 b) (h : Blk w S ((lawC op a b).flatMap In.vs) 60) : InsAt w (cdL S (lawC op a b)) := by
  refine cdL_at h (by show (7 : Nat) ≤ 1000; omega) fun x hx => ?_
  simp only [lawC, List.mem_cons, List.not_mem_nil, or_false] at hx
  have z : I64 0 := ⟨by omega, by omega⟩
  rcases hx with rfl | rfl | rfl | rfl | rfl | rfl | rfl
  · exact ⟨⟨by show (-9223372036854775808 : Int) ≤ 1; omega, by show (1 : Int) ≤ _; omega⟩, ha, leaf_at _ _ _⟩
  · exact ⟨⟨by show (-9223372036854775808 : Int) ≤ 1; omega, by show (1 : Int) ≤ _; omega⟩, hb, leaf_at _ _ _⟩
  · exact ⟨hop, z, leaf_at _ _ _⟩
  · exact ⟨⟨by show (-9223372036854775808 : Int) ≤ 27; omega, by show (27 : Int) ≤ _; omega⟩, z, leaf_at _ _ _⟩
  · exact ⟨⟨by show (-9223372036854775808 : Int) ≤ 5; omega, by show (5 : Int) ≤ _; omega⟩, z, leaf_at _ _ _⟩
  · exact ⟨⟨by show (-9223372036854775808 : Int) ≤ 1; omega, by show (1 : Int) ≤ _; omega⟩, ⟨by show (-9223372036854775808 : Int) ≤ 77; omega, by show (77 : Int) ≤ _; omega⟩, leaf_at _ _ _⟩
  · exact ⟨⟨by show (-9223372036854775808 : Int) ≤ 27; omega, by show (27 : Int) ≤ _; omega⟩, z, leaf_at _ _ _⟩
theorem hdL_at {w : World} {H : Nat} (h : Blk w H [.int .i64 0, .int .i64 4, .int .i64 4] 68) : HnsAt w (hdL H [⟨0, 4, 4⟩]) := by
  refine ⟨fun _ => rfl, by show (1 : Nat) ≤ _; omega, fun i hi => ?_, fun i hi => ?_⟩
  · have hi0 : i = 0 := by have : i < 1 := hi; omega
    subst hi0
    show w.rangeAt H (0 + 0 * 3) _
    exact h.range
  · have hi0 : i = 0 := by have : i < 1 := hi; omega
    subst hi0
    exact ⟨⟨by show (-9223372036854775808 : Int) ≤ 0; omega, by show (0 : Int) ≤ _; omega⟩, ⟨by show (-9223372036854775808 : Int) ≤ 4; omega, by show (4 : Int) ≤ _; omega⟩, ⟨by show (-9223372036854775808 : Int) ≤ 4; omega, by show (4 : Int) ≤ _; omega⟩⟩
set_option maxRecDepth 100000 in
set_option maxHeartbeats 8000000 in
theorem vmReckons_any (op a b : Int) (w : World) (hop : I64 op) (ha : I64 a) (hb : I64 b) (hO : Og w) (hG : Ng w) : Calls Tryz.prog 7 #[.int .i64 op, .int .i64 a, .int .i64 b] w fun e w' => e = .returned (.bool true) ∧ Below w.heap.size w w' := by
  have HO := hyd hO
  have HG := hyd hG
  have HI := hyd (show I64 op ∧ I64 a ∧ I64 b from ⟨hop, ha, hb⟩)
  have hA := awake18_any w hO hG
  clear hO hG ha hb
  go_enter Tryz.func7, Tryz.ntmps7
  by_cases h6 : op < 6
  · have f6 : decide (op < 6) = true := by simpa using h6
    go_wp2_with fail
    refine hA.mono ?_
    rintro _ u0 ⟨rfl, hb⟩
    have HB := hyd hb
    have hA := awake18_any u0 (fun i hi => up hb (HO.out i hi)) (HG.out.kept hb)
    clear hb
    go_wp2_with fail
    refine hA.mono ?_
    rintro _ u1 ⟨rfl, hb⟩
    have HB1 := hyd (Below.next HB.out hb)
    clear hb HB
    go_wp2
    go_ret
    exact ⟨rfl, HB1.out⟩
  have f6 : decide (op < 6) = false := by simpa using h6
  by_cases h12 : op > 12
  · have f12 : decide (12 < op) = true := by simpa using h12
    go_wp2_with fail
    refine hA.mono ?_
    rintro _ u0 ⟨rfl, hb⟩
    have HB := hyd hb
    have hA := awake18_any u0 (fun i hi => up hb (HO.out i hi)) (HG.out.kept hb)
    clear hb
    go_wp2_with fail
    refine hA.mono ?_
    rintro _ u1 ⟨rfl, hb⟩
    have HB1 := hyd (Below.next HB.out hb)
    clear hb HB
    go_wp2
    go_ret
    exact ⟨rfl, HB1.out⟩
  have f12 : decide (12 < op) = false := by simpa using h12
  have H6 := hyd (show 6 ≤ op ∧ op ≤ 12 by omega)
  clear h6 h12
  go_wp2_with fail
  refine hA.mono ?_
  rintro _ u0 ⟨rfl, hb⟩
  have HB0 := hyd hb
  have HO0 := hyd (show Og u0 from fun i hi => up hb (HO.out i hi))
  have HG0 := hyd (HG.out.kept hb)
  have hM := one_make u0
  clear hb hA HO HG
  go_wp2_with fail
  refine hM.mono ?_
  rintro _ u1 ⟨n, g, rfl, hL, hb⟩
  have HL := hyd hL
  have HB := hyd (Below.next HB0.out hb)
  have HO1 := hyd (show Og u1 from fun i hi => up hb (HO0.out i hi))
  have HG1 := hyd (HG0.out.kept hb)
  clear hM hL hb HB0 HO0 HG0 f6 f12
  go_upto_region 4 with fail

  have b2 := below_alloc u1 (.cells #[.slice n.ao n.len n.cap, .slice g.ao g.len g.cap] 25)
  have H2 := hyd (show ((Lt1 n g (u1.alloc (.cells #[.slice n.ao n.len n.cap, .slice g.ao g.len g.cap] 25)) ∧ Below w.heap.size w (u1.alloc (.cells #[.slice n.ao n.len n.cap, .slice g.ao g.len g.cap] 25))) ∧ Blk (u1.alloc (.cells #[.slice n.ao n.len n.cap, .slice g.ao g.len g.cap] 25)) u1.heap.size [.slice n.ao n.len n.cap, .slice g.ao g.len g.cap] 25) ∧ Og (u1.alloc (.cells #[.slice n.ao n.len n.cap, .slice g.ao g.len g.cap] 25)) ∧ Ng (u1.alloc (.cells #[.slice n.ao n.len n.cap, .slice g.ao g.len g.cap] 25)) from ⟨⟨⟨HL.out.keptV b2, Below.next HB.out b2⟩, Blk.new u1 _ _⟩, fun i hi => up b2 (HO1.out i hi), HG1.out.kept b2⟩)
  clear b2 HL HB HO1 HG1
  generalize u1.alloc (.cells #[.slice n.ao n.len n.cap, .slice g.ao g.len g.cap] 25) = u2 at *
  generalize u1.heap.size = X at *
  go_upto_region 5 with fail

  have b3 := below_alloc u2 (.cells #[.int .i64 1, .int .i64 0, .slice none 0 0, .int .i64 0, .int .i64 0] 53)
  have H3 := hyd (show (((Lt1 n g (u2.alloc (.cells #[.int .i64 1, .int .i64 0, .slice none 0 0, .int .i64 0, .int .i64 0] 53)) ∧ Below w.heap.size w (u2.alloc (.cells #[.int .i64 1, .int .i64 0, .slice none 0 0, .int .i64 0, .int .i64 0] 53))) ∧ Blk (u2.alloc (.cells #[.int .i64 1, .int .i64 0, .slice none 0 0, .int .i64 0, .int .i64 0] 53)) X [.slice n.ao n.len n.cap, .slice g.ao g.len g.cap] 25) ∧ Og (u2.alloc (.cells #[.int .i64 1, .int .i64 0, .slice none 0 0, .int .i64 0, .int .i64 0] 53)) ∧ Ng (u2.alloc (.cells #[.int .i64 1, .int .i64 0, .slice none 0 0, .int .i64 0, .int .i64 0] 53))) ∧ Blk (u2.alloc (.cells #[.int .i64 1, .int .i64 0, .slice none 0 0, .int .i64 0, .int .i64 0] 53)) u2.heap.size [.int .i64 1, .int .i64 0, .slice none 0 0, .int .i64 0, .int .i64 0] 53 from ⟨⟨⟨⟨H2.out.1.1.1.keptV b3, Below.next H2.out.1.1.2 b3⟩, H2.out.1.2.kept b3⟩, fun i hi => up b3 (H2.out.2.1 i hi), H2.out.2.2.kept b3⟩, Blk.new u2 _ _⟩)
  clear b3 H2
  generalize u2.alloc (.cells #[.int .i64 1, .int .i64 0, .slice none 0 0, .int .i64 0, .int .i64 0] 53) = u3 at *
  generalize u2.heap.size = T at *
  have rt : u3.rangeAt T 0 [.int .i64 1, .int .i64 0, .slice none 0 0, .int .i64 0, .int .i64 0] := H3.out.2.range
  go_upto_region 6 with (first | (refine wpList_load_mid rfl 53 (.tmp 9) rfl T 0 (by kernel_rfl) [.int .i64 1, .int .i64 0, .slice none 0 0, .int .i64 0, .int .i64 0] _ rt Tryz.underlying53 rfl (by kernel_rfl) ?_) | (refine wpList_new_mid rfl rfl 66 rfl (.tmp 10) (.tmp 48) rfl z_fn (alloc_fn _) rfl (vFn 0 (cdL u3.heap.size (lawC op a b)) noH).vs.toArray (by kernel_rfl) (by kernel_rfl) rfl (by kernel_rfl) (by simpa using (vFn 0 (cdL u3.heap.size (lawC op a b)) noH).vs_one) ?_))
  simp only [Act.put, List.setIfInBounds_toArray, List.set_cons_succ, List.set_cons_zero]

  have b4 := below_alloc u3 (.cells #[.int .i64 1, .int .i64 a, .int .i64 0, .int .i64 0, .slice none 0 0, .int .i64 0, .int .i64 0, .int .i64 1, .int .i64 b, .int .i64 0, .int .i64 0, .slice none 0 0, .int .i64 0, .int .i64 0, .int .i64 op, .int .i64 0, .int .i64 0, .int .i64 0, .slice none 0 0, .int .i64 0, .int .i64 0, .int .i64 27, .int .i64 0, .int .i64 0, .int .i64 0, .slice none 0 0, .int .i64 0, .int .i64 0, .int .i64 5, .int .i64 0, .int .i64 0, .int .i64 0, .slice none 0 0, .int .i64 0, .int .i64 0, .int .i64 1, .int .i64 77, .int .i64 0, .int .i64 0, .slice none 0 0, .int .i64 0, .int .i64 0, .int .i64 27, .int .i64 0, .int .i64 0, .int .i64 0, .slice none 0 0, .int .i64 0, .int .i64 0] 60)
  have b5 := below_alloc (u3.alloc (.cells #[.int .i64 1, .int .i64 a, .int .i64 0, .int .i64 0, .slice none 0 0, .int .i64 0, .int .i64 0, .int .i64 1, .int .i64 b, .int .i64 0, .int .i64 0, .slice none 0 0, .int .i64 0, .int .i64 0, .int .i64 op, .int .i64 0, .int .i64 0, .int .i64 0, .slice none 0 0, .int .i64 0, .int .i64 0, .int .i64 27, .int .i64 0, .int .i64 0, .int .i64 0, .slice none 0 0, .int .i64 0, .int .i64 0, .int .i64 5, .int .i64 0, .int .i64 0, .int .i64 0, .slice none 0 0, .int .i64 0, .int .i64 0, .int .i64 1, .int .i64 77, .int .i64 0, .int .i64 0, .slice none 0 0, .int .i64 0, .int .i64 0, .int .i64 27, .int .i64 0, .int .i64 0, .int .i64 0, .slice none 0 0, .int .i64 0, .int .i64 0] 60)) (.cells (vFn 0 (cdL u3.heap.size (lawC op a b)) noH).vs.toArray 66)
  have bS : Blk (u3.alloc (.cells #[.int .i64 1, .int .i64 a, .int .i64 0, .int .i64 0, .slice none 0 0, .int .i64 0, .int .i64 0, .int .i64 1, .int .i64 b, .int .i64 0, .int .i64 0, .slice none 0 0, .int .i64 0, .int .i64 0, .int .i64 op, .int .i64 0, .int .i64 0, .int .i64 0, .slice none 0 0, .int .i64 0, .int .i64 0, .int .i64 27, .int .i64 0, .int .i64 0, .int .i64 0, .slice none 0 0, .int .i64 0, .int .i64 0, .int .i64 5, .int .i64 0, .int .i64 0, .int .i64 0, .slice none 0 0, .int .i64 0, .int .i64 0, .int .i64 1, .int .i64 77, .int .i64 0, .int .i64 0, .slice none 0 0, .int .i64 0, .int .i64 0, .int .i64 27, .int .i64 0, .int .i64 0, .int .i64 0, .slice none 0 0, .int .i64 0, .int .i64 0] 60)) u3.heap.size ((lawC op a b).flatMap In.vs) 60 := Blk.new u3 _ _
  have HLy := hyd (show (L5 n g w X u3.heap.size (u3.alloc (.cells #[.int .i64 1, .int .i64 a, .int .i64 0, .int .i64 0, .slice none 0 0, .int .i64 0, .int .i64 0, .int .i64 1, .int .i64 b, .int .i64 0, .int .i64 0, .slice none 0 0, .int .i64 0, .int .i64 0, .int .i64 op, .int .i64 0, .int .i64 0, .int .i64 0, .slice none 0 0, .int .i64 0, .int .i64 0, .int .i64 27, .int .i64 0, .int .i64 0, .int .i64 0, .slice none 0 0, .int .i64 0, .int .i64 0, .int .i64 5, .int .i64 0, .int .i64 0, .int .i64 0, .slice none 0 0, .int .i64 0, .int .i64 0, .int .i64 1, .int .i64 77, .int .i64 0, .int .i64 0, .slice none 0 0, .int .i64 0, .int .i64 0, .int .i64 27, .int .i64 0, .int .i64 0, .int .i64 0, .slice none 0 0, .int .i64 0, .int .i64 0] 60)).heap.size (lawC op a b) (vFn 0 (cdL u3.heap.size (lawC op a b)) noH).vs ((u3.alloc (.cells #[.int .i64 1, .int .i64 a, .int .i64 0, .int .i64 0, .slice none 0 0, .int .i64 0, .int .i64 0, .int .i64 1, .int .i64 b, .int .i64 0, .int .i64 0, .slice none 0 0, .int .i64 0, .int .i64 0, .int .i64 op, .int .i64 0, .int .i64 0, .int .i64 0, .slice none 0 0, .int .i64 0, .int .i64 0, .int .i64 27, .int .i64 0, .int .i64 0, .int .i64 0, .slice none 0 0, .int .i64 0, .int .i64 0, .int .i64 5, .int .i64 0, .int .i64 0, .int .i64 0, .slice none 0 0, .int .i64 0, .int .i64 0, .int .i64 1, .int .i64 77, .int .i64 0, .int .i64 0, .slice none 0 0, .int .i64 0, .int .i64 0, .int .i64 27, .int .i64 0, .int .i64 0, .int .i64 0, .slice none 0 0, .int .i64 0, .int .i64 0] 60)).alloc (.cells (vFn 0 (cdL u3.heap.size (lawC op a b)) noH).vs.toArray 66)) ∧ Og ((u3.alloc (.cells #[.int .i64 1, .int .i64 a, .int .i64 0, .int .i64 0, .slice none 0 0, .int .i64 0, .int .i64 0, .int .i64 1, .int .i64 b, .int .i64 0, .int .i64 0, .slice none 0 0, .int .i64 0, .int .i64 0, .int .i64 op, .int .i64 0, .int .i64 0, .int .i64 0, .slice none 0 0, .int .i64 0, .int .i64 0, .int .i64 27, .int .i64 0, .int .i64 0, .int .i64 0, .slice none 0 0, .int .i64 0, .int .i64 0, .int .i64 5, .int .i64 0, .int .i64 0, .int .i64 0, .slice none 0 0, .int .i64 0, .int .i64 0, .int .i64 1, .int .i64 77, .int .i64 0, .int .i64 0, .slice none 0 0, .int .i64 0, .int .i64 0, .int .i64 27, .int .i64 0, .int .i64 0, .int .i64 0, .slice none 0 0, .int .i64 0, .int .i64 0] 60)).alloc (.cells (vFn 0 (cdL u3.heap.size (lawC op a b)) noH).vs.toArray 66)) ∧ Ng ((u3.alloc (.cells #[.int .i64 1, .int .i64 a, .int .i64 0, .int .i64 0, .slice none 0 0, .int .i64 0, .int .i64 0, .int .i64 1, .int .i64 b, .int .i64 0, .int .i64 0, .slice none 0 0, .int .i64 0, .int .i64 0, .int .i64 op, .int .i64 0, .int .i64 0, .int .i64 0, .slice none 0 0, .int .i64 0, .int .i64 0, .int .i64 27, .int .i64 0, .int .i64 0, .int .i64 0, .slice none 0 0, .int .i64 0, .int .i64 0, .int .i64 5, .int .i64 0, .int .i64 0, .int .i64 0, .slice none 0 0, .int .i64 0, .int .i64 0, .int .i64 1, .int .i64 77, .int .i64 0, .int .i64 0, .slice none 0 0, .int .i64 0, .int .i64 0, .int .i64 27, .int .i64 0, .int .i64 0, .int .i64 0, .slice none 0 0, .int .i64 0, .int .i64 0] 60)).alloc (.cells (vFn 0 (cdL u3.heap.size (lawC op a b)) noH).vs.toArray 66))) ∧ u3.heap.size < (u3.alloc (.cells #[.int .i64 1, .int .i64 a, .int .i64 0, .int .i64 0, .slice none 0 0, .int .i64 0, .int .i64 0, .int .i64 1, .int .i64 b, .int .i64 0, .int .i64 0, .slice none 0 0, .int .i64 0, .int .i64 0, .int .i64 op, .int .i64 0, .int .i64 0, .int .i64 0, .slice none 0 0, .int .i64 0, .int .i64 0, .int .i64 27, .int .i64 0, .int .i64 0, .int .i64 0, .slice none 0 0, .int .i64 0, .int .i64 0, .int .i64 5, .int .i64 0, .int .i64 0, .int .i64 0, .slice none 0 0, .int .i64 0, .int .i64 0, .int .i64 1, .int .i64 77, .int .i64 0, .int .i64 0, .slice none 0 0, .int .i64 0, .int .i64 0, .int .i64 27, .int .i64 0, .int .i64 0, .int .i64 0, .slice none 0 0, .int .i64 0, .int .i64 0] 60)).heap.size from ⟨⟨⟨(H3.out.1.1.1.1.keptV b4).keptV b5, Below.next (Below.next H3.out.1.1.1.2 b4) b5, (H3.out.1.1.2.kept b4).kept b5, bS.kept b5, Blk.new _ _ _⟩, fun i hi => up b5 (up b4 (H3.out.1.2.1 i hi)), (H3.out.1.2.2.kept b4).kept b5⟩, bS.lt⟩)
  clear b4 b5 bS H3 rt
  generalize ((u3.alloc (.cells #[.int .i64 1, .int .i64 a, .int .i64 0, .int .i64 0, .slice none 0 0, .int .i64 0, .int .i64 0, .int .i64 1, .int .i64 b, .int .i64 0, .int .i64 0, .slice none 0 0, .int .i64 0, .int .i64 0, .int .i64 op, .int .i64 0, .int .i64 0, .int .i64 0, .slice none 0 0, .int .i64 0, .int .i64 0, .int .i64 27, .int .i64 0, .int .i64 0, .int .i64 0, .slice none 0 0, .int .i64 0, .int .i64 0, .int .i64 5, .int .i64 0, .int .i64 0, .int .i64 0, .slice none 0 0, .int .i64 0, .int .i64 0, .int .i64 1, .int .i64 77, .int .i64 0, .int .i64 0, .slice none 0 0, .int .i64 0, .int .i64 0, .int .i64 27, .int .i64 0, .int .i64 0, .int .i64 0, .slice none 0 0, .int .i64 0, .int .i64 0] 60)).alloc (.cells (vFn 0 (cdL u3.heap.size (lawC op a b)) noH).vs.toArray 66)) = u5 at *
  generalize (u3.alloc (.cells #[.int .i64 1, .int .i64 a, .int .i64 0, .int .i64 0, .slice none 0 0, .int .i64 0, .int .i64 0, .int .i64 1, .int .i64 b, .int .i64 0, .int .i64 0, .slice none 0 0, .int .i64 0, .int .i64 0, .int .i64 op, .int .i64 0, .int .i64 0, .int .i64 0, .slice none 0 0, .int .i64 0, .int .i64 0, .int .i64 27, .int .i64 0, .int .i64 0, .int .i64 0, .slice none 0 0, .int .i64 0, .int .i64 0, .int .i64 5, .int .i64 0, .int .i64 0, .int .i64 0, .slice none 0 0, .int .i64 0, .int .i64 0, .int .i64 1, .int .i64 77, .int .i64 0, .int .i64 0, .slice none 0 0, .int .i64 0, .int .i64 0, .int .i64 27, .int .i64 0, .int .i64 0, .int .i64 0, .slice none 0 0, .int .i64 0, .int .i64 0] 60)).heap.size = F at *
  generalize u3.heap.size = S at *

  have rl := HLy.out.1.1.x.range
  have rf : u5.rangeAt F 0 [.int .i64 1, .int .i64 0, .slice none 0 0, .int .i64 0, .int .i64 0, .int .i64 1, .int .i64 0, .slice none 0 0, .int .i64 0, .int .i64 0, .slice none 0 0, .int .i64 0, .int .i64 0, .int .i64 1, .slice (some ⟨S, 0, none⟩) 7 7, .slice none 0 0, .slice none 0 0, .slice none 0 0] := HLy.out.1.1.f.range
  go_upto_region 9 with (first | (refine wpList_load_mid rfl 25 (.tmp 7) rfl X 0 (by kernel_rfl) [.slice n.ao n.len n.cap, .slice g.ao g.len g.cap] _ rl Tryz.underlying25 rfl (by kernel_rfl) ?_) | (refine wpList_load_mid rfl 66 (.tmp 10) rfl F 0 (by kernel_rfl) [.int .i64 1, .int .i64 0, .slice none 0 0, .int .i64 0, .int .i64 0, .int .i64 1, .int .i64 0, .slice none 0 0, .int .i64 0, .int .i64 0, .slice none 0 0, .int .i64 0, .int .i64 0, .int .i64 1, .slice (some ⟨S, 0, none⟩) 7 7, .slice none 0 0, .slice none 0 0, .slice none 0 0] _ rf Tryz.underlying66 rfl (by kernel_rfl) ?_))

  have BB := allocs_below [.cells #[.int .i64 1, .int .i64 0, .slice none 0 0, .int .i64 0, .int .i64 0, .int .i64 1, .int .i64 0, .slice none 0 0, .int .i64 0, .int .i64 0, .slice none 0 0, .int .i64 0, .int .i64 0, .int .i64 1, .slice (some ⟨S, 0, none⟩) 7 7, .slice none 0 0, .slice none 0 0, .slice none 0 0] 66, .cells #[.slice n.ao n.len n.cap, .slice g.ao g.len g.cap, .slice (some ⟨u5.heap.size, 0, none⟩) 1 1] 28, .cells #[.int .i64 1, .int .i64 0, .slice none 0 0] 31, .cells #[.int .i64 20, .int .i64 1, .int .i64 0] 34] u5
  have SS := allocs_heap [.cells #[.int .i64 1, .int .i64 0, .slice none 0 0, .int .i64 0, .int .i64 0, .int .i64 1, .int .i64 0, .slice none 0 0, .int .i64 0, .int .i64 0, .slice none 0 0, .int .i64 0, .int .i64 0, .int .i64 1, .slice (some ⟨S, 0, none⟩) 7 7, .slice none 0 0, .slice none 0 0, .slice none 0 0] 66, .cells #[.slice n.ao n.len n.cap, .slice g.ao g.len g.cap, .slice (some ⟨u5.heap.size, 0, none⟩) 1 1] 28, .cells #[.int .i64 1, .int .i64 0, .slice none 0 0] 31, .cells #[.int .i64 20, .int .i64 1, .int .i64 0] 34] u5
  simp only [List.foldl, List.length] at BB SS
  have H9 := hyd (show L6 n g u5 u5.heap.size (u5.heap.size + 1) (u5.heap.size + 1 + 1) (u5.heap.size + 1 + 1 + 1) (vFn 0 (cdL S (lawC op a b)) noH).vs ((((u5.alloc (.cells #[.int .i64 1, .int .i64 0, .slice none 0 0, .int .i64 0, .int .i64 0, .int .i64 1, .int .i64 0, .slice none 0 0, .int .i64 0, .int .i64 0, .slice none 0 0, .int .i64 0, .int .i64 0, .int .i64 1, .slice (some ⟨S, 0, none⟩) 7 7, .slice none 0 0, .slice none 0 0, .slice none 0 0] 66)).alloc (.cells #[.slice n.ao n.len n.cap, .slice g.ao g.len g.cap, .slice (some ⟨u5.heap.size, 0, none⟩) 1 1] 28)).alloc (.cells #[.int .i64 1, .int .i64 0, .slice none 0 0] 31)).alloc (.cells #[.int .i64 20, .int .i64 1, .int .i64 0] 34)) from ⟨BB, ⟨by omega, by omega, by omega, by omega⟩, SS 0 (by simp), SS 1 (by simp), SS 2 (by simp), SS 3 (by simp)⟩)
  clear BB SS rl rf
  generalize (((u5.alloc (.cells #[.int .i64 1, .int .i64 0, .slice none 0 0, .int .i64 0, .int .i64 0, .int .i64 1, .int .i64 0, .slice none 0 0, .int .i64 0, .int .i64 0, .slice none 0 0, .int .i64 0, .int .i64 0, .int .i64 1, .slice (some ⟨S, 0, none⟩) 7 7, .slice none 0 0, .slice none 0 0, .slice none 0 0] 66)).alloc (.cells #[.slice n.ao n.len n.cap, .slice g.ao g.len g.cap, .slice (some ⟨u5.heap.size, 0, none⟩) 1 1] 28)).alloc (.cells #[.int .i64 1, .int .i64 0, .slice none 0 0] 31)).alloc (.cells #[.int .i64 20, .int .i64 1, .int .i64 0] 34) = u9 at *
  obtain ⟨k, m, ok, hk, hm, hE, hR⟩ := both_reckI op a b HI.out.2.1
  have HE := hyd hE
  have HR := hyd hR
  have HKM := hyd (show I64 k ∧ I64 m from ⟨hk, hm⟩)
  clear hE hR hk hm

  cases ok
  · have hr := run_no u5.heap.size S H6.out HI.out.2.1 HI.out.2.2 (by exact ⟨HLy.out.1.1.l.nat.kept H9.out.bl, HLy.out.1.1.l.gat.kept H9.out.bl, HLy.out.1.1.l.fd, HLy.out.1.1.l.one, HLy.out.1.1.l.nm, HLy.out.1.1.l.le, HLy.out.1.1.l.rows⟩ : Lt1 n g u9) (fun i hi => up H9.out.bl (HLy.out.1.2.1 i hi)) (HLy.out.1.2.2.kept H9.out.bl) (vCl_at (HLy.out.1.1.l.nat.kept H9.out.bl) (HLy.out.1.1.l.gat.kept H9.out.bl) H9.out.fs (vFn_at ⟨by omega, by omega⟩ (lawC_at hop HI.out.2.1 HI.out.2.2 (HLy.out.1.1.s.kept H9.out.bl)) (nilRw_at _ _ _ _ _))) HE.out
    have c0 := H9.out.c.cell 0 rfl
    have c1 := H9.out.c.cell 1 rfl
    have c2 := H9.out.c.cell 2 rfl
    have a0 := H9.out.a.cell 0 rfl
    have a1 := H9.out.a.cell 1 rfl
    have a2 := H9.out.a.cell 2 rfl
    have m0 := H9.out.m.cell 0 rfl
    have m1 := H9.out.m.cell 1 rfl
    have m2 := H9.out.m.cell 2 rfl
    go_wp2_with fail
    refine hr.mono ?_
    rintro _ u10 ⟨⟨t1, q1, o1, r1, rfl⟩, hb⟩
    have H10 := hyd (H9.out.kept hb)
    clear hr hb H9
    clear c0 c1 c2 a0 a1 a2 m0 m1 m2
    go_upto_region 10 with fail
    have b11 := below_alloc u10 (.cells #[.int .i64 2, .int .i64 1, .int .i64 0, .slice none 0 0, .slice t1 0 q1, .slice o1 0 r1, .int .i64 3] 42)
    have H11 := hyd (show (L6 n g u5 u5.heap.size (u5.heap.size + 1) (u5.heap.size + 1 + 1) (u5.heap.size + 1 + 1 + 1) (vFn 0 (cdL S (lawC op a b)) noH).vs (u10.alloc (.cells #[.int .i64 2, .int .i64 1, .int .i64 0, .slice none 0 0, .slice t1 0 q1, .slice o1 0 r1, .int .i64 3] 42)) ∧ u5.heap.size < u10.heap.size) ∧ Blk (u10.alloc (.cells #[.int .i64 2, .int .i64 1, .int .i64 0, .slice none 0 0, .slice t1 0 q1, .slice o1 0 r1, .int .i64 3] 42)) u10.heap.size [.int .i64 2, .int .i64 1, .int .i64 0, .slice none 0 0, .slice t1 0 q1, .slice o1 0 r1, .int .i64 3] 42 from ⟨⟨H10.out.kept b11, H10.out.fs.lt⟩, Blk.new u10 _ _⟩)
    clear b11 H10
    generalize u10.alloc (.cells #[.int .i64 2, .int .i64 1, .int .i64 0, .slice none 0 0, .slice t1 0 q1, .slice o1 0 r1, .int .i64 3] 42) = u11 at *
    generalize u10.heap.size = O at *
    have c2 := H11.out.1.1.c.cell 2 rfl
    go_upto_region 11 with (refine wpList_store1 rfl 62 (.tmp 64) (.tmp 62) rfl rfl u5.heap.size 15 (.slice (some ⟨u11.heap.size, 0, none⟩) 1 1) _ _ (by kernel_rfl) (by kernel_rfl) (store_one _ _ (by kernel_rfl) rfl rfl _ _) (H11.out.1.1.fs.kept (below_alloc u11 _)) (by show (15 : Nat) < 18; omega) ?_; intro u12 W12)

    have b12 := below_alloc u11 (.cells #[.int .i64 0, .int .i64 4, .int .i64 4] 68)
    have hfs : Blk u12 u5.heap.size (vFn 0 (cdL S (lawC op a b)) (hdL u11.heap.size [⟨0, 4, 4⟩])).vs 66 := W12.blk
    have hlO := H11.out.2.lt
    have h11 := H11.out.1.1.kept b12
    have HH0 := hyd (show Blk u12 u11.heap.size [.int .i64 0, .int .i64 4, .int .i64 4] 68 from W12.keep (Blk.new u11 _ _) (by have := H11.out.1.2; omega))
    have H12 := hyd (show L6 n g u5 u5.heap.size (u5.heap.size + 1) (u5.heap.size + 1 + 1) (u5.heap.size + 1 + 1 + 1) (vFn 0 (cdL S (lawC op a b)) (hdL u11.heap.size [⟨0, 4, 4⟩])).vs u12 ∧ Blk u12 O [.int .i64 2, .int .i64 1, .int .i64 0, .slice none 0 0, .slice t1 0 q1, .slice o1 0 r1, .int .i64 3] 42 from ⟨⟨W12.below (Nat.le_refl _) h11.bl, h11.le, hfs, W12.keep h11.c (by omega), W12.keep h11.a (by omega), W12.keep h11.m (by omega)⟩, W12.keep (H11.out.2.kept b12) (by have := H11.out.1.2; omega)⟩)
    clear b12 hfs hlO h11 W12 H11 c2
    generalize u11.heap.size = H at *
    have HH := HH0
    clear HH0
    have hr := run_hn u5.heap.size S H6.out HI.out.2.1 HI.out.2.2 (by exact ⟨HLy.out.1.1.l.nat.kept H12.out.1.bl, HLy.out.1.1.l.gat.kept H12.out.1.bl, HLy.out.1.1.l.fd, HLy.out.1.1.l.one, HLy.out.1.1.l.nm, HLy.out.1.1.l.le, HLy.out.1.1.l.rows⟩ : Lt1 n g u12) (fun i hi => up H12.out.1.bl (HLy.out.1.2.1 i hi)) (HLy.out.1.2.2.kept H12.out.1.bl) H (vCl_at (HLy.out.1.1.l.nat.kept H12.out.1.bl) (HLy.out.1.1.l.gat.kept H12.out.1.bl) H12.out.1.fs (vFn_at ⟨by omega, by omega⟩ (lawC_at hop HI.out.2.1 HI.out.2.2 (HLy.out.1.1.s.kept H12.out.1.bl)) (hdL_at HH.out))) HE.out
    have c0 := H12.out.1.c.cell 0 rfl
    have c1 := H12.out.1.c.cell 1 rfl
    have c2 := H12.out.1.c.cell 2 rfl
    have a0 := H12.out.1.a.cell 0 rfl
    have a1 := H12.out.1.a.cell 1 rfl
    have a2 := H12.out.1.a.cell 2 rfl
    have m0 := H12.out.1.m.cell 0 rfl
    have m1 := H12.out.1.m.cell 1 rfl
    have m2 := H12.out.1.m.cell 2 rfl
    go_wp2_with fail
    refine hr.mono ?_
    rintro _ u13 ⟨⟨t2, q2, o2, r2, rfl⟩, hb⟩
    have H13 := hyd (show Below u5.heap.size u5 u13 ∧ Blk u13 O [.int .i64 2, .int .i64 1, .int .i64 0, .slice none 0 0, .slice t1 0 q1, .slice o1 0 r1, .int .i64 3] 42 from ⟨Below.next H12.out.1.bl hb, H12.out.2.kept hb⟩)
    clear hr hb H12 HH
    clear c0 c1 c2 a0 a1 a2 m0 m1 m2
    go_upto_region 12 with fail
    have b14 := below_alloc u13 (.cells #[.int .i64 1, .int .i64 1, .int .i64 77, .slice none 0 0, .slice t2 0 q2, .slice o2 0 r2, .int .i64 6] 42)
    have H14 := hyd (show (Below u5.heap.size u5 (u13.alloc (.cells #[.int .i64 1, .int .i64 1, .int .i64 77, .slice none 0 0, .slice t2 0 q2, .slice o2 0 r2, .int .i64 6] 42)) ∧ Blk (u13.alloc (.cells #[.int .i64 1, .int .i64 1, .int .i64 77, .slice none 0 0, .slice t2 0 q2, .slice o2 0 r2, .int .i64 6] 42)) O [.int .i64 2, .int .i64 1, .int .i64 0, .slice none 0 0, .slice t1 0 q1, .slice o1 0 r1, .int .i64 3] 42) ∧ Blk (u13.alloc (.cells #[.int .i64 1, .int .i64 1, .int .i64 77, .slice none 0 0, .slice t2 0 q2, .slice o2 0 r2, .int .i64 6] 42)) u13.heap.size [.int .i64 1, .int .i64 1, .int .i64 77, .slice none 0 0, .slice t2 0 q2, .slice o2 0 r2, .int .i64 6] 42 from ⟨⟨Below.next H13.out.1 b14, H13.out.2.kept b14⟩, Blk.new u13 _ _⟩)
    clear b14 H13
    generalize u13.alloc (.cells #[.int .i64 1, .int .i64 1, .int .i64 77, .slice none 0 0, .slice t2 0 q2, .slice o2 0 r2, .int .i64 6] 42) = u14 at *
    generalize u13.heap.size = P at *
    go_wp2_with fail
    refine (HR.out u14).mono ?_
    rintro _ u15 ⟨rfl, hb⟩
    have H15 := hyd (show (Below u5.heap.size u5 u15 ∧ Blk u15 O [.int .i64 2, .int .i64 1, .int .i64 0, .slice none 0 0, .slice t1 0 q1, .slice o1 0 r1, .int .i64 3] 42) ∧ Blk u15 P [.int .i64 1, .int .i64 1, .int .i64 77, .slice none 0 0, .slice t2 0 q2, .slice o2 0 r2, .int .i64 6] 42 from ⟨⟨Below.next H14.out.1.1 hb, H14.out.1.2.kept hb⟩, H14.out.2.kept hb⟩)
    clear hb H14
    go_upto_region 13 with fail
    have b16 := below_alloc u15 (.cells #[.int .i64 k, .int .i64 m, .slice none 0 0] 31)
    have H16 := hyd (show ((Below u5.heap.size u5 (u15.alloc (.cells #[.int .i64 k, .int .i64 m, .slice none 0 0] 31)) ∧ Blk (u15.alloc (.cells #[.int .i64 k, .int .i64 m, .slice none 0 0] 31)) O [.int .i64 2, .int .i64 1, .int .i64 0, .slice none 0 0, .slice t1 0 q1, .slice o1 0 r1, .int .i64 3] 42) ∧ Blk (u15.alloc (.cells #[.int .i64 k, .int .i64 m, .slice none 0 0] 31)) P [.int .i64 1, .int .i64 1, .int .i64 77, .slice none 0 0, .slice t2 0 q2, .slice o2 0 r2, .int .i64 6] 42) ∧ Blk (u15.alloc (.cells #[.int .i64 k, .int .i64 m, .slice none 0 0] 31)) u15.heap.size [.int .i64 k, .int .i64 m, .slice none 0 0] 31 from ⟨⟨⟨Below.next H15.out.1.1 b16, H15.out.1.2.kept b16⟩, H15.out.2.kept b16⟩, Blk.new u15 _ _⟩)
    clear b16 H15
    generalize u15.alloc (.cells #[.int .i64 k, .int .i64 m, .slice none 0 0] 31) = u16 at *
    generalize u15.heap.size = V at *
    have x0 := H16.out.1.1.2.cell 0 rfl
    have x1 := H16.out.1.1.2.cell 1 rfl
    have x2 := H16.out.1.1.2.cell 2 rfl
    have x3 := H16.out.1.1.2.cell 3 rfl
    have x4 := H16.out.1.1.2.cell 4 rfl
    have x5 := H16.out.1.1.2.cell 5 rfl
    have x6 := H16.out.1.1.2.cell 6 rfl
    have y0 := H16.out.1.2.cell 0 rfl
    have y1 := H16.out.1.2.cell 1 rfl
    have y2 := H16.out.1.2.cell 2 rfl
    have y3 := H16.out.1.2.cell 3 rfl
    have y4 := H16.out.1.2.cell 4 rfl
    have y5 := H16.out.1.2.cell 5 rfl
    have y6 := H16.out.1.2.cell 6 rfl
    go_wp2
    go_ret
    exact ⟨rfl, Below.next HLy.out.1.1.bl H16.out.1.1.1⟩
  · have hr := run_ok u5.heap.size S H6.out HI.out.2.1 HI.out.2.2 (by exact ⟨HLy.out.1.1.l.nat.kept H9.out.bl, HLy.out.1.1.l.gat.kept H9.out.bl, HLy.out.1.1.l.fd, HLy.out.1.1.l.one, HLy.out.1.1.l.nm, HLy.out.1.1.l.le, HLy.out.1.1.l.rows⟩ : Lt1 n g u9) (fun i hi => up H9.out.bl (HLy.out.1.2.1 i hi)) (HLy.out.1.2.2.kept H9.out.bl) noH (by show (0 : Nat) ≤ 2000; omega) (fun i hi => absurd hi (Nat.not_lt_zero _)) (vCl_at (HLy.out.1.1.l.nat.kept H9.out.bl) (HLy.out.1.1.l.gat.kept H9.out.bl) H9.out.fs (vFn_at ⟨by omega, by omega⟩ (lawC_at hop HI.out.2.1 HI.out.2.2 (HLy.out.1.1.s.kept H9.out.bl)) (nilRw_at _ _ _ _ _))) HKM.out.1 HKM.out.2 HE.out
    have c0 := H9.out.c.cell 0 rfl
    have c1 := H9.out.c.cell 1 rfl
    have c2 := H9.out.c.cell 2 rfl
    have a0 := H9.out.a.cell 0 rfl
    have a1 := H9.out.a.cell 1 rfl
    have a2 := H9.out.a.cell 2 rfl
    have m0 := H9.out.m.cell 0 rfl
    have m1 := H9.out.m.cell 1 rfl
    have m2 := H9.out.m.cell 2 rfl
    go_wp2_with fail
    refine hr.mono ?_
    rintro _ u10 ⟨⟨t1, q1, o1, r1, rfl⟩, hb⟩
    have H10 := hyd (H9.out.kept hb)
    clear hr hb H9
    clear c0 c1 c2 a0 a1 a2 m0 m1 m2
    go_upto_region 10 with fail
    have b11 := below_alloc u10 (.cells #[.int .i64 1, .int .i64 k, .int .i64 m, .slice none 0 0, .slice t1 0 q1, .slice o1 0 r1, .int .i64 4] 42)
    have H11 := hyd (show (L6 n g u5 u5.heap.size (u5.heap.size + 1) (u5.heap.size + 1 + 1) (u5.heap.size + 1 + 1 + 1) (vFn 0 (cdL S (lawC op a b)) noH).vs (u10.alloc (.cells #[.int .i64 1, .int .i64 k, .int .i64 m, .slice none 0 0, .slice t1 0 q1, .slice o1 0 r1, .int .i64 4] 42)) ∧ u5.heap.size < u10.heap.size) ∧ Blk (u10.alloc (.cells #[.int .i64 1, .int .i64 k, .int .i64 m, .slice none 0 0, .slice t1 0 q1, .slice o1 0 r1, .int .i64 4] 42)) u10.heap.size [.int .i64 1, .int .i64 k, .int .i64 m, .slice none 0 0, .slice t1 0 q1, .slice o1 0 r1, .int .i64 4] 42 from ⟨⟨H10.out.kept b11, H10.out.fs.lt⟩, Blk.new u10 _ _⟩)
    clear b11 H10
    generalize u10.alloc (.cells #[.int .i64 1, .int .i64 k, .int .i64 m, .slice none 0 0, .slice t1 0 q1, .slice o1 0 r1, .int .i64 4] 42) = u11 at *
    generalize u10.heap.size = O at *
    have c2 := H11.out.1.1.c.cell 2 rfl
    go_upto_region 11 with (refine wpList_store1 rfl 62 (.tmp 64) (.tmp 62) rfl rfl u5.heap.size 15 (.slice (some ⟨u11.heap.size, 0, none⟩) 1 1) _ _ (by kernel_rfl) (by kernel_rfl) (store_one _ _ (by kernel_rfl) rfl rfl _ _) (H11.out.1.1.fs.kept (below_alloc u11 _)) (by show (15 : Nat) < 18; omega) ?_; intro u12 W12)

    have b12 := below_alloc u11 (.cells #[.int .i64 0, .int .i64 4, .int .i64 4] 68)
    have hfs : Blk u12 u5.heap.size (vFn 0 (cdL S (lawC op a b)) (hdL u11.heap.size [⟨0, 4, 4⟩])).vs 66 := W12.blk
    have hlO := H11.out.2.lt
    have h11 := H11.out.1.1.kept b12
    have HH0 := hyd (show Blk u12 u11.heap.size [.int .i64 0, .int .i64 4, .int .i64 4] 68 from W12.keep (Blk.new u11 _ _) (by have := H11.out.1.2; omega))
    have H12 := hyd (show L6 n g u5 u5.heap.size (u5.heap.size + 1) (u5.heap.size + 1 + 1) (u5.heap.size + 1 + 1 + 1) (vFn 0 (cdL S (lawC op a b)) (hdL u11.heap.size [⟨0, 4, 4⟩])).vs u12 ∧ Blk u12 O [.int .i64 1, .int .i64 k, .int .i64 m, .slice none 0 0, .slice t1 0 q1, .slice o1 0 r1, .int .i64 4] 42 from ⟨⟨W12.below (Nat.le_refl _) h11.bl, h11.le, hfs, W12.keep h11.c (by omega), W12.keep h11.a (by omega), W12.keep h11.m (by omega)⟩, W12.keep (H11.out.2.kept b12) (by have := H11.out.1.2; omega)⟩)
    clear b12 hfs hlO h11 W12 H11 c2
    generalize u11.heap.size = H at *
    have HH := HH0
    clear HH0
    have hr := run_ok u5.heap.size S H6.out HI.out.2.1 HI.out.2.2 (by exact ⟨HLy.out.1.1.l.nat.kept H12.out.1.bl, HLy.out.1.1.l.gat.kept H12.out.1.bl, HLy.out.1.1.l.fd, HLy.out.1.1.l.one, HLy.out.1.1.l.nm, HLy.out.1.1.l.le, HLy.out.1.1.l.rows⟩ : Lt1 n g u12) (fun i hi => up H12.out.1.bl (HLy.out.1.2.1 i hi)) (HLy.out.1.2.2.kept H12.out.1.bl) (hdL H [⟨0, 4, 4⟩]) (by show (1 : Nat) ≤ 2000; omega) (fun i hi => by have hi0 : i = 0 := (by have : i < 1 := hi; omega); subst hi0; show _ = true; kernel_rfl) (vCl_at (HLy.out.1.1.l.nat.kept H12.out.1.bl) (HLy.out.1.1.l.gat.kept H12.out.1.bl) H12.out.1.fs (vFn_at ⟨by omega, by omega⟩ (lawC_at hop HI.out.2.1 HI.out.2.2 (HLy.out.1.1.s.kept H12.out.1.bl)) (hdL_at HH.out))) HKM.out.1 HKM.out.2 HE.out
    have c0 := H12.out.1.c.cell 0 rfl
    have c1 := H12.out.1.c.cell 1 rfl
    have c2 := H12.out.1.c.cell 2 rfl
    have a0 := H12.out.1.a.cell 0 rfl
    have a1 := H12.out.1.a.cell 1 rfl
    have a2 := H12.out.1.a.cell 2 rfl
    have m0 := H12.out.1.m.cell 0 rfl
    have m1 := H12.out.1.m.cell 1 rfl
    have m2 := H12.out.1.m.cell 2 rfl
    go_wp2_with fail
    refine hr.mono ?_
    rintro _ u13 ⟨⟨t2, q2, o2, r2, rfl⟩, hb⟩
    have H13 := hyd (show Below u5.heap.size u5 u13 ∧ Blk u13 O [.int .i64 1, .int .i64 k, .int .i64 m, .slice none 0 0, .slice t1 0 q1, .slice o1 0 r1, .int .i64 4] 42 from ⟨Below.next H12.out.1.bl hb, H12.out.2.kept hb⟩)
    clear hr hb H12 HH
    clear c0 c1 c2 a0 a1 a2 m0 m1 m2
    go_upto_region 12 with fail
    have b14 := below_alloc u13 (.cells #[.int .i64 1, .int .i64 k, .int .i64 m, .slice none 0 0, .slice t2 0 q2, .slice o2 0 r2, .int .i64 4] 42)
    have H14 := hyd (show (Below u5.heap.size u5 (u13.alloc (.cells #[.int .i64 1, .int .i64 k, .int .i64 m, .slice none 0 0, .slice t2 0 q2, .slice o2 0 r2, .int .i64 4] 42)) ∧ Blk (u13.alloc (.cells #[.int .i64 1, .int .i64 k, .int .i64 m, .slice none 0 0, .slice t2 0 q2, .slice o2 0 r2, .int .i64 4] 42)) O [.int .i64 1, .int .i64 k, .int .i64 m, .slice none 0 0, .slice t1 0 q1, .slice o1 0 r1, .int .i64 4] 42) ∧ Blk (u13.alloc (.cells #[.int .i64 1, .int .i64 k, .int .i64 m, .slice none 0 0, .slice t2 0 q2, .slice o2 0 r2, .int .i64 4] 42)) u13.heap.size [.int .i64 1, .int .i64 k, .int .i64 m, .slice none 0 0, .slice t2 0 q2, .slice o2 0 r2, .int .i64 4] 42 from ⟨⟨Below.next H13.out.1 b14, H13.out.2.kept b14⟩, Blk.new u13 _ _⟩)
    clear b14 H13
    generalize u13.alloc (.cells #[.int .i64 1, .int .i64 k, .int .i64 m, .slice none 0 0, .slice t2 0 q2, .slice o2 0 r2, .int .i64 4] 42) = u14 at *
    generalize u13.heap.size = P at *
    go_wp2_with fail
    refine (HR.out u14).mono ?_
    rintro _ u15 ⟨rfl, hb⟩
    have H15 := hyd (show (Below u5.heap.size u5 u15 ∧ Blk u15 O [.int .i64 1, .int .i64 k, .int .i64 m, .slice none 0 0, .slice t1 0 q1, .slice o1 0 r1, .int .i64 4] 42) ∧ Blk u15 P [.int .i64 1, .int .i64 k, .int .i64 m, .slice none 0 0, .slice t2 0 q2, .slice o2 0 r2, .int .i64 4] 42 from ⟨⟨Below.next H14.out.1.1 hb, H14.out.1.2.kept hb⟩, H14.out.2.kept hb⟩)
    clear hb H14
    go_upto_region 13 with fail
    have b16 := below_alloc u15 (.cells #[.int .i64 k, .int .i64 m, .slice none 0 0] 31)
    have H16 := hyd (show ((Below u5.heap.size u5 (u15.alloc (.cells #[.int .i64 k, .int .i64 m, .slice none 0 0] 31)) ∧ Blk (u15.alloc (.cells #[.int .i64 k, .int .i64 m, .slice none 0 0] 31)) O [.int .i64 1, .int .i64 k, .int .i64 m, .slice none 0 0, .slice t1 0 q1, .slice o1 0 r1, .int .i64 4] 42) ∧ Blk (u15.alloc (.cells #[.int .i64 k, .int .i64 m, .slice none 0 0] 31)) P [.int .i64 1, .int .i64 k, .int .i64 m, .slice none 0 0, .slice t2 0 q2, .slice o2 0 r2, .int .i64 4] 42) ∧ Blk (u15.alloc (.cells #[.int .i64 k, .int .i64 m, .slice none 0 0] 31)) u15.heap.size [.int .i64 k, .int .i64 m, .slice none 0 0] 31 from ⟨⟨⟨Below.next H15.out.1.1 b16, H15.out.1.2.kept b16⟩, H15.out.2.kept b16⟩, Blk.new u15 _ _⟩)
    clear b16 H15
    generalize u15.alloc (.cells #[.int .i64 k, .int .i64 m, .slice none 0 0] 31) = u16 at *
    generalize u15.heap.size = V at *
    have x0 := H16.out.1.1.2.cell 0 rfl
    have x1 := H16.out.1.1.2.cell 1 rfl
    have x2 := H16.out.1.1.2.cell 2 rfl
    have x3 := H16.out.1.1.2.cell 3 rfl
    have x4 := H16.out.1.1.2.cell 4 rfl
    have x5 := H16.out.1.1.2.cell 5 rfl
    have x6 := H16.out.1.1.2.cell 6 rfl
    have v0 := H16.out.2.cell 0 rfl
    have v1 := H16.out.2.cell 1 rfl
    have v2 := H16.out.2.cell 2 rfl
    go_wp2_with fail
    refine (ev_rsame k m u16).mono ?_
    rintro _ u17 ⟨rfl, hb⟩
    have H17 := hyd (show Below u5.heap.size u5 u17 ∧ Blk u17 O [.int .i64 1, .int .i64 k, .int .i64 m, .slice none 0 0, .slice t1 0 q1, .slice o1 0 r1, .int .i64 4] 42 ∧ Blk u17 P [.int .i64 1, .int .i64 k, .int .i64 m, .slice none 0 0, .slice t2 0 q2, .slice o2 0 r2, .int .i64 4] 42 from ⟨Below.next H16.out.1.1.1 hb, H16.out.1.1.2.kept hb, H16.out.1.2.kept hb⟩)
    clear hb H16
    clear x0 x1 x2 x3 x4 x5 x6 v0 v1 v2
    have x0 := H17.out.2.1.cell 0 rfl
    have x1 := H17.out.2.1.cell 1 rfl
    have x2 := H17.out.2.1.cell 2 rfl
    have x3 := H17.out.2.1.cell 3 rfl
    have x4 := H17.out.2.1.cell 4 rfl
    have x5 := H17.out.2.1.cell 5 rfl
    have x6 := H17.out.2.1.cell 6 rfl
    have y0 := H17.out.2.2.cell 0 rfl
    have y1 := H17.out.2.2.cell 1 rfl
    have y2 := H17.out.2.2.cell 2 rfl
    have y3 := H17.out.2.2.cell 3 rfl
    have y4 := H17.out.2.2.cell 4 rfl
    have y5 := H17.out.2.2.cell 5 rfl
    have y6 := H17.out.2.2.cell 6 rfl
    go_wp2_with fail
    refine (same_out 1 k m 4 t1 q1 o1 r1 t2 q2 o2 r2 u17).mono ?_
    rintro _ u18 ⟨rfl, hb⟩
    have H18 := hyd (show Below u5.heap.size u5 u18 ∧ Blk u18 O [.int .i64 1, .int .i64 k, .int .i64 m, .slice none 0 0, .slice t1 0 q1, .slice o1 0 r1, .int .i64 4] 42 from ⟨Below.next H17.out.1 hb, H17.out.2.1.kept hb⟩)
    clear hb H17
    clear x0 y0 x1 y1 x2 y2 x3 y3 x4 y4 x5 y5 x6 y6
    have x0 := H18.out.2.cell 0 rfl
    have x1 := H18.out.2.cell 1 rfl
    have x2 := H18.out.2.cell 2 rfl
    have x3 := H18.out.2.cell 3 rfl
    have x4 := H18.out.2.cell 4 rfl
    have x5 := H18.out.2.cell 5 rfl
    have x6 := H18.out.2.cell 6 rfl
    go_wp2
    go_ret
    exact ⟨rfl, Below.next HLy.out.1.1.bl H18.out.1⟩
end Go.Proofs.YtmkncmmegjfipaaGreatDoor

/- Layer 14: what the rows say of the variables, as the walks want it. -/
namespace Go.Proofs.YtmkncmmegjfipaaGreatDoor
open Go.RowKit

def oprL : List Int := [0, 1, 2, 3, 3, 0, 0, 0, 0, 0, 0, 0, 0, 0, 0, 0, 0, 3, 0, 0, 4, 0, 0, 3, 3, 3, 0, 0]
theorem oprL_get (i : Nat) (h : i < 28) : oprL[i]? = some (opr i : Int) := by
  have := (show (List.range 28).all (fun i => oprL[i]? == some ((opr (i : Int) : Nat) : Int)) = true by decide)
  have h2 := List.all_eq_true.1 this i (List.mem_range.2 h)
  simpa using h2
theorem opr_data : (Rows.laid_palisade_class_operands : DataW Unit) = Lib.tabData .i64 oprL := by kernel_rfl
theorem Tryz.gON : Tryz.prog.globalNamed "palisade/class.operands" = some 1 := by kernel_rfl
theorem Tryz.gOTy : (Tryz.prog.globals[1]?).map (·.type) = some 188 := by kernel_rfl
/-- A table of 28 numbers, out of the head of what is laid. -/
theorem tab_head {W : World} {name : String} {g : Nat} {d : DataW Unit} {rest : List (String × DataW Unit)} {zs : List Int} (hd : d = Lib.tabData .i64 zs) (hN : Tryz.prog.globalNamed name = some g) (hT : (Tryz.prog.globals[g]?).map (·.type) = some 188) (h : laidMet Tryz.prog ((name, d) :: rest) W) : ∀ j, W.cell? ⟨g, j, none⟩ = (zs.map fun z => Value.int .i64 z)[j]? := by
  obtain ⟨ps, ⟨g0, t0, cs0, f0, p0, q0, hg0, ht0, hv0, hd0, _, _⟩, _⟩ := h
  obtain rfl := Option.some.inj (hN.symm.trans hg0)
  obtain rfl := Option.some.inj (hT.symm.trans ht0)
  rw [hd] at hd0
  have hcs := Lib.cells_of_tab Tryz.underlying188 Tryz.underlying3 (by kernel_rfl) (by kernel_rfl) hd0
  intro j
  rw [World.var?_cell hN hv0 j, ← hcs, Array.getElem?_toList]
theorem og_of_head {W : World} {rest : List (String × DataW Unit)} (h : laidMet Tryz.prog (("palisade/class.operands", Rows.laid_palisade_class_operands) :: rest) W) : Og W := fun i hi => by
  rw [tab_head opr_data Tryz.gON Tryz.gOTy h i, List.getElem?_map, oprL_get i hi]
  rfl
end Go.Proofs.YtmkncmmegjfipaaGreatDoor

/- Layer 18: what the rows say of the table of what is needed, as the walks want it. -/
namespace Go.Proofs.YtmkncmmegjfipaaGreatDoor
open Go.RowKit

/-- A table of pairs that is laid: its cells, pair for pair. -/
theorem cells_of_tab2 {H : Type} {enc : TypeId × Value → H} {P : Program} {w : World} {base : Nat} {sp : Nat → Bool} {held : Bool} {fuel : Nat} {t e i : TypeId} {n : Nat} {k : IntKind} {cs : List Value} {zs : List (List Int)} {p : List MemPlace}
    (ht : P.underlying t = some (.array n e)) (he : P.underlying e = some (.array 2 i)) (hi : P.underlying i = some (.int k)) (hci : P.cellsOf i = 1) (hce : P.cellsOf e = 2)
    (h : DataW.trod enc P w base sp held fuel t cs = some (.agg (zs.map fun z => Lib.tabData k z), p)) : ∀ j, j < n → ∃ z, zs[j]? = some z ∧ (cs.drop (j * 2)).take 2 = z.map fun x => Value.int k x := by
  cases fuel with
  | zero => simp [DataW.trod] at h
  | succ fuel =>
    simp only [DataW.trod, ht, hce] at h
    split at h
    · obtain ⟨xs, hm, hx⟩ := Option.map_eq_some_iff.1 h
      have hxs : xs.map (·.1) = zs.map fun z => (Lib.tabData k z : DataW H) := by
        have := congrArg Prod.fst hx
        simpa using this
      intro j hj
      obtain ⟨b, hb, hf⟩ := Lib.mapM_at hm j j (by simp [hj])
      have h2 : (xs.map (·.1))[j]? = some b.1 := by simp [hb]
      rw [hxs, List.getElem?_map] at h2
      obtain ⟨z, hz, hz2⟩ := Option.map_eq_some_iff.1 h2
      refine ⟨z, hz, ?_⟩
      obtain ⟨b1, b2⟩ := b
      have hz3 : b1 = Lib.tabData k z := hz2.symm
      subst hz3
      exact Lib.cells_of_tab he hi hci hce hf
    · cases h
def ndL : List (List Int) := [[0, 0], [0, 0], [0, 0], [0, 0], [-1, 0], [-1, 0], [1, 1], [1, 1], [1, 1], [1, 1], [1, 1], [1, 1], [1, 1], [2, 0], [-1, -1], [3, 0], [3, 0], [0, 0], [0, 0], [4, -1], [-1, 0], [5, 0], [5, -1], [1, 0], [0, 0], [2, 0], [1, 0], [-1, 0]]
theorem nd_data : (Rows.laid_palisade_vm_needed : DataW Unit) = .agg (ndL.map fun z => Lib.tabData .i64 z) := by kernel_rfl
theorem Tryz.gNN : Tryz.prog.globalNamed "palisade/vm.needed" = some 0 := by kernel_rfl
theorem Tryz.gNTy : (Tryz.prog.globals[0]?).map (·.type) = some 163 := by kernel_rfl
/-- What stands in it. -/
theorem nd_of_tail {W : World} {p : String × DataW Unit} {rest : List (String × DataW Unit)} (h : laidMet Tryz.prog (p :: ("palisade/vm.needed", Rows.laid_palisade_vm_needed) :: rest) W) : ∀ (j : Nat) (a b : Int), ndL[j]? = some [a, b] → Nd2 W j a b := by
  have h1 := h.tail
  obtain ⟨ps, ⟨g0, t0, cs0, f0, p0, q0, hg0, ht0, hv0, hd0, _, _⟩, _⟩ := h1
  obtain rfl := Option.some.inj (Tryz.gNN.symm.trans hg0)
  obtain rfl := Option.some.inj (Tryz.gNTy.symm.trans ht0)
  rw [nd_data] at hd0
  have hcs := cells_of_tab2 Tryz.underlying163 Tryz.underlying100 Tryz.underlying3 (by kernel_rfl) (by kernel_rfl) hd0
  intro j a b hj
  have hj28 : j < 28 := (List.getElem?_eq_some_iff.1 hj).1
  obtain ⟨z, hz, hc⟩ := hcs j hj28
  rw [hj] at hz
  obtain rfl := Option.some.inj hz
  intro i v hv
  have hi : i < 2 := (List.getElem?_eq_some_iff.1 hv).1
  have e : ((cs0.toList.drop (j * 2)).take 2)[i]? = some v := by rw [hc]; exact hv
  rw [World.var?_cell Tryz.gNN hv0, ← Array.getElem?_toList]
  rw [List.getElem?_take, if_pos hi, List.getElem?_drop] at e
  exact e
theorem ng_of_tail {W : World} {p : String × DataW Unit} {rest : List (String × DataW Unit)} (h : laidMet Tryz.prog (p :: ("palisade/vm.needed", Rows.laid_palisade_vm_needed) :: rest) W) : Ng W := by
  have hn := nd_of_tail h
  refine ⟨hn 1 0 0 rfl, hn 3 0 0 rfl, hn 5 (-1) 0 rfl, hn 27 (-1) 0 rfl, fun k h6 h12 => hn k 1 1 ?_⟩
  have : k = 6 ∨ k = 7 ∨ k = 8 ∨ k = 9 ∨ k = 10 ∨ k = 11 ∨ k = 12 := by omega
  rcases this with rfl | rfl | rfl | rfl | rfl | rfl | rfl <;> rfl
end Go.Proofs.YtmkncmmegjfipaaGreatDoor
