/- Layer 18: do, Op by Op. (By tools/mkvmdo.py.) -/
import Derived.Test.YtmkncmmegjfipaaGreatDoorP22
namespace Go.Proofs.YtmkncmmegjfipaaGreatDoor
open Go Go.RowKit

/-- What is needed of an Op's row of the table. -/
def Nd2 (w : World) (k : Nat) (a b : Int) : Prop := w.rangeAt 0 (k * 2) [.int .i64 a, .int .i64 b]
set_option maxRecDepth 100000 in
set_option maxHeartbeats 8000000 in
theorem do_1 {B : Nat} {ρ : Nat → Nat} {w : World} (p : Value) (x : In) (a b : Vl) (S1 : (Nat → Nat) → World → Prop) (P : World → Prop) (hx : x.op = 1) (hN : Nd2 w 1 0 0)
    (hT : ∀ u, Below w.heap.size w u → Calls Tryz.prog 108 #[p, .agg #[.int .i64 0, .int .i64 0]] u fun e u' => e = .returned (.tuple #[.agg #[.int .i64 a.k, .int .i64 a.m, .slice a.ao a.len a.cap], .agg #[.int .i64 b.k, .int .i64 b.m, .slice b.ao b.len b.cap], .bool true]) ∧ ∃ ρ2, S1 ρ2 u' ∧ Ch (fun x => x = 2) (upd ρ w.heap.size 5) ρ2 u u')
    (hS1 : ∀ ρ2 u u', S1 ρ2 u → Below u.heap.size u u' → S1 ρ2 u')
    (hF : ∀ ρ2 u, S1 ρ2 u → Ch (fun x => x = 2) ρ ρ2 w u → Calls Tryz.prog 109 #[.pointer (some ⟨B, 0, none⟩), p, .agg #[.int .i64 1, .int .i64 x.a, .slice none 0 0]] u fun e u' => e = .returned (.tuple #[]) ∧ P u') :
    Calls Tryz.prog 72 #[.pointer (some ⟨B, 0, none⟩), p, .agg x.vs.toArray] w fun e w' => e = .returned (.tuple #[]) ∧ P w' := by
  have hxv : x.vs = [.int .i64 1, .int .i64 x.a, .int .i64 x.t.k, .int .i64 x.t.l, .slice x.t.ao x.t.len x.t.cap, .int .i64 x.t.h, .int .i64 x.t.e] := by rw [← hx]; rfl
  rw [hxv]
  have B0 := below_alloc w (.cells #[.int .i64 1, .int .i64 x.a, .int .i64 x.t.k, .int .i64 x.t.l, .slice x.t.ao x.t.len x.t.cap, .int .i64 x.t.h, .int .i64 x.t.e] 60)
  have HK := hyd (Blk.new w [.int .i64 1, .int .i64 x.a, .int .i64 x.t.k, .int .i64 x.t.l, .slice x.t.ao x.t.len x.t.cap, .int .i64 x.t.h, .int .i64 x.t.e] 60)
  have HC := hyd (Ch.fresh (R := fun x => x = 2) (ρ := ρ) 5 B0)
  have HR := hyd (upd_at ρ w.heap.size 5)
  have HT := hyd (hT _ B0)
  have hn := range_kept hN B0
  have HS := hyd hS1
  have HF := hyd hF
  have q0 := (Blk.new w [.int .i64 1, .int .i64 x.a, .int .i64 x.t.k, .int .i64 x.t.l, .slice x.t.ao x.t.len x.t.cap, .int .i64 x.t.h, .int .i64 x.t.e] 60).cell 0 rfl
  clear hx hxv hN hT hS1 hF B0
  generalize upd ρ w.heap.size 5 = ρ1 at *
  go_enter Tryz.func72, Tryz.ntmps72
  go_upto_region 1 with fail
  have HK1 : Hid (Blk (w.alloc (.cells #[.int .i64 1, .int .i64 x.a, .int .i64 x.t.k, .int .i64 x.t.l, .slice x.t.ao x.t.len x.t.cap, .int .i64 x.t.h, .int .i64 x.t.e] 60)) w.heap.size [.int .i64 1, .int .i64 x.a, .int .i64 x.t.k, .int .i64 x.t.l, .slice x.t.ao x.t.len x.t.cap, .int .i64 x.t.h, .int .i64 x.t.e] 60) := HK.out
  have q0' : (w.alloc (.cells #[.int .i64 1, .int .i64 x.a, .int .i64 x.t.k, .int .i64 x.t.l, .slice x.t.ao x.t.len x.t.cap, .int .i64 x.t.h, .int .i64 x.t.e] 60)).cell? ⟨w.heap.size, 0, none⟩ = some (.int .i64 1) := q0
  clear HK q0
  generalize w.alloc (.cells #[.int .i64 1, .int .i64 x.a, .int .i64 x.t.k, .int .i64 x.t.l, .slice x.t.ao x.t.len x.t.cap, .int .i64 x.t.h, .int .i64 x.t.e] 60) = u0 at *
  generalize w.heap.size = BX at *
  go_wp2_with (refine wpList_load_mid rfl 100 (.tmp 13) rfl 0 2 (by kernel_rfl) [.int .i64 0, .int .i64 0] _ hn Tryz.underlying100 rfl (by kernel_rfl) ?_)
  refine HT.out.mono ?_
  rintro _ u1 ⟨rfl, ρ2, h1, h2⟩
  have HS1 := hyd h1
  have HC1 := hyd (HC.out.trans h2)
  have HK2 := hyd (h2.blk HK1.out (by rw [HR.out]; decide))
  clear h1 h2 HT HC HK1 hn q0'
  go_upto_region 2 with fail
  have b1 := below_alloc u1 (.cells #[.int .i64 a.k, .int .i64 a.m, .slice a.ao a.len a.cap] 31)
  have sz1 : (u1.alloc (.cells #[.int .i64 a.k, .int .i64 a.m, .slice a.ao a.len a.cap] 31)).heap.size = u1.heap.size + 1 := by simp
  have Ba := Blk.new u1 [.int .i64 a.k, .int .i64 a.m, .slice a.ao a.len a.cap] 31
  have b2 := below_alloc (u1.alloc (.cells #[.int .i64 a.k, .int .i64 a.m, .slice a.ao a.len a.cap] 31)) (.cells #[.int .i64 b.k, .int .i64 b.m, .slice b.ao b.len b.cap] 31)
  have Bb := Blk.new (u1.alloc (.cells #[.int .i64 a.k, .int .i64 a.m, .slice a.ao a.len a.cap] 31)) [.int .i64 b.k, .int .i64 b.m, .slice b.ao b.len b.cap] 31
  rw [sz1] at Bb
  have Ba2 := Ba.kept b2
  have hb := Below.next b1 b2
  clear b1 b2 Ba sz1
  have HS2 := hyd (HS.out _ _ _ HS1.out hb)
  have HC2 := hyd (HC1.out.trans (Ch.of_below hb))
  have HK3 := HK2.out.kept hb
  have q0 := HK3.cell 0 rfl
  have q1 := HK3.cell 1 rfl
  have a0 := Ba2.cell 0 rfl
  have a1 := Ba2.cell 1 rfl
  have a2 := Ba2.cell 2 rfl
  have b0 := Bb.cell 0 rfl
  have b1 := Bb.cell 1 rfl
  have b2 := Bb.cell 2 rfl
  have q0 : ((u1.alloc (.cells #[.int .i64 a.k, .int .i64 a.m, .slice a.ao a.len a.cap] 31)).alloc (.cells #[.int .i64 b.k, .int .i64 b.m, .slice b.ao b.len b.cap] 31)).cell? ⟨BX, 0, none⟩ = some (.int .i64 1) := q0
  have a0 : ((u1.alloc (.cells #[.int .i64 a.k, .int .i64 a.m, .slice a.ao a.len a.cap] 31)).alloc (.cells #[.int .i64 b.k, .int .i64 b.m, .slice b.ao b.len b.cap] 31)).cell? ⟨u1.heap.size, 0, none⟩ = some (.int .i64 a.k) := a0
  clear hb HK3 Ba2 Bb HS1 HC1 HK2 HS
  generalize (u1.alloc (.cells #[.int .i64 a.k, .int .i64 a.m, .slice a.ao a.len a.cap] 31)).alloc (.cells #[.int .i64 b.k, .int .i64 b.m, .slice b.ao b.len b.cap] 31) = u2 at *
  generalize u1.heap.size + 1 = BB at *
  generalize u1.heap.size = BA at *
  go_wp2_with fail
  refine (HF.out _ _ HS2.out HC2.out).mono ?_
  rintro _ u3 ⟨rfl, h3⟩
  have HP := hyd h3
  clear h3 HF HS2 HC2 q0 q1 a0 a1 a2 b0 b1 b2
  go_wp2
  go_end0
  exact ⟨rfl, HP.out⟩
set_option maxRecDepth 100000 in
set_option maxHeartbeats 8000000 in
theorem do_3 {B : Nat} {ρ : Nat → Nat} {w : World} (p : Value) (x : In) (a b : Vl) (S1 : (Nat → Nat) → World → Prop) (P : World → Prop) (hx : x.op = 3) (hN : Nd2 w 3 0 0)
    (hT : ∀ u, Below w.heap.size w u → Calls Tryz.prog 108 #[p, .agg #[.int .i64 0, .int .i64 0]] u fun e u' => e = .returned (.tuple #[.agg #[.int .i64 a.k, .int .i64 a.m, .slice a.ao a.len a.cap], .agg #[.int .i64 b.k, .int .i64 b.m, .slice b.ao b.len b.cap], .bool true]) ∧ ∃ ρ2, S1 ρ2 u' ∧ Ch (fun x => x = 2) (upd ρ w.heap.size 5) ρ2 u u')
    (hS1 : ∀ ρ2 u u', S1 ρ2 u → Below u.heap.size u u' → S1 ρ2 u')
    (hF : ∀ ρ2 u, S1 ρ2 u → Ch (fun x => x = 2) ρ ρ2 w u → Calls Tryz.prog 110 #[.pointer (some ⟨B, 0, none⟩), p, .int .i64 x.a] u fun e u' => e = .returned (.tuple #[]) ∧ P u') :
    Calls Tryz.prog 72 #[.pointer (some ⟨B, 0, none⟩), p, .agg x.vs.toArray] w fun e w' => e = .returned (.tuple #[]) ∧ P w' := by
  have hxv : x.vs = [.int .i64 3, .int .i64 x.a, .int .i64 x.t.k, .int .i64 x.t.l, .slice x.t.ao x.t.len x.t.cap, .int .i64 x.t.h, .int .i64 x.t.e] := by rw [← hx]; rfl
  rw [hxv]
  have B0 := below_alloc w (.cells #[.int .i64 3, .int .i64 x.a, .int .i64 x.t.k, .int .i64 x.t.l, .slice x.t.ao x.t.len x.t.cap, .int .i64 x.t.h, .int .i64 x.t.e] 60)
  have HK := hyd (Blk.new w [.int .i64 3, .int .i64 x.a, .int .i64 x.t.k, .int .i64 x.t.l, .slice x.t.ao x.t.len x.t.cap, .int .i64 x.t.h, .int .i64 x.t.e] 60)
  have HC := hyd (Ch.fresh (R := fun x => x = 2) (ρ := ρ) 5 B0)
  have HR := hyd (upd_at ρ w.heap.size 5)
  have HT := hyd (hT _ B0)
  have hn := range_kept hN B0
  have HS := hyd hS1
  have HF := hyd hF
  have q0 := (Blk.new w [.int .i64 3, .int .i64 x.a, .int .i64 x.t.k, .int .i64 x.t.l, .slice x.t.ao x.t.len x.t.cap, .int .i64 x.t.h, .int .i64 x.t.e] 60).cell 0 rfl
  clear hx hxv hN hT hS1 hF B0
  generalize upd ρ w.heap.size 5 = ρ1 at *
  go_enter Tryz.func72, Tryz.ntmps72
  go_upto_region 1 with fail
  have HK1 : Hid (Blk (w.alloc (.cells #[.int .i64 3, .int .i64 x.a, .int .i64 x.t.k, .int .i64 x.t.l, .slice x.t.ao x.t.len x.t.cap, .int .i64 x.t.h, .int .i64 x.t.e] 60)) w.heap.size [.int .i64 3, .int .i64 x.a, .int .i64 x.t.k, .int .i64 x.t.l, .slice x.t.ao x.t.len x.t.cap, .int .i64 x.t.h, .int .i64 x.t.e] 60) := HK.out
  have q0' : (w.alloc (.cells #[.int .i64 3, .int .i64 x.a, .int .i64 x.t.k, .int .i64 x.t.l, .slice x.t.ao x.t.len x.t.cap, .int .i64 x.t.h, .int .i64 x.t.e] 60)).cell? ⟨w.heap.size, 0, none⟩ = some (.int .i64 3) := q0
  clear HK q0
  generalize w.alloc (.cells #[.int .i64 3, .int .i64 x.a, .int .i64 x.t.k, .int .i64 x.t.l, .slice x.t.ao x.t.len x.t.cap, .int .i64 x.t.h, .int .i64 x.t.e] 60) = u0 at *
  generalize w.heap.size = BX at *
  go_wp2_with (refine wpList_load_mid rfl 100 (.tmp 13) rfl 0 6 (by kernel_rfl) [.int .i64 0, .int .i64 0] _ hn Tryz.underlying100 rfl (by kernel_rfl) ?_)
  refine HT.out.mono ?_
  rintro _ u1 ⟨rfl, ρ2, h1, h2⟩
  have HS1 := hyd h1
  have HC1 := hyd (HC.out.trans h2)
  have HK2 := hyd (h2.blk HK1.out (by rw [HR.out]; decide))
  clear h1 h2 HT HC HK1 hn q0'
  go_upto_region 2 with fail
  have b1 := below_alloc u1 (.cells #[.int .i64 a.k, .int .i64 a.m, .slice a.ao a.len a.cap] 31)
  have sz1 : (u1.alloc (.cells #[.int .i64 a.k, .int .i64 a.m, .slice a.ao a.len a.cap] 31)).heap.size = u1.heap.size + 1 := by simp
  have Ba := Blk.new u1 [.int .i64 a.k, .int .i64 a.m, .slice a.ao a.len a.cap] 31
  have b2 := below_alloc (u1.alloc (.cells #[.int .i64 a.k, .int .i64 a.m, .slice a.ao a.len a.cap] 31)) (.cells #[.int .i64 b.k, .int .i64 b.m, .slice b.ao b.len b.cap] 31)
  have Bb := Blk.new (u1.alloc (.cells #[.int .i64 a.k, .int .i64 a.m, .slice a.ao a.len a.cap] 31)) [.int .i64 b.k, .int .i64 b.m, .slice b.ao b.len b.cap] 31
  rw [sz1] at Bb
  have Ba2 := Ba.kept b2
  have hb := Below.next b1 b2
  clear b1 b2 Ba sz1
  have HS2 := hyd (HS.out _ _ _ HS1.out hb)
  have HC2 := hyd (HC1.out.trans (Ch.of_below hb))
  have HK3 := HK2.out.kept hb
  have q0 := HK3.cell 0 rfl
  have q1 := HK3.cell 1 rfl
  have a0 := Ba2.cell 0 rfl
  have a1 := Ba2.cell 1 rfl
  have a2 := Ba2.cell 2 rfl
  have b0 := Bb.cell 0 rfl
  have b1 := Bb.cell 1 rfl
  have b2 := Bb.cell 2 rfl
  have q0 : ((u1.alloc (.cells #[.int .i64 a.k, .int .i64 a.m, .slice a.ao a.len a.cap] 31)).alloc (.cells #[.int .i64 b.k, .int .i64 b.m, .slice b.ao b.len b.cap] 31)).cell? ⟨BX, 0, none⟩ = some (.int .i64 3) := q0
  have a0 : ((u1.alloc (.cells #[.int .i64 a.k, .int .i64 a.m, .slice a.ao a.len a.cap] 31)).alloc (.cells #[.int .i64 b.k, .int .i64 b.m, .slice b.ao b.len b.cap] 31)).cell? ⟨u1.heap.size, 0, none⟩ = some (.int .i64 a.k) := a0
  clear hb HK3 Ba2 Bb HS1 HC1 HK2 HS
  generalize (u1.alloc (.cells #[.int .i64 a.k, .int .i64 a.m, .slice a.ao a.len a.cap] 31)).alloc (.cells #[.int .i64 b.k, .int .i64 b.m, .slice b.ao b.len b.cap] 31) = u2 at *
  generalize u1.heap.size + 1 = BB at *
  generalize u1.heap.size = BA at *
  go_wp2_with fail
  refine (HF.out _ _ HS2.out HC2.out).mono ?_
  rintro _ u3 ⟨rfl, h3⟩
  have HP := hyd h3
  clear h3 HF HS2 HC2 q0 q1 a0 a1 a2 b0 b1 b2
  go_wp2
  go_end0
  exact ⟨rfl, HP.out⟩
set_option maxRecDepth 100000 in
set_option maxHeartbeats 8000000 in
theorem do_5 {B : Nat} {ρ : Nat → Nat} {w : World} (p : Value) (x : In) (a b : Vl) (S1 : (Nat → Nat) → World → Prop) (P : World → Prop) (hx : x.op = 5) (hN : Nd2 w 5 (-1) 0)
    (hT : ∀ u, Below w.heap.size w u → Calls Tryz.prog 108 #[p, .agg #[.int .i64 (-1), .int .i64 0]] u fun e u' => e = .returned (.tuple #[.agg #[.int .i64 a.k, .int .i64 a.m, .slice a.ao a.len a.cap], .agg #[.int .i64 b.k, .int .i64 b.m, .slice b.ao b.len b.cap], .bool true]) ∧ ∃ ρ2, S1 ρ2 u' ∧ Ch (fun x => x = 2) (upd ρ w.heap.size 5) ρ2 u u')
    (hS1 : ∀ ρ2 u u', S1 ρ2 u → Below u.heap.size u u' → S1 ρ2 u')
    (hF : ∀ ρ2 u, S1 ρ2 u → Ch (fun x => x = 2) ρ ρ2 w u → P u) :
    Calls Tryz.prog 72 #[.pointer (some ⟨B, 0, none⟩), p, .agg x.vs.toArray] w fun e w' => e = .returned (.tuple #[]) ∧ P w' := by
  have hxv : x.vs = [.int .i64 5, .int .i64 x.a, .int .i64 x.t.k, .int .i64 x.t.l, .slice x.t.ao x.t.len x.t.cap, .int .i64 x.t.h, .int .i64 x.t.e] := by rw [← hx]; rfl
  rw [hxv]
  have B0 := below_alloc w (.cells #[.int .i64 5, .int .i64 x.a, .int .i64 x.t.k, .int .i64 x.t.l, .slice x.t.ao x.t.len x.t.cap, .int .i64 x.t.h, .int .i64 x.t.e] 60)
  have HK := hyd (Blk.new w [.int .i64 5, .int .i64 x.a, .int .i64 x.t.k, .int .i64 x.t.l, .slice x.t.ao x.t.len x.t.cap, .int .i64 x.t.h, .int .i64 x.t.e] 60)
  have HC := hyd (Ch.fresh (R := fun x => x = 2) (ρ := ρ) 5 B0)
  have HR := hyd (upd_at ρ w.heap.size 5)
  have HT := hyd (hT _ B0)
  have hn := range_kept hN B0
  have HS := hyd hS1
  have HF := hyd hF
  have q0 := (Blk.new w [.int .i64 5, .int .i64 x.a, .int .i64 x.t.k, .int .i64 x.t.l, .slice x.t.ao x.t.len x.t.cap, .int .i64 x.t.h, .int .i64 x.t.e] 60).cell 0 rfl
  clear hx hxv hN hT hS1 hF B0
  generalize upd ρ w.heap.size 5 = ρ1 at *
  go_enter Tryz.func72, Tryz.ntmps72
  go_upto_region 1 with fail
  have HK1 : Hid (Blk (w.alloc (.cells #[.int .i64 5, .int .i64 x.a, .int .i64 x.t.k, .int .i64 x.t.l, .slice x.t.ao x.t.len x.t.cap, .int .i64 x.t.h, .int .i64 x.t.e] 60)) w.heap.size [.int .i64 5, .int .i64 x.a, .int .i64 x.t.k, .int .i64 x.t.l, .slice x.t.ao x.t.len x.t.cap, .int .i64 x.t.h, .int .i64 x.t.e] 60) := HK.out
  have q0' : (w.alloc (.cells #[.int .i64 5, .int .i64 x.a, .int .i64 x.t.k, .int .i64 x.t.l, .slice x.t.ao x.t.len x.t.cap, .int .i64 x.t.h, .int .i64 x.t.e] 60)).cell? ⟨w.heap.size, 0, none⟩ = some (.int .i64 5) := q0
  clear HK q0
  generalize w.alloc (.cells #[.int .i64 5, .int .i64 x.a, .int .i64 x.t.k, .int .i64 x.t.l, .slice x.t.ao x.t.len x.t.cap, .int .i64 x.t.h, .int .i64 x.t.e] 60) = u0 at *
  generalize w.heap.size = BX at *
  go_wp2_with (refine wpList_load_mid rfl 100 (.tmp 13) rfl 0 10 (by kernel_rfl) [.int .i64 (-1), .int .i64 0] _ hn Tryz.underlying100 rfl (by kernel_rfl) ?_)
  refine HT.out.mono ?_
  rintro _ u1 ⟨rfl, ρ2, h1, h2⟩
  have HS1 := hyd h1
  have HC1 := hyd (HC.out.trans h2)
  have HK2 := hyd (h2.blk HK1.out (by rw [HR.out]; decide))
  clear h1 h2 HT HC HK1 hn q0'
  go_upto_region 2 with fail
  have b1 := below_alloc u1 (.cells #[.int .i64 a.k, .int .i64 a.m, .slice a.ao a.len a.cap] 31)
  have sz1 : (u1.alloc (.cells #[.int .i64 a.k, .int .i64 a.m, .slice a.ao a.len a.cap] 31)).heap.size = u1.heap.size + 1 := by simp
  have Ba := Blk.new u1 [.int .i64 a.k, .int .i64 a.m, .slice a.ao a.len a.cap] 31
  have b2 := below_alloc (u1.alloc (.cells #[.int .i64 a.k, .int .i64 a.m, .slice a.ao a.len a.cap] 31)) (.cells #[.int .i64 b.k, .int .i64 b.m, .slice b.ao b.len b.cap] 31)
  have Bb := Blk.new (u1.alloc (.cells #[.int .i64 a.k, .int .i64 a.m, .slice a.ao a.len a.cap] 31)) [.int .i64 b.k, .int .i64 b.m, .slice b.ao b.len b.cap] 31
  rw [sz1] at Bb
  have Ba2 := Ba.kept b2
  have hb := Below.next b1 b2
  clear b1 b2 Ba sz1
  have HS2 := hyd (HS.out _ _ _ HS1.out hb)
  have HC2 := hyd (HC1.out.trans (Ch.of_below hb))
  have HK3 := HK2.out.kept hb
  have q0 := HK3.cell 0 rfl
  have q1 := HK3.cell 1 rfl
  have a0 := Ba2.cell 0 rfl
  have a1 := Ba2.cell 1 rfl
  have a2 := Ba2.cell 2 rfl
  have b0 := Bb.cell 0 rfl
  have b1 := Bb.cell 1 rfl
  have b2 := Bb.cell 2 rfl
  have q0 : ((u1.alloc (.cells #[.int .i64 a.k, .int .i64 a.m, .slice a.ao a.len a.cap] 31)).alloc (.cells #[.int .i64 b.k, .int .i64 b.m, .slice b.ao b.len b.cap] 31)).cell? ⟨BX, 0, none⟩ = some (.int .i64 5) := q0
  have a0 : ((u1.alloc (.cells #[.int .i64 a.k, .int .i64 a.m, .slice a.ao a.len a.cap] 31)).alloc (.cells #[.int .i64 b.k, .int .i64 b.m, .slice b.ao b.len b.cap] 31)).cell? ⟨u1.heap.size, 0, none⟩ = some (.int .i64 a.k) := a0
  clear hb HK3 Ba2 Bb HS1 HC1 HK2 HS
  generalize (u1.alloc (.cells #[.int .i64 a.k, .int .i64 a.m, .slice a.ao a.len a.cap] 31)).alloc (.cells #[.int .i64 b.k, .int .i64 b.m, .slice b.ao b.len b.cap] 31) = u2 at *
  generalize u1.heap.size + 1 = BB at *
  generalize u1.heap.size = BA at *
  go_wp2
  go_end0
  exact ⟨rfl, HF.out _ _ HS2.out HC2.out⟩
set_option maxRecDepth 100000 in
set_option maxHeartbeats 8000000 in
theorem do_6 {B : Nat} {ρ : Nat → Nat} {w : World} (p : Value) (x : In) (a b : Vl) (S1 : (Nat → Nat) → World → Prop) (P : World → Prop) (hx : x.op = 6) (hN : Nd2 w 6 1 1)
    (hT : ∀ u, Below w.heap.size w u → Calls Tryz.prog 108 #[p, .agg #[.int .i64 1, .int .i64 1]] u fun e u' => e = .returned (.tuple #[.agg #[.int .i64 a.k, .int .i64 a.m, .slice a.ao a.len a.cap], .agg #[.int .i64 b.k, .int .i64 b.m, .slice b.ao b.len b.cap], .bool true]) ∧ ∃ ρ2, S1 ρ2 u' ∧ Ch (fun x => x = 2) (upd ρ w.heap.size 5) ρ2 u u')
    (hS1 : ∀ ρ2 u u', S1 ρ2 u → Below u.heap.size u u' → S1 ρ2 u')
    (hF : ∀ ρ2 u, S1 ρ2 u → Ch (fun x => x = 2) ρ ρ2 w u → Calls Tryz.prog 122 #[.pointer (some ⟨B, 0, none⟩), p, .int .i64 6, .int .i64 a.m, .int .i64 b.m] u fun e u' => e = .returned (.tuple #[]) ∧ P u') :
    Calls Tryz.prog 72 #[.pointer (some ⟨B, 0, none⟩), p, .agg x.vs.toArray] w fun e w' => e = .returned (.tuple #[]) ∧ P w' := by
  have hxv : x.vs = [.int .i64 6, .int .i64 x.a, .int .i64 x.t.k, .int .i64 x.t.l, .slice x.t.ao x.t.len x.t.cap, .int .i64 x.t.h, .int .i64 x.t.e] := by rw [← hx]; rfl
  rw [hxv]
  have B0 := below_alloc w (.cells #[.int .i64 6, .int .i64 x.a, .int .i64 x.t.k, .int .i64 x.t.l, .slice x.t.ao x.t.len x.t.cap, .int .i64 x.t.h, .int .i64 x.t.e] 60)
  have HK := hyd (Blk.new w [.int .i64 6, .int .i64 x.a, .int .i64 x.t.k, .int .i64 x.t.l, .slice x.t.ao x.t.len x.t.cap, .int .i64 x.t.h, .int .i64 x.t.e] 60)
  have HC := hyd (Ch.fresh (R := fun x => x = 2) (ρ := ρ) 5 B0)
  have HR := hyd (upd_at ρ w.heap.size 5)
  have HT := hyd (hT _ B0)
  have hn := range_kept hN B0
  have HS := hyd hS1
  have HF := hyd hF
  have q0 := (Blk.new w [.int .i64 6, .int .i64 x.a, .int .i64 x.t.k, .int .i64 x.t.l, .slice x.t.ao x.t.len x.t.cap, .int .i64 x.t.h, .int .i64 x.t.e] 60).cell 0 rfl
  clear hx hxv hN hT hS1 hF B0
  generalize upd ρ w.heap.size 5 = ρ1 at *
  go_enter Tryz.func72, Tryz.ntmps72
  go_upto_region 1 with fail
  have HK1 : Hid (Blk (w.alloc (.cells #[.int .i64 6, .int .i64 x.a, .int .i64 x.t.k, .int .i64 x.t.l, .slice x.t.ao x.t.len x.t.cap, .int .i64 x.t.h, .int .i64 x.t.e] 60)) w.heap.size [.int .i64 6, .int .i64 x.a, .int .i64 x.t.k, .int .i64 x.t.l, .slice x.t.ao x.t.len x.t.cap, .int .i64 x.t.h, .int .i64 x.t.e] 60) := HK.out
  have q0' : (w.alloc (.cells #[.int .i64 6, .int .i64 x.a, .int .i64 x.t.k, .int .i64 x.t.l, .slice x.t.ao x.t.len x.t.cap, .int .i64 x.t.h, .int .i64 x.t.e] 60)).cell? ⟨w.heap.size, 0, none⟩ = some (.int .i64 6) := q0
  clear HK q0
  generalize w.alloc (.cells #[.int .i64 6, .int .i64 x.a, .int .i64 x.t.k, .int .i64 x.t.l, .slice x.t.ao x.t.len x.t.cap, .int .i64 x.t.h, .int .i64 x.t.e] 60) = u0 at *
  generalize w.heap.size = BX at *
  go_wp2_with (refine wpList_load_mid rfl 100 (.tmp 13) rfl 0 12 (by kernel_rfl) [.int .i64 1, .int .i64 1] _ hn Tryz.underlying100 rfl (by kernel_rfl) ?_)
  refine HT.out.mono ?_
  rintro _ u1 ⟨rfl, ρ2, h1, h2⟩
  have HS1 := hyd h1
  have HC1 := hyd (HC.out.trans h2)
  have HK2 := hyd (h2.blk HK1.out (by rw [HR.out]; decide))
  clear h1 h2 HT HC HK1 hn q0'
  go_upto_region 2 with fail
  have b1 := below_alloc u1 (.cells #[.int .i64 a.k, .int .i64 a.m, .slice a.ao a.len a.cap] 31)
  have sz1 : (u1.alloc (.cells #[.int .i64 a.k, .int .i64 a.m, .slice a.ao a.len a.cap] 31)).heap.size = u1.heap.size + 1 := by simp
  have Ba := Blk.new u1 [.int .i64 a.k, .int .i64 a.m, .slice a.ao a.len a.cap] 31
  have b2 := below_alloc (u1.alloc (.cells #[.int .i64 a.k, .int .i64 a.m, .slice a.ao a.len a.cap] 31)) (.cells #[.int .i64 b.k, .int .i64 b.m, .slice b.ao b.len b.cap] 31)
  have Bb := Blk.new (u1.alloc (.cells #[.int .i64 a.k, .int .i64 a.m, .slice a.ao a.len a.cap] 31)) [.int .i64 b.k, .int .i64 b.m, .slice b.ao b.len b.cap] 31
  rw [sz1] at Bb
  have Ba2 := Ba.kept b2
  have hb := Below.next b1 b2
  clear b1 b2 Ba sz1
  have HS2 := hyd (HS.out _ _ _ HS1.out hb)
  have HC2 := hyd (HC1.out.trans (Ch.of_below hb))
  have HK3 := HK2.out.kept hb
  have q0 := HK3.cell 0 rfl
  have q1 := HK3.cell 1 rfl
  have a0 := Ba2.cell 0 rfl
  have a1 := Ba2.cell 1 rfl
  have a2 := Ba2.cell 2 rfl
  have b0 := Bb.cell 0 rfl
  have b1 := Bb.cell 1 rfl
  have b2 := Bb.cell 2 rfl
  have q0 : ((u1.alloc (.cells #[.int .i64 a.k, .int .i64 a.m, .slice a.ao a.len a.cap] 31)).alloc (.cells #[.int .i64 b.k, .int .i64 b.m, .slice b.ao b.len b.cap] 31)).cell? ⟨BX, 0, none⟩ = some (.int .i64 6) := q0
  have a0 : ((u1.alloc (.cells #[.int .i64 a.k, .int .i64 a.m, .slice a.ao a.len a.cap] 31)).alloc (.cells #[.int .i64 b.k, .int .i64 b.m, .slice b.ao b.len b.cap] 31)).cell? ⟨u1.heap.size, 0, none⟩ = some (.int .i64 a.k) := a0
  clear hb HK3 Ba2 Bb HS1 HC1 HK2 HS
  generalize (u1.alloc (.cells #[.int .i64 a.k, .int .i64 a.m, .slice a.ao a.len a.cap] 31)).alloc (.cells #[.int .i64 b.k, .int .i64 b.m, .slice b.ao b.len b.cap] 31) = u2 at *
  generalize u1.heap.size + 1 = BB at *
  generalize u1.heap.size = BA at *
  go_wp2_with fail
  refine (HF.out _ _ HS2.out HC2.out).mono ?_
  rintro _ u3 ⟨rfl, h3⟩
  have HP := hyd h3
  clear h3 HF HS2 HC2 q0 q1 a0 a1 a2 b0 b1 b2
  go_wp2
  go_end0
  exact ⟨rfl, HP.out⟩
set_option maxRecDepth 100000 in
set_option maxHeartbeats 8000000 in
theorem do_7 {B : Nat} {ρ : Nat → Nat} {w : World} (p : Value) (x : In) (a b : Vl) (S1 : (Nat → Nat) → World → Prop) (P : World → Prop) (hx : x.op = 7) (hN : Nd2 w 7 1 1)
    (hT : ∀ u, Below w.heap.size w u → Calls Tryz.prog 108 #[p, .agg #[.int .i64 1, .int .i64 1]] u fun e u' => e = .returned (.tuple #[.agg #[.int .i64 a.k, .int .i64 a.m, .slice a.ao a.len a.cap], .agg #[.int .i64 b.k, .int .i64 b.m, .slice b.ao b.len b.cap], .bool true]) ∧ ∃ ρ2, S1 ρ2 u' ∧ Ch (fun x => x = 2) (upd ρ w.heap.size 5) ρ2 u u')
    (hS1 : ∀ ρ2 u u', S1 ρ2 u → Below u.heap.size u u' → S1 ρ2 u')
    (hF : ∀ ρ2 u, S1 ρ2 u → Ch (fun x => x = 2) ρ ρ2 w u → Calls Tryz.prog 122 #[.pointer (some ⟨B, 0, none⟩), p, .int .i64 7, .int .i64 a.m, .int .i64 b.m] u fun e u' => e = .returned (.tuple #[]) ∧ P u') :
    Calls Tryz.prog 72 #[.pointer (some ⟨B, 0, none⟩), p, .agg x.vs.toArray] w fun e w' => e = .returned (.tuple #[]) ∧ P w' := by
  have hxv : x.vs = [.int .i64 7, .int .i64 x.a, .int .i64 x.t.k, .int .i64 x.t.l, .slice x.t.ao x.t.len x.t.cap, .int .i64 x.t.h, .int .i64 x.t.e] := by rw [← hx]; rfl
  rw [hxv]
  have B0 := below_alloc w (.cells #[.int .i64 7, .int .i64 x.a, .int .i64 x.t.k, .int .i64 x.t.l, .slice x.t.ao x.t.len x.t.cap, .int .i64 x.t.h, .int .i64 x.t.e] 60)
  have HK := hyd (Blk.new w [.int .i64 7, .int .i64 x.a, .int .i64 x.t.k, .int .i64 x.t.l, .slice x.t.ao x.t.len x.t.cap, .int .i64 x.t.h, .int .i64 x.t.e] 60)
  have HC := hyd (Ch.fresh (R := fun x => x = 2) (ρ := ρ) 5 B0)
  have HR := hyd (upd_at ρ w.heap.size 5)
  have HT := hyd (hT _ B0)
  have hn := range_kept hN B0
  have HS := hyd hS1
  have HF := hyd hF
  have q0 := (Blk.new w [.int .i64 7, .int .i64 x.a, .int .i64 x.t.k, .int .i64 x.t.l, .slice x.t.ao x.t.len x.t.cap, .int .i64 x.t.h, .int .i64 x.t.e] 60).cell 0 rfl
  clear hx hxv hN hT hS1 hF B0
  generalize upd ρ w.heap.size 5 = ρ1 at *
  go_enter Tryz.func72, Tryz.ntmps72
  go_upto_region 1 with fail
  have HK1 : Hid (Blk (w.alloc (.cells #[.int .i64 7, .int .i64 x.a, .int .i64 x.t.k, .int .i64 x.t.l, .slice x.t.ao x.t.len x.t.cap, .int .i64 x.t.h, .int .i64 x.t.e] 60)) w.heap.size [.int .i64 7, .int .i64 x.a, .int .i64 x.t.k, .int .i64 x.t.l, .slice x.t.ao x.t.len x.t.cap, .int .i64 x.t.h, .int .i64 x.t.e] 60) := HK.out
  have q0' : (w.alloc (.cells #[.int .i64 7, .int .i64 x.a, .int .i64 x.t.k, .int .i64 x.t.l, .slice x.t.ao x.t.len x.t.cap, .int .i64 x.t.h, .int .i64 x.t.e] 60)).cell? ⟨w.heap.size, 0, none⟩ = some (.int .i64 7) := q0
  clear HK q0
  generalize w.alloc (.cells #[.int .i64 7, .int .i64 x.a, .int .i64 x.t.k, .int .i64 x.t.l, .slice x.t.ao x.t.len x.t.cap, .int .i64 x.t.h, .int .i64 x.t.e] 60) = u0 at *
  generalize w.heap.size = BX at *
  go_wp2_with (refine wpList_load_mid rfl 100 (.tmp 13) rfl 0 14 (by kernel_rfl) [.int .i64 1, .int .i64 1] _ hn Tryz.underlying100 rfl (by kernel_rfl) ?_)
  refine HT.out.mono ?_
  rintro _ u1 ⟨rfl, ρ2, h1, h2⟩
  have HS1 := hyd h1
  have HC1 := hyd (HC.out.trans h2)
  have HK2 := hyd (h2.blk HK1.out (by rw [HR.out]; decide))
  clear h1 h2 HT HC HK1 hn q0'
  go_upto_region 2 with fail
  have b1 := below_alloc u1 (.cells #[.int .i64 a.k, .int .i64 a.m, .slice a.ao a.len a.cap] 31)
  have sz1 : (u1.alloc (.cells #[.int .i64 a.k, .int .i64 a.m, .slice a.ao a.len a.cap] 31)).heap.size = u1.heap.size + 1 := by simp
  have Ba := Blk.new u1 [.int .i64 a.k, .int .i64 a.m, .slice a.ao a.len a.cap] 31
  have b2 := below_alloc (u1.alloc (.cells #[.int .i64 a.k, .int .i64 a.m, .slice a.ao a.len a.cap] 31)) (.cells #[.int .i64 b.k, .int .i64 b.m, .slice b.ao b.len b.cap] 31)
  have Bb := Blk.new (u1.alloc (.cells #[.int .i64 a.k, .int .i64 a.m, .slice a.ao a.len a.cap] 31)) [.int .i64 b.k, .int .i64 b.m, .slice b.ao b.len b.cap] 31
  rw [sz1] at Bb
  have Ba2 := Ba.kept b2
  have hb := Below.next b1 b2
  clear b1 b2 Ba sz1
  have HS2 := hyd (HS.out _ _ _ HS1.out hb)
  have HC2 := hyd (HC1.out.trans (Ch.of_below hb))
  have HK3 := HK2.out.kept hb
  have q0 := HK3.cell 0 rfl
  have q1 := HK3.cell 1 rfl
  have a0 := Ba2.cell 0 rfl
  have a1 := Ba2.cell 1 rfl
  have a2 := Ba2.cell 2 rfl
  have b0 := Bb.cell 0 rfl
  have b1 := Bb.cell 1 rfl
  have b2 := Bb.cell 2 rfl
  have q0 : ((u1.alloc (.cells #[.int .i64 a.k, .int .i64 a.m, .slice a.ao a.len a.cap] 31)).alloc (.cells #[.int .i64 b.k, .int .i64 b.m, .slice b.ao b.len b.cap] 31)).cell? ⟨BX, 0, none⟩ = some (.int .i64 7) := q0
  have a0 : ((u1.alloc (.cells #[.int .i64 a.k, .int .i64 a.m, .slice a.ao a.len a.cap] 31)).alloc (.cells #[.int .i64 b.k, .int .i64 b.m, .slice b.ao b.len b.cap] 31)).cell? ⟨u1.heap.size, 0, none⟩ = some (.int .i64 a.k) := a0
  clear hb HK3 Ba2 Bb HS1 HC1 HK2 HS
  generalize (u1.alloc (.cells #[.int .i64 a.k, .int .i64 a.m, .slice a.ao a.len a.cap] 31)).alloc (.cells #[.int .i64 b.k, .int .i64 b.m, .slice b.ao b.len b.cap] 31) = u2 at *
  generalize u1.heap.size + 1 = BB at *
  generalize u1.heap.size = BA at *
  go_wp2_with fail
  refine (HF.out _ _ HS2.out HC2.out).mono ?_
  rintro _ u3 ⟨rfl, h3⟩
  have HP := hyd h3
  clear h3 HF HS2 HC2 q0 q1 a0 a1 a2 b0 b1 b2
  go_wp2
  go_end0
  exact ⟨rfl, HP.out⟩
set_option maxRecDepth 100000 in
set_option maxHeartbeats 8000000 in
theorem do_8 {B : Nat} {ρ : Nat → Nat} {w : World} (p : Value) (x : In) (a b : Vl) (S1 : (Nat → Nat) → World → Prop) (P : World → Prop) (hx : x.op = 8) (hN : Nd2 w 8 1 1)
    (hT : ∀ u, Below w.heap.size w u → Calls Tryz.prog 108 #[p, .agg #[.int .i64 1, .int .i64 1]] u fun e u' => e = .returned (.tuple #[.agg #[.int .i64 a.k, .int .i64 a.m, .slice a.ao a.len a.cap], .agg #[.int .i64 b.k, .int .i64 b.m, .slice b.ao b.len b.cap], .bool true]) ∧ ∃ ρ2, S1 ρ2 u' ∧ Ch (fun x => x = 2) (upd ρ w.heap.size 5) ρ2 u u')
    (hS1 : ∀ ρ2 u u', S1 ρ2 u → Below u.heap.size u u' → S1 ρ2 u')
    (hF : ∀ ρ2 u, S1 ρ2 u → Ch (fun x => x = 2) ρ ρ2 w u → Calls Tryz.prog 122 #[.pointer (some ⟨B, 0, none⟩), p, .int .i64 8, .int .i64 a.m, .int .i64 b.m] u fun e u' => e = .returned (.tuple #[]) ∧ P u') :
    Calls Tryz.prog 72 #[.pointer (some ⟨B, 0, none⟩), p, .agg x.vs.toArray] w fun e w' => e = .returned (.tuple #[]) ∧ P w' := by
  have hxv : x.vs = [.int .i64 8, .int .i64 x.a, .int .i64 x.t.k, .int .i64 x.t.l, .slice x.t.ao x.t.len x.t.cap, .int .i64 x.t.h, .int .i64 x.t.e] := by rw [← hx]; rfl
  rw [hxv]
  have B0 := below_alloc w (.cells #[.int .i64 8, .int .i64 x.a, .int .i64 x.t.k, .int .i64 x.t.l, .slice x.t.ao x.t.len x.t.cap, .int .i64 x.t.h, .int .i64 x.t.e] 60)
  have HK := hyd (Blk.new w [.int .i64 8, .int .i64 x.a, .int .i64 x.t.k, .int .i64 x.t.l, .slice x.t.ao x.t.len x.t.cap, .int .i64 x.t.h, .int .i64 x.t.e] 60)
  have HC := hyd (Ch.fresh (R := fun x => x = 2) (ρ := ρ) 5 B0)
  have HR := hyd (upd_at ρ w.heap.size 5)
  have HT := hyd (hT _ B0)
  have hn := range_kept hN B0
  have HS := hyd hS1
  have HF := hyd hF
  have q0 := (Blk.new w [.int .i64 8, .int .i64 x.a, .int .i64 x.t.k, .int .i64 x.t.l, .slice x.t.ao x.t.len x.t.cap, .int .i64 x.t.h, .int .i64 x.t.e] 60).cell 0 rfl
  clear hx hxv hN hT hS1 hF B0
  generalize upd ρ w.heap.size 5 = ρ1 at *
  go_enter Tryz.func72, Tryz.ntmps72
  go_upto_region 1 with fail
  have HK1 : Hid (Blk (w.alloc (.cells #[.int .i64 8, .int .i64 x.a, .int .i64 x.t.k, .int .i64 x.t.l, .slice x.t.ao x.t.len x.t.cap, .int .i64 x.t.h, .int .i64 x.t.e] 60)) w.heap.size [.int .i64 8, .int .i64 x.a, .int .i64 x.t.k, .int .i64 x.t.l, .slice x.t.ao x.t.len x.t.cap, .int .i64 x.t.h, .int .i64 x.t.e] 60) := HK.out
  have q0' : (w.alloc (.cells #[.int .i64 8, .int .i64 x.a, .int .i64 x.t.k, .int .i64 x.t.l, .slice x.t.ao x.t.len x.t.cap, .int .i64 x.t.h, .int .i64 x.t.e] 60)).cell? ⟨w.heap.size, 0, none⟩ = some (.int .i64 8) := q0
  clear HK q0
  generalize w.alloc (.cells #[.int .i64 8, .int .i64 x.a, .int .i64 x.t.k, .int .i64 x.t.l, .slice x.t.ao x.t.len x.t.cap, .int .i64 x.t.h, .int .i64 x.t.e] 60) = u0 at *
  generalize w.heap.size = BX at *
  go_wp2_with (refine wpList_load_mid rfl 100 (.tmp 13) rfl 0 16 (by kernel_rfl) [.int .i64 1, .int .i64 1] _ hn Tryz.underlying100 rfl (by kernel_rfl) ?_)
  refine HT.out.mono ?_
  rintro _ u1 ⟨rfl, ρ2, h1, h2⟩
  have HS1 := hyd h1
  have HC1 := hyd (HC.out.trans h2)
  have HK2 := hyd (h2.blk HK1.out (by rw [HR.out]; decide))
  clear h1 h2 HT HC HK1 hn q0'
  go_upto_region 2 with fail
  have b1 := below_alloc u1 (.cells #[.int .i64 a.k, .int .i64 a.m, .slice a.ao a.len a.cap] 31)
  have sz1 : (u1.alloc (.cells #[.int .i64 a.k, .int .i64 a.m, .slice a.ao a.len a.cap] 31)).heap.size = u1.heap.size + 1 := by simp
  have Ba := Blk.new u1 [.int .i64 a.k, .int .i64 a.m, .slice a.ao a.len a.cap] 31
  have b2 := below_alloc (u1.alloc (.cells #[.int .i64 a.k, .int .i64 a.m, .slice a.ao a.len a.cap] 31)) (.cells #[.int .i64 b.k, .int .i64 b.m, .slice b.ao b.len b.cap] 31)
  have Bb := Blk.new (u1.alloc (.cells #[.int .i64 a.k, .int .i64 a.m, .slice a.ao a.len a.cap] 31)) [.int .i64 b.k, .int .i64 b.m, .slice b.ao b.len b.cap] 31
  rw [sz1] at Bb
  have Ba2 := Ba.kept b2
  have hb := Below.next b1 b2
  clear b1 b2 Ba sz1
  have HS2 := hyd (HS.out _ _ _ HS1.out hb)
  have HC2 := hyd (HC1.out.trans (Ch.of_below hb))
  have HK3 := HK2.out.kept hb
  have q0 := HK3.cell 0 rfl
  have q1 := HK3.cell 1 rfl
  have a0 := Ba2.cell 0 rfl
  have a1 := Ba2.cell 1 rfl
  have a2 := Ba2.cell 2 rfl
  have b0 := Bb.cell 0 rfl
  have b1 := Bb.cell 1 rfl
  have b2 := Bb.cell 2 rfl
  have q0 : ((u1.alloc (.cells #[.int .i64 a.k, .int .i64 a.m, .slice a.ao a.len a.cap] 31)).alloc (.cells #[.int .i64 b.k, .int .i64 b.m, .slice b.ao b.len b.cap] 31)).cell? ⟨BX, 0, none⟩ = some (.int .i64 8) := q0
  have a0 : ((u1.alloc (.cells #[.int .i64 a.k, .int .i64 a.m, .slice a.ao a.len a.cap] 31)).alloc (.cells #[.int .i64 b.k, .int .i64 b.m, .slice b.ao b.len b.cap] 31)).cell? ⟨u1.heap.size, 0, none⟩ = some (.int .i64 a.k) := a0
  clear hb HK3 Ba2 Bb HS1 HC1 HK2 HS
  generalize (u1.alloc (.cells #[.int .i64 a.k, .int .i64 a.m, .slice a.ao a.len a.cap] 31)).alloc (.cells #[.int .i64 b.k, .int .i64 b.m, .slice b.ao b.len b.cap] 31) = u2 at *
  generalize u1.heap.size + 1 = BB at *
  generalize u1.heap.size = BA at *
  go_wp2_with fail
  refine (HF.out _ _ HS2.out HC2.out).mono ?_
  rintro _ u3 ⟨rfl, h3⟩
  have HP := hyd h3
  clear h3 HF HS2 HC2 q0 q1 a0 a1 a2 b0 b1 b2
  go_wp2
  go_end0
  exact ⟨rfl, HP.out⟩
set_option maxRecDepth 100000 in
set_option maxHeartbeats 8000000 in
theorem do_9 {B : Nat} {ρ : Nat → Nat} {w : World} (p : Value) (x : In) (a b : Vl) (S1 : (Nat → Nat) → World → Prop) (P : World → Prop) (hx : x.op = 9) (hN : Nd2 w 9 1 1)
    (hT : ∀ u, Below w.heap.size w u → Calls Tryz.prog 108 #[p, .agg #[.int .i64 1, .int .i64 1]] u fun e u' => e = .returned (.tuple #[.agg #[.int .i64 a.k, .int .i64 a.m, .slice a.ao a.len a.cap], .agg #[.int .i64 b.k, .int .i64 b.m, .slice b.ao b.len b.cap], .bool true]) ∧ ∃ ρ2, S1 ρ2 u' ∧ Ch (fun x => x = 2) (upd ρ w.heap.size 5) ρ2 u u')
    (hS1 : ∀ ρ2 u u', S1 ρ2 u → Below u.heap.size u u' → S1 ρ2 u')
    (hF : ∀ ρ2 u, S1 ρ2 u → Ch (fun x => x = 2) ρ ρ2 w u → Calls Tryz.prog 122 #[.pointer (some ⟨B, 0, none⟩), p, .int .i64 9, .int .i64 a.m, .int .i64 b.m] u fun e u' => e = .returned (.tuple #[]) ∧ P u') :
    Calls Tryz.prog 72 #[.pointer (some ⟨B, 0, none⟩), p, .agg x.vs.toArray] w fun e w' => e = .returned (.tuple #[]) ∧ P w' := by
  have hxv : x.vs = [.int .i64 9, .int .i64 x.a, .int .i64 x.t.k, .int .i64 x.t.l, .slice x.t.ao x.t.len x.t.cap, .int .i64 x.t.h, .int .i64 x.t.e] := by rw [← hx]; rfl
  rw [hxv]
  have B0 := below_alloc w (.cells #[.int .i64 9, .int .i64 x.a, .int .i64 x.t.k, .int .i64 x.t.l, .slice x.t.ao x.t.len x.t.cap, .int .i64 x.t.h, .int .i64 x.t.e] 60)
  have HK := hyd (Blk.new w [.int .i64 9, .int .i64 x.a, .int .i64 x.t.k, .int .i64 x.t.l, .slice x.t.ao x.t.len x.t.cap, .int .i64 x.t.h, .int .i64 x.t.e] 60)
  have HC := hyd (Ch.fresh (R := fun x => x = 2) (ρ := ρ) 5 B0)
  have HR := hyd (upd_at ρ w.heap.size 5)
  have HT := hyd (hT _ B0)
  have hn := range_kept hN B0
  have HS := hyd hS1
  have HF := hyd hF
  have q0 := (Blk.new w [.int .i64 9, .int .i64 x.a, .int .i64 x.t.k, .int .i64 x.t.l, .slice x.t.ao x.t.len x.t.cap, .int .i64 x.t.h, .int .i64 x.t.e] 60).cell 0 rfl
  clear hx hxv hN hT hS1 hF B0
  generalize upd ρ w.heap.size 5 = ρ1 at *
  go_enter Tryz.func72, Tryz.ntmps72
  go_upto_region 1 with fail
  have HK1 : Hid (Blk (w.alloc (.cells #[.int .i64 9, .int .i64 x.a, .int .i64 x.t.k, .int .i64 x.t.l, .slice x.t.ao x.t.len x.t.cap, .int .i64 x.t.h, .int .i64 x.t.e] 60)) w.heap.size [.int .i64 9, .int .i64 x.a, .int .i64 x.t.k, .int .i64 x.t.l, .slice x.t.ao x.t.len x.t.cap, .int .i64 x.t.h, .int .i64 x.t.e] 60) := HK.out
  have q0' : (w.alloc (.cells #[.int .i64 9, .int .i64 x.a, .int .i64 x.t.k, .int .i64 x.t.l, .slice x.t.ao x.t.len x.t.cap, .int .i64 x.t.h, .int .i64 x.t.e] 60)).cell? ⟨w.heap.size, 0, none⟩ = some (.int .i64 9) := q0
  clear HK q0
  generalize w.alloc (.cells #[.int .i64 9, .int .i64 x.a, .int .i64 x.t.k, .int .i64 x.t.l, .slice x.t.ao x.t.len x.t.cap, .int .i64 x.t.h, .int .i64 x.t.e] 60) = u0 at *
  generalize w.heap.size = BX at *
  go_wp2_with (refine wpList_load_mid rfl 100 (.tmp 13) rfl 0 18 (by kernel_rfl) [.int .i64 1, .int .i64 1] _ hn Tryz.underlying100 rfl (by kernel_rfl) ?_)
  refine HT.out.mono ?_
  rintro _ u1 ⟨rfl, ρ2, h1, h2⟩
  have HS1 := hyd h1
  have HC1 := hyd (HC.out.trans h2)
  have HK2 := hyd (h2.blk HK1.out (by rw [HR.out]; decide))
  clear h1 h2 HT HC HK1 hn q0'
  go_upto_region 2 with fail
  have b1 := below_alloc u1 (.cells #[.int .i64 a.k, .int .i64 a.m, .slice a.ao a.len a.cap] 31)
  have sz1 : (u1.alloc (.cells #[.int .i64 a.k, .int .i64 a.m, .slice a.ao a.len a.cap] 31)).heap.size = u1.heap.size + 1 := by simp
  have Ba := Blk.new u1 [.int .i64 a.k, .int .i64 a.m, .slice a.ao a.len a.cap] 31
  have b2 := below_alloc (u1.alloc (.cells #[.int .i64 a.k, .int .i64 a.m, .slice a.ao a.len a.cap] 31)) (.cells #[.int .i64 b.k, .int .i64 b.m, .slice b.ao b.len b.cap] 31)
  have Bb := Blk.new (u1.alloc (.cells #[.int .i64 a.k, .int .i64 a.m, .slice a.ao a.len a.cap] 31)) [.int .i64 b.k, .int .i64 b.m, .slice b.ao b.len b.cap] 31
  rw [sz1] at Bb
  have Ba2 := Ba.kept b2
  have hb := Below.next b1 b2
  clear b1 b2 Ba sz1
  have HS2 := hyd (HS.out _ _ _ HS1.out hb)
  have HC2 := hyd (HC1.out.trans (Ch.of_below hb))
  have HK3 := HK2.out.kept hb
  have q0 := HK3.cell 0 rfl
  have q1 := HK3.cell 1 rfl
  have a0 := Ba2.cell 0 rfl
  have a1 := Ba2.cell 1 rfl
  have a2 := Ba2.cell 2 rfl
  have b0 := Bb.cell 0 rfl
  have b1 := Bb.cell 1 rfl
  have b2 := Bb.cell 2 rfl
  have q0 : ((u1.alloc (.cells #[.int .i64 a.k, .int .i64 a.m, .slice a.ao a.len a.cap] 31)).alloc (.cells #[.int .i64 b.k, .int .i64 b.m, .slice b.ao b.len b.cap] 31)).cell? ⟨BX, 0, none⟩ = some (.int .i64 9) := q0
  have a0 : ((u1.alloc (.cells #[.int .i64 a.k, .int .i64 a.m, .slice a.ao a.len a.cap] 31)).alloc (.cells #[.int .i64 b.k, .int .i64 b.m, .slice b.ao b.len b.cap] 31)).cell? ⟨u1.heap.size, 0, none⟩ = some (.int .i64 a.k) := a0
  clear hb HK3 Ba2 Bb HS1 HC1 HK2 HS
  generalize (u1.alloc (.cells #[.int .i64 a.k, .int .i64 a.m, .slice a.ao a.len a.cap] 31)).alloc (.cells #[.int .i64 b.k, .int .i64 b.m, .slice b.ao b.len b.cap] 31) = u2 at *
  generalize u1.heap.size + 1 = BB at *
  generalize u1.heap.size = BA at *
  go_wp2_with fail
  refine (HF.out _ _ HS2.out HC2.out).mono ?_
  rintro _ u3 ⟨rfl, h3⟩
  have HP := hyd h3
  clear h3 HF HS2 HC2 q0 q1 a0 a1 a2 b0 b1 b2
  go_wp2
  go_end0
  exact ⟨rfl, HP.out⟩
set_option maxRecDepth 100000 in
set_option maxHeartbeats 8000000 in
theorem do_10 {B : Nat} {ρ : Nat → Nat} {w : World} (p : Value) (x : In) (a b : Vl) (S1 : (Nat → Nat) → World → Prop) (P : World → Prop) (hx : x.op = 10) (hN : Nd2 w 10 1 1)
    (hT : ∀ u, Below w.heap.size w u → Calls Tryz.prog 108 #[p, .agg #[.int .i64 1, .int .i64 1]] u fun e u' => e = .returned (.tuple #[.agg #[.int .i64 a.k, .int .i64 a.m, .slice a.ao a.len a.cap], .agg #[.int .i64 b.k, .int .i64 b.m, .slice b.ao b.len b.cap], .bool true]) ∧ ∃ ρ2, S1 ρ2 u' ∧ Ch (fun x => x = 2) (upd ρ w.heap.size 5) ρ2 u u')
    (hS1 : ∀ ρ2 u u', S1 ρ2 u → Below u.heap.size u u' → S1 ρ2 u')
    (hF : ∀ ρ2 u, S1 ρ2 u → Ch (fun x => x = 2) ρ ρ2 w u → Calls Tryz.prog 122 #[.pointer (some ⟨B, 0, none⟩), p, .int .i64 10, .int .i64 a.m, .int .i64 b.m] u fun e u' => e = .returned (.tuple #[]) ∧ P u') :
    Calls Tryz.prog 72 #[.pointer (some ⟨B, 0, none⟩), p, .agg x.vs.toArray] w fun e w' => e = .returned (.tuple #[]) ∧ P w' := by
  have hxv : x.vs = [.int .i64 10, .int .i64 x.a, .int .i64 x.t.k, .int .i64 x.t.l, .slice x.t.ao x.t.len x.t.cap, .int .i64 x.t.h, .int .i64 x.t.e] := by rw [← hx]; rfl
  rw [hxv]
  have B0 := below_alloc w (.cells #[.int .i64 10, .int .i64 x.a, .int .i64 x.t.k, .int .i64 x.t.l, .slice x.t.ao x.t.len x.t.cap, .int .i64 x.t.h, .int .i64 x.t.e] 60)
  have HK := hyd (Blk.new w [.int .i64 10, .int .i64 x.a, .int .i64 x.t.k, .int .i64 x.t.l, .slice x.t.ao x.t.len x.t.cap, .int .i64 x.t.h, .int .i64 x.t.e] 60)
  have HC := hyd (Ch.fresh (R := fun x => x = 2) (ρ := ρ) 5 B0)
  have HR := hyd (upd_at ρ w.heap.size 5)
  have HT := hyd (hT _ B0)
  have hn := range_kept hN B0
  have HS := hyd hS1
  have HF := hyd hF
  have q0 := (Blk.new w [.int .i64 10, .int .i64 x.a, .int .i64 x.t.k, .int .i64 x.t.l, .slice x.t.ao x.t.len x.t.cap, .int .i64 x.t.h, .int .i64 x.t.e] 60).cell 0 rfl
  clear hx hxv hN hT hS1 hF B0
  generalize upd ρ w.heap.size 5 = ρ1 at *
  go_enter Tryz.func72, Tryz.ntmps72
  go_upto_region 1 with fail
  have HK1 : Hid (Blk (w.alloc (.cells #[.int .i64 10, .int .i64 x.a, .int .i64 x.t.k, .int .i64 x.t.l, .slice x.t.ao x.t.len x.t.cap, .int .i64 x.t.h, .int .i64 x.t.e] 60)) w.heap.size [.int .i64 10, .int .i64 x.a, .int .i64 x.t.k, .int .i64 x.t.l, .slice x.t.ao x.t.len x.t.cap, .int .i64 x.t.h, .int .i64 x.t.e] 60) := HK.out
  have q0' : (w.alloc (.cells #[.int .i64 10, .int .i64 x.a, .int .i64 x.t.k, .int .i64 x.t.l, .slice x.t.ao x.t.len x.t.cap, .int .i64 x.t.h, .int .i64 x.t.e] 60)).cell? ⟨w.heap.size, 0, none⟩ = some (.int .i64 10) := q0
  clear HK q0
  generalize w.alloc (.cells #[.int .i64 10, .int .i64 x.a, .int .i64 x.t.k, .int .i64 x.t.l, .slice x.t.ao x.t.len x.t.cap, .int .i64 x.t.h, .int .i64 x.t.e] 60) = u0 at *
  generalize w.heap.size = BX at *
  go_wp2_with (refine wpList_load_mid rfl 100 (.tmp 13) rfl 0 20 (by kernel_rfl) [.int .i64 1, .int .i64 1] _ hn Tryz.underlying100 rfl (by kernel_rfl) ?_)
  refine HT.out.mono ?_
  rintro _ u1 ⟨rfl, ρ2, h1, h2⟩
  have HS1 := hyd h1
  have HC1 := hyd (HC.out.trans h2)
  have HK2 := hyd (h2.blk HK1.out (by rw [HR.out]; decide))
  clear h1 h2 HT HC HK1 hn q0'
  go_upto_region 2 with fail
  have b1 := below_alloc u1 (.cells #[.int .i64 a.k, .int .i64 a.m, .slice a.ao a.len a.cap] 31)
  have sz1 : (u1.alloc (.cells #[.int .i64 a.k, .int .i64 a.m, .slice a.ao a.len a.cap] 31)).heap.size = u1.heap.size + 1 := by simp
  have Ba := Blk.new u1 [.int .i64 a.k, .int .i64 a.m, .slice a.ao a.len a.cap] 31
  have b2 := below_alloc (u1.alloc (.cells #[.int .i64 a.k, .int .i64 a.m, .slice a.ao a.len a.cap] 31)) (.cells #[.int .i64 b.k, .int .i64 b.m, .slice b.ao b.len b.cap] 31)
  have Bb := Blk.new (u1.alloc (.cells #[.int .i64 a.k, .int .i64 a.m, .slice a.ao a.len a.cap] 31)) [.int .i64 b.k, .int .i64 b.m, .slice b.ao b.len b.cap] 31
  rw [sz1] at Bb
  have Ba2 := Ba.kept b2
  have hb := Below.next b1 b2
  clear b1 b2 Ba sz1
  have HS2 := hyd (HS.out _ _ _ HS1.out hb)
  have HC2 := hyd (HC1.out.trans (Ch.of_below hb))
  have HK3 := HK2.out.kept hb
  have q0 := HK3.cell 0 rfl
  have q1 := HK3.cell 1 rfl
  have a0 := Ba2.cell 0 rfl
  have a1 := Ba2.cell 1 rfl
  have a2 := Ba2.cell 2 rfl
  have b0 := Bb.cell 0 rfl
  have b1 := Bb.cell 1 rfl
  have b2 := Bb.cell 2 rfl
  have q0 : ((u1.alloc (.cells #[.int .i64 a.k, .int .i64 a.m, .slice a.ao a.len a.cap] 31)).alloc (.cells #[.int .i64 b.k, .int .i64 b.m, .slice b.ao b.len b.cap] 31)).cell? ⟨BX, 0, none⟩ = some (.int .i64 10) := q0
  have a0 : ((u1.alloc (.cells #[.int .i64 a.k, .int .i64 a.m, .slice a.ao a.len a.cap] 31)).alloc (.cells #[.int .i64 b.k, .int .i64 b.m, .slice b.ao b.len b.cap] 31)).cell? ⟨u1.heap.size, 0, none⟩ = some (.int .i64 a.k) := a0
  clear hb HK3 Ba2 Bb HS1 HC1 HK2 HS
  generalize (u1.alloc (.cells #[.int .i64 a.k, .int .i64 a.m, .slice a.ao a.len a.cap] 31)).alloc (.cells #[.int .i64 b.k, .int .i64 b.m, .slice b.ao b.len b.cap] 31) = u2 at *
  generalize u1.heap.size + 1 = BB at *
  generalize u1.heap.size = BA at *
  go_wp2_with fail
  refine (HF.out _ _ HS2.out HC2.out).mono ?_
  rintro _ u3 ⟨rfl, h3⟩
  have HP := hyd h3
  clear h3 HF HS2 HC2 q0 q1 a0 a1 a2 b0 b1 b2
  go_wp2
  go_end0
  exact ⟨rfl, HP.out⟩
set_option maxRecDepth 100000 in
set_option maxHeartbeats 8000000 in
theorem do_11 {B : Nat} {ρ : Nat → Nat} {w : World} (p : Value) (x : In) (a b : Vl) (S1 : (Nat → Nat) → World → Prop) (P : World → Prop) (hx : x.op = 11) (hN : Nd2 w 11 1 1)
    (hT : ∀ u, Below w.heap.size w u → Calls Tryz.prog 108 #[p, .agg #[.int .i64 1, .int .i64 1]] u fun e u' => e = .returned (.tuple #[.agg #[.int .i64 a.k, .int .i64 a.m, .slice a.ao a.len a.cap], .agg #[.int .i64 b.k, .int .i64 b.m, .slice b.ao b.len b.cap], .bool true]) ∧ ∃ ρ2, S1 ρ2 u' ∧ Ch (fun x => x = 2) (upd ρ w.heap.size 5) ρ2 u u')
    (hS1 : ∀ ρ2 u u', S1 ρ2 u → Below u.heap.size u u' → S1 ρ2 u')
    (hF : ∀ ρ2 u, S1 ρ2 u → Ch (fun x => x = 2) ρ ρ2 w u → Calls Tryz.prog 122 #[.pointer (some ⟨B, 0, none⟩), p, .int .i64 11, .int .i64 a.m, .int .i64 b.m] u fun e u' => e = .returned (.tuple #[]) ∧ P u') :
    Calls Tryz.prog 72 #[.pointer (some ⟨B, 0, none⟩), p, .agg x.vs.toArray] w fun e w' => e = .returned (.tuple #[]) ∧ P w' := by
  have hxv : x.vs = [.int .i64 11, .int .i64 x.a, .int .i64 x.t.k, .int .i64 x.t.l, .slice x.t.ao x.t.len x.t.cap, .int .i64 x.t.h, .int .i64 x.t.e] := by rw [← hx]; rfl
  rw [hxv]
  have B0 := below_alloc w (.cells #[.int .i64 11, .int .i64 x.a, .int .i64 x.t.k, .int .i64 x.t.l, .slice x.t.ao x.t.len x.t.cap, .int .i64 x.t.h, .int .i64 x.t.e] 60)
  have HK := hyd (Blk.new w [.int .i64 11, .int .i64 x.a, .int .i64 x.t.k, .int .i64 x.t.l, .slice x.t.ao x.t.len x.t.cap, .int .i64 x.t.h, .int .i64 x.t.e] 60)
  have HC := hyd (Ch.fresh (R := fun x => x = 2) (ρ := ρ) 5 B0)
  have HR := hyd (upd_at ρ w.heap.size 5)
  have HT := hyd (hT _ B0)
  have hn := range_kept hN B0
  have HS := hyd hS1
  have HF := hyd hF
  have q0 := (Blk.new w [.int .i64 11, .int .i64 x.a, .int .i64 x.t.k, .int .i64 x.t.l, .slice x.t.ao x.t.len x.t.cap, .int .i64 x.t.h, .int .i64 x.t.e] 60).cell 0 rfl
  clear hx hxv hN hT hS1 hF B0
  generalize upd ρ w.heap.size 5 = ρ1 at *
  go_enter Tryz.func72, Tryz.ntmps72
  go_upto_region 1 with fail
  have HK1 : Hid (Blk (w.alloc (.cells #[.int .i64 11, .int .i64 x.a, .int .i64 x.t.k, .int .i64 x.t.l, .slice x.t.ao x.t.len x.t.cap, .int .i64 x.t.h, .int .i64 x.t.e] 60)) w.heap.size [.int .i64 11, .int .i64 x.a, .int .i64 x.t.k, .int .i64 x.t.l, .slice x.t.ao x.t.len x.t.cap, .int .i64 x.t.h, .int .i64 x.t.e] 60) := HK.out
  have q0' : (w.alloc (.cells #[.int .i64 11, .int .i64 x.a, .int .i64 x.t.k, .int .i64 x.t.l, .slice x.t.ao x.t.len x.t.cap, .int .i64 x.t.h, .int .i64 x.t.e] 60)).cell? ⟨w.heap.size, 0, none⟩ = some (.int .i64 11) := q0
  clear HK q0
  generalize w.alloc (.cells #[.int .i64 11, .int .i64 x.a, .int .i64 x.t.k, .int .i64 x.t.l, .slice x.t.ao x.t.len x.t.cap, .int .i64 x.t.h, .int .i64 x.t.e] 60) = u0 at *
  generalize w.heap.size = BX at *
  go_wp2_with (refine wpList_load_mid rfl 100 (.tmp 13) rfl 0 22 (by kernel_rfl) [.int .i64 1, .int .i64 1] _ hn Tryz.underlying100 rfl (by kernel_rfl) ?_)
  refine HT.out.mono ?_
  rintro _ u1 ⟨rfl, ρ2, h1, h2⟩
  have HS1 := hyd h1
  have HC1 := hyd (HC.out.trans h2)
  have HK2 := hyd (h2.blk HK1.out (by rw [HR.out]; decide))
  clear h1 h2 HT HC HK1 hn q0'
  go_upto_region 2 with fail
  have b1 := below_alloc u1 (.cells #[.int .i64 a.k, .int .i64 a.m, .slice a.ao a.len a.cap] 31)
  have sz1 : (u1.alloc (.cells #[.int .i64 a.k, .int .i64 a.m, .slice a.ao a.len a.cap] 31)).heap.size = u1.heap.size + 1 := by simp
  have Ba := Blk.new u1 [.int .i64 a.k, .int .i64 a.m, .slice a.ao a.len a.cap] 31
  have b2 := below_alloc (u1.alloc (.cells #[.int .i64 a.k, .int .i64 a.m, .slice a.ao a.len a.cap] 31)) (.cells #[.int .i64 b.k, .int .i64 b.m, .slice b.ao b.len b.cap] 31)
  have Bb := Blk.new (u1.alloc (.cells #[.int .i64 a.k, .int .i64 a.m, .slice a.ao a.len a.cap] 31)) [.int .i64 b.k, .int .i64 b.m, .slice b.ao b.len b.cap] 31
  rw [sz1] at Bb
  have Ba2 := Ba.kept b2
  have hb := Below.next b1 b2
  clear b1 b2 Ba sz1
  have HS2 := hyd (HS.out _ _ _ HS1.out hb)
  have HC2 := hyd (HC1.out.trans (Ch.of_below hb))
  have HK3 := HK2.out.kept hb
  have q0 := HK3.cell 0 rfl
  have q1 := HK3.cell 1 rfl
  have a0 := Ba2.cell 0 rfl
  have a1 := Ba2.cell 1 rfl
  have a2 := Ba2.cell 2 rfl
  have b0 := Bb.cell 0 rfl
  have b1 := Bb.cell 1 rfl
  have b2 := Bb.cell 2 rfl
  have q0 : ((u1.alloc (.cells #[.int .i64 a.k, .int .i64 a.m, .slice a.ao a.len a.cap] 31)).alloc (.cells #[.int .i64 b.k, .int .i64 b.m, .slice b.ao b.len b.cap] 31)).cell? ⟨BX, 0, none⟩ = some (.int .i64 11) := q0
  have a0 : ((u1.alloc (.cells #[.int .i64 a.k, .int .i64 a.m, .slice a.ao a.len a.cap] 31)).alloc (.cells #[.int .i64 b.k, .int .i64 b.m, .slice b.ao b.len b.cap] 31)).cell? ⟨u1.heap.size, 0, none⟩ = some (.int .i64 a.k) := a0
  clear hb HK3 Ba2 Bb HS1 HC1 HK2 HS
  generalize (u1.alloc (.cells #[.int .i64 a.k, .int .i64 a.m, .slice a.ao a.len a.cap] 31)).alloc (.cells #[.int .i64 b.k, .int .i64 b.m, .slice b.ao b.len b.cap] 31) = u2 at *
  generalize u1.heap.size + 1 = BB at *
  generalize u1.heap.size = BA at *
  go_wp2_with fail
  refine (HF.out _ _ HS2.out HC2.out).mono ?_
  rintro _ u3 ⟨rfl, h3⟩
  have HP := hyd h3
  clear h3 HF HS2 HC2 q0 q1 a0 a1 a2 b0 b1 b2
  go_wp2
  go_end0
  exact ⟨rfl, HP.out⟩
set_option maxRecDepth 100000 in
set_option maxHeartbeats 8000000 in
theorem do_12 {B : Nat} {ρ : Nat → Nat} {w : World} (p : Value) (x : In) (a b : Vl) (S1 : (Nat → Nat) → World → Prop) (P : World → Prop) (hx : x.op = 12) (hN : Nd2 w 12 1 1)
    (hT : ∀ u, Below w.heap.size w u → Calls Tryz.prog 108 #[p, .agg #[.int .i64 1, .int .i64 1]] u fun e u' => e = .returned (.tuple #[.agg #[.int .i64 a.k, .int .i64 a.m, .slice a.ao a.len a.cap], .agg #[.int .i64 b.k, .int .i64 b.m, .slice b.ao b.len b.cap], .bool true]) ∧ ∃ ρ2, S1 ρ2 u' ∧ Ch (fun x => x = 2) (upd ρ w.heap.size 5) ρ2 u u')
    (hS1 : ∀ ρ2 u u', S1 ρ2 u → Below u.heap.size u u' → S1 ρ2 u')
    (hF : ∀ ρ2 u, S1 ρ2 u → Ch (fun x => x = 2) ρ ρ2 w u → Calls Tryz.prog 122 #[.pointer (some ⟨B, 0, none⟩), p, .int .i64 12, .int .i64 a.m, .int .i64 b.m] u fun e u' => e = .returned (.tuple #[]) ∧ P u') :
    Calls Tryz.prog 72 #[.pointer (some ⟨B, 0, none⟩), p, .agg x.vs.toArray] w fun e w' => e = .returned (.tuple #[]) ∧ P w' := by
  have hxv : x.vs = [.int .i64 12, .int .i64 x.a, .int .i64 x.t.k, .int .i64 x.t.l, .slice x.t.ao x.t.len x.t.cap, .int .i64 x.t.h, .int .i64 x.t.e] := by rw [← hx]; rfl
  rw [hxv]
  have B0 := below_alloc w (.cells #[.int .i64 12, .int .i64 x.a, .int .i64 x.t.k, .int .i64 x.t.l, .slice x.t.ao x.t.len x.t.cap, .int .i64 x.t.h, .int .i64 x.t.e] 60)
  have HK := hyd (Blk.new w [.int .i64 12, .int .i64 x.a, .int .i64 x.t.k, .int .i64 x.t.l, .slice x.t.ao x.t.len x.t.cap, .int .i64 x.t.h, .int .i64 x.t.e] 60)
  have HC := hyd (Ch.fresh (R := fun x => x = 2) (ρ := ρ) 5 B0)
  have HR := hyd (upd_at ρ w.heap.size 5)
  have HT := hyd (hT _ B0)
  have hn := range_kept hN B0
  have HS := hyd hS1
  have HF := hyd hF
  have q0 := (Blk.new w [.int .i64 12, .int .i64 x.a, .int .i64 x.t.k, .int .i64 x.t.l, .slice x.t.ao x.t.len x.t.cap, .int .i64 x.t.h, .int .i64 x.t.e] 60).cell 0 rfl
  clear hx hxv hN hT hS1 hF B0
  generalize upd ρ w.heap.size 5 = ρ1 at *
  go_enter Tryz.func72, Tryz.ntmps72
  go_upto_region 1 with fail
  have HK1 : Hid (Blk (w.alloc (.cells #[.int .i64 12, .int .i64 x.a, .int .i64 x.t.k, .int .i64 x.t.l, .slice x.t.ao x.t.len x.t.cap, .int .i64 x.t.h, .int .i64 x.t.e] 60)) w.heap.size [.int .i64 12, .int .i64 x.a, .int .i64 x.t.k, .int .i64 x.t.l, .slice x.t.ao x.t.len x.t.cap, .int .i64 x.t.h, .int .i64 x.t.e] 60) := HK.out
  have q0' : (w.alloc (.cells #[.int .i64 12, .int .i64 x.a, .int .i64 x.t.k, .int .i64 x.t.l, .slice x.t.ao x.t.len x.t.cap, .int .i64 x.t.h, .int .i64 x.t.e] 60)).cell? ⟨w.heap.size, 0, none⟩ = some (.int .i64 12) := q0
  clear HK q0
  generalize w.alloc (.cells #[.int .i64 12, .int .i64 x.a, .int .i64 x.t.k, .int .i64 x.t.l, .slice x.t.ao x.t.len x.t.cap, .int .i64 x.t.h, .int .i64 x.t.e] 60) = u0 at *
  generalize w.heap.size = BX at *
  go_wp2_with (refine wpList_load_mid rfl 100 (.tmp 13) rfl 0 24 (by kernel_rfl) [.int .i64 1, .int .i64 1] _ hn Tryz.underlying100 rfl (by kernel_rfl) ?_)
  refine HT.out.mono ?_
  rintro _ u1 ⟨rfl, ρ2, h1, h2⟩
  have HS1 := hyd h1
  have HC1 := hyd (HC.out.trans h2)
  have HK2 := hyd (h2.blk HK1.out (by rw [HR.out]; decide))
  clear h1 h2 HT HC HK1 hn q0'
  go_upto_region 2 with fail
  have b1 := below_alloc u1 (.cells #[.int .i64 a.k, .int .i64 a.m, .slice a.ao a.len a.cap] 31)
  have sz1 : (u1.alloc (.cells #[.int .i64 a.k, .int .i64 a.m, .slice a.ao a.len a.cap] 31)).heap.size = u1.heap.size + 1 := by simp
  have Ba := Blk.new u1 [.int .i64 a.k, .int .i64 a.m, .slice a.ao a.len a.cap] 31
  have b2 := below_alloc (u1.alloc (.cells #[.int .i64 a.k, .int .i64 a.m, .slice a.ao a.len a.cap] 31)) (.cells #[.int .i64 b.k, .int .i64 b.m, .slice b.ao b.len b.cap] 31)
  have Bb := Blk.new (u1.alloc (.cells #[.int .i64 a.k, .int .i64 a.m, .slice a.ao a.len a.cap] 31)) [.int .i64 b.k, .int .i64 b.m, .slice b.ao b.len b.cap] 31
  rw [sz1] at Bb
  have Ba2 := Ba.kept b2
  have hb := Below.next b1 b2
  clear b1 b2 Ba sz1
  have HS2 := hyd (HS.out _ _ _ HS1.out hb)
  have HC2 := hyd (HC1.out.trans (Ch.of_below hb))
  have HK3 := HK2.out.kept hb
  have q0 := HK3.cell 0 rfl
  have q1 := HK3.cell 1 rfl
  have a0 := Ba2.cell 0 rfl
  have a1 := Ba2.cell 1 rfl
  have a2 := Ba2.cell 2 rfl
  have b0 := Bb.cell 0 rfl
  have b1 := Bb.cell 1 rfl
  have b2 := Bb.cell 2 rfl
  have q0 : ((u1.alloc (.cells #[.int .i64 a.k, .int .i64 a.m, .slice a.ao a.len a.cap] 31)).alloc (.cells #[.int .i64 b.k, .int .i64 b.m, .slice b.ao b.len b.cap] 31)).cell? ⟨BX, 0, none⟩ = some (.int .i64 12) := q0
  have a0 : ((u1.alloc (.cells #[.int .i64 a.k, .int .i64 a.m, .slice a.ao a.len a.cap] 31)).alloc (.cells #[.int .i64 b.k, .int .i64 b.m, .slice b.ao b.len b.cap] 31)).cell? ⟨u1.heap.size, 0, none⟩ = some (.int .i64 a.k) := a0
  clear hb HK3 Ba2 Bb HS1 HC1 HK2 HS
  generalize (u1.alloc (.cells #[.int .i64 a.k, .int .i64 a.m, .slice a.ao a.len a.cap] 31)).alloc (.cells #[.int .i64 b.k, .int .i64 b.m, .slice b.ao b.len b.cap] 31) = u2 at *
  generalize u1.heap.size + 1 = BB at *
  generalize u1.heap.size = BA at *
  go_wp2_with fail
  refine (HF.out _ _ HS2.out HC2.out).mono ?_
  rintro _ u3 ⟨rfl, h3⟩
  have HP := hyd h3
  clear h3 HF HS2 HC2 q0 q1 a0 a1 a2 b0 b1 b2
  go_wp2
  go_end0
  exact ⟨rfl, HP.out⟩
set_option maxRecDepth 100000 in
set_option maxHeartbeats 8000000 in
theorem do_27 {B : Nat} {ρ : Nat → Nat} {w : World} (p : Value) (x : In) (a b : Vl) (S1 : (Nat → Nat) → World → Prop) (P : World → Prop) (hx : x.op = 27) (hN : Nd2 w 27 (-1) 0)
    (hT : ∀ u, Below w.heap.size w u → Calls Tryz.prog 108 #[p, .agg #[.int .i64 (-1), .int .i64 0]] u fun e u' => e = .returned (.tuple #[.agg #[.int .i64 a.k, .int .i64 a.m, .slice a.ao a.len a.cap], .agg #[.int .i64 b.k, .int .i64 b.m, .slice b.ao b.len b.cap], .bool true]) ∧ ∃ ρ2, S1 ρ2 u' ∧ Ch (fun x => x = 2) (upd ρ w.heap.size 5) ρ2 u u')
    (hS1 : ∀ ρ2 u u', S1 ρ2 u → Below u.heap.size u u' → S1 ρ2 u')
    (hF : ∀ ρ2 u, S1 ρ2 u → Ch (fun x => x = 2) ρ ρ2 w u → Calls Tryz.prog 121 #[.pointer (some ⟨B, 0, none⟩), p, .agg #[.int .i64 a.k, .int .i64 a.m, .slice a.ao a.len a.cap]] u fun e u' => e = .returned (.tuple #[]) ∧ P u') :
    Calls Tryz.prog 72 #[.pointer (some ⟨B, 0, none⟩), p, .agg x.vs.toArray] w fun e w' => e = .returned (.tuple #[]) ∧ P w' := by
  have hxv : x.vs = [.int .i64 27, .int .i64 x.a, .int .i64 x.t.k, .int .i64 x.t.l, .slice x.t.ao x.t.len x.t.cap, .int .i64 x.t.h, .int .i64 x.t.e] := by rw [← hx]; rfl
  rw [hxv]
  have B0 := below_alloc w (.cells #[.int .i64 27, .int .i64 x.a, .int .i64 x.t.k, .int .i64 x.t.l, .slice x.t.ao x.t.len x.t.cap, .int .i64 x.t.h, .int .i64 x.t.e] 60)
  have HK := hyd (Blk.new w [.int .i64 27, .int .i64 x.a, .int .i64 x.t.k, .int .i64 x.t.l, .slice x.t.ao x.t.len x.t.cap, .int .i64 x.t.h, .int .i64 x.t.e] 60)
  have HC := hyd (Ch.fresh (R := fun x => x = 2) (ρ := ρ) 5 B0)
  have HR := hyd (upd_at ρ w.heap.size 5)
  have HT := hyd (hT _ B0)
  have hn := range_kept hN B0
  have HS := hyd hS1
  have HF := hyd hF
  have q0 := (Blk.new w [.int .i64 27, .int .i64 x.a, .int .i64 x.t.k, .int .i64 x.t.l, .slice x.t.ao x.t.len x.t.cap, .int .i64 x.t.h, .int .i64 x.t.e] 60).cell 0 rfl
  clear hx hxv hN hT hS1 hF B0
  generalize upd ρ w.heap.size 5 = ρ1 at *
  go_enter Tryz.func72, Tryz.ntmps72
  go_upto_region 1 with fail
  have HK1 : Hid (Blk (w.alloc (.cells #[.int .i64 27, .int .i64 x.a, .int .i64 x.t.k, .int .i64 x.t.l, .slice x.t.ao x.t.len x.t.cap, .int .i64 x.t.h, .int .i64 x.t.e] 60)) w.heap.size [.int .i64 27, .int .i64 x.a, .int .i64 x.t.k, .int .i64 x.t.l, .slice x.t.ao x.t.len x.t.cap, .int .i64 x.t.h, .int .i64 x.t.e] 60) := HK.out
  have q0' : (w.alloc (.cells #[.int .i64 27, .int .i64 x.a, .int .i64 x.t.k, .int .i64 x.t.l, .slice x.t.ao x.t.len x.t.cap, .int .i64 x.t.h, .int .i64 x.t.e] 60)).cell? ⟨w.heap.size, 0, none⟩ = some (.int .i64 27) := q0
  clear HK q0
  generalize w.alloc (.cells #[.int .i64 27, .int .i64 x.a, .int .i64 x.t.k, .int .i64 x.t.l, .slice x.t.ao x.t.len x.t.cap, .int .i64 x.t.h, .int .i64 x.t.e] 60) = u0 at *
  generalize w.heap.size = BX at *
  go_wp2_with (refine wpList_load_mid rfl 100 (.tmp 13) rfl 0 54 (by kernel_rfl) [.int .i64 (-1), .int .i64 0] _ hn Tryz.underlying100 rfl (by kernel_rfl) ?_)
  refine HT.out.mono ?_
  rintro _ u1 ⟨rfl, ρ2, h1, h2⟩
  have HS1 := hyd h1
  have HC1 := hyd (HC.out.trans h2)
  have HK2 := hyd (h2.blk HK1.out (by rw [HR.out]; decide))
  clear h1 h2 HT HC HK1 hn q0'
  go_upto_region 2 with fail
  have b1 := below_alloc u1 (.cells #[.int .i64 a.k, .int .i64 a.m, .slice a.ao a.len a.cap] 31)
  have sz1 : (u1.alloc (.cells #[.int .i64 a.k, .int .i64 a.m, .slice a.ao a.len a.cap] 31)).heap.size = u1.heap.size + 1 := by simp
  have Ba := Blk.new u1 [.int .i64 a.k, .int .i64 a.m, .slice a.ao a.len a.cap] 31
  have b2 := below_alloc (u1.alloc (.cells #[.int .i64 a.k, .int .i64 a.m, .slice a.ao a.len a.cap] 31)) (.cells #[.int .i64 b.k, .int .i64 b.m, .slice b.ao b.len b.cap] 31)
  have Bb := Blk.new (u1.alloc (.cells #[.int .i64 a.k, .int .i64 a.m, .slice a.ao a.len a.cap] 31)) [.int .i64 b.k, .int .i64 b.m, .slice b.ao b.len b.cap] 31
  rw [sz1] at Bb
  have Ba2 := Ba.kept b2
  have hb := Below.next b1 b2
  clear b1 b2 Ba sz1
  have HS2 := hyd (HS.out _ _ _ HS1.out hb)
  have HC2 := hyd (HC1.out.trans (Ch.of_below hb))
  have HK3 := HK2.out.kept hb
  have q0 := HK3.cell 0 rfl
  have q1 := HK3.cell 1 rfl
  have a0 := Ba2.cell 0 rfl
  have a1 := Ba2.cell 1 rfl
  have a2 := Ba2.cell 2 rfl
  have b0 := Bb.cell 0 rfl
  have b1 := Bb.cell 1 rfl
  have b2 := Bb.cell 2 rfl
  have q0 : ((u1.alloc (.cells #[.int .i64 a.k, .int .i64 a.m, .slice a.ao a.len a.cap] 31)).alloc (.cells #[.int .i64 b.k, .int .i64 b.m, .slice b.ao b.len b.cap] 31)).cell? ⟨BX, 0, none⟩ = some (.int .i64 27) := q0
  have a0 : ((u1.alloc (.cells #[.int .i64 a.k, .int .i64 a.m, .slice a.ao a.len a.cap] 31)).alloc (.cells #[.int .i64 b.k, .int .i64 b.m, .slice b.ao b.len b.cap] 31)).cell? ⟨u1.heap.size, 0, none⟩ = some (.int .i64 a.k) := a0
  clear hb HK3 Ba2 Bb HS1 HC1 HK2 HS
  generalize (u1.alloc (.cells #[.int .i64 a.k, .int .i64 a.m, .slice a.ao a.len a.cap] 31)).alloc (.cells #[.int .i64 b.k, .int .i64 b.m, .slice b.ao b.len b.cap] 31) = u2 at *
  generalize u1.heap.size + 1 = BB at *
  generalize u1.heap.size = BA at *
  go_wp2_with fail
  refine (HF.out _ _ HS2.out HC2.out).mono ?_
  rintro _ u3 ⟨rfl, h3⟩
  have HP := hyd h3
  clear h3 HF HS2 HC2 q0 q1 a0 a1 a2 b0 b1 b2
  go_wp2
  go_end0
  exact ⟨rfl, HP.out⟩
end Go.Proofs.YtmkncmmegjfipaaGreatDoor
