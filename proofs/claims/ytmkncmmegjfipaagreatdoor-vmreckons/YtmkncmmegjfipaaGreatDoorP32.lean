/- Layer 18: what the statements' code does. -/
import Derived.Test.YtmkncmmegjfipaaGreatDoorP31
namespace Go.Proofs.YtmkncmmegjfipaaGreatDoor
open Go Go.RowKit

theorem Ng.kept {w w' : World} (h : Ng w) (hb : Below w.heap.size w w') : Ng w' := ⟨up_g h.n1 hb, up_g h.n3 hb, up_g h.n5 hb, up_g h.n27 hb, fun k h1 h2 => up_g (h.nr k h1 h2) hb⟩
theorem run_code {cl : Kl} {w : World} (k n fuel lm lc : Int) (N : Nat) (pl : Nat → Nat) (st : Nat → List Vl) (en k' n' : Int) (hc : cl.At w) (hfm : cl.fm = true) (hO : Og w) (hG : Ng w) (hv : (Vl.lf k n).ok = true) (hk : I64 k) (hn : I64 n) (hf : 0 ≤ fuel ∧ fuel ≤ 65536) (hlm : 1 ≤ lm ∧ lm ≤ 100000) (hlc : 0 ≤ lc) (h0 : 0 < cl.fs.len) (hen : en ≠ 0) (hN : 1 ≤ N) (hp0 : pl 0 = 0) (hs0 : st 0 = [])
    (hstep : ∀ w0, cl.At w0 → Ng w0 → ∀ B j u, j + 1 < N → Sx cl w0 B fuel j (pl j) (st j) [.lf k n] u → Calls Tryz.prog 48 #[.pointer (some ⟨B, 0, none⟩)] u fun e u' => e = .returned (.tuple #[]) ∧ Sx cl w0 B fuel (j + 1) (pl (j + 1)) (st (j + 1)) [.lf k n] u')
    (hlast : ∀ w0, cl.At w0 → Ng w0 → ∀ B u, Sx cl w0 B fuel (N - 1 : Nat) (pl (N - 1)) (st (N - 1)) [.lf k n] u → Calls Tryz.prog 48 #[.pointer (some ⟨B, 0, none⟩)] u fun e u' => e = .returned (.tuple #[]) ∧ Ex1 cl w0 B en (.lf k' n') N u') :
    Calls Tryz.prog 11 #[.agg #[.slice cl.n.ao cl.n.len cl.n.cap, .slice cl.g.ao cl.g.len cl.g.cap, .slice cl.fs.ao cl.fs.len cl.fs.cap], .agg #[.int .i64 k, .int .i64 n, .slice none 0 0], .slice none 0 0, .agg #[.int .i64 fuel, .int .i64 lm, .int .i64 lc]] w (RunR en k' n' N w) := by
  refine run_leaf k n fuel lm lc en k' n' N hc hfm hO hv hk hn hf hlm hlc h0 fun w0 B ρ lv fv u hcl hbw hM => ?_
  have hg := hG.kept hbw
  obtain ⟨g, hT⟩ := MAt.one (f := bareF 0 (.lf k n) lv) hM rfl rfl
  refine (toEnd_sx (fuel := fuel) N pl st (fun _ => [.lf k n]) en (.lf k' n') hen hN (hstep w0 hcl hg B) (hlast w0 hcl hg B) u ⟨ρ, _, _, g, hT, rfl, rfl, rfl, rfl, rfl, rfl, rfl, hp0.symm, by rw [hs0]; rfl, rfl⟩).mono ?_
  rintro _ u' ⟨rfl, ⟨ρ', m', h1, h2, h3, h4, h5, h6⟩⟩
  exact ⟨rfl, ρ', m', h1, h2, h3, h4, h5, h6⟩
/-- A slot loaded, and returned. -/
def awC : List In := [iv 3 0, iv 27 0]
set_option maxRecDepth 100000 in
theorem run_awake {w : World} {n : Strs} {g : Grid} (b bc : Nat) (hL : Lt1 n g w) (hc : (vCl n g b (vFn (-1) (cdL bc awC) noH)).At w) (hO : Og w) (hG : Ng w) : Calls Tryz.prog 11 #[.agg #[.slice n.ao n.len n.cap, .slice g.ao g.len g.cap, .slice (some ⟨b, 0, none⟩) 1 1], .agg #[.int .i64 1, .int .i64 7, .slice none 0 0], .slice none 0 0, .agg #[.int .i64 9, .int .i64 1, .int .i64 0]] w (RunR 1 1 7 2 w) := by
  refine run_code (cl := vCl n g b (vFn (-1) (cdL bc awC) noH)) 1 7 9 1 0 2 (fun j => j) (fun j => if j = 0 then [] else [.lf 1 7]) 1 1 7 hc (vCl_fm hL b (Or.inl rfl) (by show (2 : Nat) ≤ 2000; omega) (fun i hi => ?_) (by show (0 : Nat) ≤ 2000; omega) (fun i hi => absurd hi (Nat.not_lt_zero _))) hO hG (by kernel_rfl) ⟨by omega, by omega⟩ ⟨by omega, by omega⟩ (by omega) (by omega) (by omega) (by show (0 : Nat) < 1; omega) (by decide) (by omega) rfl rfl ?_ ?_
  · have hi2 : i < 2 := hi
    match i, hi2 with
    | 0, _ => show _ = true; kernel_rfl
    | 1, _ => show _ = true; kernel_rfl
  · intro w0 hcl hg B j u hj hS
    have hj0 : j = 0 := by omega
    subst hj0
    exact sx_load (i := 0) hS ⟨hcl, hg, by show (0 : Nat) < 2; omega, by omega, by omega, by omega, by omega⟩ rfl rfl rfl (by decide) (by show (1 : Nat) ≤ 250; omega) (by show (0 : Nat) < 8; omega)
  · intro w0 hcl hg B u hS
    exact sx_ret hS ⟨hcl, hg, by show (1 : Nat) < 2; omega, by omega, by omega, by omega, by omega⟩ rfl
/-- Two numbers, an instruction. -/
def lawC (op a b : Int) : List In := [iv 1 a, iv 1 b, iv op 0, iv 27 0, iv 5 0, iv 1 77, iv 27 0]
theorem lawC_fm {op a b : Int} (h6 : 6 ≤ op ∧ op ≤ 12) (bc : Nat) : ∀ i, i < (cdL bc (lawC op a b)).len → ((cdL bc (lawC op a b)).x i).fm 1 = true := by
  intro i hi
  have hi2 : i < 7 := hi
  have hcase : op = 6 ∨ op = 7 ∨ op = 8 ∨ op = 9 ∨ op = 10 ∨ op = 11 ∨ op = 12 := by omega
  match i, hi2 with
  | 0, _ => show _ = true; kernel_rfl
  | 1, _ => show _ = true; kernel_rfl
  | 2, _ => rcases hcase with rfl | rfl | rfl | rfl | rfl | rfl | rfl <;> (show _ = true; kernel_rfl)
  | 3, _ => show _ = true; kernel_rfl
  | 4, _ => show _ = true; kernel_rfl
  | 5, _ => show _ = true; kernel_rfl
  | 6, _ => show _ = true; kernel_rfl
section
variable {w : World} {n : Strs} {g : Grid} (b bc : Nat) {op a c : Int} (h6 : 6 ≤ op ∧ op ≤ 12) (ha : I64 a) (hc0 : I64 c) (hL : Lt1 n g w) (hO : Og w) (hG : Ng w)
include h6 ha hc0 hL hO hG
set_option maxRecDepth 100000 in
theorem run_ok (hd : Rw Hn) (hdl : hd.len ≤ 2000) (hdf : ∀ i, i < hd.len → (hd.x i).fm = true) (hc : (vCl n g b (vFn 0 (cdL bc (lawC op a c)) hd)).At w) {k m : Int} (hk : I64 k) (hm : I64 m)
    (hE : ∀ w, Calls Tryz.prog 158 #[.int .i64 op, .int .i64 a, .int .i64 c] w fun e w' => e = .returned (.tuple #[.agg #[.int .i64 k, .int .i64 m, .slice none 0 0], .bool true]) ∧ Below w.heap.size w w') :
    Calls Tryz.prog 11 #[.agg #[.slice n.ao n.len n.cap, .slice g.ao g.len g.cap, .slice (some ⟨b, 0, none⟩) 1 1], .agg #[.int .i64 1, .int .i64 0, .slice none 0 0], .slice none 0 0, .agg #[.int .i64 20, .int .i64 1, .int .i64 0]] w (RunR 1 k m 4 w) := by
  refine run_code (cl := vCl n g b (vFn 0 (cdL bc (lawC op a c)) hd)) 1 0 20 1 0 4 (fun j => j) (fun j => if j = 0 then [] else if j = 1 then [.lf 1 a] else if j = 2 then [.lf 1 a, .lf 1 c] else [.lf k m]) 1 k m hc (vCl_fm hL b (Or.inr rfl) (by show (7 : Nat) ≤ 2000; omega) (lawC_fm h6 bc) hdl hdf) hO hG (by kernel_rfl) ⟨by omega, by omega⟩ ⟨by omega, by omega⟩ (by omega) (by omega) (by omega) (by show (0 : Nat) < 1; omega) (by decide) (by omega) rfl rfl ?_ ?_
  · intro w0 hcl hg B j u hj hS
    have hcase : j = 0 ∨ j = 1 ∨ j = 2 := by omega
    rcases hcase with rfl | rfl | rfl
    · exact sx_int hS ⟨hcl, hg, by show (0 : Nat) < 7; omega, by omega, by omega, by omega, by omega⟩ rfl ha (by show (0 : Nat) < 8; omega)
    · exact sx_int hS ⟨hcl, hg, by show (1 : Nat) < 7; omega, by omega, by omega, by omega, by omega⟩ rfl hc0 (by show (1 : Nat) < 8; omega)
    · exact sx_reck (st := []) hS ⟨hcl, hg, by show (2 : Nat) < 7; omega, by omega, by omega, by omega, by omega⟩ rfl h6 (by show (0 : Nat) < 8; omega) hk hm hE
  · intro w0 hcl hg B u hS
    exact sx_ret hS ⟨hcl, hg, by show (3 : Nat) < 7; omega, by omega, by omega, by omega, by omega⟩ rfl
set_option maxRecDepth 100000 in
theorem run_no (hc : (vCl n g b (vFn 0 (cdL bc (lawC op a c)) noH)).At w) {k m : Int}
    (hE : ∀ w, Calls Tryz.prog 158 #[.int .i64 op, .int .i64 a, .int .i64 c] w fun e w' => e = .returned (.tuple #[.agg #[.int .i64 k, .int .i64 m, .slice none 0 0], .bool false]) ∧ Below w.heap.size w w') :
    Calls Tryz.prog 11 #[.agg #[.slice n.ao n.len n.cap, .slice g.ao g.len g.cap, .slice (some ⟨b, 0, none⟩) 1 1], .agg #[.int .i64 1, .int .i64 0, .slice none 0 0], .slice none 0 0, .agg #[.int .i64 20, .int .i64 1, .int .i64 0]] w (RunR 2 1 0 3 w) := by
  refine run_code (cl := vCl n g b (vFn 0 (cdL bc (lawC op a c)) noH)) 1 0 20 1 0 3 (fun j => j) (fun j => if j = 0 then [] else if j = 1 then [.lf 1 a] else [.lf 1 a, .lf 1 c]) 2 1 0 hc (vCl_fm hL b (Or.inr rfl) (by show (7 : Nat) ≤ 2000; omega) (lawC_fm h6 bc) (by show (0 : Nat) ≤ 2000; omega) (fun i hi => absurd hi (Nat.not_lt_zero _))) hO hG (by kernel_rfl) ⟨by omega, by omega⟩ ⟨by omega, by omega⟩ (by omega) (by omega) (by omega) (by show (0 : Nat) < 1; omega) (by decide) (by omega) rfl rfl ?_ ?_
  · intro w0 hcl hg B j u hj hS
    have hcase : j = 0 ∨ j = 1 := by omega
    rcases hcase with rfl | rfl
    · exact sx_int hS ⟨hcl, hg, by show (0 : Nat) < 7; omega, by omega, by omega, by omega, by omega⟩ rfl ha (by show (0 : Nat) < 8; omega)
    · exact sx_int hS ⟨hcl, hg, by show (1 : Nat) < 7; omega, by omega, by omega, by omega, by omega⟩ rfl hc0 (by show (1 : Nat) < 8; omega)
  · intro w0 hcl hg B u hS
    exact sx_rno (st := []) hS ⟨hcl, hg, by show (2 : Nat) < 7; omega, by omega, by omega, by omega, by omega⟩ rfl h6 (by show (0 : Nat) < 8; omega) rfl hE
set_option maxRecDepth 100000 in
theorem run_hn (bh : Nat) (hc : (vCl n g b (vFn 0 (cdL bc (lawC op a c)) (hdL bh [⟨0, 4, 4⟩]))).At w) {k m : Int}
    (hE : ∀ w, Calls Tryz.prog 158 #[.int .i64 op, .int .i64 a, .int .i64 c] w fun e w' => e = .returned (.tuple #[.agg #[.int .i64 k, .int .i64 m, .slice none 0 0], .bool false]) ∧ Below w.heap.size w w') :
    Calls Tryz.prog 11 #[.agg #[.slice n.ao n.len n.cap, .slice g.ao g.len g.cap, .slice (some ⟨b, 0, none⟩) 1 1], .agg #[.int .i64 1, .int .i64 0, .slice none 0 0], .slice none 0 0, .agg #[.int .i64 20, .int .i64 1, .int .i64 0]] w (RunR 1 1 77 6 w) := by
  refine run_code (cl := vCl n g b (vFn 0 (cdL bc (lawC op a c)) (hdL bh [⟨0, 4, 4⟩]))) 1 0 20 1 0 6 (fun j => if j < 3 then j else j + 1) (fun j => if j = 0 then [] else if j = 1 then [.lf 1 a] else if j = 2 then [.lf 1 a, .lf 1 c] else if j = 3 then [.lf 1 0] else if j = 4 then [] else [.lf 1 77]) 1 1 77 hc (vCl_fm hL b (Or.inr rfl) (by show (7 : Nat) ≤ 2000; omega) (lawC_fm h6 bc) (by show (1 : Nat) ≤ 2000; omega) (fun i hi => ?_)) hO hG (by kernel_rfl) ⟨by omega, by omega⟩ ⟨by omega, by omega⟩ (by omega) (by omega) (by omega) (by show (0 : Nat) < 1; omega) (by decide) (by omega) rfl rfl ?_ ?_
  · have hi0 : i = 0 := by have : i < 1 := hi; omega
    subst hi0
    show _ = true
    kernel_rfl
  · intro w0 hcl hg B j u hj hS
    have hcase : j = 0 ∨ j = 1 ∨ j = 2 ∨ j = 3 ∨ j = 4 := by omega
    rcases hcase with rfl | rfl | rfl | rfl | rfl
    · exact sx_int hS ⟨hcl, hg, by show (0 : Nat) < 7; omega, by show (0 : Nat) ≤ 1000; omega, by omega, by omega, by omega⟩ rfl ha (by show (0 : Nat) < 8; omega)
    · exact sx_int hS ⟨hcl, hg, by show (1 : Nat) < 7; omega, by show (1 : Nat) ≤ 1000; omega, by omega, by omega, by omega⟩ rfl hc0 (by show (1 : Nat) < 8; omega)
    · exact sx_rhn (st := []) (hh := 4) hS ⟨hcl, hg, by show (2 : Nat) < 7; omega, by show (2 : Nat) ≤ 1000; omega, by omega, by omega, by omega⟩ rfl h6 (by show (0 : Nat) < 8; omega) rfl hE
    · exact sx_pop (st := []) hS ⟨hcl, hg, by show (4 : Nat) < 7; omega, by show (4 : Nat) ≤ 1000; omega, by omega, by omega, by omega⟩ rfl (by show (0 : Nat) < 8; omega)
    · exact sx_int hS ⟨hcl, hg, by show (5 : Nat) < 7; omega, by show (5 : Nat) ≤ 1000; omega, by omega, by omega, by omega⟩ rfl ⟨by show (-9223372036854775808 : Int) ≤ 77; omega, by show (77 : Int) ≤ _; omega⟩ (by show (0 : Nat) < 8; omega)
  · intro w0 hcl hg B u hS
    exact sx_ret hS ⟨hcl, hg, by show (6 : Nat) < 7; omega, by show (6 : Nat) ≤ 1000; omega, by omega, by omega, by omega⟩ rfl
end
end Go.Proofs.YtmkncmmegjfipaaGreatDoor

/- Layer 18: awake. -/
namespace Go.Proofs.YtmkncmmegjfipaaGreatDoor
open Go Go.RowKit

theorem Lt1.keptV {n : Strs} {g : Grid} {w w' : World} (h : Lt1 n g w) (hb : Below w.heap.size w w') : Lt1 n g w' := ⟨h.nat.kept hb, h.gat.kept hb, h.fd, h.one, h.nm, h.le, h.rows⟩
/-- What the statements lay: a lattice, a type, code, a function in its box. -/
structure Ly (n : Strs) (g : Grid) (w : World) (X T S F : Nat) (cd : List In) (fv : List Value) (u : World) : Prop where
  l : Lt1 n g u
  bl : Below w.heap.size w u
  x : Blk u X [.slice n.ao n.len n.cap, .slice g.ao g.len g.cap] 25
  t : Blk u T (leafT 1 0).vs 53
  s : Blk u S (cd.flatMap In.vs) 60
  f : Blk u F fv 66
theorem Ly.kept {n : Strs} {g : Grid} {w : World} {X T S F : Nat} {cd : List In} {fv : List Value} {u u' : World} (h : Ly n g w X T S F cd fv u) (hb : Below u.heap.size u u') : Ly n g w X T S F cd fv u' := ⟨h.l.keptV hb, Below.next h.bl hb, h.x.kept hb, h.t.kept hb, h.s.kept hb, h.f.kept hb⟩
set_option maxRecDepth 100000 in
set_option maxHeartbeats 8000000 in
theorem awake18_any (w : World) (hO : Og w) (hG : Ng w) : Calls Tryz.prog 8 #[] w fun e w' => e = .returned (.bool true) ∧ Below w.heap.size w w' := by
  have hM := one_make w
  have HO := hyd hO
  have HG := hyd hG
  clear hO hG
  go_enter Tryz.func8, Tryz.ntmps8
  go_wp2_with fail
  refine hM.mono ?_
  rintro _ u1 ⟨n, g, rfl, hL, hb⟩
  have HL := hyd hL
  have HB := hyd hb
  clear hM hL hb
  go_upto_region 2 with fail
  have b2 := below_alloc u1 (.cells #[.slice n.ao n.len n.cap, .slice g.ao g.len g.cap] 25)
  have H2 := hyd (show (Lt1 n g (u1.alloc (.cells #[.slice n.ao n.len n.cap, .slice g.ao g.len g.cap] 25)) ∧ Below w.heap.size w (u1.alloc (.cells #[.slice n.ao n.len n.cap, .slice g.ao g.len g.cap] 25))) ∧ Blk (u1.alloc (.cells #[.slice n.ao n.len n.cap, .slice g.ao g.len g.cap] 25)) u1.heap.size [.slice n.ao n.len n.cap, .slice g.ao g.len g.cap] 25 from ⟨⟨HL.out.keptV b2, Below.next HB.out b2⟩, Blk.new u1 _ _⟩)
  clear b2 HL HB
  generalize u1.alloc (.cells #[.slice n.ao n.len n.cap, .slice g.ao g.len g.cap] 25) = u2 at *
  generalize u1.heap.size = X at *
  go_upto_region 3 with fail
  have b3 := below_alloc u2 (.cells #[.int .i64 1, .int .i64 0, .slice none 0 0, .int .i64 0, .int .i64 0] 53)
  have H3 := hyd (show ((Lt1 n g (u2.alloc (.cells #[.int .i64 1, .int .i64 0, .slice none 0 0, .int .i64 0, .int .i64 0] 53)) ∧ Below w.heap.size w (u2.alloc (.cells #[.int .i64 1, .int .i64 0, .slice none 0 0, .int .i64 0, .int .i64 0] 53))) ∧ Blk (u2.alloc (.cells #[.int .i64 1, .int .i64 0, .slice none 0 0, .int .i64 0, .int .i64 0] 53)) X [.slice n.ao n.len n.cap, .slice g.ao g.len g.cap] 25) ∧ Blk (u2.alloc (.cells #[.int .i64 1, .int .i64 0, .slice none 0 0, .int .i64 0, .int .i64 0] 53)) u2.heap.size (leafT 1 0).vs 53 from ⟨⟨⟨H2.out.1.1.keptV b3, Below.next H2.out.1.2 b3⟩, H2.out.2.kept b3⟩, Blk.new u2 _ _⟩)
  clear b3 H2
  generalize u2.alloc (.cells #[.int .i64 1, .int .i64 0, .slice none 0 0, .int .i64 0, .int .i64 0] 53) = u3 at *
  generalize u2.heap.size = T at *
  have rt : u3.rangeAt T 0 [.int .i64 1, .int .i64 0, .slice none 0 0, .int .i64 0, .int .i64 0] := H3.out.2.range
  go_upto_region 4 with (first | (refine wpList_load_mid rfl 53 (.tmp 3) rfl T 0 (by kernel_rfl) [.int .i64 1, .int .i64 0, .slice none 0 0, .int .i64 0, .int .i64 0] _ rt Tryz.underlying53 rfl (by kernel_rfl) ?_) | (refine wpList_new_mid rfl rfl 66 rfl (.tmp 4) (.tmp 17) rfl z_fn (alloc_fn _) rfl (vFn (-1) (cdL u3.heap.size awC) noH).vs.toArray (by kernel_rfl) (by kernel_rfl) rfl (by kernel_rfl) (by simpa using (vFn (-1) (cdL u3.heap.size awC) noH).vs_one) ?_))
  simp only [Act.put, List.setIfInBounds_toArray, List.set_cons_succ, List.set_cons_zero]
  have b4 := below_alloc u3 (.cells #[.int .i64 3, .int .i64 0, .int .i64 0, .int .i64 0, .slice none 0 0, .int .i64 0, .int .i64 0, .int .i64 27, .int .i64 0, .int .i64 0, .int .i64 0, .slice none 0 0, .int .i64 0, .int .i64 0] 60)
  have b5 := below_alloc (u3.alloc (.cells #[.int .i64 3, .int .i64 0, .int .i64 0, .int .i64 0, .slice none 0 0, .int .i64 0, .int .i64 0, .int .i64 27, .int .i64 0, .int .i64 0, .int .i64 0, .slice none 0 0, .int .i64 0, .int .i64 0] 60)) (.cells (vFn (-1) (cdL u3.heap.size awC) noH).vs.toArray 66)
  have bS : Blk (u3.alloc (.cells #[.int .i64 3, .int .i64 0, .int .i64 0, .int .i64 0, .slice none 0 0, .int .i64 0, .int .i64 0, .int .i64 27, .int .i64 0, .int .i64 0, .int .i64 0, .slice none 0 0, .int .i64 0, .int .i64 0] 60)) u3.heap.size (awC.flatMap In.vs) 60 := Blk.new u3 _ _
  have HLy := hyd (show Ly n g w X T u3.heap.size (u3.alloc (.cells #[.int .i64 3, .int .i64 0, .int .i64 0, .int .i64 0, .slice none 0 0, .int .i64 0, .int .i64 0, .int .i64 27, .int .i64 0, .int .i64 0, .int .i64 0, .slice none 0 0, .int .i64 0, .int .i64 0] 60)).heap.size awC (vFn (-1) (cdL u3.heap.size awC) noH).vs ((u3.alloc (.cells #[.int .i64 3, .int .i64 0, .int .i64 0, .int .i64 0, .slice none 0 0, .int .i64 0, .int .i64 0, .int .i64 27, .int .i64 0, .int .i64 0, .int .i64 0, .slice none 0 0, .int .i64 0, .int .i64 0] 60)).alloc (.cells (vFn (-1) (cdL u3.heap.size awC) noH).vs.toArray 66)) from ⟨(H3.out.1.1.1.keptV b4).keptV b5, Below.next (Below.next H3.out.1.1.2 b4) b5, (H3.out.1.2.kept b4).kept b5, (H3.out.2.kept b4).kept b5, bS.kept b5, Blk.new _ _ _⟩)
  clear b4 b5 bS H3 rt
  generalize (u3.alloc (.cells #[.int .i64 3, .int .i64 0, .int .i64 0, .int .i64 0, .slice none 0 0, .int .i64 0, .int .i64 0, .int .i64 27, .int .i64 0, .int .i64 0, .int .i64 0, .slice none 0 0, .int .i64 0, .int .i64 0] 60)).alloc (.cells (vFn (-1) (cdL u3.heap.size awC) noH).vs.toArray 66) = u5 at *
  generalize (u3.alloc (.cells #[.int .i64 3, .int .i64 0, .int .i64 0, .int .i64 0, .slice none 0 0, .int .i64 0, .int .i64 0, .int .i64 27, .int .i64 0, .int .i64 0, .int .i64 0, .slice none 0 0, .int .i64 0, .int .i64 0] 60)).heap.size = F at *
  generalize u3.heap.size = S at *
  have rl := HLy.out.x.range
  have rf : u5.rangeAt F 0 [.int .i64 1, .int .i64 0, .slice none 0 0, .int .i64 0, .int .i64 0, .int .i64 1, .int .i64 0, .slice none 0 0, .int .i64 0, .int .i64 0, .slice none 0 0, .int .i64 0, .int .i64 (-1), .int .i64 1, .slice (some ⟨S, 0, none⟩) 2 2, .slice none 0 0, .slice none 0 0, .slice none 0 0] := HLy.out.f.range
  go_wp2_with (first | (refine wpList_load_mid rfl 25 (.tmp 1) rfl X 0 (by kernel_rfl) [.slice n.ao n.len n.cap, .slice g.ao g.len g.cap] _ rl Tryz.underlying25 rfl (by kernel_rfl) ?_) | (refine wpList_load_mid rfl 66 (.tmp 4) rfl F 0 (by kernel_rfl) [.int .i64 1, .int .i64 0, .slice none 0 0, .int .i64 0, .int .i64 0, .int .i64 1, .int .i64 0, .slice none 0 0, .int .i64 0, .int .i64 0, .slice none 0 0, .int .i64 0, .int .i64 (-1), .int .i64 1, .slice (some ⟨S, 0, none⟩) 2 2, .slice none 0 0, .slice none 0 0, .slice none 0 0] _ rf Tryz.underlying66 rfl (by kernel_rfl) ?_))
  have b6 := below_alloc u5 (.cells #[.int .i64 1, .int .i64 0, .slice none 0 0, .int .i64 0, .int .i64 0, .int .i64 1, .int .i64 0, .slice none 0 0, .int .i64 0, .int .i64 0, .slice none 0 0, .int .i64 0, .int .i64 (-1), .int .i64 1, .slice (some ⟨S, 0, none⟩) 2 2, .slice none 0 0, .slice none 0 0, .slice none 0 0] 66)
  have H6 := hyd (HLy.out.kept b6)
  have bF6 : Blk (u5.alloc (.cells #[.int .i64 1, .int .i64 0, .slice none 0 0, .int .i64 0, .int .i64 0, .int .i64 1, .int .i64 0, .slice none 0 0, .int .i64 0, .int .i64 0, .slice none 0 0, .int .i64 0, .int .i64 (-1), .int .i64 1, .slice (some ⟨S, 0, none⟩) 2 2, .slice none 0 0, .slice none 0 0, .slice none 0 0] 66)) u5.heap.size (vFn (-1) (cdL S awC) noH).vs 66 := Blk.new u5 _ _
  have HC6 := hyd (show (vCl n g u5.heap.size (vFn (-1) (cdL S awC) noH)).At (u5.alloc (.cells #[.int .i64 1, .int .i64 0, .slice none 0 0, .int .i64 0, .int .i64 0, .int .i64 1, .int .i64 0, .slice none 0 0, .int .i64 0, .int .i64 0, .slice none 0 0, .int .i64 0, .int .i64 (-1), .int .i64 1, .slice (some ⟨S, 0, none⟩) 2 2, .slice none 0 0, .slice none 0 0, .slice none 0 0] 66)) from vCl_at H6.out.l.nat H6.out.l.gat bF6 (vFn_at ⟨by omega, by omega⟩ (cdL_at H6.out.s (by show (2 : Nat) ≤ 1000; omega) (fun x hx => by
    simp only [awC, List.mem_cons, List.not_mem_nil, or_false] at hx
    rcases hx with rfl | rfl <;> exact ⟨⟨by show (-9223372036854775808 : Int) ≤ _; decide, by show _ ≤ (9223372036854775807 : Int); decide⟩, ⟨by show (-9223372036854775808 : Int) ≤ 0; omega, by show (0 : Int) ≤ _; omega⟩, leaf_at _ _ _⟩)) (nilRw_at _ _ _ _ _)))
  clear b6 bF6 rl rf HLy
  generalize u5.alloc (.cells #[.int .i64 1, .int .i64 0, .slice none 0 0, .int .i64 0, .int .i64 0, .int .i64 1, .int .i64 0, .slice none 0 0, .int .i64 0, .int .i64 0, .slice none 0 0, .int .i64 0, .int .i64 (-1), .int .i64 1, .slice (some ⟨S, 0, none⟩) 2 2, .slice none 0 0, .slice none 0 0, .slice none 0 0] 66) = u6 at *
  generalize u5.heap.size = FS at *
  refine (run_awake FS S H6.out.l HC6.out (fun i hi => up H6.out.bl (HO.out i hi)) (HG.out.kept H6.out.bl)).mono ?_
  rintro _ u7 ⟨⟨aot, capt, ao, cap, rfl⟩, hb7⟩
  have HB7 := hyd (Below.next H6.out.bl hb7)
  clear hb7 H6 HC6
  go_wp2
  go_ret
  exact ⟨rfl, Below.next HB7.out (below_alloc _ _)⟩
end Go.Proofs.YtmkncmmegjfipaaGreatDoor

/- Layer 18: outcomes of leaves without events and cells, compared. -/
namespace Go.Proofs.YtmkncmmegjfipaaGreatDoor
open Go Go.RowKit

set_option maxRecDepth 100000 in
set_option maxHeartbeats 2000000 in
theorem same_tr0 (a b : Option Addr) (ca cb : Nat) (w : World) : Calls Tryz.prog 13 #[.slice a 0 ca, .slice b 0 cb] w fun e w' => e = .returned (.bool true) ∧ Below w.heap.size w w' := by
  go_enter Tryz.func13, Tryz.ntmps13
  go_wp2
  go_loopw [5] (fun i wr => i = .int .i64 0 ∧ wr = w) (fun _ _ => 0)
  case atStart => exact ⟨rfl, rfl⟩
  case round =>
    obtain ⟨rfl, rfl⟩ := hrel
    go_wp2
    go_ret
    exact ⟨rfl, Below.refl _ _⟩
set_option maxRecDepth 100000 in
set_option maxHeartbeats 2000000 in
theorem same_ce0 (a b : Option Addr) (ca cb : Nat) (w : World) : Calls Tryz.prog 14 #[.slice a 0 ca, .slice b 0 cb] w fun e w' => e = .returned (.bool true) ∧ Below w.heap.size w w' := by
  go_enter Tryz.func14, Tryz.ntmps14
  go_wp2
  go_loopw [5] (fun i wr => i = .int .i64 0 ∧ wr = w) (fun _ _ => 0)
  case atStart => exact ⟨rfl, rfl⟩
  case round =>
    obtain ⟨rfl, rfl⟩ := hrel
    go_wp2
    go_ret
    exact ⟨rfl, Below.refl _ _⟩
def oV (en k n s : Int) (aot : Option Addr) (ct : Nat) (ao : Option Addr) (ca : Nat) : List Value := [.int .i64 en, .int .i64 k, .int .i64 n, .slice none 0 0, .slice aot 0 ct, .slice ao 0 ca, .int .i64 s]
/-- Their boxes. -/
structure So (w : World) (x y : List Value) (u : World) : Prop where
  a : Blk u w.heap.size x 42
  b : Blk u (w.heap.size + 1) y 42
  bl : Below w.heap.size w u
theorem So.kept {w : World} {x y : List Value} {u u' : World} (h : So w x y u) (hb : Below u.heap.size u u') : So w x y u' := ⟨h.a.kept hb, h.b.kept hb, Below.next h.bl hb⟩
set_option maxRecDepth 100000 in
set_option maxHeartbeats 8000000 in
theorem same_out (en k n s : Int) (t1 : Option Addr) (c1 : Nat) (a1 : Option Addr) (d1 : Nat) (t2 : Option Addr) (c2 : Nat) (a2 : Option Addr) (d2 : Nat) (w : World) :
    Calls Tryz.prog 10 #[.agg #[.int .i64 en, .int .i64 k, .int .i64 n, .slice none 0 0, .slice t1 0 c1, .slice a1 0 d1, .int .i64 s], .agg #[.int .i64 en, .int .i64 k, .int .i64 n, .slice none 0 0, .slice t2 0 c2, .slice a2 0 d2, .int .i64 s]] w fun e w' => e = .returned (.bool true) ∧ Below w.heap.size w w' := by
  have BB := allocs_below [.cells #[.int .i64 en, .int .i64 k, .int .i64 n, .slice none 0 0, .slice t1 0 c1, .slice a1 0 d1, .int .i64 s] 42, .cells #[.int .i64 en, .int .i64 k, .int .i64 n, .slice none 0 0, .slice t2 0 c2, .slice a2 0 d2, .int .i64 s] 42] w
  have SS := allocs_heap [.cells #[.int .i64 en, .int .i64 k, .int .i64 n, .slice none 0 0, .slice t1 0 c1, .slice a1 0 d1, .int .i64 s] 42, .cells #[.int .i64 en, .int .i64 k, .int .i64 n, .slice none 0 0, .slice t2 0 c2, .slice a2 0 d2, .int .i64 s] 42] w
  simp only [List.foldl, List.length] at BB SS
  have HX := hyd (show So w (oV en k n s t1 c1 a1 d1) (oV en k n s t2 c2 a2 d2) _ from ⟨SS 0 (by simp), SS 1 (by simp), BB⟩)
  clear BB SS
  have e1 : (en == en) = true := by simp
  have e2 : (s == s) = true := by simp
  go_enter Tryz.func10, Tryz.ntmps10
  go_upto_region 1 with fail
  have HX : Hid (So w (oV en k n s t1 c1 a1 d1) (oV en k n s t2 c2 a2 d2) ((w.alloc (.cells #[.int .i64 en, .int .i64 k, .int .i64 n, .slice none 0 0, .slice t1 0 c1, .slice a1 0 d1, .int .i64 s] 42)).alloc (.cells #[.int .i64 en, .int .i64 k, .int .i64 n, .slice none 0 0, .slice t2 0 c2, .slice a2 0 d2, .int .i64 s] 42))) := HX
  generalize (w.alloc (.cells #[.int .i64 en, .int .i64 k, .int .i64 n, .slice none 0 0, .slice t1 0 c1, .slice a1 0 d1, .int .i64 s] 42)).alloc (.cells #[.int .i64 en, .int .i64 k, .int .i64 n, .slice none 0 0, .slice t2 0 c2, .slice a2 0 d2, .int .i64 s] 42) = u1 at *
  have x0 := HX.out.a.cell 0 rfl
  have x1 := HX.out.a.cell 1 rfl
  have x2 := HX.out.a.cell 2 rfl
  have x3 := HX.out.a.cell 3 rfl
  have x4 := HX.out.a.cell 4 rfl
  have x5 := HX.out.a.cell 5 rfl
  have x6 := HX.out.a.cell 6 rfl
  have y0 := HX.out.b.cell 0 rfl
  have y1 := HX.out.b.cell 1 rfl
  have y2 := HX.out.b.cell 2 rfl
  have y3 := HX.out.b.cell 3 rfl
  have y4 := HX.out.b.cell 4 rfl
  have y5 := HX.out.b.cell 5 rfl
  have y6 := HX.out.b.cell 6 rfl
  go_wp2_with fail
  refine (ev_rsame k n u1).mono ?_
  rintro _ u2 ⟨rfl, hb⟩
  have HX2 := hyd (HX.out.kept hb)
  clear x0 x1 x2 x3 x4 x5 x6 y0 y1 y2 y3 y4 y5 y6
  clear HX hb
  have x0 := HX2.out.a.cell 0 rfl
  have x1 := HX2.out.a.cell 1 rfl
  have x2 := HX2.out.a.cell 2 rfl
  have x3 := HX2.out.a.cell 3 rfl
  have x4 := HX2.out.a.cell 4 rfl
  have x5 := HX2.out.a.cell 5 rfl
  have x6 := HX2.out.a.cell 6 rfl
  have y0 := HX2.out.b.cell 0 rfl
  have y1 := HX2.out.b.cell 1 rfl
  have y2 := HX2.out.b.cell 2 rfl
  have y3 := HX2.out.b.cell 3 rfl
  have y4 := HX2.out.b.cell 4 rfl
  have y5 := HX2.out.b.cell 5 rfl
  have y6 := HX2.out.b.cell 6 rfl
  go_wp2_with fail
  refine (same_tr0 t1 t2 c1 c2 u2).mono ?_
  rintro _ u3 ⟨rfl, hb⟩
  have HX3 := hyd (HX2.out.kept hb)
  clear x0 x1 x2 x3 x4 x5 x6 y0 y1 y2 y3 y4 y5 y6
  clear HX2 hb
  have x0 := HX3.out.a.cell 0 rfl
  have x1 := HX3.out.a.cell 1 rfl
  have x2 := HX3.out.a.cell 2 rfl
  have x3 := HX3.out.a.cell 3 rfl
  have x4 := HX3.out.a.cell 4 rfl
  have x5 := HX3.out.a.cell 5 rfl
  have x6 := HX3.out.a.cell 6 rfl
  have y0 := HX3.out.b.cell 0 rfl
  have y1 := HX3.out.b.cell 1 rfl
  have y2 := HX3.out.b.cell 2 rfl
  have y3 := HX3.out.b.cell 3 rfl
  have y4 := HX3.out.b.cell 4 rfl
  have y5 := HX3.out.b.cell 5 rfl
  have y6 := HX3.out.b.cell 6 rfl
  go_wp2_with fail
  refine (same_ce0 a1 a2 d1 d2 u3).mono ?_
  rintro _ u4 ⟨rfl, hb⟩
  have HX4 := hyd (HX3.out.kept hb)
  clear x0 x1 x2 x3 x4 x5 x6 y0 y1 y2 y3 y4 y5 y6
  clear HX3 hb
  go_wp2
  go_ret
  exact ⟨rfl, HX4.out.bl⟩
end Go.Proofs.YtmkncmmegjfipaaGreatDoor
