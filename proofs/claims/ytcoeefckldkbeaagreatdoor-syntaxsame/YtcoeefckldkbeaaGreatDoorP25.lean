/- A type that comes in, opened. -/
import Derived.Test.YtcoeefckldkbeaaGreatDoorP24
import Derived.Test.YtcoeefckldkbeaaGreatDoorP7
import Derived.Test.YtcoeefckldkbeaaGreatDoorP9
import Derived.ProofKit
import Derived.Deep.Grids
import Derived.Lib.SmallJoins
namespace Go.Proofs.YtcoeefckldkbeaaGreatDoor
open Go.ChangeShapes Go.WideShapes Go.ChangeAt Go.RowKit Go.Deep Go.Joins

theorem Tryz.cellsInt' : Tryz.prog.cellsOf 3 = 1 := by kernel_rfl
theorem Tryz.cellsTys : Tryz.prog.cellsOf 22 = 1 := by kernel_rfl
theorem Tryz.cellsTy : Tryz.prog.cellsOf 24 = 5 := by kernel_rfl

section
variable {H : Type} {enc : TypeId × Value → H} {W : World} {base : Nat}

def Ty.cs (t : Ty) : List Value := [.int .i64 t.k, .int .i64 t.l, .slice t.ao t.len t.cap, .int .i64 t.h, .int .i64 t.e]

set_option maxRecDepth 100000 in
theorem open_ty : ∀ (fuel : Nat) (cs : List Value) (x : DataW H × List MemPlace), DataW.trod enc Tryz.prog W base (fun _ => true) true fuel 24 cs = some x → ∃ t : Ty, cs = t.cs ∧ t.At W := by
  intro fuel
  induction fuel using Nat.strongRecOn with
  | _ fuel ih =>
    intro cs x h
    obtain ⟨xs, n, rfl, _, hl, hlen, hf⟩ := DataW.trod_struct Tryz.underlying24 h
    rw [Tryz.cellsTy] at hl
    match cs, hl with
    | [c0, c1, c2, c3, c4], _ =>
      have hlen5 : xs.length = 5 := hlen
      match xs, hlen5 with
      | [y0, y1, y2, y3, y4], _ =>
        have f0 : DataW.trod enc Tryz.prog W base (fun _ => true) true n 3 [c0] = some y0 := by simpa [Tryz.cellsInt'] using hf 0 _ rfl
        have f1 : DataW.trod enc Tryz.prog W base (fun _ => true) true n 3 [c1] = some y1 := by simpa [Tryz.cellsInt'] using hf 1 _ rfl
        have f2 : DataW.trod enc Tryz.prog W base (fun _ => true) true n 22 [c2] = some y2 := by simpa [Tryz.cellsTys] using hf 2 _ rfl
        have f3 : DataW.trod enc Tryz.prog W base (fun _ => true) true n 3 [c3] = some y3 := by simpa [Tryz.cellsInt'] using hf 3 _ rfl
        have f4 : DataW.trod enc Tryz.prog W base (fun _ => true) true n 3 [c4] = some y4 := by simpa [Tryz.cellsInt'] using hf 4 _ rfl
        obtain ⟨k, q0, _⟩ := DataW.trod_int Tryz.underlying3 f0
        obtain ⟨l, q1, _⟩ := DataW.trod_int Tryz.underlying3 f1
        obtain ⟨hh, q3, _⟩ := DataW.trod_int Tryz.underlying3 f3
        obtain ⟨e, q4, _⟩ := DataW.trod_int Tryz.underlying3 f4
        simp only [List.cons.injEq, and_true] at q0 q1 q3 q4
        subst q0 q1 q3 q4
        rcases DataW.trod_slice Tryz.underlying22 f2 with ⟨hcs, _⟩ | ⟨a, len, cap, elems, rest, m, hm, hcs, _, _, hlc, hmx, hel, hx, _, _⟩
        · simp only [List.cons.injEq, and_true] at hcs
          subst hcs
          exact ⟨.mk k l hh e none 0 0 0 0 (fun _ => .dm), rfl, ⟨fun h => absurd h (Nat.lt_irrefl _), Nat.zero_le _, fun _ h => absurd h (Nat.not_lt_zero _)⟩⟩
        · simp only [List.cons.injEq, and_true] at hcs
          subst hcs hm
          unfold maxLen at hmx
          have each : ∀ i, i < len → ∃ t : Ty, (∀ j, j < 5 → W.cell? (a.add (i * 5 + j)) = t.cs[j]?) ∧ t.At W := by
            intro i hi
            have h1 := hx i hi
            rw [Tryz.cellsTy] at h1
            cases hc : W.cells? base (a.add (i * 5)) 5 with
            | none => rw [hc] at h1; simp at h1; omega
            | some cs' =>
              rw [hc] at h1
              have h2 : DataW.trod enc Tryz.prog W base (fun _ => true) true m 24 cs' = some elems[i] := by
                rw [List.getElem?_eq_getElem (by omega)] at h1
                simpa using h1
              obtain ⟨t, rfl, hA⟩ := ih m (by omega) cs' _ h2
              obtain ⟨_, _, hcell⟩ := World.cells?_some hc
              exact ⟨t, fun j hj => by rw [← hcell j hj, add_add], hA⟩
          have hspot : 0 < len → a = ⟨a.block, a.off, none⟩ := fun hp => by
            obtain ⟨t, ht, _⟩ := each 0 hp
            have hs := World.cell?_spot (a := a.add (0 * 5 + 0)) (v := .int .i64 t.k) (by rw [ht 0 (by omega)]; rfl)
            obtain ⟨ab, ao, asp⟩ := a
            have : asp = none := by simpa [Addr.add] using hs
            subst this; rfl
          refine ⟨.mk k l hh e (some a) a.block a.off len cap (fun i => if h : i < len then Classical.choose (each i h) else .dm), rfl, ⟨fun hp => congrArg some (hspot hp), by omega, fun i hi => ?_⟩⟩
          simp only [dif_pos hi]
          obtain ⟨ht, hA⟩ := Classical.choose_spec (each i hi)
          generalize Classical.choose (each i hi) = t at ht hA
          have ea := hspot (by omega)
          have get : ∀ j, j < 5 → W.cell? ⟨a.block, a.off + i * 5 + j, none⟩ = t.cs[j]? := fun j hj => by
            have := ht j hj
            rw [ea, addr_plain, ← Nat.add_assoc] at this
            exact this
          exact ⟨⟨get 0 (by omega), get 1 (by omega), get 2 (by omega), get 3 (by omega), get 4 (by omega)⟩, hA⟩
set_option maxRecDepth 100000 in
theorem open_type {v : Value} {d : DataW H} {p : List MemPlace} {b0 : Nat} (hv : Value.okWide Tryz.prog W .any b0 24 v) (h : DataW.Trod enc Tryz.prog W base (fun _ => true) true 24 v d p) :
    ∃ t : Ty, v = .agg #[.int .i64 t.k, .int .i64 t.l, .slice t.ao t.len t.cap, .int .i64 t.h, .int .i64 t.e] ∧ t.At W := by
  obtain ⟨cs, rfl, _⟩ := okWide_struct Tryz.underlying24 hv
  obtain ⟨fuel, hf⟩ := h
  obtain ⟨t, ht, hA⟩ := open_ty fuel _ _ hf
  refine ⟨t, ?_, hA⟩
  have : cs.toList = t.cs := by simpa [Value.cells] using ht
  obtain ⟨l⟩ := cs
  have e : l = t.cs := this
  rw [e]; rfl

end
end Go.Proofs.YtcoeefckldkbeaaGreatDoor

/- An expression that comes in, opened. -/
namespace Go.Proofs.YtcoeefckldkbeaaGreatDoor
open Go.ChangeShapes Go.WideShapes Go.ChangeAt Go.RowKit Go.Deep Go.Joins

theorem Tryz.xInt : Tryz.prog.cellsOf 3 = 1 := by kernel_rfl
theorem Tryz.xInt64 : Tryz.prog.cellsOf 2 = 1 := by kernel_rfl
theorem Tryz.xStr : Tryz.prog.cellsOf 9 = 1 := by kernel_rfl
theorem Tryz.xExs : Tryz.prog.cellsOf 25 = 1 := by kernel_rfl
theorem Tryz.xEx : Tryz.prog.cellsOf 27 = 17 := by kernel_rfl
theorem addr_ex (b off i : Nat) : (⟨b, off, none⟩ : Addr).add i = ⟨b, off + i, none⟩ := by unfold Addr.add; split <;> simp_all
theorem wf_ex {n : Int} (h : (Lit.int .i64 n).wf = true) : -9223372036854775808 ≤ n ∧ n ≤ 9223372036854775807 := by
  have h' : IntKind.i64.min ≤ n ∧ n ≤ IntKind.i64.max := by simpa [Lit.wf] using h
  have e1 : IntKind.i64.min = -9223372036854775808 := by decide
  have e2 : IntKind.i64.max = 9223372036854775807 := by decide
  omega
/-- Its numbers are those of Go. -/
def i64B (x : Int) : Prop := -9223372036854775808 ≤ x ∧ x ≤ 9223372036854775807
def Ex.rng : Ex → Prop
  | .dm => False
  | .mk k n m _ _ _ _ _ _ _ len _ ps pl => (i64B k ∧ i64B n ∧ i64B m ∧ i64B pl) ∧ ∀ i, i < len → Ex.rng (ps i)

section
variable {H : Type} {enc : TypeId × Value → H} {W : World} {base : Nat}

set_option maxRecDepth 100000 in
theorem open_ex : ∀ (fuel : Nat) (cs : List Value) (x : DataW H × List MemPlace), DataW.trod enc Tryz.prog W base (fun _ => true) true fuel 27 cs = some x → ∃ t : Ex, cs = t.vs ∧ t.At W ∧ t.rng := by
  intro fuel
  induction fuel using Nat.strongRecOn with
  | _ fuel ih =>
    intro cs x h
    obtain ⟨xs, n, rfl, _, hl, hlen, hf⟩ := DataW.trod_struct Tryz.underlying27 h
    rw [Tryz.xEx] at hl
    match cs, hl with
    | [c0, c1, c2, c3, c4, c5, c6, c7, c8, c9, c10, c11, c12, c13, c14, c15, c16], _ =>
      have hlen3 : xs.length = 9 := hlen
      match xs, hlen3 with
      | [y0, y1, y2, y3, y4, y5, y6, y7, y8], _ =>
        have f0 : DataW.trod enc Tryz.prog W base (fun _ => true) true n 3 [c0] = some y0 := by simpa [Tryz.xInt] using hf 0 _ rfl
        have f1 : DataW.trod enc Tryz.prog W base (fun _ => true) true n 2 [c1] = some y1 := by simpa [Tryz.xInt64] using hf 1 _ rfl
        have f2 : DataW.trod enc Tryz.prog W base (fun _ => true) true n 2 [c2] = some y2 := by simpa [Tryz.xInt64] using hf 2 _ rfl
        have f3 : DataW.trod enc Tryz.prog W base (fun _ => true) true n 9 [c3] = some y3 := by simpa [Tryz.xStr] using hf 3 _ rfl
        have f4 : DataW.trod enc Tryz.prog W base (fun _ => true) true n 9 [c4] = some y4 := by simpa [Tryz.xStr] using hf 4 _ rfl
        have f5 : DataW.trod enc Tryz.prog W base (fun _ => true) true n 24 [c5, c6, c7, c8, c9] = some y5 := by simpa [Tryz.cellsTy] using hf 5 _ rfl
        have f6 : DataW.trod enc Tryz.prog W base (fun _ => true) true n 24 [c10, c11, c12, c13, c14] = some y6 := by simpa [Tryz.cellsTy] using hf 6 _ rfl
        have f7 : DataW.trod enc Tryz.prog W base (fun _ => true) true n 25 [c15] = some y7 := by simpa [Tryz.xExs] using hf 7 _ rfl
        have f8 : DataW.trod enc Tryz.prog W base (fun _ => true) true n 3 [c16] = some y8 := by simpa [Tryz.xInt] using hf 8 _ rfl
        obtain ⟨k, q0, _, wk⟩ := DataW.trod_int Tryz.underlying3 f0
        obtain ⟨n0, q1, _, wn⟩ := DataW.trod_int Tryz.underlying2 f1
        obtain ⟨m0, q2, _, wm⟩ := DataW.trod_int Tryz.underlying2 f2
        obtain ⟨tx, q3, _, ht⟩ := DataW.trod_string Tryz.underlying9 f3
        obtain ⟨ar, q4, _, ha⟩ := DataW.trod_string Tryz.underlying9 f4
        obtain ⟨ty, q5, hty⟩ := open_ty _ _ _ f5
        obtain ⟨gv, q6, hgv⟩ := open_ty _ _ _ f6
        obtain ⟨pl, q8, _, wp⟩ := DataW.trod_int Tryz.underlying3 f8
        simp only [List.cons.injEq, and_true] at q0 q1 q2 q3 q4 q8
        subst q0 q1 q2 q3 q4 q8
        simp only [Ty.cs, List.cons.injEq, and_true] at q5 q6
        obtain ⟨rfl, rfl, rfl, rfl, rfl⟩ := q5
        obtain ⟨rfl, rfl, rfl, rfl, rfl⟩ := q6
        unfold maxLen at ht ha
        rcases DataW.trod_slice Tryz.underlying25 f7 with ⟨hcs, _⟩ | ⟨a, len, cap, elems, rest, m, hm, hcs, _, _, hlc, hmx, hel, hx, _, _⟩
        · simp only [List.cons.injEq, and_true] at hcs
          subst hcs
          exact ⟨.mk k n0 m0 tx ar ty gv none 0 0 0 0 (fun _ => .dm) pl, rfl, ⟨⟨by omega, by omega⟩, ⟨hty, hgv⟩, fun h => absurd h (Nat.lt_irrefl _), Nat.zero_le _, fun _ h => absurd h (Nat.not_lt_zero _)⟩, ⟨⟨wf_ex wk, wf_ex wn, wf_ex wm, wf_ex wp⟩, fun _ h => absurd h (Nat.not_lt_zero _)⟩⟩
        · simp only [List.cons.injEq, and_true] at hcs
          subst hcs hm
          unfold maxLen at hmx
          have each : ∀ i, i < len → ∃ t : Ex, (∀ j, j < 17 → W.cell? (a.add (i * 17 + j)) = t.vs[j]?) ∧ t.At W ∧ t.rng := by
            intro i hi
            have h1 := hx i hi
            rw [Tryz.xEx] at h1
            cases hc : W.cells? base (a.add (i * 17)) 17 with
            | none => rw [hc] at h1; simp at h1; omega
            | some cs' =>
              rw [hc] at h1
              have h2 : DataW.trod enc Tryz.prog W base (fun _ => true) true m 27 cs' = some elems[i] := by
                rw [List.getElem?_eq_getElem (by omega)] at h1
                simpa using h1
              obtain ⟨t, rfl, hA⟩ := ih m (by omega) cs' _ h2
              obtain ⟨_, _, hcell⟩ := World.cells?_some hc
              exact ⟨t, fun j hj => by rw [← hcell j hj, add_add], hA⟩
          have hspot : 0 < len → a = ⟨a.block, a.off, none⟩ := fun hp => by
            obtain ⟨t, ht, _⟩ := each 0 hp
            have hs := World.cell?_spot (a := a.add (0 * 17 + 0)) (v := .int .i64 t.k) (by rw [ht 0 (by omega)]; rfl)
            obtain ⟨ab, ao, asp⟩ := a
            have : asp = none := by simpa [Addr.add] using hs
            subst this; rfl
          refine ⟨.mk k n0 m0 tx ar ty gv (some a) a.block a.off len cap (fun i => if h : i < len then Classical.choose (each i h) else .dm) pl, rfl, ⟨⟨by omega, by omega⟩, ⟨hty, hgv⟩, fun hp => congrArg some (hspot hp), by omega, fun i hi => ?_⟩, ⟨⟨wf_ex wk, wf_ex wn, wf_ex wm, wf_ex wp⟩, fun i hi => ?_⟩⟩
          · simp only [dif_pos hi]
            obtain ⟨ht, hA, _⟩ := Classical.choose_spec (each i hi)
            generalize Classical.choose (each i hi) = t at ht hA
            have ea := hspot (by omega)
            have get : ∀ j, j < 17 → W.cell? ⟨a.block, a.off + i * 17 + j, none⟩ = t.vs[j]? := fun j hj => by
              have := ht j hj
              rw [ea, addr_ex, ← Nat.add_assoc] at this
              exact this
            exact ⟨⟨get 0 (by omega), get 1 (by omega), get 2 (by omega), get 3 (by omega), get 4 (by omega), get 5 (by omega), get 6 (by omega), get 7 (by omega), get 8 (by omega), get 9 (by omega), get 10 (by omega), get 11 (by omega), get 12 (by omega), get 13 (by omega), get 14 (by omega), get 15 (by omega), get 16 (by omega)⟩, hA⟩
          · simp only [dif_pos hi]
            exact (Classical.choose_spec (each i hi)).2.2
set_option maxRecDepth 100000 in
theorem open_expr {v : Value} {d : DataW H} {p : List MemPlace} {b0 : Nat} (hv : Value.okWide Tryz.prog W .any b0 27 v) (h : DataW.Trod enc Tryz.prog W base (fun _ => true) true 27 v d p) :
    ∃ t : Ex, v = .agg #[.int .i64 t.k, .int .i64 t.n, .int .i64 t.m, .string t.tx, .string t.ar, .int .i64 t.ty.k, .int .i64 t.ty.l, .slice t.ty.ao t.ty.len t.ty.cap, .int .i64 t.ty.h, .int .i64 t.ty.e, .int .i64 t.gv.k, .int .i64 t.gv.l, .slice t.gv.ao t.gv.len t.gv.cap, .int .i64 t.gv.h, .int .i64 t.gv.e, .slice t.ao t.len t.cap, .int .i64 t.pl] ∧ t.At W ∧ t.rng := by
  obtain ⟨cs, rfl, _⟩ := okWide_struct Tryz.underlying27 hv
  obtain ⟨fuel, hf⟩ := h
  obtain ⟨t, ht, hA⟩ := open_ex fuel _ _ hf
  refine ⟨t, ?_, hA⟩
  have : cs.toList = t.vs := by simpa [Value.cells] using ht
  obtain ⟨l⟩ := cs
  have e : l = t.vs := this
  rw [e]; rfl
end
end Go.Proofs.YtcoeefckldkbeaaGreatDoor
