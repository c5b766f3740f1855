/- A type that comes in, opened. -/
import Derived.Test.YtnkipiegjpjfbaaGreatDoorP24
import Derived.Test.YtnkipiegjpjfbaaGreatDoorP7
import Derived.Test.YtnkipiegjpjfbaaGreatDoorP23
import Derived.ProofKit
import Derived.Deep.Grids
import Derived.Lib.SmallJoins
import Derived.Test.YtnkipiegjpjfbaaGreatDoorP14
import Derived.Test.YtnkipiegjpjfbaaGreatDoorP17
namespace Go.Proofs.YtnkipiegjpjfbaaGreatDoor
open Go.ChangeShapes Go.WideShapes Go.ChangeAt Go.RowKit Go.Deep Go.Joins

theorem Tryz.cellsInt' : Tryz.prog.cellsOf 3 = 1 := by kernel_rfl
theorem Tryz.cellsTys : Tryz.prog.cellsOf 30 = 1 := by kernel_rfl
theorem Tryz.cellsTy : Tryz.prog.cellsOf 32 = 5 := by kernel_rfl

section
variable {H : Type} {enc : TypeId × Value → H} {W : World} {base : Nat}

def Ty.cs (t : Ty) : List Value := [.int .i64 t.k, .int .i64 t.l, .slice t.ao t.len t.cap, .int .i64 t.h, .int .i64 t.e]

set_option maxRecDepth 100000 in
theorem open_ty : ∀ (fuel : Nat) (cs : List Value) (x : DataW H × List MemPlace), DataW.trod enc Tryz.prog W base (fun _ => true) true fuel 32 cs = some x → ∃ t : Ty, cs = t.cs ∧ t.At W := by
  intro fuel
  induction fuel using Nat.strongRecOn with
  | _ fuel ih =>
    intro cs x h
    obtain ⟨xs, n, rfl, _, hl, hlen, hf⟩ := DataW.trod_struct Tryz.underlying32 h
    rw [Tryz.cellsTy] at hl
    match cs, hl with
    | [c0, c1, c2, c3, c4], _ =>
      have hlen5 : xs.length = 5 := hlen
      match xs, hlen5 with
      | [y0, y1, y2, y3, y4], _ =>
        have f0 : DataW.trod enc Tryz.prog W base (fun _ => true) true n 3 [c0] = some y0 := by simpa [Tryz.cellsInt'] using hf 0 _ rfl
        have f1 : DataW.trod enc Tryz.prog W base (fun _ => true) true n 3 [c1] = some y1 := by simpa [Tryz.cellsInt'] using hf 1 _ rfl
        have f2 : DataW.trod enc Tryz.prog W base (fun _ => true) true n 30 [c2] = some y2 := by simpa [Tryz.cellsTys] using hf 2 _ rfl
        have f3 : DataW.trod enc Tryz.prog W base (fun _ => true) true n 3 [c3] = some y3 := by simpa [Tryz.cellsInt'] using hf 3 _ rfl
        have f4 : DataW.trod enc Tryz.prog W base (fun _ => true) true n 3 [c4] = some y4 := by simpa [Tryz.cellsInt'] using hf 4 _ rfl
        obtain ⟨k, q0, _⟩ := DataW.trod_int Tryz.underlying3 f0
        obtain ⟨l, q1, _⟩ := DataW.trod_int Tryz.underlying3 f1
        obtain ⟨hh, q3, _⟩ := DataW.trod_int Tryz.underlying3 f3
        obtain ⟨e, q4, _⟩ := DataW.trod_int Tryz.underlying3 f4
        simp only [List.cons.injEq, and_true] at q0 q1 q3 q4
        subst q0 q1 q3 q4
        rcases DataW.trod_slice Tryz.underlying30 f2 with ⟨hcs, _⟩ | ⟨a, len, cap, elems, rest, m, hm, hcs, _, _, hlc, hmx, hel, hx, _, _⟩
        · simp only [List.cons.injEq, and_true] at hcs
          subst hcs
          exact ⟨.mk k l hh e none 0 0 0 0 (fun _ => .dm), rfl, ⟨fun h => absurd h (Nat.lt_irrefl _), Nat.zero_le _, fun _ h => absurd h (Nat.not_lt_zero _)⟩⟩
        · simp only [List.cons.injEq, and_true] at hcs
          subst hcs hm
          unfold maxLen at hmx
          have each : ∀ i, i < len → ∃ t : Ty, (∀ j, j < 5 → W.cell? (a.add (i * 5 + j)) = t.cs[j]?) ∧ t.At W := by
            intro i hi
            have h1 := hx i hi
            rw [Tryz.cellsTy] at h1
            cases hc : W.cells? base (a.add (i * 5)) 5 with
            | none => rw [hc] at h1; simp at h1; omega
            | some cs' =>
              rw [hc] at h1
              have h2 : DataW.trod enc Tryz.prog W base (fun _ => true) true m 32 cs' = some elems[i] := by
                rw [List.getElem?_eq_getElem (by omega)] at h1
                simpa using h1
              obtain ⟨t, rfl, hA⟩ := ih m (by omega) cs' _ h2
              obtain ⟨_, _, hcell⟩ := World.cells?_some hc
              exact ⟨t, fun j hj => by rw [← hcell j hj, add_add], hA⟩
          have hspot : 0 < len → a = ⟨a.block, a.off, none⟩ := fun hp => by
            obtain ⟨t, ht, _⟩ := each 0 hp
            have hs := World.cell?_spot (a := a.add (0 * 5 + 0)) (v := .int .i64 t.k) (by rw [ht 0 (by omega)]; rfl)
            obtain ⟨ab, ao, asp⟩ := a
            have : asp = none := by simpa [Addr.add] using hs
            subst this; rfl
          refine ⟨.mk k l hh e (some a) a.block a.off len cap (fun i => if h : i < len then Classical.choose (each i h) else .dm), rfl, ⟨fun hp => congrArg some (hspot hp), by omega, fun i hi => ?_⟩⟩
          simp only [dif_pos hi]
          obtain ⟨ht, hA⟩ := Classical.choose_spec (each i hi)
          generalize Classical.choose (each i hi) = t at ht hA
          have ea := hspot (by omega)
          have get : ∀ j, j < 5 → W.cell? ⟨a.block, a.off + i * 5 + j, none⟩ = t.cs[j]? := fun j hj => by
            have := ht j hj
            rw [ea, addr_plain, ← Nat.add_assoc] at this
            exact this
          exact ⟨⟨get 0 (by omega), get 1 (by omega), get 2 (by omega), get 3 (by omega), get 4 (by omega)⟩, hA⟩
set_option maxRecDepth 100000 in
theorem open_type {v : Value} {d : DataW H} {p : List MemPlace} {b0 : Nat} (hv : Value.okWide Tryz.prog W .any b0 32 v) (h : DataW.Trod enc Tryz.prog W base (fun _ => true) true 32 v d p) :
    ∃ t : Ty, v = .agg #[.int .i64 t.k, .int .i64 t.l, .slice t.ao t.len t.cap, .int .i64 t.h, .int .i64 t.e] ∧ t.At W := by
  obtain ⟨cs, rfl, _⟩ := okWide_struct Tryz.underlying32 hv
  obtain ⟨fuel, hf⟩ := h
  obtain ⟨t, ht, hA⟩ := open_ty fuel _ _ hf
  refine ⟨t, ?_, hA⟩
  have : cs.toList = t.cs := by simpa [Value.cells] using ht
  obtain ⟨l⟩ := cs
  have e : l = t.cs := this
  rw [e]; rfl

end
end Go.Proofs.YtnkipiegjpjfbaaGreatDoor

/- A value that comes in, opened. -/
namespace Go.Proofs.YtnkipiegjpjfbaaGreatDoor
open Go.ChangeShapes Go.WideShapes Go.ChangeAt Go.RowKit Go.Deep Go.Joins

theorem Tryz.cInt : Tryz.prog.cellsOf 3 = 1 := by kernel_rfl
theorem Tryz.cInt64 : Tryz.prog.cellsOf 2 = 1 := by kernel_rfl
theorem Tryz.cVls : Tryz.prog.cellsOf 33 = 1 := by kernel_rfl
theorem Tryz.cVl : Tryz.prog.cellsOf 35 = 3 := by kernel_rfl
theorem addr_vl (b off i : Nat) : (⟨b, off, none⟩ : Addr).add i = ⟨b, off + i, none⟩ := by unfold Addr.add; split <;> simp_all
theorem wf_i64v {n : Int} (h : (Lit.int .i64 n).wf = true) : -9223372036854775808 ≤ n ∧ n ≤ 9223372036854775807 := by
  have h' : IntKind.i64.min ≤ n ∧ n ≤ IntKind.i64.max := by simpa [Lit.wf] using h
  have e1 : IntKind.i64.min = -9223372036854775808 := by decide
  have e2 : IntKind.i64.max = 9223372036854775807 := by decide
  omega

section
variable {H : Type} {enc : TypeId × Value → H} {W : World} {base : Nat}

def Vl.cs (t : Vl) : List Value := [.int .i64 t.k, .int .i64 t.m, .slice t.ao t.len t.cap]

set_option maxRecDepth 100000 in
theorem open_vl : ∀ (fuel : Nat) (cs : List Value) (x : DataW H × List MemPlace), DataW.trod enc Tryz.prog W base (fun _ => true) true fuel 35 cs = some x → ∃ t : Vl, cs = t.cs ∧ t.At W ∧ t.rng := by
  intro fuel
  induction fuel using Nat.strongRecOn with
  | _ fuel ih =>
    intro cs x h
    obtain ⟨xs, n, rfl, _, hl, hlen, hf⟩ := DataW.trod_struct Tryz.underlying35 h
    rw [Tryz.cVl] at hl
    match cs, hl with
    | [c0, c1, c2], _ =>
      have hlen3 : xs.length = 3 := hlen
      match xs, hlen3 with
      | [y0, y1, y2], _ =>
        have f0 : DataW.trod enc Tryz.prog W base (fun _ => true) true n 3 [c0] = some y0 := by simpa [Tryz.cInt] using hf 0 _ rfl
        have f1 : DataW.trod enc Tryz.prog W base (fun _ => true) true n 2 [c1] = some y1 := by simpa [Tryz.cInt64] using hf 1 _ rfl
        have f2 : DataW.trod enc Tryz.prog W base (fun _ => true) true n 33 [c2] = some y2 := by simpa [Tryz.cVls] using hf 2 _ rfl
        obtain ⟨k, q0, _⟩ := DataW.trod_int Tryz.underlying3 f0
        obtain ⟨m0, q1, _, wm⟩ := DataW.trod_int Tryz.underlying2 f1
        simp only [List.cons.injEq, and_true] at q0 q1
        subst q0 q1
        rcases DataW.trod_slice Tryz.underlying33 f2 with ⟨hcs, _⟩ | ⟨a, len, cap, elems, rest, m, hm, hcs, _, _, hlc, hmx, hel, hx, _, _⟩
        · simp only [List.cons.injEq, and_true] at hcs
          subst hcs
          exact ⟨.mk k m0 none 0 0 0 0 (fun _ => .dm), rfl, ⟨fun h => absurd h (Nat.lt_irrefl _), Nat.zero_le _, fun _ h => absurd h (Nat.not_lt_zero _)⟩, ⟨wf_i64v wm, fun _ h => absurd h (Nat.not_lt_zero _)⟩⟩
        · simp only [List.cons.injEq, and_true] at hcs
          subst hcs hm
          unfold maxLen at hmx
          have each : ∀ i, i < len → ∃ t : Vl, (∀ j, j < 3 → W.cell? (a.add (i * 3 + j)) = t.cs[j]?) ∧ t.At W ∧ t.rng := by
            intro i hi
            have h1 := hx i hi
            rw [Tryz.cVl] at h1
            cases hc : W.cells? base (a.add (i * 3)) 3 with
            | none => rw [hc] at h1; simp at h1; omega
            | some cs' =>
              rw [hc] at h1
              have h2 : DataW.trod enc Tryz.prog W base (fun _ => true) true m 35 cs' = some elems[i] := by
                rw [List.getElem?_eq_getElem (by omega)] at h1
                simpa using h1
              obtain ⟨t, rfl, hA⟩ := ih m (by omega) cs' _ h2
              obtain ⟨_, _, hcell⟩ := World.cells?_some hc
              exact ⟨t, fun j hj => by rw [← hcell j hj, add_add], hA⟩
          have hspot : 0 < len → a = ⟨a.block, a.off, none⟩ := fun hp => by
            obtain ⟨t, ht, _⟩ := each 0 hp
            have hs := World.cell?_spot (a := a.add (0 * 3 + 0)) (v := .int .i64 t.k) (by rw [ht 0 (by omega)]; rfl)
            obtain ⟨ab, ao, asp⟩ := a
            have : asp = none := by simpa [Addr.add] using hs
            subst this; rfl
          refine ⟨.mk k m0 (some a) a.block a.off len cap (fun i => if h : i < len then Classical.choose (each i h) else .dm), rfl, ⟨fun hp => congrArg some (hspot hp), by omega, fun i hi => ?_⟩, ⟨wf_i64v wm, fun i hi => ?_⟩⟩
          · simp only [dif_pos hi]
            obtain ⟨ht, hA, _⟩ := Classical.choose_spec (each i hi)
            generalize Classical.choose (each i hi) = t at ht hA
            have ea := hspot (by omega)
            have get : ∀ j, j < 3 → W.cell? ⟨a.block, a.off + i * 3 + j, none⟩ = t.cs[j]? := fun j hj => by
              have := ht j hj
              rw [ea, addr_vl, ← Nat.add_assoc] at this
              exact this
            exact ⟨⟨get 0 (by omega), get 1 (by omega), get 2 (by omega)⟩, hA⟩
          · simp only [dif_pos hi]
            exact (Classical.choose_spec (each i hi)).2.2
set_option maxRecDepth 100000 in
theorem open_value {v : Value} {d : DataW H} {p : List MemPlace} {b0 : Nat} (hv : Value.okWide Tryz.prog W .any b0 35 v) (h : DataW.Trod enc Tryz.prog W base (fun _ => true) true 35 v d p) :
    ∃ t : Vl, v = .agg #[.int .i64 t.k, .int .i64 t.m, .slice t.ao t.len t.cap] ∧ t.At W ∧ t.rng := by
  obtain ⟨cs, rfl, _⟩ := okWide_struct Tryz.underlying35 hv
  obtain ⟨fuel, hf⟩ := h
  obtain ⟨t, ht, hA⟩ := open_vl fuel _ _ hf
  refine ⟨t, ?_, hA⟩
  have : cs.toList = t.cs := by simpa [Value.cells] using ht
  obtain ⟨l⟩ := cs
  have e : l = t.cs := this
  rw [e]; rfl
end
end Go.Proofs.YtnkipiegjpjfbaaGreatDoor

/- A lattice with functions and cells that comes in, opened; a type with a value. -/
namespace Go.Proofs.YtnkipiegjpjfbaaGreatDoor
open Go.ChangeShapes Go.WideShapes Go.ChangeAt Go.RowKit Go.Deep Go.Joins

theorem Tryz.cFn : Tryz.prog.cellsOf 45 = 18 := by kernel_rfl
theorem Tryz.cCell : Tryz.prog.cellsOf 63 = 8 := by kernel_rfl
theorem Tryz.cWorld : Tryz.prog.cellsOf 29 = 4 := by kernel_rfl
theorem Tryz.cStrs : Tryz.prog.cellsOf 22 = 1 := by kernel_rfl
theorem Tryz.cRows : Tryz.prog.cellsOf 23 = 1 := by kernel_rfl
theorem Tryz.cFns : Tryz.prog.cellsOf 26 = 1 := by kernel_rfl
theorem Tryz.cCells : Tryz.prog.cellsOf 27 = 1 := by kernel_rfl
theorem Tryz.cIns : Tryz.prog.cellsOf 40 = 1 := by kernel_rfl
theorem Tryz.cHan : Tryz.prog.cellsOf 41 = 1 := by kernel_rfl
theorem Tryz.cPts : Tryz.prog.cellsOf 42 = 1 := by kernel_rfl
theorem Tryz.cRgs : Tryz.prog.cellsOf 43 = 1 := by kernel_rfl

section
variable {H : Type} {enc : TypeId × Value → H} {W : World} {base : Nat}

set_option maxRecDepth 100000 in
theorem trod_fields {t : TypeId} {fuel : Nat} {cs : List Value} {x : DataW H × List MemPlace} {fs : Array Field} (ht : Tryz.prog.underlying t = some (.struct fs)) (h : DataW.trod enc Tryz.prog W base (fun _ => true) true fuel t cs = some x) :
    ∃ n, cs.length = Tryz.prog.cellsOf t ∧ ∀ (i : Nat) (f : Field), fs[i]? = some f → ∃ y, DataW.trod enc Tryz.prog W base (fun _ => true) true n f.type ((cs.drop f.offset).take (Tryz.prog.cellsOf f.type)) = some y := by
  obtain ⟨xs, n, _, _, hl, hlen, hf⟩ := DataW.trod_struct ht h
  refine ⟨n, hl, fun i f hi => ?_⟩
  have hlt : i < xs.length := by rw [hlen]; exact (Array.getElem?_eq_some_iff.1 hi).1
  exact ⟨xs[i], by rw [hf i f hi, List.getElem?_eq_getElem hlt]⟩

/- A slice, whatever it holds. -/
set_option maxRecDepth 100000 in
theorem open_sl {S E : TypeId} {c : Nat} (hu : Tryz.prog.underlying S = some (.slice E)) (hc : Tryz.prog.cellsOf E = c) {fuel : Nat} {v : Value} {x : DataW H × List MemPlace} (h : DataW.trod enc Tryz.prog W base (fun _ => true) true fuel S [v] = some x) :
    v = .slice none 0 0 ∨ ∃ (a : Addr) (len cap : Nat), v = .slice (some a) len cap ∧ len ≤ 9223372036854775807 ∧ ∀ i, i < len → ∃ m cs y, DataW.trod enc Tryz.prog W base (fun _ => true) true m E cs = some y ∧ ∀ j, j < c → W.cell? (a.add (i * c + j)) = cs[j]? := by
  rcases DataW.trod_slice hu h with ⟨hcs, _⟩ | ⟨a, len, cap, elems, rest, m, hm, hcs, _, _, hlc, hmx, hel, hx, _, _⟩
  · exact Or.inl (by simpa using hcs)
  · refine Or.inr ⟨a, len, cap, by simpa using hcs, by unfold maxLen at hmx; omega, fun i hi => ?_⟩
    have h1 := hx i hi
    rw [hc] at h1
    cases hcc : W.cells? base (a.add (i * c)) c with
    | none => rw [hcc] at h1; simp at h1; omega
    | some cs' =>
      rw [hcc] at h1
      have h2 : DataW.trod enc Tryz.prog W base (fun _ => true) true m E cs' = some elems[i] := by
        rw [List.getElem?_eq_getElem (by omega)] at h1
        simpa using h1
      obtain ⟨_, _, hcell⟩ := World.cells?_some hcc
      exact ⟨m, cs', _, h2, fun j hj => by rw [← hcell j hj, add_add]⟩
set_option maxRecDepth 100000 in
theorem open_any {S E : TypeId} (hu : Tryz.prog.underlying S = some (.slice E)) {fuel : Nat} {v : Value} {x : DataW H × List MemPlace} (h : DataW.trod enc Tryz.prog W base (fun _ => true) true fuel S [v] = some x) : ∃ s : Sl, v = .slice s.ao s.len s.cap := by
  rcases open_sl hu rfl h with rfl | ⟨a, len, cap, rfl, _⟩
  · exact ⟨⟨none, 0, 0⟩, rfl⟩
  · exact ⟨⟨some a, len, cap⟩, rfl⟩
theorem plain_addr {a : Addr} {v : Value} (h : W.cell? (a.add 0) = some v) : a = ⟨a.block, a.off, none⟩ := by
  have hs := World.cell?_spot h
  obtain ⟨ab, ao, asp⟩ := a
  have : asp = none := by simpa [Addr.add] using hs
  subst this; rfl

set_option maxRecDepth 100000 in
theorem open_tys {fuel : Nat} {v : Value} {x : DataW H × List MemPlace} (h : DataW.trod enc Tryz.prog W base (fun _ => true) true fuel 30 [v] = some x) : ∃ t : Ty, v = .slice t.ao t.len t.cap ∧ t.At W := by
  rcases open_sl Tryz.underlying30 Tryz.cellsTy h with rfl | ⟨a, len, cap, rfl, hb, hx⟩
  · exact ⟨.mk 0 0 0 0 none 0 0 0 0 (fun _ => .dm), rfl, ⟨fun h => absurd h (Nat.lt_irrefl _), Nat.zero_le _, fun _ h => absurd h (Nat.not_lt_zero _)⟩⟩
  · have each : ∀ i, i < len → ∃ t : Ty, (∀ j, j < 5 → W.cell? (a.add (i * 5 + j)) = t.cs[j]?) ∧ t.At W := fun i hi => by
      obtain ⟨m, cs, y, h1, h2⟩ := hx i hi
      obtain ⟨t, rfl, hA⟩ := open_ty m cs y h1
      exact ⟨t, h2, hA⟩
    have hspot : 0 < len → a = ⟨a.block, a.off, none⟩ := fun hp => by
      obtain ⟨t, ht, _⟩ := each 0 hp
      exact plain_addr (v := .int .i64 t.k) (by have e := ht 0 (by omega); rw [show 0 * 5 + 0 = 0 from rfl] at e; exact e)
    refine ⟨.mk 0 0 0 0 (some a) a.block a.off len cap (fun i => if h : i < len then Classical.choose (each i h) else .dm), rfl, ⟨fun hp => congrArg some (hspot hp), hb, fun i hi => ?_⟩⟩
    simp only [dif_pos hi]
    obtain ⟨ht, hA⟩ := Classical.choose_spec (each i hi)
    generalize Classical.choose (each i hi) = t at ht hA
    have ea := hspot (by omega)
    have get : ∀ j, j < 5 → W.cell? ⟨a.block, a.off + i * 5 + j, none⟩ = t.cs[j]? := fun j hj => by
      have := ht j hj
      rw [ea, addr_plain, ← Nat.add_assoc] at this
      exact this
    exact ⟨⟨get 0 (by omega), get 1 (by omega), get 2 (by omega), get 3 (by omega), get 4 (by omega)⟩, hA⟩

set_option maxRecDepth 100000 in
theorem open_fn {fuel : Nat} {cs : List Value} {x : DataW H × List MemPlace} (h : DataW.trod enc Tryz.prog W base (fun _ => true) true fuel 45 cs = some x) : ∃ f : Fn, cs = f.vs ∧ f.At W := by
  obtain ⟨n, hl, hf⟩ := trod_fields Tryz.underlying45 h
  rw [Tryz.cFn] at hl
  match cs, hl with
  | [c0, c1, c2, c3, c4, c5, c6, c7, c8, c9, c10, c11, c12, c13, c14, c15, c16, c17], _ =>
    obtain ⟨z0, g0⟩ := hf 0 _ rfl
    obtain ⟨z1, g1⟩ := hf 1 _ rfl
    obtain ⟨z2, g2⟩ := hf 2 _ rfl
    obtain ⟨z3, g3⟩ := hf 3 _ rfl
    obtain ⟨z4, g4⟩ := hf 4 _ rfl
    obtain ⟨z5, g5⟩ := hf 5 _ rfl
    obtain ⟨z6, g6⟩ := hf 6 _ rfl
    obtain ⟨z7, g7⟩ := hf 7 _ rfl
    obtain ⟨z8, g8⟩ := hf 8 _ rfl
    obtain ⟨z9, g9⟩ := hf 9 _ rfl
    have f0 : DataW.trod enc Tryz.prog W base (fun _ => true) true n 32 [c0, c1, c2, c3, c4] = some z0 := by simpa [Tryz.cellsTy] using g0
    have f1 : DataW.trod enc Tryz.prog W base (fun _ => true) true n 32 [c5, c6, c7, c8, c9] = some z1 := by simpa [Tryz.cellsTy] using g1
    have f2 : DataW.trod enc Tryz.prog W base (fun _ => true) true n 30 [c10] = some z2 := by simpa [Tryz.cellsTys] using g2
    have f3 : DataW.trod enc Tryz.prog W base (fun _ => true) true n 3 [c11] = some z3 := by simpa [Tryz.cellsInt'] using g3
    have f4 : DataW.trod enc Tryz.prog W base (fun _ => true) true n 3 [c12] = some z4 := by simpa [Tryz.cellsInt'] using g4
    have f5 : DataW.trod enc Tryz.prog W base (fun _ => true) true n 3 [c13] = some z5 := by simpa [Tryz.cellsInt'] using g5
    have f6 : DataW.trod enc Tryz.prog W base (fun _ => true) true n 40 [c14] = some z6 := by simpa [Tryz.cIns] using g6
    have f7 : DataW.trod enc Tryz.prog W base (fun _ => true) true n 41 [c15] = some z7 := by simpa [Tryz.cHan] using g7
    have f8 : DataW.trod enc Tryz.prog W base (fun _ => true) true n 42 [c16] = some z8 := by simpa [Tryz.cPts] using g8
    have f9 : DataW.trod enc Tryz.prog W base (fun _ => true) true n 43 [c17] = some z9 := by simpa [Tryz.cRgs] using g9
    obtain ⟨p, hp, hpA⟩ := open_ty _ _ _ f0
    obtain ⟨r, hr, hrA⟩ := open_ty _ _ _ f1
    obtain ⟨c, rfl, hcA⟩ := open_tys f2
    obtain ⟨hh, q3, _⟩ := DataW.trod_int Tryz.underlying3 f3
    obtain ⟨ee, q4, _⟩ := DataW.trod_int Tryz.underlying3 f4
    obtain ⟨sl, q5, _⟩ := DataW.trod_int Tryz.underlying3 f5
    obtain ⟨s6, rfl⟩ := open_any Tryz.underlying40 f6
    obtain ⟨s7, rfl⟩ := open_any Tryz.underlying41 f7
    obtain ⟨s8, rfl⟩ := open_any Tryz.underlying42 f8
    obtain ⟨s9, rfl⟩ := open_any Tryz.underlying43 f9
    simp only [List.cons.injEq, and_true] at q3 q4 q5
    subst q3 q4 q5
    simp only [Ty.cs, List.cons.injEq, and_true] at hp hr
    obtain ⟨rfl, rfl, rfl, rfl, rfl⟩ := hp
    obtain ⟨rfl, rfl, rfl, rfl, rfl⟩ := hr
    exact ⟨⟨p, r, c, hh, ee, sl, s6, s7, s8, s9⟩, rfl, ⟨hpA, hrA, hcA⟩⟩

def noFn : Fn := ⟨.dm, .dm, .dm, 0, 0, 0, ⟨none, 0, 0⟩, ⟨none, 0, 0⟩, ⟨none, 0, 0⟩, ⟨none, 0, 0⟩⟩
set_option maxRecDepth 100000 in
theorem open_fs {fuel : Nat} {v : Value} {x : DataW H × List MemPlace} (h : DataW.trod enc Tryz.prog W base (fun _ => true) true fuel 26 [v] = some x) : ∃ s : Fs, v = .slice s.ao s.len s.cap ∧ s.At W := by
  rcases open_sl Tryz.underlying26 Tryz.cFn h with rfl | ⟨a, len, cap, rfl, hb, hx⟩
  · exact ⟨⟨none, 0, 0, 0, 0, fun _ => noFn⟩, rfl, ⟨fun h => absurd h (Nat.lt_irrefl _), Nat.zero_le _, fun _ h => absurd h (Nat.not_lt_zero _), fun _ h => absurd h (Nat.not_lt_zero _)⟩⟩
  · have each : ∀ i, i < len → ∃ f : Fn, (∀ j, j < 18 → W.cell? (a.add (i * 18 + j)) = f.vs[j]?) ∧ f.At W := fun i hi => by
      obtain ⟨m, cs, y, h1, h2⟩ := hx i hi
      obtain ⟨f, rfl, hA⟩ := open_fn h1
      exact ⟨f, h2, hA⟩
    have hspot : 0 < len → a = ⟨a.block, a.off, none⟩ := fun hp => by
      obtain ⟨f, hf, _⟩ := each 0 hp
      exact plain_addr (v := .int .i64 f.p.k) (by have e := hf 0 (by omega); rw [show 0 * 18 + 0 = 0 from rfl] at e; exact e)
    refine ⟨⟨some a, a.block, a.off, len, cap, fun i => if h : i < len then Classical.choose (each i h) else noFn⟩, rfl, ⟨fun hp => congrArg some (hspot hp), hb, fun i hi => ?_, fun i hi => ?_⟩⟩
    · have hi' : i < len := hi
      simp only [dif_pos hi']
      obtain ⟨hf, _⟩ := Classical.choose_spec (each i hi')
      generalize Classical.choose (each i hi') = f at hf
      have ea := hspot (by omega)
      have get : ∀ j, j < 18 → W.cell? ⟨a.block, a.off + i * 18 + j, none⟩ = f.vs[j]? := fun j hj => by
        have := hf j hj
        rw [ea, addr_plain, ← Nat.add_assoc] at this
        exact this
      exact ⟨get 0 (by omega), get 1 (by omega), get 2 (by omega), get 3 (by omega), get 4 (by omega), get 5 (by omega), get 6 (by omega), get 7 (by omega), get 8 (by omega), get 9 (by omega), get 10 (by omega), get 11 (by omega), get 12 (by omega), get 13 (by omega), get 14 (by omega), get 15 (by omega), get 16 (by omega), get 17 (by omega)⟩
    · have hi' : i < len := hi
      simp only [dif_pos hi']
      exact (Classical.choose_spec (each i hi')).2

set_option maxRecDepth 100000 in
theorem open_tv {t : TypeId} {fs : Array Field} (ht : Tryz.prog.underlying t = some (.struct fs)) (hc : Tryz.prog.cellsOf t = 8) {F0 F1 : Field} (h0 : fs[0]? = some F0) (h1 : fs[1]? = some F1) (e0 : F0.type = 32 ∧ F0.offset = 0) (e1 : F1.type = 35 ∧ F1.offset = 5) {fuel : Nat} {cs : List Value} {x : DataW H × List MemPlace} (h : DataW.trod enc Tryz.prog W base (fun _ => true) true fuel t cs = some x) : ∃ (t : Ty) (v : Vl), cs = t.cs ++ v.cs ∧ t.At W ∧ v.At W ∧ v.rng := by
  obtain ⟨n, hl, hf⟩ := trod_fields ht h
  rw [hc] at hl
  match cs, hl with
  | [c0, c1, c2, c3, c4, c5, c6, c7], _ =>
    obtain ⟨z0, g0⟩ := hf 0 F0 h0
    obtain ⟨z1, g1⟩ := hf 1 F1 h1
    rw [e0.1, e0.2] at g0
    rw [e1.1, e1.2] at g1
    have f0 : DataW.trod enc Tryz.prog W base (fun _ => true) true n 32 [c0, c1, c2, c3, c4] = some z0 := by simpa [Tryz.cellsTy] using g0
    have f1 : DataW.trod enc Tryz.prog W base (fun _ => true) true n 35 [c5, c6, c7] = some z1 := by simpa [Tryz.cVl] using g1
    obtain ⟨p, hp, hpA⟩ := open_ty _ _ _ f0
    obtain ⟨v, hv, hvA, hvR⟩ := open_vl _ _ _ f1
    exact ⟨p, v, by rw [← hp, ← hv]; rfl, hpA, hvA, hvR⟩

set_option maxRecDepth 100000 in
theorem open_cs {fuel : Nat} {v : Value} {x : DataW H × List MemPlace} (h : DataW.trod enc Tryz.prog W base (fun _ => true) true fuel 27 [v] = some x) : ∃ s : Cs, v = .slice s.ao s.len s.cap ∧ s.At W := by
  rcases open_sl Tryz.underlying27 Tryz.cCell h with rfl | ⟨a, len, cap, rfl, hb, hx⟩
  · exact ⟨⟨none, 0, 0, 0, 0, fun _ => .dm, fun _ => .dm⟩, rfl, ⟨fun h => absurd h (Nat.lt_irrefl _), Nat.zero_le _, fun _ h => absurd h (Nat.not_lt_zero _), fun _ h => absurd h (Nat.not_lt_zero _), fun _ h => absurd h (Nat.not_lt_zero _), fun _ h => absurd h (Nat.not_lt_zero _)⟩⟩
  · have each : ∀ i, i < len → ∃ tv : Ty × Vl, (∀ j, j < 8 → W.cell? (a.add (i * 8 + j)) = (tv.1.cs ++ tv.2.cs)[j]?) ∧ tv.1.At W ∧ tv.2.At W := fun i hi => by
      obtain ⟨m, cs, y, h1, h2⟩ := hx i hi
      obtain ⟨t, v, rfl, hA, hB, _⟩ := open_tv Tryz.underlying63 Tryz.cCell rfl rfl ⟨rfl, rfl⟩ ⟨rfl, rfl⟩ h1
      exact ⟨(t, v), h2, hA, hB⟩
    have hspot : 0 < len → a = ⟨a.block, a.off, none⟩ := fun hp => by
      obtain ⟨tv, ht, _⟩ := each 0 hp
      exact plain_addr (v := .int .i64 tv.1.k) (by have e := ht 0 (by omega); rw [show 0 * 8 + 0 = 0 from rfl] at e; exact e)
    have get : ∀ i (hi : i < len) j, j < 8 → W.cell? ⟨a.block, a.off + i * 8 + j, none⟩ = ((Classical.choose (each i hi)).1.cs ++ (Classical.choose (each i hi)).2.cs)[j]? := fun i hi j hj => by
      have := (Classical.choose_spec (each i hi)).1 j hj
      have e2 : a.add (i * 8 + j) = ⟨a.block, a.off + (i * 8 + j), none⟩ := (congrArg (fun z => Addr.add z (i * 8 + j)) (hspot (by omega))).trans (addr_plain _ _ _)
      rw [e2, ← Nat.add_assoc] at this
      exact this
    refine ⟨⟨some a, a.block, a.off, len, cap, fun i => if h : i < len then (Classical.choose (each i h)).1 else .dm, fun i => if h : i < len then (Classical.choose (each i h)).2 else .dm⟩, rfl, ⟨fun hp => congrArg some (hspot hp), hb, fun i hi => ?_, fun i hi => ?_, fun i hi => ?_, fun i hi => ?_⟩⟩
    · have hi' : i < len := hi
      simp only [dif_pos hi']
      have g := get i hi'
      exact ⟨g 0 (by omega), g 1 (by omega), g 2 (by omega), g 3 (by omega), g 4 (by omega)⟩
    · have hi' : i < len := hi
      simp only [dif_pos hi']
      have g := get i hi'
      exact ⟨g 5 (by omega), g 6 (by omega), g 7 (by omega)⟩
    · have hi' : i < len := hi
      simp only [dif_pos hi']
      exact (Classical.choose_spec (each i hi')).2.1
    · have hi' : i < len := hi
      simp only [dif_pos hi']
      exact (Classical.choose_spec (each i hi')).2.2

set_option maxRecDepth 100000 in
theorem open_world {v : Value} {d : DataW H} {p : List MemPlace} {b0 : Nat} (hv : Value.okWide Tryz.prog W .any b0 29 v) (h : DataW.Trod enc Tryz.prog W base (fun _ => true) true 29 v d p) :
    ∃ (n : Strs) (g : Grid) (fs : Fs) (cs : Cs), v = .agg #[.slice n.ao n.len n.cap, .slice g.ao g.len g.cap, .slice fs.ao fs.len fs.cap, .slice cs.ao cs.len cs.cap] ∧ Wo W n g fs cs := by
  obtain ⟨⟨cs⟩, rfl, _⟩ := okWide_struct Tryz.underlying29 hv
  obtain ⟨fuel, hf⟩ := h
  have hf' : DataW.trod enc Tryz.prog W base (fun _ => true) true fuel 29 cs = some (d, p) := by simpa [Value.cells] using hf
  obtain ⟨n, hl, hg⟩ := trod_fields Tryz.underlying29 hf'
  rw [Tryz.cWorld] at hl
  match cs, hl with
  | [c0, c1, c2, c3], _ =>
    obtain ⟨z0, g0⟩ := hg 0 _ rfl
    obtain ⟨z1, g1⟩ := hg 1 _ rfl
    obtain ⟨z2, g2⟩ := hg 2 _ rfl
    have f0 : DataW.trod enc Tryz.prog W base (fun _ => true) true n 25 [c0, c1] = some z0 := by simpa [Tryz.cellsLat] using g0
    have f1 : DataW.trod enc Tryz.prog W base (fun _ => true) true n 26 [c2] = some z1 := by simpa [Tryz.cFns] using g1
    have f2 : DataW.trod enc Tryz.prog W base (fun _ => true) true n 27 [c3] = some z2 := by simpa [Tryz.cCells] using g2
    obtain ⟨m, _, hk⟩ := trod_fields Tryz.underlying25 f0
    obtain ⟨y0, k0⟩ := hk 0 _ rfl
    obtain ⟨y1, k1⟩ := hk 1 _ rfl
    have l0 : DataW.trod enc Tryz.prog W base (fun _ => true) true m 22 [c0] = some y0 := by simpa [Tryz.cStrs] using k0
    have l1 : DataW.trod enc Tryz.prog W base (fun _ => true) true m 23 [c1] = some y1 := by simpa [Tryz.cRows] using k1
    obtain ⟨ns, rfl, hn⟩ := open_strs l0
    obtain ⟨gr, rfl, hgr⟩ := open_grid l1
    obtain ⟨fs, rfl, hfs⟩ := open_fs f1
    obtain ⟨cc, rfl, hcc⟩ := open_cs f2
    exact ⟨ns, gr, fs, cc, rfl, ⟨hn, hgr, hfs, hcc⟩⟩

end
end Go.Proofs.YtnkipiegjpjfbaaGreatDoor
