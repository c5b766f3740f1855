/- A type that comes in, opened. -/
import Derived.Test.YtjfijpiadfkmfaaGreatDoorP22
import Derived.Test.YtjfijpiadfkmfaaGreatDoorP7
import Derived.Test.YtjfijpiadfkmfaaGreatDoorP10
import Derived.Test.YtjfijpiadfkmfaaGreatDoorP13
import Derived.Laws.OwnMore
import Derived.Test.YtjfijpiadfkmfaaGreatDoorRows
import Derived.WalkKit
import Derived.WalkSpells
import Derived.WalkLawsBesides
import Derived.Deep.QuietTactic
import Derived.BigQuiet
import Derived.Deep.OwnRows
import Derived.Deep.AppendLies
import Derived.Deep.MidRow
import Derived.Laws.CopyOwn
import Derived.Lib.BufferWrite
import Derived.Lib.EndianBits
namespace Go.Proofs.YtjfijpiadfkmfaaGreatDoor
open Go.ChangeShapes Go.WideShapes Go.ChangeAt Go.RowKit Go.Deep Go.Joins

theorem Tryz.cellsInt' : Tryz.prog.cellsOf 3 = 1 := by kernel_rfl
theorem Tryz.cellsTys : Tryz.prog.cellsOf 31 = 1 := by kernel_rfl
theorem Tryz.cellsTy : Tryz.prog.cellsOf 36 = 5 := by kernel_rfl

section
variable {H : Type} {enc : TypeId × Value → H} {W : World} {base : Nat}

def Ty.cs (t : Ty) : List Value := [.int .i64 t.k, .int .i64 t.l, .slice t.ao t.len t.cap, .int .i64 t.h, .int .i64 t.e]

set_option maxRecDepth 100000 in
theorem open_ty : ∀ (fuel : Nat) (cs : List Value) (x : DataW H × List MemPlace), DataW.trod enc Tryz.prog W base (fun _ => true) true fuel 36 cs = some x → ∃ t : Ty, cs = t.cs ∧ t.At W := by
  intro fuel
  induction fuel using Nat.strongRecOn with
  | _ fuel ih =>
    intro cs x h
    obtain ⟨xs, n, rfl, _, hl, hlen, hf⟩ := DataW.trod_struct Tryz.underlying36 h
    rw [Tryz.cellsTy] at hl
    match cs, hl with
    | [c0, c1, c2, c3, c4], _ =>
      have hlen5 : xs.length = 5 := hlen
      match xs, hlen5 with
      | [y0, y1, y2, y3, y4], _ =>
        have f0 : DataW.trod enc Tryz.prog W base (fun _ => true) true n 3 [c0] = some y0 := by simpa [Tryz.cellsInt'] using hf 0 _ rfl
        have f1 : DataW.trod enc Tryz.prog W base (fun _ => true) true n 3 [c1] = some y1 := by simpa [Tryz.cellsInt'] using hf 1 _ rfl
        have f2 : DataW.trod enc Tryz.prog W base (fun _ => true) true n 31 [c2] = some y2 := by simpa [Tryz.cellsTys] using hf 2 _ rfl
        have f3 : DataW.trod enc Tryz.prog W base (fun _ => true) true n 3 [c3] = some y3 := by simpa [Tryz.cellsInt'] using hf 3 _ rfl
        have f4 : DataW.trod enc Tryz.prog W base (fun _ => true) true n 3 [c4] = some y4 := by simpa [Tryz.cellsInt'] using hf 4 _ rfl
        obtain ⟨k, q0, _⟩ := DataW.trod_int Tryz.underlying3 f0
        obtain ⟨l, q1, _⟩ := DataW.trod_int Tryz.underlying3 f1
        obtain ⟨hh, q3, _⟩ := DataW.trod_int Tryz.underlying3 f3
        obtain ⟨e, q4, _⟩ := DataW.trod_int Tryz.underlying3 f4
        simp only [List.cons.injEq, and_true] at q0 q1 q3 q4
        subst q0 q1 q3 q4
        rcases DataW.trod_slice Tryz.underlying31 f2 with ⟨hcs, _⟩ | ⟨a, len, cap, elems, rest, m, hm, hcs, _, _, hlc, hmx, hel, hx, _, _⟩
        · simp only [List.cons.injEq, and_true] at hcs
          subst hcs
          exact ⟨.mk k l hh e none 0 0 0 0 (fun _ => .dm), rfl, ⟨fun h => absurd h (Nat.lt_irrefl _), Nat.zero_le _, fun _ h => absurd h (Nat.not_lt_zero _)⟩⟩
        · simp only [List.cons.injEq, and_true] at hcs
          subst hcs hm
          unfold maxLen at hmx
          have each : ∀ i, i < len → ∃ t : Ty, (∀ j, j < 5 → W.cell? (a.add (i * 5 + j)) = t.cs[j]?) ∧ t.At W := by
            intro i hi
            have h1 := hx i hi
            rw [Tryz.cellsTy] at h1
            cases hc : W.cells? base (a.add (i * 5)) 5 with
            | none => rw [hc] at h1; simp at h1; omega
            | some cs' =>
              rw [hc] at h1
              have h2 : DataW.trod enc Tryz.prog W base (fun _ => true) true m 36 cs' = some elems[i] := by
                rw [List.getElem?_eq_getElem (by omega)] at h1
                simpa using h1
              obtain ⟨t, rfl, hA⟩ := ih m (by omega) cs' _ h2
              obtain ⟨_, _, hcell⟩ := World.cells?_some hc
              exact ⟨t, fun j hj => by rw [← hcell j hj, add_add], hA⟩
          have hspot : 0 < len → a = ⟨a.block, a.off, none⟩ := fun hp => by
            obtain ⟨t, ht, _⟩ := each 0 hp
            have hs := World.cell?_spot (a := a.add (0 * 5 + 0)) (v := .int .i64 t.k) (by rw [ht 0 (by omega)]; rfl)
            obtain ⟨ab, ao, asp⟩ := a
            have : asp = none := by simpa [Addr.add] using hs
            subst this; rfl
          refine ⟨.mk k l hh e (some a) a.block a.off len cap (fun i => if h : i < len then Classical.choose (each i h) else .dm), rfl, ⟨fun hp => congrArg some (hspot hp), by omega, fun i hi => ?_⟩⟩
          simp only [dif_pos hi]
          obtain ⟨ht, hA⟩ := Classical.choose_spec (each i hi)
          generalize Classical.choose (each i hi) = t at ht hA
          have ea := hspot (by omega)
          have get : ∀ j, j < 5 → W.cell? ⟨a.block, a.off + i * 5 + j, none⟩ = t.cs[j]? := fun j hj => by
            have := ht j hj
            rw [ea, addr_plain, ← Nat.add_assoc] at this
            exact this
          exact ⟨⟨get 0 (by omega), get 1 (by omega), get 2 (by omega), get 3 (by omega), get 4 (by omega)⟩, hA⟩
set_option maxRecDepth 100000 in
theorem open_type {v : Value} {d : DataW H} {p : List MemPlace} {b0 : Nat} (hv : Value.okWide Tryz.prog W .any b0 36 v) (h : DataW.Trod enc Tryz.prog W base (fun _ => true) true 36 v d p) :
    ∃ t : Ty, v = .agg #[.int .i64 t.k, .int .i64 t.l, .slice t.ao t.len t.cap, .int .i64 t.h, .int .i64 t.e] ∧ t.At W := by
  obtain ⟨cs, rfl, _⟩ := okWide_struct Tryz.underlying36 hv
  obtain ⟨fuel, hf⟩ := h
  obtain ⟨t, ht, hA⟩ := open_ty fuel _ _ hf
  refine ⟨t, ?_, hA⟩
  have : cs.toList = t.cs := by simpa [Value.cells] using ht
  obtain ⟨l⟩ := cs
  have e : l = t.cs := this
  rw [e]; rfl

end
end Go.Proofs.YtjfijpiadfkmfaaGreatDoor

/- A class that comes in, opened; a function, a region. -/
namespace Go.Proofs.YtjfijpiadfkmfaaGreatDoor
open Go.ChangeShapes Go.WideShapes Go.ChangeAt Go.RowKit Go.Deep Go.Joins

theorem Tryz.kFn : Tryz.prog.cellsOf 42 = 18 := by kernel_rfl
theorem Tryz.kIn : Tryz.prog.cellsOf 54 = 7 := by kernel_rfl
theorem Tryz.kHn : Tryz.prog.cellsOf 98 = 3 := by kernel_rfl
theorem Tryz.kPt : Tryz.prog.cellsOf 44 = 3 := by kernel_rfl
theorem Tryz.kRn : Tryz.prog.cellsOf 57 = 3 := by kernel_rfl
theorem Tryz.kKl : Tryz.prog.cellsOf 28 = 3 := by kernel_rfl
theorem Tryz.kFns : Tryz.prog.cellsOf 26 = 1 := by kernel_rfl
theorem Tryz.kIns : Tryz.prog.cellsOf 37 = 1 := by kernel_rfl
theorem Tryz.kHan : Tryz.prog.cellsOf 38 = 1 := by kernel_rfl
theorem Tryz.kPts : Tryz.prog.cellsOf 39 = 1 := by kernel_rfl
theorem Tryz.kRgs : Tryz.prog.cellsOf 40 = 1 := by kernel_rfl
theorem Tryz.kInts : Tryz.prog.cellsOf 55 = 1 := by kernel_rfl
theorem Tryz.kI64 : Tryz.prog.cellsOf 2 = 1 := by kernel_rfl
theorem Tryz.kStrs : Tryz.prog.cellsOf 22 = 1 := by kernel_rfl
theorem Tryz.kRows : Tryz.prog.cellsOf 23 = 1 := by kernel_rfl
theorem i64_wf {n : Int} (h : (Lit.int .i64 n).wf = true) : I64 n := by
  have h' : IntKind.i64.min ≤ n ∧ n ≤ IntKind.i64.max := by simpa [Lit.wf] using h
  have e1 : IntKind.i64.min = -9223372036854775808 := by decide
  have e2 : IntKind.i64.max = 9223372036854775807 := by decide
  rw [e1, e2] at h'
  exact h'

section
variable {H : Type} {enc : TypeId × Value → H} {W : World} {base : Nat}

set_option maxRecDepth 100000 in
theorem kfields {t : TypeId} {fuel : Nat} {cs : List Value} {x : DataW H × List MemPlace} {fs : Array Field} (ht : Tryz.prog.underlying t = some (.struct fs)) (h : DataW.trod enc Tryz.prog W base (fun _ => true) true fuel t cs = some x) :
    ∃ n, cs.length = Tryz.prog.cellsOf t ∧ ∀ (i : Nat) (f : Field), fs[i]? = some f → ∃ y, DataW.trod enc Tryz.prog W base (fun _ => true) true n f.type ((cs.drop f.offset).take (Tryz.prog.cellsOf f.type)) = some y := by
  obtain ⟨xs, n, _, _, hl, hlen, hf⟩ := DataW.trod_struct ht h
  refine ⟨n, hl, fun i f hi => ?_⟩
  have hlt : i < xs.length := by rw [hlen]; exact (Array.getElem?_eq_some_iff.1 hi).1
  exact ⟨xs[i], by rw [hf i f hi, List.getElem?_eq_getElem hlt]⟩
set_option maxRecDepth 100000 in
theorem kslice {S E : TypeId} {c : Nat} (hu : Tryz.prog.underlying S = some (.slice E)) (hc : Tryz.prog.cellsOf E = c) {fuel : Nat} {v : Value} {x : DataW H × List MemPlace} (h : DataW.trod enc Tryz.prog W base (fun _ => true) true fuel S [v] = some x) :
    v = .slice none 0 0 ∨ ∃ (a : Addr) (len cap : Nat), v = .slice (some a) len cap ∧ len ≤ 9223372036854775807 ∧ ∀ i, i < len → ∃ m cs y, DataW.trod enc Tryz.prog W base (fun _ => true) true m E cs = some y ∧ ∀ j, j < c → W.cell? (a.add (i * c + j)) = cs[j]? := by
  rcases DataW.trod_slice hu h with ⟨hcs, _⟩ | ⟨a, len, cap, elems, rest, m, hm, hcs, _, _, hlc, hmx, hel, hx, _, _⟩
  · exact Or.inl (by simpa using hcs)
  · refine Or.inr ⟨a, len, cap, by simpa using hcs, by unfold maxLen at hmx; omega, fun i hi => ?_⟩
    have h1 := hx i hi
    rw [hc] at h1
    cases hcc : W.cells? base (a.add (i * c)) c with
    | none => rw [hcc] at h1; simp at h1; omega
    | some cs' =>
      rw [hcc] at h1
      have h2 : DataW.trod enc Tryz.prog W base (fun _ => true) true m E cs' = some elems[i] := by
        rw [List.getElem?_eq_getElem (by omega)] at h1
        simpa using h1
      obtain ⟨_, _, hcell⟩ := World.cells?_some hcc
      exact ⟨m, cs', _, h2, fun j hj => by rw [← hcell j hj, add_add]⟩
theorem kplain {a : Addr} {v : Value} (h : W.cell? (a.add 0) = some v) : a = ⟨a.block, a.off, none⟩ := by
  have hs := World.cell?_spot h
  obtain ⟨ab, ao, asp⟩ := a
  have : asp = none := by simpa [Addr.add] using hs
  subst this; rfl
/-- A slice of whatever, opened. -/
theorem kopen {α : Type} {S E : TypeId} {c : Nat} (hu : Tryz.prog.underlying S = some (.slice E)) (hc : Tryz.prog.cellsOf E = c) (hpos : 0 < c) (vs : α → List Value) (A : World → α → Prop) (d0 : α) (hl : ∀ x, (vs x).length = c)
    (ho : ∀ (fuel : Nat) (cs : List Value) (x : DataW H × List MemPlace), DataW.trod enc Tryz.prog W base (fun _ => true) true fuel E cs = some x → ∃ a, cs = vs a ∧ A W a) {fuel : Nat} {v : Value} {x : DataW H × List MemPlace} (h : DataW.trod enc Tryz.prog W base (fun _ => true) true fuel S [v] = some x) :
    ∃ r : Rw α, v = .slice r.ao r.len r.cap ∧ Rw.At c vs A W r := by
  rcases kslice hu hc h with rfl | ⟨a, len, cap, rfl, hb, hx⟩
  · exact ⟨⟨none, 0, 0, 0, 0, fun _ => d0⟩, rfl, ⟨fun h => absurd h (Nat.lt_irrefl _), Nat.zero_le _, fun _ h => absurd h (Nat.not_lt_zero _), fun _ h => absurd h (Nat.not_lt_zero _)⟩⟩
  · have each : ∀ i, i < len → ∃ t : α, (∀ j, j < c → W.cell? (a.add (i * c + j)) = (vs t)[j]?) ∧ A W t := fun i hi => by
      obtain ⟨m, cs, y, h1, h2⟩ := hx i hi
      obtain ⟨t, rfl, hA⟩ := ho m cs y h1
      exact ⟨t, h2, hA⟩
    have hspot : 0 < len → a = ⟨a.block, a.off, none⟩ := fun hp => by
      obtain ⟨t, ht, _⟩ := each 0 hp
      have e := ht 0 hpos
      rw [Nat.zero_mul, Nat.zero_add, List.getElem?_eq_getElem (by rw [hl]; exact hpos)] at e
      exact kplain e
    refine ⟨⟨some a, a.block, a.off, len, cap, fun i => if h : i < len then Classical.choose (each i h) else d0⟩, rfl, ⟨fun hp => congrArg some (hspot hp), hb, fun i hi => ?_, fun i hi => ?_⟩⟩
    · have hi' : i < len := hi
      simp only [dif_pos hi']
      obtain ⟨ht, hA⟩ := Classical.choose_spec (each i hi')
      generalize Classical.choose (each i hi') = t at ht hA
      have ea := hspot (by omega)
      intro j v hv
      have hj : j < c := by rw [← hl t]; exact (List.getElem?_eq_some_iff.1 hv).1
      have := ht j hj
      rw [ea, addr_plain, ← Nat.add_assoc, hv] at this
      exact this
    · have hi' : i < len := hi
      simp only [dif_pos hi']
      exact (Classical.choose_spec (each i hi')).2
theorem kopen_tys {fuel : Nat} {v : Value} {x : DataW H × List MemPlace} (h : DataW.trod enc Tryz.prog W base (fun _ => true) true fuel 31 [v] = some x) : ∃ t : Ty, v = .slice t.ao t.len t.cap ∧ t.At W := by
  obtain ⟨r, rfl, hr⟩ := kopen Tryz.underlying31 Tryz.cellsTy (by decide) Ty.vs (fun w t => t.At w) .dm (fun _ => rfl) (fun fuel cs x h => open_ty fuel cs x h) h
  refine ⟨.mk 0 0 0 0 r.ao r.b r.o r.len r.cap r.x, rfl, ⟨hr.nil, hr.bound, fun i hi => ⟨?_, hr.each i hi⟩⟩⟩
  have g := hr.row i hi
  exact ⟨by have := g 0 _ rfl; simpa using this, g 1 _ rfl, g 2 _ rfl, g 3 _ rfl, g 4 _ rfl⟩
set_option maxRecDepth 100000 in
theorem kopen_in (fuel : Nat) (cs : List Value) (x : DataW H × List MemPlace) (h : DataW.trod enc Tryz.prog W base (fun _ => true) true fuel 54 cs = some x) : ∃ i : In, cs = i.vs ∧ i.At W := by
  obtain ⟨n, hl, hf⟩ := kfields Tryz.underlying54 h
  rw [Tryz.kIn] at hl
  match cs, hl with
  | [c0, c1, c2, c3, c4, c5, c6], _ =>
    obtain ⟨z0, g0⟩ := hf 0 _ rfl
    obtain ⟨z1, g1⟩ := hf 1 _ rfl
    obtain ⟨z2, g2⟩ := hf 2 _ rfl
    have f0 : DataW.trod enc Tryz.prog W base (fun _ => true) true n 3 [c0] = some z0 := by simpa [Tryz.cellsInt'] using g0
    have f1 : DataW.trod enc Tryz.prog W base (fun _ => true) true n 2 [c1] = some z1 := by simpa [Tryz.kI64] using g1
    have f2 : DataW.trod enc Tryz.prog W base (fun _ => true) true n 36 [c2, c3, c4, c5, c6] = some z2 := by simpa [Tryz.cellsTy] using g2
    obtain ⟨op, q0, _, w0⟩ := DataW.trod_int Tryz.underlying3 f0
    obtain ⟨a, q1, _, w1⟩ := DataW.trod_int Tryz.underlying2 f1
    obtain ⟨t, hp, hpA⟩ := open_ty _ _ _ f2
    simp only [List.cons.injEq, and_true] at q0 q1
    subst q0 q1
    simp only [Ty.cs, List.cons.injEq, and_true] at hp
    obtain ⟨rfl, rfl, rfl, rfl, rfl⟩ := hp
    exact ⟨⟨op, a, t⟩, rfl, ⟨i64_wf w0, i64_wf w1, hpA⟩⟩
set_option maxRecDepth 100000 in
theorem kopen_hn (fuel : Nat) (cs : List Value) (x : DataW H × List MemPlace) (h : DataW.trod enc Tryz.prog W base (fun _ => true) true fuel 98 cs = some x) : ∃ i : Hn, cs = i.vs ∧ i.At := by
  obtain ⟨n, hl, hf⟩ := kfields Tryz.underlying98 h
  rw [Tryz.kHn] at hl
  match cs, hl with
  | [c0, c1, c2], _ =>
    obtain ⟨z0, g0⟩ := hf 0 _ rfl
    obtain ⟨z1, g1⟩ := hf 1 _ rfl
    obtain ⟨z2, g2⟩ := hf 2 _ rfl
    have f0 : DataW.trod enc Tryz.prog W base (fun _ => true) true n 3 [c0] = some z0 := by simpa [Tryz.cellsInt'] using g0
    have f1 : DataW.trod enc Tryz.prog W base (fun _ => true) true n 3 [c1] = some z1 := by simpa [Tryz.cellsInt'] using g1
    have f2 : DataW.trod enc Tryz.prog W base (fun _ => true) true n 3 [c2] = some z2 := by simpa [Tryz.cellsInt'] using g2
    obtain ⟨a, q0, _, w0⟩ := DataW.trod_int Tryz.underlying3 f0
    obtain ⟨b, q1, _, w1⟩ := DataW.trod_int Tryz.underlying3 f1
    obtain ⟨c, q2, _, w2⟩ := DataW.trod_int Tryz.underlying3 f2
    simp only [List.cons.injEq, and_true] at q0 q1 q2
    subst q0 q1 q2
    exact ⟨⟨a, b, c⟩, rfl, ⟨i64_wf w0, i64_wf w1, i64_wf w2⟩⟩
set_option maxRecDepth 100000 in
theorem kopen_pt (fuel : Nat) (cs : List Value) (x : DataW H × List MemPlace) (h : DataW.trod enc Tryz.prog W base (fun _ => true) true fuel 44 cs = some x) : ∃ i : Pt, cs = i.vs ∧ i.At W := by
  obtain ⟨n, hl, hf⟩ := kfields Tryz.underlying44 h
  rw [Tryz.kPt] at hl
  match cs, hl with
  | [c0, c1, c2], _ =>
    obtain ⟨z0, g0⟩ := hf 0 _ rfl
    obtain ⟨z1, g1⟩ := hf 1 _ rfl
    obtain ⟨z2, g2⟩ := hf 2 _ rfl
    have f0 : DataW.trod enc Tryz.prog W base (fun _ => true) true n 31 [c0] = some z0 := by simpa [Tryz.cellsTys] using g0
    have f1 : DataW.trod enc Tryz.prog W base (fun _ => true) true n 31 [c1] = some z1 := by simpa [Tryz.cellsTys] using g1
    have f2 : DataW.trod enc Tryz.prog W base (fun _ => true) true n 3 [c2] = some z2 := by simpa [Tryz.cellsInt'] using g2
    obtain ⟨a, rfl, hA⟩ := kopen_tys f0
    obtain ⟨b, rfl, hB⟩ := kopen_tys f1
    obtain ⟨c, q2, _, w2⟩ := DataW.trod_int Tryz.underlying3 f2
    simp only [List.cons.injEq, and_true] at q2
    subst q2
    exact ⟨⟨a, b, c⟩, rfl, ⟨hA, hB, i64_wf w2⟩⟩
theorem kopen_num (fuel : Nat) (cs : List Value) (x : DataW H × List MemPlace) (h : DataW.trod enc Tryz.prog W base (fun _ => true) true fuel 3 cs = some x) : ∃ a : Int, cs = numV a ∧ I64 a := by
  obtain ⟨a, q0, _, w0⟩ := DataW.trod_int Tryz.underlying3 h
  exact ⟨a, q0, i64_wf w0⟩
set_option maxRecDepth 100000 in
theorem kopen_rn (fuel : Nat) (cs : List Value) (x : DataW H × List MemPlace) (h : DataW.trod enc Tryz.prog W base (fun _ => true) true fuel 57 cs = some x) : ∃ i : Rn, cs = i.vs ∧ i.At W := by
  obtain ⟨n, hl, hf⟩ := kfields Tryz.underlying57 h
  rw [Tryz.kRn] at hl
  match cs, hl with
  | [c0, c1, c2], _ =>
    obtain ⟨z0, g0⟩ := hf 0 _ rfl
    obtain ⟨z1, g1⟩ := hf 1 _ rfl
    obtain ⟨z2, g2⟩ := hf 2 _ rfl
    have f0 : DataW.trod enc Tryz.prog W base (fun _ => true) true n 3 [c0] = some z0 := by simpa [Tryz.cellsInt'] using g0
    have f1 : DataW.trod enc Tryz.prog W base (fun _ => true) true n 3 [c1] = some z1 := by simpa [Tryz.cellsInt'] using g1
    have f2 : DataW.trod enc Tryz.prog W base (fun _ => true) true n 55 [c2] = some z2 := by simpa [Tryz.kInts] using g2
    obtain ⟨a, q0, _, w0⟩ := DataW.trod_int Tryz.underlying3 f0
    obtain ⟨b, q1, _, w1⟩ := DataW.trod_int Tryz.underlying3 f1
    obtain ⟨r, rfl, hr⟩ := kopen Tryz.underlying55 Tryz.cellsInt' (by decide) numV (fun _ a => I64 a) 0 (fun _ => rfl) kopen_num f2
    simp only [List.cons.injEq, and_true] at q0 q1
    subst q0 q1
    exact ⟨⟨a, b, r⟩, rfl, ⟨i64_wf w0, i64_wf w1, hr⟩⟩
set_option maxRecDepth 100000 in
theorem kopen_cf (fuel : Nat) (cs : List Value) (x : DataW H × List MemPlace) (h : DataW.trod enc Tryz.prog W base (fun _ => true) true fuel 42 cs = some x) : ∃ f : Cf, cs = f.vs ∧ f.At W := by
  obtain ⟨n, hl, hf⟩ := kfields Tryz.underlying42 h
  rw [Tryz.kFn] at hl
  match cs, hl with
  | [c0, c1, c2, c3, c4, c5, c6, c7, c8, c9, c10, c11, c12, c13, c14, c15, c16, c17], _ =>
    obtain ⟨z0, g0⟩ := hf 0 _ rfl
    obtain ⟨z1, g1⟩ := hf 1 _ rfl
    obtain ⟨z2, g2⟩ := hf 2 _ rfl
    obtain ⟨z3, g3⟩ := hf 3 _ rfl
    obtain ⟨z4, g4⟩ := hf 4 _ rfl
    obtain ⟨z5, g5⟩ := hf 5 _ rfl
    obtain ⟨z6, g6⟩ := hf 6 _ rfl
    obtain ⟨z7, g7⟩ := hf 7 _ rfl
    obtain ⟨z8, g8⟩ := hf 8 _ rfl
    obtain ⟨z9, g9⟩ := hf 9 _ rfl
    have f0 : DataW.trod enc Tryz.prog W base (fun _ => true) true n 36 [c0, c1, c2, c3, c4] = some z0 := by simpa [Tryz.cellsTy] using g0
    have f1 : DataW.trod enc Tryz.prog W base (fun _ => true) true n 36 [c5, c6, c7, c8, c9] = some z1 := by simpa [Tryz.cellsTy] using g1
    have f2 : DataW.trod enc Tryz.prog W base (fun _ => true) true n 31 [c10] = some z2 := by simpa [Tryz.cellsTys] using g2
    have f3 : DataW.trod enc Tryz.prog W base (fun _ => true) true n 3 [c11] = some z3 := by simpa [Tryz.cellsInt'] using g3
    have f4 : DataW.trod enc Tryz.prog W base (fun _ => true) true n 3 [c12] = some z4 := by simpa [Tryz.cellsInt'] using g4
    have f5 : DataW.trod enc Tryz.prog W base (fun _ => true) true n 3 [c13] = some z5 := by simpa [Tryz.cellsInt'] using g5
    have f6 : DataW.trod enc Tryz.prog W base (fun _ => true) true n 37 [c14] = some z6 := by simpa [Tryz.kIns] using g6
    have f7 : DataW.trod enc Tryz.prog W base (fun _ => true) true n 38 [c15] = some z7 := by simpa [Tryz.kHan] using g7
    have f8 : DataW.trod enc Tryz.prog W base (fun _ => true) true n 39 [c16] = some z8 := by simpa [Tryz.kPts] using g8
    have f9 : DataW.trod enc Tryz.prog W base (fun _ => true) true n 40 [c17] = some z9 := by simpa [Tryz.kRgs] using g9
    obtain ⟨p, hp, hpA⟩ := open_ty _ _ _ f0
    obtain ⟨r, hr, hrA⟩ := open_ty _ _ _ f1
    obtain ⟨c, rfl, hcA⟩ := kopen_tys f2
    obtain ⟨hh, q3, _, w3⟩ := DataW.trod_int Tryz.underlying3 f3
    obtain ⟨ee, q4, _, w4⟩ := DataW.trod_int Tryz.underlying3 f4
    obtain ⟨sl, q5, _, w5⟩ := DataW.trod_int Tryz.underlying3 f5
    obtain ⟨s6, rfl, k6⟩ := kopen Tryz.underlying37 Tryz.kIn (by decide) In.vs In.At ⟨0, 0, .dm⟩ (fun _ => rfl) kopen_in f6
    obtain ⟨s7, rfl, k7⟩ := kopen Tryz.underlying38 Tryz.kHn (by decide) Hn.vs (fun _ h => h.At) ⟨0, 0, 0⟩ (fun _ => rfl) kopen_hn f7
    obtain ⟨s8, rfl, k8⟩ := kopen Tryz.underlying39 Tryz.kPt (by decide) Pt.vs Pt.At ⟨.dm, .dm, 0⟩ (fun _ => rfl) kopen_pt f8
    obtain ⟨s9, rfl, k9⟩ := kopen Tryz.underlying40 Tryz.kRn (by decide) Rn.vs Rn.At ⟨0, 0, ⟨none, 0, 0, 0, 0, fun _ => 0⟩⟩ (fun _ => rfl) kopen_rn f9
    simp only [List.cons.injEq, and_true] at q3 q4 q5
    subst q3 q4 q5
    simp only [Ty.cs, List.cons.injEq, and_true] at hp hr
    obtain ⟨rfl, rfl, rfl, rfl, rfl⟩ := hp
    obtain ⟨rfl, rfl, rfl, rfl, rfl⟩ := hr
    exact ⟨⟨p, r, c, hh, ee, sl, s6, s7, s8, s9⟩, rfl, ⟨hpA, hrA, hcA, i64_wf w3, i64_wf w4, i64_wf w5, k6, k7, k8, k9⟩⟩
def noCf : Cf := ⟨.dm, .dm, .dm, 0, 0, 0, ⟨none, 0, 0, 0, 0, fun _ => ⟨0, 0, .dm⟩⟩, ⟨none, 0, 0, 0, 0, fun _ => ⟨0, 0, 0⟩⟩, ⟨none, 0, 0, 0, 0, fun _ => ⟨.dm, .dm, 0⟩⟩, ⟨none, 0, 0, 0, 0, fun _ => ⟨0, 0, ⟨none, 0, 0, 0, 0, fun _ => 0⟩⟩⟩⟩
theorem kopen_cfs {fuel : Nat} {v : Value} {x : DataW H × List MemPlace} (h : DataW.trod enc Tryz.prog W base (fun _ => true) true fuel 26 [v] = some x) : ∃ r : Rw Cf, v = .slice r.ao r.len r.cap ∧ CfsAt W r :=
  kopen Tryz.underlying26 Tryz.kFn (by decide) Cf.vs Cf.At noCf (fun _ => rfl) kopen_cf h
set_option maxRecDepth 100000 in
theorem kopen_kl (fuel : Nat) (cs : List Value) (x : DataW H × List MemPlace) (h : DataW.trod enc Tryz.prog W base (fun _ => true) true fuel 28 cs = some x) : ∃ c : Kl, cs = c.vs ∧ c.At W := by
  obtain ⟨n, hl, hf⟩ := kfields Tryz.underlying28 h
  rw [Tryz.kKl] at hl
  match cs, hl with
  | [c0, c1, c2], _ =>
    obtain ⟨z0, g0⟩ := hf 0 _ rfl
    obtain ⟨z1, g1⟩ := hf 1 _ rfl
    have f0 : DataW.trod enc Tryz.prog W base (fun _ => true) true n 25 [c0, c1] = some z0 := by simpa [Tryz.cellsLat] using g0
    have f1 : DataW.trod enc Tryz.prog W base (fun _ => true) true n 26 [c2] = some z1 := by simpa [Tryz.kFns] using g1
    obtain ⟨m, _, hg⟩ := kfields Tryz.underlying25 f0
    obtain ⟨y0, k0⟩ := hg 0 _ rfl
    obtain ⟨y1, k1⟩ := hg 1 _ rfl
    have e0 : DataW.trod enc Tryz.prog W base (fun _ => true) true m 22 [c0] = some y0 := by simpa [Tryz.kStrs] using k0
    have e1 : DataW.trod enc Tryz.prog W base (fun _ => true) true m 23 [c1] = some y1 := by simpa [Tryz.kRows] using k1
    obtain ⟨ns, rfl, hn⟩ := open_strs e0
    obtain ⟨g, rfl, hgg⟩ := open_grid e1
    obtain ⟨r, rfl, hr⟩ := kopen_cfs f1
    exact ⟨⟨ns, g, r⟩, rfl, ⟨hn, hgg, hr⟩⟩
set_option maxRecDepth 100000 in
theorem open_class {v : Value} {d : DataW H} {p : List MemPlace} {b0 : Nat} (hv : Value.okWide Tryz.prog W .any b0 28 v) (h : DataW.Trod enc Tryz.prog W base (fun _ => true) true 28 v d p) :
    ∃ c : Kl, v = .agg #[.slice c.n.ao c.n.len c.n.cap, .slice c.g.ao c.g.len c.g.cap, .slice c.fs.ao c.fs.len c.fs.cap] ∧ c.At W := by
  obtain ⟨cs, rfl, _⟩ := okWide_struct Tryz.underlying28 hv
  obtain ⟨fuel, hf⟩ := h
  obtain ⟨c, hc, hA⟩ := kopen_kl fuel _ _ hf
  refine ⟨c, ?_, hA⟩
  have : cs.toList = c.vs := by simpa [Value.cells] using hc
  obtain ⟨l⟩ := cs
  have e : l = c.vs := this
  rw [e]; rfl
set_option maxRecDepth 100000 in
theorem open_func {v : Value} {d : DataW H} {p : List MemPlace} {b0 : Nat} (hv : Value.okWide Tryz.prog W .any b0 42 v) (h : DataW.Trod enc Tryz.prog W base (fun _ => true) true 42 v d p) :
    ∃ f : Cf, v = .agg f.vs.toArray ∧ f.At W := by
  obtain ⟨cs, rfl, _⟩ := okWide_struct Tryz.underlying42 hv
  obtain ⟨fuel, hf⟩ := h
  obtain ⟨c, hc, hA⟩ := kopen_cf fuel _ _ hf
  refine ⟨c, ?_, hA⟩
  have : cs.toList = c.vs := by simpa [Value.cells] using hc
  obtain ⟨l⟩ := cs
  have e : l = c.vs := this
  rw [e]
set_option maxRecDepth 100000 in
theorem open_region {v : Value} {d : DataW H} {p : List MemPlace} {b0 : Nat} (hv : Value.okWide Tryz.prog W .any b0 57 v) (h : DataW.Trod enc Tryz.prog W base (fun _ => true) true 57 v d p) :
    ∃ r : Rn, v = .agg r.vs.toArray ∧ r.At W := by
  obtain ⟨cs, rfl, _⟩ := okWide_struct Tryz.underlying57 hv
  obtain ⟨fuel, hf⟩ := h
  obtain ⟨c, hc, hA⟩ := kopen_rn fuel _ _ hf
  refine ⟨c, ?_, hA⟩
  have : cs.toList = c.vs := by simpa [Value.cells] using hc
  obtain ⟨l⟩ := cs
  have e : l = c.vs := this
  rw [e]
end
end Go.Proofs.YtjfijpiadfkmfaaGreatDoor

/- Rows of whatever, put one behind the other in memory of one's own; functions that come in. -/
namespace Go.Proofs.YtjfijpiadfkmfaaGreatDoor
open Go.ChangeShapes Go.WideShapes Go.ChangeAt Go.RowKit Go.Deep Go.Joins

def rowR {α : Type} (vs : α → List Value) (r : Rw α) : List Value := flatN (fun i => vs (r.x i)) r.len
theorem rowR_len {α : Type} {vs : α → List Value} {z : Nat} (hz : ∀ x, (vs x).length = z) (r : Rw α) : (rowR vs r).length = r.len * z := flatN_len (fun i => hz (r.x i)) r.len
theorem rowR_cell {α : Type} {vs : α → List Value} {z : Nat} (hz : ∀ x, (vs x).length = z) (hp : 0 < z) {A : World → α → Prop} {w : World} {r : Rw α} (h : Rw.At z vs A w r) : ∀ a, r.ao = some a → ∀ j u, (rowR vs r)[j]? = some u → w.cell? (a.add j) = some u := fun a ha j u hj => by
  have hlt : j < r.len * z := by rw [← rowR_len hz r]; exact (List.getElem?_eq_some_iff.1 hj).1
  have h0 : 0 < r.len := by
    rcases Nat.eq_zero_or_pos r.len with e | e
    · rw [e, Nat.zero_mul] at hlt; omega
    · exact e
  rw [h.nil h0] at ha
  injection ha with ha
  subst ha
  exact flatN_cell (fun i => hz (r.x i)) hp h.row j u hj
theorem rowR_one {α : Type} {vs : α → List Value} (h1 : ∀ x, (vs x).all (·.oneCell') = true) (r : Rw α) : ∀ u ∈ rowR vs r, u.oneCell' = true := fun u hu => by
  obtain ⟨i, _, h⟩ := flatN_mem r.len hu
  exact List.all_eq_true.1 (h1 (r.x i)) u h
theorem Rw.of_own {α : Type} {vs : α → List Value} {z : Nat} (hz : ∀ x, (vs x).length = z) {A : World → α → Prop} {w : World} {base : Nat} {e : TypeId} {v : Value} {n : Nat} {F : Nat → α} (h : w.ownsRow base e z v n (flatN (fun i => vs (F i)) n)) (hb : n ≤ 9223372036854775807) (hA : ∀ i, i < n → A w (F i)) : ∃ r : Rw α, v = .slice r.ao r.len r.cap ∧ Rw.At z vs A w r ∧ r.len = n ∧ r.x = F := by
  obtain ⟨hl, ⟨rfl, rfl⟩ | ⟨g, cap, cur, rfl, hg, hh, hr⟩⟩ := h
  · exact ⟨⟨none, 0, 0, 0, 0, F⟩, rfl, ⟨fun h => absurd h (Nat.lt_irrefl _), Nat.zero_le _, fun _ h => absurd h (Nat.not_lt_zero _), fun _ h => absurd h (Nat.not_lt_zero _)⟩, rfl, rfl⟩
  · have ho : w.ownsRow base e z (.slice (some ⟨g, 0, none⟩) n cap) n (flatN (fun i => vs (F i)) n) := ⟨hl, Or.inr ⟨g, cap, cur, rfl, hg, hh, hr⟩⟩
    refine ⟨⟨some ⟨g, 0, none⟩, g, 0, n, cap, F⟩, rfl, ⟨fun _ => rfl, hb, fun i hi => ?_, hA⟩, rfl, rfl⟩
    have hi' : i < n := hi
    intro j u hu
    have hj : j < z := by rw [← hz (F i)]; exact (List.getElem?_eq_some_iff.1 hu).1
    show w.cell? ⟨g, 0 + i * z + j, none⟩ = some u
    have hlt : i * z + j < n * z := by
      have : (i + 1) * z ≤ n * z := Nat.mul_le_mul_right z (by omega)
      rw [Nat.add_mul, Nat.one_mul] at this
      omega
    rw [Nat.zero_add, ho.cellAt (i * z + j) hlt]
    rw [flatN_get (fun i => hz (F i)) n i j hi' hj]
    exact hu
/-- Two rows, one behind the other. -/
def Rw.cat {α : Type} (r s : Rw α) : Nat → α := fun i => if i < r.len then r.x i else s.x (i - r.len)
theorem rowR_cat {α : Type} (vs : α → List Value) (r s : Rw α) : flatN (fun i => vs (Rw.cat r s i)) (r.len + s.len) = rowR vs r ++ rowR vs s := by
  have e : (fun i => vs (Rw.cat r s i)) = fun i => if i < r.len then vs (r.x i) else vs (s.x (i - r.len)) := by
    funext i
    show vs (if i < r.len then r.x i else s.x (i - r.len)) = _
    split <;> rfl
  rw [e, flatN_app (fun i => vs (r.x i)) (fun i => vs (s.x i)) r.len s.len]
  rfl
theorem Tryz.infoFn14 : (Tryz.prog.info? 42).map (fun i => (i.zero, i.size, i.bytes)) = some (some (.agg #[.int .i64 0, .int .i64 0, .slice none 0 0, .int .i64 0, .int .i64 0, .int .i64 0, .int .i64 0, .slice none 0 0, .int .i64 0, .int .i64 0, .slice none 0 0, .int .i64 0, .int .i64 0, .int .i64 0, .slice none 0 0, .slice none 0 0, .slice none 0 0, .slice none 0 0]), 18, 256) := by kernel_rfl

section
variable {H : Type} {enc : TypeId × Value → H} {W : World} {base : Nat}
set_option maxRecDepth 100000 in
theorem open_class_nil {x y : Value} {ao : Option Addr} {len cap : Nat} {d : DataW H} {p : List MemPlace} (h : DataW.Trod enc Tryz.prog W base (fun _ => true) true 28 (.agg #[x, y, .slice ao len cap]) d p) : ao = none → len = 0 ∧ cap = 0 := by
  obtain ⟨fuel, hf⟩ := h
  have hf' : DataW.trod enc Tryz.prog W base (fun _ => true) true fuel 28 [x, y, .slice ao len cap] = some (d, p) := by simpa [Value.cells] using hf
  obtain ⟨n, _, hg⟩ := kfields Tryz.underlying28 hf'
  obtain ⟨z1, g1⟩ := hg 1 _ rfl
  have f1 : DataW.trod enc Tryz.prog W base (fun _ => true) true n 26 [.slice ao len cap] = some z1 := by simpa [Tryz.kFns] using g1
  rcases kslice Tryz.underlying26 Tryz.kFn f1 with e | ⟨a, len', cap', e, _, _⟩
  · injection e with e1 e2 e3
    exact fun _ => ⟨e2, e3⟩
  · injection e with e1 _ _
    intro h
    rw [h] at e1
    cases e1
set_option maxRecDepth 100000 in
theorem open_funcs {v : Value} {d : DataW H} {p : List MemPlace} {b0 : Nat} (hv : Value.okWide Tryz.prog W .any b0 26 v) (h : DataW.Trod enc Tryz.prog W base (fun _ => true) true 26 v d p) :
    ∃ r : Rw Cf, v = .slice r.ao r.len r.cap ∧ (CfsAt W r ∧ (r.ao = none → r.len = 0 ∧ r.cap = 0)) := by
  obtain ⟨fuel, hf⟩ := h
  obtain ⟨ao, len, cap, rfl, _⟩ := okWide_slice Tryz.underlying26 hv
  have hf' : DataW.trod enc Tryz.prog W base (fun _ => true) true fuel 26 [.slice ao len cap] = some (d, p) := by simpa [Value.cells] using hf
  have hn : ao = none → len = 0 ∧ cap = 0 := by
    rcases kslice Tryz.underlying26 Tryz.kFn hf' with e | ⟨a, len', cap', e, _, _⟩
    · injection e with e1 e2 e3
      exact fun _ => ⟨e2, e3⟩
    · injection e with e1 _ _
      intro h
      rw [h] at e1
      cases e1
  obtain ⟨r, hr, hA⟩ := kopen_cfs hf'
  injection hr with e1 e2 e3
  subst e1 e2 e3
  exact ⟨r, rfl, hA, hn⟩
end
end Go.Proofs.YtjfijpiadfkmfaaGreatDoor

/- (Beside other layers, in a namespace of its own.) Layer 4: bytes in memory, numbers and their bytes, what a reader has. -/
namespace Go.Proofs.YtjfijpiadfkmfaaGreatDoor.By
open Go.RowKit

theorem ret_int {k : IntKind} {a b : Int} (h : a = b) : Ending.returned (.int k a) = .returned (.int k b) := by rw [h]
theorem ret_bool {a b : Bool} (h : a = b) : Ending.returned (.bool a) = .returned (.bool b) := by rw [h]
theorem cell_lt {w : World} {p : Addr} {v : Value} (h : w.cell? p = some v) : p.block < w.heap.size := by
  unfold World.cell? at h
  rcases Nat.lt_or_ge p.block w.heap.size with hl | hl
  · exact hl
  · rw [Array.getElem?_eq_none hl] at h; simp at h
theorem heap_lt {w : World} {p : Nat} {v : Obj} (h : w.heap[p]? = some v) : p < w.heap.size := by
  rcases Nat.lt_or_ge p w.heap.size with hl | hl
  · exact hl
  · rw [Array.getElem?_eq_none hl] at h; cases h
theorem addr_add (b o i : Nat) : (⟨b, o, none⟩ : Addr).add i = ⟨b, o + i, none⟩ := by unfold Addr.add; split <;> simp_all

theorem gb_refl (w : World) (r : Option Nat) : w.grownBy w r := ⟨rfl, rfl, rfl, Nat.le_refl _, fun _ _ _ => rfl⟩
theorem gb_trans {a b c : World} {r : Option Nat} (h : a.grownBy b r) (k : b.grownBy c r) : a.grownBy c r :=
  ⟨k.os.trans h.os, k.tape.trans h.tape, k.output.trans h.output, Nat.le_trans h.size k.size, fun x hx hr => (k.block x (Nat.lt_of_lt_of_le hx h.size) hr).trans (h.block x hx hr)⟩
theorem gb_set {a b : World} {p : Nat} (h : a.grownBy b (some p)) (o : Nat) (v : Value) : a.grownBy (b.setCell ⟨p, o, none⟩ v) (some p) :=
  gb_trans h (Lib.grownBy_setCell b p o v)
theorem gb_none {a b : World} (h : a.grownBy b none) (r : Option Nat) : a.grownBy b r := ⟨h.os, h.tape, h.output, h.size, fun x hx _ => h.block x hx (by simp)⟩
theorem gb_of_below {a b : World} (h : Below a.heap.size a b) (r : Option Nat) : a.grownBy b r := ⟨h.os, h.tape, h.output, h.size, fun x hx _ => h.block x hx⟩
theorem gb_new {a b : World} {p : Nat} (h : a.grownBy b (some p)) (hp : a.heap.size ≤ p) : Below a.heap.size a b := ⟨h.os, h.tape, h.output, h.size, fun x hx => h.block x hx (fun e => by injection e with e; omega)⟩

/-- A []byte in memory. -/
structure Bys where
  ao : Option Addr
  b : Nat
  o : Nat
  len : Nat
  cap : Nat
  f : Nat → Nat
structure Bys.At (g : Bys) (w : World) : Prop where
  lc : g.len ≤ g.cap
  nil : 0 < g.len → g.ao = some ⟨g.b, g.o, none⟩
  none : g.ao = none → g.cap = 0
  bound : g.cap ≤ 9223372036854775807
  cell : ∀ i, i < g.len → w.cell? ⟨g.b, g.o + i, .none⟩ = some (.int .u8 (g.f i))
  lt : ∀ i, i < g.len → g.f i < 256
/-- The bytes. -/
def Bys.l (g : Bys) : List Nat := (List.range g.len).map g.f
theorem Bys.len_l (g : Bys) : g.l.length = g.len := by simp [Bys.l]
theorem Bys.At.of_cell {g : Bys} {w w' : World} (h : g.At w) (hc : ∀ i, i < g.len → w'.cell? ⟨g.b, g.o + i, .none⟩ = w.cell? ⟨g.b, g.o + i, .none⟩) : g.At w' :=
  ⟨h.lc, h.nil, h.none, h.bound, fun i hi => (hc i hi).trans (h.cell i hi), h.lt⟩
theorem Bys.At.kept {g : Bys} {w w' : World} (h : g.At w) (hb : Below w.heap.size w w') : g.At w' :=
  h.of_cell fun i hi => hb.cell (p := ⟨g.b, g.o + i, .none⟩) (cell_lt (h.cell i hi))
theorem Bys.At.gb {g : Bys} {w w' : World} {p : Nat} (h : g.At w) (hb : w.grownBy w' (some p)) (hp : g.b ≠ p) : g.At w' :=
  h.of_cell fun i hi => hb.cell_far ⟨g.b, g.o + i, .none⟩ (cell_lt (h.cell i hi)) (fun e => hp (by injection e))
theorem Bys.l_lt {g : Bys} {w : World} (h : g.At w) : ∀ x ∈ g.l, x < 256 := by
  intro x hx
  simp only [Bys.l, List.mem_map, List.mem_range] at hx
  obtain ⟨i, hi, rfl⟩ := hx
  exact h.lt i hi

/-- The number that bytes say. -/
def val (l : List Nat) : Nat := l.foldl (fun n b => n * 256 + b) 0
theorem val_nil : val [] = 0 := rfl
theorem val_snoc (l : List Nat) (b : Nat) : val (l ++ [b]) = val l * 256 + b := by simp [val, List.foldl_append]
theorem val_lt (l : List Nat) (h : ∀ x ∈ l, x < 256) : val l < 256 ^ l.length := by
  suffices H : ∀ l : List Nat, (∀ x ∈ l.reverse, x < 256) → val l.reverse < 256 ^ l.length by
    have := H l.reverse (by simpa using h)
    simpa using this
  intro l
  induction l with
  | nil => intro _; simp [val_nil]
  | cons a l ih =>
    intro h
    simp only [List.reverse_cons] at h ⊢
    rw [val_snoc]
    have h1 := ih (fun x hx => h x (by simp at hx ⊢; exact Or.inl hx))
    have h2 := h a (by simp)
    have : 256 ^ (a :: l).length = 256 ^ l.length * 256 := by simp [Nat.pow_succ]
    rw [this]
    omega
def valF (f : Nat → Nat) : Nat → Nat
  | 0 => 0
  | k + 1 => valF f k * 256 + f k
theorem val_range (f : Nat → Nat) (k : Nat) : val ((List.range k).map f) = valF f k := by
  induction k with
  | zero => rfl
  | succ k ih => rw [List.range_succ, List.map_append]; simp only [List.map_cons, List.map_nil]; rw [val_snoc, ih]; rfl
theorem valF_lt (f : Nat → Nat) (k : Nat) (h : ∀ i, i < k → f i < 256) : valF f k < 256 ^ k := by
  induction k with
  | zero => simp [valF]
  | succ k ih =>
    have h1 := ih (fun i hi => h i (by omega))
    have h2 := h k (by omega)
    show valF f k * 256 + f k < _
    rw [Nat.pow_succ]; omega
theorem valF_8 (f : Nat → Nat) (k : Nat) (hk : k ≤ 8) (h : ∀ i, i < k → f i < 256) : valF f k < 18446744073709551616 := by
  have h1 := valF_lt f k h
  have h2 : 256 ^ k ≤ 256 ^ 8 := Nat.pow_le_pow_right (by omega) hk
  have : (256 : Nat) ^ 8 = 18446744073709551616 := by decide
  omega

/-- Byte i of the k bytes of n, the most significant first. -/
def beF (k n i : Nat) : Nat := n / 256 ^ (k - 1 - i) % 256
def be (k n : Nat) : List Nat := (List.range k).map (beF k n)
theorem be_len (k n : Nat) : (be k n).length = k := by simp [be]
theorem beF_lt (k n i : Nat) : beF k n i < 256 := Nat.mod_lt _ (by omega)
theorem be_lt (k n : Nat) : ∀ x ∈ be k n, x < 256 := by
  intro x hx
  simp only [be, List.mem_map] at hx
  obtain ⟨i, _, rfl⟩ := hx
  exact beF_lt _ _ _
theorem be_succ (k n : Nat) : be (k + 1) n = be k (n / 256) ++ [n % 256] := by
  unfold be
  rw [List.range_succ, List.map_append]
  congr 1
  · apply List.map_congr_left
    intro i hi
    rw [List.mem_range] at hi
    unfold beF
    rw [show k + 1 - 1 - i = (k - 1 - i) + 1 by omega, Nat.pow_succ, Nat.mul_comm, Nat.div_div_eq_div_mul]
  · simp [beF]
theorem val_be (k n : Nat) : val (be k n) = n % 256 ^ k := by
  induction k generalizing n with
  | zero => simp [be, val_nil, Nat.mod_one]
  | succ k ih =>
    rw [be_succ, val_snoc, ih, Nat.pow_succ, Nat.mul_comm (256 ^ k) 256, Nat.mod_mul, Nat.mul_comm, Nat.add_comm]

/-- What is taken of what a reader has: nothing of a failed one. -/
def tk (s : Nat) : Option (List Nat) → List Nat
  | some l => if s ≤ l.length then l.take s else []
  | none => []
def tkS (s : Nat) : Option (List Nat) → Option (List Nat)
  | some l => if s ≤ l.length then some (l.drop s) else none
  | none => none
def shortV (st : Option (List Nat)) : Nat := val (tk 2 st)
def sgn (n : Nat) : Int := if n < 9223372036854775808 then n else (n : Int) - 18446744073709551616
def longV (st : Option (List Nat)) : Int := sgn (val (tk 8 st))
def str (l : List Nat) : ByteArray := ⟨(l.map fun x => UInt8.ofNat x).toArray⟩
def textV (st : Option (List Nat)) : ByteArray := str (tk (shortV st) (tkS 2 st))
def textS (st : Option (List Nat)) : Option (List Nat) := tkS (shortV st) (tkS 2 st)
def belowV (lim : Int) (st : Option (List Nat)) : Nat := if (tkS 2 st).isNone = true ∨ lim ≤ shortV st then 0 else shortV st
def belowS (lim : Int) (st : Option (List Nat)) : Option (List Nat) := if (tkS 2 st).isNone = true ∨ lim ≤ shortV st then none else tkS 2 st
def leftV : Option (List Nat) → Nat
  | some l => l.length
  | none => 0

theorem Tryz.infoByte : (Tryz.prog.info? 5).map (fun i => (i.zero, i.size, i.bytes)) = some (some (.int .u8 0), 1, 1) := by kernel_rfl
end Go.Proofs.YtjfijpiadfkmfaaGreatDoor.By
