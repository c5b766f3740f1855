/- A class that comes in, opened; a function, a region. -/
import Derived.Test.YtmajlfocfjcgmaaP4
import Derived.Test.YtmajlfocfjcgmaaP1
import Derived.Test.YtmajlfocfjcgmaaP6
import Derived.Test.YtmajlfocfjcgmaaP5
import Derived.Deep.RegionHeld3
import Derived.Deep.MidRow
namespace Go.Proofs.Ytmajlfocfjcgmaa
open Go.ChangeShapes Go.WideShapes Go.ChangeAt Go.RowKit Go.Deep Go.Joins

theorem Try.kFn : Try.prog.cellsOf 30 = 18 := by kernel_rfl
theorem Try.kIn : Try.prog.cellsOf 44 = 7 := by kernel_rfl
theorem Try.kHn : Try.prog.cellsOf 55 = 3 := by kernel_rfl
theorem Try.kPt : Try.prog.cellsOf 106 = 3 := by kernel_rfl
theorem Try.kRn : Try.prog.cellsOf 108 = 3 := by kernel_rfl
theorem Try.kIns : Try.prog.cellsOf 25 = 1 := by kernel_rfl
theorem Try.kHan : Try.prog.cellsOf 26 = 1 := by kernel_rfl
theorem Try.kPts : Try.prog.cellsOf 27 = 1 := by kernel_rfl
theorem Try.kRgs : Try.prog.cellsOf 28 = 1 := by kernel_rfl
theorem Try.kInts : Try.prog.cellsOf 32 = 1 := by kernel_rfl
theorem Try.kI64 : Try.prog.cellsOf 2 = 1 := by kernel_rfl
theorem i64_wf {n : Int} (h : (Lit.int .i64 n).wf = true) : I64 n := by
  have h' : IntKind.i64.min ≤ n ∧ n ≤ IntKind.i64.max := by simpa [Lit.wf] using h
  have e1 : IntKind.i64.min = -9223372036854775808 := by decide
  have e2 : IntKind.i64.max = 9223372036854775807 := by decide
  rw [e1, e2] at h'
  exact h'

section
variable {H : Type} {enc : TypeId × Value → H} {W : World} {base : Nat}

set_option maxRecDepth 100000 in
theorem kfields {t : TypeId} {fuel : Nat} {cs : List Value} {x : DataW H × List MemPlace} {fs : Array Field} (ht : Try.prog.underlying t = some (.struct fs)) (h : DataW.trod enc Try.prog W base (fun _ => true) true fuel t cs = some x) :
    ∃ n, cs.length = Try.prog.cellsOf t ∧ ∀ (i : Nat) (f : Field), fs[i]? = some f → ∃ y, DataW.trod enc Try.prog W base (fun _ => true) true n f.type ((cs.drop f.offset).take (Try.prog.cellsOf f.type)) = some y := by
  obtain ⟨xs, n, _, _, hl, hlen, hf⟩ := DataW.trod_struct ht h
  refine ⟨n, hl, fun i f hi => ?_⟩
  have hlt : i < xs.length := by rw [hlen]; exact (Array.getElem?_eq_some_iff.1 hi).1
  exact ⟨xs[i], by rw [hf i f hi, List.getElem?_eq_getElem hlt]⟩
set_option maxRecDepth 100000 in
theorem kslice {S E : TypeId} {c : Nat} (hu : Try.prog.underlying S = some (.slice E)) (hc : Try.prog.cellsOf E = c) {fuel : Nat} {v : Value} {x : DataW H × List MemPlace} (h : DataW.trod enc Try.prog W base (fun _ => true) true fuel S [v] = some x) :
    v = .slice none 0 0 ∨ ∃ (a : Addr) (len cap : Nat), v = .slice (some a) len cap ∧ len ≤ 9223372036854775807 ∧ ∀ i, i < len → ∃ m cs y, DataW.trod enc Try.prog W base (fun _ => true) true m E cs = some y ∧ ∀ j, j < c → W.cell? (a.add (i * c + j)) = cs[j]? := by
  rcases DataW.trod_slice hu h with ⟨hcs, _⟩ | ⟨a, len, cap, elems, rest, m, hm, hcs, _, _, hlc, hmx, hel, hx, _, _⟩
  · exact Or.inl (by simpa using hcs)
  · refine Or.inr ⟨a, len, cap, by simpa using hcs, by unfold maxLen at hmx; omega, fun i hi => ?_⟩
    have h1 := hx i hi
    rw [hc] at h1
    cases hcc : W.cells? base (a.add (i * c)) c with
    | none => rw [hcc] at h1; simp at h1; omega
    | some cs' =>
      rw [hcc] at h1
      have h2 : DataW.trod enc Try.prog W base (fun _ => true) true m E cs' = some elems[i] := by
        rw [List.getElem?_eq_getElem (by omega)] at h1
        simpa using h1
      obtain ⟨_, _, hcell⟩ := World.cells?_some hcc
      exact ⟨m, cs', _, h2, fun j hj => by rw [← hcell j hj, add_add]⟩
theorem kplain {a : Addr} {v : Value} (h : W.cell? (a.add 0) = some v) : a = ⟨a.block, a.off, none⟩ := by
  have hs := World.cell?_spot h
  obtain ⟨ab, ao, asp⟩ := a
  have : asp = none := by simpa [Addr.add] using hs
  subst this; rfl
/-- A slice of whatever, opened. -/
theorem kopen {α : Type} {S E : TypeId} {c : Nat} (hu : Try.prog.underlying S = some (.slice E)) (hc : Try.prog.cellsOf E = c) (hpos : 0 < c) (vs : α → List Value) (A : World → α → Prop) (d0 : α) (hl : ∀ x, (vs x).length = c)
    (ho : ∀ (fuel : Nat) (cs : List Value) (x : DataW H × List MemPlace), DataW.trod enc Try.prog W base (fun _ => true) true fuel E cs = some x → ∃ a, cs = vs a ∧ A W a) {fuel : Nat} {v : Value} {x : DataW H × List MemPlace} (h : DataW.trod enc Try.prog W base (fun _ => true) true fuel S [v] = some x) :
    ∃ r : Rw α, v = .slice r.ao r.len r.cap ∧ Rw.At c vs A W r := by
  rcases kslice hu hc h with rfl | ⟨a, len, cap, rfl, hb, hx⟩
  · exact ⟨⟨none, 0, 0, 0, 0, fun _ => d0⟩, rfl, ⟨fun h => absurd h (Nat.lt_irrefl _), Nat.zero_le _, fun _ h => absurd h (Nat.not_lt_zero _), fun _ h => absurd h (Nat.not_lt_zero _)⟩⟩
  · have each : ∀ i, i < len → ∃ t : α, (∀ j, j < c → W.cell? (a.add (i * c + j)) = (vs t)[j]?) ∧ A W t := fun i hi => by
      obtain ⟨m, cs, y, h1, h2⟩ := hx i hi
      obtain ⟨t, rfl, hA⟩ := ho m cs y h1
      exact ⟨t, h2, hA⟩
    have hspot : 0 < len → a = ⟨a.block, a.off, none⟩ := fun hp => by
      obtain ⟨t, ht, _⟩ := each 0 hp
      have e := ht 0 hpos
      rw [Nat.zero_mul, Nat.zero_add, List.getElem?_eq_getElem (by rw [hl]; exact hpos)] at e
      exact kplain e
    refine ⟨⟨some a, a.block, a.off, len, cap, fun i => if h : i < len then Classical.choose (each i h) else d0⟩, rfl, ⟨fun hp => congrArg some (hspot hp), hb, fun i hi => ?_, fun i hi => ?_⟩⟩
    · have hi' : i < len := hi
      simp only [dif_pos hi']
      obtain ⟨ht, hA⟩ := Classical.choose_spec (each i hi')
      generalize Classical.choose (each i hi') = t at ht hA
      have ea := hspot (by omega)
      intro j v hv
      have hj : j < c := by rw [← hl t]; exact (List.getElem?_eq_some_iff.1 hv).1
      have := ht j hj
      rw [ea, addr_plain, ← Nat.add_assoc, hv] at this
      exact this
    · have hi' : i < len := hi
      simp only [dif_pos hi']
      exact (Classical.choose_spec (each i hi')).2
theorem kopen_tys {fuel : Nat} {v : Value} {x : DataW H × List MemPlace} (h : DataW.trod enc Try.prog W base (fun _ => true) true fuel 22 [v] = some x) : ∃ t : Ty, v = .slice t.ao t.len t.cap ∧ t.At W := by
  obtain ⟨r, rfl, hr⟩ := kopen Try.underlying22 Try.cellsTy (by decide) Ty.vs (fun w t => t.At w) .dm (fun _ => rfl) (fun fuel cs x h => open_ty fuel cs x h) h
  refine ⟨.mk 0 0 0 0 r.ao r.b r.o r.len r.cap r.x, rfl, ⟨hr.nil, hr.bound, fun i hi => ⟨?_, hr.each i hi⟩⟩⟩
  have g := hr.row i hi
  exact ⟨by have := g 0 _ rfl; simpa using this, g 1 _ rfl, g 2 _ rfl, g 3 _ rfl, g 4 _ rfl⟩
set_option maxRecDepth 100000 in
theorem kopen_in (fuel : Nat) (cs : List Value) (x : DataW H × List MemPlace) (h : DataW.trod enc Try.prog W base (fun _ => true) true fuel 44 cs = some x) : ∃ i : In, cs = i.vs ∧ i.At W := by
  obtain ⟨n, hl, hf⟩ := kfields Try.underlying44 h
  rw [Try.kIn] at hl
  match cs, hl with
  | [c0, c1, c2, c3, c4, c5, c6], _ =>
    obtain ⟨z0, g0⟩ := hf 0 _ rfl
    obtain ⟨z1, g1⟩ := hf 1 _ rfl
    obtain ⟨z2, g2⟩ := hf 2 _ rfl
    have f0 : DataW.trod enc Try.prog W base (fun _ => true) true n 3 [c0] = some z0 := by simpa [Try.cellsInt'] using g0
    have f1 : DataW.trod enc Try.prog W base (fun _ => true) true n 2 [c1] = some z1 := by simpa [Try.kI64] using g1
    have f2 : DataW.trod enc Try.prog W base (fun _ => true) true n 24 [c2, c3, c4, c5, c6] = some z2 := by simpa [Try.cellsTy] using g2
    obtain ⟨op, q0, _, w0⟩ := DataW.trod_int Try.underlying3 f0
    obtain ⟨a, q1, _, w1⟩ := DataW.trod_int Try.underlying2 f1
    obtain ⟨t, hp, hpA⟩ := open_ty _ _ _ f2
    simp only [List.cons.injEq, and_true] at q0 q1
    subst q0 q1
    simp only [Ty.cs, List.cons.injEq, and_true] at hp
    obtain ⟨rfl, rfl, rfl, rfl, rfl⟩ := hp
    exact ⟨⟨op, a, t⟩, rfl, ⟨i64_wf w0, i64_wf w1, hpA⟩⟩
set_option maxRecDepth 100000 in
theorem kopen_hn (fuel : Nat) (cs : List Value) (x : DataW H × List MemPlace) (h : DataW.trod enc Try.prog W base (fun _ => true) true fuel 55 cs = some x) : ∃ i : Hn, cs = i.vs ∧ i.At := by
  obtain ⟨n, hl, hf⟩ := kfields Try.underlying55 h
  rw [Try.kHn] at hl
  match cs, hl with
  | [c0, c1, c2], _ =>
    obtain ⟨z0, g0⟩ := hf 0 _ rfl
    obtain ⟨z1, g1⟩ := hf 1 _ rfl
    obtain ⟨z2, g2⟩ := hf 2 _ rfl
    have f0 : DataW.trod enc Try.prog W base (fun _ => true) true n 3 [c0] = some z0 := by simpa [Try.cellsInt'] using g0
    have f1 : DataW.trod enc Try.prog W base (fun _ => true) true n 3 [c1] = some z1 := by simpa [Try.cellsInt'] using g1
    have f2 : DataW.trod enc Try.prog W base (fun _ => true) true n 3 [c2] = some z2 := by simpa [Try.cellsInt'] using g2
    obtain ⟨a, q0, _, w0⟩ := DataW.trod_int Try.underlying3 f0
    obtain ⟨b, q1, _, w1⟩ := DataW.trod_int Try.underlying3 f1
    obtain ⟨c, q2, _, w2⟩ := DataW.trod_int Try.underlying3 f2
    simp only [List.cons.injEq, and_true] at q0 q1 q2
    subst q0 q1 q2
    exact ⟨⟨a, b, c⟩, rfl, ⟨i64_wf w0, i64_wf w1, i64_wf w2⟩⟩
set_option maxRecDepth 100000 in
theorem kopen_pt (fuel : Nat) (cs : List Value) (x : DataW H × List MemPlace) (h : DataW.trod enc Try.prog W base (fun _ => true) true fuel 106 cs = some x) : ∃ i : Pt, cs = i.vs ∧ i.At W := by
  obtain ⟨n, hl, hf⟩ := kfields Try.underlying106 h
  rw [Try.kPt] at hl
  match cs, hl with
  | [c0, c1, c2], _ =>
    obtain ⟨z0, g0⟩ := hf 0 _ rfl
    obtain ⟨z1, g1⟩ := hf 1 _ rfl
    obtain ⟨z2, g2⟩ := hf 2 _ rfl
    have f0 : DataW.trod enc Try.prog W base (fun _ => true) true n 22 [c0] = some z0 := by simpa [Try.cellsTys] using g0
    have f1 : DataW.trod enc Try.prog W base (fun _ => true) true n 22 [c1] = some z1 := by simpa [Try.cellsTys] using g1
    have f2 : DataW.trod enc Try.prog W base (fun _ => true) true n 3 [c2] = some z2 := by simpa [Try.cellsInt'] using g2
    obtain ⟨a, rfl, hA⟩ := kopen_tys f0
    obtain ⟨b, rfl, hB⟩ := kopen_tys f1
    obtain ⟨c, q2, _, w2⟩ := DataW.trod_int Try.underlying3 f2
    simp only [List.cons.injEq, and_true] at q2
    subst q2
    exact ⟨⟨a, b, c⟩, rfl, ⟨hA, hB, i64_wf w2⟩⟩
theorem kopen_num (fuel : Nat) (cs : List Value) (x : DataW H × List MemPlace) (h : DataW.trod enc Try.prog W base (fun _ => true) true fuel 3 cs = some x) : ∃ a : Int, cs = numV a ∧ I64 a := by
  obtain ⟨a, q0, _, w0⟩ := DataW.trod_int Try.underlying3 h
  exact ⟨a, q0, i64_wf w0⟩
set_option maxRecDepth 100000 in
theorem kopen_rn (fuel : Nat) (cs : List Value) (x : DataW H × List MemPlace) (h : DataW.trod enc Try.prog W base (fun _ => true) true fuel 108 cs = some x) : ∃ i : Rn, cs = i.vs ∧ i.At W := by
  obtain ⟨n, hl, hf⟩ := kfields Try.underlying108 h
  rw [Try.kRn] at hl
  match cs, hl with
  | [c0, c1, c2], _ =>
    obtain ⟨z0, g0⟩ := hf 0 _ rfl
    obtain ⟨z1, g1⟩ := hf 1 _ rfl
    obtain ⟨z2, g2⟩ := hf 2 _ rfl
    have f0 : DataW.trod enc Try.prog W base (fun _ => true) true n 3 [c0] = some z0 := by simpa [Try.cellsInt'] using g0
    have f1 : DataW.trod enc Try.prog W base (fun _ => true) true n 3 [c1] = some z1 := by simpa [Try.cellsInt'] using g1
    have f2 : DataW.trod enc Try.prog W base (fun _ => true) true n 32 [c2] = some z2 := by simpa [Try.kInts] using g2
    obtain ⟨a, q0, _, w0⟩ := DataW.trod_int Try.underlying3 f0
    obtain ⟨b, q1, _, w1⟩ := DataW.trod_int Try.underlying3 f1
    obtain ⟨r, rfl, hr⟩ := kopen Try.underlying32 Try.cellsInt' (by decide) numV (fun _ a => I64 a) 0 (fun _ => rfl) kopen_num f2
    simp only [List.cons.injEq, and_true] at q0 q1
    subst q0 q1
    exact ⟨⟨a, b, r⟩, rfl, ⟨i64_wf w0, i64_wf w1, hr⟩⟩
set_option maxRecDepth 100000 in
theorem kopen_cf (fuel : Nat) (cs : List Value) (x : DataW H × List MemPlace) (h : DataW.trod enc Try.prog W base (fun _ => true) true fuel 30 cs = some x) : ∃ f : Cf, cs = f.vs ∧ f.At W := by
  obtain ⟨n, hl, hf⟩ := kfields Try.underlying30 h
  rw [Try.kFn] at hl
  match cs, hl with
  | [c0, c1, c2, c3, c4, c5, c6, c7, c8, c9, c10, c11, c12, c13, c14, c15, c16, c17], _ =>
    obtain ⟨z0, g0⟩ := hf 0 _ rfl
    obtain ⟨z1, g1⟩ := hf 1 _ rfl
    obtain ⟨z2, g2⟩ := hf 2 _ rfl
    obtain ⟨z3, g3⟩ := hf 3 _ rfl
    obtain ⟨z4, g4⟩ := hf 4 _ rfl
    obtain ⟨z5, g5⟩ := hf 5 _ rfl
    obtain ⟨z6, g6⟩ := hf 6 _ rfl
    obtain ⟨z7, g7⟩ := hf 7 _ rfl
    obtain ⟨z8, g8⟩ := hf 8 _ rfl
    obtain ⟨z9, g9⟩ := hf 9 _ rfl
    have f0 : DataW.trod enc Try.prog W base (fun _ => true) true n 24 [c0, c1, c2, c3, c4] = some z0 := by simpa [Try.cellsTy] using g0
    have f1 : DataW.trod enc Try.prog W base (fun _ => true) true n 24 [c5, c6, c7, c8, c9] = some z1 := by simpa [Try.cellsTy] using g1
    have f2 : DataW.trod enc Try.prog W base (fun _ => true) true n 22 [c10] = some z2 := by simpa [Try.cellsTys] using g2
    have f3 : DataW.trod enc Try.prog W base (fun _ => true) true n 3 [c11] = some z3 := by simpa [Try.cellsInt'] using g3
    have f4 : DataW.trod enc Try.prog W base (fun _ => true) true n 3 [c12] = some z4 := by simpa [Try.cellsInt'] using g4
    have f5 : DataW.trod enc Try.prog W base (fun _ => true) true n 3 [c13] = some z5 := by simpa [Try.cellsInt'] using g5
    have f6 : DataW.trod enc Try.prog W base (fun _ => true) true n 25 [c14] = some z6 := by simpa [Try.kIns] using g6
    have f7 : DataW.trod enc Try.prog W base (fun _ => true) true n 26 [c15] = some z7 := by simpa [Try.kHan] using g7
    have f8 : DataW.trod enc Try.prog W base (fun _ => true) true n 27 [c16] = some z8 := by simpa [Try.kPts] using g8
    have f9 : DataW.trod enc Try.prog W base (fun _ => true) true n 28 [c17] = some z9 := by simpa [Try.kRgs] using g9
    obtain ⟨p, hp, hpA⟩ := open_ty _ _ _ f0
    obtain ⟨r, hr, hrA⟩ := open_ty _ _ _ f1
    obtain ⟨c, rfl, hcA⟩ := kopen_tys f2
    obtain ⟨hh, q3, _, w3⟩ := DataW.trod_int Try.underlying3 f3
    obtain ⟨ee, q4, _, w4⟩ := DataW.trod_int Try.underlying3 f4
    obtain ⟨sl, q5, _, w5⟩ := DataW.trod_int Try.underlying3 f5
    obtain ⟨s6, rfl, k6⟩ := kopen Try.underlying25 Try.kIn (by decide) In.vs In.At ⟨0, 0, .dm⟩ (fun _ => rfl) kopen_in f6
    obtain ⟨s7, rfl, k7⟩ := kopen Try.underlying26 Try.kHn (by decide) Hn.vs (fun _ h => h.At) ⟨0, 0, 0⟩ (fun _ => rfl) kopen_hn f7
    obtain ⟨s8, rfl, k8⟩ := kopen Try.underlying27 Try.kPt (by decide) Pt.vs Pt.At ⟨.dm, .dm, 0⟩ (fun _ => rfl) kopen_pt f8
    obtain ⟨s9, rfl, k9⟩ := kopen Try.underlying28 Try.kRn (by decide) Rn.vs Rn.At ⟨0, 0, ⟨none, 0, 0, 0, 0, fun _ => 0⟩⟩ (fun _ => rfl) kopen_rn f9
    simp only [List.cons.injEq, and_true] at q3 q4 q5
    subst q3 q4 q5
    simp only [Ty.cs, List.cons.injEq, and_true] at hp hr
    obtain ⟨rfl, rfl, rfl, rfl, rfl⟩ := hp
    obtain ⟨rfl, rfl, rfl, rfl, rfl⟩ := hr
    exact ⟨⟨p, r, c, hh, ee, sl, s6, s7, s8, s9⟩, rfl, ⟨hpA, hrA, hcA, i64_wf w3, i64_wf w4, i64_wf w5, k6, k7, k8, k9⟩⟩
def noCf : Cf := ⟨.dm, .dm, .dm, 0, 0, 0, ⟨none, 0, 0, 0, 0, fun _ => ⟨0, 0, .dm⟩⟩, ⟨none, 0, 0, 0, 0, fun _ => ⟨0, 0, 0⟩⟩, ⟨none, 0, 0, 0, 0, fun _ => ⟨.dm, .dm, 0⟩⟩, ⟨none, 0, 0, 0, 0, fun _ => ⟨0, 0, ⟨none, 0, 0, 0, 0, fun _ => 0⟩⟩⟩⟩
set_option maxRecDepth 100000 in
theorem open_func {v : Value} {d : DataW H} {p : List MemPlace} {b0 : Nat} (hv : Value.okWide Try.prog W .any b0 30 v) (h : DataW.Trod enc Try.prog W base (fun _ => true) true 30 v d p) :
    ∃ f : Cf, v = .agg f.vs.toArray ∧ f.At W := by
  obtain ⟨cs, rfl, _⟩ := okWide_struct Try.underlying30 hv
  obtain ⟨fuel, hf⟩ := h
  obtain ⟨c, hc, hA⟩ := kopen_cf fuel _ _ hf
  refine ⟨c, ?_, hA⟩
  have : cs.toList = c.vs := by simpa [Value.cells] using hc
  obtain ⟨l⟩ := cs
  have e : l = c.vs := this
  rw [e]
set_option maxRecDepth 100000 in
theorem open_region {v : Value} {d : DataW H} {p : List MemPlace} {b0 : Nat} (hv : Value.okWide Try.prog W .any b0 108 v) (h : DataW.Trod enc Try.prog W base (fun _ => true) true 108 v d p) :
    ∃ r : Rn, v = .agg r.vs.toArray ∧ r.At W := by
  obtain ⟨cs, rfl, _⟩ := okWide_struct Try.underlying108 hv
  obtain ⟨fuel, hf⟩ := h
  obtain ⟨c, hc, hA⟩ := kopen_rn fuel _ _ hf
  refine ⟨c, ?_, hA⟩
  have : cs.toList = c.vs := by simpa [Value.cells] using hc
  obtain ⟨l⟩ := cs
  have e : l = c.vs := this
  rw [e]
end
end Go.Proofs.Ytmajlfocfjcgmaa

/- Layer 14: the form of code, as data. -/
namespace Go.Proofs.Ytmajlfocfjcgmaa
open Go Go.RowKit

def btw (a lo hi : Int) : Bool := decide (lo ≤ a) && decide (a < hi)
/-- Rule 1. -/
def Cf.cntB (f : Cf) : Bool := (decide (0 < f.cd.len) && decide (f.pt.len = f.cd.len)) && decide ((f.c.len : Int) < f.sl)
/-- Of the instruction number i of n. -/
def In.nhB (nf nl : Nat) (sl : Int) (n i : Nat) (x : In) : Bool := if x.op = 3 ∨ x.op = 4 then btw x.a 0 sl else if x.op = 17 then btw x.a 0 nf else if x.op = 23 then btw x.a 0 nl else if x.op = 24 ∨ x.op = 25 then btw x.a ((i : Int) + 1) n else true
def lastB (op : Int) : Bool := decide (op = 27) || decide (op = 26)
/-- Rule 2. -/
def Cf.codA (nf nl : Nat) (f : Cf) : Bool := decide (∀ i, i < f.cd.len → (f.cd.x i).nhB nf nl f.sl f.cd.len i = true)
def Cf.codB (nf nl : Nat) (f : Cf) : Bool := f.codA nf nl && lastB (f.cd.x (f.cd.len - 1)).op
def Hn.hold (n : Nat) (h : Hn) : Bool := (decide (h.fr < h.to) && decide (h.to ≤ h.at_)) && decide (h.at_ < n)
/-- Rule 3. -/
def Cf.hanB (f : Cf) : Bool := decide (∀ i, i < f.hd.len → (f.hd.x i).hold f.cd.len = true)
def Rn.joinB (n : Nat) (r : Rn) : Bool := decide (r.join = -1) || (decide (r.at_ < r.join) && decide (r.join < n))
def Rn.ah (r : Rn) : Nat → Int
  | 0 => r.at_
  | i + 1 => r.ps.x i
def Rn.plcB (n : Nat) (r : Rn) : Bool := decide (∀ i, i < r.ps.len → (r.ah i < r.ps.x i ∧ r.ps.x i < n) ∧ r.ps.x i ≠ r.join)
def Cf.ah (f : Cf) : Nat → Int
  | 0 => -1
  | i + 1 => (f.rg.x i).at_
/-- Rule 4. -/
def Cf.regB (f : Cf) : Bool := decide (∀ i, i < f.rg.len → ((f.ah i < (f.rg.x i).at_ ∧ (f.rg.x i).at_ < f.cd.len) ∧ (f.rg.x i).joinB f.cd.len = true) ∧ (f.rg.x i).plcB f.cd.len = true)
/-- The first rule that is broken. -/
def Cf.brk (nf nl : Nat) (f : Cf) : Nat := if f.cntB = false then 1 else if f.codB nf nl = false then 2 else if f.hanB = false then 3 else if f.regB = false then 4 else 0
def Kl.brk (c : Kl) (k : Nat) : Nat := (c.fs.x k).brk c.fs.len c.n.len
/-- What Check answers. -/
structure ChR (c : Kl) (k r e : Int) : Prop where
  form : c.fm = false → (k = -1 ∧ r = 0) ∧ e = 9
  bad : c.fm = true → ∀ j, j < c.fs.len → c.brk j ≠ 0 → (∀ i, i < j → c.brk i = 0) → (k = j ∧ r = c.brk j) ∧ e = 11
  ok : c.fm = true → (∀ i, i < c.fs.len → c.brk i = 0) → (k = 0 ∧ r = 0) ∧ e = 0
theorem first_bad (p : Nat → Nat) (n : Nat) : (∀ i, i < n → p i = 0) ∨ ∃ j, j < n ∧ p j ≠ 0 ∧ ∀ i, i < j → p i = 0 := by
  induction n with
  | zero => exact Or.inl fun _ h => absurd h (Nat.not_lt_zero _)
  | succ n ih =>
    rcases ih with h | ⟨j, h1, h2, h3⟩
    · by_cases e : p n = 0
      · exact Or.inl fun i hi => by
          by_cases e2 : i = n
          · rw [e2]; exact e
          · exact h i (by omega)
      · exact Or.inr ⟨n, by omega, e, h⟩
    · exact Or.inr ⟨j, by omega, h2, h3⟩
theorem ChR.one {c : Kl} {k r e k' r' e' : Int} (h : ChR c k r e) (h' : ChR c k' r' e') : k = k' ∧ r = r' ∧ e = e' := by
  cases hf : c.fm
  · obtain ⟨⟨a, b⟩, d⟩ := h.form hf
    obtain ⟨⟨a', b'⟩, d'⟩ := h'.form hf
    exact ⟨a.trans a'.symm, b.trans b'.symm, d.trans d'.symm⟩
  · rcases first_bad c.brk c.fs.len with g | ⟨j, g1, g2, g3⟩
    · obtain ⟨⟨a, b⟩, d⟩ := h.ok hf g
      obtain ⟨⟨a', b'⟩, d'⟩ := h'.ok hf g
      exact ⟨a.trans a'.symm, b.trans b'.symm, d.trans d'.symm⟩
    · obtain ⟨⟨a, b⟩, d⟩ := h.bad hf j g1 g2 g3
      obtain ⟨⟨a', b'⟩, d'⟩ := h'.bad hf j g1 g2 g3
      exact ⟨a.trans a'.symm, b.trans b'.symm, d.trans d'.symm⟩
/-- What OK says. -/
theorem ChR.yes {c : Kl} {k r e : Int} (h : ChR c k r e) (he : e = 0) : c.fm = true ∧ ∀ i, i < c.fs.len → c.brk i = 0 := by
  cases hf : c.fm
  · have := (h.form hf).2; omega
  · rcases first_bad c.brk c.fs.len with g | ⟨j, g1, g2, g3⟩
    · exact ⟨rfl, g⟩
    · have := (h.bad hf j g1 g2 g3).2; omega
theorem Cf.brk_zero {nf nl : Nat} {f : Cf} (h : f.brk nf nl = 0) : ((f.cntB = true ∧ f.codB nf nl = true) ∧ f.hanB = true) ∧ f.regB = true := by
  unfold Cf.brk at h
  cases h1 : f.cntB <;> cases h2 : f.codB nf nl <;> cases h3 : f.hanB <;> cases h4 : f.regB <;> simp [h1, h2, h3, h4] at h ⊢
theorem Cf.brk_of {nf nl : Nat} {f : Cf} (h1 : f.cntB = true) (h2 : f.codB nf nl = true) (h3 : f.hanB = true) (h4 : f.regB = true) : f.brk nf nl = 0 := by
  unfold Cf.brk
  simp [h1, h2, h3, h4]
end Go.Proofs.Ytmajlfocfjcgmaa

/- A region that draws its order: 'x := f(..)', reads ahead of a call, and a new variable that the call's answer goes into, the variable being made at any time. -/
namespace Go.Proofs.Ytmajlfocfjcgmaa
open Go Go.RowKit

section
variable {P : Program} {ops : Array Oper} {Q : Exit → Act → World → Prop}

theorem if_wanted {o : Oper} {a : Act} (hg : o.guard = none) : Region.wanted o (yielded ops a.tmps) = true := by simp [Region.wanted, hg]

/-- What is known of the three last operations. -/
structure Three (P : Program) (ops : Array Oper) (m : Nat) (listed : Array Bool) (oc oa oz : Oper) (ty : TypeId) (zs : List Value) (c d : Nat) : Prop where
  hoc : ops[m]? = some oc
  hoa : ops[m + 1]? = some oa
  hoz : ops[m + 2]? = some oz
  gc : oc.guard = none
  ga : oa.guard = none
  gz : oz.guard = none
  dc : oc.dst = some c
  da : oa.dst = some d
  dz : oz.dst = none
  opa : oa.op = .alloc ty
  opz : oz.op = .store ty (.tmp d) (.tmp c)
  r0 : Region.ready .any ops listed = [m, m + 1]
  r1 : Region.ready .any ops (listed.setIfInBounds m true) = [m + 1]
  r2 : Region.ready .any ops (listed.setIfInBounds (m + 1) true) = [m]
  r3 : Region.ready .any ops ((listed.setIfInBounds m true).setIfInBounds (m + 1) true) = [m + 2]
  r4 : Region.ready .any ops (((listed.setIfInBounds m true).setIfInBounds (m + 1) true).setIfInBounds (m + 2) true) = []
  hi : (P.info? ty).map (·.size) = some zs.length
  hal : ∀ u : World, (Instr.alloc ty true (.tuple #[])).run P u = .ok (.pointer (some ⟨u.heap.size, 0, none⟩)) (u.alloc (.cells zs.toArray ty))

theorem there_of {u : World} {B : Nat} {zs : List Value} {ty : TypeId} (h : u.heap[B]? = some (.cells zs.toArray ty (0, 0))) : u.there B 0 zs.length := fun j hj => by
  refine ⟨?_, ?_⟩
  · simp [World.cell?, h, hj]
  · simp [World.frozen?, h]
theorem below_setCells {B b : Nat} {a : World} (hb : B ≤ b) : ∀ (vs : List Value) (o : Nat) (w : World), Below B a w → Below B a (w.setCells b o vs)
  | [], _, _, h => h
  | v :: vs, o, _, h => below_setCells hb vs (o + 1) _ (h.setCell hb v)

theorem wpAnyH_three {m : Nat} {listed : Array Bool} {oc oa oz : Oper} {ty : TypeId} {zs : List Value} {c d : Nat} (T : Three P ops m listed oc oa oz ty zs c d) (w0 : World) (a : Act) (f : FuncId) (args : Array Value) (G : Array Value → Prop) (Pn : List PanicEntry → Prop)
    (hc : ∀ u, Below w0.heap.size w0 u → (execOp a.eval oc).run P u = .ok (.enter f args) u)
    (hc2 : ∀ u v, Below w0.heap.size w0 u → (execOp (a.put (some d) v).eval oc).run P u = .ok (.enter f args) u)
    (hcall : ∀ u, Below w0.heap.size w0 u → Calls P f args u fun e u' => Below u.heap.size u u' ∧ ((∃ vals : Array Value, e = .returned (.agg vals) ∧ G vals) ∨ ∃ ch, e = .panicked ch ∧ Pn ch))
    (hG : ∀ vals, G vals → vals.size = zs.length ∧ vals.all (·.oneCell') = true)
    (hcomm : ∀ v v', (a.put (some d) v).put (some c) v' = (a.put (some c) v').put (some d) v)
    (hev : ∀ v v', ((a.put (some c) v').put (some d) v).eval (.tmp d) = v ∧ ((a.put (some c) v').put (some d) v).eval (.tmp c) = v')
    (hpan : ∀ ch (a1 : Act) u, Pn ch → Below w0.heap.size w0 u → a1.defers = a.defers → Q (.panic ch) a1 u)
    (hQ : ∀ vals B u, G vals → Below w0.heap.size w0 u → w0.heap.size ≤ B → u.rangeAt B 0 vals.toList → Q .normal ((a.put (some c) (.agg vals)).put (some d) (.pointer (some ⟨B, 0, none⟩))) u)
    (w : World) (hw : Below w0.heap.size w0 w) : wpAnyH P .any ops Q (fun u => Below w0.heap.size w0 u) 3 listed a w := by
  -- the store, wherever the block lies
  have hstore : ∀ vals B u, G vals → Below w0.heap.size w0 u → w0.heap.size ≤ B → u.heap[B]? = some (.cells zs.toArray ty (0, 0)) →
      wpAnyH P .any ops Q (fun u => Below w0.heap.size w0 u) 1 ((listed.setIfInBounds m true).setIfInBounds (m + 1) true) ((a.put (some c) (.agg vals)).put (some d) (.pointer (some ⟨B, 0, none⟩))) u := by
    intro vals B u hg hu hB hz
    obtain ⟨h1, h2⟩ := hG vals hg
    refine wpAnyH_ready T.r3 (by simp) ?_
    refine AllReadyH.cons T.hoz (fun K hK => ?_) AllReadyH.nil
    rw [if_pos (if_wanted T.gz)]
    have ht : u.there B 0 vals.size := by rw [h1]; exact there_of hz
    refine wp_store_mid ty (.tmp d) (.tmp c) T.opz B 0 vals (hev _ _).1 (hev _ _).2 ht (by rw [T.hi, h1]) h2 ?_
    have hB2 : Below w0.heap.size w0 (u.setCells B 0 vals.toList) := below_setCells hB _ _ _ hu
    refine hK.out _ _ hB2 fun _ => ?_
    rw [T.dz]
    refine wpAnyH_done T.r4 ?_ _
    exact hQ vals B _ hg hB2 hB (World.rangeAt_setCells_same _ _ _ _ (by simpa using ht))
  refine wpAnyH_ready T.r0 (by simp) ?_
  refine AllReadyH.cons T.hoc (fun K hK => ?_) (AllReadyH.cons T.hoa (fun K hK => ?_) AllReadyH.nil)
  · -- the call first
    rw [if_pos (if_wanted T.gc)]
    unfold Oper.wp
    rw [hc w hw, Oper.upon_enter]
    refine (hcall w hw).mono ?_
    rintro e u ⟨hb, ⟨vals, rfl, hg⟩ | ⟨ch, rfl, hp⟩⟩
    · have hu := Below.next hw hb
      refine hK.out _ _ hu fun _ => ?_
      refine wpAnyH_ready T.r1 (by simp) ?_
      refine AllReadyH.cons T.hoa (fun K2 hK2 => ?_) AllReadyH.nil
      rw [if_pos (if_wanted T.ga)]
      unfold Oper.wp execOp
      simp only [T.opa, Sem.run_bind, T.hal, Result.andThen_ok, Sem.run_pure]
      have hu2 : Below w0.heap.size w0 (u.alloc (.cells zs.toArray ty)) := hu.alloc hu.size _
      refine hK2.out _ _ hu2 fun _ => ?_
      rw [T.dc, T.da]
      exact hstore vals u.heap.size _ hg hu2 hu.size (heap_alloc_new _ _)
    · exact hpan ch _ _ hp (Below.next hw hb) rfl
  · -- the variable first
    rw [if_pos (if_wanted T.ga)]
    unfold Oper.wp execOp
    simp only [T.opa, Sem.run_bind, T.hal, Result.andThen_ok, Sem.run_pure]
    have hu2 : Below w0.heap.size w0 (w.alloc (.cells zs.toArray ty)) := hw.alloc hw.size _
    refine hK.out _ _ hu2 fun _ => ?_
    rw [T.da]
    refine wpAnyH_ready T.r2 (by simp) ?_
    refine AllReadyH.cons T.hoc (fun K2 hK2 => ?_) AllReadyH.nil
    rw [if_pos (if_wanted T.gc)]
    unfold Oper.wp
    rw [hc2 _ _ hu2, Oper.upon_enter]
    refine (hcall _ hu2).mono ?_
    rintro e u ⟨hb, ⟨vals, rfl, hg⟩ | ⟨ch, rfl, hp⟩⟩
    · have hu := Below.next hu2 hb
      refine hK2.out _ _ hu fun _ => ?_
      rw [T.dc, hcomm, Array.setIfInBounds_comm _ _ (by omega)]
      refine hstore vals w.heap.size u hg hu hw.size ?_
      rw [hb.block _ (by simp), heap_alloc_new]
    · exact hpan ch _ _ hp (Below.next hu2 hb) rfl

/-- It yields a value, if anything. -/
def isRead (o : Oper) : Bool := match o.op with
  | .load .. | .fieldAddr .. | .indexAddr .. | .extract .. => true
  | _ => false
theorem run_val {s : Sem Value} {w w' : World} {n : Next} (hr : (do pure (Next.value (← s)) : Sem Next).run P w = .ok n w') : ∃ u, n = .value u := by
  simp only [Sem.run_bind] at hr
  cases hq : s.run P w with
  | ok v w2 => rw [hq] at hr; simp only [Result.andThen_ok, Sem.run_pure] at hr; exact ⟨v, (Result.ok.inj hr).1.symm⟩
  | halt x w2 => rw [hq] at hr; simp [Result.andThen] at hr
theorem read_value {o : Oper} (h : isRead o = true) (ρ : Operand → Value) (w w' : World) (n : Next) (hr : (execOp ρ o).run P w = .ok n w') : ∃ u, n = .value u := by
  cases ho : o.op
  case load => unfold execOp at hr; rw [ho] at hr; exact run_val hr
  case fieldAddr => unfold execOp at hr; rw [ho] at hr; exact run_val hr
  case indexAddr => unfold execOp at hr; rw [ho] at hr; exact run_val hr
  case extract => unfold execOp at hr; rw [ho] at hr; exact run_val hr
  all_goals (unfold isRead at h; rw [ho] at h; cases h)
theorem yieldsIf_of_quiet {S : World → Prop} {o : Oper} {a : Act} {K : Act → Prop} (hr : isRead o = true) (h : if Region.wanted o (yielded ops a.tmps) then o.quiet P a S K else K (a.put o.dst undef)) : ∃ v, YieldsIf P ops S o v a ∧ K (a.put o.dst v) := by
  by_cases hw : Region.wanted o (yielded ops a.tmps) = true
  · rw [if_pos hw] at h
    obtain ⟨v, h1, h2⟩ := h
    refine ⟨v, Or.inl ⟨hw, fun w hS => ?_⟩, h2⟩
    have h3 := h1 w hS
    unfold Oper.quietAt at h3
    cases hq : (execOp a.eval o).run P w with
    | ok n w' =>
      obtain ⟨u, rfl⟩ := read_value hr _ _ _ _ hq
      rw [hq] at h3
      simp only [Oper.quietUpon] at h3
      rw [h3.1, h3.2]
    | halt x w' => rw [hq] at h3; simp only [Oper.quietUpon] at h3
  · rw [if_neg hw] at h
    exact ⟨undef, Or.inr ⟨by simpa using hw, rfl⟩, h⟩
def lexR (ops : Array Oper) : List Oper → Nat → Array Bool → Bool
  | [], _, _ => true
  | o :: l, k, listed => isRead o && (Region.ready .any ops listed).contains k && Region.free .any ops listed k && lexR ops l (k + 1) (listed.setIfInBounds k true)
theorem wpAnyH_reads {S : World → Prop} {K : Act → Prop} {rest : Nat} {w : World} (hs : Region.noSelect ops = true) (hQ : ∀ c a d v w, Q (.panic c) (Act.put a d v) w → Q (.panic c) a w) (hS : S w) : ∀ (l : List Oper) (k : Nat) (listed : Array Bool) (a : Act), (∀ j, j < l.length → l[j]? = ops[k + j]?) →
    lexR ops l k listed = true → wpQuiet P ops S K l a → (∀ a', K a' → wpAnyH P .any ops Q S rest (listedTo l.length k listed) a' w) → wpAnyH P .any ops Q S (l.length + rest) listed a w
  | [], _, _, _, _, _, h, hK => by simpa [listedTo] using hK _ h
  | o :: l, k, listed, a, hl, hB, h, hK => by
    have h0 : ops[k]? = some o := by simpa using (hl 0 (by simp)).symm
    simp only [lexR, Bool.and_eq_true] at hB
    obtain ⟨⟨⟨hr, hc⟩, hf⟩, hB'⟩ := hB
    have h' : if Region.wanted o (yielded ops a.tmps) then o.quiet P a S (wpQuiet P ops S K l) else wpQuiet P ops S K l (a.put o.dst undef) := h
    obtain ⟨v, hy, hk⟩ := yieldsIf_of_quiet (ops := ops) hr h'
    rw [show (o :: l).length + rest = (l.length + rest) + 1 by simp; omega]
    exact wpAnyH_take h0 hs hf hc (fun c a w => hQ c a _ _ w) hy hS (wpAnyH_reads hs hQ hS l (k + 1) _ _ (fun j hj => by have := hl (j + 1) (by simp; omega); simpa [Nat.add_assoc, Nat.add_comm 1 j] using this) hB' hk hK)
/-- Those of these places listed. -/
def listedI : List Nat → Array Bool → Array Bool
  | [], l => l
  | i :: js, l => listedI js (l.setIfInBounds i true)
def lexI (ops : Array Oper) : List Nat → List Oper → Array Bool → Bool
  | [], [], _ => true
  | i :: js, o :: l, listed => isRead o && (Region.ready .any ops listed).contains i && Region.free .any ops listed i && lexI ops js l (listed.setIfInBounds i true)
  | _, _, _ => false
theorem wpAnyH_readsI {S : World → Prop} {K : Act → Prop} {rest : Nat} {w : World} (hs : Region.noSelect ops = true) (hQ : ∀ c a d v w, Q (.panic c) (Act.put a d v) w → Q (.panic c) a w) (hS : S w) : ∀ (js : List Nat) (l : List Oper) (listed : Array Bool) (a : Act), (∀ j, j < l.length → ∃ i, js[j]? = some i ∧ ops[i]? = l[j]?) →
    lexI ops js l listed = true → wpQuiet P ops S K l a → (∀ a', K a' → wpAnyH P .any ops Q S rest (listedI js listed) a' w) → wpAnyH P .any ops Q S (js.length + rest) listed a w
  | [], [], _, _, _, _, h, hK => by simpa [listedI] using hK _ h
  | [], _ :: _, _, _, _, hB, _, _ => by simp [lexI] at hB
  | _ :: _, [], _, _, _, hB, _, _ => by simp [lexI] at hB
  | i :: js, o :: l, listed, a, hl, hB, h, hK => by
    have h0 : ops[i]? = some o := by
      obtain ⟨i', h1, h2⟩ := hl 0 (by simp)
      have : i = i' := by simpa using h1
      subst this
      simpa using h2
    simp only [lexI, Bool.and_eq_true] at hB
    obtain ⟨⟨⟨hr, hc⟩, hf⟩, hB'⟩ := hB
    have h' : if Region.wanted o (yielded ops a.tmps) then o.quiet P a S (wpQuiet P ops S K l) else wpQuiet P ops S K l (a.put o.dst undef) := h
    obtain ⟨v, hy, hk⟩ := yieldsIf_of_quiet (ops := ops) hr h'
    rw [show (i :: js).length + rest = (js.length + rest) + 1 by simp; omega]
    exact wpAnyH_take h0 hs hf hc (fun c a w => hQ c a _ _ w) hy hS (wpAnyH_readsI hs hQ hS js l _ _ (fun j hj => by
      obtain ⟨i', h1, h2⟩ := hl (j + 1) (by simp; omega)
      exact ⟨i', by simpa using h1, by simpa using h2⟩) hB' hk hK)
/-- The worlds that meet S. -/
def Wd (S : World → Prop) : Type := { u : World // S u }
def Wd.w {S : World → Prop} (x : Wd S) : World := x.1
/-- A region that draws: first all that only reads. -/
theorem wp_region_reads {id : Nat} {a : Act} {w : World} {l : List Oper} (S : World → Prop) (js : List Nat) (rest : Nat) (hm : P.follows .mixedOrders = true) (hlen : l.length = js.length + rest) (hB : (Region.noSelect l.toArray && lexI l.toArray js (js.filterMap (l[·]?)) (Array.replicate l.length false)) = true) (hj : ∀ j, j < (js.filterMap (l[·]?)).length → ∃ i, js[j]? = some i ∧ l.toArray[i]? = (js.filterMap (l[·]?))[j]?)
    (hQ : ∀ c a d v w, Q (.panic c) (Act.put a d v) w → Q (.panic c) a w) (hS : S w.drew)
    (h : wpQuiet P l.toArray (fun u => ∃ x : Wd S, u = x.w) (fun a' => wpAnyH P .any l.toArray Q S rest (listedI js (Array.replicate l.length false)) a' w.drew) (js.filterMap (l[·]?)) a) : (Code.region id l.toArray true).wp P Q a w := by
  simp only [Bool.and_eq_true] at hB
  refine wp_region_held_drew (S := S) hm hS fun hS => ?_
  have e3 : Array.replicate l.toArray.size false = Array.replicate l.length false := by simp
  have e2 : l.toArray.size = js.length + rest := by simpa using hlen
  have eS : (fun u : World => ∃ x : Wd S, u = x.w) = S := by
    funext u; apply propext
    exact ⟨fun ⟨x, hx⟩ => hx ▸ x.2, fun h => ⟨⟨u, h⟩, rfl⟩⟩
  rw [eS] at h
  rw [e3, e2]
  exact wpAnyH_readsI hB.1 hQ hS js _ _ a hj hB.2 h (fun a' h => h)
theorem wp_store_blk {o : Oper} {a : Act} {w : World} {K : Act → World → Prop} (t : TypeId) (p x : Operand) (ho : o.op = .store t p x) (hdst : o.dst = none) (B : Nat) (vs c : List Value) (hp : a.eval p = .pointer (some ⟨B, 0, none⟩)) (hx : a.eval x = .agg vs.toArray) (h1 : vs.all (·.oneCell') = true)
    (hb : w.heap[B]? = some (.cells c.toArray t (0, 0))) (hl : c.length = vs.length) (hi : (P.info? t).map (·.size) = some vs.toArray.size) (h : K a (w.setCells B 0 vs)) : o.wp P a w K Q := by
  refine wp_store_mid t p x ho B 0 vs.toArray hp hx ?_ hi (by simpa using h1) ?_
  · have := there_of hb; rw [hl] at this; simpa using this
  · rw [hdst]; exact h
/-- The whole region. -/
theorem wp_region_new {id : Nat} {a : Act} {w : World} {l : List Oper} (m : Nat) {oc oa oz : Oper} {ty : TypeId} {zs : List Value} {c d : Nat} (hm : P.follows .mixedOrders = true) (hlen : l.length = m + 3) (hB : (Region.noSelect l.toArray && lexR l.toArray (l.take m) 0 (Array.replicate l.length false)) = true)
    (T : Three P l.toArray m (listedTo m 0 (Array.replicate l.length false)) oc oa oz ty zs c d) (G : Array Value → Prop) (Pn : List PanicEntry → Prop)
    (hQ : ∀ c a d v w, Q (.panic c) (Act.put a d v) w → Q (.panic c) a w) (hG : ∀ vals, G vals → vals.size = zs.length ∧ vals.all (·.oneCell') = true)
    (h : wpQuiet P l.toArray (fun u => ∃ x : Gr w, u = x.w) (fun a' => ∃ f args,
      (∀ u, Below w.heap.size w u → (execOp a'.eval oc).run P u = .ok (.enter f args) u) ∧ (∀ u v, Below w.heap.size w u → (execOp (a'.put (some d) v).eval oc).run P u = .ok (.enter f args) u) ∧
      (∀ v v', (a'.put (some d) v).put (some c) v' = (a'.put (some c) v').put (some d) v) ∧ (∀ v v', ((a'.put (some c) v').put (some d) v).eval (.tmp d) = v ∧ ((a'.put (some c) v').put (some d) v).eval (.tmp c) = v') ∧
      (∀ u, Below w.heap.size w u → Calls P f args u fun e u' => Below u.heap.size u u' ∧ ((∃ vals : Array Value, e = .returned (.agg vals) ∧ G vals) ∨ ∃ ch, e = .panicked ch ∧ Pn ch)) ∧
      (∀ ch (a1 : Act) u, Pn ch → Below w.heap.size w u → a1.defers = a'.defers → Q (.panic ch) a1 u) ∧
      (∀ vals B u, G vals → Below w.heap.size w u → w.heap.size ≤ B → u.rangeAt B 0 vals.toList → Q .normal ((a'.put (some c) (.agg vals)).put (some d) (.pointer (some ⟨B, 0, none⟩))) u)) (l.take m) a) : (Code.region id l.toArray true).wp P Q a w := by
  simp only [Bool.and_eq_true] at hB
  have e1 : (l.take m).length = m := by simp; omega
  refine wp_region_held_drew (S := fun u => ∃ x : Gr w, u = x.w) hm ⟨⟨_, (Below.refl _ _).drew⟩, rfl⟩ fun hS => ?_
  have e2 : l.toArray.size = (l.take m).length + 3 := by rw [e1]; simpa using hlen
  have e3 : Array.replicate l.toArray.size false = Array.replicate l.length false := by simp
  rw [e3, e2]
  refine wpAnyH_reads hB.1 hQ hS (l.take m) 0 _ a (fun j hj => by rw [e1] at hj; simp [hj]) hB.2 h ?_
  rintro a' ⟨f, args, h1, h2, h3, h4, h5, h6, h7⟩
  rw [e1]
  have hw : Below w.heap.size w w.drew := (Below.refl _ _).drew
  have key := wpAnyH_three T w a' f args G Pn h1 h2 h5 hG h3 h4 h6 h7 w.drew hw
  have eS : (fun u : World => ∃ x : Gr w, u = x.w) = (fun u => Below w.heap.size w u) := by
    funext u; apply propext
    exact ⟨fun ⟨x, hx⟩ => hx ▸ x.bl, fun h => ⟨⟨u, h⟩, rfl⟩⟩
  rw [eS]
  exact key
end
end Go.Proofs.Ytmajlfocfjcgmaa
