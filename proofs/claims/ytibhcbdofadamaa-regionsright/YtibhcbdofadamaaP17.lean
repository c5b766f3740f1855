/- A class that comes in, opened; a function, a region. -/
import Derived.Test.YtibhcbdofadamaaP16
import Derived.Test.YtibhcbdofadamaaP6
import Derived.Test.YtibhcbdofadamaaP8
import Derived.Laws.OwnMore
import Derived.Test.YtibhcbdofadamaaP15
import Derived.Test.YtibhcbdofadamaaP12
import Derived.Test.YtibhcbdofadamaaP11
namespace Go.Proofs.Ytibhcbdofadamaa
open Go.ChangeShapes Go.WideShapes Go.ChangeAt Go.RowKit Go.Deep Go.Joins

theorem Try.kFn : Try.prog.cellsOf 30 = 18 := by kernel_rfl
theorem Try.kIn : Try.prog.cellsOf 50 = 7 := by kernel_rfl
theorem Try.kHn : Try.prog.cellsOf 52 = 3 := by kernel_rfl
theorem Try.kPt : Try.prog.cellsOf 119 = 3 := by kernel_rfl
theorem Try.kRn : Try.prog.cellsOf 38 = 3 := by kernel_rfl
theorem Try.kIns : Try.prog.cellsOf 25 = 1 := by kernel_rfl
theorem Try.kHan : Try.prog.cellsOf 26 = 1 := by kernel_rfl
theorem Try.kPts : Try.prog.cellsOf 27 = 1 := by kernel_rfl
theorem Try.kRgs : Try.prog.cellsOf 28 = 1 := by kernel_rfl
theorem Try.kInts : Try.prog.cellsOf 36 = 1 := by kernel_rfl
theorem Try.kI64 : Try.prog.cellsOf 2 = 1 := by kernel_rfl
theorem i64_wf {n : Int} (h : (Lit.int .i64 n).wf = true) : I64 n := by
  have h' : IntKind.i64.min ≤ n ∧ n ≤ IntKind.i64.max := by simpa [Lit.wf] using h
  have e1 : IntKind.i64.min = -9223372036854775808 := by decide
  have e2 : IntKind.i64.max = 9223372036854775807 := by decide
  rw [e1, e2] at h'
  exact h'

section
variable {H : Type} {enc : TypeId × Value → H} {W : World} {base : Nat}

set_option maxRecDepth 100000 in
theorem kfields {t : TypeId} {fuel : Nat} {cs : List Value} {x : DataW H × List MemPlace} {fs : Array Field} (ht : Try.prog.underlying t = some (.struct fs)) (h : DataW.trod enc Try.prog W base (fun _ => true) true fuel t cs = some x) :
    ∃ n, cs.length = Try.prog.cellsOf t ∧ ∀ (i : Nat) (f : Field), fs[i]? = some f → ∃ y, DataW.trod enc Try.prog W base (fun _ => true) true n f.type ((cs.drop f.offset).take (Try.prog.cellsOf f.type)) = some y := by
  obtain ⟨xs, n, _, _, hl, hlen, hf⟩ := DataW.trod_struct ht h
  refine ⟨n, hl, fun i f hi => ?_⟩
  have hlt : i < xs.length := by rw [hlen]; exact (Array.getElem?_eq_some_iff.1 hi).1
  exact ⟨xs[i], by rw [hf i f hi, List.getElem?_eq_getElem hlt]⟩
set_option maxRecDepth 100000 in
theorem kslice {S E : TypeId} {c : Nat} (hu : Try.prog.underlying S = some (.slice E)) (hc : Try.prog.cellsOf E = c) {fuel : Nat} {v : Value} {x : DataW H × List MemPlace} (h : DataW.trod enc Try.prog W base (fun _ => true) true fuel S [v] = some x) :
    v = .slice none 0 0 ∨ ∃ (a : Addr) (len cap : Nat), v = .slice (some a) len cap ∧ len ≤ 9223372036854775807 ∧ ∀ i, i < len → ∃ m cs y, DataW.trod enc Try.prog W base (fun _ => true) true m E cs = some y ∧ ∀ j, j < c → W.cell? (a.add (i * c + j)) = cs[j]? := by
  rcases DataW.trod_slice hu h with ⟨hcs, _⟩ | ⟨a, len, cap, elems, rest, m, hm, hcs, _, _, hlc, hmx, hel, hx, _, _⟩
  · exact Or.inl (by simpa using hcs)
  · refine Or.inr ⟨a, len, cap, by simpa using hcs, by unfold maxLen at hmx; omega, fun i hi => ?_⟩
    have h1 := hx i hi
    rw [hc] at h1
    cases hcc : W.cells? base (a.add (i * c)) c with
    | none => rw [hcc] at h1; simp at h1; omega
    | some cs' =>
      rw [hcc] at h1
      have h2 : DataW.trod enc Try.prog W base (fun _ => true) true m E cs' = some elems[i] := by
        rw [List.getElem?_eq_getElem (by omega)] at h1
        simpa using h1
      obtain ⟨_, _, hcell⟩ := World.cells?_some hcc
      exact ⟨m, cs', _, h2, fun j hj => by rw [← hcell j hj, add_add]⟩
theorem kplain {a : Addr} {v : Value} (h : W.cell? (a.add 0) = some v) : a = ⟨a.block, a.off, none⟩ := by
  have hs := World.cell?_spot h
  obtain ⟨ab, ao, asp⟩ := a
  have : asp = none := by simpa [Addr.add] using hs
  subst this; rfl
/-- A slice of whatever, opened. -/
theorem kopen {α : Type} {S E : TypeId} {c : Nat} (hu : Try.prog.underlying S = some (.slice E)) (hc : Try.prog.cellsOf E = c) (hpos : 0 < c) (vs : α → List Value) (A : World → α → Prop) (d0 : α) (hl : ∀ x, (vs x).length = c)
    (ho : ∀ (fuel : Nat) (cs : List Value) (x : DataW H × List MemPlace), DataW.trod enc Try.prog W base (fun _ => true) true fuel E cs = some x → ∃ a, cs = vs a ∧ A W a) {fuel : Nat} {v : Value} {x : DataW H × List MemPlace} (h : DataW.trod enc Try.prog W base (fun _ => true) true fuel S [v] = some x) :
    ∃ r : Rw α, v = .slice r.ao r.len r.cap ∧ Rw.At c vs A W r := by
  rcases kslice hu hc h with rfl | ⟨a, len, cap, rfl, hb, hx⟩
  · exact ⟨⟨none, 0, 0, 0, 0, fun _ => d0⟩, rfl, ⟨fun h => absurd h (Nat.lt_irrefl _), Nat.zero_le _, fun _ h => absurd h (Nat.not_lt_zero _), fun _ h => absurd h (Nat.not_lt_zero _)⟩⟩
  · have each : ∀ i, i < len → ∃ t : α, (∀ j, j < c → W.cell? (a.add (i * c + j)) = (vs t)[j]?) ∧ A W t := fun i hi => by
      obtain ⟨m, cs, y, h1, h2⟩ := hx i hi
      obtain ⟨t, rfl, hA⟩ := ho m cs y h1
      exact ⟨t, h2, hA⟩
    have hspot : 0 < len → a = ⟨a.block, a.off, none⟩ := fun hp => by
      obtain ⟨t, ht, _⟩ := each 0 hp
      have e := ht 0 hpos
      rw [Nat.zero_mul, Nat.zero_add, List.getElem?_eq_getElem (by rw [hl]; exact hpos)] at e
      exact kplain e
    refine ⟨⟨some a, a.block, a.off, len, cap, fun i => if h : i < len then Classical.choose (each i h) else d0⟩, rfl, ⟨fun hp => congrArg some (hspot hp), hb, fun i hi => ?_, fun i hi => ?_⟩⟩
    · have hi' : i < len := hi
      simp only [dif_pos hi']
      obtain ⟨ht, hA⟩ := Classical.choose_spec (each i hi')
      generalize Classical.choose (each i hi') = t at ht hA
      have ea := hspot (by omega)
      intro j v hv
      have hj : j < c := by rw [← hl t]; exact (List.getElem?_eq_some_iff.1 hv).1
      have := ht j hj
      rw [ea, addr_plain, ← Nat.add_assoc, hv] at this
      exact this
    · have hi' : i < len := hi
      simp only [dif_pos hi']
      exact (Classical.choose_spec (each i hi')).2
theorem kopen_tys {fuel : Nat} {v : Value} {x : DataW H × List MemPlace} (h : DataW.trod enc Try.prog W base (fun _ => true) true fuel 22 [v] = some x) : ∃ t : Ty, v = .slice t.ao t.len t.cap ∧ t.At W := by
  obtain ⟨r, rfl, hr⟩ := kopen Try.underlying22 Try.cellsTy (by decide) Ty.vs (fun w t => t.At w) .dm (fun _ => rfl) (fun fuel cs x h => open_ty fuel cs x h) h
  refine ⟨.mk 0 0 0 0 r.ao r.b r.o r.len r.cap r.x, rfl, ⟨hr.nil, hr.bound, fun i hi => ⟨?_, hr.each i hi⟩⟩⟩
  have g := hr.row i hi
  exact ⟨by have := g 0 _ rfl; simpa using this, g 1 _ rfl, g 2 _ rfl, g 3 _ rfl, g 4 _ rfl⟩
set_option maxRecDepth 100000 in
theorem kopen_in (fuel : Nat) (cs : List Value) (x : DataW H × List MemPlace) (h : DataW.trod enc Try.prog W base (fun _ => true) true fuel 50 cs = some x) : ∃ i : In, cs = i.vs ∧ i.At W := by
  obtain ⟨n, hl, hf⟩ := kfields Try.underlying50 h
  rw [Try.kIn] at hl
  match cs, hl with
  | [c0, c1, c2, c3, c4, c5, c6], _ =>
    obtain ⟨z0, g0⟩ := hf 0 _ rfl
    obtain ⟨z1, g1⟩ := hf 1 _ rfl
    obtain ⟨z2, g2⟩ := hf 2 _ rfl
    have f0 : DataW.trod enc Try.prog W base (fun _ => true) true n 3 [c0] = some z0 := by simpa [Try.cellsInt'] using g0
    have f1 : DataW.trod enc Try.prog W base (fun _ => true) true n 2 [c1] = some z1 := by simpa [Try.kI64] using g1
    have f2 : DataW.trod enc Try.prog W base (fun _ => true) true n 24 [c2, c3, c4, c5, c6] = some z2 := by simpa [Try.cellsTy] using g2
    obtain ⟨op, q0, _, w0⟩ := DataW.trod_int Try.underlying3 f0
    obtain ⟨a, q1, _, w1⟩ := DataW.trod_int Try.underlying2 f1
    obtain ⟨t, hp, hpA⟩ := open_ty _ _ _ f2
    simp only [List.cons.injEq, and_true] at q0 q1
    subst q0 q1
    simp only [Ty.cs, List.cons.injEq, and_true] at hp
    obtain ⟨rfl, rfl, rfl, rfl, rfl⟩ := hp
    exact ⟨⟨op, a, t⟩, rfl, ⟨i64_wf w0, i64_wf w1, hpA⟩⟩
set_option maxRecDepth 100000 in
theorem kopen_hn (fuel : Nat) (cs : List Value) (x : DataW H × List MemPlace) (h : DataW.trod enc Try.prog W base (fun _ => true) true fuel 52 cs = some x) : ∃ i : Hn, cs = i.vs ∧ i.At := by
  obtain ⟨n, hl, hf⟩ := kfields Try.underlying52 h
  rw [Try.kHn] at hl
  match cs, hl with
  | [c0, c1, c2], _ =>
    obtain ⟨z0, g0⟩ := hf 0 _ rfl
    obtain ⟨z1, g1⟩ := hf 1 _ rfl
    obtain ⟨z2, g2⟩ := hf 2 _ rfl
    have f0 : DataW.trod enc Try.prog W base (fun _ => true) true n 3 [c0] = some z0 := by simpa [Try.cellsInt'] using g0
    have f1 : DataW.trod enc Try.prog W base (fun _ => true) true n 3 [c1] = some z1 := by simpa [Try.cellsInt'] using g1
    have f2 : DataW.trod enc Try.prog W base (fun _ => true) true n 3 [c2] = some z2 := by simpa [Try.cellsInt'] using g2
    obtain ⟨a, q0, _, w0⟩ := DataW.trod_int Try.underlying3 f0
    obtain ⟨b, q1, _, w1⟩ := DataW.trod_int Try.underlying3 f1
    obtain ⟨c, q2, _, w2⟩ := DataW.trod_int Try.underlying3 f2
    simp only [List.cons.injEq, and_true] at q0 q1 q2
    subst q0 q1 q2
    exact ⟨⟨a, b, c⟩, rfl, ⟨i64_wf w0, i64_wf w1, i64_wf w2⟩⟩
set_option maxRecDepth 100000 in
theorem kopen_pt (fuel : Nat) (cs : List Value) (x : DataW H × List MemPlace) (h : DataW.trod enc Try.prog W base (fun _ => true) true fuel 119 cs = some x) : ∃ i : Pt, cs = i.vs ∧ i.At W := by
  obtain ⟨n, hl, hf⟩ := kfields Try.underlying119 h
  rw [Try.kPt] at hl
  match cs, hl with
  | [c0, c1, c2], _ =>
    obtain ⟨z0, g0⟩ := hf 0 _ rfl
    obtain ⟨z1, g1⟩ := hf 1 _ rfl
    obtain ⟨z2, g2⟩ := hf 2 _ rfl
    have f0 : DataW.trod enc Try.prog W base (fun _ => true) true n 22 [c0] = some z0 := by simpa [Try.cellsTys] using g0
    have f1 : DataW.trod enc Try.prog W base (fun _ => true) true n 22 [c1] = some z1 := by simpa [Try.cellsTys] using g1
    have f2 : DataW.trod enc Try.prog W base (fun _ => true) true n 3 [c2] = some z2 := by simpa [Try.cellsInt'] using g2
    obtain ⟨a, rfl, hA⟩ := kopen_tys f0
    obtain ⟨b, rfl, hB⟩ := kopen_tys f1
    obtain ⟨c, q2, _, w2⟩ := DataW.trod_int Try.underlying3 f2
    simp only [List.cons.injEq, and_true] at q2
    subst q2
    exact ⟨⟨a, b, c⟩, rfl, ⟨hA, hB, i64_wf w2⟩⟩
theorem kopen_num (fuel : Nat) (cs : List Value) (x : DataW H × List MemPlace) (h : DataW.trod enc Try.prog W base (fun _ => true) true fuel 3 cs = some x) : ∃ a : Int, cs = numV a ∧ I64 a := by
  obtain ⟨a, q0, _, w0⟩ := DataW.trod_int Try.underlying3 h
  exact ⟨a, q0, i64_wf w0⟩
set_option maxRecDepth 100000 in
theorem kopen_rn (fuel : Nat) (cs : List Value) (x : DataW H × List MemPlace) (h : DataW.trod enc Try.prog W base (fun _ => true) true fuel 38 cs = some x) : ∃ i : Rn, cs = i.vs ∧ i.At W := by
  obtain ⟨n, hl, hf⟩ := kfields Try.underlying38 h
  rw [Try.kRn] at hl
  match cs, hl with
  | [c0, c1, c2], _ =>
    obtain ⟨z0, g0⟩ := hf 0 _ rfl
    obtain ⟨z1, g1⟩ := hf 1 _ rfl
    obtain ⟨z2, g2⟩ := hf 2 _ rfl
    have f0 : DataW.trod enc Try.prog W base (fun _ => true) true n 3 [c0] = some z0 := by simpa [Try.cellsInt'] using g0
    have f1 : DataW.trod enc Try.prog W base (fun _ => true) true n 3 [c1] = some z1 := by simpa [Try.cellsInt'] using g1
    have f2 : DataW.trod enc Try.prog W base (fun _ => true) true n 36 [c2] = some z2 := by simpa [Try.kInts] using g2
    obtain ⟨a, q0, _, w0⟩ := DataW.trod_int Try.underlying3 f0
    obtain ⟨b, q1, _, w1⟩ := DataW.trod_int Try.underlying3 f1
    obtain ⟨r, rfl, hr⟩ := kopen Try.underlying36 Try.cellsInt' (by decide) numV (fun _ a => I64 a) 0 (fun _ => rfl) kopen_num f2
    simp only [List.cons.injEq, and_true] at q0 q1
    subst q0 q1
    exact ⟨⟨a, b, r⟩, rfl, ⟨i64_wf w0, i64_wf w1, hr⟩⟩
set_option maxRecDepth 100000 in
theorem kopen_cf (fuel : Nat) (cs : List Value) (x : DataW H × List MemPlace) (h : DataW.trod enc Try.prog W base (fun _ => true) true fuel 30 cs = some x) : ∃ f : Cf, cs = f.vs ∧ f.At W := by
  obtain ⟨n, hl, hf⟩ := kfields Try.underlying30 h
  rw [Try.kFn] at hl
  match cs, hl with
  | [c0, c1, c2, c3, c4, c5, c6, c7, c8, c9, c10, c11, c12, c13, c14, c15, c16, c17], _ =>
    obtain ⟨z0, g0⟩ := hf 0 _ rfl
    obtain ⟨z1, g1⟩ := hf 1 _ rfl
    obtain ⟨z2, g2⟩ := hf 2 _ rfl
    obtain ⟨z3, g3⟩ := hf 3 _ rfl
    obtain ⟨z4, g4⟩ := hf 4 _ rfl
    obtain ⟨z5, g5⟩ := hf 5 _ rfl
    obtain ⟨z6, g6⟩ := hf 6 _ rfl
    obtain ⟨z7, g7⟩ := hf 7 _ rfl
    obtain ⟨z8, g8⟩ := hf 8 _ rfl
    obtain ⟨z9, g9⟩ := hf 9 _ rfl
    have f0 : DataW.trod enc Try.prog W base (fun _ => true) true n 24 [c0, c1, c2, c3, c4] = some z0 := by simpa [Try.cellsTy] using g0
    have f1 : DataW.trod enc Try.prog W base (fun _ => true) true n 24 [c5, c6, c7, c8, c9] = some z1 := by simpa [Try.cellsTy] using g1
    have f2 : DataW.trod enc Try.prog W base (fun _ => true) true n 22 [c10] = some z2 := by simpa [Try.cellsTys] using g2
    have f3 : DataW.trod enc Try.prog W base (fun _ => true) true n 3 [c11] = some z3 := by simpa [Try.cellsInt'] using g3
    have f4 : DataW.trod enc Try.prog W base (fun _ => true) true n 3 [c12] = some z4 := by simpa [Try.cellsInt'] using g4
    have f5 : DataW.trod enc Try.prog W base (fun _ => true) true n 3 [c13] = some z5 := by simpa [Try.cellsInt'] using g5
    have f6 : DataW.trod enc Try.prog W base (fun _ => true) true n 25 [c14] = some z6 := by simpa [Try.kIns] using g6
    have f7 : DataW.trod enc Try.prog W base (fun _ => true) true n 26 [c15] = some z7 := by simpa [Try.kHan] using g7
    have f8 : DataW.trod enc Try.prog W base (fun _ => true) true n 27 [c16] = some z8 := by simpa [Try.kPts] using g8
    have f9 : DataW.trod enc Try.prog W base (fun _ => true) true n 28 [c17] = some z9 := by simpa [Try.kRgs] using g9
    obtain ⟨p, hp, hpA⟩ := open_ty _ _ _ f0
    obtain ⟨r, hr, hrA⟩ := open_ty _ _ _ f1
    obtain ⟨c, rfl, hcA⟩ := kopen_tys f2
    obtain ⟨hh, q3, _, w3⟩ := DataW.trod_int Try.underlying3 f3
    obtain ⟨ee, q4, _, w4⟩ := DataW.trod_int Try.underlying3 f4
    obtain ⟨sl, q5, _, w5⟩ := DataW.trod_int Try.underlying3 f5
    obtain ⟨s6, rfl, k6⟩ := kopen Try.underlying25 Try.kIn (by decide) In.vs In.At ⟨0, 0, .dm⟩ (fun _ => rfl) kopen_in f6
    obtain ⟨s7, rfl, k7⟩ := kopen Try.underlying26 Try.kHn (by decide) Hn.vs (fun _ h => h.At) ⟨0, 0, 0⟩ (fun _ => rfl) kopen_hn f7
    obtain ⟨s8, rfl, k8⟩ := kopen Try.underlying27 Try.kPt (by decide) Pt.vs Pt.At ⟨.dm, .dm, 0⟩ (fun _ => rfl) kopen_pt f8
    obtain ⟨s9, rfl, k9⟩ := kopen Try.underlying28 Try.kRn (by decide) Rn.vs Rn.At ⟨0, 0, ⟨none, 0, 0, 0, 0, fun _ => 0⟩⟩ (fun _ => rfl) kopen_rn f9
    simp only [List.cons.injEq, and_true] at q3 q4 q5
    subst q3 q4 q5
    simp only [Ty.cs, List.cons.injEq, and_true] at hp hr
    obtain ⟨rfl, rfl, rfl, rfl, rfl⟩ := hp
    obtain ⟨rfl, rfl, rfl, rfl, rfl⟩ := hr
    exact ⟨⟨p, r, c, hh, ee, sl, s6, s7, s8, s9⟩, rfl, ⟨hpA, hrA, hcA, i64_wf w3, i64_wf w4, i64_wf w5, k6, k7, k8, k9⟩⟩
def noCf : Cf := ⟨.dm, .dm, .dm, 0, 0, 0, ⟨none, 0, 0, 0, 0, fun _ => ⟨0, 0, .dm⟩⟩, ⟨none, 0, 0, 0, 0, fun _ => ⟨0, 0, 0⟩⟩, ⟨none, 0, 0, 0, 0, fun _ => ⟨.dm, .dm, 0⟩⟩, ⟨none, 0, 0, 0, 0, fun _ => ⟨0, 0, ⟨none, 0, 0, 0, 0, fun _ => 0⟩⟩⟩⟩
set_option maxRecDepth 100000 in
theorem open_func {v : Value} {d : DataW H} {p : List MemPlace} {b0 : Nat} (hv : Value.okWide Try.prog W .any b0 30 v) (h : DataW.Trod enc Try.prog W base (fun _ => true) true 30 v d p) :
    ∃ f : Cf, v = .agg f.vs.toArray ∧ f.At W := by
  obtain ⟨cs, rfl, _⟩ := okWide_struct Try.underlying30 hv
  obtain ⟨fuel, hf⟩ := h
  obtain ⟨c, hc, hA⟩ := kopen_cf fuel _ _ hf
  refine ⟨c, ?_, hA⟩
  have : cs.toList = c.vs := by simpa [Value.cells] using hc
  obtain ⟨l⟩ := cs
  have e : l = c.vs := this
  rw [e]
set_option maxRecDepth 100000 in
theorem open_region {v : Value} {d : DataW H} {p : List MemPlace} {b0 : Nat} (hv : Value.okWide Try.prog W .any b0 38 v) (h : DataW.Trod enc Try.prog W base (fun _ => true) true 38 v d p) :
    ∃ r : Rn, v = .agg r.vs.toArray ∧ r.At W := by
  obtain ⟨cs, rfl, _⟩ := okWide_struct Try.underlying38 hv
  obtain ⟨fuel, hf⟩ := h
  obtain ⟨c, hc, hA⟩ := kopen_rn fuel _ _ hf
  refine ⟨c, ?_, hA⟩
  have : cs.toList = c.vs := by simpa [Value.cells] using hc
  obtain ⟨l⟩ := cs
  have e : l = c.vs := this
  rw [e]
end
end Go.Proofs.Ytibhcbdofadamaa

/- Rows of whatever, put one behind the other in memory of one's own; functions that come in. -/
namespace Go.Proofs.Ytibhcbdofadamaa
open Go.ChangeShapes Go.WideShapes Go.ChangeAt Go.RowKit Go.Deep Go.Joins

def rowR {α : Type} (vs : α → List Value) (r : Rw α) : List Value := flatN (fun i => vs (r.x i)) r.len
theorem rowR_len {α : Type} {vs : α → List Value} {z : Nat} (hz : ∀ x, (vs x).length = z) (r : Rw α) : (rowR vs r).length = r.len * z := flatN_len (fun i => hz (r.x i)) r.len
theorem rowR_cell {α : Type} {vs : α → List Value} {z : Nat} (hz : ∀ x, (vs x).length = z) (hp : 0 < z) {A : World → α → Prop} {w : World} {r : Rw α} (h : Rw.At z vs A w r) : ∀ a, r.ao = some a → ∀ j u, (rowR vs r)[j]? = some u → w.cell? (a.add j) = some u := fun a ha j u hj => by
  have hlt : j < r.len * z := by rw [← rowR_len hz r]; exact (List.getElem?_eq_some_iff.1 hj).1
  have h0 : 0 < r.len := by
    rcases Nat.eq_zero_or_pos r.len with e | e
    · rw [e, Nat.zero_mul] at hlt; omega
    · exact e
  rw [h.nil h0] at ha
  injection ha with ha
  subst ha
  exact flatN_cell (fun i => hz (r.x i)) hp h.row j u hj
theorem rowR_one {α : Type} {vs : α → List Value} (h1 : ∀ x, (vs x).all (·.oneCell') = true) (r : Rw α) : ∀ u ∈ rowR vs r, u.oneCell' = true := fun u hu => by
  obtain ⟨i, _, h⟩ := flatN_mem r.len hu
  exact List.all_eq_true.1 (h1 (r.x i)) u h
theorem Rw.of_own {α : Type} {vs : α → List Value} {z : Nat} (hz : ∀ x, (vs x).length = z) {A : World → α → Prop} {w : World} {base : Nat} {e : TypeId} {v : Value} {n : Nat} {F : Nat → α} (h : w.ownsRow base e z v n (flatN (fun i => vs (F i)) n)) (hb : n ≤ 9223372036854775807) (hA : ∀ i, i < n → A w (F i)) : ∃ r : Rw α, v = .slice r.ao r.len r.cap ∧ Rw.At z vs A w r ∧ r.len = n ∧ r.x = F := by
  obtain ⟨hl, ⟨rfl, rfl⟩ | ⟨g, cap, cur, rfl, hg, hh, hr⟩⟩ := h
  · exact ⟨⟨none, 0, 0, 0, 0, F⟩, rfl, ⟨fun h => absurd h (Nat.lt_irrefl _), Nat.zero_le _, fun _ h => absurd h (Nat.not_lt_zero _), fun _ h => absurd h (Nat.not_lt_zero _)⟩, rfl, rfl⟩
  · have ho : w.ownsRow base e z (.slice (some ⟨g, 0, none⟩) n cap) n (flatN (fun i => vs (F i)) n) := ⟨hl, Or.inr ⟨g, cap, cur, rfl, hg, hh, hr⟩⟩
    refine ⟨⟨some ⟨g, 0, none⟩, g, 0, n, cap, F⟩, rfl, ⟨fun _ => rfl, hb, fun i hi => ?_, hA⟩, rfl, rfl⟩
    have hi' : i < n := hi
    intro j u hu
    have hj : j < z := by rw [← hz (F i)]; exact (List.getElem?_eq_some_iff.1 hu).1
    show w.cell? ⟨g, 0 + i * z + j, none⟩ = some u
    have hlt : i * z + j < n * z := by
      have : (i + 1) * z ≤ n * z := Nat.mul_le_mul_right z (by omega)
      rw [Nat.add_mul, Nat.one_mul] at this
      omega
    rw [Nat.zero_add, ho.cellAt (i * z + j) hlt]
    rw [flatN_get (fun i => hz (F i)) n i j hi' hj]
    exact hu
/-- Two rows, one behind the other. -/
def Rw.cat {α : Type} (r s : Rw α) : Nat → α := fun i => if i < r.len then r.x i else s.x (i - r.len)
theorem rowR_cat {α : Type} (vs : α → List Value) (r s : Rw α) : flatN (fun i => vs (Rw.cat r s i)) (r.len + s.len) = rowR vs r ++ rowR vs s := by
  have e : (fun i => vs (Rw.cat r s i)) = fun i => if i < r.len then vs (r.x i) else vs (s.x (i - r.len)) := by
    funext i
    show vs (if i < r.len then r.x i else s.x (i - r.len)) = _
    split <;> rfl
  rw [e, flatN_app (fun i => vs (r.x i)) (fun i => vs (s.x i)) r.len s.len]
  rfl
theorem Try.infoFn14 : (Try.prog.info? 30).map (fun i => (i.zero, i.size, i.bytes)) = some (some (.agg #[.int .i64 0, .int .i64 0, .slice none 0 0, .int .i64 0, .int .i64 0, .int .i64 0, .int .i64 0, .slice none 0 0, .int .i64 0, .int .i64 0, .slice none 0 0, .int .i64 0, .int .i64 0, .int .i64 0, .slice none 0 0, .slice none 0 0, .slice none 0 0, .slice none 0 0]), 18, 256) := by kernel_rfl

section
variable {H : Type} {enc : TypeId × Value → H} {W : World} {base : Nat}
end
end Go.Proofs.Ytibhcbdofadamaa

/- Layer 16: numbers of the call's own, searched and cut; the places that raise; two regions that are one. -/
namespace Go.Proofs.Ytibhcbdofadamaa
open Go Go.RowKit

theorem bsearch_oi (w : World) (base : Nat) (v : Value) (l : List Int) (x : Int) (h : Oi w base v l) (hs : l.Pairwise (· < ·)) (hl : l.length ≤ 1000000) : Calls Try.prog 39 #[v, .int .i64 x] w fun e w' => ∃ b : Bool, e = .returned (.tuple #[.int .i64 ((l.countP fun a => decide (a < x) : Nat) : Int), .bool b]) ∧ Below w.heap.size w w' := by
  have h' := h
  obtain ⟨_, ⟨rfl, h0⟩ | ⟨g, cap, cur, rfl, hb, hg, hn, hc, hss, ht⟩⟩ := h
  · have e : l = [] := List.eq_nil_of_length_eq_zero h0
    subst e
    refine (Try.slices_BinarySearch_int_empty none 0 x w).mono ?_
    rintro e w' ⟨rfl, rfl⟩
    exact ⟨false, rfl, Below.refl _ _⟩
  · have h0 := Try.slices_BinarySearch_int g 0 l.length cap l x w (Nat.le_refl _) (by omega) (fun j hj => by
      have := World.ownsRow.cells h' (g := g) rfl j (.int .i64 (l.getD j 0)) (by simp [ivL, hj])
      rw [adp] at this
      simpa using this) (by rw [List.take_length]; exact hs.imp (fun h => Int.le_of_lt h))
    rw [List.take_length] at h0
    refine h0.mono ?_
    rintro e w' ⟨rfl, q, rfl⟩
    exact ⟨_, rfl, below_drewN (Below.refl _ _) q⟩
theorem delete_oi (w : World) (base : Nat) (v : Value) (l : List Int) (i j : Nat) (h : Oi w base v l) (hij : i < j) (hj : j ≤ l.length) (hl : l.length ≤ 1000000) : Calls Try.prog 40 #[v, .int .i64 i, .int .i64 j] w fun e w' => ∃ v', e = .returned v' ∧ Oi w' base v' (l.take i ++ l.drop j) ∧ w.grownBy w' v.ownBlock := by
  have h' := h
  obtain ⟨_, ⟨rfl, h0⟩ | ⟨g, cap, cur, rfl, hb, hg, hn, hc, hs, ht⟩⟩ := h
  · omega
  · have hH := holds_of_blockI (ss := l) hg (by rw [Nat.mul_one] at ht; exact ht)
    refine (Try.slices_Delete_int g 0 cap i j l w hH hn (by unfold maxLen at hc; omega) (by omega) hj).mono ?_
    rintro e w' ⟨rfl, q, rfl⟩
    have hk : (l.take i ++ l.drop j).length = l.length - (j - i) := by simp; omega
    refine ⟨_, rfl, ?_, ?_⟩
    · have := Lib.ownsRow_putRow (enc := Value.int .i64) (q := q) (k := l.length - (j - i)) (ys := l.take i ++ l.drop j ++ List.replicate (j - i) 0) (zs := l) (cap := cap) (g := g) (w := w) (base := base) (e := 3) (n := l.length) h' (by rw [List.length_append, hk, List.length_replicate]; omega) (by omega)
      rw [List.take_left' hk] at this
      unfold Oi
      rw [hk]
      exact this
    · have := grownBy_sortedI (w := w) (g := g) (n := q) (os := #[]) (l.take i ++ l.drop j ++ List.replicate (j - i) 0).toArray
      rw [Sort.grow_empty] at this
      exact this

set_option maxRecDepth 100000 in
set_option maxHeartbeats 8000000 in
theorem raising_any (f : Cf) (g : Rw Bool) (w : World) (hf : f.At w) (hg : BlAt w g) (hn : f.cd.len ≤ 100000) : Calls Try.prog 38 #[.agg f.vs.toArray, .slice g.ao g.len g.cap] w fun e w' => ∃ v, e = .returned v ∧ Oi w' w.heap.size v (trM (f.rs g) f.cd.len) ∧ Below w.heap.size w w' := by
  have H1 : Hid (Wv w f (.slice none 0 0) [] (w.alloc (.cells f.vs.toArray 30))) := ⟨Fb.new w f, Oi.nil _ _⟩
  have HD := hyd (show f.At w ∧ BlAt w g from ⟨hf, hg⟩)
  clear hf hg
  generalize hw : w.alloc (.cells f.vs.toArray 30) = u1 at *
  go_enter Try.func38, Try.ntmps38
  go_upto_region 1 with fail
  clear hw
  have c14 := H1.out.x.b.cell 14 rfl
  go_wp2
  clear c14
  go_loopw [5, 10] (fun v i wr => ∃ (j : Nat), j ≤ f.cd.len ∧ i = .int .i64 j ∧ Wv w f v (trM (f.rs g) j) wr) (fun _ i _ => f.cd.len - (intOf i).toNat)
  case atStart => exact ⟨0, Nat.zero_le _, rfl, H1.out⟩
  case round =>
    clear H1
    obtain ⟨j, hj, rfl, hB⟩ := hrel
    have HB := hyd hB
    clear hB
    by_cases hlt : j < f.cd.len
    · have ij : (j : Int) < f.cd.len := by omega
      have rF := HB.out.x.b.range
      have h0 := raises_any f g j wr (Cf.At.kept HB.out.x.bl HD.out.1) (BlAt.kept HD.out.2 HB.out.x.bl) hlt
      have HT := hyd (trM_succ (f.rs g) j)
      have hlen := hyd (trM_len (f.rs g) j)
      generalize f.rs g j = rb at *
      go_wp2_with (refine wpList_load_mid rfl 30 (.tmp 2) rfl w.heap.size 0 (by kernel_rfl) f.vs _ rF Try.underlying30 rfl (by kernel_rfl) ?_)
      refine h0.mono ?_
      rintro _ u2 ⟨rfl, hb⟩
      have H2 := hyd (HB.out.kept hb)
      clear h0 hb HB rF
      cases rb
      · have HE : Hid (trM (f.rs g) (j + 1) = trM (f.rs g) j) := by show _ = _; rw [HT.out]; simp
        clear HT
        go_wp2
        go_roundw
        case rel => exact ⟨j + 1, by omega, by go_num, by rw [HE.out]; exact H2.out⟩
        case measure => simp [intOf]; omega
      · have HE : Hid (trM (f.rs g) (j + 1) = trM (f.rs g) j ++ [(j : Int)]) := by show _ = _; rw [HT.out]; simp
        clear HT
        go_wp2_with (at_builtin; refine wpList_app1 rfl _ _ rfl (w.heap.size + 1) u5 (trM (f.rs g) j) (j : Int) rfl H2.out.o rfl (by have := hlen.out; omega) H2.out.size ?_; intro v6 w6 h6 g6; have H3 := hyd (H2.out.to h6 g6); clear h6 g6 H2)
        go_roundw
        case rel => exact ⟨j + 1, by omega, by go_num, by rw [HE.out]; exact H3.out⟩
        case measure => simp [intOf]; omega
    · have ij : ¬ (j : Int) < f.cd.len := by omega
      have HE : Hid (trM (f.rs g) j = trM (f.rs g) f.cd.len) := by show _ = _; rw [show j = f.cd.len by omega]
      go_wp2
      go_ret
      exact ⟨_, rfl, by rw [← HE.out]; exact own_mono HB.out.o (by omega), HB.out.x.bl⟩

set_option maxRecDepth 100000 in
set_option maxHeartbeats 8000000 in
theorem same16_yes (x y : Rn) (w : World) (hx : x.At w) (hy : y.At w) (h1 : x.at_ = y.at_) (h2 : x.join = y.join) (h3 : x.ps.ls = y.ps.ls) : Calls Try.prog 15 #[.agg x.vs.toArray, .agg y.vs.toArray] w fun e w' => e = .returned (.bool true) ∧ Below w.heap.size w w' := by
  have A0 := allocs_below [.cells x.vs.toArray 38, .cells y.vs.toArray 38] w
  have A1 := allocs_heap [.cells x.vs.toArray 38, .cells y.vs.toArray 38] w
  simp only [List.foldl] at A0 A1
  have H1 := hyd (show Below w.heap.size w _ ∧ Blk _ w.heap.size x.vs 38 ∧ Blk _ (w.heap.size + 1) y.vs 38 from ⟨A0, A1 0 (by simp), A1 1 (by simp)⟩)
  have h0 := sameR_yes x.ps y.ps _ (hx.ps.kept A0) (hy.ps.kept A0) h3
  have e1 : (x.at_ == y.at_) = true := by simpa using h1
  have e2 : (x.join == y.join) = true := by simpa using h2
  clear A0 A1 hx hy h1 h2 h3
  generalize hw : (w.alloc (.cells x.vs.toArray 38)).alloc (.cells y.vs.toArray 38) = u1 at *
  have c0 := H1.out.2.1.cell 0 rfl
  have c1 := H1.out.2.1.cell 1 rfl
  have c2 := H1.out.2.1.cell 2 rfl
  have d0 := H1.out.2.2.cell 0 rfl
  have d1 := H1.out.2.2.cell 1 rfl
  have d2 := H1.out.2.2.cell 2 rfl
  go_enter Try.func15, Try.ntmps15
  go_wp2_with fail
  refine h0.mono ?_
  rintro _ u2 ⟨rfl, hb⟩
  have H2 := hyd (Below.next H1.out.1 hb)
  clear h0 hb H1 c0 c1 c2 d0 d1 d2 hw
  go_wp2
  go_ret
  exact ⟨rfl, H2.out⟩
end Go.Proofs.Ytibhcbdofadamaa

/- Layer 15: Ways, Leaves, Branches of a number that is no place. -/
namespace Go.Proofs.Ytibhcbdofadamaa
open Go Go.RowKit

set_option maxRecDepth 100000 in
set_option maxHeartbeats 8000000 in
theorem ways_no (f : Cf) (g : Rw Bool) (a : Int) (w : World) (ha : f.pl a = false) : Calls Try.prog 16 #[.agg f.vs.toArray, .slice g.ao g.len g.cap, .int .i64 a] w fun e w' => e = .returned (.slice none 0 0) ∧ Below w.heap.size w w' := by
  have H1 := hyd (Fb.new w f)
  have h0 := fplace_any f a (w.alloc (.cells f.vs.toArray 30))
  rw [ha] at h0
  have rF := H1.out.b.range
  clear ha
  generalize hw : w.alloc (.cells f.vs.toArray 30) = u1 at *
  go_enter Try.func16, Try.ntmps16
  go_wp2_with (refine wpList_load_mid rfl 30 (.tmp 3) rfl w.heap.size 0 (by kernel_rfl) f.vs _ rF Try.underlying30 rfl (by kernel_rfl) ?_)
  refine h0.mono ?_
  rintro _ u2 ⟨rfl, hb⟩
  have H2 := hyd (H1.out.kept hb)
  clear h0 hb H1 rF hw
  go_wp2
  go_ret
  exact ⟨rfl, H2.out.bl⟩

set_option maxRecDepth 100000 in
set_option maxHeartbeats 8000000 in
theorem leaves_no (f : Cf) (g : Rw Bool) (a : Int) (w : World) (ha : f.pl a = false) : Calls Try.prog 19 #[.agg f.vs.toArray, .slice g.ao g.len g.cap, .int .i64 a] w fun e w' => e = .returned (.bool false) ∧ Below w.heap.size w w' := by
  have H1 := hyd (Fb.new w f)
  have h0 := fplace_any f a (w.alloc (.cells f.vs.toArray 30))
  rw [ha] at h0
  have rF := H1.out.b.range
  clear ha
  generalize hw : w.alloc (.cells f.vs.toArray 30) = u1 at *
  go_enter Try.func19, Try.ntmps19
  go_wp2_with (refine wpList_load_mid rfl 30 (.tmp 3) rfl w.heap.size 0 (by kernel_rfl) f.vs _ rF Try.underlying30 rfl (by kernel_rfl) ?_)
  refine h0.mono ?_
  rintro _ u2 ⟨rfl, hb⟩
  have H2 := hyd (H1.out.kept hb)
  clear h0 hb H1 rF hw
  go_wp2
  go_ret
  exact ⟨rfl, H2.out.bl⟩

set_option maxRecDepth 100000 in
set_option maxHeartbeats 8000000 in
theorem branches_no (f : Cf) (g : Rw Bool) (a : Int) (w : World) (ha : f.pl a = false) : Calls Try.prog 14 #[.agg f.vs.toArray, .slice g.ao g.len g.cap, .int .i64 a] w fun e w' => e = .returned (.bool false) ∧ Below w.heap.size w w' := by
  have H1 := hyd (Fb.new w f)
  have h0 := fplace_any f a (w.alloc (.cells f.vs.toArray 30))
  rw [ha] at h0
  have rF := H1.out.b.range
  clear ha
  generalize hw : w.alloc (.cells f.vs.toArray 30) = u1 at *
  go_enter Try.func14, Try.ntmps14
  go_wp2_with (refine wpList_load_mid rfl 30 (.tmp 3) rfl w.heap.size 0 (by kernel_rfl) f.vs _ rF Try.underlying30 rfl (by kernel_rfl) ?_)
  refine h0.mono ?_
  rintro _ u2 ⟨rfl, hb⟩
  have H2 := hyd (H1.out.kept hb)
  clear h0 hb H1 rF hw
  go_wp2
  go_ret
  exact ⟨rfl, H2.out.bl⟩

set_option maxRecDepth 100000 in
set_option maxHeartbeats 8000000 in
theorem raises_no (f : Cf) (g : Rw Bool) (a : Int) (w : World) (ha : f.pl a = false) : Calls Try.prog 31 #[.agg f.vs.toArray, .slice g.ao g.len g.cap, .int .i64 a] w fun e w' => e = .returned (.bool false) ∧ Below w.heap.size w w' := by
  have H1 := hyd (Fb.new w f)
  have h0 := fplace_any f a (w.alloc (.cells f.vs.toArray 30))
  rw [ha] at h0
  have rF := H1.out.b.range
  clear ha
  generalize hw : w.alloc (.cells f.vs.toArray 30) = u1 at *
  go_enter Try.func31, Try.ntmps31
  go_wp2_with (refine wpList_load_mid rfl 30 (.tmp 3) rfl w.heap.size 0 (by kernel_rfl) f.vs _ rF Try.underlying30 rfl (by kernel_rfl) ?_)
  refine h0.mono ?_
  rintro _ u2 ⟨rfl, hb⟩
  have H2 := hyd (H1.out.kept hb)
  clear h0 hb H1 rF hw
  go_wp2
  go_ret
  exact ⟨rfl, H2.out.bl⟩
end Go.Proofs.Ytibhcbdofadamaa

/- A region that draws its order and ends in one operation behind all others: all that only reads comes first, in the worlds that meet S; behind the last operation S is not asked. -/
namespace Go.Proofs.Ytibhcbdofadamaa
open Go Go.RowKit

section
variable {P : Program} {ops : Array Oper} {Q : Exit → Act → World → Prop} {md : Region.Mode} {S : World → Prop} {m : Nat}
def wpAnyL (P : Program) (md : Region.Mode) (ops : Array Oper) (Q : Exit → Act → World → Prop) (S : World → Prop) (m : Nat) : Nat → Array Bool → Act → World → Prop
  | 0, listed, a, w => Region.ready md ops listed = [] ∧ Q .normal a w
  | fuel + 1, listed, a, w =>
    (Region.ready md ops listed = [] → Q .normal a w) ∧
    ∀ i ∈ Region.ready md ops listed, wpOp P ops Q i (fun a' w' => (i ≠ m → S w') ∧ wpAnyL P md ops Q S m fuel (listed.setIfInBounds i true) a' w') a w
theorem wpAny_of_L : ∀ (fuel : Nat) (listed : Array Bool) (a : Act) (w : World), wpAnyL P md ops Q S m fuel listed a w → wpAny P md ops Q fuel listed a w
  | 0, _, _, _, h => h
  | fuel + 1, _, _, _, h => ⟨h.1, fun i hi => wpOp_mono (fun a' w' h' => wpAny_of_L fuel _ a' w' h'.2) (h.2 i hi)⟩
theorem wpAnyL_first {i : Nat} {oi : Oper} {v : Value} (hi : ops[i]? = some oi) (hsel : ∀ (j : Nat) (o : Oper) cs b, ops[j]? = some o → o.op ≠ .select cs b)
    (hQ : ∀ c a w, Q (.panic c) (a.put oi.dst v) w → Q (.panic c) a w) (hsk : Region.sinkB md ops m = true) (him : i < m) :
    ∀ (fuel : Nat) (listed : Array Bool) (a : Act) (w : World), Shut md ops listed →
      (∀ j oj, ops[j]? = some oj → j ≠ i → listed.getD j true = false → (∀ e ∈ oj.after, Region.binds md e = true → e.on ≠ i) → oi.apart ops oj = true) →
      i ∈ Region.ready md ops listed → YieldsIf P ops S oi v a → S w →
      wpAnyL P md ops Q S m fuel (listed.setIfInBounds i true) (a.put oi.dst v) w → wpAnyL P md ops Q S m (fuel + 1) listed a w := by
  intro fuel
  induction fuel with
  | zero =>
    intro listed a w _ _ hr hy hS H
    refine ⟨fun h => (by rw [h] at hr; cases hr), fun j hj => ?_⟩
    by_cases hji : j = i
    · subst hji; exact hy.wpOp hi hS ⟨fun _ => hS, H⟩
    · have := ready_mono hj hji
      rw [H.1] at this
      cases this
  | succ fuel ih =>
    intro listed a w hShut hfree hr hy hS H
    refine ⟨fun h => (by rw [h] at hr; cases hr), fun j hj => ?_⟩
    by_cases hji : j = i
    · subst hji; exact hy.wpOp hi hS ⟨fun _ => hS, H⟩
    · have h1 := H.2 j (ready_mono hj hji)
      obtain ⟨hjun, oj, hoj, hall⟩ := mem_ready.1 hj
      have hjm : j ≠ m := by
        intro e
        subst e
        have h2 := sink_all hsk hShut hoj hall (j - 1 - i) i (by omega)
        have h3 := (mem_ready.1 hr).1
        rcases Nat.lt_or_ge i listed.size with h' | h'
        · simp [h'] at h2 h3; rw [h2] at h3; cases h3
        · simp [Array.getElem?_eq_none h'] at h2
      have hnot : ∀ e ∈ oj.after, Region.binds md e = true → e.on ≠ i := fun e he hb heq => by
        have h1 := hall e he hb
        have h0 := (mem_ready.1 hr).1
        rw [heq] at h1
        rcases Nat.lt_or_ge i listed.size with h' | h'
        · simp [h'] at h0 h1; rw [h0] at h1; cases h1
        · simp [Array.getElem?_eq_none h'] at h1
      have h2 := wpOp_putIf hoj (hfree j oj hoj hji hjun hnot) (fun cs b => hsel i oi cs b hi) (fun cs b => hsel j oj cs b hoj) hQ hy h1
      have hfree' : ∀ k ok, ops[k]? = some ok → k ≠ i → (listed.setIfInBounds j true).getD k true = false →
          (∀ e ∈ ok.after, Region.binds md e = true → e.on ≠ i) → oi.apart ops ok = true := fun k ok hk hki hun hno => by
        refine hfree k ok hk hki ?_ hno
        by_cases hjk : j = k
        · subst hjk; exact hjun
        · rw [getD_set_ne true hjk] at hun; exact hun
      refine wpOp_mono (fun a' w' h3 => ⟨fun _ => h3.2.1 hjm, ih (listed.setIfInBounds j true) a' w' (hShut.put hj) hfree' (ready_mono hr (Ne.symm hji)) h3.1 (h3.2.1 hjm) ?_⟩) h2
      rw [Array.setIfInBounds_comm _ _ hji]
      exact h3.2.2
def AllReadyL (P : Program) (md : Region.Mode) (ops : Array Oper) (Q : Exit → Act → World → Prop) (S : World → Prop) (m : Nat) (fuel : Nat) (listed : Array Bool) (a : Act) (w : World) (rs : List Nat) : Prop :=
  ∀ i ∈ rs, wpOp P ops Q i (fun a' w' => (i ≠ m → S w') ∧ wpAnyL P md ops Q S m fuel (listed.setIfInBounds i true) a' w') a w
theorem AllReadyL.nil {fuel : Nat} {listed : Array Bool} {a : Act} {w : World} : AllReadyL P md ops Q S m fuel listed a w [] := fun _ h => by cases h
theorem AllReadyL.cons {fuel : Nat} {listed : Array Bool} {a : Act} {w : World} {i : Nat} {o : Oper} {rs : List Nat} (ho : ops[i]? = some o)
    (h : ∀ K' : Act → World → Prop, Hid (∀ a w, (i ≠ m → S w) → wpAnyL P md ops Q S m fuel (listed.setIfInBounds i true) a w → K' a w) → if Region.wanted o (yielded ops a.tmps) = true then Oper.wp P o a w K' Q else K' (a.put o.dst undef) w)
    (hs : AllReadyL P md ops Q S m fuel listed a w rs) : AllReadyL P md ops Q S m fuel listed a w (i :: rs) := fun j hj => by
  rcases List.mem_cons.1 hj with rfl | hj
  · exact wpOp_step ho (fun K' hK => h K' (fun a w hS hW => hK a w ⟨hS, hW⟩))
  · exact hs j hj
theorem wpAnyL_ready {rs : List Nat} {fuel : Nat} {listed : Array Bool} {a : Act} {w : World} (hr : Region.ready md ops listed = rs) (hne : rs ≠ [])
    (h : AllReadyL P md ops Q S m fuel listed a w rs) : wpAnyL P md ops Q S m (fuel + 1) listed a w := ⟨fun h0 => absurd (hr.symm.trans h0) hne, fun i hi => h i (by rw [← hr]; exact hi)⟩
theorem wpAnyL_done {listed : Array Bool} {a : Act} {w : World} (hr : Region.ready md ops listed = []) (h : Q .normal a w) : ∀ fuel, wpAnyL P md ops Q S m fuel listed a w
  | 0 => ⟨hr, h⟩
  | _ + 1 => ⟨fun _ => h, fun i hi => by rw [hr] at hi; cases hi⟩
theorem wpAnyL_readsQ {K : Act → Prop} {rest : Nat} {w : World} (hs : Region.noSelect ops = true) (hQ : ∀ c a d v w, Q (.panic c) (Act.put a d v) w → Q (.panic c) a w) (hsk : Region.sinkB .any ops m = true) (hS : S w) : ∀ (js : List Nat) (l : List Oper) (listed : Array Bool) (a : Act), Shut .any ops listed → (js.all fun i => decide (i < m)) = true → (∀ j, j < l.length → ∃ i, js[j]? = some i ∧ ops[i]? = l[j]?) →
    lexQ ops js l listed = true → wpQuiet P ops S K l a → (∀ a', K a' → wpAnyL P .any ops Q S m rest (listedI js listed) a' w) → wpAnyL P .any ops Q S m (js.length + rest) listed a w
  | [], [], _, _, _, _, _, _, h, hK => by simpa [listedI] using hK _ h
  | [], _ :: _, _, _, _, _, _, hB, _, _ => by simp [lexQ] at hB
  | _ :: _, [], _, _, _, _, _, hB, _, _ => by simp [lexQ] at hB
  | i :: js, o :: l, listed, a, hSh, hjm, hl, hB, h, hK => by
    have h0 : ops[i]? = some o := by
      obtain ⟨i', h1, h2⟩ := hl 0 (by simp)
      have : i = i' := by simpa using h1
      subst this
      simpa using h2
    simp only [lexQ, Bool.and_eq_true] at hB
    obtain ⟨⟨⟨hr, hc⟩, hf⟩, hB'⟩ := hB
    simp only [List.all_cons, Bool.and_eq_true, decide_eq_true_eq] at hjm
    have h' : if Region.wanted o (yielded ops a.tmps) then o.quiet P a S (wpQuiet P ops S K l) else wpQuiet P ops S K l (a.put o.dst undef) := h
    obtain ⟨v, hy, hk⟩ := yieldsIf_of_quietQ (ops := ops) hr h'
    rw [show (i :: js).length + rest = (js.length + rest) + 1 by simp; omega]
    have hmem : i ∈ Region.ready .any ops listed := by simpa using hc
    exact wpAnyL_first h0 (Region.noSelect_spec hs) (fun c a w => hQ c a _ _ w) hsk hjm.1 _ listed a w hSh (Region.free_spec h0 hf) hmem hy hS (wpAnyL_readsQ hs hQ hsk hS js l _ _ (hSh.put hmem) hjm.2 (fun j hj => by
      obtain ⟨i', h1, h2⟩ := hl (j + 1) (by simp; omega)
      exact ⟨i', by simpa using h1, by simpa using h2⟩) hB' hk hK)
end
/-- Such a region: first all that only reads; number m is the last. -/
theorem wp_region_readsL {P : Program} {Q : Exit → Act → World → Prop} {id : Nat} {a : Act} {w : World} {l : List Oper} (S : World → Prop) (m : Nat) (js : List Nat) (rest : Nat) (hm : P.follows .mixedOrders = true) (hlen : l.length = js.length + rest) (hB : (Region.noSelect l.toArray && lexQ l.toArray js (js.filterMap (l[·]?)) (Array.replicate l.length false) && Region.sinkB .any l.toArray m && (js.all fun i => decide (i < m)) && (js.all fun i => decide (i < l.length))) = true)
    (hS : S w.drew)
    (h : wpQuiet P l.toArray (fun u => ∃ x : Wd S, u = x.w) (fun a' => wpAnyL P .any l.toArray (NoPanM Q) S m rest (listedI js (Array.replicate l.length false)) a' w.drew) (js.filterMap (l[·]?)) a) : (Code.region id l.toArray true).wp P Q a w := by
  refine Code.wp_mono (fun _ _ _ h => h.2) (Q := NoPanM Q) ?_
  simp only [Bool.and_eq_true] at hB
  obtain ⟨⟨⟨⟨h1, h2⟩, h3⟩, h4⟩, h5⟩ := hB
  have e3 : Array.replicate l.toArray.size false = Array.replicate l.length false := by simp
  have e2 : l.toArray.size = js.length + rest := by simpa using hlen
  have eS : (fun u : World => ∃ x : Wd S, u = x.w) = S := by
    funext u; apply propext
    exact ⟨fun ⟨x, hx⟩ => hx ▸ x.2, fun h => ⟨⟨u, h⟩, rfl⟩⟩
  rw [eS] at h
  refine wp_region_any hm (wpAny_of_L _ _ _ _ (S := S) (m := m) ?_)
  rw [e3, e2]
  exact wpAnyL_readsQ h1 (fun c _ _ _ _ h => absurd rfl (h.1 c)) h3 hS js _ _ a (by intro k o hk; simp [Array.getElem?_replicate] at hk; split at hk <;> simp_all) h4 (hj_ofQ h5) h2 h (fun a' h => h)
end Go.Proofs.Ytibhcbdofadamaa

/- Layer 16: what is answered whole; own rows of different types lie apart. -/
namespace Go.Proofs.Ytibhcbdofadamaa
open Go Go.RowKit

theorem results_rowG {T : TypeId} {d : TypeDesc} {fn : Func} {tmps : Array Value} {k B : Nat} {vs : List Value} {w : World} (hu : Try.prog.underlying T = some d) (hd : d.isRow = true) (hi : (Try.prog.info? T).map (·.size) = some vs.length) (hf : fn.results = #[.cell k T]) (ht : tmps.getD k undef = .pointer (some ⟨B, 0, none⟩)) (h : w.rangeAt B 0 vs) : (results fn tmps).run Try.prog w = .ok (.agg vs.toArray) w := by
  have h : (loadVar T ⟨B, 0, none⟩).run Try.prog w = .ok (.agg vs.toArray) w := run_loadAt_mid w B 0 T vs d h hu hd hi
  have ha : (asAddr (tmps[k]?.getD undef)).run Try.prog w = .ok ⟨B, 0, none⟩ w := by rw [show tmps[k]?.getD undef = .pointer (some ⟨B, 0, none⟩) by simpa using ht]; rfl
  unfold results
  rw [hf]
  simp [ha, h]
/-! Own rows of different types lie apart. -/
theorem own_typ {w : World} {base z n k : Nat} {e : TypeId} {v : Value} {xs : List Value} (h : w.ownsRow base e z v n xs) (hk : v.ownBlock = some k) : ∃ cur fr, w.heap[k]? = some (.cells cur e fr) := by
  obtain ⟨_, ⟨rfl, _⟩ | ⟨g, cap, cur, rfl, hg, hh, _⟩⟩ := h
  · cases hk
  · have : g = k := by simpa [Value.ownBlock] using hk
    subst this
    exact ⟨_, _, hh⟩
theorem own_ne_blk {w : World} {base z n B : Nat} {e t : TypeId} {v : Value} {xs c : List Value} (h : w.ownsRow base e z v n xs) (hb : Blk w B c t) (hne : e ≠ t) : some B ≠ v.ownBlock := fun hk => by
  obtain ⟨cur, fr, h1⟩ := own_typ h hk.symm
  unfold Blk at hb
  rw [hb] at h1
  injection h1 with h1
  injection h1 with _ h2 _
  exact hne h2.symm
theorem own_ne_own {w : World} {base z n base' z' n' k : Nat} {e t : TypeId} {v v' : Value} {xs xs' : List Value} (h : w.ownsRow base e z v n xs) (h' : w.ownsRow base' t z' v' n' xs') (hne : e ≠ t) (hk : v.ownBlock = some k) : v'.ownBlock ≠ some k := fun hk' => by
  obtain ⟨cur, fr, h1⟩ := own_typ h hk
  obtain ⟨cur', fr', h2⟩ := own_typ h' hk'
  rw [h1] at h2
  injection h2 with h2
  injection h2 with _ h2 _
  exact hne h2
theorem own_gb {w w' : World} {base z n : Nat} {e : TypeId} {v : Value} {xs : List Value} {r : Option Nat} (h : w.ownsRow base e z v n xs) (hg : w.grownBy w' r) (hr : ∀ k, v.ownBlock = some k → some k ≠ r) : w'.ownsRow base e z v n xs := by
  have hl := fun k hk => (owb h (k := k) hk).2
  obtain ⟨h0, h⟩ := h
  refine ⟨h0, ?_⟩
  rcases h with ⟨rfl, hn⟩ | ⟨g, cap, cur, rfl, hb, hh, hx⟩
  · exact Or.inl ⟨rfl, hn⟩
  · exact Or.inr ⟨g, cap, cur, rfl, hb, (hg.block g (hl g rfl) (hr g rfl)).trans hh, hx⟩
theorem own_monoG {w : World} {base b' z n : Nat} {e : TypeId} {v : Value} {xs : List Value} (h : w.ownsRow base e z v n xs) (hb : b' ≤ base) : w.ownsRow b' e z v n xs := by
  obtain ⟨h0, h1 | ⟨g, cap, cur, h1, h2, h3⟩⟩ := h
  · exact ⟨h0, Or.inl h1⟩
  · exact ⟨h0, Or.inr ⟨g, cap, cur, h1, by omega, h3⟩⟩
end Go.Proofs.Ytibhcbdofadamaa
