/- A lattice that comes in, opened into its names and its table. -/
import Derived.Test.YtmkncmmegjfipaaGreatDoorP1
import Derived.ProofKit
import Derived.Deep.Grids
import Derived.Lib.SmallJoins
import Derived.Test.YtmkncmmegjfipaaGreatDoorP7
import Derived.Test.YtmkncmmegjfipaaGreatDoorP10
namespace Go.Proofs.YtmkncmmegjfipaaGreatDoor
open Go.ChangeShapes Go.WideShapes Go.ChangeAt Go.RowKit Go.Deep Go.Joins

theorem Tryz.own : ownKnob Tryz.prog.godebug = none := by kernel_rfl
theorem Tryz.laidOut : laidOutB Tryz.prog = true := by kernel_rfl
theorem Tryz.cellsString : Tryz.prog.cellsOf 9 = 1 := by kernel_rfl
theorem Tryz.cellsBool : Tryz.prog.cellsOf 4 = 1 := by kernel_rfl
theorem Tryz.cellsRow : Tryz.prog.cellsOf 99 = 1 := by kernel_rfl
theorem Tryz.cellsLat : Tryz.prog.cellsOf 25 = 2 := by kernel_rfl
theorem addr_plain (b off i : Nat) : (⟨b, off, none⟩ : Addr).add i = ⟨b, off + i, none⟩ := by unfold Addr.add; split <;> simp_all

section
variable {H : Type} {enc : TypeId × Value → H} {W : World} {base : Nat}

set_option maxRecDepth 100000 in
theorem open_strs {fuel : Nat} {v : Value} {x : DataW H × List MemPlace} (h : DataW.trod enc Tryz.prog W base (fun _ => true) true fuel 22 [v] = some x) :
    ∃ n : Strs, v = .slice n.ao n.len n.cap ∧ n.At W := by
  rcases open_strings Tryz.underlying22 Tryz.underlying9 Tryz.cellsString h with ⟨hcs, _⟩ | ⟨a, len, cap, ss, hcs, _, hl, hm, hz, _, hcell, hws⟩
  · exact ⟨⟨none, 0, 0, 0, 0, fun _ => ByteArray.empty⟩, by simpa using hcs, ⟨Nat.le_refl _, fun h => absurd h (Nat.lt_irrefl _), Nat.zero_le _, fun _ h => absurd h (Nat.not_lt_zero _), fun _ h => absurd h (Nat.not_lt_zero _)⟩⟩
  · have hv : v = .slice (some a) len cap := by simpa using hcs
    simp only [if_true] at hz
    unfold maxLen at hm hws
    refine ⟨⟨some a, a.block, a.off, len, cap, fun i => ss.getD i ByteArray.empty⟩, hv, ⟨hl, fun hp => ?_, Nat.le_trans hl hm, fun i hi => ?_, fun i hi => ?_⟩⟩
    · have hp' : 0 < len := hp
      have hs := World.cell?_spot (hcell 0 (by omega))
      obtain ⟨ab, ao, asp⟩ := a
      have : asp = none := by simpa [Addr.add] using hs
      subst this; rfl
    · have hi' : i < len := hi
      have hs := World.cell?_spot (hcell 0 (by omega))
      obtain ⟨ab, ao, asp⟩ := a
      have : asp = none := by simpa [Addr.add] using hs
      subst this
      have := hcell i (by omega)
      rw [addr_plain] at this
      exact this
    · have hi' : i < len := hi
      have hmem : ss.getD i ByteArray.empty ∈ ss := by
        rw [List.getD_eq_getElem?_getD, List.getElem?_eq_getElem (by omega)]
        exact List.getElem_mem _
      exact hws _ hmem

set_option maxRecDepth 100000 in
theorem open_grid {fuel : Nat} {v : Value} {x : DataW H × List MemPlace} (h : DataW.trod enc Tryz.prog W base (fun _ => true) true fuel 23 [v] = some x) :
    ∃ g : Grid, v = .slice g.ao g.len g.cap ∧ g.At W := by
  rcases open_bool_rows Tryz.underlying23 Tryz.underlying99 Tryz.underlying4 Tryz.cellsRow Tryz.cellsBool h with ⟨hcs, _⟩ | ⟨a, len, cap, A, L, C, B, hcs, _, hl, hm, _, hrows⟩
  · exact ⟨⟨none, 0, 0, 0, 0, fun _ => none, fun _ => 0, fun _ => 0, fun _ => 0, fun _ => 0, fun _ _ => false⟩, by simpa using hcs,
      ⟨Nat.le_refl _, fun h => absurd h (Nat.lt_irrefl _), Nat.zero_le _, fun _ h => absurd h (Nat.not_lt_zero _), fun _ h => absurd h (Nat.not_lt_zero _), fun _ h => absurd h (Nat.not_lt_zero _), fun _ h => absurd h (Nat.not_lt_zero _)⟩⟩
  · have hv : v = .slice (some a) len cap := by simpa using hcs
    unfold maxLen at hm
    have hadr : ∀ r, r < len → 0 < L r → A r = some ⟨((A r).getD default).block, ((A r).getD default).off, none⟩ ∧ ∀ c, c < L r → W.cell? ⟨((A r).getD default).block, ((A r).getD default).off + c, none⟩ = some (.bool (B r c)) := fun r hr hp => by
      obtain ⟨_, h1, _, h3, h4⟩ := hrows r (by omega)
      cases hA : A r with
      | none => have := h3 hA; omega
      | some a' =>
        obtain ⟨ab, ao, asp⟩ := a'
        obtain ⟨_, hcell⟩ := h4 _ hA
        have has : asp = none := by simpa [Addr.add] using World.cell?_spot (hcell 0 (by omega))
        subst has
        exact ⟨rfl, fun c hc => by have := hcell c (by omega); rwa [addr_plain] at this⟩
    have hspot : 0 < len → a = ⟨a.block, a.off, none⟩ := fun hp => by
      have hs := World.cell?_spot (hrows 0 (by omega)).1
      obtain ⟨ab, ao, asp⟩ := a
      have : asp = none := by simpa [Addr.add] using hs
      subst this; rfl
    refine ⟨⟨some a, a.block, a.off, len, cap, A, L, C, fun r => ((A r).getD default).block, fun r => ((A r).getD default).off, B⟩, hv, ⟨hl, fun hp => congrArg some (hspot hp), Nat.le_trans hl hm, fun r hr => ?_, fun r hr => ?_, fun r hr hp => (hadr r hr hp).1, fun r hr c hc => (hadr r hr (Nat.lt_of_le_of_lt (Nat.zero_le _) hc)).2 c hc⟩⟩
    · have hr' : r < len := hr
      obtain ⟨_, h1, h2, _⟩ := hrows r (by omega)
      unfold maxLen at h2
      exact Nat.le_trans h1 h2
    · have hr' : r < len := hr
      have := (hrows r (by omega)).1
      rw [hspot (by omega), addr_plain] at this
      exact this

set_option maxRecDepth 100000 in
theorem open_lat {v : Value} {d : DataW H} {p : List MemPlace} {b0 : Nat} (hv : Value.okWide Tryz.prog W .any b0 25 v) (h : DataW.Trod enc Tryz.prog W base (fun _ => true) true 25 v d p) :
    ∃ (n : Strs) (g : Grid), v = .agg #[.slice n.ao n.len n.cap, .slice g.ao g.len g.cap] ∧ n.At W ∧ g.At W := by
  obtain ⟨c0, c1, y0, y1, m, rfl, _, _, hy0, hy1⟩ := open_agg2 Tryz.underlying25 (by kernel_rfl) Tryz.cellsLat hv h
  obtain ⟨n, rfl, hn⟩ := open_strs hy0
  obtain ⟨g, rfl, hg⟩ := open_grid hy1
  exact ⟨n, g, rfl, hn, hg⟩
end
end Go.Proofs.YtmkncmmegjfipaaGreatDoor

/- A type that comes in, opened. -/
namespace Go.Proofs.YtmkncmmegjfipaaGreatDoor
open Go.ChangeShapes Go.WideShapes Go.ChangeAt Go.RowKit Go.Deep Go.Joins

theorem Tryz.cellsInt' : Tryz.prog.cellsOf 3 = 1 := by kernel_rfl
theorem Tryz.cellsTys : Tryz.prog.cellsOf 51 = 1 := by kernel_rfl
theorem Tryz.cellsTy : Tryz.prog.cellsOf 53 = 5 := by kernel_rfl

section
variable {H : Type} {enc : TypeId × Value → H} {W : World} {base : Nat}

def Ty.cs (t : Ty) : List Value := [.int .i64 t.k, .int .i64 t.l, .slice t.ao t.len t.cap, .int .i64 t.h, .int .i64 t.e]

set_option maxRecDepth 100000 in
theorem open_ty : ∀ (fuel : Nat) (cs : List Value) (x : DataW H × List MemPlace), DataW.trod enc Tryz.prog W base (fun _ => true) true fuel 53 cs = some x → ∃ t : Ty, cs = t.cs ∧ t.At W := by
  intro fuel
  induction fuel using Nat.strongRecOn with
  | _ fuel ih =>
    intro cs x h
    obtain ⟨xs, n, rfl, _, hl, hlen, hf⟩ := DataW.trod_struct Tryz.underlying53 h
    rw [Tryz.cellsTy] at hl
    match cs, hl with
    | [c0, c1, c2, c3, c4], _ =>
      have hlen5 : xs.length = 5 := hlen
      match xs, hlen5 with
      | [y0, y1, y2, y3, y4], _ =>
        have f0 : DataW.trod enc Tryz.prog W base (fun _ => true) true n 3 [c0] = some y0 := by simpa [Tryz.cellsInt'] using hf 0 _ rfl
        have f1 : DataW.trod enc Tryz.prog W base (fun _ => true) true n 3 [c1] = some y1 := by simpa [Tryz.cellsInt'] using hf 1 _ rfl
        have f2 : DataW.trod enc Tryz.prog W base (fun _ => true) true n 51 [c2] = some y2 := by simpa [Tryz.cellsTys] using hf 2 _ rfl
        have f3 : DataW.trod enc Tryz.prog W base (fun _ => true) true n 3 [c3] = some y3 := by simpa [Tryz.cellsInt'] using hf 3 _ rfl
        have f4 : DataW.trod enc Tryz.prog W base (fun _ => true) true n 3 [c4] = some y4 := by simpa [Tryz.cellsInt'] using hf 4 _ rfl
        obtain ⟨k, q0, _⟩ := DataW.trod_int Tryz.underlying3 f0
        obtain ⟨l, q1, _⟩ := DataW.trod_int Tryz.underlying3 f1
        obtain ⟨hh, q3, _⟩ := DataW.trod_int Tryz.underlying3 f3
        obtain ⟨e, q4, _⟩ := DataW.trod_int Tryz.underlying3 f4
        simp only [List.cons.injEq, and_true] at q0 q1 q3 q4
        subst q0 q1 q3 q4
        rcases DataW.trod_slice Tryz.underlying51 f2 with ⟨hcs, _⟩ | ⟨a, len, cap, elems, rest, m, hm, hcs, _, _, hlc, hmx, hel, hx, _, _⟩
        · simp only [List.cons.injEq, and_true] at hcs
          subst hcs
          exact ⟨.mk k l hh e none 0 0 0 0 (fun _ => .dm), rfl, ⟨fun h => absurd h (Nat.lt_irrefl _), Nat.zero_le _, fun _ h => absurd h (Nat.not_lt_zero _)⟩⟩
        · simp only [List.cons.injEq, and_true] at hcs
          subst hcs hm
          unfold maxLen at hmx
          have each : ∀ i, i < len → ∃ t : Ty, (∀ j, j < 5 → W.cell? (a.add (i * 5 + j)) = t.cs[j]?) ∧ t.At W := by
            intro i hi
            have h1 := hx i hi
            rw [Tryz.cellsTy] at h1
            cases hc : W.cells? base (a.add (i * 5)) 5 with
            | none => rw [hc] at h1; simp at h1; omega
            | some cs' =>
              rw [hc] at h1
              have h2 : DataW.trod enc Tryz.prog W base (fun _ => true) true m 53 cs' = some elems[i] := by
                rw [List.getElem?_eq_getElem (by omega)] at h1
                simpa using h1
              obtain ⟨t, rfl, hA⟩ := ih m (by omega) cs' _ h2
              obtain ⟨_, _, hcell⟩ := World.cells?_some hc
              exact ⟨t, fun j hj => by rw [← hcell j hj, add_add], hA⟩
          have hspot : 0 < len → a = ⟨a.block, a.off, none⟩ := fun hp => by
            obtain ⟨t, ht, _⟩ := each 0 hp
            have hs := World.cell?_spot (a := a.add (0 * 5 + 0)) (v := .int .i64 t.k) (by rw [ht 0 (by omega)]; rfl)
            obtain ⟨ab, ao, asp⟩ := a
            have : asp = none := by simpa [Addr.add] using hs
            subst this; rfl
          refine ⟨.mk k l hh e (some a) a.block a.off len cap (fun i => if h : i < len then Classical.choose (each i h) else .dm), rfl, ⟨fun hp => congrArg some (hspot hp), by omega, fun i hi => ?_⟩⟩
          simp only [dif_pos hi]
          obtain ⟨ht, hA⟩ := Classical.choose_spec (each i hi)
          generalize Classical.choose (each i hi) = t at ht hA
          have ea := hspot (by omega)
          have get : ∀ j, j < 5 → W.cell? ⟨a.block, a.off + i * 5 + j, none⟩ = t.cs[j]? := fun j hj => by
            have := ht j hj
            rw [ea, addr_plain, ← Nat.add_assoc] at this
            exact this
          exact ⟨⟨get 0 (by omega), get 1 (by omega), get 2 (by omega), get 3 (by omega), get 4 (by omega)⟩, hA⟩
set_option maxRecDepth 100000 in
theorem open_type {v : Value} {d : DataW H} {p : List MemPlace} {b0 : Nat} (hv : Value.okWide Tryz.prog W .any b0 53 v) (h : DataW.Trod enc Tryz.prog W base (fun _ => true) true 53 v d p) :
    ∃ t : Ty, v = .agg #[.int .i64 t.k, .int .i64 t.l, .slice t.ao t.len t.cap, .int .i64 t.h, .int .i64 t.e] ∧ t.At W := by
  obtain ⟨cs, rfl, _⟩ := okWide_struct Tryz.underlying53 hv
  obtain ⟨fuel, hf⟩ := h
  obtain ⟨t, ht, hA⟩ := open_ty fuel _ _ hf
  refine ⟨t, ?_, hA⟩
  have : cs.toList = t.cs := by simpa [Value.cells] using ht
  obtain ⟨l⟩ := cs
  have e : l = t.cs := this
  rw [e]; rfl

end
end Go.Proofs.YtmkncmmegjfipaaGreatDoor

/- A class that comes in, opened; a function, a region. -/
namespace Go.Proofs.YtmkncmmegjfipaaGreatDoor
open Go.ChangeShapes Go.WideShapes Go.ChangeAt Go.RowKit Go.Deep Go.Joins

theorem Tryz.kFn : Tryz.prog.cellsOf 66 = 18 := by kernel_rfl
theorem Tryz.kIn : Tryz.prog.cellsOf 60 = 7 := by kernel_rfl
theorem Tryz.kHn : Tryz.prog.cellsOf 68 = 3 := by kernel_rfl
theorem Tryz.kPt : Tryz.prog.cellsOf 107 = 3 := by kernel_rfl
theorem Tryz.kRn : Tryz.prog.cellsOf 110 = 3 := by kernel_rfl
theorem Tryz.kKl : Tryz.prog.cellsOf 28 = 3 := by kernel_rfl
theorem Tryz.kFns : Tryz.prog.cellsOf 26 = 1 := by kernel_rfl
theorem Tryz.kIns : Tryz.prog.cellsOf 61 = 1 := by kernel_rfl
theorem Tryz.kHan : Tryz.prog.cellsOf 62 = 1 := by kernel_rfl
theorem Tryz.kPts : Tryz.prog.cellsOf 63 = 1 := by kernel_rfl
theorem Tryz.kRgs : Tryz.prog.cellsOf 64 = 1 := by kernel_rfl
theorem Tryz.kInts : Tryz.prog.cellsOf 108 = 1 := by kernel_rfl
theorem Tryz.kI64 : Tryz.prog.cellsOf 2 = 1 := by kernel_rfl
theorem Tryz.kStrs : Tryz.prog.cellsOf 22 = 1 := by kernel_rfl
theorem Tryz.kRows : Tryz.prog.cellsOf 23 = 1 := by kernel_rfl
theorem i64_wf {n : Int} (h : (Lit.int .i64 n).wf = true) : I64 n := by
  have h' : IntKind.i64.min ≤ n ∧ n ≤ IntKind.i64.max := by simpa [Lit.wf] using h
  have e1 : IntKind.i64.min = -9223372036854775808 := by decide
  have e2 : IntKind.i64.max = 9223372036854775807 := by decide
  rw [e1, e2] at h'
  exact h'

section
variable {H : Type} {enc : TypeId × Value → H} {W : World} {base : Nat}

set_option maxRecDepth 100000 in
theorem kfields {t : TypeId} {fuel : Nat} {cs : List Value} {x : DataW H × List MemPlace} {fs : Array Field} (ht : Tryz.prog.underlying t = some (.struct fs)) (h : DataW.trod enc Tryz.prog W base (fun _ => true) true fuel t cs = some x) :
    ∃ n, cs.length = Tryz.prog.cellsOf t ∧ ∀ (i : Nat) (f : Field), fs[i]? = some f → ∃ y, DataW.trod enc Tryz.prog W base (fun _ => true) true n f.type ((cs.drop f.offset).take (Tryz.prog.cellsOf f.type)) = some y := by
  obtain ⟨xs, n, _, _, hl, hlen, hf⟩ := DataW.trod_struct ht h
  refine ⟨n, hl, fun i f hi => ?_⟩
  have hlt : i < xs.length := by rw [hlen]; exact (Array.getElem?_eq_some_iff.1 hi).1
  exact ⟨xs[i], by rw [hf i f hi, List.getElem?_eq_getElem hlt]⟩
set_option maxRecDepth 100000 in
theorem kslice {S E : TypeId} {c : Nat} (hu : Tryz.prog.underlying S = some (.slice E)) (hc : Tryz.prog.cellsOf E = c) {fuel : Nat} {v : Value} {x : DataW H × List MemPlace} (h : DataW.trod enc Tryz.prog W base (fun _ => true) true fuel S [v] = some x) :
    v = .slice none 0 0 ∨ ∃ (a : Addr) (len cap : Nat), v = .slice (some a) len cap ∧ len ≤ 9223372036854775807 ∧ ∀ i, i < len → ∃ m cs y, DataW.trod enc Tryz.prog W base (fun _ => true) true m E cs = some y ∧ ∀ j, j < c → W.cell? (a.add (i * c + j)) = cs[j]? := by
  rcases DataW.trod_slice hu h with ⟨hcs, _⟩ | ⟨a, len, cap, elems, rest, m, hm, hcs, _, _, hlc, hmx, hel, hx, _, _⟩
  · exact Or.inl (by simpa using hcs)
  · refine Or.inr ⟨a, len, cap, by simpa using hcs, by unfold maxLen at hmx; omega, fun i hi => ?_⟩
    have h1 := hx i hi
    rw [hc] at h1
    cases hcc : W.cells? base (a.add (i * c)) c with
    | none => rw [hcc] at h1; simp at h1; omega
    | some cs' =>
      rw [hcc] at h1
      have h2 : DataW.trod enc Tryz.prog W base (fun _ => true) true m E cs' = some elems[i] := by
        rw [List.getElem?_eq_getElem (by omega)] at h1
        simpa using h1
      obtain ⟨_, _, hcell⟩ := World.cells?_some hcc
      exact ⟨m, cs', _, h2, fun j hj => by rw [← hcell j hj, add_add]⟩
theorem kplain {a : Addr} {v : Value} (h : W.cell? (a.add 0) = some v) : a = ⟨a.block, a.off, none⟩ := by
  have hs := World.cell?_spot h
  obtain ⟨ab, ao, asp⟩ := a
  have : asp = none := by simpa [Addr.add] using hs
  subst this; rfl
/-- A slice of whatever, opened. -/
theorem kopen {α : Type} {S E : TypeId} {c : Nat} (hu : Tryz.prog.underlying S = some (.slice E)) (hc : Tryz.prog.cellsOf E = c) (hpos : 0 < c) (vs : α → List Value) (A : World → α → Prop) (d0 : α) (hl : ∀ x, (vs x).length = c)
    (ho : ∀ (fuel : Nat) (cs : List Value) (x : DataW H × List MemPlace), DataW.trod enc Tryz.prog W base (fun _ => true) true fuel E cs = some x → ∃ a, cs = vs a ∧ A W a) {fuel : Nat} {v : Value} {x : DataW H × List MemPlace} (h : DataW.trod enc Tryz.prog W base (fun _ => true) true fuel S [v] = some x) :
    ∃ r : Rw α, v = .slice r.ao r.len r.cap ∧ Rw.At c vs A W r := by
  rcases kslice hu hc h with rfl | ⟨a, len, cap, rfl, hb, hx⟩
  · exact ⟨⟨none, 0, 0, 0, 0, fun _ => d0⟩, rfl, ⟨fun h => absurd h (Nat.lt_irrefl _), Nat.zero_le _, fun _ h => absurd h (Nat.not_lt_zero _), fun _ h => absurd h (Nat.not_lt_zero _)⟩⟩
  · have each : ∀ i, i < len → ∃ t : α, (∀ j, j < c → W.cell? (a.add (i * c + j)) = (vs t)[j]?) ∧ A W t := fun i hi => by
      obtain ⟨m, cs, y, h1, h2⟩ := hx i hi
      obtain ⟨t, rfl, hA⟩ := ho m cs y h1
      exact ⟨t, h2, hA⟩
    have hspot : 0 < len → a = ⟨a.block, a.off, none⟩ := fun hp => by
      obtain ⟨t, ht, _⟩ := each 0 hp
      have e := ht 0 hpos
      rw [Nat.zero_mul, Nat.zero_add, List.getElem?_eq_getElem (by rw [hl]; exact hpos)] at e
      exact kplain e
    refine ⟨⟨some a, a.block, a.off, len, cap, fun i => if h : i < len then Classical.choose (each i h) else d0⟩, rfl, ⟨fun hp => congrArg some (hspot hp), hb, fun i hi => ?_, fun i hi => ?_⟩⟩
    · have hi' : i < len := hi
      simp only [dif_pos hi']
      obtain ⟨ht, hA⟩ := Classical.choose_spec (each i hi')
      generalize Classical.choose (each i hi') = t at ht hA
      have ea := hspot (by omega)
      intro j v hv
      have hj : j < c := by rw [← hl t]; exact (List.getElem?_eq_some_iff.1 hv).1
      have := ht j hj
      rw [ea, addr_plain, ← Nat.add_assoc, hv] at this
      exact this
    · have hi' : i < len := hi
      simp only [dif_pos hi']
      exact (Classical.choose_spec (each i hi')).2
theorem kopen_tys {fuel : Nat} {v : Value} {x : DataW H × List MemPlace} (h : DataW.trod enc Tryz.prog W base (fun _ => true) true fuel 51 [v] = some x) : ∃ t : Ty, v = .slice t.ao t.len t.cap ∧ t.At W := by
  obtain ⟨r, rfl, hr⟩ := kopen Tryz.underlying51 Tryz.cellsTy (by decide) Ty.vs (fun w t => t.At w) .dm (fun _ => rfl) (fun fuel cs x h => open_ty fuel cs x h) h
  refine ⟨.mk 0 0 0 0 r.ao r.b r.o r.len r.cap r.x, rfl, ⟨hr.nil, hr.bound, fun i hi => ⟨?_, hr.each i hi⟩⟩⟩
  have g := hr.row i hi
  exact ⟨by have := g 0 _ rfl; simpa using this, g 1 _ rfl, g 2 _ rfl, g 3 _ rfl, g 4 _ rfl⟩
set_option maxRecDepth 100000 in
theorem kopen_in (fuel : Nat) (cs : List Value) (x : DataW H × List MemPlace) (h : DataW.trod enc Tryz.prog W base (fun _ => true) true fuel 60 cs = some x) : ∃ i : In, cs = i.vs ∧ i.At W := by
  obtain ⟨n, hl, hf⟩ := kfields Tryz.underlying60 h
  rw [Tryz.kIn] at hl
  match cs, hl with
  | [c0, c1, c2, c3, c4, c5, c6], _ =>
    obtain ⟨z0, g0⟩ := hf 0 _ rfl
    obtain ⟨z1, g1⟩ := hf 1 _ rfl
    obtain ⟨z2, g2⟩ := hf 2 _ rfl
    have f0 : DataW.trod enc Tryz.prog W base (fun _ => true) true n 3 [c0] = some z0 := by simpa [Tryz.cellsInt'] using g0
    have f1 : DataW.trod enc Tryz.prog W base (fun _ => true) true n 2 [c1] = some z1 := by simpa [Tryz.kI64] using g1
    have f2 : DataW.trod enc Tryz.prog W base (fun _ => true) true n 53 [c2, c3, c4, c5, c6] = some z2 := by simpa [Tryz.cellsTy] using g2
    obtain ⟨op, q0, _, w0⟩ := DataW.trod_int Tryz.underlying3 f0
    obtain ⟨a, q1, _, w1⟩ := DataW.trod_int Tryz.underlying2 f1
    obtain ⟨t, hp, hpA⟩ := open_ty _ _ _ f2
    simp only [List.cons.injEq, and_true] at q0 q1
    subst q0 q1
    simp only [Ty.cs, List.cons.injEq, and_true] at hp
    obtain ⟨rfl, rfl, rfl, rfl, rfl⟩ := hp
    exact ⟨⟨op, a, t⟩, rfl, ⟨i64_wf w0, i64_wf w1, hpA⟩⟩
set_option maxRecDepth 100000 in
theorem kopen_hn (fuel : Nat) (cs : List Value) (x : DataW H × List MemPlace) (h : DataW.trod enc Tryz.prog W base (fun _ => true) true fuel 68 cs = some x) : ∃ i : Hn, cs = i.vs ∧ i.At := by
  obtain ⟨n, hl, hf⟩ := kfields Tryz.underlying68 h
  rw [Tryz.kHn] at hl
  match cs, hl with
  | [c0, c1, c2], _ =>
    obtain ⟨z0, g0⟩ := hf 0 _ rfl
    obtain ⟨z1, g1⟩ := hf 1 _ rfl
    obtain ⟨z2, g2⟩ := hf 2 _ rfl
    have f0 : DataW.trod enc Tryz.prog W base (fun _ => true) true n 3 [c0] = some z0 := by simpa [Tryz.cellsInt'] using g0
    have f1 : DataW.trod enc Tryz.prog W base (fun _ => true) true n 3 [c1] = some z1 := by simpa [Tryz.cellsInt'] using g1
    have f2 : DataW.trod enc Tryz.prog W base (fun _ => true) true n 3 [c2] = some z2 := by simpa [Tryz.cellsInt'] using g2
    obtain ⟨a, q0, _, w0⟩ := DataW.trod_int Tryz.underlying3 f0
    obtain ⟨b, q1, _, w1⟩ := DataW.trod_int Tryz.underlying3 f1
    obtain ⟨c, q2, _, w2⟩ := DataW.trod_int Tryz.underlying3 f2
    simp only [List.cons.injEq, and_true] at q0 q1 q2
    subst q0 q1 q2
    exact ⟨⟨a, b, c⟩, rfl, ⟨i64_wf w0, i64_wf w1, i64_wf w2⟩⟩
set_option maxRecDepth 100000 in
theorem kopen_pt (fuel : Nat) (cs : List Value) (x : DataW H × List MemPlace) (h : DataW.trod enc Tryz.prog W base (fun _ => true) true fuel 107 cs = some x) : ∃ i : Pt, cs = i.vs ∧ i.At W := by
  obtain ⟨n, hl, hf⟩ := kfields Tryz.underlying107 h
  rw [Tryz.kPt] at hl
  match cs, hl with
  | [c0, c1, c2], _ =>
    obtain ⟨z0, g0⟩ := hf 0 _ rfl
    obtain ⟨z1, g1⟩ := hf 1 _ rfl
    obtain ⟨z2, g2⟩ := hf 2 _ rfl
    have f0 : DataW.trod enc Tryz.prog W base (fun _ => true) true n 51 [c0] = some z0 := by simpa [Tryz.cellsTys] using g0
    have f1 : DataW.trod enc Tryz.prog W base (fun _ => true) true n 51 [c1] = some z1 := by simpa [Tryz.cellsTys] using g1
    have f2 : DataW.trod enc Tryz.prog W base (fun _ => true) true n 3 [c2] = some z2 := by simpa [Tryz.cellsInt'] using g2
    obtain ⟨a, rfl, hA⟩ := kopen_tys f0
    obtain ⟨b, rfl, hB⟩ := kopen_tys f1
    obtain ⟨c, q2, _, w2⟩ := DataW.trod_int Tryz.underlying3 f2
    simp only [List.cons.injEq, and_true] at q2
    subst q2
    exact ⟨⟨a, b, c⟩, rfl, ⟨hA, hB, i64_wf w2⟩⟩
theorem kopen_num (fuel : Nat) (cs : List Value) (x : DataW H × List MemPlace) (h : DataW.trod enc Tryz.prog W base (fun _ => true) true fuel 3 cs = some x) : ∃ a : Int, cs = numV a ∧ I64 a := by
  obtain ⟨a, q0, _, w0⟩ := DataW.trod_int Tryz.underlying3 h
  exact ⟨a, q0, i64_wf w0⟩
set_option maxRecDepth 100000 in
theorem kopen_rn (fuel : Nat) (cs : List Value) (x : DataW H × List MemPlace) (h : DataW.trod enc Tryz.prog W base (fun _ => true) true fuel 110 cs = some x) : ∃ i : Rn, cs = i.vs ∧ i.At W := by
  obtain ⟨n, hl, hf⟩ := kfields Tryz.underlying110 h
  rw [Tryz.kRn] at hl
  match cs, hl with
  | [c0, c1, c2], _ =>
    obtain ⟨z0, g0⟩ := hf 0 _ rfl
    obtain ⟨z1, g1⟩ := hf 1 _ rfl
    obtain ⟨z2, g2⟩ := hf 2 _ rfl
    have f0 : DataW.trod enc Tryz.prog W base (fun _ => true) true n 3 [c0] = some z0 := by simpa [Tryz.cellsInt'] using g0
    have f1 : DataW.trod enc Tryz.prog W base (fun _ => true) true n 3 [c1] = some z1 := by simpa [Tryz.cellsInt'] using g1
    have f2 : DataW.trod enc Tryz.prog W base (fun _ => true) true n 108 [c2] = some z2 := by simpa [Tryz.kInts] using g2
    obtain ⟨a, q0, _, w0⟩ := DataW.trod_int Tryz.underlying3 f0
    obtain ⟨b, q1, _, w1⟩ := DataW.trod_int Tryz.underlying3 f1
    obtain ⟨r, rfl, hr⟩ := kopen Tryz.underlying108 Tryz.cellsInt' (by decide) numV (fun _ a => I64 a) 0 (fun _ => rfl) kopen_num f2
    simp only [List.cons.injEq, and_true] at q0 q1
    subst q0 q1
    exact ⟨⟨a, b, r⟩, rfl, ⟨i64_wf w0, i64_wf w1, hr⟩⟩
set_option maxRecDepth 100000 in
theorem kopen_cf (fuel : Nat) (cs : List Value) (x : DataW H × List MemPlace) (h : DataW.trod enc Tryz.prog W base (fun _ => true) true fuel 66 cs = some x) : ∃ f : Cf, cs = f.vs ∧ f.At W := by
  obtain ⟨n, hl, hf⟩ := kfields Tryz.underlying66 h
  rw [Tryz.kFn] at hl
  match cs, hl with
  | [c0, c1, c2, c3, c4, c5, c6, c7, c8, c9, c10, c11, c12, c13, c14, c15, c16, c17], _ =>
    obtain ⟨z0, g0⟩ := hf 0 _ rfl
    obtain ⟨z1, g1⟩ := hf 1 _ rfl
    obtain ⟨z2, g2⟩ := hf 2 _ rfl
    obtain ⟨z3, g3⟩ := hf 3 _ rfl
    obtain ⟨z4, g4⟩ := hf 4 _ rfl
    obtain ⟨z5, g5⟩ := hf 5 _ rfl
    obtain ⟨z6, g6⟩ := hf 6 _ rfl
    obtain ⟨z7, g7⟩ := hf 7 _ rfl
    obtain ⟨z8, g8⟩ := hf 8 _ rfl
    obtain ⟨z9, g9⟩ := hf 9 _ rfl
    have f0 : DataW.trod enc Tryz.prog W base (fun _ => true) true n 53 [c0, c1, c2, c3, c4] = some z0 := by simpa [Tryz.cellsTy] using g0
    have f1 : DataW.trod enc Tryz.prog W base (fun _ => true) true n 53 [c5, c6, c7, c8, c9] = some z1 := by simpa [Tryz.cellsTy] using g1
    have f2 : DataW.trod enc Tryz.prog W base (fun _ => true) true n 51 [c10] = some z2 := by simpa [Tryz.cellsTys] using g2
    have f3 : DataW.trod enc Tryz.prog W base (fun _ => true) true n 3 [c11] = some z3 := by simpa [Tryz.cellsInt'] using g3
    have f4 : DataW.trod enc Tryz.prog W base (fun _ => true) true n 3 [c12] = some z4 := by simpa [Tryz.cellsInt'] using g4
    have f5 : DataW.trod enc Tryz.prog W base (fun _ => true) true n 3 [c13] = some z5 := by simpa [Tryz.cellsInt'] using g5
    have f6 : DataW.trod enc Tryz.prog W base (fun _ => true) true n 61 [c14] = some z6 := by simpa [Tryz.kIns] using g6
    have f7 : DataW.trod enc Tryz.prog W base (fun _ => true) true n 62 [c15] = some z7 := by simpa [Tryz.kHan] using g7
    have f8 : DataW.trod enc Tryz.prog W base (fun _ => true) true n 63 [c16] = some z8 := by simpa [Tryz.kPts] using g8
    have f9 : DataW.trod enc Tryz.prog W base (fun _ => true) true n 64 [c17] = some z9 := by simpa [Tryz.kRgs] using g9
    obtain ⟨p, hp, hpA⟩ := open_ty _ _ _ f0
    obtain ⟨r, hr, hrA⟩ := open_ty _ _ _ f1
    obtain ⟨c, rfl, hcA⟩ := kopen_tys f2
    obtain ⟨hh, q3, _, w3⟩ := DataW.trod_int Tryz.underlying3 f3
    obtain ⟨ee, q4, _, w4⟩ := DataW.trod_int Tryz.underlying3 f4
    obtain ⟨sl, q5, _, w5⟩ := DataW.trod_int Tryz.underlying3 f5
    obtain ⟨s6, rfl, k6⟩ := kopen Tryz.underlying61 Tryz.kIn (by decide) In.vs In.At ⟨0, 0, .dm⟩ (fun _ => rfl) kopen_in f6
    obtain ⟨s7, rfl, k7⟩ := kopen Tryz.underlying62 Tryz.kHn (by decide) Hn.vs (fun _ h => h.At) ⟨0, 0, 0⟩ (fun _ => rfl) kopen_hn f7
    obtain ⟨s8, rfl, k8⟩ := kopen Tryz.underlying63 Tryz.kPt (by decide) Pt.vs Pt.At ⟨.dm, .dm, 0⟩ (fun _ => rfl) kopen_pt f8
    obtain ⟨s9, rfl, k9⟩ := kopen Tryz.underlying64 Tryz.kRn (by decide) Rn.vs Rn.At ⟨0, 0, ⟨none, 0, 0, 0, 0, fun _ => 0⟩⟩ (fun _ => rfl) kopen_rn f9
    simp only [List.cons.injEq, and_true] at q3 q4 q5
    subst q3 q4 q5
    simp only [Ty.cs, List.cons.injEq, and_true] at hp hr
    obtain ⟨rfl, rfl, rfl, rfl, rfl⟩ := hp
    obtain ⟨rfl, rfl, rfl, rfl, rfl⟩ := hr
    exact ⟨⟨p, r, c, hh, ee, sl, s6, s7, s8, s9⟩, rfl, ⟨hpA, hrA, hcA, i64_wf w3, i64_wf w4, i64_wf w5, k6, k7, k8, k9⟩⟩
def noCf : Cf := ⟨.dm, .dm, .dm, 0, 0, 0, ⟨none, 0, 0, 0, 0, fun _ => ⟨0, 0, .dm⟩⟩, ⟨none, 0, 0, 0, 0, fun _ => ⟨0, 0, 0⟩⟩, ⟨none, 0, 0, 0, 0, fun _ => ⟨.dm, .dm, 0⟩⟩, ⟨none, 0, 0, 0, 0, fun _ => ⟨0, 0, ⟨none, 0, 0, 0, 0, fun _ => 0⟩⟩⟩⟩
theorem kopen_cfs {fuel : Nat} {v : Value} {x : DataW H × List MemPlace} (h : DataW.trod enc Tryz.prog W base (fun _ => true) true fuel 26 [v] = some x) : ∃ r : Rw Cf, v = .slice r.ao r.len r.cap ∧ CfsAt W r :=
  kopen Tryz.underlying26 Tryz.kFn (by decide) Cf.vs Cf.At noCf (fun _ => rfl) kopen_cf h
set_option maxRecDepth 100000 in
theorem kopen_kl (fuel : Nat) (cs : List Value) (x : DataW H × List MemPlace) (h : DataW.trod enc Tryz.prog W base (fun _ => true) true fuel 28 cs = some x) : ∃ c : Kl, cs = c.vs ∧ c.At W := by
  obtain ⟨n, hl, hf⟩ := kfields Tryz.underlying28 h
  rw [Tryz.kKl] at hl
  match cs, hl with
  | [c0, c1, c2], _ =>
    obtain ⟨z0, g0⟩ := hf 0 _ rfl
    obtain ⟨z1, g1⟩ := hf 1 _ rfl
    have f0 : DataW.trod enc Tryz.prog W base (fun _ => true) true n 25 [c0, c1] = some z0 := by simpa [Tryz.cellsLat] using g0
    have f1 : DataW.trod enc Tryz.prog W base (fun _ => true) true n 26 [c2] = some z1 := by simpa [Tryz.kFns] using g1
    obtain ⟨m, _, hg⟩ := kfields Tryz.underlying25 f0
    obtain ⟨y0, k0⟩ := hg 0 _ rfl
    obtain ⟨y1, k1⟩ := hg 1 _ rfl
    have e0 : DataW.trod enc Tryz.prog W base (fun _ => true) true m 22 [c0] = some y0 := by simpa [Tryz.kStrs] using k0
    have e1 : DataW.trod enc Tryz.prog W base (fun _ => true) true m 23 [c1] = some y1 := by simpa [Tryz.kRows] using k1
    obtain ⟨ns, rfl, hn⟩ := open_strs e0
    obtain ⟨g, rfl, hgg⟩ := open_grid e1
    obtain ⟨r, rfl, hr⟩ := kopen_cfs f1
    exact ⟨⟨ns, g, r⟩, rfl, ⟨hn, hgg, hr⟩⟩
set_option maxRecDepth 100000 in
theorem open_class {v : Value} {d : DataW H} {p : List MemPlace} {b0 : Nat} (hv : Value.okWide Tryz.prog W .any b0 28 v) (h : DataW.Trod enc Tryz.prog W base (fun _ => true) true 28 v d p) :
    ∃ c : Kl, v = .agg #[.slice c.n.ao c.n.len c.n.cap, .slice c.g.ao c.g.len c.g.cap, .slice c.fs.ao c.fs.len c.fs.cap] ∧ c.At W := by
  obtain ⟨cs, rfl, _⟩ := okWide_struct Tryz.underlying28 hv
  obtain ⟨fuel, hf⟩ := h
  obtain ⟨c, hc, hA⟩ := kopen_kl fuel _ _ hf
  refine ⟨c, ?_, hA⟩
  have : cs.toList = c.vs := by simpa [Value.cells] using hc
  obtain ⟨l⟩ := cs
  have e : l = c.vs := this
  rw [e]; rfl
set_option maxRecDepth 100000 in
theorem open_func {v : Value} {d : DataW H} {p : List MemPlace} {b0 : Nat} (hv : Value.okWide Tryz.prog W .any b0 66 v) (h : DataW.Trod enc Tryz.prog W base (fun _ => true) true 66 v d p) :
    ∃ f : Cf, v = .agg f.vs.toArray ∧ f.At W := by
  obtain ⟨cs, rfl, _⟩ := okWide_struct Tryz.underlying66 hv
  obtain ⟨fuel, hf⟩ := h
  obtain ⟨c, hc, hA⟩ := kopen_cf fuel _ _ hf
  refine ⟨c, ?_, hA⟩
  have : cs.toList = c.vs := by simpa [Value.cells] using hc
  obtain ⟨l⟩ := cs
  have e : l = c.vs := this
  rw [e]
set_option maxRecDepth 100000 in
theorem open_region {v : Value} {d : DataW H} {p : List MemPlace} {b0 : Nat} (hv : Value.okWide Tryz.prog W .any b0 110 v) (h : DataW.Trod enc Tryz.prog W base (fun _ => true) true 110 v d p) :
    ∃ r : Rn, v = .agg r.vs.toArray ∧ r.At W := by
  obtain ⟨cs, rfl, _⟩ := okWide_struct Tryz.underlying110 hv
  obtain ⟨fuel, hf⟩ := h
  obtain ⟨c, hc, hA⟩ := kopen_rn fuel _ _ hf
  refine ⟨c, ?_, hA⟩
  have : cs.toList = c.vs := by simpa [Value.cells] using hc
  obtain ⟨l⟩ := cs
  have e : l = c.vs := this
  rw [e]
end
end Go.Proofs.YtmkncmmegjfipaaGreatDoor
