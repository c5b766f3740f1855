/- A lattice that comes in, opened into its names and its table. -/
import Derived.Test.YtbdhbgilaeldgaaGreatP1
import Derived.ProofKit
import Derived.Deep.Grids
import Derived.Lib.SmallJoins
import Derived.Test.YtbdhbgilaeldgaaGreatP8
import Derived.Test.YtbdhbgilaeldgaaGreatP14
namespace Go.Proofs.YtbdhbgilaeldgaaGreat
open Go.ChangeShapes Go.WideShapes Go.ChangeAt Go.RowKit Go.Deep Go.Joins

theorem Tryz.own : ownKnob Tryz.prog.godebug = none := by kernel_rfl
theorem Tryz.laidOut : laidOutB Tryz.prog = true := by kernel_rfl
theorem Tryz.cellsString : Tryz.prog.cellsOf 9 = 1 := by kernel_rfl
theorem Tryz.cellsBool : Tryz.prog.cellsOf 4 = 1 := by kernel_rfl
theorem Tryz.cellsRow : Tryz.prog.cellsOf 76 = 1 := by kernel_rfl
theorem Tryz.cellsLat : Tryz.prog.cellsOf 25 = 2 := by kernel_rfl
theorem addr_plain (b off i : Nat) : (⟨b, off, none⟩ : Addr).add i = ⟨b, off + i, none⟩ := by unfold Addr.add; split <;> simp_all

section
variable {H : Type} {enc : TypeId × Value → H} {W : World} {base : Nat}

set_option maxRecDepth 100000 in
theorem open_strs {fuel : Nat} {v : Value} {x : DataW H × List MemPlace} (h : DataW.trod enc Tryz.prog W base (fun _ => true) true fuel 22 [v] = some x) :
    ∃ n : Strs, v = .slice n.ao n.len n.cap ∧ n.At W := by
  rcases open_strings Tryz.underlying22 Tryz.underlying9 Tryz.cellsString h with ⟨hcs, _⟩ | ⟨a, len, cap, ss, hcs, _, hl, hm, hz, _, hcell, hws⟩
  · exact ⟨⟨none, 0, 0, 0, 0, fun _ => ByteArray.empty⟩, by simpa using hcs, ⟨Nat.le_refl _, fun h => absurd h (Nat.lt_irrefl _), Nat.zero_le _, fun _ h => absurd h (Nat.not_lt_zero _), fun _ h => absurd h (Nat.not_lt_zero _)⟩⟩
  · have hv : v = .slice (some a) len cap := by simpa using hcs
    simp only [if_true] at hz
    unfold maxLen at hm hws
    refine ⟨⟨some a, a.block, a.off, len, cap, fun i => ss.getD i ByteArray.empty⟩, hv, ⟨hl, fun hp => ?_, Nat.le_trans hl hm, fun i hi => ?_, fun i hi => ?_⟩⟩
    · have hp' : 0 < len := hp
      have hs := World.cell?_spot (hcell 0 (by omega))
      obtain ⟨ab, ao, asp⟩ := a
      have : asp = none := by simpa [Addr.add] using hs
      subst this; rfl
    · have hi' : i < len := hi
      have hs := World.cell?_spot (hcell 0 (by omega))
      obtain ⟨ab, ao, asp⟩ := a
      have : asp = none := by simpa [Addr.add] using hs
      subst this
      have := hcell i (by omega)
      rw [addr_plain] at this
      exact this
    · have hi' : i < len := hi
      have hmem : ss.getD i ByteArray.empty ∈ ss := by
        rw [List.getD_eq_getElem?_getD, List.getElem?_eq_getElem (by omega)]
        exact List.getElem_mem _
      exact hws _ hmem

set_option maxRecDepth 100000 in
theorem open_grid {fuel : Nat} {v : Value} {x : DataW H × List MemPlace} (h : DataW.trod enc Tryz.prog W base (fun _ => true) true fuel 23 [v] = some x) :
    ∃ g : Grid, v = .slice g.ao g.len g.cap ∧ g.At W := by
  rcases open_bool_rows Tryz.underlying23 Tryz.underlying76 Tryz.underlying4 Tryz.cellsRow Tryz.cellsBool h with ⟨hcs, _⟩ | ⟨a, len, cap, A, L, C, B, hcs, _, hl, hm, _, hrows⟩
  · exact ⟨⟨none, 0, 0, 0, 0, fun _ => none, fun _ => 0, fun _ => 0, fun _ => 0, fun _ => 0, fun _ _ => false⟩, by simpa using hcs,
      ⟨Nat.le_refl _, fun h => absurd h (Nat.lt_irrefl _), Nat.zero_le _, fun _ h => absurd h (Nat.not_lt_zero _), fun _ h => absurd h (Nat.not_lt_zero _), fun _ h => absurd h (Nat.not_lt_zero _), fun _ h => absurd h (Nat.not_lt_zero _)⟩⟩
  · have hv : v = .slice (some a) len cap := by simpa using hcs
    unfold maxLen at hm
    have hadr : ∀ r, r < len → 0 < L r → A r = some ⟨((A r).getD default).block, ((A r).getD default).off, none⟩ ∧ ∀ c, c < L r → W.cell? ⟨((A r).getD default).block, ((A r).getD default).off + c, none⟩ = some (.bool (B r c)) := fun r hr hp => by
      obtain ⟨_, h1, _, h3, h4⟩ := hrows r (by omega)
      cases hA : A r with
      | none => have := h3 hA; omega
      | some a' =>
        obtain ⟨ab, ao, asp⟩ := a'
        obtain ⟨_, hcell⟩ := h4 _ hA
        have has : asp = none := by simpa [Addr.add] using World.cell?_spot (hcell 0 (by omega))
        subst has
        exact ⟨rfl, fun c hc => by have := hcell c (by omega); rwa [addr_plain] at this⟩
    have hspot : 0 < len → a = ⟨a.block, a.off, none⟩ := fun hp => by
      have hs := World.cell?_spot (hrows 0 (by omega)).1
      obtain ⟨ab, ao, asp⟩ := a
      have : asp = none := by simpa [Addr.add] using hs
      subst this; rfl
    refine ⟨⟨some a, a.block, a.off, len, cap, A, L, C, fun r => ((A r).getD default).block, fun r => ((A r).getD default).off, B⟩, hv, ⟨hl, fun hp => congrArg some (hspot hp), Nat.le_trans hl hm, fun r hr => ?_, fun r hr => ?_, fun r hr hp => (hadr r hr hp).1, fun r hr c hc => (hadr r hr (Nat.lt_of_le_of_lt (Nat.zero_le _) hc)).2 c hc⟩⟩
    · have hr' : r < len := hr
      obtain ⟨_, h1, h2, _⟩ := hrows r (by omega)
      unfold maxLen at h2
      exact Nat.le_trans h1 h2
    · have hr' : r < len := hr
      have := (hrows r (by omega)).1
      rw [hspot (by omega), addr_plain] at this
      exact this

set_option maxRecDepth 100000 in
theorem open_lat {v : Value} {d : DataW H} {p : List MemPlace} {b0 : Nat} (hv : Value.okWide Tryz.prog W .any b0 25 v) (h : DataW.Trod enc Tryz.prog W base (fun _ => true) true 25 v d p) :
    ∃ (n : Strs) (g : Grid), v = .agg #[.slice n.ao n.len n.cap, .slice g.ao g.len g.cap] ∧ n.At W ∧ g.At W := by
  obtain ⟨c0, c1, y0, y1, m, rfl, _, _, hy0, hy1⟩ := open_agg2 Tryz.underlying25 (by kernel_rfl) Tryz.cellsLat hv h
  obtain ⟨n, rfl, hn⟩ := open_strs hy0
  obtain ⟨g, rfl, hg⟩ := open_grid hy1
  exact ⟨n, g, rfl, hn, hg⟩
end
end Go.Proofs.YtbdhbgilaeldgaaGreat

/- A type that comes in, opened. -/
namespace Go.Proofs.YtbdhbgilaeldgaaGreat
open Go.ChangeShapes Go.WideShapes Go.ChangeAt Go.RowKit Go.Deep Go.Joins

theorem Tryz.cellsInt' : Tryz.prog.cellsOf 3 = 1 := by kernel_rfl
theorem Tryz.cellsTys : Tryz.prog.cellsOf 36 = 1 := by kernel_rfl
theorem Tryz.cellsTy : Tryz.prog.cellsOf 38 = 5 := by kernel_rfl

section
variable {H : Type} {enc : TypeId × Value → H} {W : World} {base : Nat}

def Ty.cs (t : Ty) : List Value := [.int .i64 t.k, .int .i64 t.l, .slice t.ao t.len t.cap, .int .i64 t.h, .int .i64 t.e]

set_option maxRecDepth 100000 in
theorem open_ty : ∀ (fuel : Nat) (cs : List Value) (x : DataW H × List MemPlace), DataW.trod enc Tryz.prog W base (fun _ => true) true fuel 38 cs = some x → ∃ t : Ty, cs = t.cs ∧ t.At W := by
  intro fuel
  induction fuel using Nat.strongRecOn with
  | _ fuel ih =>
    intro cs x h
    obtain ⟨xs, n, rfl, _, hl, hlen, hf⟩ := DataW.trod_struct Tryz.underlying38 h
    rw [Tryz.cellsTy] at hl
    match cs, hl with
    | [c0, c1, c2, c3, c4], _ =>
      have hlen5 : xs.length = 5 := hlen
      match xs, hlen5 with
      | [y0, y1, y2, y3, y4], _ =>
        have f0 : DataW.trod enc Tryz.prog W base (fun _ => true) true n 3 [c0] = some y0 := by simpa [Tryz.cellsInt'] using hf 0 _ rfl
        have f1 : DataW.trod enc Tryz.prog W base (fun _ => true) true n 3 [c1] = some y1 := by simpa [Tryz.cellsInt'] using hf 1 _ rfl
        have f2 : DataW.trod enc Tryz.prog W base (fun _ => true) true n 36 [c2] = some y2 := by simpa [Tryz.cellsTys] using hf 2 _ rfl
        have f3 : DataW.trod enc Tryz.prog W base (fun _ => true) true n 3 [c3] = some y3 := by simpa [Tryz.cellsInt'] using hf 3 _ rfl
        have f4 : DataW.trod enc Tryz.prog W base (fun _ => true) true n 3 [c4] = some y4 := by simpa [Tryz.cellsInt'] using hf 4 _ rfl
        obtain ⟨k, q0, _⟩ := DataW.trod_int Tryz.underlying3 f0
        obtain ⟨l, q1, _⟩ := DataW.trod_int Tryz.underlying3 f1
        obtain ⟨hh, q3, _⟩ := DataW.trod_int Tryz.underlying3 f3
        obtain ⟨e, q4, _⟩ := DataW.trod_int Tryz.underlying3 f4
        simp only [List.cons.injEq, and_true] at q0 q1 q3 q4
        subst q0 q1 q3 q4
        rcases DataW.trod_slice Tryz.underlying36 f2 with ⟨hcs, _⟩ | ⟨a, len, cap, elems, rest, m, hm, hcs, _, _, hlc, hmx, hel, hx, _, _⟩
        · simp only [List.cons.injEq, and_true] at hcs
          subst hcs
          exact ⟨.mk k l hh e none 0 0 0 0 (fun _ => .dm), rfl, ⟨fun h => absurd h (Nat.lt_irrefl _), Nat.zero_le _, fun _ h => absurd h (Nat.not_lt_zero _)⟩⟩
        · simp only [List.cons.injEq, and_true] at hcs
          subst hcs hm
          unfold maxLen at hmx
          have each : ∀ i, i < len → ∃ t : Ty, (∀ j, j < 5 → W.cell? (a.add (i * 5 + j)) = t.cs[j]?) ∧ t.At W := by
            intro i hi
            have h1 := hx i hi
            rw [Tryz.cellsTy] at h1
            cases hc : W.cells? base (a.add (i * 5)) 5 with
            | none => rw [hc] at h1; simp at h1; omega
            | some cs' =>
              rw [hc] at h1
              have h2 : DataW.trod enc Tryz.prog W base (fun _ => true) true m 38 cs' = some elems[i] := by
                rw [List.getElem?_eq_getElem (by omega)] at h1
                simpa using h1
              obtain ⟨t, rfl, hA⟩ := ih m (by omega) cs' _ h2
              obtain ⟨_, _, hcell⟩ := World.cells?_some hc
              exact ⟨t, fun j hj => by rw [← hcell j hj, add_add], hA⟩
          have hspot : 0 < len → a = ⟨a.block, a.off, none⟩ := fun hp => by
            obtain ⟨t, ht, _⟩ := each 0 hp
            have hs := World.cell?_spot (a := a.add (0 * 5 + 0)) (v := .int .i64 t.k) (by rw [ht 0 (by omega)]; rfl)
            obtain ⟨ab, ao, asp⟩ := a
            have : asp = none := by simpa [Addr.add] using hs
            subst this; rfl
          refine ⟨.mk k l hh e (some a) a.block a.off len cap (fun i => if h : i < len then Classical.choose (each i h) else .dm), rfl, ⟨fun hp => congrArg some (hspot hp), by omega, fun i hi => ?_⟩⟩
          simp only [dif_pos hi]
          obtain ⟨ht, hA⟩ := Classical.choose_spec (each i hi)
          generalize Classical.choose (each i hi) = t at ht hA
          have ea := hspot (by omega)
          have get : ∀ j, j < 5 → W.cell? ⟨a.block, a.off + i * 5 + j, none⟩ = t.cs[j]? := fun j hj => by
            have := ht j hj
            rw [ea, addr_plain, ← Nat.add_assoc] at this
            exact this
          exact ⟨⟨get 0 (by omega), get 1 (by omega), get 2 (by omega), get 3 (by omega), get 4 (by omega)⟩, hA⟩
set_option maxRecDepth 100000 in
theorem open_type {v : Value} {d : DataW H} {p : List MemPlace} {b0 : Nat} (hv : Value.okWide Tryz.prog W .any b0 38 v) (h : DataW.Trod enc Tryz.prog W base (fun _ => true) true 38 v d p) :
    ∃ t : Ty, v = .agg #[.int .i64 t.k, .int .i64 t.l, .slice t.ao t.len t.cap, .int .i64 t.h, .int .i64 t.e] ∧ t.At W := by
  obtain ⟨cs, rfl, _⟩ := okWide_struct Tryz.underlying38 hv
  obtain ⟨fuel, hf⟩ := h
  obtain ⟨t, ht, hA⟩ := open_ty fuel _ _ hf
  refine ⟨t, ?_, hA⟩
  have : cs.toList = t.cs := by simpa [Value.cells] using ht
  obtain ⟨l⟩ := cs
  have e : l = t.cs := this
  rw [e]; rfl

end
end Go.Proofs.YtbdhbgilaeldgaaGreat

/- Functions of slots that come in, opened. -/
namespace Go.Proofs.YtbdhbgilaeldgaaGreat
open Go.ChangeShapes Go.WideShapes Go.ChangeAt Go.RowKit Go.Deep Go.Joins

theorem Tryz.iInt : Tryz.prog.cellsOf 3 = 1 := by kernel_rfl
theorem Tryz.iInt64 : Tryz.prog.cellsOf 2 = 1 := by kernel_rfl
theorem Tryz.iInts : Tryz.prog.cellsOf 42 = 1 := by kernel_rfl
theorem Tryz.iTys : Tryz.prog.cellsOf 36 = 1 := by kernel_rfl
theorem Tryz.iNds : Tryz.prog.cellsOf 39 = 1 := by kernel_rfl
theorem Tryz.iNd : Tryz.prog.cellsOf 44 = 14 := by kernel_rfl
theorem Tryz.iFn : Tryz.prog.cellsOf 41 = 16 := by kernel_rfl
theorem Tryz.iFns : Tryz.prog.cellsOf 26 = 1 := by kernel_rfl
theorem iaddr (b off i : Nat) : (⟨b, off, none⟩ : Addr).add i = ⟨b, off + i, none⟩ := by unfold Addr.add; split <;> simp_all

section
variable {H : Type} {enc : TypeId × Value → H} {W : World} {base : Nat}

set_option maxRecDepth 100000 in
theorem itrod_fields {t : TypeId} {fuel : Nat} {cs : List Value} {x : DataW H × List MemPlace} {fs : Array Field} (ht : Tryz.prog.underlying t = some (.struct fs)) (h : DataW.trod enc Tryz.prog W base (fun _ => true) true fuel t cs = some x) :
    ∃ n, n < fuel ∧ cs.length = Tryz.prog.cellsOf t ∧ ∀ (i : Nat) (f : Field), fs[i]? = some f → ∃ y, DataW.trod enc Tryz.prog W base (fun _ => true) true n f.type ((cs.drop f.offset).take (Tryz.prog.cellsOf f.type)) = some y := by
  obtain ⟨xs, n, rfl, _, hl, hlen, hf⟩ := DataW.trod_struct ht h
  refine ⟨n, by omega, hl, fun i f hi => ?_⟩
  have hlt : i < xs.length := by rw [hlen]; exact (Array.getElem?_eq_some_iff.1 hi).1
  exact ⟨xs[i], by rw [hf i f hi, List.getElem?_eq_getElem hlt]⟩
set_option maxRecDepth 100000 in
theorem iopen_sl {S E : TypeId} {c : Nat} (hu : Tryz.prog.underlying S = some (.slice E)) (hc : Tryz.prog.cellsOf E = c) {fuel : Nat} {v : Value} {x : DataW H × List MemPlace} (h : DataW.trod enc Tryz.prog W base (fun _ => true) true fuel S [v] = some x) :
    v = .slice none 0 0 ∨ ∃ (a : Addr) (len cap : Nat), v = .slice (some a) len cap ∧ len ≤ 9223372036854775807 ∧ len ≤ cap ∧ ∀ i, i < len → ∃ m cs y, m < fuel ∧ DataW.trod enc Tryz.prog W base (fun _ => true) true m E cs = some y ∧ ∀ j, j < c → W.cell? (a.add (i * c + j)) = cs[j]? := by
  rcases DataW.trod_slice hu h with ⟨hcs, _⟩ | ⟨a, len, cap, elems, rest, m, hm, hcs, _, _, hlc, hmx, hel, hx, _, _⟩
  · exact Or.inl (by simpa using hcs)
  · refine Or.inr ⟨a, len, cap, by simpa using hcs, by unfold maxLen at hmx; omega, hlc, fun i hi => ?_⟩
    have h1 := hx i hi
    rw [hc] at h1
    cases hcc : W.cells? base (a.add (i * c)) c with
    | none => rw [hcc] at h1; simp at h1; omega
    | some cs' =>
      rw [hcc] at h1
      have h2 : DataW.trod enc Tryz.prog W base (fun _ => true) true m E cs' = some elems[i] := by
        rw [List.getElem?_eq_getElem (by omega)] at h1
        simpa using h1
      obtain ⟨_, _, hcell⟩ := World.cells?_some hcc
      exact ⟨m, cs', _, by omega, h2, fun j hj => by rw [← hcell j hj, add_add]⟩
theorem iplain {a : Addr} {v : Value} (h : W.cell? (a.add 0) = some v) : a = ⟨a.block, a.off, none⟩ := by
  have hs := World.cell?_spot h
  obtain ⟨ab, ao, asp⟩ := a
  have : asp = none := by simpa [Addr.add] using hs
  subst this; rfl
/-- Rows in a slice. -/
theorem irows {c : Nat} (hc : 0 < c) {a : Addr} {len : Nat} {F : Nat → List Value} (hl : ∀ i, (F i).length = c) (h : ∀ i, i < len → ∀ j, j < c → W.cell? (a.add (i * c + j)) = (F i)[j]?) : (0 < len → a = ⟨a.block, a.off, none⟩) ∧ ∀ i, i < len → W.rangeAt a.block (a.off + i * c) (F i) := by
  have hs : 0 < len → a = ⟨a.block, a.off, none⟩ := fun hp => by
    have h0 := h 0 hp 0 hc
    rw [Nat.zero_mul, List.getElem?_eq_getElem (by rw [hl]; exact hc)] at h0
    exact iplain h0
  refine ⟨hs, fun i hi j u hu => ?_⟩
  have hj : j < c := by rw [← hl i]; exact (List.getElem?_eq_some_iff.1 hu).1
  have := h i hi j hj
  rw [hs (by omega), iaddr, ← Nat.add_assoc] at this
  rw [← hu]
  exact this
theorem C5.of_row {w : World} {b o : Nat} {t : Ty} (h : w.rangeAt b o t.vs) : C5 w b o t := ⟨h 0 _ rfl, h 1 _ rfl, h 2 _ rfl, h 3 _ rfl, h 4 _ rfl⟩
set_option maxRecDepth 100000 in
theorem iopen_tys {fuel : Nat} {v : Value} {x : DataW H × List MemPlace} (h : DataW.trod enc Tryz.prog W base (fun _ => true) true fuel 36 [v] = some x) : ∃ t : Ty, v = .slice t.ao t.len t.cap ∧ t.At W ∧ t.len ≤ t.cap ∧ (t.ao = none → t.len = 0 ∧ t.cap = 0) := by
  rcases iopen_sl Tryz.underlying36 Tryz.cellsTy h with rfl | ⟨a, len, cap, rfl, hb, hlc, hx⟩
  · exact ⟨.mk 0 0 0 0 none 0 0 0 0 (fun _ => .dm), rfl, ⟨fun h => absurd h (Nat.lt_irrefl _), Nat.zero_le _, fun _ h => absurd h (Nat.not_lt_zero _)⟩, Nat.le_refl _, fun _ => ⟨rfl, rfl⟩⟩
  · have each : ∀ i, i < len → ∃ t : Ty, (∀ j, j < 5 → W.cell? (a.add (i * 5 + j)) = t.vs[j]?) ∧ t.At W := fun i hi => by
      obtain ⟨m, cs, y, _, h1, h2⟩ := hx i hi
      obtain ⟨t, rfl, hA⟩ := open_ty m cs y h1
      exact ⟨t, h2, hA⟩
    have R := irows (W := W) (a := a) (len := len) (c := 5) (by decide) (F := fun i => (if h : i < len then Classical.choose (each i h) else .dm).vs) (fun i => rfl) (fun i hi j hj => by
      show _ = (if h : i < len then Classical.choose (each i h) else .dm).vs[j]?
      rw [dif_pos hi]
      exact (Classical.choose_spec (each i hi)).1 j hj)
    refine ⟨.mk 0 0 0 0 (some a) a.block a.off len cap (fun i => if h : i < len then Classical.choose (each i h) else .dm), rfl, ⟨fun hp => congrArg some (R.1 hp), hb, fun i hi => ⟨C5.of_row (R.2 i hi), ?_⟩⟩, hlc, fun h => by cases h⟩
    show (if h : i < len then Classical.choose (each i h) else .dm).At W
    rw [dif_pos hi]
    exact (Classical.choose_spec (each i hi)).2
set_option maxRecDepth 100000 in
theorem iopen_ints {fuel : Nat} {v : Value} {x : DataW H × List MemPlace} (h : DataW.trod enc Tryz.prog W base (fun _ => true) true fuel 42 [v] = some x) : ∃ s : Is, v = .slice s.ao s.len s.cap ∧ s.At W := by
  rcases iopen_sl Tryz.underlying42 Tryz.iInt h with rfl | ⟨a, len, cap, rfl, hb, hlc, hx⟩
  · exact ⟨Is.nl, rfl, Is.nl_at W⟩
  · have each : ∀ i, i < len → ∃ t : Int, (∀ j, j < 1 → W.cell? (a.add (i * 1 + j)) = [Value.int .i64 t][j]?) := fun i hi => by
      obtain ⟨m, cs, y, _, h1, h2⟩ := hx i hi
      obtain ⟨k, q, _⟩ := DataW.trod_int Tryz.underlying3 h1
      subst q
      exact ⟨k, h2⟩
    have R := irows (W := W) (a := a) (len := len) (c := 1) (by decide) (F := fun i => [Value.int .i64 (if h : i < len then Classical.choose (each i h) else 0)]) (fun i => rfl) (fun i hi j hj => by
      show _ = [Value.int .i64 (if h : i < len then Classical.choose (each i h) else 0)][j]?
      rw [dif_pos hi]
      exact (Classical.choose_spec (each i hi)) j hj)
    refine ⟨⟨some a, a.block, a.off, len, cap, fun i => if h : i < len then Classical.choose (each i h) else 0⟩, rfl, ⟨fun hp => congrArg some (R.1 hp), hb, fun i hi => ?_⟩⟩
    have := R.2 i hi 0 _ rfl
    show W.cell? ⟨a.block, a.off + i, none⟩ = _
    rw [show a.off + i = a.off + i * 1 + 0 by omega]
    exact this
def noNd : Nd := .mk ⟨0, 0, 0, 0, 0, 0, .dm, Is.nl⟩ none 0 0 0 0 (fun _ => .dm) none 0 0 0 0 (fun _ => .dm)
set_option maxRecDepth 100000 in
theorem iopen_nds {fuel : Nat} (ih : ∀ m, m < fuel → ∀ (cs : List Value) (x : DataW H × List MemPlace), DataW.trod enc Tryz.prog W base (fun _ => true) true m 44 cs = some x → ∃ t : Nd, cs = t.vs ∧ t.At W) {v : Value} {x : DataW H × List MemPlace} (h : DataW.trod enc Tryz.prog W base (fun _ => true) true fuel 39 [v] = some x) : ∃ s : Ns, v = .slice s.ao s.len s.cap ∧ s.At W := by
  rcases iopen_sl Tryz.underlying39 Tryz.iNd h with rfl | ⟨a, len, cap, rfl, hb, hlc, hx⟩
  · exact ⟨Ns.nl, rfl, Ns.nl_at W⟩
  · have each : ∀ i, i < len → ∃ t : Nd, (∀ j, j < 14 → W.cell? (a.add (i * 14 + j)) = t.vs[j]?) ∧ t.At W := fun i hi => by
      obtain ⟨m, cs, y, hm, h1, h2⟩ := hx i hi
      obtain ⟨t, rfl, hA⟩ := ih m hm cs y h1
      exact ⟨t, h2, hA⟩
    have R := irows (W := W) (a := a) (len := len) (c := 14) (by decide) (F := fun i => (if h : i < len then Classical.choose (each i h) else .dm).vs) (fun i => rfl) (fun i hi j hj => by
      show _ = (if h : i < len then Classical.choose (each i h) else .dm).vs[j]?
      rw [dif_pos hi]
      exact (Classical.choose_spec (each i hi)).1 j hj)
    refine ⟨⟨some a, a.block, a.off, len, cap, fun i => if h : i < len then Classical.choose (each i h) else .dm⟩, rfl, ⟨fun hp => congrArg some (R.1 hp), hb, fun i hi => R.2 i hi, fun i hi => ?_⟩⟩
    show (if h : i < len then Classical.choose (each i h) else .dm).At W
    rw [dif_pos hi]
    exact (Classical.choose_spec (each i hi)).2
set_option maxRecDepth 100000 in
theorem iopen_nd : ∀ (fuel : Nat) (cs : List Value) (x : DataW H × List MemPlace), DataW.trod enc Tryz.prog W base (fun _ => true) true fuel 44 cs = some x → ∃ t : Nd, cs = t.vs ∧ t.At W := by
  intro fuel
  induction fuel using Nat.strongRecOn with
  | _ fuel ih =>
    intro cs x h
    obtain ⟨n, hnf, hl, hf⟩ := itrod_fields Tryz.underlying44 h
    rw [Tryz.iNd] at hl
    match cs, hl with
    | [c0, c1, c2, c3, c4, c5, c6, c7, c8, c9, c10, c11, c12, c13], _ =>
      obtain ⟨z0, g0⟩ := hf 0 _ rfl
      obtain ⟨z1, g1⟩ := hf 1 _ rfl
      obtain ⟨z2, g2⟩ := hf 2 _ rfl
      obtain ⟨z3, g3⟩ := hf 3 _ rfl
      obtain ⟨z4, g4⟩ := hf 4 _ rfl
      obtain ⟨z5, g5⟩ := hf 5 _ rfl
      obtain ⟨z6, g6⟩ := hf 6 _ rfl
      obtain ⟨z7, g7⟩ := hf 7 _ rfl
      obtain ⟨z8, g8⟩ := hf 8 _ rfl
      obtain ⟨z9, g9⟩ := hf 9 _ rfl
      have f0 : DataW.trod enc Tryz.prog W base (fun _ => true) true n 3 [c0] = some z0 := by simpa [Tryz.iInt] using g0
      have f1 : DataW.trod enc Tryz.prog W base (fun _ => true) true n 3 [c1] = some z1 := by simpa [Tryz.iInt] using g1
      have f2 : DataW.trod enc Tryz.prog W base (fun _ => true) true n 3 [c2] = some z2 := by simpa [Tryz.iInt] using g2
      have f3 : DataW.trod enc Tryz.prog W base (fun _ => true) true n 3 [c3] = some z3 := by simpa [Tryz.iInt] using g3
      have f4 : DataW.trod enc Tryz.prog W base (fun _ => true) true n 2 [c4] = some z4 := by simpa [Tryz.iInt64] using g4
      have f5 : DataW.trod enc Tryz.prog W base (fun _ => true) true n 3 [c5] = some z5 := by simpa [Tryz.iInt] using g5
      have f6 : DataW.trod enc Tryz.prog W base (fun _ => true) true n 38 [c6, c7, c8, c9, c10] = some z6 := by simpa [Tryz.cellsTy] using g6
      have f7 : DataW.trod enc Tryz.prog W base (fun _ => true) true n 42 [c11] = some z7 := by simpa [Tryz.iInts] using g7
      have f8 : DataW.trod enc Tryz.prog W base (fun _ => true) true n 39 [c12] = some z8 := by simpa [Tryz.iNds] using g8
      have f9 : DataW.trod enc Tryz.prog W base (fun _ => true) true n 39 [c13] = some z9 := by simpa [Tryz.iNds] using g9
      obtain ⟨k0, q0, _⟩ := DataW.trod_int Tryz.underlying3 f0
      obtain ⟨k1, q1, _⟩ := DataW.trod_int Tryz.underlying3 f1
      obtain ⟨k2, q2, _⟩ := DataW.trod_int Tryz.underlying3 f2
      obtain ⟨k3, q3, _⟩ := DataW.trod_int Tryz.underlying3 f3
      obtain ⟨k4, q4, _⟩ := DataW.trod_int Tryz.underlying2 f4
      obtain ⟨k5, q5, _⟩ := DataW.trod_int Tryz.underlying3 f5
      obtain ⟨t, q6, hT⟩ := open_ty _ _ _ f6
      obtain ⟨ar, rfl, hR⟩ := iopen_ints f7
      obtain ⟨bd, rfl, hB⟩ := iopen_nds (fun m hm => ih m (by omega)) f8
      obtain ⟨el, rfl, hE⟩ := iopen_nds (fun m hm => ih m (by omega)) f9
      simp only [List.cons.injEq, and_true] at q0 q1 q2 q3 q4 q5
      subst q0 q1 q2 q3 q4 q5
      simp only [Ty.cs, List.cons.injEq, and_true] at q6
      obtain ⟨rfl, rfl, rfl, rfl, rfl⟩ := q6
      exact ⟨.mk ⟨k0, k1, k2, k3, k4, k5, t, ar⟩ bd.ao bd.b bd.o bd.len bd.cap bd.ps el.ao el.b el.o el.len el.cap el.ps, rfl, ⟨hT, hR⟩, ⟨hB.nil, hB.bound, fun i hi => ⟨hB.cells i hi, hB.part i hi⟩⟩, ⟨hE.nil, hE.bound, fun i hi => ⟨hE.cells i hi, hE.part i hi⟩⟩⟩
set_option maxRecDepth 100000 in
theorem iopen_fn {fuel : Nat} {cs : List Value} {x : DataW H × List MemPlace} (h : DataW.trod enc Tryz.prog W base (fun _ => true) true fuel 41 cs = some x) : ∃ f : Fc, cs = f.vs ∧ f.At W ∧ (f.slots.ao = none → f.slots.len = 0 ∧ f.slots.cap = 0) := by
  obtain ⟨n, _, hl, hf⟩ := itrod_fields Tryz.underlying41 h
  rw [Tryz.iFn] at hl
  match cs, hl with
  | [c0, c1, c2, c3, c4, c5, c6, c7, c8, c9, c10, c11, c12, c13, c14, c15], _ =>
    obtain ⟨z0, g0⟩ := hf 0 _ rfl
    obtain ⟨z1, g1⟩ := hf 1 _ rfl
    obtain ⟨z2, g2⟩ := hf 2 _ rfl
    obtain ⟨z3, g3⟩ := hf 3 _ rfl
    obtain ⟨z4, g4⟩ := hf 4 _ rfl
    obtain ⟨z5, g5⟩ := hf 5 _ rfl
    obtain ⟨z6, g6⟩ := hf 6 _ rfl
    obtain ⟨z7, g7⟩ := hf 7 _ rfl
    have f0 : DataW.trod enc Tryz.prog W base (fun _ => true) true n 38 [c0, c1, c2, c3, c4] = some z0 := by simpa [Tryz.cellsTy] using g0
    have f1 : DataW.trod enc Tryz.prog W base (fun _ => true) true n 38 [c5, c6, c7, c8, c9] = some z1 := by simpa [Tryz.cellsTy] using g1
    have f2 : DataW.trod enc Tryz.prog W base (fun _ => true) true n 36 [c10] = some z2 := by simpa [Tryz.iTys] using g2
    have f3 : DataW.trod enc Tryz.prog W base (fun _ => true) true n 3 [c11] = some z3 := by simpa [Tryz.iInt] using g3
    have f4 : DataW.trod enc Tryz.prog W base (fun _ => true) true n 3 [c12] = some z4 := by simpa [Tryz.iInt] using g4
    have f5 : DataW.trod enc Tryz.prog W base (fun _ => true) true n 36 [c13] = some z5 := by simpa [Tryz.iTys] using g5
    have f6 : DataW.trod enc Tryz.prog W base (fun _ => true) true n 39 [c14] = some z6 := by simpa [Tryz.iNds] using g6
    have f7 : DataW.trod enc Tryz.prog W base (fun _ => true) true n 3 [c15] = some z7 := by simpa [Tryz.iInt] using g7
    obtain ⟨p, hp, hpA⟩ := open_ty _ _ _ f0
    obtain ⟨r, hr, hrA⟩ := open_ty _ _ _ f1
    obtain ⟨c, rfl, hcA, _⟩ := iopen_tys f2
    obtain ⟨hh, q3, _⟩ := DataW.trod_int Tryz.underlying3 f3
    obtain ⟨ee, q4, _⟩ := DataW.trod_int Tryz.underlying3 f4
    obtain ⟨sl, rfl, hsA, hlc, hno⟩ := iopen_tys f5
    obtain ⟨bd, rfl, hB⟩ := iopen_nds (fun m _ => iopen_nd m) f6
    obtain ⟨ou, q7, _⟩ := DataW.trod_int Tryz.underlying3 f7
    simp only [List.cons.injEq, and_true] at q3 q4 q7
    subst q3 q4 q7
    simp only [Ty.cs, List.cons.injEq, and_true] at hp hr
    obtain ⟨rfl, rfl, rfl, rfl, rfl⟩ := hp
    obtain ⟨rfl, rfl, rfl, rfl, rfl⟩ := hr
    exact ⟨⟨p, r, c, hh, ee, sl, bd, ou⟩, rfl, ⟨hpA, hrA, hcA, hsA, hB, hlc⟩, hno⟩
def noFc : Fc := ⟨.dm, .dm, .dm, 0, 0, .dm, Ns.nl, 0⟩
set_option maxRecDepth 100000 in
theorem iopen_fns {v : Value} {d : DataW H} {p : List MemPlace} {b0 : Nat} (hv : Value.okWide Tryz.prog W .any b0 26 v) (h : DataW.Trod enc Tryz.prog W base (fun _ => true) true 26 v d p) :
    ∃ s : Fl, v = .slice s.ao s.len s.cap ∧ s.At W ∧ (s.ao = none → s.len = 0 ∧ s.cap = 0) ∧ ∀ i, i < s.len → ((s.ps i).slots.ao = none → (s.ps i).slots.len = 0 ∧ (s.ps i).slots.cap = 0) := by
  obtain ⟨fuel, hf⟩ := h
  obtain ⟨ao, len, cap, rfl, _⟩ := okWide_slice Tryz.underlying26 hv
  have hf' : DataW.trod enc Tryz.prog W base (fun _ => true) true fuel 26 [.slice ao len cap] = some (d, p) := by simpa [Value.cells] using hf
  rcases iopen_sl Tryz.underlying26 Tryz.iFn hf' with e | ⟨a, len', cap', e, hb, hlc, hx⟩
  · exact ⟨⟨none, 0, 0, 0, 0, fun _ => noFc⟩, e, ⟨fun h => absurd h (Nat.lt_irrefl _), Nat.zero_le _, fun _ h => absurd h (Nat.not_lt_zero _), fun _ h => absurd h (Nat.not_lt_zero _)⟩, fun _ => ⟨rfl, rfl⟩, fun _ h => absurd h (Nat.not_lt_zero _)⟩
  · rw [e]
    have each : ∀ i, i < len' → ∃ t : Fc, (∀ j, j < 16 → W.cell? (a.add (i * 16 + j)) = t.vs[j]?) ∧ t.At W ∧ (t.slots.ao = none → t.slots.len = 0 ∧ t.slots.cap = 0) := fun i hi => by
      obtain ⟨m, cs, y, _, h1, h2⟩ := hx i hi
      obtain ⟨t, rfl, hA, hno⟩ := iopen_fn h1
      exact ⟨t, h2, hA, hno⟩
    have R := irows (W := W) (a := a) (len := len') (c := 16) (by decide) (F := fun i => (if h : i < len' then Classical.choose (each i h) else noFc).vs) (fun i => rfl) (fun i hi j hj => by
      show _ = (if h : i < len' then Classical.choose (each i h) else noFc).vs[j]?
      rw [dif_pos hi]
      exact (Classical.choose_spec (each i hi)).1 j hj)
    refine ⟨⟨some a, a.block, a.off, len', cap', fun i => if h : i < len' then Classical.choose (each i h) else noFc⟩, rfl, ⟨fun hp => congrArg some (R.1 hp), hb, fun i hi => R.2 i hi, fun i hi => ?_⟩, (fun h => by cases h), fun i hi => ?_⟩
    · show (if h : i < len' then Classical.choose (each i h) else noFc).At W
      rw [dif_pos hi]
      exact (Classical.choose_spec (each i hi)).2.1
    · show (if h : i < len' then Classical.choose (each i h) else noFc).slots.ao = none → (if h : i < len' then Classical.choose (each i h) else noFc).slots.len = 0 ∧ (if h : i < len' then Classical.choose (each i h) else noFc).slots.cap = 0
      have hi' : i < len' := hi
      rw [dif_pos hi']
      exact (Classical.choose_spec (each i hi')).2.2
end
end Go.Proofs.YtbdhbgilaeldgaaGreat

/- Functions that come in, opened: with the room of their lists. -/
namespace Go.Proofs.YtbdhbgilaeldgaaGreat
open Go.ChangeShapes Go.WideShapes Go.ChangeAt Go.RowKit Go.Deep Go.Joins

section
variable {H : Type} {enc : TypeId × Value → H} {W : World} {base : Nat}
theorem slc {fuel : Nat} {ao : Option Addr} {len cap : Nat} {x : DataW H × List MemPlace} (h : DataW.trod enc Tryz.prog W base (fun _ => true) true fuel 39 [.slice ao len cap] = some x) : len ≤ cap := by
  rcases iopen_sl Tryz.underlying39 Tryz.iNd h with e | ⟨a, len', cap', e, _, hlc, _⟩
  · injection e with _ e1 e2
    omega
  · injection e with _ e1 e2
    omega
theorem wf_u8B {n : Int} (h : (Lit.int .u8 n).wf = true) : 0 ≤ n ∧ n < 256 := by
  have h' : IntKind.u8.min ≤ n ∧ n ≤ IntKind.u8.max := by simpa [Lit.wf] using h
  have e1 : IntKind.u8.min = 0 := by decide
  have e2 : IntKind.u8.max = 255 := by decide
  omega
set_option maxRecDepth 100000 in
theorem iopen_u8 {v : Value} {d : DataW H} {p : List MemPlace} {b0 : Nat} (hv : Value.okWide Tryz.prog W .any b0 5 v) (h : DataW.Trod enc Tryz.prog W base (fun _ => true) true 5 v d p) : ∃ m : Nat, v = .int .u8 m ∧ m < 256 := by
  obtain ⟨fuel, hf⟩ := h
  obtain ⟨k, rfl⟩ := okWide_int Tryz.underlying5 hv
  have hf' : DataW.trod enc Tryz.prog W base (fun _ => true) true fuel 5 [.int .u8 k] = some (d, p) := by simpa [Value.cells] using hf
  obtain ⟨k', q, _, wk⟩ := DataW.trod_int Tryz.underlying5 hf'
  have e : k = k' := by simpa using q
  subst e
  have := wf_u8B wk
  exact ⟨k.toNat, by rw [Int.toNat_of_nonneg this.1], by omega⟩
set_option maxRecDepth 100000 in
theorem iopen_fnB {fuel : Nat} {cs : List Value} {x : DataW H × List MemPlace} (h : DataW.trod enc Tryz.prog W base (fun _ => true) true fuel 41 cs = some x) : ∃ f : Fc, cs = f.vs ∧ f.At W ∧ f.body.len ≤ f.body.cap := by
  obtain ⟨n, _, hl, hf⟩ := itrod_fields Tryz.underlying41 h
  rw [Tryz.iFn] at hl
  match cs, hl with
  | [c0, c1, c2, c3, c4, c5, c6, c7, c8, c9, c10, c11, c12, c13, c14, c15], _ =>
    obtain ⟨z0, g0⟩ := hf 0 _ rfl
    obtain ⟨z1, g1⟩ := hf 1 _ rfl
    obtain ⟨z2, g2⟩ := hf 2 _ rfl
    obtain ⟨z3, g3⟩ := hf 3 _ rfl
    obtain ⟨z4, g4⟩ := hf 4 _ rfl
    obtain ⟨z5, g5⟩ := hf 5 _ rfl
    obtain ⟨z6, g6⟩ := hf 6 _ rfl
    obtain ⟨z7, g7⟩ := hf 7 _ rfl
    have f0 : DataW.trod enc Tryz.prog W base (fun _ => true) true n 38 [c0, c1, c2, c3, c4] = some z0 := by simpa [Tryz.cellsTy] using g0
    have f1 : DataW.trod enc Tryz.prog W base (fun _ => true) true n 38 [c5, c6, c7, c8, c9] = some z1 := by simpa [Tryz.cellsTy] using g1
    have f2 : DataW.trod enc Tryz.prog W base (fun _ => true) true n 36 [c10] = some z2 := by simpa [Tryz.iTys] using g2
    have f3 : DataW.trod enc Tryz.prog W base (fun _ => true) true n 3 [c11] = some z3 := by simpa [Tryz.iInt] using g3
    have f4 : DataW.trod enc Tryz.prog W base (fun _ => true) true n 3 [c12] = some z4 := by simpa [Tryz.iInt] using g4
    have f5 : DataW.trod enc Tryz.prog W base (fun _ => true) true n 36 [c13] = some z5 := by simpa [Tryz.iTys] using g5
    have f6 : DataW.trod enc Tryz.prog W base (fun _ => true) true n 39 [c14] = some z6 := by simpa [Tryz.iNds] using g6
    have f7 : DataW.trod enc Tryz.prog W base (fun _ => true) true n 3 [c15] = some z7 := by simpa [Tryz.iInt] using g7
    obtain ⟨p, hp, hpA⟩ := open_ty _ _ _ f0
    obtain ⟨r, hr, hrA⟩ := open_ty _ _ _ f1
    obtain ⟨c, rfl, hcA, _⟩ := iopen_tys f2
    obtain ⟨hh, q3, _⟩ := DataW.trod_int Tryz.underlying3 f3
    obtain ⟨ee, q4, _⟩ := DataW.trod_int Tryz.underlying3 f4
    obtain ⟨sl, rfl, hsA, hlc, _⟩ := iopen_tys f5
    obtain ⟨bd, rfl, hB⟩ := iopen_nds (fun m _ => iopen_nd m) f6
    have hbc := slc f6
    obtain ⟨ou, q7, _⟩ := DataW.trod_int Tryz.underlying3 f7
    simp only [List.cons.injEq, and_true] at q3 q4 q7
    subst q3 q4 q7
    simp only [Ty.cs, List.cons.injEq, and_true] at hp hr
    obtain ⟨rfl, rfl, rfl, rfl, rfl⟩ := hp
    obtain ⟨rfl, rfl, rfl, rfl, rfl⟩ := hr
    exact ⟨⟨p, r, c, hh, ee, sl, bd, ou⟩, rfl, ⟨hpA, hrA, hcA, hsA, hB, hlc⟩, hbc⟩
set_option maxRecDepth 100000 in
theorem iopen_fnsB {v : Value} {d : DataW H} {p : List MemPlace} {b0 : Nat} (hv : Value.okWide Tryz.prog W .any b0 26 v) (h : DataW.Trod enc Tryz.prog W base (fun _ => true) true 26 v d p) :
    ∃ s : Fl, v = .slice s.ao s.len s.cap ∧ s.At W ∧ s.len ≤ s.cap ∧ ∀ i, i < s.len → (s.ps i).body.len ≤ (s.ps i).body.cap := by
  obtain ⟨fuel, hf⟩ := h
  obtain ⟨ao, len, cap, rfl, _⟩ := okWide_slice Tryz.underlying26 hv
  have hf' : DataW.trod enc Tryz.prog W base (fun _ => true) true fuel 26 [.slice ao len cap] = some (d, p) := by simpa [Value.cells] using hf
  rcases iopen_sl Tryz.underlying26 Tryz.iFn hf' with e | ⟨a, len', cap', e, hb, hlc, hx⟩
  · exact ⟨⟨none, 0, 0, 0, 0, fun _ => noFc⟩, e, ⟨fun h => absurd h (Nat.lt_irrefl _), Nat.zero_le _, fun _ h => absurd h (Nat.not_lt_zero _), fun _ h => absurd h (Nat.not_lt_zero _)⟩, Nat.le_refl _, fun _ h => absurd h (Nat.not_lt_zero _)⟩
  · rw [e]
    have each : ∀ i, i < len' → ∃ t : Fc, (∀ j, j < 16 → W.cell? (a.add (i * 16 + j)) = t.vs[j]?) ∧ t.At W ∧ t.body.len ≤ t.body.cap := fun i hi => by
      obtain ⟨m, cs, y, _, h1, h2⟩ := hx i hi
      obtain ⟨t, rfl, hA, hno⟩ := iopen_fnB h1
      exact ⟨t, h2, hA, hno⟩
    have R := irows (W := W) (a := a) (len := len') (c := 16) (by decide) (F := fun i => (if h : i < len' then Classical.choose (each i h) else noFc).vs) (fun i => rfl) (fun i hi j hj => by
      show _ = (if h : i < len' then Classical.choose (each i h) else noFc).vs[j]?
      rw [dif_pos hi]
      exact (Classical.choose_spec (each i hi)).1 j hj)
    refine ⟨⟨some a, a.block, a.off, len', cap', fun i => if h : i < len' then Classical.choose (each i h) else noFc⟩, rfl, ⟨fun hp => congrArg some (R.1 hp), hb, fun i hi => R.2 i hi, fun i hi => ?_⟩, hlc, fun i hi => ?_⟩
    · show (if h : i < len' then Classical.choose (each i h) else noFc).At W
      rw [dif_pos hi]
      exact (Classical.choose_spec (each i hi)).2.1
    · show (if h : i < len' then Classical.choose (each i h) else noFc).body.len ≤ (if h : i < len' then Classical.choose (each i h) else noFc).body.cap
      have hi' : i < len' := hi
      rw [dif_pos hi']
      exact (Classical.choose_spec (each i hi')).2.2
end
end Go.Proofs.YtbdhbgilaeldgaaGreat
