/- A lattice that comes in, opened into its names and its table. -/
import Derived.Test.YtlknlnhbmamcbaaP1
import Derived.ProofKit
import Derived.Deep.Grids
import Derived.Lib.SmallJoins
import Derived.Test.YtlknlnhbmamcbaaP8
namespace Go.Proofs.Ytlknlnhbmamcbaa
open Go.ChangeShapes Go.WideShapes Go.ChangeAt Go.RowKit Go.Deep Go.Joins

theorem Try.own : ownKnob Try.prog.godebug = none := by kernel_rfl
theorem Try.laidOut : laidOutB Try.prog = true := by kernel_rfl
theorem Try.cellsString : Try.prog.cellsOf 9 = 1 := by kernel_rfl
theorem Try.cellsBool : Try.prog.cellsOf 4 = 1 := by kernel_rfl
theorem Try.cellsRow : Try.prog.cellsOf 54 = 1 := by kernel_rfl
theorem Try.cellsLat : Try.prog.cellsOf 25 = 2 := by kernel_rfl
theorem addr_plain (b off i : Nat) : (⟨b, off, none⟩ : Addr).add i = ⟨b, off + i, none⟩ := by unfold Addr.add; split <;> simp_all

section
variable {H : Type} {enc : TypeId × Value → H} {W : World} {base : Nat}

theorem open_strs {fuel : Nat} {v : Value} {x : DataW H × List MemPlace} (h : DataW.trod enc Try.prog W base (fun _ => true) true fuel 22 [v] = some x) :
    ∃ n : Strs, v = .slice n.ao n.len n.cap ∧ n.At W := by
  rcases open_strings Try.underlying22 Try.underlying9 Try.cellsString h with ⟨hcs, _⟩ | ⟨a, len, cap, ss, hcs, _, hl, hm, hz, _, hcell, hws⟩
  · exact ⟨⟨none, 0, 0, 0, 0, fun _ => ByteArray.empty⟩, by simpa using hcs, ⟨Nat.le_refl _, fun h => absurd h (Nat.lt_irrefl _), Nat.zero_le _, fun _ h => absurd h (Nat.not_lt_zero _), fun _ h => absurd h (Nat.not_lt_zero _)⟩⟩
  · have hv : v = .slice (some a) len cap := by simpa using hcs
    simp only [if_true] at hz
    unfold maxLen at hm hws
    refine ⟨⟨some a, a.block, a.off, len, cap, fun i => ss.getD i ByteArray.empty⟩, hv, ⟨hl, fun hp => ?_, Nat.le_trans hl hm, fun i hi => ?_, fun i hi => ?_⟩⟩
    · have hp' : 0 < len := hp
      have hs := World.cell?_spot (hcell 0 (by omega))
      obtain ⟨ab, ao, asp⟩ := a
      have : asp = none := by simpa [Addr.add] using hs
      subst this; rfl
    · have hi' : i < len := hi
      have hs := World.cell?_spot (hcell 0 (by omega))
      obtain ⟨ab, ao, asp⟩ := a
      have : asp = none := by simpa [Addr.add] using hs
      subst this
      have := hcell i (by omega)
      rw [addr_plain] at this
      exact this
    · have hi' : i < len := hi
      have hmem : ss.getD i ByteArray.empty ∈ ss := by
        rw [List.getD_eq_getElem?_getD, List.getElem?_eq_getElem (by omega)]
        exact List.getElem_mem _
      exact hws _ hmem

theorem open_grid {fuel : Nat} {v : Value} {x : DataW H × List MemPlace} (h : DataW.trod enc Try.prog W base (fun _ => true) true fuel 23 [v] = some x) :
    ∃ g : Grid, v = .slice g.ao g.len g.cap ∧ g.At W := by
  rcases open_bool_rows Try.underlying23 Try.underlying54 Try.underlying4 Try.cellsRow Try.cellsBool h with ⟨hcs, _⟩ | ⟨a, len, cap, A, L, C, B, hcs, _, hl, hm, _, hrows⟩
  · exact ⟨⟨none, 0, 0, 0, 0, fun _ => none, fun _ => 0, fun _ => 0, fun _ => 0, fun _ => 0, fun _ _ => false⟩, by simpa using hcs,
      ⟨Nat.le_refl _, fun h => absurd h (Nat.lt_irrefl _), Nat.zero_le _, fun _ h => absurd h (Nat.not_lt_zero _), fun _ h => absurd h (Nat.not_lt_zero _), fun _ h => absurd h (Nat.not_lt_zero _), fun _ h => absurd h (Nat.not_lt_zero _)⟩⟩
  · have hv : v = .slice (some a) len cap := by simpa using hcs
    unfold maxLen at hm
    have hadr : ∀ r, r < len → 0 < L r → A r = some ⟨((A r).getD default).block, ((A r).getD default).off, none⟩ ∧ ∀ c, c < L r → W.cell? ⟨((A r).getD default).block, ((A r).getD default).off + c, none⟩ = some (.bool (B r c)) := fun r hr hp => by
      obtain ⟨_, h1, _, h3, h4⟩ := hrows r (by omega)
      cases hA : A r with
      | none => have := h3 hA; omega
      | some a' =>
        obtain ⟨ab, ao, asp⟩ := a'
        obtain ⟨_, hcell⟩ := h4 _ hA
        have has : asp = none := by simpa [Addr.add] using World.cell?_spot (hcell 0 (by omega))
        subst has
        exact ⟨rfl, fun c hc => by have := hcell c (by omega); rwa [addr_plain] at this⟩
    have hspot : 0 < len → a = ⟨a.block, a.off, none⟩ := fun hp => by
      have hs := World.cell?_spot (hrows 0 (by omega)).1
      obtain ⟨ab, ao, asp⟩ := a
      have : asp = none := by simpa [Addr.add] using hs
      subst this; rfl
    refine ⟨⟨some a, a.block, a.off, len, cap, A, L, C, fun r => ((A r).getD default).block, fun r => ((A r).getD default).off, B⟩, hv, ⟨hl, fun hp => congrArg some (hspot hp), Nat.le_trans hl hm, fun r hr => ?_, fun r hr => ?_, fun r hr hp => (hadr r hr hp).1, fun r hr c hc => (hadr r hr (Nat.lt_of_le_of_lt (Nat.zero_le _) hc)).2 c hc⟩⟩
    · have hr' : r < len := hr
      obtain ⟨_, h1, h2, _⟩ := hrows r (by omega)
      unfold maxLen at h2
      exact Nat.le_trans h1 h2
    · have hr' : r < len := hr
      have := (hrows r (by omega)).1
      rw [hspot (by omega), addr_plain] at this
      exact this

theorem open_lat {v : Value} {d : DataW H} {p : List MemPlace} {b0 : Nat} (hv : Value.okWide Try.prog W .any b0 25 v) (h : DataW.Trod enc Try.prog W base (fun _ => true) true 25 v d p) :
    ∃ (n : Strs) (g : Grid), v = .agg #[.slice n.ao n.len n.cap, .slice g.ao g.len g.cap] ∧ n.At W ∧ g.At W := by
  obtain ⟨c0, c1, y0, y1, m, rfl, _, _, hy0, hy1⟩ := open_agg2 Try.underlying25 (by kernel_rfl) Try.cellsLat hv h
  obtain ⟨n, rfl, hn⟩ := open_strs hy0
  obtain ⟨g, rfl, hg⟩ := open_grid hy1
  exact ⟨n, g, rfl, hn, hg⟩
end
end Go.Proofs.Ytlknlnhbmamcbaa

/- A type that comes in, opened. -/
namespace Go.Proofs.Ytlknlnhbmamcbaa
open Go.ChangeShapes Go.WideShapes Go.ChangeAt Go.RowKit Go.Deep Go.Joins

theorem Try.cellsInt' : Try.prog.cellsOf 3 = 1 := by kernel_rfl
theorem Try.cellsTys : Try.prog.cellsOf 26 = 1 := by kernel_rfl
theorem Try.cellsTy : Try.prog.cellsOf 28 = 5 := by kernel_rfl

section
variable {H : Type} {enc : TypeId × Value → H} {W : World} {base : Nat}

def Ty.cs (t : Ty) : List Value := [.int .i64 t.k, .int .i64 t.l, .slice t.ao t.len t.cap, .int .i64 t.h, .int .i64 t.e]

theorem open_ty : ∀ (fuel : Nat) (cs : List Value) (x : DataW H × List MemPlace), DataW.trod enc Try.prog W base (fun _ => true) true fuel 28 cs = some x → ∃ t : Ty, cs = t.cs ∧ t.At W := by
  intro fuel
  induction fuel using Nat.strongRecOn with
  | _ fuel ih =>
    intro cs x h
    obtain ⟨xs, n, rfl, _, hl, hlen, hf⟩ := DataW.trod_struct Try.underlying28 h
    rw [Try.cellsTy] at hl
    match cs, hl with
    | [c0, c1, c2, c3, c4], _ =>
      have hlen5 : xs.length = 5 := hlen
      match xs, hlen5 with
      | [y0, y1, y2, y3, y4], _ =>
        have f0 : DataW.trod enc Try.prog W base (fun _ => true) true n 3 [c0] = some y0 := by simpa [Try.cellsInt'] using hf 0 _ rfl
        have f1 : DataW.trod enc Try.prog W base (fun _ => true) true n 3 [c1] = some y1 := by simpa [Try.cellsInt'] using hf 1 _ rfl
        have f2 : DataW.trod enc Try.prog W base (fun _ => true) true n 26 [c2] = some y2 := by simpa [Try.cellsTys] using hf 2 _ rfl
        have f3 : DataW.trod enc Try.prog W base (fun _ => true) true n 3 [c3] = some y3 := by simpa [Try.cellsInt'] using hf 3 _ rfl
        have f4 : DataW.trod enc Try.prog W base (fun _ => true) true n 3 [c4] = some y4 := by simpa [Try.cellsInt'] using hf 4 _ rfl
        obtain ⟨k, q0, _⟩ := DataW.trod_int Try.underlying3 f0
        obtain ⟨l, q1, _⟩ := DataW.trod_int Try.underlying3 f1
        obtain ⟨hh, q3, _⟩ := DataW.trod_int Try.underlying3 f3
        obtain ⟨e, q4, _⟩ := DataW.trod_int Try.underlying3 f4
        simp only [List.cons.injEq, and_true] at q0 q1 q3 q4
        subst q0 q1 q3 q4
        rcases DataW.trod_slice Try.underlying26 f2 with ⟨hcs, _⟩ | ⟨a, len, cap, elems, rest, m, hm, hcs, _, _, hlc, hmx, hel, hx, _, _⟩
        · simp only [List.cons.injEq, and_true] at hcs
          subst hcs
          exact ⟨.mk k l hh e none 0 0 0 0 (fun _ => .dm), rfl, ⟨fun h => absurd h (Nat.lt_irrefl _), Nat.zero_le _, fun _ h => absurd h (Nat.not_lt_zero _)⟩⟩
        · simp only [List.cons.injEq, and_true] at hcs
          subst hcs hm
          unfold maxLen at hmx
          have each : ∀ i, i < len → ∃ t : Ty, (∀ j, j < 5 → W.cell? (a.add (i * 5 + j)) = t.cs[j]?) ∧ t.At W := by
            intro i hi
            have h1 := hx i hi
            rw [Try.cellsTy] at h1
            cases hc : W.cells? base (a.add (i * 5)) 5 with
            | none => rw [hc] at h1; simp at h1; omega
            | some cs' =>
              rw [hc] at h1
              have h2 : DataW.trod enc Try.prog W base (fun _ => true) true m 28 cs' = some elems[i] := by
                rw [List.getElem?_eq_getElem (by omega)] at h1
                simpa using h1
              obtain ⟨t, rfl, hA⟩ := ih m (by omega) cs' _ h2
              obtain ⟨_, _, hcell⟩ := World.cells?_some hc
              exact ⟨t, fun j hj => by rw [← hcell j hj, add_add], hA⟩
          have hspot : 0 < len → a = ⟨a.block, a.off, none⟩ := fun hp => by
            obtain ⟨t, ht, _⟩ := each 0 hp
            have hs := World.cell?_spot (a := a.add (0 * 5 + 0)) (v := .int .i64 t.k) (by rw [ht 0 (by omega)]; rfl)
            obtain ⟨ab, ao, asp⟩ := a
            have : asp = none := by simpa [Addr.add] using hs
            subst this; rfl
          refine ⟨.mk k l hh e (some a) a.block a.off len cap (fun i => if h : i < len then Classical.choose (each i h) else .dm), rfl, ⟨fun hp => congrArg some (hspot hp), by omega, fun i hi => ?_⟩⟩
          simp only [dif_pos hi]
          obtain ⟨ht, hA⟩ := Classical.choose_spec (each i hi)
          generalize Classical.choose (each i hi) = t at ht hA
          have ea := hspot (by omega)
          have get : ∀ j, j < 5 → W.cell? ⟨a.block, a.off + i * 5 + j, none⟩ = t.cs[j]? := fun j hj => by
            have := ht j hj
            rw [ea, addr_plain, ← Nat.add_assoc] at this
            exact this
          exact ⟨⟨get 0 (by omega), get 1 (by omega), get 2 (by omega), get 3 (by omega), get 4 (by omega)⟩, hA⟩
theorem open_type {v : Value} {d : DataW H} {p : List MemPlace} {b0 : Nat} (hv : Value.okWide Try.prog W .any b0 28 v) (h : DataW.Trod enc Try.prog W base (fun _ => true) true 28 v d p) :
    ∃ t : Ty, v = .agg #[.int .i64 t.k, .int .i64 t.l, .slice t.ao t.len t.cap, .int .i64 t.h, .int .i64 t.e] ∧ t.At W := by
  obtain ⟨cs, rfl, _⟩ := okWide_struct Try.underlying28 hv
  obtain ⟨fuel, hf⟩ := h
  obtain ⟨t, ht, hA⟩ := open_ty fuel _ _ hf
  refine ⟨t, ?_, hA⟩
  have : cs.toList = t.cs := by simpa [Value.cells] using ht
  obtain ⟨l⟩ := cs
  have e : l = t.cs := this
  rw [e]; rfl

theorem Try.cellsTy3 : Try.prog.cellsOf 39 = 15 := by kernel_rfl
theorem open_ty3 {v : Value} {d : DataW H} {p : List MemPlace} {b0 : Nat} (hv : Value.okWide Try.prog W .any b0 39 v) (h : DataW.Trod enc Try.prog W base (fun _ => true) true 39 v d p) :
    ∃ sp : Nat → Ty, v = .agg #[.int .i64 (sp 0).k, .int .i64 (sp 0).l, .slice (sp 0).ao (sp 0).len (sp 0).cap, .int .i64 (sp 0).h, .int .i64 (sp 0).e, .int .i64 (sp 1).k, .int .i64 (sp 1).l, .slice (sp 1).ao (sp 1).len (sp 1).cap, .int .i64 (sp 1).h, .int .i64 (sp 1).e, .int .i64 (sp 2).k, .int .i64 (sp 2).l, .slice (sp 2).ao (sp 2).len (sp 2).cap, .int .i64 (sp 2).h, .int .i64 (sp 2).e] ∧ ∀ k, k < 3 → (sp k).At W := by
  simp only [Value.okWide, Try.underlying39] at hv
  obtain ⟨⟨cs⟩, rfl, _, _⟩ := hv
  obtain ⟨fuel, hf⟩ := h
  cases fuel with
  | zero => simp [DataW.trod] at hf
  | succ n =>
    unfold DataW.trod at hf
    rw [Try.underlying39] at hf
    have r3 : List.range 3 = [0, 1, 2] := rfl
    simp [r3, Try.cellsTy, Try.cellsTy3, Value.cells] at hf
    obtain ⟨hlen, hf⟩ := hf
    cases h0 : DataW.trod enc Try.prog W base (fun _ => true) true n 28 (List.take 5 cs) with
    | none => simp [h0] at hf
    | some y0 =>
      cases h1 : DataW.trod enc Try.prog W base (fun _ => true) true n 28 (List.take 5 (List.drop 5 cs)) with
      | none => simp [h0, h1] at hf
      | some y1 =>
        cases h2 : DataW.trod enc Try.prog W base (fun _ => true) true n 28 (List.take 5 (List.drop 10 cs)) with
        | none => simp [h0, h1, h2] at hf
        | some y2 =>
          obtain ⟨t0, e0, A0⟩ := open_ty n _ _ h0
          obtain ⟨t1, e1, A1⟩ := open_ty n _ _ h1
          obtain ⟨t2, e2, A2⟩ := open_ty n _ _ h2
          have ec : cs = t0.cs ++ (t1.cs ++ t2.cs) := by
            have q1 := List.take_append_drop 5 cs
            have q2 := List.take_append_drop 5 (List.drop 5 cs)
            have q3 : List.take 5 (List.drop 10 cs) = List.drop 10 cs := List.take_of_length_le (by simp [hlen])
            rw [List.drop_drop] at q2
            rw [← e0, ← e1, ← e2, q3, q2, q1]
          refine ⟨fun k => if k = 0 then t0 else if k = 1 then t1 else t2, ?_, fun k hk => ?_⟩
          · subst ec; rfl
          · match k, hk with
            | 0, _ => exact A0
            | 1, _ => exact A1
            | 2, _ => exact A2
end
end Go.Proofs.Ytlknlnhbmamcbaa
