/- Layer 5: the walk of the statement LexPlaces. -/
import Derived.Test.YtmikilpklnnekaaDoorP10
import Derived.Deep.DeepCutAuto
import Derived.Deep.QuietTactic
import Derived.BigQuiet
import Derived.Test.YtmikilpklnnekaaDoorP8
import Derived.Test.YtmikilpklnnekaaDoorRows
import Derived.Stop.LaidErr
import Derived.Stop.Joined
import Derived.Lib.LaidTab
import Derived.LaidMore
import Derived.OpenShut
namespace Go.Proofs.YtmikilpklnnekaaDoor
open Go.RowKit

theorem bad_le : ∀ (f : Nat) (l : List UInt8) (a : Nat) (acc : List Tk) {k c : Nat}, rd f l a acc = .bad k c → k ≤ a + l.length ∧ c ≠ 0
  | 0, _, _, _, _, _, h => by unfold rd at h; cases h
  | _ + 1, [], _, _, _, _, h => by unfold rd at h; cases h
  | f + 1, c :: r, a, acc, _, _, h => by
    unfold rd at h
    split at h
    · have := bad_le f _ _ _ h
      simp only [List.length_cons]; omega
    · split at h
      · rename_i h35
        have := bad_le f _ _ _ h
        have h2 := rem_le (c :: r)
        simp only [List.length_drop] at this
        omega
      · split at h
        · cases h; omega
        · rename_i hn
          split at h
          · cases h; omega
          · have := bad_le f _ _ _ h
            have h2 := nextW_le hn
            simp only [List.length_drop] at this
            omega

set_option maxRecDepth 100000 in
set_option maxHeartbeats 8000000 in
theorem lexPlaces_any (s : ByteArray) (w : World) (hv : Vs w) (hs0 : s.size ≤ 9223372036854775807) :
    Calls Tryd.prog 5 #[.string s] w fun e w' => e = .returned (.bool true) ∧ Below w.heap.size w w' := by
  go_enter Tryd.func5, Tryd.ntmps5
  go_wp2_with fail
  refine (lawake_any _ hv).mono ?_
  rintro e w1 ⟨rfl, b1⟩
  have V1 := hv.kept b1
  by_cases hs : s.size ≤ 20000
  · have hs' : (s.size : Int) ≤ 20000 := by omega
    go_wp2_with fail
    refine (read_any s _ V1).mono ?_
    rintro e w2 ⟨hR, hb⟩
    have b2 := nxt b1 hb
    clear hb V1 b1
    cases hq : readV (bs s) with
    | bad a c =>
      rw [hq] at hR
      have hR' : e = .returned (.tuple #[.slice none 0 0, .int .i64 a, .int .i64 c]) := hR
      subst hR'
      have hc : c ≠ 0 ∧ a ≤ s.size := by
        unfold readV at hq
        split at hq
        · cases hq; omega
        · have := bad_le _ _ _ _ hq
          rw [bs_len] at this; omega
      have c2 : ((c : Int) != 0) = true := by rw [bne_iff_ne]; omega
      have a0 : (0 : Int) ≤ a := by omega
      have a1 : (a : Int) ≤ s.size := by omega
      clear hq hR
      go_wp2
      go_ret
      exact ⟨rfl, b2⟩
    | ok ts =>
      rw [hq] at hR
      obtain ⟨v, rfl, hK⟩ := hR
      have hr : R (bs s) 0 [] = .ok ts := by
        unfold readV at hq
        split at hq
        · cases hq
        · exact hq
      obtain ⟨hl, hW, hE1, hE2⟩ := places hr
      rw [bs_len] at hE1
      have HP : Hid (∀ i (hi : i < ts.length), endOf ts i ≤ ts[i].a ∧ ts[i].a + ts[i].t.length ≤ s.size ∧ emp false (((bs s).take ts[i].a).drop (endOf ts i)) = true ∧ ts[i].t ≠ [] ∧ ((bs s).take (ts[i].a + ts[i].t.length)).drop ts[i].a = ts[i].t) := fun i hi => by
        have := hW i hi
        rw [bs_len] at this; exact this
      have HZ : Hid (endOf ts ts.length ≤ s.size ∧ emp false ((bs s).drop (endOf ts ts.length)) = true) := ⟨hE1, hE2⟩
      obtain ⟨ao, b, cap, rfl, hc, hn, hcell⟩ := hK
      have HC : Hid (∀ i (h : i < ts.length) q, q < 4 → w2.cell? ⟨b, i * 4 + q, none⟩ = (tv ts[i])[q]?) := hcell
      clear hcell hq hr hW hE1 hE2
      go_wp2
      go_loopw [6, 7, 8] (fun z iv _ wr => ∃ (i ev : Nat), i ≤ ts.length + 1 ∧ z = .int .i64 ev ∧ iv = .int .i64 i ∧ Hid (i ≤ ts.length → ev = endOf ts i) ∧ Hid (Below w2.heap.size w2 wr)) (fun _ iv _ _ => ts.length + 1 - (intOf iv).toNat)
      case atStart => exact ⟨0, 0, by omega, rfl, rfl, fun _ => rfl, Below.refl _ _⟩
      case round =>
        obtain ⟨i, ev, hi, rfl, rfl, HV, HB⟩ := hrel
        by_cases hle : i ≤ ts.length
        · have i0 : (0 : Int) ≤ i := by omega
          have ile : (i : Int) ≤ ts.length := by omega
          by_cases hlt : i < ts.length
          · have ij : (i : Int) < ts.length := by omega
            have a0 := hn (by omega)
            subst a0
            have c1 : wr.cell? ⟨b, i * 4 + 1, none⟩ = some (.string (str ts[i].t)) := up HB.out (HC.out i hlt 1 (by omega))
            have c3 : wr.cell? ⟨b, i * 4 + 3, none⟩ = some (.int .i64 (ts[i].a : Nat)) := up HB.out (HC.out i hlt 3 (by omega))
            obtain ⟨h1, h2, h3, h4, h5⟩ := HP.out i hlt
            have HN : Hid (i + 1 ≤ ts.length → ts[i].a + ts[i].t.length = endOf ts (i + 1)) := fun _ => by
              simp [endOf, List.getElem?_eq_getElem hlt]
            rw [← HV.out hle] at h1 h3
            have tz : (str ts[i].t).size = ts[i].t.length := by rw [sz_bs, bs_str]
            have hx : s.extract ts[i].a (ts[i].a + ts[i].t.length) = str ts[i].t := by rw [← str_bs (s.extract _ _), bs_ext, h5]
            have hem : emp false (bs (s.extract ev ts[i].a)) = true := by rw [bs_ext]; exact h3
            have hne : (str ts[i].t).toList ≠ [] := by rw [toList_bs, bs_str]; exact h4
            clear h3 h5 h4 HV
            generalize ts[i].a = a at c3 h1 h2 HN hx hem
            generalize str ts[i].t = tx at c1 tz hx hne
            generalize ts[i].t.length = m at h2 HN tz hx
            have n0 : (0 : Int) ≤ ev := by omega
            have n1 : (ev : Int) ≤ a := by omega
            have n1' : ¬ (a : Int) < ev := by omega
            have n2 : (a : Int) ≤ s.size := by omega
            have n2' : ¬ (s.size : Int) < a := by omega
            have n3 : ((a + m : Nat) : Int) ≤ s.size := by omega
            have n4 : (a : Int) ≤ ((a + m : Nat) : Int) := by omega
            have xs : (s.extract ev a).size ≤ 20000 := by rw [sz_bs, bs_ext, List.length_drop, List.length_take, bs_len]; omega
            go_wp2_with fail
            refine (empty_any _ _ xs).mono ?_
            rintro e w3 ⟨rfl, rfl⟩
            rw [hem]
            go_upto_region 17 with fail
            have hcast : ((a : Int) + m) = ((a + m : Nat) : Int) := by omega
            rw [hcast]
            clear hcast tz xs hem
            generalize a + m = e2 at n3 n4 hx HN h2 ⊢
            have n3' : ¬ (s.size : Int) < e2 := by omega
            have x1 : (tx.toList == []) = false := by simpa using hne
            have x2 : tx.toList.isEmpty = false := by simpa using hne
            have x3 : ((s.extract a e2).toList == tx.toList) = true := by rw [hx]; simp
            go_quiet (fail)
            go_wp2
            go_roundw
            case rel => exact ⟨i + 1, e2, by omega, rfl, by go_num, HN.out, ⟨HB.out.os, HB.out.tape, HB.out.output, HB.out.size, HB.out.block⟩⟩
            case measure => simp [intOf]; omega
          · have e : i = ts.length := by omega
            subst e
            have dl : ¬ (ts.length : Int) < ts.length := by omega
            have hev := HV.out (Nat.le_refl _)
            obtain ⟨h1, h2⟩ := HZ.out
            rw [← hev] at h1 h2
            have n0 : (0 : Int) ≤ ev := by omega
            have n1 : (ev : Int) ≤ s.size := by omega
            have n1' : ¬ (s.size : Int) < ev := by omega
            have xs : (s.extract ev s.size).size ≤ 20000 := by rw [sz_bs, bs_rest, List.length_drop, bs_len]; omega
            have hem : emp false (bs (s.extract ev s.size)) = true := by rw [bs_rest]; exact h2
            clear h1 h2 hev HV
            go_wp2_with fail
            refine (empty_any _ _ xs).mono ?_
            rintro e w3 ⟨rfl, rfl⟩
            rw [hem]
            go_wp2
            go_roundw
            case rel => exact ⟨ts.length + 1, ev, by omega, rfl, by go_num, fun h => by omega, HB.out⟩
            case measure => simp [intOf]
        · have ile : ¬ (i : Int) ≤ ts.length := by omega
          go_wp2
          go_ret
          exact ⟨rfl, nxt b2 HB.out⟩
  · have hs' : (20000 : Int) < s.size := by omega
    go_wp2_with fail
    refine (lawake_any _ V1).mono ?_
    rintro e w2 ⟨rfl, hb⟩
    go_wp2
    go_ret
    exact ⟨rfl, nxt b1 hb⟩
end Go.Proofs.YtmikilpklnnekaaDoor

/- Layer 5: what the row says of the variables, as the walks want it. -/
namespace Go.Proofs.YtmikilpklnnekaaDoor
open Go.RowKit

theorem strs_of_tab {H : Type} {enc : TypeId × Value → H} {P : Program} {w : World} {base : Nat} {sp : Nat → Bool} {held : Bool} {fuel : Nat} {t e : TypeId} {n : Nat} {cs : List Value} {zs : List (List UInt8)} {p : List MemPlace}
    (ht : P.underlying t = some (.array n e)) (he : P.underlying e = some .string) (hce : P.cellsOf e = 1) (hct : P.cellsOf t = n)
    (h : DataW.trod enc P w base sp held fuel t cs = some (.agg (zs.map fun z => .lit (.string z)), p)) : cs = zs.map fun z => Value.string (str z) := by
  cases fuel with
  | zero => simp [DataW.trod] at h
  | succ fuel =>
    simp only [DataW.trod, ht, hce, hct, Nat.mul_one] at h
    split at h
    · rename_i hl
      obtain ⟨xs, hm, hx⟩ := Option.map_eq_some_iff.1 h
      have hxs : xs.map (·.1) = zs.map fun z => (DataW.lit (.string z) : DataW H) := by
        have := congrArg Prod.fst hx
        simpa using this
      have hxl : xs.length = n := by simpa using Lib.mapM_length hm
      have hzl : zs.length = n := by
        have := congrArg List.length hxs
        simp at this
        omega
      apply List.ext_getElem?
      intro i
      by_cases hi : i < n
      · obtain ⟨b, hb, hf⟩ := Lib.mapM_at hm i i (by simp [hi])
        obtain ⟨z, hc, rfl, _⟩ := DataW.trod_string he hf
        have h1 : cs[i]? = some (.string z) := by
          have := congrArg (·[0]?) hc
          simpa [List.getElem?_take, List.getElem?_drop] using this
        have h2 : (xs.map (·.1))[i]? = some (DataW.lit (.string z.data.toList) : DataW H) := by simp [hb]
        rw [hxs] at h2
        simp only [List.getElem?_map, Option.map_eq_some_iff, DataW.lit.injEq, Lit.string.injEq] at h2
        obtain ⟨z', hz', rfl⟩ := h2
        have : str z.data.toList = z := str_bs z
        simp [h1, hz', this]
      · rw [List.getElem?_eq_none (by omega), List.getElem?_eq_none (by simp; omega)]
    · cases h

theorem Tryd.starE : "*" ++ "errors.errorString" = "*errors.errorString" := by decide
theorem Tryd.rowE (u : TypeId) (h : Tryd.prog.typeName? 3 u = some "*errors.errorString") : u = 78 :=
  typeName_ptr_named (nm := "errors.errorString") (by rw [Tryd.starE]; kernel_rfl) (by kernel_rfl) (by decide) u (by rw [Tryd.starE]; exact h)
theorem Tryd.gETy : (Tryd.prog.globals[2]?).map (·.type) = some 56 := by kernel_rfl
theorem Tryd.gLN : Tryd.prog.globalNamed "palisade/lex.longSigns" = some 0 := by kernel_rfl
theorem Tryd.gLTy : (Tryd.prog.globals[0]?).map (·.type) = some 59 := by kernel_rfl
theorem sign_data : (Rows.laid_palisade_lex_longSigns : DataW Unit) = .agg ([[61, 61], [61, 62], [45, 62], [58, 61]].map fun z => .lit (.string z)) := rfl

theorem vs_of_laid {W : World} (h0 : laidMetH Tryd.prog Rows.lexFaultRow.laid W) : Vs W := by
  rw [MakeChecks.laidMetH_plain _ _ _ (by kernel_rfl)] at h0
  have h : laidMet Tryd.prog [("math/bits.deBruijn32tab", Rows.laid_math_bits_deBruijn32tab), ("math/bits.deBruijn64tab", Rows.laid_math_bits_deBruijn64tab), ("internal/strconv.uint64pow10", Rows.laid_internal_strconv_uint64pow10), ("strconv.ErrRange", Rows.laid_strconv_ErrRange), ("strconv.ErrSyntax", Rows.laid_strconv_ErrSyntax), ("palisade/lex.longSigns", Rows.laid_palisade_lex_longSigns)] W := h0
  have h3 := h.tail.tail.tail
  obtain ⟨a1, s1, hv1, -, -, -⟩ := laid_sentinel (n := "strconv.ErrRange") h3 Tryd.errNamed Tryd.gETy Tryd.underlying56 Tryd.rowE Tryd.underlying78 Tryd.underlying80 rfl rfl Tryd.underlying9 (by kernel_rfl) (by kernel_rfl)
  have h5 := h3.tail.tail
  obtain ⟨ps, ⟨g0, t0, cs0, f0, p0, q0, hg0, ht0, hv0, hd0, _, _⟩, _⟩ := h5
  obtain rfl := Option.some.inj (Tryd.gLN.symm.trans hg0)
  obtain rfl := Option.some.inj (Tryd.gLTy.symm.trans ht0)
  rw [sign_data] at hd0
  have hcs := strs_of_tab Tryd.underlying59 Tryd.underlying9 (by kernel_rfl) (by kernel_rfl) hd0
  have hcell : ∀ j, W.cell? ⟨0, j, none⟩ = cs0[j]? := fun j => World.var?_cell Tryd.gLN hv0 j
  have hget : ∀ j, cs0[j]? = ([[61, 61], [61, 62], [45, 62], [58, 61]].map fun z => Value.string (str z))[j]? := fun j => by
    rw [← hcs, Array.getElem?_toList]
  exact ⟨⟨_, _, hv1⟩, (hcell 0).trans (hget 0), (hcell 1).trans (hget 1), (hcell 2).trans (hget 2), (hcell 3).trans (hget 3)⟩
end Go.Proofs.YtmikilpklnnekaaDoor
