/- Layer 5: the walks of the reference's Words and Keyword, and of the statement LexWords. -/
import Derived.Test.YtmikilpklnnekaaDoorP9
import Derived.Test.YtmikilpklnnekaaDoorP8
import Derived.Test.YtmikilpklnnekaaDoorRows
import Derived.Stop.LaidErr
import Derived.Stop.Joined
import Derived.Lib.LaidTab
import Derived.LaidMore
import Derived.OpenShut
namespace Go.Proofs.YtmikilpklnnekaaDoor
open Go.RowKit

theorem kw_iff (s : ByteArray) : kw (bs s) = true ↔ ∃ j, j < 23 ∧ kwB.getD j ByteArray.empty = s := by
  rw [← kw_contains, Lib.containsS_iff, show kwB.take 23 = kwB from rfl]
  constructor
  · intro h
    obtain ⟨j, hj, e⟩ := List.getElem_of_mem h
    exact ⟨j, hj, by simp [List.getD, hj, e]⟩
  · rintro ⟨j, hj, rfl⟩
    have hj' : j < kwB.length := hj
    simp [List.getD, hj']
set_option maxHeartbeats 1000000 in
theorem rwords_any (w : World) :
    Calls Tryd.prog 15 #[] w fun e w' => e = .returned (.slice (some ⟨w.heap.size, 0, none⟩) 23 23) ∧ w' = w.alloc (.cells kwC 9) := by
  go_enter Tryd.func15, Tryd.ntmps15
  go_wp2
  go_ret
  exact ⟨rfl, rfl⟩
theorem kw_cell (w : World) (i : Nat) (hi : i < 23) : (w.alloc (.cells kwC 9)).cell? ⟨w.heap.size, i, none⟩ = some (.string (kwB.getD i ByteArray.empty)) := by
  have := kw_cells w 9 i hi
  rwa [Nat.zero_add] at this
theorem eq_toList (a b : ByteArray) : (a.toList == b.toList) = true ↔ a = b := by
  rw [beq_iff_eq, toList_bs, toList_bs]
  exact ⟨fun h => by rw [← str_bs a, h, str_bs], fun h => by rw [h]⟩

set_option maxRecDepth 100000 in
set_option maxHeartbeats 2000000 in
theorem rkeyword_any (s : ByteArray) (w : World) :
    Calls Tryd.prog 17 #[.string s] w fun e w' => e = .returned (.bool (kw (bs s))) ∧ Below w.heap.size w w' := by
  have HK : Hid (kw (bs s) = true ↔ ∃ j, j < 23 ∧ kwB.getD j ByteArray.empty = s) := kw_iff s
  have HB : Hid (Below w.heap.size w (w.alloc (.cells kwC 9))) := below_alloc _ _
  have HC : Hid (∀ i, i < 23 → (w.alloc (.cells kwC 9)).cell? ⟨w.heap.size, i, none⟩ = some (.string (kwB.getD i ByteArray.empty))) := kw_cell w
  go_enter Tryd.func17, Tryd.ntmps17
  go_wp2_with fail
  refine (rwords_any _).mono ?_
  rintro e w1 ⟨rfl, rfl⟩
  generalize (w.alloc (.cells kwC 9)) = w0 at HB HC ⊢
  go_wp2
  go_loop [4] (fun i => ∃ k : Nat, k ≤ 23 ∧ i = .int .i64 k ∧ Hid (∀ j, j < k → kwB.getD j ByteArray.empty ≠ s)) (fun i => 23 - (intOf i).toNat)
  case atStart => exact ⟨0, by omega, rfl, fun j h => absurd h (Nat.not_lt_zero _)⟩
  case round =>
    obtain ⟨k, hk, rfl, HN⟩ := hrel
    by_cases hlt : k < 23
    · have hc := HC.out k hlt
      have ij : (k : Int) < 23 := by omega
      generalize hx : kwB.getD k ByteArray.empty = x at hc
      have HX : Hid (kwB.getD k ByteArray.empty = x) := hx
      clear hx
      cases he : (x.toList == s.toList)
      · go_wp2
        go_round
        case rel => exact ⟨k + 1, by omega, by go_num, fun j hj hh => by
            by_cases e : j = k
            · subst e
              rw [HX.out] at hh
              rw [(eq_toList x s).2 hh] at he; cases he
            · exact HN.out j (by omega) hh⟩
        case measure => simp [intOf]; omega
      · go_wp2
        go_ret
        exact ⟨ret_bool ((HK.out.2 ⟨k, hlt, HX.out.trans ((eq_toList x s).1 he)⟩)).symm, HB.out⟩
    · have e : k = 23 := by omega
      subst e
      go_wp2
      go_ret
      refine ⟨ret_bool ?_, HB.out⟩
      cases hq : kw (bs s)
      · rfl
      · obtain ⟨j, hj, e⟩ := HK.out.1 hq
        exact absurd e (HN.out j hj)

theorem keyword_in (i : Nat) (hi : i < 23) (x : ByteArray) (hx : kwB.getD i ByteArray.empty = x) : kw (bs x) = true := (kw_iff x).2 ⟨i, hi, hx⟩

set_option maxRecDepth 100000 in
set_option maxHeartbeats 4000000 in
theorem lexWords_any (s : ByteArray) (w : World) (hv : Vs w) (hs0 : s.size ≤ 9223372036854775807) :
    Calls Tryd.prog 4 #[.string s] w fun e w' => e = .returned (.bool true) ∧ Below w.heap.size w w' := by
  go_enter Tryd.func4, Tryd.ntmps4
  go_wp2_with fail
  refine (lawake_any _ hv).mono ?_
  rintro e w1 ⟨rfl, b1⟩
  have V1 := hv.kept b1
  by_cases hs : s.size ≤ 1000
  · have hs' : (s.size : Int) ≤ 1000 := by omega
    clear V1
    go_wp2_with fail
    refine (words_any _).mono ?_
    rintro e w2 ⟨rfl, rfl⟩
    go_wp2_with fail
    refine (rwords_any _).mono ?_
    rintro e w3 ⟨rfl, rfl⟩
    have HA : Hid (∀ i, i < 23 → ((w1.alloc (.cells kwC 9)).alloc (.cells kwC 9)).cell? ⟨w1.heap.size, i, none⟩ = some (.string (kwB.getD i ByteArray.empty))) := fun i hi => up (below_alloc _ _) (kw_cell w1 i hi)
    have HB : Hid (∀ i, i < 23 → ((w1.alloc (.cells kwC 9)).alloc (.cells kwC 9)).cell? ⟨(w1.alloc (.cells kwC 9)).heap.size, i, none⟩ = some (.string (kwB.getD i ByteArray.empty))) := fun i hi => kw_cell _ i hi
    have b3 : Below w.heap.size w ((w1.alloc (.cells kwC 9)).alloc (.cells kwC 9)) := nxt b1 (nxt (below_alloc _ _) (below_alloc _ _))
    generalize (w1.alloc (.cells kwC 9)).heap.size = bB at HB ⊢
    generalize w1.heap.size = bA at HA ⊢
    generalize ((w1.alloc (.cells kwC 9)).alloc (.cells kwC 9)) = w3 at HA HB b3 ⊢
    clear b1 w1
    go_wp2_with fail
    refine (keyword_any _ _).mono ?_
    rintro e w4 ⟨rfl, hb4⟩
    go_wp2_with fail
    refine (rkeyword_any _ _).mono ?_
    rintro e w5 ⟨rfl, hb5⟩
    have hb := nxt hb4 hb5
    have HA5 : Hid (∀ i, i < 23 → w5.cell? ⟨bA, i, none⟩ = some (.string (kwB.getD i ByteArray.empty)) ∧ w5.cell? ⟨bB, i, none⟩ = some (.string (kwB.getD i ByteArray.empty))) := fun i hi => ⟨up hb (HA.out i hi), up hb (HB.out i hi)⟩
    have b5 := nxt b3 hb
    clear HA HB hb4 hb5 hb b3
    go_wp2
    go_loopw [5] (fun i wr => ∃ k : Nat, k ≤ 23 ∧ i = .int .i64 k ∧ Hid (Below w5.heap.size w5 wr)) (fun i _ => 23 - (intOf i).toNat)
    case atStart => exact ⟨0, by omega, rfl, Below.refl _ _⟩
    case round =>
      obtain ⟨i, hi, rfl, HW⟩ := hrel
      by_cases hlt : i < 23
      · obtain ⟨ca, cb⟩ := HA5.out i hlt
        have da := up HW.out ca
        have db := up HW.out cb
        have ij : (i : Int) < 23 := by omega
        have i0 : (0 : Int) ≤ i := by omega
        generalize hx : kwB.getD i ByteArray.empty = x at ca cb da db
        have HX : Hid (kw (bs x) = true) := keyword_in i hlt x hx
        have xx : (x.toList == x.toList) = true := by simp
        clear hx ca cb
        go_wp2_with fail
        have hS0 : wr.drew.cell? ⟨bA, i, none⟩ = some (.string x) ∧ wr.drew.cell? ⟨bB, i, none⟩ = some (.string x) := ⟨da, db⟩
        refine wp_region_held_drew (S := fun q : World => q.cell? ⟨bA, i, none⟩ = some (.string x) ∧ q.cell? ⟨bB, i, none⟩ = some (.string x)) (by kernel_rfl) hS0 (fun hS => ?_)
        refine wpAnyH_take (i := 0) (v := .slice (some ⟨bA, 0, none⟩) 23 23) rfl (by kernel_rfl) (by kernel_rfl) (by kernel_rfl) (fun _ _ _ h => h) (Or.inl ⟨by kernel_rfl, ?_⟩) hS ?_
        · intro u hSu; obtain ⟨q0, q1⟩ := hSu; go_simp
        try simp only [Act.put]
        refine wpAnyH_take (i := 1) (v := .int .i64 i) rfl (by kernel_rfl) (by kernel_rfl) (by kernel_rfl) (fun _ _ _ h => h) (Or.inl ⟨by kernel_rfl, ?_⟩) hS ?_
        · intro u hSu; obtain ⟨q0, q1⟩ := hSu; go_simp
        try simp only [Act.put]
        refine wpAnyH_take (i := 2) (v := .pointer (some ⟨bA, i, none⟩)) rfl (by kernel_rfl) (by kernel_rfl) (by kernel_rfl) (fun _ _ _ h => h) (Or.inl ⟨by kernel_rfl, ?_⟩) hS ?_
        · intro u hSu; obtain ⟨q0, q1⟩ := hSu; go_simp
        try simp only [Act.put]
        refine wpAnyH_take (i := 3) (v := .string x) rfl (by kernel_rfl) (by kernel_rfl) (by kernel_rfl) (fun _ _ _ h => h) (Or.inl ⟨by kernel_rfl, ?_⟩) hS ?_
        · intro u hSu; obtain ⟨q0, q1⟩ := hSu; go_simp
        try simp only [Act.put]
        refine wpAnyH_take (i := 4) (v := .slice (some ⟨bB, 0, none⟩) 23 23) rfl (by kernel_rfl) (by kernel_rfl) (by kernel_rfl) (fun _ _ _ h => h) (Or.inl ⟨by kernel_rfl, ?_⟩) hS ?_
        · intro u hSu; obtain ⟨q0, q1⟩ := hSu; go_simp
        try simp only [Act.put]
        refine wpAnyH_take (i := 5) (v := .int .i64 i) rfl (by kernel_rfl) (by kernel_rfl) (by kernel_rfl) (fun _ _ _ h => h) (Or.inl ⟨by kernel_rfl, ?_⟩) hS ?_
        · intro u hSu; obtain ⟨q0, q1⟩ := hSu; go_simp
        try simp only [Act.put]
        refine wpAnyH_take (i := 6) (v := .pointer (some ⟨bB, i, none⟩)) rfl (by kernel_rfl) (by kernel_rfl) (by kernel_rfl) (fun _ _ _ h => h) (Or.inl ⟨by kernel_rfl, ?_⟩) hS ?_
        · intro u hSu; obtain ⟨q0, q1⟩ := hSu; go_simp
        try simp only [Act.put]
        refine wpAnyH_take (i := 7) (v := .string x) rfl (by kernel_rfl) (by kernel_rfl) (by kernel_rfl) (fun _ _ _ h => h) (Or.inl ⟨by kernel_rfl, ?_⟩) hS ?_
        · intro u hSu; obtain ⟨q0, q1⟩ := hSu; go_simp
        try simp only [Act.put]
        refine wpAnyH_take (i := 8) (v := .bool false) rfl (by kernel_rfl) (by kernel_rfl) (by kernel_rfl) (fun _ _ _ h => h) (Or.inl ⟨by kernel_rfl, ?_⟩) hS ?_
        · intro u hSu; obtain ⟨q0, q1⟩ := hSu; go_simp
        try simp only [Act.put]
        refine wpAnyH_take (i := 9) (v := .bool false) rfl (by kernel_rfl) (by kernel_rfl) (by kernel_rfl) (fun _ _ _ h => h) (Or.inl ⟨by kernel_rfl, ?_⟩) hS ?_
        · intro u hSu; obtain ⟨q0, q1⟩ := hSu; go_simp
        try simp only [Act.put]
        refine wpAnyH_take (i := 10) (v := .slice (some ⟨bA, 0, none⟩) 23 23) rfl (by kernel_rfl) (by kernel_rfl) (by kernel_rfl) (fun _ _ _ h => h) (Or.inl ⟨by kernel_rfl, ?_⟩) hS ?_
        · intro u hSu; obtain ⟨q0, q1⟩ := hSu; go_simp
        try simp only [Act.put]
        refine wpAnyH_take (i := 11) (v := .int .i64 i) rfl (by kernel_rfl) (by kernel_rfl) (by kernel_rfl) (fun _ _ _ h => h) (Or.inl ⟨by kernel_rfl, ?_⟩) hS ?_
        · intro u hSu; obtain ⟨q0, q1⟩ := hSu; go_simp
        try simp only [Act.put]
        refine wpAnyH_take (i := 12) (v := .pointer (some ⟨bA, i, none⟩)) rfl (by kernel_rfl) (by kernel_rfl) (by kernel_rfl) (fun _ _ _ h => h) (Or.inl ⟨by kernel_rfl, ?_⟩) hS ?_
        · intro u hSu; obtain ⟨q0, q1⟩ := hSu; go_simp
        try simp only [Act.put]
        refine wpAnyH_take (i := 13) (v := .string x) rfl (by kernel_rfl) (by kernel_rfl) (by kernel_rfl) (fun _ _ _ h => h) (Or.inl ⟨by kernel_rfl, ?_⟩) hS ?_
        · intro u hSu; obtain ⟨q0, q1⟩ := hSu; go_simp
        try simp only [Act.put]

        refine wpAnyH_ready (rs := [14]) (by kernel_rfl) (by simp) ?_
        refine AllReadyH.cons rfl (fun K hK => ?_) AllReadyH.nil
        go_simp
        refine (keyword_is x true HX.out _).mono ?_
        rintro e w6 ⟨rfl, hb6⟩
        have hb6' : Below wr.heap.size wr w6 := (Below.refl _ _).drew.trans hb6
        go_wp2_with fail
        refine hK.out _ _ ⟨up hb6' da, up hb6' db⟩ (fun hS => ?_)
        clear hK K
        try simp only [Act.put]
        refine wpAnyH_take (i := 15) (v := .bool false) rfl (by kernel_rfl) (by kernel_rfl) (by kernel_rfl) (fun _ _ _ h => h) (Or.inl ⟨by kernel_rfl, ?_⟩) hS ?_
        · intro u hSu; go_simp
        refine wpAnyH_take (i := 16) (v := .bool false) rfl (by kernel_rfl) (by kernel_rfl) (by kernel_rfl) (fun _ _ _ h => h) (Or.inl ⟨by kernel_rfl, ?_⟩) hS ?_
        · intro u hSu; go_simp
        refine wpAnyH_done (by kernel_rfl) ?_ _
        simp only [Act.put, List.setIfInBounds_toArray]
        have HW6 : Hid (Below w5.heap.size w5 w6) := nxt HW.out hb6'
        clear HW hb6 hb6' hS0 hS da db
        go_wp2
        go_roundw
        case rel => exact ⟨i + 1, by omega, by go_num, HW6.out⟩
        case measure => simp [intOf]; omega
      · have e : i = 23 := by omega
        subst e
        go_wp2
        go_ret
        exact ⟨rfl, nxt b5 HW.out⟩
  · have hs' : (1000 : Int) < s.size := by omega
    go_wp2_with fail
    refine (lawake_any _ V1).mono ?_
    rintro e w2 ⟨rfl, hb⟩
    go_wp2
    go_ret
    exact ⟨rfl, nxt b1 hb⟩
end Go.Proofs.YtmikilpklnnekaaDoor

/- Layer 5: what the row says of the variables, as the walks want it. -/
namespace Go.Proofs.YtmikilpklnnekaaDoor
open Go.RowKit

theorem strs_of_tab {H : Type} {enc : TypeId × Value → H} {P : Program} {w : World} {base : Nat} {sp : Nat → Bool} {held : Bool} {fuel : Nat} {t e : TypeId} {n : Nat} {cs : List Value} {zs : List (List UInt8)} {p : List MemPlace}
    (ht : P.underlying t = some (.array n e)) (he : P.underlying e = some .string) (hce : P.cellsOf e = 1) (hct : P.cellsOf t = n)
    (h : DataW.trod enc P w base sp held fuel t cs = some (.agg (zs.map fun z => .lit (.string z)), p)) : cs = zs.map fun z => Value.string (str z) := by
  cases fuel with
  | zero => simp [DataW.trod] at h
  | succ fuel =>
    simp only [DataW.trod, ht, hce, hct, Nat.mul_one] at h
    split at h
    · rename_i hl
      obtain ⟨xs, hm, hx⟩ := Option.map_eq_some_iff.1 h
      have hxs : xs.map (·.1) = zs.map fun z => (DataW.lit (.string z) : DataW H) := by
        have := congrArg Prod.fst hx
        simpa using this
      have hxl : xs.length = n := by simpa using Lib.mapM_length hm
      have hzl : zs.length = n := by
        have := congrArg List.length hxs
        simp at this
        omega
      apply List.ext_getElem?
      intro i
      by_cases hi : i < n
      · obtain ⟨b, hb, hf⟩ := Lib.mapM_at hm i i (by simp [hi])
        obtain ⟨z, hc, rfl, _⟩ := DataW.trod_string he hf
        have h1 : cs[i]? = some (.string z) := by
          have := congrArg (·[0]?) hc
          simpa [List.getElem?_take, List.getElem?_drop] using this
        have h2 : (xs.map (·.1))[i]? = some (DataW.lit (.string z.data.toList) : DataW H) := by simp [hb]
        rw [hxs] at h2
        simp only [List.getElem?_map, Option.map_eq_some_iff, DataW.lit.injEq, Lit.string.injEq] at h2
        obtain ⟨z', hz', rfl⟩ := h2
        have : str z.data.toList = z := str_bs z
        simp [h1, hz', this]
      · rw [List.getElem?_eq_none (by omega), List.getElem?_eq_none (by simp; omega)]
    · cases h

theorem Tryd.starE : "*" ++ "errors.errorString" = "*errors.errorString" := by decide
theorem Tryd.rowE (u : TypeId) (h : Tryd.prog.typeName? 3 u = some "*errors.errorString") : u = 78 :=
  typeName_ptr_named (nm := "errors.errorString") (by rw [Tryd.starE]; kernel_rfl) (by kernel_rfl) (by decide) u (by rw [Tryd.starE]; exact h)
theorem Tryd.gETy : (Tryd.prog.globals[2]?).map (·.type) = some 56 := by kernel_rfl
theorem Tryd.gLN : Tryd.prog.globalNamed "palisade/lex.longSigns" = some 0 := by kernel_rfl
theorem Tryd.gLTy : (Tryd.prog.globals[0]?).map (·.type) = some 59 := by kernel_rfl
theorem sign_data : (Rows.laid_palisade_lex_longSigns : DataW Unit) = .agg ([[61, 61], [61, 62], [45, 62], [58, 61]].map fun z => .lit (.string z)) := rfl

theorem vs_of_laid {W : World} (h0 : laidMetH Tryd.prog Rows.lexFaultRow.laid W) : Vs W := by
  rw [MakeChecks.laidMetH_plain _ _ _ (by kernel_rfl)] at h0
  have h : laidMet Tryd.prog [("math/bits.deBruijn32tab", Rows.laid_math_bits_deBruijn32tab), ("math/bits.deBruijn64tab", Rows.laid_math_bits_deBruijn64tab), ("internal/strconv.uint64pow10", Rows.laid_internal_strconv_uint64pow10), ("strconv.ErrRange", Rows.laid_strconv_ErrRange), ("strconv.ErrSyntax", Rows.laid_strconv_ErrSyntax), ("palisade/lex.longSigns", Rows.laid_palisade_lex_longSigns)] W := h0
  have h3 := h.tail.tail.tail
  obtain ⟨a1, s1, hv1, -, -, -⟩ := laid_sentinel (n := "strconv.ErrRange") h3 Tryd.errNamed Tryd.gETy Tryd.underlying56 Tryd.rowE Tryd.underlying78 Tryd.underlying80 rfl rfl Tryd.underlying9 (by kernel_rfl) (by kernel_rfl)
  have h5 := h3.tail.tail
  obtain ⟨ps, ⟨g0, t0, cs0, f0, p0, q0, hg0, ht0, hv0, hd0, _, _⟩, _⟩ := h5
  obtain rfl := Option.some.inj (Tryd.gLN.symm.trans hg0)
  obtain rfl := Option.some.inj (Tryd.gLTy.symm.trans ht0)
  rw [sign_data] at hd0
  have hcs := strs_of_tab Tryd.underlying59 Tryd.underlying9 (by kernel_rfl) (by kernel_rfl) hd0
  have hcell : ∀ j, W.cell? ⟨0, j, none⟩ = cs0[j]? := fun j => World.var?_cell Tryd.gLN hv0 j
  have hget : ∀ j, cs0[j]? = ([[61, 61], [61, 62], [45, 62], [58, 61]].map fun z => Value.string (str z))[j]? := fun j => by
    rw [← hcs, Array.getElem?_toList]
  exact ⟨⟨_, _, hv1⟩, (hcell 0).trans (hget 0), (hcell 1).trans (hget 1), (hcell 2).trans (hget 2), (hcell 3).trans (hget 3)⟩
end Go.Proofs.YtmikilpklnnekaaDoor
