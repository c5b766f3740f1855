/- Layer 4: the walks of the reference's Short, Long, Text, Below and Left, the reader's. -/
import Derived.Test.YtboehlfdfpiodaaBtRef
namespace Go.Proofs.Ytboehlfdfpiodaa
open Go.RowKit

theorem Rf.byt {w : World} {q : Nat} {X : Bys} {st : Option (List Nat)} (h : Rf w q X st) : Byt st := by
  obtain ⟨a, no, h, rfl⟩ := h
  intro l e x hx
  unfold abst at e
  split at e
  · cases e
  · injection e with e
    subst e
    exact X.l_lt h.at' x (List.mem_of_mem_drop hx)
theorem tk_or (s : Nat) (st : Option (List Nat)) : tk s st = [] ∨ (tk s st).length = s := by
  cases st with
  | none => exact Or.inl rfl
  | some l =>
    unfold tk; dsimp only; split
    · right; rw [List.length_take]; omega
    · exact Or.inl rfl
theorem tk_none {s : Nat} {st : Option (List Nat)} (h : tkS s st = none) : tk s st = [] := by
  cases st with
  | none => rfl
  | some l =>
    unfold tk tkS at *; dsimp only at *; split at h
    · cases h
    · rename_i hn; rw [if_neg hn]

set_option maxHeartbeats 2000000 in
theorem xshort_any (q : Nat) (X : Bys) (st : Option (List Nat)) (w : World) (h : Rf w q X st) :
    Calls Try.prog 19 #[.pointer (some ⟨q, 0, none⟩)] w fun e w' => e = .returned (.int .i64 (shortV st)) ∧ Rf w' q X (tkS 2 st) ∧ w.grownBy w' (some q) := by
  have H : Hid (Rf w q X st) := h
  clear h
  go_enter Try.func19, Try.ntmps19
  go_wp2_with fail
  refine (xtake_any q 2 X st w H.out).mono ?_
  rintro e w1 ⟨v, rfl, ⟨R, rfl, hR, hl, _⟩, hf, hg⟩
  have HF : Hid (Rf w1 q X (tkS 2 st)) := hf
  obtain ⟨ao, b, o, len, cap, f⟩ := R
  have hlen : len = (tk 2 st).length := by rw [← hl]; exact (Bys.len_l ⟨ao, b, o, len, cap, f⟩).symm
  have hlc : len ≤ cap := hR.lc
  have hbd : cap ≤ 9223372036854775807 := hR.bound
  have hv : shortV st = valF f len := by unfold shortV; rw [← hl]; exact val_range _ _
  clear hf
  rcases tk_or 2 st with h0 | h2
  · rw [h0] at hlen
    have hlen' : len = 0 := hlen
    subst hlen'
    have HV : Hid (shortV st = 0) := hv
    clear hv hlen hR hl h0
    go_wp2
    go_ret
    exact ⟨ret_int (by rw [HV.out]; rfl), HF.out, hg⟩
  · rw [h2] at hlen
    subst hlen
    have hao : ao = some ⟨b, o, none⟩ := hR.nil (by show 0 < 2; omega)
    subst hao
    have d0 : w1.cell? ⟨b, o, none⟩ = some (.int .u8 (f 0)) := hR.cell 0 (by show 0 < 2; omega)
    have d1 : w1.cell? ⟨b, o + 1, none⟩ = some (.int .u8 (f 1)) := hR.cell 1 (by show 1 < 2; omega)
    have l0 : f 0 < 256 := hR.lt 0 (by show 0 < 2; omega)
    have l1 : f 1 < 256 := hR.lt 1 (by show 1 < 2; omega)
    have HV : Hid (shortV st = f 0 * 256 + f 1) := by show _ = _; rw [hv]; show (0 * 256 + f 0) * 256 + f 1 = _; omega
    have i4 : IntKind.i64.wrap ((f 0 : Int) * 256) = (f 0 : Int) * 256 := by rw [IntKind.wrap_i64]; omega
    have i5 : IntKind.i64.wrap ((f 0 : Int) * 256 + (f 1 : Int)) = (f 0 : Int) * 256 + (f 1 : Int) := by rw [IntKind.wrap_i64]; omega
    clear hv hR hl h2
    go_wp2
    go_region
    go_wp2
    go_ret
    exact ⟨ret_int (by rw [HV.out]; omega), HF.out.bel ((Below.refl _ _).drew), gb_trans hg (gb_of_below ((Below.refl _ _).drew) _)⟩

set_option maxHeartbeats 2000000 in
theorem xtext_any (q : Nat) (X : Bys) (st : Option (List Nat)) (w : World) (h : Rf w q X st) :
    Calls Try.prog 23 #[.pointer (some ⟨q, 0, none⟩)] w fun e w' => e = .returned (.string (textV st)) ∧ Rf w' q X (textS st) ∧ w.grownBy w' (some q) := by
  have H : Hid (Rf w q X st) := h
  clear h
  obtain ⟨n, hq⟩ : ∃ n, n = shortV st := ⟨_, rfl⟩
  unfold textV textS
  rw [← hq]
  have HQ : Hid (shortV st = n) := hq.symm
  clear hq
  obtain ⟨S, hS⟩ : ∃ S, S = str (tk n (tkS 2 st)) := ⟨_, rfl⟩
  rw [← hS]
  have HS : Hid (str (tk n (tkS 2 st)) = S) := hS.symm
  clear hS
  go_enter Try.func23, Try.ntmps23
  go_wp2_with (first
    | (go_at_call 19; refine (xshort_any q X st w H.out).mono ?_; rw [HQ.out]; rintro e w1 ⟨rfl, hR, hg⟩; have HR : Hid (Rf w1 q X (tkS 2 st)) := hR; clear hR)
    | (go_at_call 35; refine (xtake_any q n X (tkS 2 st) w1 HR.out).mono ?_; rintro e w2 ⟨v, rfl, hT, hR, hg2⟩; have hrun := run_str w2 _ v _ (show Took w2 (hT.choose.b) v _ from ⟨hT.choose, hT.choose_spec.1, hT.choose_spec.2.1, hT.choose_spec.2.2.1, fun _ => rfl⟩); rw [HS.out] at hrun; have HR2 : Hid (Rf w2 q X (tkS n (tkS 2 st))) := hR; clear hT hR))
  go_ret
  exact ⟨rfl, HR2.out, gb_trans hg hg2⟩

set_option maxHeartbeats 2000000 in
theorem xbelow_any (q : Nat) (X : Bys) (lim : Int) (st : Option (List Nat)) (w : World) (h : Rf w q X st) :
    Calls Try.prog 25 #[.pointer (some ⟨q, 0, none⟩), .int .i64 lim] w fun e w' => e = .returned (.int .i64 (belowV lim st)) ∧ Rf w' q X (belowS lim st) ∧ w.grownBy w' (some q) := by
  have H : Hid (Rf w q X st) := h
  clear h
  obtain ⟨n, hq⟩ : ∃ n, n = shortV st := ⟨_, rfl⟩
  have HQ : Hid (shortV st = n) := hq.symm
  clear hq
  obtain ⟨r, hr⟩ : ∃ r, r = belowV lim st := ⟨_, rfl⟩
  have HB : Hid (belowV lim st = r) := hr.symm
  rw [← hr]
  clear hr
  go_enter Try.func25, Try.ntmps25
  go_wp2_with fail
  refine (xshort_any q X st w H.out).mono ?_
  rw [HQ.out]
  rintro e w1 ⟨rfl, ⟨a, no, hx, hab⟩, hg⟩
  have HX : Hid (Rx w1 q X a no) := hx
  obtain ⟨c0, c1, c2, f1, f2⟩ := blk3 hx.blk
  clear hx
  cases no
  · have hs : tkS 2 st = some (X.l.drop a) := hab.symm
    by_cases hl : lim ≤ n
    · have HV : Hid (r = 0 ∧ belowS lim st = none) := by
        show _ ∧ _
        rw [← HB.out]
        unfold belowV belowS
        rw [hs, HQ.out]
        exact ⟨if_pos (Or.inr hl), if_pos (Or.inr hl)⟩
      clear hs hab
      go_wp2
      go_ret
      exact ⟨ret_int (by rw [HV.out.1]; rfl), by rw [HV.out.2]; exact ⟨a, true, HX.out.set2 true, rfl⟩, gb_set hg _ _⟩
    · have HV : Hid (r = n ∧ belowS lim st = some (X.l.drop a)) := by
        show _ ∧ _
        rw [← HB.out]
        unfold belowV belowS
        rw [hs, HQ.out]
        have hno : ¬ ((some (X.l.drop a) : Option (List Nat)).isNone = true ∨ lim ≤ n) := by rintro (h | h); cases h; exact hl h
        exact ⟨if_neg hno, if_neg hno⟩
      clear hs hab
      go_wp2
      go_ret
      exact ⟨ret_int (by rw [HV.out.1]), by rw [HV.out.2]; exact ⟨a, false, HX.out, rfl⟩, hg⟩
  · have hs : tkS 2 st = none := hab.symm
    have HV : Hid (r = 0 ∧ belowS lim st = none ∧ n = 0) := by
      show _ ∧ _ ∧ _
      rw [← HB.out, ← HQ.out]
      unfold belowV belowS
      rw [hs]
      exact ⟨if_pos (Or.inl rfl), if_pos (Or.inl rfl), by unfold shortV; rw [tk_none hs]; rfl⟩
    clear hs hab
    go_wp2
    go_ret
    exact ⟨ret_int (by rw [HV.out.1, HV.out.2.2]), by rw [HV.out.2.1]; exact ⟨a, true, HX.out, rfl⟩, hg⟩

set_option maxHeartbeats 2000000 in
theorem xleft_any (q : Nat) (X : Bys) (st : Option (List Nat)) (w : World) (h : Rf w q X st) :
    Calls Try.prog 27 #[.pointer (some ⟨q, 0, none⟩)] w fun e w' => e = .returned (.int .i64 (leftV st)) ∧ Below w.heap.size w w' := by
  obtain ⟨a, no, hx, rfl⟩ := h
  obtain ⟨c0, c1, c2, f1, f2⟩ := blk3 hx.blk
  have hb := hx.at'.bound
  have hlc := hx.at'.lc
  have hle := hx.le
  clear hx
  cases no
  · have HV : Hid (leftV (abst X a false) = X.len - a) := by show (X.l.drop a).length = _; rw [List.length_drop, X.len_l]
    rw [HV.out]
    go_enter Try.func27, Try.ntmps27
    go_wp2
    go_region
    go_wp2
    go_ret
    exact ⟨ret_int (by omega), (Below.refl _ _).drew⟩
  · go_enter Try.func27, Try.ntmps27
    go_wp2
    go_ret
    exact ⟨rfl, Below.refl _ _⟩

/-- The number that the first k bytes say, the first one signed. -/
def snv (f : Nat → Nat) (k : Nat) : Int := (valF f k : Int) - (if 128 ≤ f 0 then (256 : Int) ^ k else 0)
theorem snv_one (f : Nat → Nat) : snv f 1 = (f 0 : Int) - (if 128 ≤ f 0 then 256 else 0) := by
  unfold snv
  rw [show valF f 1 = f 0 from by show 0 * 256 + f 0 = _; omega]
  rfl
theorem snv_succ (f : Nat → Nat) (k : Nat) : snv f (k + 1) = snv f k * 256 + f k := by
  unfold snv
  rw [show valF f (k + 1) = valF f k * 256 + f k from rfl]
  split
  · rw [Int.pow_succ]
    generalize (256 : Int) ^ k = E
    omega
  · omega
theorem snv_bound (f : Nat → Nat) (hf : ∀ i, i < 8 → f i < 256) (k : Nat) (hk : k < 8) : -(128 * (256 : Int) ^ k) ≤ snv f (k + 1) ∧ snv f (k + 1) < 128 * (256 : Int) ^ k := by
  induction k with
  | zero =>
    rw [snv_one]
    have := hf 0 (by omega)
    simp only [Int.pow_zero]
    split <;> omega
  | succ k ih =>
    have h := ih (by omega)
    have hb := hf (k + 1) (by omega)
    rw [snv_succ, Int.pow_succ]
    generalize (256 : Int) ^ k = E at *
    omega
theorem snv_7 (f : Nat → Nat) (hf : ∀ i, i < 8 → f i < 256) (k : Nat) (h0 : 0 < k) (hk : k < 8) : -36028797018963968 ≤ snv f k ∧ snv f k < 36028797018963968 := by
  obtain ⟨j, rfl⟩ : ∃ j, k = j + 1 := ⟨k - 1, by omega⟩
  have h := snv_bound f hf j (by omega)
  have hp : (256 : Int) ^ j ≤ 256 ^ 6 := by
    have : (256 : Nat) ^ j ≤ 256 ^ 6 := Nat.pow_le_pow_right (by omega) (by omega)
    have h2 : ((256 ^ j : Nat) : Int) ≤ ((256 ^ 6 : Nat) : Int) := Int.ofNat_le.2 this
    rw [Int.natCast_pow, Int.natCast_pow] at h2
    exact h2
  have e : (256 : Int) ^ 6 = 281474976710656 := by decide
  omega
theorem snv_8 (f : Nat → Nat) (hf : ∀ i, i < 8 → f i < 256) : snv f 8 = sgn (valF f 8) := by
  have h := snv_bound f hf 7 (by omega)
  have e : (256 : Int) ^ 7 = 72057594037927936 := by decide
  have e8 : (256 : Int) ^ 8 = 18446744073709551616 := by decide
  rw [e] at h
  unfold snv at h ⊢
  unfold sgn
  rw [e8] at h ⊢
  split <;> split <;> simp_all <;> omega

set_option maxRecDepth 100000 in
set_option maxHeartbeats 4000000 in
theorem xlong_any (q : Nat) (X : Bys) (st : Option (List Nat)) (w : World) (h : Rf w q X st) :
    Calls Try.prog 21 #[.pointer (some ⟨q, 0, none⟩)] w fun e w' => e = .returned (.int .i64 (longV st)) ∧ Rf w' q X (tkS 8 st) ∧ w.grownBy w' (some q) := by
  have H : Hid (Rf w q X st) := h
  clear h
  go_enter Try.func21, Try.ntmps21
  go_wp2_with fail
  refine (xtake_any q 8 X st w H.out).mono ?_
  rintro e w1 ⟨v, rfl, ⟨R, rfl, hR, hl, _⟩, hf, hg⟩
  have HF : Hid (Rf w1 q X (tkS 8 st)) := hf
  obtain ⟨ao, b, o, len, cap, f⟩ := R
  have hlen : len = (tk 8 st).length := by rw [← hl]; exact (Bys.len_l ⟨ao, b, o, len, cap, f⟩).symm
  have hlc : len ≤ cap := hR.lc
  have hbd : cap ≤ 9223372036854775807 := hR.bound
  have hv : longV st = sgn (valF f len) := by unfold longV; rw [← hl]; exact congrArg sgn (val_range _ _)
  clear hf
  rcases tk_or 8 st with h0 | h2
  · rw [h0] at hlen
    have hlen' : len = 0 := hlen
    subst hlen'
    have HV : Hid (longV st = 0) := hv
    clear hv hlen hR hl h0
    go_wp2
    go_ret
    exact ⟨ret_int HV.out.symm, HF.out, hg⟩
  · rw [h2] at hlen
    subst hlen
    have hao : ao = some ⟨b, o, none⟩ := hR.nil (by show 0 < 8; omega)
    subst hao
    have HC : Hid (∀ i, i < 8 → w1.cell? ⟨b, o + i, none⟩ = some (.int .u8 (f i))) := fun i hi => hR.cell i hi
    have HL : Hid (∀ i, i < 8 → f i < 256) := fun i hi => hR.lt i hi
    have d0 : w1.cell? ⟨b, o, none⟩ = some (.int .u8 (f 0)) := HC.out 0 (by omega)
    have l0 : f 0 < 256 := HL.out 0 (by omega)
    have HV : Hid (longV st = snv f 8) := by show _ = _; rw [hv, snv_8 f HL.out]
    have H1 : Hid (snv f 1 = (f 0 : Int) - (if 128 ≤ f 0 then 256 else 0)) := snv_one f
    clear hv hR hl h2
    go_upto_if 16 with fail
    go_cut [4] (fun n wx => n = .int .i64 (snv f 1) ∧ wx = w1)
    case first =>
      by_cases h128 : 128 ≤ f 0
      · go_wp2
        go_meet
        case rel => exact ⟨by rw [H1.out, if_pos h128], rfl⟩
      · go_wp2
        go_meet
        case rel => exact ⟨by rw [H1.out, if_neg h128, Int.sub_zero], rfl⟩
    case rest =>
      obtain ⟨rfl, rfl⟩ := hcut
      go_wp2
      go_loop [4, 5] (fun n i => ∃ k : Nat, 0 < k ∧ k ≤ 8 ∧ i = .int .i64 k ∧ n = .int .i64 (snv f k)) (fun _ i => 8 - (intOf i).toNat)
      case atStart => exact ⟨1, by omega, by omega, rfl, rfl⟩
      case round =>
        obtain ⟨k, hk0, hk, rfl, rfl⟩ := hrel
        by_cases hlt : k < 8
        · have ck := HC.out k hlt
          have lk := HL.out k hlt
          have bk := snv_7 f HL.out k hk0 hlt
          have HS : Hid (snv f (k + 1) = snv f k * 256 + f k) := snv_succ f k
          go_wp2
          go_round
          case rel => exact ⟨k + 1, by omega, by omega, by go_num, by rw [HS.out]⟩
          case measure => simp [intOf]; omega
        · have e : k = 8 := by omega
          subst e
          go_wp2
          go_ret
          exact ⟨ret_int HV.out.symm, HF.out, hg⟩
end Go.Proofs.Ytboehlfdfpiodaa
