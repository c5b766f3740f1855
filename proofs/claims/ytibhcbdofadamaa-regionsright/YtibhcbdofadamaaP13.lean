/- Layer 15: slices.Repeat of one number. -/
import Derived.Test.YtibhcbdofadamaaP12
import Derived.Test.YtibhcbdofadamaaP11
import Derived.Laws.CopyOwn
import Derived.Laws.OwnMore
import Derived.Deep.LoopGhost
import Derived.Deep.CutBlock
namespace Go.Proofs.Ytibhcbdofadamaa
open Go Go.RowKit

theorem blk_of_own {w : World} {base : Nat} {e : TypeId} {g n : Nat} {xs : List Value} (h : w.ownsRow base e 1 (.slice (some ⟨g, 0, none⟩) n n) n xs) : Blk w g xs e := by
  obtain ⟨h0, ⟨h1, _⟩ | ⟨g', cap, cur, h1, _, h3, _, _, h6, h7⟩⟩ := h
  · cases h1
  · injection h1 with e1 _ e3
    injection e1 with e1
    injection e1 with e1
    subst e1; subst e3
    unfold Blk
    rw [h3]
    congr 2
    apply Array.toList_inj.1
    rw [← h7, List.take_of_length_le (by simp; omega)]
/-- make of n elements of one cell. -/
theorem wpList_make_blk {w : World} {ops : Array Oper} {rest : List Oper} {o : Oper} {a : Act} {Q : Exit → Act → World → Prop}
    (hg : o.guard = none) (l c : Operand) (t : TypeId) (hop : o.op = Op.makeSlice t l c) (e : TypeId) (z : Value) (bytes : Nat) (h1 : Try.prog.underlying t = some (.slice e)) (hinf : (Try.prog.info? e).map (fun i => (i.zero, i.size, i.bytes)) = some (some z, 1, bytes)) (hz : z.cells = #[z])
    (n : Nat) (hl : a.eval l = .int .i64 (n : Int)) (hc : a.eval c = .int .i64 (n : Int)) (b2 : bytes * n ≤ 281474976710656) (b3 : n ≤ 1000000000)
    (hK : ∀ w', Blk w' w.heap.size (List.replicate n z) e → Below w.heap.size w w' → wpList Try.prog ops Q rest (a.put o.dst (.slice (some ⟨w.heap.size, 0, none⟩) n n)) w') :
    wpList Try.prog ops Q (o :: rest) a w := by
  obtain ⟨i0, hi, hz0, hz1, hz2⟩ := info_parts hinf
  refine wpList_make_full w hg l c t hop w.heap.size e i0 z 1 h1 hi hz0 hz1 .i64 .i64 n n n hl hc rfl rfl (by rw [hz2]; exact b2) (by unfold maxLen; omega) (Nat.le_refl _) ?_
  intro w' ho hgr
  refine hK w' ?_ (gb_bel (Below.refl _ _) hgr (fun k hk => by cases hk))
  have := blk_of_own ho
  rw [hz, Nat.mul_one, toList_madeCells_one] at this
  exact this

/-- The first k are x, the others z. -/
def rpC (x : Int) (k n : Nat) : List Value := List.replicate k (.int .i64 x) ++ List.replicate (n - k) (.int .i64 0)
theorem rpC_len {x : Int} {k n : Nat} (h : k ≤ n) : (rpC x k n).length = n := by simp [rpC]; omega
theorem rpC_splice {x : Int} {k n m : Nat} (h : k + m ≤ n) : splice (rpC x k n) k (List.replicate m (.int .i64 x)) = rpC x (k + m) n := by
  unfold splice rpC
  simp only [List.length_replicate]
  rw [List.take_left' (by simp), List.drop_append]
  simp only [List.length_replicate, List.drop_replicate]
  rw [show k - (k + m) = 0 by omega, List.replicate_zero, List.nil_append, show n - k - (k + m - k) = n - (k + m) by omega, ← List.append_assoc, List.replicate_append_replicate]
set_option maxRecDepth 100000 in
set_option maxHeartbeats 8000000 in
theorem repeat_any (x : Int) (n b : Nat) (w : World) (hx : w.cell? ⟨b, 0, none⟩ = some (.int .i64 x)) (hn : n ≤ 100000) : Calls Try.prog 41 #[.slice (some ⟨b, 0, none⟩) 1 1, .int .i64 n] w fun e w' => ∃ B, e = .returned (.slice (some ⟨B, 0, none⟩) n n) ∧ w.heap.size ≤ B ∧ Blk w' B (List.replicate n (.int .i64 x)) 3 ∧ Below w.heap.size w w' := by
  have i0 : ¬ (n : Int) < 0 := by omega
  have h0 := Try.bits_Mul 1 n (by omega) (by omega) w
  rw [show 1 * n / 18446744073709551616 = 0 by omega, show 1 * n % 18446744073709551616 = n by omega] at h0
  have e1 : IntKind.u64.wrap (n : Int) = n := by rw [IntKind.wrap_u64]; omega
  go_enter Try.func41, Try.ntmps41
  go_wp2_with fail
  refine h0.mono ?_
  rintro _ w9 ⟨rfl, hww⟩
  rw [hww]
  clear h0 i0 hww w9
  have i1 : ¬ (9223372036854775807 : Int) < n := by omega
  have e2 : IntKind.i64.wrap (n : Int) = n := by rw [IntKind.wrap_i64]; omega
  have HX := hyd hx
  clear hx
  go_upto_region 7 with (refine wpList_make_blk rfl _ _ _ rfl 3 (.int .i64 0) 8 Try.underlying36 Try.infoI rfl n rfl rfl (by omega) (by omega) ?_; intro w1 hb1 hl1; have H1 := hyd (show Blk w1 w.heap.size (rpC x 0 n) 3 ∧ Below w.heap.size w w1 from ⟨by simpa [rpC] using hb1, hl1⟩); clear hb1 hl1)
  have hmin : Nat.min 1 n = min 1 n := rfl
  go_wp2_with (refine wpList_copy_splice rfl _ _ 36 36 rfl 3 Try.underlying36 (by kernel_rfl) (some ⟨w.heap.size, 0, none⟩) (some ⟨b, 0, none⟩) n n 1 1 rfl rfl w.heap.size 0 (rpC x 0 n) 3 H1.out.1 (List.replicate (min 1 n) (.int .i64 x)) (by rw [List.length_replicate, hmin]) (fun hp => ⟨rfl, _, rfl, fun j v hj => by have hj0 : j = 0 := by { have := (List.getElem?_eq_some_iff.1 hj).1; rw [List.length_replicate] at this; omega }; subst hj0; have hv : v = .int .i64 x := List.eq_of_mem_replicate (List.mem_of_getElem? hj); subst hv; rw [adp]; exact up H1.out.2 HX.out⟩) (by rw [rpC_len (Nat.zero_le _), List.length_replicate]; omega) (fun v hv => by rw [List.eq_of_mem_replicate hv]; rfl) w.heap.size w H1.out.2 (Nat.le_refl _) ?_; intro w2 hb2 hl2; have H2 := hyd (show Blk w2 w.heap.size (rpC x (min 1 n) n) 3 ∧ Below w.heap.size w w2 from ⟨by have := hb2.out; rw [rpC_splice (by omega), Nat.zero_add] at this; exact this, hl2⟩); clear hb2 hl2 H1)
  clear e1 e2 i1 HX hmin
  generalize hBs : w.heap.size = B at *
  go_loopw [8] (fun i wr => ∃ k : Nat, k ≤ n ∧ (0 < n → 0 < k) ∧ i = .int .i64 k ∧ Blk wr B (rpC x k n) 3 ∧ Below B w wr) (fun i _ => n - (intOf i).toNat)
  case atStart => exact ⟨min 1 n, by omega, by omega, by simp, H2.out⟩
  case round =>
    clear H2
    obtain ⟨k, hk, hk0, rfl, hB⟩ := hrel
    have HB := hyd hB
    clear hB
    by_cases hlt : k < n
    · have il : (k : Int) < n := by omega
      have hkp := hk0 (by omega)
      go_upto_region 9 with fail
      have ic : ¬ n = k := by omega
      have i1 : (0 : Int) ≤ k := by omega
      have i2 : (k : Int) ≤ n := by omega
      refine wp_region_readsQN (fun _ => True) [0, 1, 2, 3, 4, 5, 6] 3 (by kernel_rfl) rfl (by kernel_rfl) (hj_ofQ (by kernel_rfl)) trivial ?_
      simp only [List.filterMap, List.getElem?_cons_zero, List.getElem?_cons_succ]
      iterate 7 go_big_quiet_step (rfl)
      refine wpQuiet_nil ?_
      refine wpAnyH_ready (rs := [7]) (by kernel_rfl) (by simp) ?_
      refine AllReadyH.cons rfl (fun K hK => ?_) AllReadyH.nil
      refine step_copy_splice rfl (.tmp 41) (.tmp 44) 36 36 rfl 3 Try.underlying36 (by kernel_rfl) (some ⟨B, k, none⟩) (some ⟨B, 0, none⟩) (n - k) (n - k) k n (by kernel_rfl) (by kernel_rfl) B k (rpC x k n) 3 HB.out.1 (List.replicate (min k (n - k)) (.int .i64 x)) (by rw [List.length_replicate]) (fun hp => ⟨rfl, _, rfl, fun j v hj => ?cell⟩) (by rw [rpC_len hk, List.length_replicate]; omega) (fun v hv => by rw [List.eq_of_mem_replicate hv]; rfl) B w HB.out.2.drew (Nat.le_refl _) ?_
      case cell =>
        have hj0 : j < min k (n - k) := by have := (List.getElem?_eq_some_iff.1 hj).1; rwa [List.length_replicate] at this
        have hv : v = .int .i64 x := List.eq_of_mem_replicate (List.mem_of_getElem? hj)
        subst hv
        rw [adp, Nat.zero_add]
        have hc : (rpC x k n)[j]? = some (.int .i64 x) := by
          unfold rpC
          rw [List.getElem?_append_left (by rw [List.length_replicate]; omega), List.getElem?_replicate, if_pos (by omega)]
        exact HB.out.1.cell j hc
      intro w4 hg4 hb4
      have H4 := hyd (show Blk w4 B (rpC x (k + min k (n - k)) n) 3 ∧ Below B w w4 from ⟨by have := hg4.out; rw [rpC_splice (by omega)] at this; exact this, hb4⟩)
      clear hg4 hb4 HB
      rw [List.length_replicate]
      obtain ⟨m, hm⟩ : ∃ m, m = min k (n - k) := ⟨_, rfl⟩
      rw [← hm] at H4
      rw [← hm]
      have hmk : m ≤ n - k ∧ 0 < m := by omega
      clear hm
      refine hK.out _ _ trivial (fun _ => ?_)
      clear hK K
      refine wpAnyH_ready (rs := [8]) (by kernel_rfl) (by simp) ?_
      refine AllReadyH.cons rfl (fun K hK => ?_) AllReadyH.nil
      rw [if_pos (by rfl)]
      go_simp
      rw [show IntKind.i64.wrap ((k : Int) + (m : Int)) = ((k + m : Nat) : Int) by rw [IntKind.wrap_i64]; omega]
      refine hK.out _ _ trivial (fun _ => ?_)
      clear hK K
      refine wpAnyH_ready (rs := [9]) (by kernel_rfl) (by simp) ?_
      refine AllReadyH.cons rfl (fun K hK => ?_) AllReadyH.nil
      rw [if_pos (by rfl)]
      go_simp
      refine hK.out _ _ trivial (fun _ => ?_)
      clear hK K
      refine wpAnyH_done (by kernel_rfl) ?_ _
      refine ⟨(fun c hc => by cases hc), ?_⟩
      go_wp2
      go_roundw
      case rel => exact ⟨k + m, by omega, by omega, rfl, H4.out⟩
      case measure => simp [intOf]; omega
    · have il : ¬ (k : Int) < n := by omega
      have e : k = n := by omega
      subst e
      have HB2 : Hid (Blk wr B (List.replicate k (.int .i64 x)) 3) := by show Blk _ _ _ _; have := HB.out.1; simpa [rpC] using this
      go_wp2
      go_ret
      exact ⟨B, rfl, Nat.le_refl _, HB2.out, HB.out.2⟩
end Go.Proofs.Ytibhcbdofadamaa

/- Layer 15: freeFrom: the first place that has no handler yet. -/
namespace Go.Proofs.Ytibhcbdofadamaa
open Go Go.RowKit

/-- Numbers in a row. -/
def nvL (a : Nat → Int) (n : Nat) : List Value := (List.range n).map fun i => .int .i64 (a i)
theorem nvL_len (a : Nat → Int) (n : Nat) : (nvL a n).length = n := by simp [nvL]
theorem nvL_get (a : Nat → Int) {n i : Nat} (h : i < n) : (nvL a n)[i]? = some (.int .i64 (a i)) := by simp [nvL, h]
def updI (a : Nat → Int) (k : Nat) (x : Int) : Nat → Int := fun i => if i = k then x else a i
theorem nvL_set (a : Nat → Int) (n k : Nat) (x : Int) : (nvL a n).set k (.int .i64 x) = nvL (updI a k x) n := by
  apply List.ext_getElem?
  intro i
  rw [List.getElem?_set]
  by_cases e : k = i
  · subst e
    rw [if_pos rfl]
    by_cases h : k < n
    · rw [nvL_len, if_pos h, nvL_get _ h]; simp [updI]
    · rw [nvL_len, if_neg h, List.getElem?_eq_none (by rw [nvL_len]; omega)]
  · rw [if_neg e]
    by_cases h : i < n
    · rw [nvL_get _ h, nvL_get _ h]
      simp [updI, show ¬ i = k from fun h => e h.symm]
    · rw [List.getElem?_eq_none (by rw [nvL_len]; omega), List.getElem?_eq_none (by rw [nvL_len]; omega)]
theorem rpl_nvL (n : Nat) (x : Int) : List.replicate n (Value.int .i64 x) = nvL (fun _ => x) n := by
  apply List.ext_getElem?
  intro i
  by_cases h : i < n
  · rw [nvL_get _ h, List.getElem?_replicate, if_pos h]
  · rw [List.getElem?_eq_none (by simp; omega), List.getElem?_eq_none (by rw [nvL_len]; omega)]
theorem WroteB.gb {w w' : World} {B : Nat} {c : List Value} {t : TypeId} (h : WroteB w w' B c t) : w.grownBy w' (some B) := by
  have hb := h.below (Nat.le_refl B) (Below.refl B w)
  exact ⟨hb.os, hb.tape, hb.output, Nat.le_of_eq h.size.symm, fun k _ hne => h.other k (fun e => hne (by rw [e]))⟩
theorem gb_trans {a b c : World} {r : Option Nat} (h : a.grownBy b r) (k : b.grownBy c r) : a.grownBy c r :=
  ⟨k.os.trans h.os, k.tape.trans h.tape, k.output.trans h.output, Nat.le_trans h.size k.size, fun i hi hne => (k.block i (Nat.lt_of_lt_of_le hi h.size) hne).trans (h.block i hi hne)⟩

/-- Leaps: a number that is free is its own, all that is leapt over isn't free. -/
structure Ah (n : Nat) (S : Nat → Prop) (a : Nat → Int) : Prop where
  le : ∀ k : Nat, k ≤ n → (k : Int) ≤ a k ∧ a k ≤ n
  fix : ∀ k : Nat, k ≤ n → (a k = k ↔ ¬ S k)
  run : ∀ k j : Nat, k ≤ n → k ≤ j → (j : Int) < a k → S j
theorem Ah.half {n : Nat} {S : Nat → Prop} {a : Nat → Int} (h : Ah n S a) {k : Nat} (hk : k ≤ n) (hne : a k ≠ k) : Ah n S (updI a k (a (a k).toNat)) := by
  have h1 := h.le k hk
  have e : ((a k).toNat : Int) = a k := by omega
  have h2 := h.le (a k).toNat (by omega)
  refine ⟨fun i hi => ?_, fun i hi => ?_, fun i j hi hij hj => ?_⟩
  · unfold updI; split
    · rename_i e1; subst e1; omega
    · exact h.le i hi
  · unfold updI; split
    · rename_i e1; subst e1
      have h3 : ¬ ¬ S i := fun h4 => hne ((h.fix i hi).2 h4)
      constructor
      · intro h4; omega
      · intro h4; exact absurd h4 h3
    · exact h.fix i hi
  · unfold updI at hj; split at hj
    · rename_i e1; subst e1
      by_cases h3 : (j : Int) < a i
      · exact h.run i j hi hij h3
      · exact h.run (a i).toNat j (by omega) (by omega) hj
    · exact h.run i j hi hij hj
theorem Ah.take {n : Nat} {S : Nat → Prop} {a : Nat → Int} (h : Ah n S a) {r : Nat} (hr : r < n) : Ah n (fun p => S p ∨ p = r) (updI a r ((r : Int) + 1)) := by
  refine ⟨fun i hi => ?_, fun i hi => ?_, fun i j hi hij hj => ?_⟩
  · unfold updI; split
    · rename_i e1; subst e1; omega
    · exact h.le i hi
  · unfold updI; split
    · rename_i e1; subst e1
      constructor
      · intro h4; omega
      · intro h4; exact absurd (Or.inr rfl) h4
    · rename_i e1
      rw [h.fix i hi]
      constructor
      · rintro h4 (h5 | h5); exact h4 h5; exact e1 h5
      · intro h4 h5; exact h4 (Or.inl h5)
  · unfold updI at hj; split at hj
    · rename_i e1; subst e1; right; omega
    · left; exact h.run i j hi hij hj
/-- Its row. -/
structure Ax (w : World) (B n : Nat) (S : Nat → Prop) (a : Nat → Int) (u : World) : Prop where
  ah : Ah n S a
  b : Blk u B (nvL a (n + 1)) 3
  g : w.grownBy u (some B)
structure FrR (n : Nat) (S : Nat → Prop) (at_ r : Nat) : Prop where
  le : r ≤ n
  no : ¬ S r
  ge : at_ ≤ n → at_ ≤ r
  all : ∀ j, at_ ≤ j → j < r → S j
  far : ¬ at_ ≤ n → r = n
set_option maxRecDepth 100000 in
set_option maxHeartbeats 8000000 in
theorem freeFrom_any (n N : Nat) (S : Nat → Prop) (B : Nat) (a : Nat → Int) (at_ : Nat) (w : World) (hN : N = n + 1) (hn : n ≤ 100000) (hS : ¬ S n) (hA : Ah n S a) (hB : Blk w B (nvL a (n + 1)) 3) :
    Calls Try.prog 47 #[.slice (some ⟨B, 0, none⟩) N N, .int .i64 at_] w fun e w' => ∃ r a', e = .returned (.int .i64 (r : Nat)) ∧ FrR n S at_ r ∧ Ax w B n S a' w' := by
  have HN := hyd hN
  have HX : Hid (Ax w B n S a w) := ⟨hA, hB, gbr _ _⟩
  have HS := hyd hS
  clear hA hB hS hN
  by_cases h0 : N ≤ at_
  · have i0 : (N : Int) ≤ at_ := by omega
    have e1 : IntKind.i64.wrap ((N : Int) - 1) = n := by rw [IntKind.wrap_i64]; have := HN.out; omega
    have hN1 : N ≤ 100001 := by have := HN.out; omega
    go_enter Try.func47, Try.ntmps47
    go_wp2
    go_ret
    exact ⟨n, a, by first | rfl | (rw [← e1]), ⟨Nat.le_refl _, HS.out, fun h => by have := HN.out; omega, fun j h1 h2 => by have := HN.out; omega, fun _ => rfl⟩, HX.out⟩
  · have i0 : ¬ (N : Int) ≤ at_ := by omega
    go_enter Try.func47, Try.ntmps47
    go_wp2
    have hle : at_ ≤ n := by have := HN.out; omega
    clear i0 h0
    go_loopw [1] (fun i wr => ∃ (k : Nat) (a' : Nat → Int), k ≤ n ∧ at_ ≤ k ∧ i = .int .i64 k ∧ (∀ j, at_ ≤ j → j < k → S j) ∧ Ax w B n S a' wr) (fun i _ => n - (intOf i).toNat)
    case atStart => exact ⟨at_, a, hle, Nat.le_refl _, rfl, fun j h1 h2 => by omega, HX.out⟩
    case round =>
      clear HX
      obtain ⟨k, a', hk, hge, rfl, hall, hX⟩ := hrel
      have HX := hyd hX
      have HL := hyd hall
      clear hX hall
      have hNN := HN.out
      have ik : (k : Int) < N := by omega
      have c0 := HX.out.b.cell k (nvL_get a' (show k < n + 1 by omega))
      have hl1 := HX.out.ah.le k hk
      obtain ⟨y, hy⟩ : ∃ y : Nat, a' k = y := ⟨(a' k).toNat, by omega⟩
      have HY := hyd hy
      rw [hy] at c0 hl1
      clear hy
      by_cases e : y = k
      · have d : ((y : Int) != (k : Int)) = false := by simp [e]
        have HE : Hid (FrR n S at_ k) := ⟨hk, (HX.out.ah.fix k hk).1 (by rw [HY.out, e]), fun _ => hge, HL.out, fun h => absurd hle h⟩
        clear e
        go_wp2
        go_ret
        exact ⟨k, a', rfl, HE.out, HX.out⟩
      · have d : ((y : Int) != (k : Int)) = true := by simp; omega
        have iy : (y : Int) < N := by omega
        have c1 := HX.out.b.cell y (nvL_get a' (show y < n + 1 by omega))
        have HH := hyd (HX.out.ah.half hk (by rw [HY.out]; omega))
        have hl2 := HX.out.ah.le y (by omega)
        have HR := hyd (HX.out.ah.run k)
        rw [HY.out] at HR
        rw [HY.out, Int.toNat_natCast] at HH
        obtain ⟨z, hz⟩ : ∃ z : Nat, a' y = z := ⟨(a' y).toNat, by omega⟩
        rw [hz] at c1 HH hl2
        have HR2 := hyd (HX.out.ah.run y)
        rw [hz] at HR2
        clear hz
        go_wp2_with (refine wpList_store1 rfl 3 (.tmp 27) (.tmp 26) rfl rfl B k (.int .i64 z) _ _ (by kernel_rfl) (by kernel_rfl) (store_one _ _ (by kernel_rfl) rfl rfl _ _) HX.out.b (by rw [nvL_len]; omega) ?_; intro w1 W1; have HX1 : Hid (Ax w B n S (updI a' k z) w1) := ⟨HH.out, by rw [← nvL_set]; exact W1.blk, gb_trans HX.out.g W1.gb⟩; have c2 : w1.cell? ⟨B, k, none⟩ = some (.int .i64 z) := by { have := HX1.out.b.cell k (nvL_get _ (show k < n + 1 by omega)); simpa [updI] using this }; clear W1 HX c0 c1 HH)
        go_roundw
        case rel =>
          refine ⟨z, _, by omega, by omega, rfl, fun j h1 h2 => ?_, HX1.out⟩
          by_cases g1 : j < k
          · exact HL.out j h1 g1
          · by_cases g2 : j < y
            · exact HR.out j hk (by omega) (by omega)
            · exact HR2.out j (by omega) (by omega) (by omega)
        case measure => simp [intOf]; omega
end Go.Proofs.Ytibhcbdofadamaa

/- Layer 15: all handlers in one go: the mathematics. -/
namespace Go.Proofs.Ytibhcbdofadamaa
open Go Go.RowKit

theorem nvL_congr {a b : Nat → Int} {n : Nat} (h : ∀ p, p < n → a p = b p) : nvL a n = nvL b n := by
  unfold nvL
  apply List.map_congr_left
  intro i hi
  rw [h i (List.mem_range.1 hi)]
/-- The first of j handlers that holds a number. -/
def Cf.fnd (f : Cf) (j : Nat) (p : Int) : Option Nat := (List.range j).find? (f.hit p)
def Cf.SJ (f : Cf) (j : Nat) (p : Nat) : Prop := p < f.cd.len ∧ (f.fnd j p).isSome = true
def Cf.vJ (f : Cf) (j : Nat) (p : Nat) : Int := match f.fnd j p with | some i => (f.hd.x i).at_ | none => -1
theorem Cf.vJ_end (f : Cf) (p : Nat) : f.vJ f.hd.len p = f.han p := rfl
theorem Cf.vJ_zero (f : Cf) (p : Nat) : f.vJ 0 p = -1 := rfl
theorem Cf.SJ_zero (f : Cf) : f.SJ 0 = fun _ => False := by
  funext p; apply propext
  exact ⟨fun h => by have := h.2; simp [Cf.fnd] at this, fun h => h.elim⟩
theorem Cf.fnd_succ (f : Cf) (j : Nat) (p : Int) : f.fnd (j + 1) p = match f.fnd j p with | some i => some i | none => if f.hit p j = true then some j else none := by
  unfold Cf.fnd
  rw [List.range_succ, List.find?_append]
  cases (List.range j).find? (f.hit p) with
  | some i => rfl
  | none =>
    simp only [Option.none_or]
    cases hh : f.hit p j <;> simp [hh]
theorem Cf.SJ_end (f : Cf) (j : Nat) : ¬ f.SJ j f.cd.len := fun h => Nat.lt_irrefl _ h.1
def Cf.sIn (f : Cf) (j lo : Nat) (hi : Int) (r p : Nat) : Prop := f.SJ j p ∨ ((lo ≤ p ∧ p < r) ∧ (p : Int) < hi)
def Cf.vIn (f : Cf) (j lo : Nat) (hi x : Int) (r p : Nat) : Int := if (f.fnd j p).isSome = false ∧ (lo ≤ p ∧ p < r) ∧ (p : Int) < hi then x else f.vJ j p
theorem Cf.in_start {f : Cf} {j lo r : Nat} {hi x : Int} (h : FrR f.cd.len (f.SJ j) lo r) : f.sIn j lo hi r = f.SJ j ∧ f.vIn j lo hi x r = f.vJ j := by
  constructor
  · funext p; apply propext
    exact ⟨fun h1 => h1.elim id (fun h2 => h.all p h2.1.1 h2.1.2), Or.inl⟩
  · funext p
    unfold Cf.vIn
    rw [if_neg]
    rintro ⟨h1, h2, _⟩
    have := (h.all p h2.1 h2.2).2
    rw [h1] at this
    cases this
theorem Cf.in_step {f : Cf} {j lo r r' : Nat} {hi x : Int} (hr : ¬ f.sIn j lo hi r r) (hlt : (r : Int) < hi) (hn : r < f.cd.len) (hlo : lo ≤ r) (h : FrR f.cd.len (fun p => f.sIn j lo hi r p ∨ p = r) r r') :
    r < r' ∧ (fun p => f.sIn j lo hi r p ∨ p = r) = f.sIn j lo hi r' ∧ updI (f.vIn j lo hi x r) r x = f.vIn j lo hi x r' := by
  have h1 := h.ge (by omega)
  have h2 : r ≠ r' := fun e => h.no (Or.inr e.symm)
  have hrr : r < r' := by omega
  have key : ∀ p, r < p → p < r' → f.SJ j p := fun p h3 h4 => by
    rcases h.all p (by omega) h4 with (h5 | h5) | h5
    · exact h5
    · omega
    · omega
  refine ⟨hrr, ?_, ?_⟩
  · funext p; apply propext
    constructor
    · rintro ((h3 | h3) | h3)
      · exact Or.inl h3
      · exact Or.inr ⟨⟨h3.1.1, by omega⟩, h3.2⟩
      · subst h3; exact Or.inr ⟨⟨hlo, hrr⟩, hlt⟩
    · rintro (h3 | ⟨⟨h3, h4⟩, h5⟩)
      · exact Or.inl (Or.inl h3)
      · by_cases e1 : p < r
        · exact Or.inl (Or.inr ⟨⟨h3, e1⟩, h5⟩)
        · by_cases e2 : p = r
          · exact Or.inr e2
          · exact Or.inl (Or.inl (key p (by omega) h4))
  · funext p
    unfold updI
    by_cases e : p = r
    · subst e
      rw [if_pos rfl]
      unfold Cf.vIn
      rw [if_pos]
      refine ⟨?_, ⟨hlo, hrr⟩, hlt⟩
      cases hs : (f.fnd j (p : Int)).isSome
      · rfl
      · exact absurd (Or.inl ⟨hn, hs⟩) hr
    · rw [if_neg e]
      unfold Cf.vIn
      by_cases e1 : p < r
      · by_cases c : (f.fnd j (p : Int)).isSome = false ∧ (lo ≤ p ∧ p < r) ∧ (p : Int) < hi
        · rw [if_pos c, if_pos ⟨c.1, ⟨c.2.1.1, by omega⟩, c.2.2⟩]
        · rw [if_neg c, if_neg]
          rintro ⟨c1, c2, c3⟩
          exact c ⟨c1, ⟨c2.1, e1⟩, c3⟩
      · rw [if_neg (fun c => e1 c.2.1.2), if_neg]
        rintro ⟨c1, c2, c3⟩
        have := (key p (by omega) c2.2).2
        rw [c1] at this
        cases this
theorem Cf.in_done {f : Cf} {j lo r : Nat} {hi : Int} (hl : (lo : Int) = max (f.hd.x j).fr 0) (hh : hi = min (f.hd.x j).to f.cd.len) (hge : ¬ (r : Int) < hi) :
    f.sIn j lo hi r = f.SJ (j + 1) ∧ ∀ p, p < f.cd.len → f.vIn j lo hi (f.hd.x j).at_ r p = f.vJ (j + 1) p := by
  have hhit : ∀ p : Nat, p < f.cd.len → (f.hit p j = true ↔ lo ≤ p ∧ (p : Int) < hi) := fun p hp => by
    unfold Cf.hit
    simp only [Bool.and_eq_true, decide_eq_true_eq]
    omega
  constructor
  · funext p; apply propext
    unfold Cf.sIn Cf.SJ
    rw [Cf.fnd_succ]
    constructor
    · rintro (⟨h1, h2⟩ | ⟨⟨h1, h2⟩, h3⟩)
      · refine ⟨h1, ?_⟩
        cases hf : f.fnd j (p : Int) with
        | some i => rfl
        | none => rw [hf] at h2; cases h2
      · have hp : p < f.cd.len := by omega
        refine ⟨hp, ?_⟩
        cases hf : f.fnd j (p : Int) with
        | some i => rfl
        | none => simp only [if_pos ((hhit p hp).2 ⟨h1, h3⟩)]; rfl
    · rintro ⟨h1, h2⟩
      cases hf : f.fnd j (p : Int) with
      | some i => exact Or.inl ⟨h1, rfl⟩
      | none =>
        rw [hf] at h2
        simp only at h2
        by_cases c : f.hit p j = true
        · have := (hhit p h1).1 c
          exact Or.inr ⟨⟨this.1, by omega⟩, this.2⟩
        · rw [if_neg c] at h2; cases h2
  · intro p hp
    unfold Cf.vIn Cf.vJ
    rw [Cf.fnd_succ]
    cases hf : f.fnd j (p : Int) with
    | some i => rw [if_neg (fun c => by have := c.1; cases this)]
    | none =>
      by_cases c : f.hit p j = true
      · have := (hhit p hp).1 c
        simp only [if_pos c]
        rw [if_pos ⟨rfl, ⟨this.1, by omega⟩, this.2⟩]
      · simp only [if_neg c]
        rw [if_neg]
        rintro ⟨_, c2, c3⟩
        exact c ((hhit p hp).2 ⟨c2.1, c3⟩)

/-- The rows of handlers and of leaps, the function's box. -/
structure Hs (w : World) (f : Cf) (BA BH : Nat) (v : Nat → Int) (S : Nat → Prop) (a : Nat → Int) (u : World) : Prop where
  x : Fb w f w.heap.size u
  bA : Blk u BA (nvL v f.cd.len) 3
  ah : Ah f.cd.len S a
  bH : Blk u BH (nvL a (f.cd.len + 1)) 3
  ne : w.heap.size < BA ∧ w.heap.size < BH ∧ BA ≠ BH
theorem Hs.kept {w : World} {f : Cf} {BA BH : Nat} {v : Nat → Int} {S : Nat → Prop} {a : Nat → Int} {u u' : World} (h : Hs w f BA BH v S a u) (hb : Below u.heap.size u u') : Hs w f BA BH v S a u' :=
  ⟨h.x.kept hb, h.bA.kept hb, h.ah, h.bH.kept hb, h.ne⟩
theorem Blk.gb {w w' : World} {B : Nat} {c : List Value} {t : TypeId} {r : Option Nat} (h : Blk w B c t) (hg : w.grownBy w' r) (hne : some B ≠ r) : Blk w' B c t := by
  unfold Blk; rw [hg.block B h.lt hne]; exact h
theorem Hs.ax {w : World} {f : Cf} {BA BH : Nat} {v : Nat → Int} {S S' : Nat → Prop} {a a' : Nat → Int} {u u' : World} (h : Hs w f BA BH v S a u) (hx : Ax u BH f.cd.len S' a' u') : Hs w f BA BH v S' a' u' :=
  ⟨h.x.grown hx.g (fun k hk => by cases hk; have := h.ne; omega), h.bA.gb hx.g (fun e => h.ne.2.2 (Option.some.inj e)), hx.ah, hx.b, h.ne⟩
theorem Hs.setH {w : World} {f : Cf} {BA BH : Nat} {v : Nat → Int} {S : Nat → Prop} {a : Nat → Int} {u u' : World} (h : Hs w f BA BH v S a u) {r : Nat} (hr : r < f.cd.len) (W : WroteB u u' BH ((nvL a (f.cd.len + 1)).set r (.int .i64 ((r : Int) + 1))) 3) : Hs w f BA BH v (fun p => S p ∨ p = r) (updI a r ((r : Int) + 1)) u' :=
  ⟨h.x.grown W.gb (fun k hk => by cases hk; have := h.ne; omega), h.bA.gb W.gb (fun e => h.ne.2.2 (Option.some.inj e)), h.ah.take hr, by rw [← nvL_set]; exact W.blk, h.ne⟩
theorem Hs.setA {w : World} {f : Cf} {BA BH : Nat} {v : Nat → Int} {S : Nat → Prop} {a : Nat → Int} {u u' : World} (h : Hs w f BA BH v S a u) {r : Nat} {x : Int} (W : WroteB u u' BA ((nvL v f.cd.len).set r (.int .i64 x)) 3) : Hs w f BA BH (updI v r x) S a u' :=
  ⟨h.x.grown W.gb (fun k hk => by cases hk; have := h.ne; omega), by rw [← nvL_set]; exact W.blk, h.ah, h.bH.gb W.gb (fun e => h.ne.2.2 (Option.some.inj e).symm), h.ne⟩
theorem Hs.to {w : World} {f : Cf} {BA BH : Nat} {v v' : Nat → Int} {S S' : Nat → Prop} {a : Nat → Int} {u : World} (h : Hs w f BA BH v S a u) (hv : ∀ p, p < f.cd.len → v p = v' p) (hS : S = S') : Hs w f BA BH v' S' a u := by
  subst hS
  exact ⟨h.x, by rw [← nvL_congr hv]; exact h.bA, h.ah, h.bH, h.ne⟩
end Go.Proofs.Ytibhcbdofadamaa

/- Layer 15: all handlers in one go. -/
namespace Go.Proofs.Ytibhcbdofadamaa
open Go Go.RowKit

/-- Where the leaps are laid: those up to j are. -/
def ahI (j : Nat) : Nat → Int := fun i => if i < j then (i : Int) else 0
theorem ahI_step (j : Nat) : updI (ahI j) j j = ahI (j + 1) := by
  funext i
  unfold updI ahI
  by_cases e : i = j
  · subst e; rw [if_pos rfl, if_pos (by omega)]
  · rw [if_neg e]
    by_cases h : i < j
    · rw [if_pos h, if_pos (by omega)]
    · rw [if_neg h, if_neg (by omega)]
theorem ahI_ah (n : Nat) : Ah n (fun _ => False) (ahI (n + 1)) := by
  have e : ∀ k, k ≤ n → ahI (n + 1) k = k := fun k hk => by unfold ahI; rw [if_pos (by omega)]
  exact ⟨fun k hk => by rw [e k hk]; omega, fun k hk => by rw [e k hk]; simp, fun k j hk h1 h2 => by rw [e k hk] at h2; omega⟩
theorem Ah.congr {n : Nat} {S : Nat → Prop} {a b : Nat → Int} (h : Ah n S a) (e : a = b) : Ah n S b := e ▸ h
structure Hi (w : World) (f : Cf) (BA BH : Nat) (j : Nat) (u : World) : Prop where
  x : Fb w f w.heap.size u
  bA : Blk u BA (nvL (f.vJ 0) f.cd.len) 3
  bH : Blk u BH (nvL (ahI j) (f.cd.len + 1)) 3
  ne : w.heap.size < BA ∧ w.heap.size < BH ∧ BA ≠ BH
theorem Hi.set {w : World} {f : Cf} {BA BH j : Nat} {u u' : World} (h : Hi w f BA BH j u) (W : WroteB u u' BH ((nvL (ahI j) (f.cd.len + 1)).set j (.int .i64 j)) 3) : Hi w f BA BH (j + 1) u' :=
  ⟨h.x.grown W.gb (fun k hk => by cases hk; have := h.ne; omega), h.bA.gb W.gb (fun e => h.ne.2.2 (Option.some.inj e)), by rw [← ahI_step, ← nvL_set]; exact W.blk, h.ne⟩
theorem Hi.hs {w : World} {f : Cf} {BA BH : Nat} {u : World} (h : Hi w f BA BH (f.cd.len + 1) u) : Hs w f BA BH (f.vJ 0) (f.SJ 0) (ahI (f.cd.len + 1)) u :=
  ⟨h.x, h.bA, by rw [Cf.SJ_zero]; exact ahI_ah _, h.bH, h.ne⟩

set_option maxRecDepth 100000 in
set_option maxHeartbeats 16000000 in
theorem allHandlers_any (f : Cf) (w : World) (hf : f.At w) (hn : f.cd.len ≤ 100000) : Calls Try.prog 35 #[.agg f.vs.toArray] w fun e w' => ∃ B, e = .returned (.slice (some ⟨B, 0, none⟩) f.cd.len f.cd.len) ∧ w.heap.size ≤ B ∧ Blk w' B (nvL (fun p => f.han p) f.cd.len) 3 ∧ Below w.heap.size w w' := by
  have H1 := hyd (Fb.new w f)
  have HD := hyd hf
  have hbd := hf.hd.bound
  have HNIL := hyd hf.hd.nil
  clear hf
  have c14 := H1.out.b.cell 14 rfl
  generalize hw : w.alloc (.cells f.vs.toArray 30) = u1 at *
  go_enter Try.func35, Try.ntmps35
  go_upto_region 2 with fail
  clear hw c14
  have B2 := below_alloc u1 (.cells #[.int .i64 (-1)] 3)
  have H2 := hyd (H1.out.kept B2)
  have hcl : (u1.alloc (.cells #[.int .i64 (-1)] 3)).cell? ⟨u1.heap.size, 0, none⟩ = some (.int .i64 (-1)) := (Blk.new u1 [.int .i64 (-1)] 3).cell 0 rfl
  have h0 := repeat_any (-1) f.cd.len u1.heap.size _ hcl hn
  clear B2 hcl
  have HU := hyd H1.out.b.lt
  go_wp2_with fail
  refine h0.mono ?_
  rintro _ u3 ⟨BA, rfl, hBA, hbA, hb3⟩
  have H3 := hyd (show Fb w f w.heap.size u3 ∧ Blk u3 BA (nvL (f.vJ 0) f.cd.len) 3 ∧ w.heap.size < BA from ⟨H2.out.kept hb3, by rw [rpl_nvL] at hbA; exact hbA, by have := HU.out; rw [alloc_size] at hBA; omega⟩)
  clear h0 hBA hbA hb3 H2 H1 HU
  obtain ⟨N, hN⟩ : ∃ N, N = f.cd.len + 1 := ⟨_, rfl⟩
  have HN := hyd hN
  have iN : (f.cd.len : Int) + 1 = (N : Int) := by omega
  clear hN
  go_upto_region 4 with (refine wpList_make_blk rfl _ _ _ rfl 3 (.int .i64 0) 8 Try.underlying36 Try.infoI rfl N (by first | rfl | (show Value.int .i64 _ = _; rw [iN])) (by first | rfl | (show Value.int .i64 _ = _; rw [iN])) (by omega) (by omega) ?_; intro w1 hb1 hl1; have H4 : Hid (Hi w f BA u3.heap.size 0 w1) := ⟨H3.out.1.kept hl1, H3.out.2.1.kept hl1, by rw [HN.out] at hb1; rw [rpl_nvL] at hb1; exact hb1, by have := H3.out.2.2; have := H3.out.2.1.lt; have := H3.out.1.bl.size; have := H3.out.1.b.lt; omega⟩; clear hb1 hl1 H3)
  generalize u3.heap.size = BH at *
  clear iN
  go_upto_block 0 with fail
  go_cut [21] (fun _ wx => Hid (Hi w f BA BH (f.cd.len + 1) wx))
  case first =>
    go_wp2_with fail
    go_loopw [21] (fun i wr => ∃ j : Nat, j ≤ N ∧ i = .int .i64 j ∧ Hi w f BA BH j wr) (fun i _ => N - (intOf i).toNat)
    case atStart => exact ⟨0, Nat.zero_le _, rfl, H4.out⟩
    case round =>
      clear H4
      obtain ⟨j, hj, rfl, hI⟩ := hrel
      have HI := hyd hI
      clear hI
      have hNb : N ≤ 100001 := by have := HN.out; omega
      by_cases hlt : j < N
      · have il : (j : Int) < N := by omega
        go_wp2_with (refine wpList_store1 rfl 3 (.tmp 27) (.tmp 26) rfl rfl BH j (.int .i64 j) _ _ (by kernel_rfl) (by kernel_rfl) (store_one _ _ (by kernel_rfl) rfl rfl _ _) HI.out.bH (by have := HN.out; rw [nvL_len]; omega) ?_; intro w1 W1; have HI1 := hyd (HI.out.set W1); clear W1 HI)
        go_roundw
        case rel => exact ⟨j + 1, by omega, by go_num, HI1.out⟩
        case measure => simp [intOf]; omega
      · have il : ¬ (j : Int) < N := by omega
        have HE : Hid (Hi w f BA BH (f.cd.len + 1) wr) := by
          have e : j = f.cd.len + 1 := by have := HN.out; omega
          rw [← e]; exact HI.out
        go_wp2
        go_meet
        case rel => exact HE.out
  case rest =>
  have H5 := hyd hcut.out.hs
  clear hcut H4
  have hNb : N ≤ 100001 := by have := HN.out; omega
  have c15 := H5.out.x.b.cell 15 rfl
  by_cases hz : 0 < f.hd.len
  · rw [HNIL.out hz] at c15
    clear hz
    go_wp2
    clear c15
    go_loopw [32] (fun i wr => ∃ (j : Nat) (a : Nat → Int), j ≤ f.hd.len ∧ i = .int .i64 j ∧ Hs w f BA BH (f.vJ j) (f.SJ j) a wr) (fun i _ => f.hd.len - (intOf i).toNat)
    case atStart => exact ⟨0, _, Nat.zero_le _, rfl, H5.out⟩
    case round =>
      clear H5
      obtain ⟨j, a, hj, rfl, hS⟩ := hrel
      have HS := hyd hS
      clear hS
      by_cases hlt : j < f.hd.len
      · have ij : (j : Int) < f.hd.len := by omega
        have r0 := (Cf.At.kept HS.out.x.bl HD.out).hd.row j hlt
        have HDN := hyd (fun lo r hi hl hh hge => Cf.in_done (f := f) (j := j) (lo := lo) (r := r) (hi := hi) hl hh hge)
        generalize f.hd.x j = x at *
        go_upto_region 12 with (first | (refine wpList_load_mid rfl 52 (.tmp 34) rfl f.hd.b (f.hd.o + j * 3) (by kernel_rfl) x.vs _ r0 Try.underlying52 rfl (by kernel_rfl) ?_) | (refine wpList_new_mid rfl rfl 52 rfl (.tmp 8) (.tmp 35) rfl z_hn (alloc_hn _) rfl x.vs.toArray (by kernel_rfl) (by kernel_rfl) rfl (by kernel_rfl) (by simpa using x.vs_one) ?_))
        have B1 := below_alloc wr (.cells x.vs.toArray 52)
        have HU := hyd (show Hs w f BA BH (f.vJ j) (f.SJ j) a (wr.alloc (.cells x.vs.toArray 52)) ∧ Blk _ wr.heap.size x.vs 52 ∧ BA < wr.heap.size ∧ BH < wr.heap.size from ⟨HS.out.kept B1, Blk.new wr _ _, HS.out.bA.lt, HS.out.bH.lt⟩)
        clear r0 HS B1
        generalize wr.alloc (.cells x.vs.toArray 52) = U at *
        generalize wr.heap.size = BX at *
        have d0 := HU.out.2.1.cell 0 rfl
        obtain ⟨lo, hlo⟩ : ∃ lo : Nat, max x.fr 0 = (lo : Int) := ⟨(max x.fr 0).toNat, by omega⟩
        have HLO : Hid ((lo : Int) = max x.fr 0) := hlo.symm
        have h0 := freeFrom_any f.cd.len N (f.SJ j) BH a lo U HN.out hn (f.SJ_end j) HU.out.1.ah HU.out.1.bH
        go_upto_region 13 with fail
        first | rw [hlo] | skip
        refine h0.mono ?_
        rintro _ u5 ⟨r, a5, rfl, hR, hX⟩
        have H6 := hyd (show Hs w f BA BH (f.vIn j lo (min x.to f.cd.len) x.at_ r) (f.sIn j lo (min x.to f.cd.len) r) a5 u5 ∧ Blk u5 BX x.vs 52 ∧ BA < BX ∧ BH < BX from by
          obtain ⟨e1, e2⟩ := Cf.in_start (hi := min x.to f.cd.len) (x := x.at_) hR
          rw [e1, e2]
          exact ⟨HU.out.1.ax hX, HU.out.2.1.gb hX.g (fun e => by have := Option.some.inj e; have := HU.out.2.2; omega), HU.out.2.2⟩)
        have H7 := hyd (show r ≤ f.cd.len ∧ ¬ f.sIn j lo (min x.to f.cd.len) r r ∧ (r < f.cd.len → lo ≤ r) from ⟨hR.le, by rw [(Cf.in_start (hi := min x.to f.cd.len) (x := x.at_) hR).1]; exact hR.no, fun h => by
          by_cases h1 : lo ≤ f.cd.len
          · exact hR.ge h1
          · have := hR.far h1; omega⟩)
        clear h0 hR hX HU hlo d0
        go_wp2
        go_loopw [9] (fun i wr => ∃ (r : Nat) (a5 : Nat → Int), i = .int .i64 r ∧ (Hs w f BA BH (f.vIn j lo (min x.to f.cd.len) x.at_ r) (f.sIn j lo (min x.to f.cd.len) r) a5 wr ∧ Blk wr BX x.vs 52 ∧ BA < BX ∧ BH < BX) ∧ (r ≤ f.cd.len ∧ ¬ f.sIn j lo (min x.to f.cd.len) r r ∧ (r < f.cd.len → lo ≤ r))) (fun i _ => f.cd.len - (intOf i).toNat)
        case atStart => exact ⟨r, a5, rfl, H6.out, H7.out⟩
        case round =>
          clear H6 H7
          obtain ⟨r, a5, rfl, hS, hR⟩ := hrel
          have HS := hyd hS
          have HR := hyd hR
          clear hS hR
          have d1 := HS.out.2.1.cell 1 rfl
          have d2 := HS.out.2.1.cell 2 rfl
          by_cases hlt2 : (r : Int) < min x.to f.cd.len
          · have i1 : (r : Int) < x.to := by omega
            have i2 : (r : Int) < f.cd.len := by omega
            have i3 : (r : Int) < N := by have := HN.out; omega
            go_upto_region 14 with (first
              | (refine wpList_store1 rfl 3 (.tmp 54) (.tmp 53) rfl rfl BA r (.int .i64 x.at_) _ _ (by kernel_rfl) (by kernel_rfl) (store_one _ _ (by kernel_rfl) rfl rfl _ _) HS.out.1.bA (by rw [nvL_len]; omega) ?_; intro w1 W1; have HS1 := hyd (show Hs w f BA BH (updI (f.vIn j lo (min x.to f.cd.len) x.at_ r) r x.at_) (f.sIn j lo (min x.to f.cd.len) r) a5 w1 ∧ Blk w1 BX x.vs 52 from ⟨HS.out.1.setA W1, HS.out.2.1.gb W1.gb (fun e => by have := Option.some.inj e; have := HS.out.2.2; omega)⟩); have HLTS := hyd HS.out.2.2; clear W1 HS d1 d2)
              | (refine wpList_store1 rfl 3 (.tmp 59) (.tmp 58) rfl rfl BH r (.int .i64 ((r : Int) + 1)) _ _ (by kernel_rfl) (by kernel_rfl) (store_one _ _ (by kernel_rfl) rfl rfl _ _) HS1.out.1.bH (by rw [nvL_len]; omega) ?_; intro w2 W2; have HS2 := hyd (show Hs w f BA BH (updI (f.vIn j lo (min x.to f.cd.len) x.at_ r) r x.at_) (fun p => f.sIn j lo (min x.to f.cd.len) r p ∨ p = r) (updI a5 r ((r : Int) + 1)) w2 ∧ Blk w2 BX x.vs 52 from ⟨HS1.out.1.setH (by omega) W2, HS1.out.2.gb W2.gb (fun e => by have := Option.some.inj e; have := HLTS.out; omega)⟩); clear W2 HS1))
            have h0 := freeFrom_any f.cd.len N (fun p => f.sIn j lo (min x.to f.cd.len) r p ∨ p = r) BH (updI a5 r ((r : Int) + 1)) r w2 HN.out hn (by rintro ((h | h) | h); exact f.SJ_end j h; omega; omega) HS2.out.1.ah HS2.out.1.bH
            go_wp2_with fail
            refine h0.mono ?_
            rintro _ u6 ⟨r', a6, rfl, hR, hX⟩
            obtain ⟨s1, s2, s3⟩ := Cf.in_step (x := x.at_) HR.out.2.1 hlt2 (by omega) (HR.out.2.2 (by omega)) hR
            have HS3 := hyd (show (Hs w f BA BH (f.vIn j lo (min x.to f.cd.len) x.at_ r') (f.sIn j lo (min x.to f.cd.len) r') a6 u6 ∧ Blk u6 BX x.vs 52 ∧ BA < BX ∧ BH < BX) ∧ (r' ≤ f.cd.len ∧ ¬ f.sIn j lo (min x.to f.cd.len) r' r' ∧ (r' < f.cd.len → lo ≤ r')) from by
              refine ⟨⟨?_, HS2.out.2.gb hX.g (fun e => by have := Option.some.inj e; have := HLTS.out; omega), HLTS.out⟩, hR.le, ?_, fun _ => ?_⟩
              · rw [← s2, ← s3]; exact HS2.out.1.ax hX
              · rw [← s2]; exact hR.no
              · have := HR.out.2.2 (by omega); omega)
            have HM := hyd (show r < r' ∧ r' ≤ f.cd.len from ⟨s1, hR.le⟩)
            clear h0 hR hX s1 s2 s3 HS2 hlt2
            go_wp2
            go_roundw
            case rel => exact ⟨r', a6, rfl, HS3.out.1, HS3.out.2⟩
            case measure => simp [intOf]; have := HM.out; omega
          · have i1 : ¬ (r : Int) < min x.to f.cd.len := hlt2
            obtain ⟨e1, e2⟩ := HDN.out lo r _ HLO.out rfl (by omega)
            have HE := hyd (HS.out.1.to e2 e1)
            clear e1 e2 hlt2
            go_wp2
            go_roundw
            case rel => exact ⟨j + 1, a5, by omega, by go_num, HE.out⟩
            case measure => simp [intOf]; omega
      · have e2 : ¬ (j : Int) < f.hd.len := by omega
        have HE : Hid (nvL (f.vJ j) f.cd.len = nvL (fun p => f.han p) f.cd.len) := by
          have e : j = f.hd.len := by omega
          rw [e]
          exact nvL_congr (fun p _ => f.vJ_end p)
        go_wp2
        go_ret
        exact ⟨BA, rfl, by have := HS.out.ne; omega, by rw [← HE.out]; exact HS.out.bA, HS.out.x.bl⟩
  · have i0 : ¬ (0 : Int) < f.hd.len := by omega
    have HE : Hid (nvL (f.vJ 0) f.cd.len = nvL (fun p => f.han p) f.cd.len) := by
      have e : f.hd.len = 0 := by omega
      refine nvL_congr (fun p _ => ?_)
      rw [← f.vJ_end p, e]
    clear hz
    go_wp2
    go_loopw [32] (fun i wr => i = .int .i64 0 ∧ Hs w f BA BH (f.vJ 0) (f.SJ 0) (ahI (f.cd.len + 1)) wr) (fun _ _ => 0)
    case atStart => exact ⟨rfl, H5.out⟩
    case round =>
      obtain ⟨rfl, hb⟩ := hrel
      have HB := hyd hb
      clear hb
      go_wp2
      go_ret
      exact ⟨BA, rfl, by have := HB.out.ne; omega, by rw [← HE.out]; exact HB.out.bA, HB.out.x.bl⟩
end Go.Proofs.Ytibhcbdofadamaa
