/- Walks of layer 1's order: join, meet, and whether it is an order. -/
import Derived.Test.YtgbillimanpmnaaLeaves
namespace Go.Proofs.Ytgbillimanpmnaa
open Go.RowKit

/-- Block B of w is an order of n labels: U: what is above each, D: what is below each. -/
structure OrdAt (w : World) (B n : Nat) (U D : Nat → Nat) : Prop where
  size : w.cell? ⟨B, 0, none⟩ = some (.int .i64 n)
  up : ∀ i, i < 8 → w.cell? ⟨B, 1 + i, none⟩ = some (.int .u64 (U i))
  dn : ∀ i, i < 8 → w.cell? ⟨B, 9 + i, none⟩ = some (.int .u64 (D i))

theorem cell_lt {w : World} {b o : Nat} {v : Value} (h : w.cell? ⟨b, o, none⟩ = some v) : b < w.heap.size := by
  unfold World.cell? at h
  cases hb : w.heap[b]? with
  | none => simp [hb] at h
  | some x => exact (Array.getElem?_eq_some_iff.1 hb).1

theorem OrdAt.kept {w w' : World} {B n : Nat} {U D : Nat → Nat} (h : OrdAt w B n U D) (hb : Below w.heap.size w w') : OrdAt w' B n U D := by
  have hl := cell_lt h.size
  exact ⟨(hb.cell (p := ⟨B, 0, none⟩) hl).trans h.size, fun i hi => (hb.cell (p := ⟨B, 1 + i, none⟩) hl).trans (h.up i hi), fun i hi => (hb.cell (p := ⟨B, 9 + i, none⟩) hl).trans (h.dn i hi)⟩

theorem below_drewN {B : Nat} {a w : World} (h : Below B a w) (n : Nat) : Below B a (w.drewN n) := ⟨h.os, h.tape, h.output, h.size, h.block⟩

/-- w' is w, but for draws. -/
def Dr (w w' : World) : Prop := ∃ n, w' = w.drewN n
theorem Dr.refl (w : World) : Dr w w := ⟨0, rfl⟩
theorem Dr.step {a w : World} (h : Dr a w) (n : Nat) : Dr a (w.drewN n) := by
  obtain ⟨m, rfl⟩ := h; exact ⟨_, World.drewN_drewN _ _ _⟩
theorem Dr.trans {a b c : World} (h : Dr a b) (k : Dr b c) : Dr a c := by
  obtain ⟨m, rfl⟩ := k; exact h.step m
theorem Dr.below {w w' : World} (h : Dr w w') (B : Nat) : Below B w w' := by
  obtain ⟨m, rfl⟩ := h; exact below_drewN (Below.refl _ _) m
theorem Dr.cell {w w' : World} (h : Dr w w') (a : Addr) : w'.cell? a = w.cell? a := by
  obtain ⟨m, rfl⟩ := h; rfl
theorem OrdAt.dr {w w' : World} {B n : Nat} {U D : Nat → Nat} (h : OrdAt w B n U D) (k : Dr w w') : OrdAt w' B n U D := h.kept (k.below _)

theorem has_is (x a : Nat) (hx : x < 256) (ha : a < 8) (r : Bool) (h : x.testBit a = r) (w : World) :
    Calls Try.prog 82 #[.int .u64 x, .int .i64 a] w fun e w' => e = .returned (.bool r) ∧ w' = w := by
  subst h; exact has_any x a hx ha w

set_option maxHeartbeats 400000 in
theorem join_any (B n : Nat) (U D : Nat → Nat) (la : Option Addr) (lb lo ll lc : Nat) (ls : Nat → Nat) (w : World)
    (hn : n ≤ 8) (ho : OrdAt w B n U D) (hU : ∀ i, i < 8 → U i < 256)
    (hla : 0 < ll → la = some ⟨lb, lo, none⟩) (hll : ll ≤ 8) (hls : ∀ j, j < ll → ls j < 8) (hcl : ∀ j, j < ll → w.cell? ⟨lb, lo + j, none⟩ = some (.int .i64 (ls j))) :
    Calls Try.prog 63 #[.pointer (some ⟨B, 0, none⟩), .slice la ll lc] w fun e w' => e = .returned (.int .i64 (near U (andAll U ls ll (2 ^ n - 1)))) ∧ Dr w w' := by
  have h8 := all8_lt n hn
  go_enter Try.func63, Try.ntmps63
  go_wp2
  go_quiet ((first
    | (go_at_call 79; exact Calls.quiet_of_same (all_any B n hn _ ho.size))
    | (go_at_call 78; exact Calls.quiet_of (nearest_any _ B 1 U la lb lo ll lc ls _ h8 hU ho.up hla hll hls hcl))))
  go_wp2
  go_ret
  exact ⟨rfl, _, rfl⟩

set_option maxHeartbeats 400000 in
theorem meet_any (B n : Nat) (U D : Nat → Nat) (la : Option Addr) (lb lo ll lc : Nat) (ls : Nat → Nat) (w : World)
    (hn : n ≤ 8) (ho : OrdAt w B n U D) (hU : ∀ i, i < 8 → D i < 256)
    (hla : 0 < ll → la = some ⟨lb, lo, none⟩) (hll : ll ≤ 8) (hls : ∀ j, j < ll → ls j < 8) (hcl : ∀ j, j < ll → w.cell? ⟨lb, lo + j, none⟩ = some (.int .i64 (ls j))) :
    Calls Try.prog 83 #[.pointer (some ⟨B, 0, none⟩), .slice la ll lc] w fun e w' => e = .returned (.int .i64 (near D (andAll D ls ll (2 ^ n - 1)))) ∧ Dr w w' := by
  have h8 := all8_lt n hn
  go_enter Try.func83, Try.ntmps83
  go_wp2
  go_quiet ((first
    | (go_at_call 79; exact Calls.quiet_of_same (all_any B n hn _ ho.size))
    | (go_at_call 78; exact Calls.quiet_of (nearest_any _ B 9 D la lb lo ll lc ls _ h8 hU ho.dn hla hll hls hcl))))
  go_wp2
  go_ret
  exact ⟨rfl, _, rfl⟩

set_option maxHeartbeats 1000000 in
theorem partial_any (B n : Nat) (U D : Nat → Nat) (w : World) (hn : n ≤ 8) (ho : OrdAt w B n U D) (hU : ∀ i, i < 8 → U i < 256) (hD : ∀ i, i < 8 → D i < 256) :
    Calls Try.prog 66 #[.pointer (some ⟨B, 0, none⟩)] w fun e w' => e = .returned (.bool (partB n U D)) ∧ Dr w w' := by
  have c0 := ho.size
  go_enter Try.func66, Try.ntmps66
  go_wp2
  go_loopw [9] (fun i wr => ∃ k : Nat, k ≤ n ∧ i = .int .i64 k ∧ (∀ a, a < k → partRow n U D a = true) ∧ Dr w wr) (fun i _ => n - (intOf i).toNat)
  case atStart => exact ⟨0, Nat.zero_le _, rfl, fun _ h => absurd h (Nat.not_lt_zero _), Dr.refl _⟩
  case round =>
    obtain ⟨k, hk, rfl, hdone, hdr⟩ := hrel
    have HD : Hid (∀ a, a < k → partRow n U D a = true) := hdone
    clear hdone c0
    have ho1 := ho.dr hdr
    have c1 := ho1.size
    by_cases hlt : k < n
    · have g1 := ho1.up k (by omega)
      have g2 := ho1.dn k (by omega)
      have g3 := and_u8 _ _ (hU k (by omega)) (hD k (by omega))
      have g4 := shl8 k (by omega)
      have k8 : (k : Int) < 8 := by omega
      go_wp2
      go_quiet (fail)
      go_wp2
      · have t : (((U k &&& D k : Nat) : Int) != 2 ^ k) = true := by assumption
        go_ret
        exact ⟨ret_bool (part_no1 hlt t).symm, hdr.step _⟩
      · have t : (((U k &&& D k : Nat) : Int) != 2 ^ k) = false := by assumption
        have T : Hid ((((U k &&& D k : Nat) : Int) != 2 ^ k) = false) := t
        clear t g3 g4 g1 g2 c1
        go_loopw [32] (fun i w2 => ∃ j : Nat, j ≤ n ∧ i = .int .i64 j ∧ (∀ b, b < j → (U k).testBit b = true → U b &&& U k = U b) ∧ Dr w w2) (fun i _ => n - (intOf i).toNat)
        case atStart => exact ⟨0, Nat.zero_le _, rfl, fun _ h => absurd h (Nat.not_lt_zero _), hdr.step _⟩
        case round =>
          obtain ⟨j, hj, rfl, hdone2, hdr2⟩ := hrel
          have HD2 : Hid (∀ b, b < j → (U k).testBit b = true → U b &&& U k = U b) := hdone2
          clear hdone2
          have ho2 := ho.dr hdr2
          have c2 := ho2.size
          by_cases hj8 : j < n
          · have f1 := ho2.up j (by omega)
            have f2 := ho2.up k (by omega)
            have f3 := andNot_ne (U j) (U k) (hU j (by omega)) (hU k (by omega))
            have f4 := hU k (by omega)
            have j8 : (j : Int) < 8 := by omega
            cases hbit : (U k).testBit j
            · go_wp2
              go_quiet ((go_at_call 82; exact Calls.quiet_of_same (has_is (U k) j f4 (by omega) _ hbit _)))
              go_wp2
              go_roundw
              case rel =>
                refine ⟨j + 1, by omega, by go_num, fun b hb hbb => ?_, hdr2.step _⟩
                rcases Nat.lt_succ_iff_lt_or_eq.1 hb with h | h
                · exact HD2.out b h hbb
                · subst h; rw [hbit] at hbb; exact Bool.noConfusion hbb
              case measure => simp [intOf]; omega
            · go_wp2
              go_quiet ((go_at_call 82; exact Calls.quiet_of_same (has_is (U k) j f4 (by omega) _ hbit _)))
              go_wp2
              · have t : (!U j &&& U k == U j) = true := by assumption
                go_ret
                exact ⟨ret_bool (part_no2 hlt hj8 hbit (by simpa using t)).symm, hdr2.step _⟩
              · have t : (!U j &&& U k == U j) = false := by assumption
                go_roundw
                case rel =>
                  refine ⟨j + 1, by omega, by go_num, fun b hb hbb => ?_, hdr2.step _⟩
                  rcases Nat.lt_succ_iff_lt_or_eq.1 hb with h | h
                  · exact HD2.out b h hbb
                  · subst h; simpa using t
                case measure => simp [intOf]; omega
          · have e : j = n := by omega
            subst e
            go_wp2
            go_roundw
            case rel =>
              refine ⟨k + 1, by omega, by go_num, fun a ha => ?_, hdr2⟩
              rcases Nat.lt_succ_iff_lt_or_eq.1 ha with h | h
              · exact HD.out a h
              · subst h; exact part_row T.out HD2.out
            case measure => simp [intOf]; omega
    · have e : k = n := by omega
      subst e
      go_wp2
      go_ret
      exact ⟨ret_bool (part_yes HD.out).symm, hdr⟩

theorem join2_any (B n : Nat) (U D : Nat → Nat) (lb a b : Nat) (w : World) (hn : n ≤ 8) (ho : OrdAt w B n U D) (hU : ∀ i, i < 8 → U i < 256) (ha : a < 8) (hb : b < 8)
    (h0 : w.cell? ⟨lb, 0, none⟩ = some (.int .i64 a)) (h1 : w.cell? ⟨lb, 1, none⟩ = some (.int .i64 b)) :
    Calls Try.prog 63 #[.pointer (some ⟨B, 0, none⟩), .slice (some ⟨lb, 0, none⟩) 2 2] w fun e w' => e = .returned (.int .i64 (near2 n U a b)) ∧ Dr w w' := by
  refine join_any B n U D _ lb 0 2 2 (pairL a b) w hn ho hU (fun _ => rfl) (by omega) ?_ ?_
  · intro j _; unfold pairL; split <;> assumption
  · intro j hj
    match j, hj with
    | 0, _ => exact h0
    | 1, _ => exact h1

theorem meet2_any (B n : Nat) (U D : Nat → Nat) (lb a b : Nat) (w : World) (hn : n ≤ 8) (ho : OrdAt w B n U D) (hU : ∀ i, i < 8 → D i < 256) (ha : a < 8) (hb : b < 8)
    (h0 : w.cell? ⟨lb, 0, none⟩ = some (.int .i64 a)) (h1 : w.cell? ⟨lb, 1, none⟩ = some (.int .i64 b)) :
    Calls Try.prog 83 #[.pointer (some ⟨B, 0, none⟩), .slice (some ⟨lb, 0, none⟩) 2 2] w fun e w' => e = .returned (.int .i64 (near2 n D a b)) ∧ Dr w w' := by
  refine meet_any B n U D _ lb 0 2 2 (pairL a b) w hn ho hU (fun _ => rfl) (by omega) ?_ ?_
  · intro j _; unfold pairL; split <;> assumption
  · intro j hj
    match j, hj with
    | 0, _ => exact h0
    | 1, _ => exact h1

theorem join0_any (B n : Nat) (U D : Nat → Nat) (lc : Nat) (w : World) (hn : n ≤ 8) (ho : OrdAt w B n U D) (hU : ∀ i, i < 8 → U i < 256) :
    Calls Try.prog 63 #[.pointer (some ⟨B, 0, none⟩), .slice none 0 lc] w fun e w' => e = .returned (.int .i64 (near U (2 ^ n - 1))) ∧ Dr w w' :=
  join_any B n U D _ 0 0 0 lc (fun _ => 0) w hn ho hU (fun h => absurd h (Nat.lt_irrefl _)) (by omega) (fun _ h => absurd h (Nat.not_lt_zero _)) (fun _ h => absurd h (Nat.not_lt_zero _))

theorem meet0_any (B n : Nat) (U D : Nat → Nat) (lc : Nat) (w : World) (hn : n ≤ 8) (ho : OrdAt w B n U D) (hU : ∀ i, i < 8 → D i < 256) :
    Calls Try.prog 83 #[.pointer (some ⟨B, 0, none⟩), .slice none 0 lc] w fun e w' => e = .returned (.int .i64 (near D (2 ^ n - 1))) ∧ Dr w w' :=
  meet_any B n U D _ 0 0 0 lc (fun _ => 0) w hn ho hU (fun h => absurd h (Nat.lt_irrefl _)) (by omega) (fun _ h => absurd h (Nat.not_lt_zero _)) (fun _ h => absurd h (Nat.not_lt_zero _))

theorem cells2 (w : World) (u v : Value) (t : TypeId) : (w.alloc (.cells #[u, v] t)).cell? ⟨w.heap.size, 0, none⟩ = some u ∧ (w.alloc (.cells #[u, v] t)).cell? ⟨w.heap.size, 1, none⟩ = some v := by
  constructor <;> simp

end Go.Proofs.Ytgbillimanpmnaa
