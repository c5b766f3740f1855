/- The walks of the reference's Bottom, Top, Below, SameInts. -/
import Derived.Test.YtomjippaokakcaaRefAsks
import Derived.Test.YtomjippaokakcaaBelowW
namespace Go.Proofs.Ytomjippaokakcaa
open Go.RowKit

theorem own_below {w w' : World} {base : Nat} {e : TypeId} {size : Nat} {v : Value} {n : Nat} {xs : List Value} (h : w.ownsRow base e size v n xs) (hb : Below w.heap.size w w') : w'.ownsRow base e size v n xs := by
  obtain ⟨h1, h2⟩ := h
  refine ⟨h1, ?_⟩
  rcases h2 with h2 | ⟨gb, cap, cur, hv, hg, hh, r⟩
  · exact Or.inl h2
  · refine Or.inr ⟨gb, cap, cur, hv, hg, ?_, r⟩
    rw [hb.block gb (Array.getElem?_eq_some_iff.1 hh).1]; exact hh

def lowB (n : Strs) (g : Grid) (a : Nat) : Bool := decide (∀ b, b < n.len → g.B a b = true)
def highB (n : Strs) (g : Grid) (a : Nat) : Bool := decide (∀ b, b < n.len → g.B b a = true)
theorem rbot_eq {n : Strs} {g : Grid} (hF : formedB n g = true) : findI (lowB n g) n.len 0 = botI n g := by
  obtain ⟨m, h1, h2, h3⟩ := bot_is hF
  rw [h1]
  refine findI_one _ h2 (decide_eq_true h3) (fun i hi hp => ?_)
  unfold lowB at hp
  rw [decide_eq_true_eq] at hp
  exact lq_anti hF hi h2 (hp m h2) (h3 i hi)
theorem rtop_eq {n : Strs} {g : Grid} (hF : formedB n g = true) : findI (highB n g) n.len 0 = topI n g := by
  obtain ⟨m, h1, h2, h3⟩ := top_is hF
  rw [h1]
  refine findI_one _ h2 (decide_eq_true h3) (fun i hi hp => ?_)
  unfold highB at hp
  rw [decide_eq_true_eq] at hp
  exact lq_anti hF hi h2 (h3 i hi) (hp m h2)
theorem all_to (p : Nat → Bool) (k : Nat) : decide (∀ b, b < k + 1 → p b = true) = (decide (∀ b, b < k → p b = true) && p k) := by
  rw [Bool.eq_iff_iff, Bool.and_eq_true, decide_eq_true_eq, decide_eq_true_eq]
  constructor
  · intro h; exact ⟨fun b hb => h b (by omega), h k (by omega)⟩
  · rintro ⟨h1, h2⟩ b hb
    rcases Nat.lt_succ_iff_lt_or_eq.1 hb with h | h
    · exact h1 b h
    · subst h; exact h2

set_option maxRecDepth 100000 in
set_option maxHeartbeats 2000000 in
theorem rBottom_any (n : Strs) (g : Grid) (w : World) (hn : n.At w) (hg : g.At w) :
    Calls Try.prog 24 #[.agg #[.slice n.ao n.len n.cap, .slice g.ao g.len g.cap]] w fun e w' => e = .returned (.int .i64 (botI n g)) ∧ Below w.heap.size w w' := by
  have B0 := Box2.start w (.slice n.ao n.len n.cap) (.slice g.ao g.len g.cap) 25
  have hnb := hn.bound
  cases hF : formedB n g
  · have HE : Hid (botI n g = -1) := by show botI n g = _; unfold botI; rw [hF]; rfl
    go_enter Try.func24, Try.ntmps24
    go_wp2
    go_loopw [3] (fun i wr => i = .int .i64 0 ∧ Box2 w wr (.slice n.ao n.len n.cap) (.slice g.ao g.len g.cap)) (fun _ _ => 0)
    case atStart => exact ⟨rfl, B0⟩
    case round =>
      obtain ⟨rfl, hB⟩ := hrel
      clear B0
      have c0 := hB.c0
      have c1 := hB.c1
      by_cases h0 : 0 < n.len
      · have i0 : decide ((0 : Int) < n.len) = true := by simp; omega
        go_wp2_with fail
        refine (rformedB' hn hg hB false hF).mono ?_
        rintro e w1 ⟨rfl, B1⟩
        go_wp2
        go_ret
        exact ⟨ret_int HE.out.symm, B1.bl⟩
      · have i0 : decide ((0 : Int) < n.len) = false := by simp; omega
        go_wp2
        go_ret
        exact ⟨ret_int HE.out.symm, hB.bl⟩
  · have HE : Hid (botI n g = findI (lowB n g) n.len 0) := (rbot_eq hF).symm
    have hq := sqat_of hF hn hg
    have hrf := fun (wr : World) (hB : Box2 w wr (.slice n.ao n.len n.cap) (.slice g.ao g.len g.cap)) => rformedB' hn hg hB true hF
    rw [hq.ao, hq.len] at hrf B0 ⊢
    have HR : Hid (∀ (wr : World) (hB : Box2 w wr (.slice n.ao n.len n.cap) (.slice (some ⟨g.gb, g.go, none⟩) n.len g.cap)), Calls Try.prog 12 #[.agg #[.slice n.ao n.len n.cap, .slice (some ⟨g.gb, g.go, none⟩) n.len g.cap]] wr fun e w' => e = .returned (.bool true) ∧ Box2 w w' (.slice n.ao n.len n.cap) (.slice (some ⟨g.gb, g.go, none⟩) n.len g.cap)) := hrf
    have l8 := hq.le8
    clear hF hrf
    go_enter Try.func24, Try.ntmps24
    go_wp2
    go_loopw [3] (fun i wr => ∃ a : Nat, a ≤ n.len ∧ i = .int .i64 a ∧ findI (lowB n g) n.len 0 = findI (lowB n g) (n.len - a) a ∧ Box2 w wr (.slice n.ao n.len n.cap) (.slice (some ⟨g.gb, g.go, none⟩) n.len g.cap)) (fun i _ => n.len - (intOf i).toNat)
    case atStart => exact ⟨0, Nat.zero_le _, rfl, rfl, B0⟩
    case round =>
      obtain ⟨a, ha, rfl, hdone, hB⟩ := hrel
      clear B0
      have HD : Hid (findI (lowB n g) n.len 0 = findI (lowB n g) (n.len - a) a) := hdone
      clear hdone
      have c0 := hB.c0
      have c1 := hB.c1
      by_cases hlt : a < n.len
      · have ia : decide ((a : Int) < n.len) = true := by simp; omega
        go_wp2_with fail
        refine (HR.out _ hB).mono ?_
        rintro e w1 ⟨rfl, B1⟩
        clear c0 c1 hB
        have c0 := B1.c0
        have c1 := B1.c1
        have q1 := hq.kept B1.bl
        have ra := q1.row hlt
        clear ia
        go_wp2
        go_loop [4, 5] (fun t i => ∃ b : Nat, b ≤ n.len ∧ i = .int .i64 b ∧ t = .bool (decide (∀ x, x < b → g.B a x = true))) (fun _ i => n.len - (intOf i).toNat)
        case atStart => exact ⟨0, Nat.zero_le _, rfl, by simp⟩
        case round =>
          obtain ⟨b, hb, rfl, rfl⟩ := hrel
          by_cases hltb : b < n.len
          · have f1 := q1.cell hlt hltb
            have ia : (a : Int) < n.len := by omega
            have ib : (b : Int) < n.len := by omega
            have HA : Hid (decide (∀ x, x < b + 1 → g.B a x = true) = (decide (∀ x, x < b → g.B a x = true) && g.B a b)) := all_to (fun x => g.B a x) b
            generalize hv : decide (∀ x, x < b → g.B a x = true) = v at *
            cases v
            · go_wp2
              go_round
              case rel => exact ⟨b + 1, by omega, by go_num, by rw [HA.out]; rfl⟩
              case measure => simp [intOf]; omega
            · go_wp2
              go_round
              case rel => exact ⟨b + 1, by omega, by go_num, by rw [HA.out]; rfl⟩
              case measure => simp [intOf]; omega
          · have e : b = n.len := by omega
            subst e
            have HV : Hid (lowB n g a = decide (∀ x, x < n.len → g.B a x = true)) := rfl
            generalize hv : decide (∀ x, x < n.len → g.B a x = true) = v at *
            cases v
            · go_wp2
              go_roundw
              case rel => exact ⟨a + 1, by omega, by go_num, HD.out.trans (findI_miss hlt HV.out), B1⟩
              case measure => simp [intOf]; omega
            · go_wp2
              go_ret
              exact ⟨ret_int (HE.out.trans (HD.out.trans (findI_hit hlt HV.out))).symm, B1.bl⟩
      · have ia : decide ((a : Int) < n.len) = false := by simp; omega
        go_wp2
        go_ret
        exact ⟨ret_int (HE.out.trans (HD.out.trans (findI_end hlt))).symm, hB.bl⟩
set_option maxRecDepth 100000 in
set_option maxHeartbeats 2000000 in
theorem rTop_any (n : Strs) (g : Grid) (w : World) (hn : n.At w) (hg : g.At w) :
    Calls Try.prog 26 #[.agg #[.slice n.ao n.len n.cap, .slice g.ao g.len g.cap]] w fun e w' => e = .returned (.int .i64 (topI n g)) ∧ Below w.heap.size w w' := by
  have B0 := Box2.start w (.slice n.ao n.len n.cap) (.slice g.ao g.len g.cap) 25
  have hnb := hn.bound
  cases hF : formedB n g
  · have HE : Hid (topI n g = -1) := by show topI n g = _; unfold topI; rw [hF]; rfl
    go_enter Try.func26, Try.ntmps26
    go_wp2
    go_loopw [3] (fun i wr => i = .int .i64 0 ∧ Box2 w wr (.slice n.ao n.len n.cap) (.slice g.ao g.len g.cap)) (fun _ _ => 0)
    case atStart => exact ⟨rfl, B0⟩
    case round =>
      obtain ⟨rfl, hB⟩ := hrel
      clear B0
      have c0 := hB.c0
      have c1 := hB.c1
      by_cases h0 : 0 < n.len
      · have i0 : decide ((0 : Int) < n.len) = true := by simp; omega
        go_wp2_with fail
        refine (rformedB' hn hg hB false hF).mono ?_
        rintro e w1 ⟨rfl, B1⟩
        go_wp2
        go_ret
        exact ⟨ret_int HE.out.symm, B1.bl⟩
      · have i0 : decide ((0 : Int) < n.len) = false := by simp; omega
        go_wp2
        go_ret
        exact ⟨ret_int HE.out.symm, hB.bl⟩
  · have HE : Hid (topI n g = findI (highB n g) n.len 0) := (rtop_eq hF).symm
    have hq := sqat_of hF hn hg
    have hrf := fun (wr : World) (hB : Box2 w wr (.slice n.ao n.len n.cap) (.slice g.ao g.len g.cap)) => rformedB' hn hg hB true hF
    rw [hq.ao, hq.len] at hrf B0 ⊢
    have HR : Hid (∀ (wr : World) (hB : Box2 w wr (.slice n.ao n.len n.cap) (.slice (some ⟨g.gb, g.go, none⟩) n.len g.cap)), Calls Try.prog 12 #[.agg #[.slice n.ao n.len n.cap, .slice (some ⟨g.gb, g.go, none⟩) n.len g.cap]] wr fun e w' => e = .returned (.bool true) ∧ Box2 w w' (.slice n.ao n.len n.cap) (.slice (some ⟨g.gb, g.go, none⟩) n.len g.cap)) := hrf
    have l8 := hq.le8
    clear hF hrf
    go_enter Try.func26, Try.ntmps26
    go_wp2
    go_loopw [3] (fun i wr => ∃ a : Nat, a ≤ n.len ∧ i = .int .i64 a ∧ findI (highB n g) n.len 0 = findI (highB n g) (n.len - a) a ∧ Box2 w wr (.slice n.ao n.len n.cap) (.slice (some ⟨g.gb, g.go, none⟩) n.len g.cap)) (fun i _ => n.len - (intOf i).toNat)
    case atStart => exact ⟨0, Nat.zero_le _, rfl, rfl, B0⟩
    case round =>
      obtain ⟨a, ha, rfl, hdone, hB⟩ := hrel
      clear B0
      have HD : Hid (findI (highB n g) n.len 0 = findI (highB n g) (n.len - a) a) := hdone
      clear hdone
      have c0 := hB.c0
      have c1 := hB.c1
      by_cases hlt : a < n.len
      · have ia : decide ((a : Int) < n.len) = true := by simp; omega
        go_wp2_with fail
        refine (HR.out _ hB).mono ?_
        rintro e w1 ⟨rfl, B1⟩
        clear c0 c1 hB
        have c0 := B1.c0
        have c1 := B1.c1
        have q1 := hq.kept B1.bl
        clear ia
        go_wp2
        go_loop [4, 5] (fun t i => ∃ b : Nat, b ≤ n.len ∧ i = .int .i64 b ∧ t = .bool (decide (∀ x, x < b → g.B x a = true))) (fun _ i => n.len - (intOf i).toNat)
        case atStart => exact ⟨0, Nat.zero_le _, rfl, by simp⟩
        case round =>
          obtain ⟨b, hb, rfl, rfl⟩ := hrel
          by_cases hltb : b < n.len
          · have f1 := q1.cell hltb hlt
            have rb := q1.row hltb
            have ia : (a : Int) < n.len := by omega
            have ib : (b : Int) < n.len := by omega
            have HA : Hid (decide (∀ x, x < b + 1 → g.B x a = true) = (decide (∀ x, x < b → g.B x a = true) && g.B b a)) := all_to (fun x => g.B x a) b
            generalize hv : decide (∀ x, x < b → g.B x a = true) = v at *
            cases v
            · go_wp2
              go_round
              case rel => exact ⟨b + 1, by omega, by go_num, by rw [HA.out]; rfl⟩
              case measure => simp [intOf]; omega
            · go_wp2
              go_round
              case rel => exact ⟨b + 1, by omega, by go_num, by rw [HA.out]; rfl⟩
              case measure => simp [intOf]; omega
          · have e : b = n.len := by omega
            subst e
            have HV : Hid (highB n g a = decide (∀ x, x < n.len → g.B x a = true)) := rfl
            generalize hv : decide (∀ x, x < n.len → g.B x a = true) = v at *
            cases v
            · go_wp2
              go_roundw
              case rel => exact ⟨a + 1, by omega, by go_num, HD.out.trans (findI_miss hlt HV.out), B1⟩
              case measure => simp [intOf]; omega
            · go_wp2
              go_ret
              exact ⟨ret_int (HE.out.trans (HD.out.trans (findI_hit hlt HV.out))).symm, B1.bl⟩
      · have ia : decide ((a : Int) < n.len) = false := by simp; omega
        go_wp2
        go_ret
        exact ⟨ret_int (HE.out.trans (HD.out.trans (findI_end hlt))).symm, hB.bl⟩

theorem rbel_to (n : Strs) (g : Grid) (a : Int) : belL n g a = (List.range n.len).filter (fun (b : Nat) => leqB n g b a) := by
  unfold belL
  by_cases h : (labB n a && formedB n g) = true
  · rw [if_pos h]
    rw [Bool.and_eq_true] at h
    obtain ⟨x, rfl, hx⟩ := lab_nat h.1
    unfold belTo
    refine List.filter_congr fun b hb => ?_
    rw [leqB_nat h.2 (by simpa using hb) hx]; rfl
  · rw [if_neg h]
    symm
    rw [List.filter_eq_nil_iff]
    intro b _ hb
    unfold leqB at hb
    rw [Bool.and_eq_true, Bool.and_eq_true, Bool.and_eq_true] at hb
    exact h (by rw [hb.1.1.2, hb.1.2]; rfl)
theorem rbel_len (n : Strs) (g : Grid) (a : Int) (k : Nat) (hk : k ≤ n.len) : ((List.range k).filter (fun (b : Nat) => leqB n g b a)).length ≤ 8 := by
  by_cases h : formedB n g = true
  · have := formed_parts h
    have h2 := List.length_filter_le (fun (b : Nat) => leqB n g b a) (List.range k)
    simp at h2
    omega
  · have e : (List.range k).filter (fun (b : Nat) => leqB n g b a) = [] := by
      rw [List.filter_eq_nil_iff]
      intro b _ hb
      unfold leqB at hb
      rw [Bool.and_eq_true, Bool.and_eq_true] at hb
      exact h hb.1.2
    rw [e]; simp

set_option maxRecDepth 100000 in
set_option maxHeartbeats 2000000 in
theorem rBelow_any (n : Strs) (g : Grid) (a : Int) (w : World) (hn : n.At w) (hg : g.At w) :
    Calls Try.prog 29 #[.agg #[.slice n.ao n.len n.cap, .slice g.ao g.len g.cap], .int .i64 a] w fun e w' => ∃ q : Ints, e = .returned (.slice q.ao q.len q.cap) ∧ q.At w' ∧ q.len = (belL n g a).length ∧ (∀ i, q.x i = ((belL n g a).getD i 0 : Nat)) ∧ Below w.heap.size w w' := by
  have B0 := Box2.start w (.slice n.ao n.len n.cap) (.slice g.ao g.len g.cap) 25
  have hnb := hn.bound
  have HE : Hid (belL n g a = (List.range n.len).filter (fun (b : Nat) => leqB n g b a)) := rbel_to n g a
  obtain ⟨i0, hi, hz0, hz1, hz2⟩ := info_parts Try.infoInt
  go_enter Try.func29, Try.ntmps29
  go_wp2
  generalize w.alloc (.cells #[.slice n.ao n.len n.cap, .slice g.ao g.len g.cap] 25) = W0 at B0 ⊢
  go_loopw [5, 6] (fun v i wr => ∃ k : Nat, k ≤ n.len ∧ i = .int .i64 k ∧ wr.ownsRow W0.heap.size 3 1 v ((List.range k).filter (fun (b : Nat) => leqB n g b a)).length (intCells ((List.range k).filter (fun (b : Nat) => leqB n g b a))) ∧ Below W0.heap.size W0 wr) (fun _ i _ => n.len - (intOf i).toNat)
  case atStart => exact ⟨0, Nat.zero_le _, rfl, by simpa [intCells] using World.ownsRow_nil W0 W0.heap.size 3 1, Below.refl _ _⟩
  case round =>
    obtain ⟨k, hk, rfl, hown, hbl⟩ := hrel
    have B1 := B0.step hbl
    have c0 := B1.c0
    have c1 := B1.c1
    have hlen := rbel_len n g a k hk
    by_cases hlt : k < n.len
    · have ik : (k : Int) < n.len := by omega
      have HO1 : Hid (wr.ownsRow W0.heap.size 3 1 u5 ((List.range k).filter (fun (b : Nat) => leqB n g b a)).length (intCells ((List.range k).filter (fun (b : Nat) => leqB n g b a)))) := hown
      clear hown
      cases hv : leqB n g k a
      · have HS : Hid ((List.range (k + 1)).filter (fun (b : Nat) => leqB n g b a) = (List.range k).filter (fun (b : Nat) => leqB n g b a)) := by
          show _ = _
          rw [List.range_succ, List.filter_append]; simp [hv]
        go_wp2_with fail
        refine ((rleq_any n g k a _ (hn.kept B1.bl) (hg.kept B1.bl))).mono ?_
        rw [hv]
        rintro e w2 ⟨rfl, hb2⟩
        have HO2 : Hid (w2.ownsRow W0.heap.size 3 1 u5 ((List.range k).filter (fun (b : Nat) => leqB n g b a)).length (intCells ((List.range k).filter (fun (b : Nat) => leqB n g b a)))) := own_below HO1.out hb2
        have hbl2 := hbl.trans (hb2.mono hbl.size)
        clear hb2 c0 c1
        go_wp2
        go_roundw
        case rel => exact ⟨k + 1, by omega, by go_num, by rw [HS.out]; exact HO2.out, hbl2⟩
        case measure => simp [intOf]; omega
      · have HS : Hid ((List.range (k + 1)).filter (fun (b : Nat) => leqB n g b a) = (List.range k).filter (fun (b : Nat) => leqB n g b a) ++ [k]) := by
          show _ = _
          rw [List.range_succ, List.filter_append]; simp [hv]
        go_wp2_with fail
        refine ((rleq_any n g k a _ (hn.kept B1.bl) (hg.kept B1.bl))).mono ?_
        rw [hv]
        rintro e w2 ⟨rfl, hb2⟩
        have hown := own_below HO1.out hb2
        have hbl2 := hbl.trans (hb2.mono hbl.size)
        have hsz := hbl2.size
        clear hb2 c0 c1 HO1
        generalize (List.range k).filter (fun (b : Nat) => leqB n g b a) = l at *
        go_wp2_with (at_builtin; refine wpList_append_own _ rfl _ _ 34 rfl W0.heap.size 3 i0 (.int .i64 0) 1 8 Try.underlying34 hi hz0 hz1 hz2 rfl (by decide) _ _ _ rfl (hown.alloc _) ⟨w2.heap.size, 0, none⟩ 1 1 [.int .i64 (k : Int)] rfl rfl (by intro j u hj; match j, hj with | 0, hj => simp at hj; subst hj; simp [Addr.add]) (by intro u hu; simp at hu; subst hu; rfl) (by unfold maxLen; omega) (by omega) (by simp; omega) ?_; intro v' w3 hown' hgrow hiff)
        have HO : Hid (w3.ownsRow W0.heap.size 3 1 v' (l ++ [k]).length (intCells (l ++ [k]))) := by
          show w3.ownsRow _ _ _ _ _ _
          rw [List.length_append, intCells, List.map_append]; exact hown'
        have hbl3 : Below W0.heap.size W0 w3 := (hbl2.alloc hsz _).grown hgrow (by simp; omega) (fun b hb => own_ge hown hb)
        clear hown hown' hgrow hiff hi hz0 hz1 hz2
        go_wp2
        go_roundw
        case rel => exact ⟨k + 1, by omega, by go_num, by rw [HS.out]; exact HO.out, hbl3⟩
        case measure => simp [intOf]; omega
    · have e : k = n.len := by omega
      obtain ⟨q, rfl, hq, hql, hqx⟩ := ints_of_own hown hlen
      have HQ : Hid (q.len = (belL n g a).length ∧ ∀ i, q.x i = ((belL n g a).getD i 0 : Nat)) := by rw [HE.out, ← e]; exact ⟨hql, hqx⟩
      clear hown hql hqx e
      go_wp2
      go_ret
      exact ⟨q, rfl, hq, HQ.out.1, HQ.out.2, B1.bl⟩

/-- SameInts, where both are alike. -/
theorem sameInts_yes (p q : Ints) (w : World) (hp : p.At w) (hq : q.At w) (hl : p.len = q.len) (hx : ∀ i, i < p.len → p.x i = q.x i) :
    Calls Try.prog 27 #[.slice p.ao p.len p.cap, .slice q.ao q.len q.cap] w fun e w' => e = .returned (.bool true) ∧ Dr w w' := by
  have l8 := hp.le8
  have bl : ((p.len : Int) != q.len) = false := by simp [hl]
  have HL : Hid (p.len = q.len) := hl
  by_cases h0 : p.len = 0
  · rw [← hl, h0]
    clear hl HL bl
    go_enter Try.func27, Try.ntmps27
    go_wp2
    go_loop [5] (fun i => i = .int .i64 0) (fun _ => 0)
    case atStart => rfl
    case round =>
      subst hrel
      go_wp2
      go_ret
      exact ⟨rfl, Dr.refl _⟩
  rw [hp.nil (by omega), hq.nil (by omega)]
  have HX : Hid (∀ i, i < p.len → p.x i = q.x i) := hx
  clear hl hx
  go_enter Try.func27, Try.ntmps27
  go_wp2
  go_loopw [5] (fun i wr => ∃ k : Nat, k ≤ p.len ∧ i = .int .i64 k ∧ Dr w wr) (fun i _ => p.len - (intOf i).toNat)
  case atStart => exact ⟨0, Nat.zero_le _, rfl, Dr.refl _⟩
  case round =>
    obtain ⟨k, hk, rfl, hdr⟩ := hrel
    by_cases hlt : k < p.len
    · have f1 := (hp.kept (hdr.below _)).cell k hlt
      have f2 := (hq.kept (hdr.below _)).cell k (by have := HL.out; omega)
      rw [← HX.out k hlt] at f2
      have i1 : (k : Int) < p.len := by omega
      have i2 : (k : Int) < q.len := by have := HL.out; omega
      go_wp2
      go_quiet (fail)
      go_wp2
      go_roundw
      case rel => exact ⟨k + 1, by omega, by go_num, hdr.step _⟩
      case measure => simp [intOf]; omega
    · go_wp2
      go_ret
      exact ⟨rfl, hdr⟩
end Go.Proofs.Ytomjippaokakcaa
