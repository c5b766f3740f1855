/- Layer 4: the walk of the reference's Long, the writer. -/
import Derived.Test.YtboehlfdfpiodaaBtRefW
namespace Go.Proofs.Ytboehlfdfpiodaa
open Go.RowKit

/-- The eight bytes, those from place s on. -/
def lowF (u s j : Nat) : Value := .int .u8 (if s ≤ j then (beF 8 u j : Int) else 0)
theorem low_start (w : World) (u : Nat) (T : TypeId) : (w.alloc (.cells #[.int .u8 0, .int .u8 0, .int .u8 0, .int .u8 0, .int .u8 0, .int .u8 0, .int .u8 0, .int .u8 0] T)).rowIs w.heap.size T 8 (lowF u 8) := by
  refine World.rowIs_alloc w _ T _ (fun i hi => ?_)
  have hi' : i < 8 := hi
  unfold lowF
  rw [if_neg (by omega)]
  match i, hi' with
  | 0, _ => rfl
  | 1, _ => rfl
  | 2, _ => rfl
  | 3, _ => rfl
  | 4, _ => rfl
  | 5, _ => rfl
  | 6, _ => rfl
  | 7, _ => rfl
theorem low_at {w : World} {H u : Nat} {T : TypeId} (h : w.rowIs H T 8 (lowF u 0)) : (mkB H 8 (beF 8 u)).At w :=
  ⟨Nat.le_refl _, fun _ => rfl, fun h => (by cases h), (by show (8 : Nat) ≤ _; omega), fun i hi => (by
    have hi' : i < 8 := hi
    show w.cell? ⟨H, 0 + i, none⟩ = _
    rw [Nat.zero_add, h.cell hi']
    unfold lowF
    rw [if_pos (Nat.zero_le _)]
    rfl), fun i _ => beF_lt _ _ _⟩

set_option maxRecDepth 100000 in
set_option maxHeartbeats 4000000 in
theorem xwlong_any (B : Bys) (N : Int) (w : World) (hB : B.At w) (hm : B.len ≤ 900000) (hN : -9223372036854775808 ≤ N ∧ N ≤ 9223372036854775807) :
    Calls Try.prog 16 #[.slice B.ao B.len B.cap, .int .i64 N] w fun e w' => ∃ E : Bys, e = .returned (.slice E.ao E.len E.cap) ∧ E.At w' ∧ E.l = B.l ++ be 8 (uns N) ∧ Below w.heap.size w w' := by
  have HB : Hid (B.At w) := hB
  have HNr : Hid (-9223372036854775808 ≤ N ∧ N ≤ 9223372036854775807) := hN
  have HS : Hid ((w.alloc (.cells #[.int .u8 0, .int .u8 0, .int .u8 0, .int .u8 0, .int .u8 0, .int .u8 0, .int .u8 0, .int .u8 0] 56)).rowIs w.heap.size 56 8 (lowF (uns N) 8)) := low_start w _ _
  clear hB hN
  go_enter Try.func16, Try.ntmps16
  go_wp2
  go_loopw [6, 1] (fun i n wr => ∃ s : Nat, s ≤ 8 ∧ i = .int .i64 ((s : Int) - 1) ∧ n = .int .i64 (dn N (8 - s)) ∧ wr.rowIs w.heap.size 56 8 (lowF (uns N) s) ∧ Below w.heap.size w wr) (fun i _ _ => (intOf i + 1).toNat)
  case atStart => exact ⟨8, Nat.le_refl _, rfl, rfl, HS.out, (Below.refl _ _).alloc (Nat.le_refl _) _⟩
  case round =>
    obtain ⟨s, hs, rfl, rfl, hr, hw⟩ := hrel
    have HR : Hid (wr.rowIs w.heap.size 56 8 (lowF (uns N) s)) := hr
    have HW : Hid (Below w.heap.size w wr) := hw
    have hws := hw.size
    clear HS hw
    by_cases h0 : s = 0
    · subst h0
      have hH := HR.out.lt
      clear hr
      go_wp2_with (first
        | (refine wpList_append_bys rfl (.tmp 27) (.tmp 28) rfl wr.heap.size _ [] rfl (Own.nil _ _) B rfl (HB.out.kept HW.out) (by show 0 + B.len ≤ _; omega) (Nat.le_refl _) ?_; intro v1 w1 HO1 hg1; have HB1 : Hid (Below wr.heap.size wr w1) := (Below.refl _ _).grown hg1 (Nat.le_refl _) (fun k hk => by cases hk); have HR1 : Hid (w1.rowIs w.heap.size 56 8 (lowF (uns N) 0)) := HR.out.of_block (HB1.out.block _ hH); have hs1 := HB1.out.size; clear hg1)
        | (refine wpList_append_bys rfl (.tmp 30) (.tmp 31) rfl wr.heap.size _ _ rfl HO1.out (mkB w.heap.size 8 (beF 8 (uns N))) rfl (low_at HR1.out) (by show ([] ++ B.l).length + 8 ≤ _; rw [List.nil_append, B.len_l]; omega) hs1 ?_; intro v2 w2 HO2 hg2; have HB2 : Hid (Below wr.heap.size wr w2) := HB1.out.grown hg2 HB1.out.size HO1.out.block; clear hg2))
      obtain ⟨R, rfl, hR, hl, _⟩ := HO2.out.bys
      have HRR : Hid (R.At w2 ∧ R.l = B.l ++ be 8 (uns N)) := ⟨hR, by rw [hl, List.nil_append]; rfl⟩
      clear hR hl
      go_ret
      exact ⟨R, rfl, HRR.out.1, HRR.out.2, HW.out.trans (HB2.out.mono hws)⟩
    · obtain ⟨n, hn⟩ : ∃ n, n = dn N (8 - s) := ⟨_, rfl⟩
      obtain ⟨n', hn'⟩ : ∃ n', n' = dn N (8 - (s - 1)) := ⟨_, rfl⟩
      obtain ⟨b, hb⟩ : ∃ b, b = beF 8 (uns N) (s - 1) := ⟨_, rfl⟩
      have hb8 : b < 256 := by rw [hb]; exact beF_lt _ _ _
      have hnb : n % 256 = (b : Int) := by rw [hn, dn_byte N (8 - s) (by omega), hb, show 7 - (8 - s) = s - 1 by omega]
      have hnn : n' = n / 256 := by rw [hn', hn, show 8 - (s - 1) = (8 - s) + 1 by omega]; rfl
      have hrng := dn_range N HNr.out (8 - s)
      rw [← hn] at hrng ⊢
      have HN' : Hid (dn N (8 - (s - 1)) = n') := hn'.symm
      have HBb : Hid (beF 8 (uns N) (s - 1) = b) := hb.symm
      have c1 := hr.cell (i := s - 1) (by omega)
      have f1 := hr.frozen (s - 1)
      have idv : (n - (b : Int)).tdiv 256 = n' := by
        rw [hnn, Int.tdiv_eq_ediv_of_dvd (by omega)]
        omega
      have HV : Hid (wrap64 ((wrap64 (n - (b : Int))).tdiv 256) = n') := by
        show _ = _
        have e1 : wrap64 (n - (b : Int)) = n - b := by unfold wrap64; omega
        rw [e1, idv]
        unfold wrap64; omega
      clear hr hn hn' hb idv
      rcases (show n.tmod 256 = (b : Int) ∨ n.tmod 256 = (b : Int) - 256 from by
        rw [Int.tmod_eq_emod]; split <;> omega) with hmod | hmod
      · clear hnb hnn
        go_wp2
        go_roundw
        case rel =>
          refine ⟨s - 1, by omega, by congr 1; omega, by rw [HN'.out, HV.out], ?_, HW.out.setCell (Nat.le_refl _) _⟩
          refine (HR.out.set (s - 1) _).congr (fun j hj => ?_)
          unfold lowF
          by_cases e : j = s - 1
          · subst e
            rw [if_pos rfl, if_pos (Nat.le_refl _), HBb.out]
          · rw [if_neg e]
            by_cases h : s ≤ j
            · rw [if_pos h, if_pos (by omega)]
            · rw [if_neg h, if_neg (by omega)]
        case measure => simp [intOf]; omega
      · clear hnb hnn
        go_wp2
        go_roundw
        case rel =>
          refine ⟨s - 1, by omega, by congr 1; omega, by rw [HN'.out, HV.out], ?_, HW.out.setCell (Nat.le_refl _) _⟩
          refine (HR.out.set (s - 1) _).congr (fun j hj => ?_)
          unfold lowF
          by_cases e : j = s - 1
          · subst e
            rw [if_pos rfl, if_pos (Nat.le_refl _), HBb.out]
          · rw [if_neg e]
            by_cases h : s ≤ j
            · rw [if_pos h, if_pos (by omega)]
            · rw [if_neg h, if_neg (by omega)]
        case measure => simp [intOf]; omega
end Go.Proofs.Ytboehlfdfpiodaa
