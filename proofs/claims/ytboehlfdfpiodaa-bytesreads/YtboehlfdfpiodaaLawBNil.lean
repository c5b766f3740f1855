/- Layer 4: the walk of the statement BytesNil. -/
import Derived.Test.YtboehlfdfpiodaaBtRef2
import Derived.Test.YtboehlfdfpiodaaBtAwake
namespace Go.Proofs.Ytboehlfdfpiodaa
open Go.RowKit

theorem zero_rd (w : World) (g : Nat) : Rd (w.alloc (.cells #[.slice none 0 0, .bool false] 49)) w.heap.size g (some []) :=
  ⟨⟨none, g, 0, 0, 0, fun _ => 0⟩, rfl, ⟨Nat.le_refl _, fun h => absurd h (Nat.lt_irrefl _), fun _ => rfl, Nat.zero_le _, fun _ h => absurd h (Nat.not_lt_zero _), fun _ h => absurd h (Nat.not_lt_zero _)⟩, rfl, heap_alloc_new _ _⟩
theorem empty_short : shortV (some []) = 0 ∧ tkS 2 (some []) = none := ⟨rfl, rfl⟩

/-- Bytes of which none matters may lie anywhere. -/
def Bys.fix (B : Bys) (c : Nat) : Bys := ⟨B.ao, if 0 < B.len then B.b else c, B.o, B.len, B.cap, B.f⟩
theorem Bys.At.fix {B : Bys} {w : World} (h : B.At w) (c : Nat) : (B.fix c).At w :=
  ⟨h.lc, fun h0 => (by have := h.nil h0; have h0' : 0 < B.len := h0; show B.ao = some ⟨if 0 < B.len then B.b else c, B.o, .none⟩; rw [if_pos h0']; exact this), h.none, h.bound,
    fun i hi => (by have hi' : i < B.len := hi; have := h.cell i hi; show w.cell? ⟨if 0 < B.len then B.b else c, B.o + i, .none⟩ = _; rw [if_pos (by omega)]; exact this), h.lt⟩
theorem Bys.fix_ne {B : Bys} {w : World} (h : B.At w) {q : Nat} (hq : w.heap.size ≤ q) : (B.fix (q + 1)).b ≠ q := by
  show (if 0 < B.len then B.b else q + 1) ≠ q
  split
  · rename_i h0
    have := cell_lt (h.cell 0 h0)
    have : B.b < w.heap.size := this
    omega
  · omega

theorem Bys.fix_ne2 {B : Bys} {w : World} (h : B.At w) {c p : Nat} (hp : w.heap.size ≤ p) (hc : c ≠ p) : (B.fix c).b ≠ p := by
  show (if 0 < B.len then B.b else c) ≠ p
  split
  · rename_i h0
    have := cell_lt (h.cell 0 h0)
    have : B.b < w.heap.size := this
    omega
  · exact hc
theorem read_own {w : World} {base : Nat} {v : Value} {l : List Nat} (h : Own w base v l) (hl : l.length ≤ 1000000) :
    Calls Try.prog 17 #[v] w fun e w' => ∃ p, e = .returned (.pointer (some ⟨p, 0, none⟩)) ∧ Rd w' p w.heap.size (some l) ∧ w.heap.size < p ∧ Below w.heap.size w w' := by
  obtain ⟨R, rfl, hR, hRl, _⟩ := h.bys
  have := read_any R w hR (by rw [← R.len_l, hRl]; exact hl)
  rw [hRl] at this
  exact this
theorem ref_rf {w0 w : World} {B : Bys} (h : B.At w0) (hb : Below w0.heap.size w0 w) (hs : B.len ≤ 100000) :
    Rf (w.alloc (.cells #[.slice B.ao B.len B.cap, .int .i64 0, .bool false] 38)) w.heap.size (B.fix (w.heap.size + 1)) (some B.l) :=
  ⟨0, false, ⟨((h.kept hb).kept ((Below.refl _ _).alloc (Nat.le_refl _) _)).fix _, Nat.zero_le _, B.fix_ne h hb.size, hs, heap_alloc_new _ _⟩, by show some ((B.fix _).l.drop 0) = _; rw [List.drop_zero]; rfl⟩

/-- A row of the call's own whose first cells are the bytes. -/
theorem Own.row {w : World} {base : Nat} {v : Value} {l : List Nat} (h : Own w base v l) (h0 : 0 < l.length) : ∃ g N cap F, v = .slice (some ⟨g, 0, none⟩) l.length cap ∧ base ≤ g ∧ w.rowIs g 5 N F ∧ l.length ≤ N ∧ l.length ≤ cap ∧ cap ≤ 9223372036854775807 ∧ ∀ i, i < l.length → ∃ x : Nat, x < 256 ∧ F i = .int .u8 x := by
  obtain ⟨h, hlt⟩ := h
  obtain ⟨hlen, hh | ⟨g, cap, cur, rfl, hb, hg, hn, hc, hs, ht⟩⟩ := h
  · omega
  · refine ⟨g, cur.size, cap, fun i => cur.getD i undef, rfl, hb, ⟨cur, hg, rfl, fun i hi => by simp [hi]⟩, by omega, hn, by unfold maxLen at hc; exact hc, fun i hi => ?_⟩
    have e1 : (cellsL l)[i]? = some (.int .u8 (l.getD i 0 : Nat)) := by simp [cellsL, hi]
    rw [← ht, List.getElem?_take_of_lt (by omega), Array.getElem?_toList] at e1
    have hic : i < cur.size := by omega
    refine ⟨l.getD i 0, hlt _ ?_, ?_⟩
    · rw [List.getD_eq_getElem?_getD, List.getElem?_eq_getElem hi]; exact List.getElem_mem _
    · rw [Array.getElem?_eq_getElem hic] at e1
      injection e1 with e1
      show cur.getD i undef = _
      rw [← e1]
      simp [hic]

set_option maxRecDepth 100000 in
set_option maxHeartbeats 8000000 in
theorem bytesNil_any (B : Bys) (lim : Int) (w : World) (hB : B.At w) (_hlim : -9223372036854775808 ≤ lim ∧ lim ≤ 9223372036854775807) :
    Calls Try.prog 7 #[.slice B.ao B.len B.cap, .int .i64 lim] w fun e w' => e = .returned (.bool true) ∧ Below w.heap.size w w' := by
  have HB : Hid (B.At w) := hB
  have hbb := hB.bound
  have hbl := hB.lc
  clear hB
  go_enter Try.func7, Try.ntmps7
  go_wp2_with fail
  refine (awake_any _).mono ?_
  rintro e w1 ⟨rfl, hb1⟩
  by_cases hs : 5000 < B.len
  · go_wp2_with fail
    refine (awake_any _).mono ?_
    rintro e w3 ⟨rfl, hb3⟩
    go_wp2
    go_ret
    exact ⟨rfl, hb1.trans (hb3.mono hb1.size)⟩
  have HB1 : Hid (Below w.heap.size w w1) := hb1
  have hs1 := hb1.size
  clear hb1
  go_upto_region 6 with (first
    | (go_at_call 28; refine (failed_nil w1).mono ?_; rintro e w2 ⟨rfl, rfl⟩)
    | (go_at_call 29; refine (done_nil _).mono ?_; rintro e w2 ⟨rfl, rfl⟩)
    | (go_at_call 18; refine (rshort_nil _).mono ?_; rintro e w2 ⟨rfl, rfl⟩)
    | (go_at_call 20; refine (rlong_nil _).mono ?_; rintro e w2 ⟨rfl, rfl⟩)
    | (go_at_call 22; refine (rtext_nil _).mono ?_; rintro e w2 ⟨rfl, rfl⟩)
    | (go_at_call 24; refine (below_nil lim _).mono ?_; rintro e w2 ⟨rfl, rfl⟩)
    | (go_at_call 26; refine (left_nil _).mono ?_; rintro e w2 ⟨rfl, rfl⟩))
  have HZ : Hid (Rd (w2.alloc (.cells #[.slice none 0 0, .bool false] 49)) w2.heap.size (w2.heap.size + 1) (some [])) := zero_rd w2 _
  have HBz : Hid (Below w.heap.size w (w2.alloc (.cells #[.slice none 0 0, .bool false] 49))) := HB1.out.alloc HB1.out.size _
  obtain ⟨p0, hp0⟩ : ∃ p0, p0 = w2.heap.size := ⟨_, rfl⟩
  have hne : p0 + 1 ≠ p0 := by omega
  rw [← hp0] at HZ hs1
  go_upto_region 7 with fail
  rw [← hp0]
  generalize w2.alloc (.cells #[.slice none 0 0, .bool false] 49) = wz at *
  clear hp0 HB1
  go_upto_region 9 with (first
    | (go_at_call 28; first | (refine (failed_any p0 (p0 + 1) (some []) wz HZ.out).mono ?_; rintro e w3 ⟨rfl, rfl⟩) | (refine (failed_any p0 (p0 + 1) none w4 HN.out).mono ?_; rintro e w5 ⟨rfl, rfl⟩))
    | (go_at_call 29; refine (done_any p0 (p0 + 1) (some []) _ HZ.out).mono ?_; rw [show doneB (some []) = true from rfl]; rintro e w3 ⟨rfl, rfl⟩)
    | (go_at_call 26; refine (left_any p0 (p0 + 1) (some []) _ HZ.out).mono ?_; rw [show leftV (some []) = 0 from rfl]; rintro e w3 ⟨rfl, rfl⟩)
    | (go_at_call 18; refine (rshort_any p0 (p0 + 1) (some []) _ hne HZ.out).mono ?_; rw [empty_short.1, empty_short.2]; rintro e w4 ⟨rfl, hR, hg4⟩; have HN : Hid (Rd w4 p0 (p0 + 1) none) := hR; have HB4 : Hid (Below w.heap.size w w4) := HBz.out.grown hg4 HBz.out.size (fun k hk => by injection hk with hk; omega); clear hR hg4))
  have hs4 := HB4.out.size
  have hp4 : w.heap.size ≤ w5.heap.size := hs4
  obtain ⟨M, hM⟩ : ∃ M, M = w5.heap.size := ⟨_, rfl⟩
  have HM : Hid (M = w5.heap.size) := hM
  clear hM HN HBz
  go_upto_region 11 with (refine wpList_append_bys rfl (.tmp 76) (.tmp 77) rfl M _ [] rfl (Own.nil _ _) B rfl (HB.out.kept HB4.out) (by show 0 + B.len ≤ _; omega) (Nat.le_of_eq HM.out) ?_; intro v w6 HO hg6; have HB6 : Hid (Below w.heap.size w w6) := HB4.out.grown hg6 HB4.out.size (fun k hk => by cases hk); clear hg6)
  rw [List.nil_append] at HO
  obtain ⟨L, hL⟩ : ∃ L, L = longV (some B.l) := ⟨_, rfl⟩
  have HL : Hid (longV (some B.l) = L) := hL.symm
  obtain ⟨Le, hLe⟩ : ∃ Le, Le = leftV (tkS 8 (some B.l)) := ⟨_, rfl⟩
  have HLe : Hid (leftV (tkS 8 (some B.l)) = Le) := hLe.symm
  have hs' : B.len ≤ 5000 := by omega
  have hs6 := HB6.out.size
  have hM0 : w.heap.size ≤ M := by rw [HM.out]; exact hp4
  clear hL hLe HM HB4 HZ hs4 hp4
  obtain ⟨q, hq⟩ : ∃ q, q = w6.heap.size := ⟨_, rfl⟩
  rw [← hq] at hs6
  have HQ : Hid (q = w6.heap.size) := hq
  clear hq
  by_cases hz : B.len = 0
  · obtain ⟨R, rfl, hR, hRl, hRb⟩ := HO.out.bys
    have hRn : R.len = 0 := by rw [← R.len_l, hRl, B.len_l, hz]
    have HH : Hid (Own w6 M (.slice R.ao 0 R.cap) B.l) := by have h := HO.out; rw [hRn] at h; exact h
    rw [hRn]
    clear hR hRl hRb hRn HO hz
    go_wp2_with (go_at_call 17; refine (read_own HH.out (by rw [B.len_l]; omega)).mono ?_; rintro e w7 ⟨p, rfl, hR, hqp', hb7⟩; rw [← HQ.out] at hR hqp'; have HR7 : Hid (Rd w7 p q (some B.l)) := hR; have HB7 : Hid (Below w.heap.size w w7) := HB6.out.trans (hb7.mono HB6.out.size); clear hR hb7)
    have hqp : q ≠ p := by omega
    go_loopw [9] (fun i wr => i = .int .i64 0 ∧ Rd wr p q (some B.l) ∧ Below w.heap.size w wr) (fun _ _ => 0)
    case atStart => exact ⟨rfl, HR7.out, HB7.out⟩
    case round =>
      obtain ⟨rfl, hr, hw⟩ := hrel
      have HRr : Hid (Rd wr p q (some B.l)) := hr
      have HWr : Hid (Below w.heap.size w wr) := hw
      clear hr hw
      have hszr := HWr.out.size
      have hplt := HRr.out.lt
      have HX : Hid (Rf (wr.alloc (.cells #[.slice B.ao B.len B.cap, .int .i64 0, .bool false] 38)) wr.heap.size (B.fix (wr.heap.size + 1)) (some B.l)) := ref_rf HB.out HWr.out (by omega)
      have HY : Hid (Rd (wr.alloc (.cells #[.slice B.ao B.len B.cap, .int .i64 0, .bool false] 38)) p q (some B.l)) := HRr.out.bel ((Below.refl _ _).alloc (Nat.le_refl _) _)
      have HW : Hid (Below w.heap.size w (wr.alloc (.cells #[.slice B.ao B.len B.cap, .int .i64 0, .bool false] 38))) := HWr.out.alloc hszr _
      have HFp : Hid ((B.fix (wr.heap.size + 1)).b ≠ p) := B.fix_ne2 HB.out (by omega) (by omega)
      go_wp2_with (first
        | (go_at_call 20; refine (rlong_any p q (some B.l) _ hqp HY.out).mono ?_; rw [HL.out]; rintro e wa ⟨rfl, hR, hg⟩; have HRa : Hid (Rd wa p q (tkS 8 (some B.l))) := hR; have HXa : Hid (Rf wa wr.heap.size (B.fix (wr.heap.size + 1)) (some B.l)) := HX.out.gb hg (by omega) HFp.out; have HWa : Hid (Below w.heap.size w wa) := HW.out.grown hg HW.out.size (fun k hk => by injection hk with hk; omega); clear hR hg)
        | (go_at_call 21; refine (xlong_any wr.heap.size _ (some B.l) wa HXa.out).mono ?_; rw [HL.out]; rintro e wb ⟨rfl, hR, hg⟩; have HXb : Hid (Rf wb wr.heap.size (B.fix (wr.heap.size + 1)) (tkS 8 (some B.l))) := hR; have HRb : Hid (Rd wb p q (tkS 8 (some B.l))) := HRa.out.gb hg (by omega) (by omega); have HWb : Hid (Below w.heap.size w wb) := HWa.out.grown hg HWa.out.size (fun k hk => by injection hk with hk; omega); clear hR hg)
        | (go_at_call 26; refine (left_any p q (tkS 8 (some B.l)) wb HRb.out).mono ?_; rw [HLe.out]; rintro e wc ⟨rfl, rfl⟩)
        | (go_at_call 27; refine (xleft_any wr.heap.size _ (tkS 8 (some B.l)) _ HXb.out).mono ?_; rw [HLe.out]; rintro e wd ⟨rfl, hbd⟩; have HWd : Hid (Below w.heap.size w wd) := HWb.out.trans (hbd.mono HWb.out.size); clear hbd))
      go_ret
      exact ⟨rfl, HWd.out⟩
  · obtain ⟨g, N, cap, F, rfl, hgM, hrow, hN, hcap, hcb, hF⟩ := HO.out.row (by rw [B.len_l]; omega)
    have HO2 : Hid (Own w6 M (.slice (some ⟨g, 0, none⟩) B.len cap) B.l) := by have h := HO.out; rw [B.len_l] at h; exact h
    rw [B.len_l] at hN hcap hF ⊢
    have HRow : Hid (w6.rowIs g 5 N F ∧ ∀ i, i < B.len → ∃ x : Nat, x < 256 ∧ F i = .int .u8 x) := ⟨hrow, hF⟩
    have hg6 : g < q := by rw [HQ.out]; exact hrow.lt
    have hMg : w.heap.size ≤ M := hM0
    clear hrow hF HO
    go_wp2_with (go_at_call 17; refine (read_own HO2.out (by rw [B.len_l]; omega)).mono ?_; rintro e w7 ⟨p, rfl, hR, hqp', hb7⟩; have HRow7 : Hid (∃ F, w7.rowIs g 5 N F ∧ ∀ i, i < B.len → ∃ x : Nat, x < 256 ∧ F i = .int .u8 x) := ⟨F, HRow.out.1.of_block (hb7.block g HRow.out.1.lt), HRow.out.2⟩; rw [← HQ.out] at hR hqp'; have HR7 : Hid (Rd w7 p q (some B.l)) := hR; have HB7 : Hid (Below w.heap.size w w7) := HB6.out.trans (hb7.mono HB6.out.size); clear hR hb7)
    have hqp : q ≠ p := by omega
    go_loopw [9] (fun i wr => ∃ k : Nat, k ≤ B.len ∧ i = .int .i64 k ∧ Rd wr p q (some B.l) ∧ Below w.heap.size w wr ∧ ∃ F, wr.rowIs g 5 N F ∧ ∀ i, i < B.len → ∃ x : Nat, x < 256 ∧ F i = .int .u8 x) (fun i _ => B.len - (intOf i).toNat)
    case atStart => exact ⟨0, Nat.zero_le _, rfl, HR7.out, HB7.out, HRow7.out⟩
    case round =>
      obtain ⟨k, hk, rfl, hr, hw, F2, hrow2, hF2⟩ := hrel
      have HRr : Hid (Rd wr p q (some B.l)) := hr
      have HWr : Hid (Below w.heap.size w wr) := hw
      clear hr hw
      by_cases hlt : k < B.len
      · obtain ⟨x, hx, hFx⟩ := hF2 k hlt
        have ck : wr.cell? ⟨g, k, none⟩ = some (.int .u8 x) := by rw [hrow2.cell (by omega), hFx]
        have fk := hrow2.frozen k
        have HRow2 : Hid (wr.rowIs g 5 N F2 ∧ ∀ i, i < B.len → ∃ x : Nat, x < 256 ∧ F2 i = .int .u8 x) := ⟨hrow2, hF2⟩
        have i8 : IntKind.u8.wrap (255 - (x : Int)) = ((255 - x : Nat) : Int) := by simp [IntKind.wrap, IntKind.bits, IntKind.signed]; omega
        clear hrow2 hF2 hFx HRow7
        go_wp2
        go_roundw
        case rel =>
          refine ⟨k + 1, by omega, by go_num, HRr.out.gb (gb_set (gb_refl _ _) _ _) (by omega) (by omega), HWr.out.setCell (by show _ ≤ g; omega) _, _, HRow2.out.1.set k _, fun i hi => ?_⟩
          by_cases e : i = k
          · exact ⟨255 - x, by omega, if_pos e⟩
          · obtain ⟨y, hy, hFy⟩ := HRow2.out.2 i hi
            exact ⟨y, hy, (if_neg e).trans hFy⟩
        case measure => simp [intOf]; omega
      · clear hrow2 hF2 HRow7
        have hszr := HWr.out.size
        have hplt := HRr.out.lt
        have HX : Hid (Rf (wr.alloc (.cells #[.slice B.ao B.len B.cap, .int .i64 0, .bool false] 38)) wr.heap.size (B.fix (wr.heap.size + 1)) (some B.l)) := ref_rf HB.out HWr.out (by omega)
        have HY : Hid (Rd (wr.alloc (.cells #[.slice B.ao B.len B.cap, .int .i64 0, .bool false] 38)) p q (some B.l)) := HRr.out.bel ((Below.refl _ _).alloc (Nat.le_refl _) _)
        have HW : Hid (Below w.heap.size w (wr.alloc (.cells #[.slice B.ao B.len B.cap, .int .i64 0, .bool false] 38))) := HWr.out.alloc hszr _
        have HFp : Hid ((B.fix (wr.heap.size + 1)).b ≠ p) := B.fix_ne2 HB.out (by omega) (by omega)
        go_wp2_with (first
          | (go_at_call 20; refine (rlong_any p q (some B.l) _ hqp HY.out).mono ?_; rw [HL.out]; rintro e wa ⟨rfl, hR, hg⟩; have HRa : Hid (Rd wa p q (tkS 8 (some B.l))) := hR; have HXa : Hid (Rf wa wr.heap.size (B.fix (wr.heap.size + 1)) (some B.l)) := HX.out.gb hg (by omega) HFp.out; have HWa : Hid (Below w.heap.size w wa) := HW.out.grown hg HW.out.size (fun k hk => by injection hk with hk; omega); clear hR hg)
          | (go_at_call 21; refine (xlong_any wr.heap.size _ (some B.l) wa HXa.out).mono ?_; rw [HL.out]; rintro e wb ⟨rfl, hR, hg⟩; have HXb : Hid (Rf wb wr.heap.size (B.fix (wr.heap.size + 1)) (tkS 8 (some B.l))) := hR; have HRb : Hid (Rd wb p q (tkS 8 (some B.l))) := HRa.out.gb hg (by omega) (by omega); have HWb : Hid (Below w.heap.size w wb) := HWa.out.grown hg HWa.out.size (fun k hk => by injection hk with hk; omega); clear hR hg)
          | (go_at_call 26; refine (left_any p q (tkS 8 (some B.l)) wb HRb.out).mono ?_; rw [HLe.out]; rintro e wc ⟨rfl, rfl⟩)
          | (go_at_call 27; refine (xleft_any wr.heap.size _ (tkS 8 (some B.l)) _ HXb.out).mono ?_; rw [HLe.out]; rintro e wd ⟨rfl, hbd⟩; have HWd : Hid (Below w.heap.size w wd) := HWb.out.trans (hbd.mono HWb.out.size); clear hbd))
        go_ret
        exact ⟨rfl, HWd.out⟩
end Go.Proofs.Ytboehlfdfpiodaa
