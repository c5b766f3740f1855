/- Layer 5: the walk of lex.first. -/
import Derived.Test.YtgpaeilnpeflaaaDoorP8
import Derived.Deep.AppendLies
import Derived.Lib.TrimUEq
import Derived.Lib.IndexBytes
namespace Go.Proofs.YtgpaeilnpeflaaaDoor
open Go.RowKit

theorem bs_ext (s : ByteArray) (a b : Nat) : bs (s.extract a b) = ((bs s).take b).drop a := by
  unfold bs
  rw [ByteArray.data_extract, Array.toList_extract, List.extract_eq_take_drop]
  rw [List.drop_take]
theorem bs_take (s : ByteArray) (b : Nat) : bs (s.extract 0 b) = (bs s).take b := by rw [bs_ext, List.drop_zero]
theorem toList_mk (l : List UInt8) : (⟨l.toArray⟩ : ByteArray).toList = l := by simp
theorem toList_bs (s : ByteArray) : s.toList = bs s := by
  obtain ⟨d⟩ := s
  have h := toList_mk d.toList
  rw [Array.toArray_toList] at h
  exact h
theorem sz_bs (s : ByteArray) : s.size = (bs s).length := (bs_len s).symm

/-- What a word at the beginning of s is told as. -/
def FP (l : List UInt8) (k : Int) (t : ByteArray) (n : Int) (ok : Bool) : Prop :=
  match nextW l with
  | none => ok = false
  | some (k', m, n') => ok = true ∧ k = (k' : Nat) ∧ t = str (l.take m) ∧ n = (n' : Nat)

theorem kw_cnt : ∀ x ∈ kws, nmCnt x ≤ 16 := by decide
theorem fp_name (s : ByteArray) (h : 0 < lsz (bs s)) : FP (bs s) (if kw (bs (s.extract 0 (nmLen (bs s)))) then 2 else 1) (s.extract 0 (nmLen (bs s))) 0 (kw (bs (s.extract 0 (nmLen (bs s)))) || nameB (s.extract 0 (nmLen (bs s)))) := by
  have hl := lsz_nm _ h
  have hle := nm_le (bs s)
  have e := bs_take s (nmLen (bs s))
  have hsplit : (bs s).take (nmLen (bs s)) ++ (bs s).drop (nmLen (bs s)) = bs s := List.take_append_drop _ _
  have tl : ((bs s).take (nmLen (bs s))).length = nmLen (bs s) := by rw [List.length_take]; omega
  obtain ⟨h1, h2⟩ := nm_app' ((bs s).take (nmLen (bs s))) ((bs s).drop (nmLen (bs s))) (by rw [hsplit, tl])
  have hc : nmCnt ((bs s).take (nmLen (bs s))) = nmCnt (bs s) := by
    have := (nm_app _ ((bs s).drop (nmLen (bs s))) h1).2
    rw [hsplit, cnt_zero h2] at this; omega
  have hz : lsz ((bs s).take (nmLen (bs s))) = lsz (bs s) := by
    have := lsz_app _ ((bs s).drop (nmLen (bs s))) (by intro e0; rw [e0] at tl; simp at tl; omega) h1
    rw [hsplit] at this; exact this.symm
  have hn : nameB (s.extract 0 (nmLen (bs s))) = decide (nmCnt (bs s) ≤ 16) := by
    rw [name_cnt _ (by rw [e, hz]; exact h) (by rw [e, h1, tl, sz_bs, e, tl]), e, hc]
  rw [hn, e]
  unfold FP nextW
  rw [if_pos h]
  by_cases h16 : nmCnt (bs s) ≤ 16
  · rw [if_pos h16]
    refine ⟨by simp [h16], ?_, ?_, rfl⟩
    · split <;> rfl
    · rw [← e, str_bs]
  · rw [if_neg h16]
    show (kw _ || decide _) = false
    have : kw ((bs s).take (nmLen (bs s))) = false := by
      rw [← Bool.not_eq_true]
      intro hk
      have hm : (bs s).take (nmLen (bs s)) ∈ kws := by simpa [kw] using hk
      have := kw_cnt _ hm
      omega
    rw [this, decide_eq_false h16]; rfl
theorem fp_num {s : ByteArray} {n : Int} {ok : Bool} (h : ¬ 0 < lsz (bs s)) (hd : 0 < dgLen (bs s)) (hok : ok = true ↔ numV ((bs s).take (dgLen (bs s))) ≤ 9223372036854775807 ∧ (dgLen (bs s) = 1 ∨ (bs s).head? ≠ some 48))
    (hn : ok = true → n = (numV ((bs s).take (dgLen (bs s))) : Nat)) : FP (bs s) 3 (s.extract 0 (dgLen (bs s))) n ok := by
  unfold FP nextW
  rw [if_neg h, if_pos hd]
  by_cases hc : numV ((bs s).take (dgLen (bs s))) ≤ 9223372036854775807 ∧ (dgLen (bs s) = 1 ∨ (bs s).head? ≠ some 48)
  · rw [if_pos hc]
    exact ⟨hok.2 hc, rfl, by rw [← bs_take, str_bs], hn (hok.2 hc)⟩
  · rw [if_neg hc]
    show ok = false
    rw [← Bool.not_eq_true]
    exact fun h => hc (hok.1 h)
theorem fp_sign {s : ByteArray} (h0 : 0 < s.size) (h : ¬ 0 < lsz (bs s)) (hd : ¬ 0 < dgLen (bs s)) : FP (bs s) 4 (s.extract 0 (szK (bs s) 4)) 0 (sg (s[0]'h0)) := by
  have e : bs s = (s[0]'h0) :: (bs s).drop 1 := by have := bs_drop s 0 h0; simpa using this
  have ht : s.extract 0 (szK (bs s) 4) = str ((bs s).take (szK (bs s) 4)) := by rw [← bs_take, str_bs]
  rw [ht]
  unfold FP nextW
  rw [if_neg h, if_neg hd]
  generalize s[0]'h0 = c at e ⊢
  generalize (bs s).drop 1 = r at e
  rw [e]
  match r with
  | [] =>
    rw [sg1]
    have hz : szK [c] 4 = 1 := by unfold szK; rw [if_neg (fun h => by have := lgK_len h; simp at this)]
    rw [hz]
    cases hs : sg c
    · simp
    · simp
  | d :: r =>
    rw [sg2]
    have hz : szK (c :: d :: r) 4 = if lg c d then 2 else 1 := by unfold szK; rw [lgK_lg]
    rw [hz]
    cases hl : lg c d
    · cases hs : sg c
      · simp
      · simp
    · simp [lg_sg hl]

theorem lnum_any (s : ByteArray) (w : World) (hv : Vs w) (h0 : 0 < s.size) (hs : s.size ≤ 281474976710656) (hd : dgLen (bs s) = s.size) :
    Calls Tryd.prog 19 #[.string s] w fun e w' => (∃ n ok, e = .returned (.tuple #[tkV 3 s n 0, .bool ok]) ∧ (ok = true ↔ numV (bs s) ≤ 9223372036854775807 ∧ (s.size = 1 ∨ (bs s).head? ≠ some 48)) ∧ (ok = true → n = (numV (bs s) : Nat))) ∧ Below w.heap.size w w' := by
  have hp := parseI (bs s) (by rw [bs_len]; exact hd) (by intro e; have := bs_len s; rw [e] at this; simp at this; omega)
  have hh : (bs s).head? = some (s[0]'h0) := by
    have := bs_drop s 0 h0
    rw [List.drop_zero] at this; rw [this]; rfl
  by_cases hn : numV (bs s) ≤ 9223372036854775807
  · rw [if_pos hn] at hp
    cases hz : (s.toList == [48])
    · refine (lnum_nz s w h0 (by omega) hp hz).mono ?_
      rintro e w' ⟨rfl, hb⟩
      refine ⟨⟨_, _, rfl, ?_, fun _ => rfl⟩, hb⟩
      have hne : s.size = 1 → (s[0]'h0) ≠ 48 := fun h1 h2 => by
        rw [toList_bs] at hz
        have e1 := bs_drop s 0 h0
        rw [bs_end s 1 (by omega), List.drop_zero, h2] at e1
        rw [e1] at hz; cases hz
      rw [hh]
      simp only [bne_iff_ne, ne_eq, Option.some.injEq]
      have hc : (s[0]'h0).toNat = 48 ↔ s[0]'h0 = 48 := ⟨fun h => UInt8.toNat_inj.1 h, fun h => by rw [h]; rfl⟩
      constructor
      · intro h; exact ⟨hn, Or.inr (fun h2 => h (by rw [hc.2 h2]; rfl))⟩
      · rintro ⟨_, h⟩ h3
        have h4 := hc.1 (by omega)
        rcases h with h | h
        · exact hne h h4
        · exact h h4
    · refine (lnum_z s w h0 (by omega) hp hz).mono ?_
      rintro e w' ⟨rfl, hb⟩
      refine ⟨⟨_, _, rfl, ?_, fun _ => rfl⟩, hb⟩
      have hl : bs s = [48] := by rw [toList_bs] at hz; simpa using hz
      have : s.size = 1 := by rw [sz_bs, hl]; rfl
      simp [hn, this]
  · rw [if_neg hn] at hp
    refine (lnum_big s w h0 hs hp hv).mono ?_
    rintro e w' ⟨⟨n, rfl⟩, hb⟩
    exact ⟨⟨n, _, rfl, by simp [hn], fun h => by cases h⟩, hb⟩

set_option maxHeartbeats 2000000 in
theorem first_name (s : ByteArray) (w : World) (h0 : 0 < s.size) (hl : 0 < lsz (bs s)) :
    Calls Tryd.prog 12 #[.string s, .int .i32 (Utf8.decode s 0).1] w fun e w' => (∃ k t n ok, e = .returned (.tuple #[tkV k t n 0, .bool ok]) ∧ FP (bs s) k t n ok) ∧ Below w.heap.size w w' := by
  have hr : letterB (Utf8.decode s 0).1 = true := by rw [lsz_rune s 0 h0]; simpa using hl
  have B0 := B4.new w (.int .i64 0) (.string ⟨#[]⟩) (.int .i64 0) (.int .i64 0) 34
  have hb0 := below_alloc w (.cells #[.int .i64 0, .string ⟨#[]⟩, .int .i64 0, .int .i64 0] 34)
  have HF : Hid (FP (bs s) (if kw (bs (s.extract 0 (nmLen (bs s)))) then 2 else 1) (s.extract 0 (nmLen (bs s))) 0 (kw (bs (s.extract 0 (nmLen (bs s)))) || nameB (s.extract 0 (nmLen (bs s))))) := fp_name s hl
  have m1 : (nmLen (bs s) : Int) ≤ s.size := by have := nm_le (bs s); rw [bs_len] at this; omega
  have m0 : (0 : Int) ≤ nmLen (bs s) := by omega
  have HS : Hid (spn nameR s (s.size + 1) 0 = nmLen (bs s)) := name_spn s
  clear hl
  go_enter Tryd.func12, Tryd.ntmps12
  go_wp2_with fail
  refine (lletter_any _ _).mono ?_
  rintro e w1 ⟨rfl, hb⟩
  rw [hr]
  have B1 := B0.kept hb
  have hb1 := nxt hb0 hb
  clear hr hb B0 hb0
  go_wp2_with fail
  refine (span_name _ _).mono ?_
  rintro e w2 ⟨rfl, hb⟩
  rw [HS.out]
  have B2 := B1.kept hb
  have hb2 := nxt hb1 hb
  clear HS hb B1 hb1
  generalize nmLen (bs s) = m at HF m0 m1 ⊢
  go_wp2_with fail
  refine (lname_any _ _).mono ?_
  rintro e w3 ⟨rfl, hb⟩
  obtain ⟨c0, c1, c2, c3, f0, f1, f2, f3⟩ := B2.kept hb
  have hb3 := nxt hb2 hb
  clear hb B2 hb2
  generalize kw (bs (s.extract 0 m)) = kb at HF ⊢
  generalize (kb || nameB (s.extract 0 m)) = ok at HF ⊢
  generalize (if kb = true then (2 : Int) else 1) = kk at HF ⊢
  unfold tkV
  go_wp2
  refine bodyPost_ret (v := .tuple #[tkV kk (s.extract 0 m) 0 0, .bool ok]) (by simp [results, Tryd.results12, go_sem, tkV, c0, c1, c2, c3]) rfl ⟨⟨_, _, _, _, rfl, HF.out⟩, put4_below (Nat.le_refl _) hb3 _ _ _ _⟩
set_option maxHeartbeats 2000000 in
theorem first_num (s : ByteArray) (w : World) (hv : Vs w) (h0 : 0 < s.size) (hs : s.size ≤ 281474976710656) (hl : ¬ 0 < lsz (bs s)) (hd : 0 < dgLen (bs s)) :
    Calls Tryd.prog 12 #[.string s, .int .i32 (Utf8.decode s 0).1] w fun e w' => (∃ k t n ok, e = .returned (.tuple #[tkV k t n 0, .bool ok]) ∧ FP (bs s) k t n ok) ∧ Below w.heap.size w w' := by
  have hr : letterB (Utf8.decode s 0).1 = false := by rw [lsz_rune s 0 h0]; simpa using hl
  have hr2 : digitB (Utf8.decode s 0).1 = true := by rw [dg_rune s 0 h0]; simpa using hd
  have B0 := B4.new w (.int .i64 0) (.string ⟨#[]⟩) (.int .i64 0) (.int .i64 0) 34
  have hb0 := below_alloc w (.cells #[.int .i64 0, .string ⟨#[]⟩, .int .i64 0, .int .i64 0] 34)
  have HF : Hid (∀ (n : Int) (ok : Bool), (ok = true ↔ numV ((bs s).take (dgLen (bs s))) ≤ 9223372036854775807 ∧ (dgLen (bs s) = 1 ∨ (bs s).head? ≠ some 48)) → (ok = true → n = (numV ((bs s).take (dgLen (bs s))) : Nat)) → FP (bs s) 3 (s.extract 0 (dgLen (bs s))) n ok) := fun n ok h1 h2 => fp_num hl hd h1 h2
  have hle := dg_le (bs s)
  have m1 : (dgLen (bs s) : Int) ≤ s.size := by rw [bs_len] at hle; omega
  have m0 : (0 : Int) ≤ dgLen (bs s) := by omega
  have HS : Hid (spn digitB s (s.size + 1) 0 = dgLen (bs s)) := dig_spn s
  have e := bs_take s (dgLen (bs s))
  have tl : ((bs s).take (dgLen (bs s))).length = dgLen (bs s) := by rw [List.length_take]; omega
  have ts : (s.extract 0 (dgLen (bs s))).size = dgLen (bs s) := by rw [sz_bs, e, tl]
  have hdt : dgLen (bs (s.extract 0 (dgLen (bs s)))) = (s.extract 0 (dgLen (bs s))).size := by
    rw [ts, e]
    have := (dg_app' ((bs s).take (dgLen (bs s))) ((bs s).drop (dgLen (bs s))) (by rw [List.take_append_drop, tl])).1
    rw [this, tl]
  have HN : Hid (∀ W : World, Vs W → Calls Tryd.prog 19 #[.string (s.extract 0 (dgLen (bs s)))] W fun e w' => (∃ n ok, e = .returned (.tuple #[tkV 3 (s.extract 0 (dgLen (bs s))) n 0, .bool ok]) ∧ FP (bs s) 3 (s.extract 0 (dgLen (bs s))) n ok) ∧ Below W.heap.size W w') := fun W hW => by
    refine (lnum_any _ W hW (by omega) (by omega) hdt).mono ?_
    rintro e' w' ⟨⟨n, ok, rfl, h1, h2⟩, hb⟩
    refine ⟨⟨n, ok, rfl, HF.out n ok ?_ ?_⟩, hb⟩
    · rw [h1, e, ts]
      have hh : ((bs s).take (dgLen (bs s))).head? = (bs s).head? := by
        rw [List.head?_take, if_neg (by omega)]
      rw [hh]
    · rw [e] at h2; exact h2
  clear HF hle hdt ts tl e hd hl
  go_enter Tryd.func12, Tryd.ntmps12
  go_wp2_with fail
  refine (lletter_any _ _).mono ?_
  rintro e w1 ⟨rfl, hb⟩
  rw [hr]
  have B1 := B0.kept hb
  have hb1 := nxt hb0 hb
  clear hr hb B0 hb0
  go_wp2_with fail
  refine (ldigit_any _ _).mono ?_
  rintro e w1' ⟨rfl, rfl⟩
  rw [hr2]
  clear hr2
  go_wp2_with fail
  refine (span_digit _ _).mono ?_
  rintro e w2 ⟨rfl, hb⟩
  rw [HS.out]
  have B2 := B1.kept hb
  have hb2 := nxt hb1 hb
  clear HS hb B1 hb1
  have V2 := hv.kept hb2
  generalize dgLen (bs s) = m at HN m0 m1 ⊢
  go_wp2_with fail
  refine (HN.out _ V2).mono ?_
  rintro e w3 ⟨⟨n, ok, rfl, hF⟩, hb⟩
  have HF : Hid (FP (bs s) 3 (s.extract 0 m) n ok) := hF
  obtain ⟨c0, c1, c2, c3, f0, f1, f2, f3⟩ := B2.kept hb
  have hb3 := nxt hb2 hb
  clear hb B2 hb2 V2 hF HN
  unfold tkV
  go_wp2
  refine bodyPost_ret (v := .tuple #[tkV 3 (s.extract 0 m) n 0, .bool ok]) (by simp [results, Tryd.results12, go_sem, tkV, c0, c1, c2, c3]) rfl ⟨⟨_, _, _, _, rfl, HF.out⟩, put4_below (Nat.le_refl _) hb3 _ _ _ _⟩
set_option maxHeartbeats 2000000 in
theorem first_sign (s : ByteArray) (w : World) (hv : Vs w) (h0 : 0 < s.size) (hl : ¬ 0 < lsz (bs s)) (hd : ¬ 0 < dgLen (bs s)) :
    Calls Tryd.prog 12 #[.string s, .int .i32 (Utf8.decode s 0).1] w fun e w' => (∃ k t n ok, e = .returned (.tuple #[tkV k t n 0, .bool ok]) ∧ FP (bs s) k t n ok) ∧ Below w.heap.size w w' := by
  have hr : letterB (Utf8.decode s 0).1 = false := by rw [lsz_rune s 0 h0]; simpa using hl
  have hr2 : digitB (Utf8.decode s 0).1 = false := by rw [dg_rune s 0 h0]; simpa using hd
  have B0 := B4.new w (.int .i64 0) (.string ⟨#[]⟩) (.int .i64 0) (.int .i64 0) 34
  have hb0 := below_alloc w (.cells #[.int .i64 0, .string ⟨#[]⟩, .int .i64 0, .int .i64 0] 34)
  have HF : Hid (FP (bs s) 4 (s.extract 0 (szK (bs s) 4)) 0 (sg (s[0]'h0))) := fp_sign h0 hl hd
  clear hd hl
  go_enter Tryd.func12, Tryd.ntmps12
  go_wp2_with fail
  refine (lletter_any _ _).mono ?_
  rintro e w1 ⟨rfl, hb⟩
  rw [hr]
  have B1 := B0.kept hb
  have hb1 := nxt hb0 hb
  clear hr hb B0 hb0
  go_wp2_with fail
  refine (ldigit_any _ _).mono ?_
  rintro e w1' ⟨rfl, rfl⟩
  rw [hr2]
  clear hr2
  have V1 := hv.kept hb1
  go_wp2_with fail
  refine (lsign_any _ _ V1 h0).mono ?_
  rintro e w3 ⟨rfl, hb⟩
  obtain ⟨c0, c1, c2, c3, f0, f1, f2, f3⟩ := B1.kept hb
  have hb3 := nxt hb1 hb
  clear hb B1 hb1 V1
  generalize s.extract 0 (szK (bs s) 4) = tx at HF ⊢
  generalize sg (s[0]'h0) = ok at HF ⊢
  unfold tkV
  go_wp2
  refine bodyPost_ret (v := .tuple #[tkV 4 tx 0 0, .bool ok]) (by simp [results, Tryd.results12, go_sem, tkV, c0, c1, c2, c3]) rfl ⟨⟨_, _, _, _, rfl, HF.out⟩, put4_below (Nat.le_refl _) hb3 _ _ _ _⟩
theorem first_any (s : ByteArray) (w : World) (hv : Vs w) (h0 : 0 < s.size) (hs : s.size ≤ 281474976710656) :
    Calls Tryd.prog 12 #[.string s, .int .i32 (Utf8.decode s 0).1] w fun e w' => (∃ k t n ok, e = .returned (.tuple #[tkV k t n 0, .bool ok]) ∧ FP (bs s) k t n ok) ∧ Below w.heap.size w w' := by
  by_cases hl : 0 < lsz (bs s)
  · exact first_name s w h0 hl
  · by_cases hd : 0 < dgLen (bs s)
    · exact first_num s w hv h0 hs hl hd
    · exact first_sign s w hv h0 hl hd
end Go.Proofs.YtgpaeilnpeflaaaDoor

/- Layer 5: rows of words; runes between two places. -/
namespace Go.Proofs.YtgpaeilnpeflaaaDoor
open Go.RowKit

theorem Tryd.infoTok : (Tryd.prog.info? 34).map (fun i => (i.zero, i.size, i.bytes)) = some (some (.agg #[.int .i64 0, .string ⟨#[]⟩, .int .i64 0, .int .i64 0]), 4, 40) := by kernel_rfl
theorem Tryd.infoRTok : (Tryd.prog.info? 40).map (fun i => (i.zero, i.size, i.bytes)) = some (some (.agg #[.int .i64 0, .string ⟨#[]⟩, .int .i64 0, .int .i64 0]), 4, 40) := by kernel_rfl

def tv (t : Tk) : List Value := [.int .i64 t.k, .string (str t.t), .int .i64 t.n, .int .i64 t.a]
def flat : List Tk → List Value
  | [] => []
  | t :: ts => tv t ++ flat ts
theorem flat_len : ∀ ts : List Tk, (flat ts).length = ts.length * 4
  | [] => rfl
  | t :: ts => by
    show (tv t ++ flat ts).length = _
    rw [List.length_append, flat_len ts, List.length_cons]
    show 4 + _ = _
    omega
theorem flat_app : ∀ ts us : List Tk, flat (ts ++ us) = flat ts ++ flat us
  | [], us => rfl
  | t :: ts, us => by
    show tv t ++ flat (ts ++ us) = (tv t ++ flat ts) ++ flat us
    rw [flat_app ts us, List.append_assoc]
theorem flat_get : ∀ (ts : List Tk) (i q : Nat) (h : i < ts.length), q < 4 → (flat ts)[i * 4 + q]? = (tv ts[i])[q]?
  | t :: ts, 0, q, _, hq => by
    show (tv t ++ flat ts)[0 * 4 + q]? = (tv t)[q]?
    rw [Nat.zero_mul, Nat.zero_add, List.getElem?_append_left (by show q < 4; exact hq)]
  | t :: ts, i + 1, q, h, hq => by
    show (tv t ++ flat ts)[(i + 1) * 4 + q]? = _
    rw [List.getElem?_append_right (by show 4 ≤ _; omega)]
    have e : (i + 1) * 4 + q - (tv t).length = i * 4 + q := by show (i + 1) * 4 + q - 4 = _; omega
    rw [e, flat_get ts i q (by simpa using h) hq]
    rfl

theorem ow_ge {w : World} {base : Nat} {e : TypeId} {size : Nat} {v : Value} {n : Nat} {xs : List Value} (h : w.ownsRow base e size v n xs) {b : Nat} (hb : v.ownBlock = some b) : base ≤ b ∧ b < w.heap.size := by
  obtain ⟨_, ⟨rfl, _⟩ | ⟨g, cap, cur, rfl, hg, hh, _⟩⟩ := h
  · cases hb
  · have : g = b := by simpa [Value.ownBlock] using hb
    subst this
    exact ⟨hg, (Array.getElem?_eq_some_iff.1 hh).1⟩
theorem ow_block {w w' : World} {base : Nat} {e : TypeId} {size : Nat} {v : Value} {n : Nat} {xs : List Value} (h : w.ownsRow base e size v n xs) (hb : ∀ b, v.ownBlock = some b → w'.heap[b]? = w.heap[b]?) : w'.ownsRow base e size v n xs := by
  obtain ⟨hl, h⟩ := h
  refine ⟨hl, ?_⟩
  rcases h with ⟨rfl, hn⟩ | ⟨g, cap, cur, rfl, hg, hh, hr⟩
  · exact Or.inl ⟨rfl, hn⟩
  · exact Or.inr ⟨g, cap, cur, rfl, hg, (hb g rfl).trans hh, hr⟩
theorem ow_kept {w w' : World} {base : Nat} {e : TypeId} {size : Nat} {v : Value} {n : Nat} {xs : List Value} (h : w.ownsRow base e size v n xs) (hb : Below w.heap.size w w') : w'.ownsRow base e size v n xs :=
  ow_block h fun b e => hb.block b (ow_ge h e).2

/-- A slice of words. -/
def KAt (w : World) (v : Value) (ts : List Tk) : Prop :=
  ∃ (ao : Option Addr) (b cap : Nat), v = .slice ao ts.length cap ∧ ts.length ≤ cap ∧ (0 < ts.length → ao = some ⟨b, 0, none⟩) ∧ ∀ i (h : i < ts.length) q, q < 4 → w.cell? ⟨b, i * 4 + q, none⟩ = (tv ts[i])[q]?
theorem KAt.of_own {w : World} {base : Nat} {e : TypeId} {v : Value} {ts : List Tk} (h : w.ownsRow base e 4 v ts.length (flat ts)) : KAt w v ts := by
  obtain ⟨hl, hh⟩ := h
  rcases hh with ⟨rfl, hn⟩ | ⟨g, cap, cur, rfl, hg, hh, hc, hr⟩
  · exact ⟨none, 0, 0, by rw [hn], by omega, fun h => by omega, fun i h => by omega⟩
  · refine ⟨_, g, cap, rfl, hc, fun _ => rfl, fun i h q hq => ?_⟩
    have ho : w.ownsRow base e 4 (.slice (some ⟨g, 0, none⟩) ts.length cap) ts.length (flat ts) := ⟨hl, Or.inr ⟨g, cap, cur, rfl, hg, hh, hc, hr⟩⟩
    rw [ho.cellAt (i * 4 + q) (by omega), flat_get ts i q h hq]
theorem KAt.kept {w w' : World} {v : Value} {ts : List Tk} (h : KAt w v ts) (hb : Below w.heap.size w w') : KAt w' v ts := by
  obtain ⟨ao, b, cap, rfl, hc, hn, hcell⟩ := h
  refine ⟨ao, b, cap, rfl, hc, hn, fun i h q hq => ?_⟩
  have e := hcell i h q hq
  have : ∃ x, (tv ts[i])[q]? = some x := ⟨_, List.getElem?_eq_getElem (by show q < 4; exact hq)⟩
  obtain ⟨x, hx⟩ := this
  rw [hx] at e ⊢
  exact up hb e

/-- From one place to another rune by rune. -/
inductive Rn (s : ByteArray) : Nat → Nat → Prop
  | refl (i : Nat) : Rn s i i
  | step {i j : Nat} (h : i < s.size) (hj : Rn s (i + (Utf8.decode s i).2) j) : Rn s i j
theorem Rn.le {s : ByteArray} {i j : Nat} (h : Rn s i j) : i ≤ j := by
  induction h with
  | refl => exact Nat.le_refl _
  | step _ _ ih => omega
theorem Rn.next {s : ByteArray} {i j : Nat} (h : Rn s i j) (hlt : i < j) : Rn s (i + (Utf8.decode s i).2) j := by
  cases h with
  | refl => omega
  | step _ h => exact h
theorem spn_Rn {p : Int → Bool} {s : ByteArray} : ∀ (f i : Nat), i ≤ s.size → s.size + 1 ≤ f + i → 1 ≤ f → Rn s i (spn p s f i)
  | 0, i, _, _, h => by omega
  | f + 1, i, hle, hf, _ => by
    by_cases hi : i < s.size
    · cases hp : p (Utf8.decode s i).1 with
      | false => rw [spn_no (by omega) hi hp]; exact Rn.refl i
      | true =>
        rw [spn_yes (by omega) hi hp]
        have := dec_pos hi
        have := dec_le hi
        exact Rn.step hi (spn_Rn f _ (by omega) (by omega) (by omega))
    · rw [spn_end (by omega) hi]
      have : i = s.size := by omega
      rw [this]; exact Rn.refl _
theorem Rn_line (s : ByteArray) (i : Nat) (h : i ≤ s.size) : Rn s i (i + remLen ((bs s).drop i)) := by
  have := spn_Rn (p := lineR) (s := s) (s.size + 1) i h (by omega) (by omega)
  rwa [spn_line s _ i h (by omega) (by omega)] at this
theorem Rn_name (s : ByteArray) (i : Nat) (h : i ≤ s.size) : Rn s i (i + nmLen ((bs s).drop i)) := by
  have := spn_Rn (p := nameR) (s := s) (s.size + 1) i h (by omega) (by omega)
  rwa [spn_name s _ i h (by omega) (by omega)] at this
theorem Rn_dig (s : ByteArray) (i : Nat) (h : i ≤ s.size) : Rn s i (i + dgLen ((bs s).drop i)) := by
  have := spn_Rn (p := digitB) (s := s) (s.size + 1) i h (by omega) (by omega)
  rwa [spn_dig s _ i h (by omega) (by omega)] at this
theorem Rn_word {s : ByteArray} {i k m n : Nat} (hi : i < s.size) (h : nextW ((bs s).drop i) = some (k, m, n)) : Rn s i (i + m) := by
  unfold nextW at h
  split at h
  · split at h
    · simp only [Option.some.injEq, Prod.mk.injEq] at h
      obtain ⟨_, rfl, _⟩ := h
      exact Rn_name s i (by omega)
    · cases h
  · split at h
    · split at h
      · simp only [Option.some.injEq, Prod.mk.injEq] at h
        obtain ⟨_, rfl, _⟩ := h
        exact Rn_dig s i (by omega)
      · cases h
    · split at h
      · rename_i hs
        simp only [Option.some.injEq, Prod.mk.injEq] at h
        obtain ⟨_, rfl, _⟩ := h
        have e := bs_drop s i hi
        have hc := sg_head (by rw [e] at hs; exact hs)
        have hl := (sg_low hc).2.2.2.2
        have hd := rune_low hi hl
        by_cases h1 : i + 1 < s.size
        · rw [e, bs_drop s (i + 1) h1, sg2]
          cases hg : lg (s[i]'hi) (s[i + 1]'h1)
          · rw [hc]
            exact Rn.step hi (by rw [hd]; exact Rn.refl _)
          · have hl2 : (s[i + 1]'h1).toNat < 128 := by
              unfold lg at hg
              simp only [Bool.or_eq_true, Bool.and_eq_true, beq_iff_eq] at hg
              omega
            have hd2 := rune_low h1 hl2
            exact Rn.step hi (by rw [hd]; exact Rn.step h1 (by rw [hd2]; exact Rn.refl _))
        · rw [e, bs_end s (i + 1) h1, sg1, hc]
          exact Rn.step hi (by rw [hd]; exact Rn.refl _)
      · cases h
theorem bs_rest (s : ByteArray) (i : Nat) : bs (s.extract i s.size) = (bs s).drop i := Lib.extract_to_end s i
theorem dec_rest (s : ByteArray) (i : Nat) : Utf8.decode (s.extract i s.size) 0 = Utf8.decode s i := by
  rw [← Lib.decodeL_drop s i, ← Lib.decodeL_drop (s.extract i s.size) 0, Lib.extract_to_end, List.drop_zero]
end Go.Proofs.YtgpaeilnpeflaaaDoor

/- Layer 5: the walk of lex.Read. -/
namespace Go.Proofs.YtgpaeilnpeflaaaDoor
open Go.RowKit

/-- What Read answers. -/
def readV (l : List UInt8) : Rs := if 8192 < l.length then .bad 0 1 else R l 0 []
def RsP (w : World) (r : Rs) (e : Ending) : Prop :=
  match r with
  | .ok ts => ∃ v, e = .returned (.tuple #[v, .int .i64 0, .int .i64 0]) ∧ KAt w v ts
  | .bad a c => e = .returned (.tuple #[.slice none 0 0, .int .i64 a, .int .i64 c])

/-- Within the loop: the iterator, what was there, the row. -/
structure WI (w : World) (ty : TypeId) (s : ByteArray) (wr : World) (pos : Nat) (v : Value) (ts : List Tk) : Prop where
  it : wr.heap[w.heap.size]? = some (.stringIter s pos)
  bl : Below w.heap.size w wr
  own : wr.ownsRow (w.heap.size + 1) ty 4 v ts.length (flat ts)
theorem WI.lt {w : World} {ty : TypeId} {s : ByteArray} {wr : World} {pos : Nat} {v : Value} {ts : List Tk} (h : WI w ty s wr pos v ts) : w.heap.size < wr.heap.size := (Array.getElem?_eq_some_iff.1 h.it).1
theorem WI.next {w : World} {ty : TypeId} {s : ByteArray} {wr : World} {pos : Nat} {v : Value} {ts : List Tk} (h : WI w ty s wr pos v ts) (q : Nat) : WI w ty s (wr.iterAt w.heap.size s q) q v ts :=
  ⟨Lib.iterAt_heap wr w.heap.size s pos q h.it, Lib.below_iterAt h.bl (Nat.le_refl _) _ _, ow_block h.own fun b hb => Lib.iterAt_other _ _ _ _ _ (by have := (ow_ge h.own hb).1; omega)⟩
theorem WI.kept {w : World} {ty : TypeId} {s : ByteArray} {wr w' : World} {pos : Nat} {v : Value} {ts : List Tk} (h : WI w ty s wr pos v ts) (hb : Below wr.heap.size wr w') : WI w ty s w' pos v ts :=
  ⟨(hb.block _ h.lt).trans h.it, h.bl.trans (hb.mono h.bl.size), ow_kept h.own hb⟩
theorem WI.grow {w : World} {ty : TypeId} {s : ByteArray} {wr w' : World} {pos : Nat} {v v' : Value} {ts : List Tk} {t : Tk} (h : WI w ty s wr pos v ts) (hg : wr.grownBy w' v.ownBlock) (ho : w'.ownsRow (w.heap.size + 1) ty 4 v' (ts.length + 1) (flat ts ++ tv t)) : WI w ty s w' pos v' (ts ++ [t]) := by
  refine ⟨(hg.block _ h.lt (fun e => by have := (ow_ge h.own e.symm).1; omega)).trans h.it, ?_, ?_⟩
  · refine ⟨hg.os.trans h.bl.os, hg.tape.trans h.bl.tape, hg.output.trans h.bl.output, Nat.le_trans h.bl.size hg.size, fun b hb => ?_⟩
    have := h.lt
    rw [hg.block b (by omega) (fun e => by have := (ow_ge h.own e.symm).1; omega)]
    exact h.bl.block b hb
  · have e : flat (ts ++ [t]) = flat ts ++ tv t := by rw [flat_app]; show flat ts ++ (tv t ++ []) = _; rw [List.append_nil]
    rw [e, List.length_append]; exact ho

theorem blank_bl {s : ByteArray} {i : Nat} (hi : i < s.size) : blankR (Utf8.decode s i).1 = bl (s[i]'hi) := by
  by_cases hl : (s[i]'hi).toNat < 128
  · rw [rune_low hi hl, Bool.eq_iff_iff, bl_iff]
    unfold blankR
    simp only [Bool.or_eq_true, beq_iff_eq]
    omega
  · have hh := (decode_high s i hi (by omega)).1
    have h1 : bl (s[i]'hi) = false := by rw [← Bool.not_eq_true, bl_iff]; omega
    rw [h1, ← Bool.not_eq_true]
    unfold blankR
    simp only [Bool.or_eq_true, beq_iff_eq]
    omega
theorem hash_35 {s : ByteArray} {i : Nat} (hi : i < s.size) : (((Utf8.decode s i).1 : Int) == 35) = ((s[i]'hi).toNat == 35) := by
  by_cases hl : (s[i]'hi).toNat < 128
  · rw [rune_low hi hl, Bool.eq_iff_iff, beq_iff_eq, beq_iff_eq]; omega
  · have hh := (decode_high s i hi (by omega)).1
    rw [Bool.eq_iff_iff, beq_iff_eq, beq_iff_eq]; omega

theorem ow_form {w : World} {base : Nat} {e : TypeId} {size : Nat} {v : Value} {n : Nat} {xs : List Value} (h : w.ownsRow base e size v n xs) : ∃ ao cap, v = .slice ao n cap := by
  obtain ⟨_, ⟨rfl, rfl⟩ | ⟨g, cap, cur, rfl, _⟩⟩ := h
  · exact ⟨none, 0, rfl⟩
  · exact ⟨_, cap, rfl⟩
theorem fp_none {l : List UInt8} {k : Int} {t : ByteArray} {n : Int} (h : FP l k t n false) : nextW l = none := by
  unfold FP at h
  split at h
  · assumption
  · cases h.1
theorem fp_some {l : List UInt8} {k : Int} {t : ByteArray} {n : Int} (h : FP l k t n true) : ∃ k' m n', nextW l = some (k', m, n') ∧ k = (k' : Nat) ∧ t = str (l.take m) ∧ n = (n' : Nat) := by
  unfold FP at h
  split at h
  · cases h
  · rename_i k' m n' e
    exact ⟨k', m, n', e, h.2⟩

/-- The loop's relation. -/
structure RI (w : World) (ty : TypeId) (s : ByteArray) (wr : World) (pos bh : Nat) (v : Value) (ts : List Tk) : Prop where
  wi : WI w ty s wr pos v ts
  len : ts.length ≤ 2000
  ps : pos ≤ s.size
  bhs : bh ≤ s.size
  rn : bh ≤ pos ∨ Rn s pos bh
  eq : readV (bs s) = R ((bs s).drop (max pos bh)) (max pos bh) ts

set_option maxRecDepth 100000 in
set_option maxHeartbeats 4000000 in
theorem read_any (s : ByteArray) (w : World) (hv : Vs w) :
    Calls Tryd.prog 5 #[.string s] w fun e w' => RsP w' (readV (bs s)) e ∧ Below w.heap.size w w' := by
  by_cases hs : s.size ≤ 8192
  · have hs' : (s.size : Int) ≤ 8192 := by omega
    have hr0 : readV (bs s) = R (bs s) 0 [] := by unfold readV; rw [if_neg (by rw [bs_len]; omega)]
    go_enter Tryd.func5, Tryd.ntmps5
    go_wp2
    go_loopw [5, 6] (fun v b wr => ∃ (pos bh : Nat) (ts : List Tk), b = .int .i64 bh ∧ RI w 34 s wr pos bh v ts) (fun _ _ wr => s.size + 1 - wr.iterPos w.heap.size)
    case atStart => exact ⟨0, 0, [], rfl, ⟨World.iter_heap .., (Below.refl _ _).alloc (Nat.le_refl _) _, World.ownsRow_nil _ _ _ _⟩, by simp, by omega, by omega, Or.inl (Nat.le_refl _), by rw [hr0]; rfl⟩
    case round =>
      obtain ⟨pos, bh, ts, rfl, hI⟩ := hrel
      have HI : Hid (RI w 34 s wr pos bh _ ts) := hI
      have hk := hI.wi.it
      rw [iterPos_at hk]
      clear hI
      by_cases hlt : pos < s.size
      · have hnx := fun ty => Lib.run_next_any_at (P := Tryd.prog) wr w.heap.size s pos ty hk hlt
        have W1 := HI.out.wi.next (pos + (Utf8.decode s pos).2)
        have dp := dec_pos hlt
        have dl := dec_le hlt
        by_cases hskip : pos < bh
        · have hsk : (pos : Int) < bh := by omega
          go_wp2
          go_roundw
          case rel =>
            have r1 : Rn s (pos + (Utf8.decode s pos).2) bh := (HI.out.rn.resolve_left (by omega)).next hskip
            have := r1.le
            refine ⟨_, bh, ts, rfl, W1, HI.out.len, dl, HI.out.bhs, Or.inr r1, ?_⟩
            rw [HI.out.eq, show max (pos + (Utf8.decode s pos).2) bh = bh by omega, show max pos bh = bh by omega]
          case measure => rw [iterPos_at W1.it]; omega
        · have hsk : ¬ (pos : Int) < bh := by omega
          have HE : Hid (readV (bs s) = R ((s[pos]'hlt) :: (bs s).drop (pos + 1)) pos ts) := by
            show readV (bs s) = _
            rw [HI.out.eq, show max pos bh = pos by omega, bs_drop s pos hlt]
          have HBL := blank_bl hlt
          have HSH := hash_35 hlt
          have W0 := HI.out.wi
          have HT : Hid (ts.length ≤ 2000) := HI.out.len
          clear HI hskip
          go_wp2_with fail
          refine (lblank_any _ _).mono ?_
          rintro e w1 ⟨rfl, rfl⟩
          rw [HBL]
          clear HBL
          cases hb : bl (s[pos]'hlt)
          · by_cases h35 : (s[pos]'hlt).toNat = 35
            · rw [beq_iff_eq.2 h35] at HSH
              have p0 : (0 : Int) ≤ pos := by omega
              have p1 : (pos : Int) ≤ s.size := by omega
              go_wp2_with fail
              refine (span_line _ _).mono ?_
              rintro e w2 ⟨rfl, hb2⟩
              have hm : spn lineR (s.extract pos s.size) ((s.extract pos s.size).size + 1) 0 = remLen ((bs s).drop pos) := by rw [line_spn, bs_rest]
              rw [hm]
              have W2 := W1.kept hb2
              have HM : Hid (Rn s pos (pos + remLen ((bs s).drop pos)) ∧ pos + remLen ((bs s).drop pos) ≤ s.size ∧ 1 ≤ remLen ((bs s).drop pos) ∧ readV (bs s) = R ((bs s).drop (pos + remLen ((bs s).drop pos))) (pos + remLen ((bs s).drop pos)) ts) := by
                refine ⟨Rn_line s pos (by omega), ?_, ?_, ?_⟩
                · have := rem_le ((bs s).drop pos)
                  rw [List.length_drop, bs_len] at this; omega
                · rw [bs_drop s pos hlt]; exact rem_pos _ _ (beq_iff_eq.2 h35)
                · rw [HE.out, R_rem _ _ _ h35, ← bs_drop s pos hlt, List.drop_drop]
              clear hm hb2 W1
              have m1 : (remLen ((bs s).drop pos) : Int) ≤ 8192 := by have := HM.out.2.1; omega
              generalize remLen ((bs s).drop pos) = m at HM m1 ⊢
              have hw : IntKind.i64.wrap ((pos : Int) + m) = ((pos + m : Nat) : Int) := by rw [IntKind.wrap_i64]; omega
              go_wp2
              go_roundw
              case rel =>
                have r1 := HM.out.1.next (by have := HM.out.2.2.1; omega)
                have := r1.le
                refine ⟨_, pos + m, ts, by go_num, W2, HT.out, dl, HM.out.2.1, Or.inr r1, ?_⟩
                rw [HM.out.2.2.2, show max (pos + (Utf8.decode s pos).2) (pos + m) = pos + m by omega]
              case measure => rw [iterPos_at W2.it]; omega
            · have hs35 : ((s[pos]'hlt).toNat == 35) = false := by simpa using h35
              rw [hs35] at HSH
              have p0 : (0 : Int) ≤ pos := by omega
              have p1 : (pos : Int) ≤ s.size := by omega
              have V1 := hv.kept W1.bl
              have es : (s.extract pos s.size).size = s.size - pos := by rw [sz_bs, bs_rest, List.length_drop, bs_len]
              have hC := first_any (s.extract pos s.size) _ V1 (by omega) (by omega)
              rw [dec_rest, bs_rest] at hC
              obtain ⟨ao, cap, hvf⟩ := ow_form W1.own
              subst hvf
              clear es V1 hs35
              go_wp2_with fail
              refine hC.mono ?_
              rintro e w2 ⟨⟨k, tx, n, ok, rfl, hF⟩, hb2⟩
              have W2 := W1.kept hb2
              have HF : Hid (FP ((bs s).drop pos) k tx n ok) := hF
              clear hF hC W1 hb2
              unfold tkV
              cases ok
              · have HB : Hid (readV (bs s) = .bad pos 2) := by
                  show readV (bs s) = _
                  have := fp_none HF.out
                  rw [bs_drop s pos hlt] at this
                  rw [HE.out, R_none _ _ _ hb h35 this]
                have hbl := W2.bl
                go_wp2
                refine bodyPost_ret (v := .tuple #[.slice none 0 0, .int .i64 pos, .int .i64 2]) (by simp [results, Tryd.results5, go_sem]) rfl ⟨?_, hbl.alloc hbl.size _⟩
                rw [HB.out]
                rfl
              · obtain ⟨k', m, n', hnw, rfl, rfl, rfl⟩ := fp_some HF.out
                clear HF
                by_cases h2 : ts.length = 2000
                · have HB : Hid (readV (bs s) = .bad pos 7) := by
                    show readV (bs s) = _
                    rw [bs_drop s pos hlt] at hnw
                    rw [HE.out, R_full _ _ _ hb h35 hnw (by omega)]
                  have hbl := W2.bl
                  have e2 : ((ts.length : Int) == 2000) = true := by rw [beq_iff_eq]; omega
                  clear hnw
                  go_wp2
                  refine bodyPost_ret (v := .tuple #[.slice none 0 0, .int .i64 pos, .int .i64 7]) (by simp [results, Tryd.results5, go_sem]) rfl ⟨?_, hbl.alloc hbl.size _⟩
                  rw [HB.out]
                  rfl
                · have e2 : ((ts.length : Int) == 2000) = false := by rw [beq_eq_false_iff_ne]; omega
                  have hle := nextW_le hnw
                  rw [List.length_drop, bs_len] at hle
                  have HB : Hid (readV (bs s) = R ((bs s).drop (pos + m)) (pos + m) (ts ++ [⟨k', ((bs s).drop pos).take m, n', pos⟩]) ∧ Rn s pos (pos + m)) := by
                    refine ⟨?_, Rn_word hlt hnw⟩
                    rw [bs_drop s pos hlt] at hnw ⊢
                    rw [HE.out, R_word _ _ _ hb h35 hnw (by have := HT.out; omega), ← bs_drop s pos hlt, List.drop_drop]
                  have tl : (str (((bs s).drop pos).take m)).size = m := by rw [sz_bs, bs_str, List.length_take, List.length_drop, bs_len]; omega
                  clear hnw
                  generalize ht : str (((bs s).drop pos).take m) = tx at tl ⊢
                  have W3 := (W2.kept (below_alloc w2 (.cells #[.int .i64 (k' : Nat), .string tx, .int .i64 (n' : Nat), .int .i64 (pos : Nat)] 34))).kept (below_alloc _ (.cells #[.int .i64 (k' : Nat), .string tx, .int .i64 (n' : Nat), .int .i64 (pos : Nat)] 34))
                  have hownA := W3.own
                  have HW : Hid (WI w 34 s ((w2.alloc (.cells #[.int .i64 (k' : Nat), .string tx, .int .i64 (n' : Nat), .int .i64 (pos : Nat)] 34)).alloc (.cells #[.int .i64 (k' : Nat), .string tx, .int .i64 (n' : Nat), .int .i64 (pos : Nat)] 34)) (pos + (Utf8.decode s pos).2) (.slice ao ts.length cap) ts) := W3
                  have HO : Hid (∀ b, (Value.slice ao ts.length cap).ownBlock = some b → b < w2.heap.size) := fun b hb => (ow_ge W2.own hb).2
                  have sw : w.heap.size < w2.heap.size := W2.lt
                  have ez : (w2.alloc (.cells #[.int .i64 (k' : Nat), .string tx, .int .i64 (n' : Nat), .int .i64 (pos : Nat)] 34)).heap.size = w2.heap.size + 1 := alloc_size _ _
                  have hnew := heap_alloc_new (w2.alloc (.cells #[.int .i64 (k' : Nat), .string tx, .int .i64 (n' : Nat), .int .i64 (pos : Nat)] 34)) (.cells #[.int .i64 (k' : Nat), .string tx, .int .i64 (n' : Nat), .int .i64 (pos : Nat)] 34)
                  rw [ez] at hnew
                  have ez2 : ((w2.alloc (.cells #[.int .i64 (k' : Nat), .string tx, .int .i64 (n' : Nat), .int .i64 (pos : Nat)] 34)).alloc (.cells #[.int .i64 (k' : Nat), .string tx, .int .i64 (n' : Nat), .int .i64 (pos : Nat)] 34)).heap.size = w2.heap.size + 2 := by rw [alloc_size, ez]
                  obtain ⟨i0, hi, hz0, hz1, hz2⟩ := info_parts Tryd.infoTok
                  have HX : Hid (str (((bs s).drop pos).take m) = tx) := ht
                  have tlen : ts.length < 2000 := by have := HT.out; omega
                  clear W2 W3 ht ez
                  go_wp2_with ((at_builtin; refine wpList_append_lies _ rfl _ _ 23 rfl (w.heap.size + 1) 34 i0 _ 4 40 Tryd.underlying23 hi hz0 hz1 hz2 rfl (by decide) (.slice ao ts.length cap) ts.length (flat ts) rfl hownA ⟨w2.heap.size + 1, 0, none⟩ 1 1 [.int .i64 (k' : Nat), .string tx, .int .i64 (n' : Nat), .int .i64 (pos : Nat)] rfl rfl (World.news_of_block (cs := #[.int .i64 (k' : Nat), .string tx, .int .i64 (n' : Nat), .int .i64 (pos : Nat)]) (t := 34) (fr := (0, 0)) hnew) (by intro x hx; simp at hx; rcases hx with rfl | rfl | rfl | rfl <;> rfl) (by omega) (by unfold maxLen; omega) (by omega) (by omega) (w2.heap.size + 2) ez2 ?_; intro gg cap3 w4 hown4 hgrow hat hltg; have HN : Hid (WI w 34 s w4 (pos + (Utf8.decode s pos).2) (.slice (some ⟨gg, 0, none⟩) (ts.length + 1) cap3) (ts ++ [⟨k', ((bs s).drop pos).take m, n', pos⟩])) := HW.out.grow hgrow (by unfold tv; simp only; rw [HX.out]; exact hown4); have c1 : w4.cell? ⟨w2.heap.size, 1, none⟩ = some (.string tx) := (World.cell?_of_block (w := ((w2.alloc (.cells #[.int .i64 (k' : Nat), .string tx, .int .i64 (n' : Nat), .int .i64 (pos : Nat)] 34)).alloc (.cells #[.int .i64 (k' : Nat), .string tx, .int .i64 (n' : Nat), .int .i64 (pos : Nat)] 34))) (a := ⟨w2.heap.size, 1, none⟩) (hgrow.block w2.heap.size (by omega) (fun e => by have := HO.out _ e.symm; omega))).trans (by simp); clear hown4 hgrow hat hltg))
                  go_roundw
                  case rel =>
                    have r1 := HB.out.2.next (by omega)
                    have := r1.le
                    refine ⟨_, pos + m, _, by go_num, HN.out, by simp; omega, dl, by omega, Or.inr r1, ?_⟩
                    rw [HB.out.1, show max (pos + (Utf8.decode s pos).2) (pos + m) = pos + m by omega]
                  case measure => rw [iterPos_at HN.out.it]; omega
          · go_wp2
            go_roundw
            case rel =>
              have hl : (s[pos]'hlt).toNat < 128 := by have := (bl_iff _).1 hb; omega
              have d1 : (Utf8.decode s pos).2 = 1 := by rw [rune_low hlt hl]
              refine ⟨_, bh, ts, rfl, W1, HT.out, dl, by omega, Or.inl (by omega), ?_⟩
              rw [HE.out, R_bl _ _ _ hb, show max (pos + (Utf8.decode s pos).2) bh = pos + 1 by omega]
            case measure => rw [iterPos_at W1.it]; omega
      · have hnx := fun ty => Lib.run_next_end_at (P := Tryd.prog) wr w.heap.size s pos ty hk hlt
        have HE : Hid (readV (bs s) = .ok ts) := by
          show readV (bs s) = .ok ts
          have := HI.out.ps
          have := HI.out.bhs
          rw [HI.out.eq, bs_end s _ (by omega)]; rfl
        go_wp2
        refine bodyPost_ret (v := .tuple #[u5, .int .i64 0, .int .i64 0]) (by simp [results, Tryd.results5, go_sem]) rfl ⟨?_, HI.out.wi.bl⟩
        rw [HE.out]
        exact ⟨_, rfl, KAt.of_own HI.out.wi.own⟩
  · have hs' : (8192 : Int) < s.size := by omega
    have HR : Hid (readV (bs s) = .bad 0 1) := by show readV (bs s) = _; unfold readV; rw [if_pos (by rw [bs_len]; omega)]
    go_enter Tryd.func5, Tryd.ntmps5
    go_wp2
    refine bodyPost_ret (v := .tuple #[.slice none 0 0, .int .i64 0, .int .i64 1]) (by simp [results, Tryd.results5, go_sem]) rfl ⟨?_, Below.refl _ _⟩
    rw [HR.out]
    rfl
end Go.Proofs.YtgpaeilnpeflaaaDoor

/- Layer 5: awake. -/
namespace Go.Proofs.YtgpaeilnpeflaaaDoor
open Go.RowKit

def ts0 : List Tk := [⟨2, [108, 101, 116], 0, 0⟩, ⟨1, [120], 0, 4⟩, ⟨4, [61], 0, 5⟩, ⟨3, [49], 1, 6⟩]
theorem read_let : readV (bs ⟨#[108, 101, 116, 32, 120, 61, 49]⟩) = .ok ts0 := by rfl

set_option maxRecDepth 100000 in
set_option maxHeartbeats 2000000 in
theorem lawake_any (w : World) (hv : Vs w) :
    Calls Tryd.prog 4 #[] w fun e w' => e = .returned (.bool true) ∧ Below w.heap.size w w' := by
  go_enter Tryd.func4, Tryd.ntmps4
  go_wp2_with fail
  refine (read_any _ _ hv).mono ?_
  rintro e w1 ⟨hR, hb⟩
  rw [read_let] at hR
  obtain ⟨v, rfl, ao, b, cap, rfl, hc, hn, hcell⟩ := hR
  have ha := hn (by decide)
  subst ha
  have c0 : w1.cell? ⟨b, 0, none⟩ = some (.int .i64 2) := hcell 0 (by decide) 0 (by omega)
  have c1 : w1.cell? ⟨b, 14, none⟩ = some (.int .i64 1) := hcell 3 (by decide) 2 (by omega)
  have c2 : w1.cell? ⟨b, 15, none⟩ = some (.int .i64 6) := hcell 3 (by decide) 3 (by omega)
  have hl : ts0.length = 4 := rfl
  rw [hl]
  clear hcell hn hc hl
  go_wp2
  go_ret
  exact ⟨rfl, hb⟩
end Go.Proofs.YtgpaeilnpeflaaaDoor
