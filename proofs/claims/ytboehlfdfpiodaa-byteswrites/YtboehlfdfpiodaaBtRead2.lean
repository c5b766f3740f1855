/- Layer 4: the walks of the reader's Short, Long, Text, Below, Left, Done, and of Read. -/
import Derived.Test.YtboehlfdfpiodaaBtRead
namespace Go.Proofs.Ytboehlfdfpiodaa
open Go.RowKit

theorem tk_len (s : Nat) (st : Option (List Nat)) : (tk s st).length ≤ s := by
  cases st with
  | none => simp [tk]
  | some l => unfold tk; dsimp only; split
              · simp; omega
              · simp
/-- What a reader has are bytes. -/
def Byt (st : Option (List Nat)) : Prop := ∀ l, st = some l → ∀ x ∈ l, x < 256
theorem Rd.byt {w : World} {p g : Nat} {st : Option (List Nat)} (h : Rd w p g st) : Byt st := by
  intro l e
  subst e
  obtain ⟨X, _, hX, rfl, _⟩ := h
  exact X.l_lt hX
theorem tk_lt {s : Nat} {st : Option (List Nat)} (h : Byt st) : ∀ x ∈ tk s st, x < 256 := by
  intro x hx
  cases st with
  | none => simp [tk] at hx
  | some l =>
    unfold tk at hx; dsimp only at hx; split at hx
    · exact h l rfl x (List.mem_of_mem_take hx)
    · simp at hx
theorem tk_val {s : Nat} {st : Option (List Nat)} (h : Byt st) : val (tk s st) < 256 ^ s :=
  Nat.lt_of_lt_of_le (val_lt _ (tk_lt h)) (Nat.pow_le_pow_right (by omega) (tk_len s st))
theorem Rd.short_lt {w : World} {p g : Nat} {st : Option (List Nat)} (h : Rd w p g st) : shortV st < 65536 := tk_val (s := 2) h.byt
theorem Rd.long_lt {w : World} {p g : Nat} {st : Option (List Nat)} (h : Rd w p g st) : val (tk 8 st) < 18446744073709551616 := by
  have := tk_val (s := 8) h.byt
  have e : (256 : Nat) ^ 8 = 18446744073709551616 := by decide
  omega
theorem get_took (g n s : Nat) (l : List Nat) (v : Value) (w : World) (h : Took w g v l) (hs : l.length ≤ s) (h8 : s ≤ 8) (hn : val l = n) :
    Calls Try.prog 33 #[v] w fun e w' => e = .returned (.int .u64 n) ∧ w' = w := by
  obtain ⟨Y, rfl, hY, rfl, _⟩ := h
  rw [← hn]
  exact get_any Y w hY (by rw [Y.len_l] at hs; omega)

set_option maxHeartbeats 1000000 in
theorem rshort_any (p g : Nat) (st : Option (List Nat)) (w : World) (hp : g ≠ p) (h : Rd w p g st) :
    Calls Try.prog 18 #[.pointer (some ⟨p, 0, none⟩)] w fun e w' => e = .returned (.int .i64 (shortV st)) ∧ Rd w' p g (tkS 2 st) ∧ w.grownBy w' (some p) := by
  have hn := h.short_lt
  obtain ⟨n, hq⟩ : ∃ n, n = shortV st := ⟨_, rfl⟩
  rw [← hq] at hn ⊢
  have HN : Hid (val (tk 2 st) = n) := hq.symm
  have H : Hid (Rd w p g st) := h
  clear h hq
  go_enter Try.func18, Try.ntmps18
  go_wp2_with (first
    | (go_at_call 34; refine (take_any p g 2 st w hp H.out).mono ?_; rintro e w1 ⟨v, rfl, hT, hR, hg⟩; have HT : Hid (Took w1 g v (tk 2 st)) := hT; have HR : Hid (Rd w1 p g (tkS 2 st)) := hR; clear hT hR)
    | (go_at_call 33; refine (get_took g n 2 (tk 2 st) v w1 HT.out (tk_len _ _) (by omega) HN.out).mono ?_; rintro e w2 ⟨rfl, rfl⟩))
  go_ret
  exact ⟨rfl, HR.out, hg⟩
set_option maxHeartbeats 1000000 in
theorem rshort_nil (w : World) : Calls Try.prog 18 #[.pointer none] w fun e w' => e = .returned (.int .i64 0) ∧ w' = w := by
  have G := get_any ⟨none, 0, 0, 0, 0, fun _ => 0⟩ w ⟨Nat.le_refl _, fun h => absurd h (Nat.lt_irrefl _), fun _ => rfl, Nat.zero_le _, fun _ h => absurd h (Nat.not_lt_zero _), fun _ h => absurd h (Nat.not_lt_zero _)⟩ (Nat.zero_le _)
  go_enter Try.func18, Try.ntmps18
  clear G
  go_wp2_with (first
    | (go_at_call 34; refine (take_nil 2 w).mono ?_; rintro e w1 ⟨rfl, rfl⟩)
    | (go_at_call 33; refine (get_any ⟨none, 0, 0, 0, 0, fun _ => 0⟩ _ ⟨Nat.le_refl _, fun h => absurd h (Nat.lt_irrefl _), fun _ => rfl, Nat.zero_le _, fun _ h => absurd h (Nat.not_lt_zero _), fun _ h => absurd h (Nat.not_lt_zero _)⟩ (Nat.zero_le _)).mono ?_; rintro e w2 ⟨rfl, rfl⟩; simp only [show val (Bys.l ⟨none, 0, 0, 0, 0, fun _ => 0⟩) = 0 from rfl]))
  go_ret
  exact ⟨rfl, rfl⟩

theorem sgn_wrap (n : Nat) (h : n < 18446744073709551616) : wrap64 (n : Int) = sgn n := by
  unfold sgn wrap64
  split <;> omega
set_option maxHeartbeats 1000000 in
theorem rlong_any (p g : Nat) (st : Option (List Nat)) (w : World) (hp : g ≠ p) (h : Rd w p g st) :
    Calls Try.prog 20 #[.pointer (some ⟨p, 0, none⟩)] w fun e w' => e = .returned (.int .i64 (longV st)) ∧ Rd w' p g (tkS 8 st) ∧ w.grownBy w' (some p) := by
  have hn := h.long_lt
  obtain ⟨n, hq⟩ : ∃ n, n = val (tk 8 st) := ⟨_, rfl⟩
  have hl : longV st = sgn n := by rw [hq]; rfl
  rw [hl]
  rw [← hq] at hn
  have HN : Hid (val (tk 8 st) = n) := hq.symm
  have HW : Hid (wrap64 (n : Int) = sgn n) := sgn_wrap n hn
  have H : Hid (Rd w p g st) := h
  clear h hq hl hn
  go_enter Try.func20, Try.ntmps20
  go_wp2_with (first
    | (go_at_call 34; refine (take_any p g 8 st w hp H.out).mono ?_; rintro e w1 ⟨v, rfl, hT, hR, hg⟩; have HT : Hid (Took w1 g v (tk 8 st)) := hT; have HR : Hid (Rd w1 p g (tkS 8 st)) := hR; clear hT hR)
    | (go_at_call 33; refine (get_took g n 8 (tk 8 st) v w1 HT.out (tk_len _ _) (by omega) HN.out).mono ?_; rintro e w2 ⟨rfl, rfl⟩))
  go_ret
  exact ⟨ret_int HW.out, HR.out, hg⟩
set_option maxHeartbeats 1000000 in
theorem rlong_nil (w : World) : Calls Try.prog 20 #[.pointer none] w fun e w' => e = .returned (.int .i64 0) ∧ w' = w := by
  go_enter Try.func20, Try.ntmps20
  go_wp2_with (first
    | (go_at_call 34; refine (take_nil 8 w).mono ?_; rintro e w1 ⟨rfl, rfl⟩)
    | (go_at_call 33; refine (get_any ⟨none, 0, 0, 0, 0, fun _ => 0⟩ _ ⟨Nat.le_refl _, fun h => absurd h (Nat.lt_irrefl _), fun _ => rfl, Nat.zero_le _, fun _ h => absurd h (Nat.not_lt_zero _), fun _ h => absurd h (Nat.not_lt_zero _)⟩ (Nat.zero_le _)).mono ?_; rintro e w2 ⟨rfl, rfl⟩; simp only [show val (Bys.l ⟨none, 0, 0, 0, 0, fun _ => 0⟩) = 0 from rfl]))
  go_ret
  exact ⟨rfl, rfl⟩

set_option maxHeartbeats 1000000 in
theorem left_any (p g : Nat) (st : Option (List Nat)) (w : World) (h : Rd w p g st) :
    Calls Try.prog 26 #[.pointer (some ⟨p, 0, none⟩)] w fun e w' => e = .returned (.int .i64 (leftV st)) ∧ w' = w := by
  have H : Hid (Rd w p g st) := h
  cases st with
  | none =>
    clear h
    go_enter Try.func26, Try.ntmps26
    go_wp2_with (go_at_call 28; refine (failed_any p g none w H.out).mono ?_; rintro e w1 ⟨rfl, rfl⟩)
    go_ret
    exact ⟨rfl, rfl⟩
  | some l =>
    obtain ⟨X, _, hX, hl, hh⟩ := h
    have hb := hX.bound
    have hlc := hX.lc
    have HL : Hid (leftV (some l) = X.len) := by show l.length = _; rw [← hl, X.len_l]
    obtain ⟨c0, c1, f0, f1⟩ := blk2 hh
    have HH : Hid (w.heap[p]? = some (.cells #[.slice X.ao X.len X.cap, .bool false] 49 (0, 0))) := hh
    rw [HL.out]
    clear hh hl hX
    go_enter Try.func26, Try.ntmps26
    go_wp2_with (go_at_call 28; refine (failed_cell p false _ w HH.out).mono ?_; rintro e w1 ⟨rfl, rfl⟩)
    go_ret
    exact ⟨rfl, rfl⟩
set_option maxHeartbeats 1000000 in
theorem left_nil (w : World) : Calls Try.prog 26 #[.pointer none] w fun e w' => e = .returned (.int .i64 0) ∧ w' = w := by
  go_enter Try.func26, Try.ntmps26
  go_wp2_with (go_at_call 28; refine (failed_nil w).mono ?_; rintro e w1 ⟨rfl, rfl⟩)
  go_ret
  exact ⟨rfl, rfl⟩

def doneB (st : Option (List Nat)) : Bool := !st.isNone && (leftV st == 0)
set_option maxHeartbeats 1000000 in
theorem done_any (p g : Nat) (st : Option (List Nat)) (w : World) (h : Rd w p g st) :
    Calls Try.prog 29 #[.pointer (some ⟨p, 0, none⟩)] w fun e w' => e = .returned (.bool (doneB st)) ∧ w' = w := by
  have H : Hid (Rd w p g st) := h
  cases st with
  | none =>
    clear h
    go_enter Try.func29, Try.ntmps29
    go_wp2_with (go_at_call 28; refine (failed_any p g none w H.out).mono ?_; rintro e w1 ⟨rfl, rfl⟩)
    go_ret
    exact ⟨rfl, rfl⟩
  | some l =>
    obtain ⟨n, hn⟩ : ∃ n, n = leftV (some l) := ⟨_, rfl⟩
    have HD : Hid (doneB (some l) = ((n : Int) == 0)) := by
      show doneB (some l) = _
      unfold doneB
      rw [← hn]
      simp only [Option.isNone, Bool.not_false, Bool.true_and]
      rw [Bool.eq_iff_iff, beq_iff_eq, beq_iff_eq]; omega
    rw [HD.out]
    have HN : Hid (n = leftV (some l)) := hn
    clear h hn
    go_enter Try.func29, Try.ntmps29
    go_wp2_with (first
      | (go_at_call 28; refine (failed_any p g (some l) _ H.out).mono ?_; rintro e w1 ⟨rfl, rfl⟩)
      | (go_at_call 26; refine (left_any p g (some l) _ H.out).mono ?_; rw [← HN.out]; rintro e w1 ⟨rfl, rfl⟩))
    go_ret
    exact ⟨rfl, rfl⟩
set_option maxHeartbeats 1000000 in
theorem done_nil (w : World) : Calls Try.prog 29 #[.pointer none] w fun e w' => e = .returned (.bool false) ∧ w' = w := by
  go_enter Try.func29, Try.ntmps29
  go_wp2_with (go_at_call 28; refine (failed_nil w).mono ?_; rintro e w1 ⟨rfl, rfl⟩)
  go_ret
  exact ⟨rfl, rfl⟩

set_option maxHeartbeats 1000000 in
theorem below_any (p g : Nat) (lim : Int) (st : Option (List Nat)) (w : World) (hp : g ≠ p) (h : Rd w p g st) :
    Calls Try.prog 24 #[.pointer (some ⟨p, 0, none⟩), .int .i64 lim] w fun e w' => e = .returned (.int .i64 (belowV lim st)) ∧ Rd w' p g (belowS lim st) ∧ w.grownBy w' (some p) := by
  have H : Hid (Rd w p g st) := h
  have hn := h.short_lt
  obtain ⟨n, hq⟩ : ∃ n, n = shortV st := ⟨_, rfl⟩
  rw [← hq] at hn
  have HQ : Hid (n = shortV st) := hq
  clear h hq
  cases hs : tkS 2 st with
  | none =>
    have HV : Hid (belowV lim st = 0 ∧ belowS lim st = none) := by show _ ∧ _; unfold belowV belowS; rw [hs]; exact ⟨if_pos (Or.inl rfl), if_pos (Or.inl rfl)⟩
    rw [HV.out.1, HV.out.2]
    have HS : Hid (tkS 2 st = none) := hs
    clear hs
    go_enter Try.func24, Try.ntmps24
    go_wp2_with (first
      | (go_at_call 18; refine (rshort_any p g st w hp H.out).mono ?_; rw [← HQ.out, HS.out]; rintro e w1 ⟨rfl, hR, hg⟩; have HR : Hid (Rd w1 p g none) := hR; clear hR)
      | (go_at_call 28; refine (failed_any p g none w1 HR.out).mono ?_; rintro e w1 ⟨rfl, rfl⟩))
    go_ret
    exact ⟨rfl, HR.out, hg⟩
  | some l =>
    have HS : Hid (tkS 2 st = some l) := hs
    by_cases hl : lim ≤ n
    · have HV : Hid (belowV lim st = 0 ∧ belowS lim st = none) := by show _ ∧ _; unfold belowV belowS; rw [hs, ← HQ.out]; exact ⟨if_pos (Or.inr hl), if_pos (Or.inr hl)⟩
      rw [HV.out.1, HV.out.2]
      clear hs
      go_enter Try.func24, Try.ntmps24
      go_wp2_with (first
        | (go_at_call 18; refine (rshort_any p g st w hp H.out).mono ?_; rw [← HQ.out, HS.out]; rintro e w1 ⟨rfl, hR, hg⟩; have HR : Hid (Rd w1 p g (some l)) := hR; clear hR)
        | (go_at_call 28; refine (failed_any p g (some l) w1 HR.out).mono ?_; rintro e w1 ⟨rfl, rfl⟩)
        | (go_at_call 36; obtain ⟨X, _, _, _, hh⟩ := HR.out; refine (fail_any p _ _ _ hh).mono ?_; clear hh; rintro e w2 ⟨rfl, h2, hg2⟩; have H2 : Hid (Rd w2 p g none) := h2; clear h2))
      go_ret
      exact ⟨rfl, H2.out, gb_trans hg hg2⟩
    · have HV : Hid (belowV lim st = n ∧ belowS lim st = some l) := by
        show _ ∧ _; unfold belowV belowS; rw [hs, ← HQ.out]
        have hno : ¬ ((some l : Option (List Nat)).isNone = true ∨ lim ≤ n) := by rintro (h | h); cases h; exact hl h
        exact ⟨if_neg hno, if_neg hno⟩
      rw [HV.out.1, HV.out.2]
      clear hs
      go_enter Try.func24, Try.ntmps24
      go_wp2_with (first
        | (go_at_call 18; refine (rshort_any p g st w hp H.out).mono ?_; rw [← HQ.out, HS.out]; rintro e w1 ⟨rfl, hR, hg⟩; have HR : Hid (Rd w1 p g (some l)) := hR; clear hR)
        | (go_at_call 28; refine (failed_any p g (some l) w1 HR.out).mono ?_; rintro e w1 ⟨rfl, rfl⟩))
      go_ret
      exact ⟨rfl, HR.out, hg⟩
set_option maxHeartbeats 1000000 in
theorem below_nil (lim : Int) (w : World) : Calls Try.prog 24 #[.pointer none, .int .i64 lim] w fun e w' => e = .returned (.int .i64 0) ∧ w' = w := by
  go_enter Try.func24, Try.ntmps24
  go_wp2_with (first
    | (go_at_call 18; refine (rshort_nil w).mono ?_; rintro e w1 ⟨rfl, rfl⟩)
    | (go_at_call 28; refine (failed_nil _).mono ?_; rintro e w1 ⟨rfl, rfl⟩))
  go_ret
  exact ⟨rfl, rfl⟩

theorem push_all (ns : List Int) (s : ByteArray) : ns.foldl (fun r n => r.push (UInt8.ofNat n.toNat)) s = ⟨(s.data.toList ++ ns.map fun n => UInt8.ofNat n.toNat).toArray⟩ := by
  induction ns generalizing s with
  | nil => simp
  | cons n ns ih =>
    rw [List.foldl_cons, ih]
    congr 1
    simp [ByteArray.push]

/-- string(v), v what take answered. -/
theorem run_str (w : World) (g : Nat) (v : Value) (l : List Nat) (h : Took w g v l) : (convert 22 9 v).run Try.prog w = .ok (.string (str l)) w := by
  obtain ⟨Y, rfl, hY, rfl, _⟩ := h
  rw [run_convert_bytes_string w 22 9 5 _ _ _ Try.underlying22 Try.underlying5 Try.underlying9]
  cases ha : Y.ao with
  | none =>
    have h0 : Y.len = 0 := by
      by_cases h : 0 < Y.len
      · have := hY.nil h; rw [ha] at this; cases this
      · omega
    have : Y.l = [] := List.eq_nil_of_length_eq_zero (by rw [Y.len_l, h0])
    rw [this]
    rfl
  | some a =>
    have hn : ∀ j v, Y.cells[j]? = some v → w.cell? (a.add j) = some v := by
      intro j v hv
      have hj : j < Y.len := by have := (List.getElem?_eq_some_iff.1 hv).1; rwa [Y.cells_len] at this
      have he := hY.nil (by omega)
      rw [ha] at he
      injection he with he
      rw [he]
      exact Bys.news hY j v hv
    have hl := run_loadCells_list (P := Try.prog) (w := w) a Y.cells hn
    rw [Y.cells_len, show Y.cells = (Y.l.map fun x : Nat => (x : Int)).map (Value.int .u8) by simp [Bys.cells, Bys.l, Function.comp_def]] at hl
    rw [run_bytesToString w a Y.len Y.cap (Y.l.map fun x : Nat => (x : Int)) hl, push_all]
    congr 2
    unfold str
    simp [Function.comp_def]

set_option maxHeartbeats 1000000 in
theorem rtext_any (p g : Nat) (st : Option (List Nat)) (w : World) (hp : g ≠ p) (h : Rd w p g st) :
    Calls Try.prog 22 #[.pointer (some ⟨p, 0, none⟩)] w fun e w' => e = .returned (.string (textV st)) ∧ Rd w' p g (textS st) ∧ w.grownBy w' (some p) := by
  have H : Hid (Rd w p g st) := h
  have hn := h.short_lt
  obtain ⟨n, hq⟩ : ∃ n, n = shortV st := ⟨_, rfl⟩
  unfold textV textS
  rw [← hq] at hn ⊢
  have HQ : Hid (shortV st = n) := hq.symm
  clear h hq
  obtain ⟨S, hS⟩ : ∃ S, S = str (tk n (tkS 2 st)) := ⟨_, rfl⟩
  rw [← hS]
  have HS : Hid (str (tk n (tkS 2 st)) = S) := hS.symm
  clear hS
  go_enter Try.func22, Try.ntmps22
  go_wp2_with (first
    | (go_at_call 18; refine (rshort_any p g st w hp H.out).mono ?_; rw [HQ.out]; rintro e w1 ⟨rfl, hR, hg⟩; have HR : Hid (Rd w1 p g (tkS 2 st)) := hR; clear hR)
    | (go_at_call 34; refine (take_any p g n (tkS 2 st) w1 hp HR.out).mono ?_; rintro e w2 ⟨v, rfl, hT, hR, hg2⟩; have hrun := run_str w2 g v _ hT; rw [HS.out] at hrun; have HR2 : Hid (Rd w2 p g (tkS n (tkS 2 st))) := hR; clear hT hR))
  go_ret
  exact ⟨rfl, HR2.out, gb_trans hg hg2⟩
theorem nil_at (w : World) : (⟨none, 0, 0, 0, 0, fun _ => 0⟩ : Bys).At w := ⟨Nat.le_refl _, fun h => absurd h (Nat.lt_irrefl _), fun _ => rfl, Nat.zero_le _, fun _ h => absurd h (Nat.not_lt_zero _), fun _ h => absurd h (Nat.not_lt_zero _)⟩
theorem nil_took (w : World) (g : Nat) : Took w g (.slice none 0 0) [] := ⟨_, rfl, nil_at w, rfl, fun h => absurd h (Nat.lt_irrefl _)⟩
theorem run_str_nil (w : World) : (convert 22 9 (.slice none 0 0)).run Try.prog w = .ok (.string ⟨#[]⟩) w := run_str w 0 _ [] (nil_took w 0)
set_option maxHeartbeats 1000000 in
theorem rtext_nil (w : World) : Calls Try.prog 22 #[.pointer none] w fun e w' => e = .returned (.string ⟨#[]⟩) ∧ w' = w := by
  have hrun := run_str_nil
  go_enter Try.func22, Try.ntmps22
  go_wp2_with (first
    | (go_at_call 18; refine (rshort_nil w).mono ?_; rintro e w1 ⟨rfl, rfl⟩)
    | (go_at_call 34; refine (take_nil 0 _).mono ?_; rintro e w1 ⟨rfl, rfl⟩))
  go_ret
  exact ⟨rfl, rfl⟩

theorem long_at {w w' : World} {B : Bys} {g : Nat} (hB : B.At w) (hm : B.len ≤ 1000000) (h : w'.rowIs g 5 B.len (longF B)) : (mkB g B.len B.g).At w' :=
  mkB_at (h.congr (fun j hj => by unfold longF Bys.g; rw [if_pos hj, if_pos hj])) (B.g_lt hB) (by omega)
theorem read_end {w w1 : World} {B : Bys} (HB : Hid (B.At w)) (hm : B.len ≤ 1000000) (HR : Hid (w1.rowIs w.heap.size 5 B.len (longF B))) :
    Rd (w1.alloc (.cells #[.slice (some ⟨w.heap.size, 0, none⟩) B.len B.len, .bool false] 49)) w1.heap.size w.heap.size (some B.l) :=
  ⟨mkB w.heap.size B.len B.g, rfl, (long_at HB.out hm HR.out).kept ((Below.refl _ _).alloc (Nat.le_refl _) _), B.g_l, heap_alloc_new _ _⟩
set_option maxHeartbeats 1000000 in
theorem read_any (B : Bys) (w : World) (hB : B.At w) (hm : B.len ≤ 1000000) :
    Calls Try.prog 17 #[.slice B.ao B.len B.cap] w fun e w' => ∃ p, e = .returned (.pointer (some ⟨p, 0, none⟩)) ∧ Rd w' p w.heap.size (some B.l) ∧ w.heap.size < p ∧ Below w.heap.size w w' := by
  have HB : Hid (B.At w) := hB
  clear hB
  go_enter Try.func17, Try.ntmps17
  go_wp2_with (go_at_call 31; refine (longer_any B 0 w HB.out (by omega)).mono ?_; rintro e w1 ⟨rfl, hr1, hb1⟩; have HR1 : Hid (w1.rowIs w.heap.size 5 B.len (longF B)) := hr1; clear hr1)
  go_ret
  exact ⟨_, rfl, read_end HB hm HR1, HR1.out.lt, hb1.alloc hb1.size _⟩
end Go.Proofs.Ytboehlfdfpiodaa
