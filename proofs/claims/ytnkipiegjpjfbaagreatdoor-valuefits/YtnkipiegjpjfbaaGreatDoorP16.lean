/- Layer 3: a value's text, as data, and that it tells the value. -/
import Derived.Test.YtnkipiegjpjfbaaGreatDoorP10
import Derived.Lib.ItoaNum
import Derived.Test.YtnkipiegjpjfbaaGreatDoorP15
namespace Go.Proofs.YtnkipiegjpjfbaaGreatDoor

/-- Texts with a comma and a blank between. -/
def commas (f : Nat → List UInt8) : Nat → List UInt8
  | 0 => []
  | n + 1 => (if n = 0 then [] else commas f n ++ [44, 32]) ++ f n
def Vl.txt : Vl → List UInt8
  | .dm => []
  | .mk k m _ _ _ len _ ps => if k = 1 then Lib.itoa m else if k = 2 then (if m = 1 then [116, 114, 117, 101] else [102, 97, 108, 115, 101]) else if k = 3 then [40] ++ (commas (fun i => Vl.txt (ps i)) len ++ [41])
      else if k = 4 then [102, 117, 110, 32] ++ (Lib.itoa m ++ (if len = 0 then [] else [32, 91] ++ (commas (fun i => Vl.txt (ps i)) len ++ [93]))) else if k = 5 then [114, 101, 102, 32] ++ Lib.itoa m else []

/- Digits. -/
def dig (c : UInt8) : Prop := 48 ≤ c.toNat ∧ c.toNat ≤ 57
theorem dig_of (u : Nat) (h : u < 10) : dig (UInt8.ofNat (48 + u)) ∧ (UInt8.ofNat (48 + u)).toNat = 48 + u := by
  have e : (UInt8.ofNat (48 + u)).toNat = 48 + u := by rw [UInt8.toNat_ofNat']; omega
  unfold dig
  rw [e]
  exact ⟨by omega, rfl⟩
theorem dec_dig (u : Nat) : ∀ c ∈ Lib.decDigits u, dig c := by
  induction u using Nat.strongRecOn with
  | ind u ih =>
    rw [Lib.decDigits]
    split
    · rename_i h
      intro c hc
      simp only [List.mem_singleton] at hc
      subst hc
      exact (dig_of u h).1
    · rename_i h
      intro c hc
      rcases List.mem_append.1 hc with h1 | h1
      · exact ih (u / 10) (by omega) c h1
      · simp only [List.mem_singleton] at h1
        subst h1
        exact (dig_of (u % 10) (by omega)).1
/-- The number that digits say. -/
def dval (l : List UInt8) : Nat := l.foldl (fun n c => n * 10 + (c.toNat - 48)) 0
theorem dec_val (u : Nat) : dval (Lib.decDigits u) = u := by
  induction u using Nat.strongRecOn with
  | ind u ih =>
    rw [Lib.decDigits]
    split
    · rename_i h
      show 0 * 10 + ((UInt8.ofNat (48 + u)).toNat - 48) = u
      rw [(dig_of u h).2]; omega
    · rename_i h
      have e : dval (Lib.decDigits (u / 10) ++ [UInt8.ofNat (48 + u % 10)]) = dval (Lib.decDigits (u / 10)) * 10 + ((UInt8.ofNat (48 + u % 10)).toNat - 48) := by simp [dval, List.foldl_append]
      rw [e, ih (u / 10) (by omega), (dig_of (u % 10) (by omega)).2]
      omega
theorem dec_ne (u : Nat) : Lib.decDigits u ≠ [] := by
  rw [Lib.decDigits]; split <;> simp
/-- What ends a number. -/
def Stop (x : List UInt8) : Prop := ∀ c r, x = c :: r → ¬ dig c
theorem digits_split : ∀ (a b x y : List UInt8), (∀ c ∈ a, dig c) → (∀ c ∈ b, dig c) → Stop x → Stop y → a ++ x = b ++ y → a = b ∧ x = y
  | [], [], _, _, _, _, _, _, h => ⟨rfl, h⟩
  | [], c :: b, x, y, _, hb, hx, _, h => absurd (hb c (by simp)) (hx c (b ++ y) h)
  | c :: a, [], x, y, ha, _, _, hy, h => absurd (ha c (by simp)) (hy c (a ++ x) h.symm)
  | c :: a, d :: b, x, y, ha, hb, hx, hy, h => by
    simp only [List.cons_append, List.cons.injEq] at h
    obtain ⟨h1, h2⟩ := digits_split a b x y (fun c hc => ha c (by simp [hc])) (fun c hc => hb c (by simp [hc])) hx hy h.2
    exact ⟨by rw [h.1, h1], h2⟩
theorem dec_inj {u v : Nat} {x y : List UInt8} (hx : Stop x) (hy : Stop y) (h : Lib.decDigits u ++ x = Lib.decDigits v ++ y) : u = v ∧ x = y := by
  obtain ⟨h1, h2⟩ := digits_split _ _ x y (dec_dig u) (dec_dig v) hx hy h
  exact ⟨by rw [← dec_val u, h1, dec_val v], h2⟩
theorem dec_head (u : Nat) (x : List UInt8) : ∃ c r, Lib.decDigits u ++ x = c :: r ∧ dig c := by
  have h := dec_dig u
  cases hd : Lib.decDigits u with
  | nil => exact absurd hd (dec_ne u)
  | cons c r => exact ⟨c, r ++ x, rfl, h c (by rw [hd]; simp)⟩
theorem itoa_inj {n m : Int} {x y : List UInt8} (hx : Stop x) (hy : Stop y) (h : Lib.itoa n ++ x = Lib.itoa m ++ y) : n = m ∧ x = y := by
  have nd : ¬ dig 45 := by unfold dig; decide
  unfold Lib.itoa at h
  split at h
  · split at h
    · simp only [List.cons_append, List.cons.injEq, true_and] at h
      obtain ⟨h1, h2⟩ := dec_inj hx hy h
      exact ⟨by omega, h2⟩
    · obtain ⟨c, r, hc, hd⟩ := dec_head m.toNat y
      rw [hc] at h
      simp only [List.cons_append, List.cons.injEq] at h
      rw [← h.1] at hd
      exact absurd hd nd
  · split at h
    · obtain ⟨c, r, hc, hd⟩ := dec_head n.toNat x
      rw [hc] at h
      simp only [List.cons_append, List.cons.injEq] at h
      rw [h.1] at hd
      exact absurd hd nd
    · obtain ⟨h1, h2⟩ := dec_inj hx hy h
      exact ⟨by omega, h2⟩
/-- A number's first sign. -/
theorem itoa_head (n : Int) (x : List UInt8) : ∃ c r, Lib.itoa n ++ x = c :: r ∧ (c = 45 ∨ dig c) := by
  unfold Lib.itoa
  split
  · exact ⟨45, _, rfl, Or.inl rfl⟩
  · obtain ⟨c, r, h, hd⟩ := dec_head n.toNat x
    exact ⟨c, r, h, Or.inr hd⟩

/-- What stands behind a value. -/
def Behind (x : List UInt8) : Prop := x = [] ∨ ∃ c r, x = c :: r ∧ (c = 44 ∨ c = 41 ∨ c = 93)
theorem Behind.stop {x : List UInt8} (h : Behind x) : Stop x := by
  intro c r e
  rcases h with rfl | ⟨c', r', rfl, h⟩
  · cases e
  · simp only [List.cons.injEq] at e
    rw [← e.1]
    unfold dig
    rcases h with rfl | rfl | rfl <;> decide

/-- The texts behind the first. -/
def ctail (f : Nat → List UInt8) (a : Nat) : Nat → List UInt8
  | 0 => []
  | n + 1 => [44, 32] ++ (f a ++ ctail f (a + 1) n)
theorem ctail_snoc (f : Nat → List UInt8) (n : Nat) : ∀ a, ctail f a (n + 1) = ctail f a n ++ ([44, 32] ++ f (a + n)) := by
  induction n with
  | zero => intro a; simp [ctail]
  | succ n ih =>
    intro a
    rw [show ctail f a (n + 1 + 1) = [44, 32] ++ (f a ++ ctail f (a + 1) (n + 1)) from rfl, ih (a + 1), show ctail f a (n + 1) = [44, 32] ++ (f a ++ ctail f (a + 1) n) from rfl, show a + 1 + n = a + (n + 1) by omega]
    simp only [List.append_assoc]
theorem commas_left (f : Nat → List UInt8) (n : Nat) : commas f (n + 1) = f 0 ++ ctail f 1 n := by
  induction n with
  | zero => simp [commas, ctail]
  | succ n ih =>
    rw [show commas f (n + 1 + 1) = (commas f (n + 1) ++ [44, 32]) ++ f (n + 1) from rfl, ih, ctail_snoc, Nat.add_comm 1 n]
    simp only [List.append_assoc]
theorem tail_behind (f : Nat → List UInt8) (a n : Nat) (c : UInt8) (hc : c = 41 ∨ c = 93) (x : List UInt8) : Behind (ctail f a n ++ (c :: x)) := by
  cases n with
  | zero => exact Or.inr ⟨c, x, rfl, Or.inr hc⟩
  | succ n => exact Or.inr ⟨44, _, rfl, Or.inl rfl⟩

/-- What is said of one value: its text tells it. -/
def Tells (v : Vl) : Prop := ∀ (u : Vl) (x y : List UInt8), v.fm = true → u.fm = true → Behind x → Behind y → v.txt ++ x = u.txt ++ y → v.same u = true ∧ x = y

theorem tail_inj (f g : Nat → Vl) (c : UInt8) (hc : c = 41 ∨ c = 93) : ∀ (n n' a : Nat) (x y : List UInt8), (∀ i, i < n → Tells (f (a + i)) ∧ (f (a + i)).fm = true) → (∀ i, i < n' → (g (a + i)).fm = true) →
    ctail (fun i => (f i).txt) a n ++ (c :: x) = ctail (fun i => (g i).txt) a n' ++ (c :: y) → n = n' ∧ (∀ i, i < n → (f (a + i)).same (g (a + i)) = true) ∧ x = y
  | 0, 0, _, x, y, _, _, h => by
    simp only [ctail, List.nil_append, List.cons.injEq, true_and] at h
    exact ⟨rfl, fun i hi => absurd hi (Nat.not_lt_zero _), h⟩
  | 0, n' + 1, _, x, y, _, _, h => by
    simp only [ctail, List.nil_append, List.cons_append, List.cons.injEq] at h
    rcases hc with rfl | rfl <;> exact absurd h.1 (by decide)
  | n + 1, 0, _, x, y, _, _, h => by
    simp only [ctail, List.nil_append, List.cons_append, List.cons.injEq] at h
    rcases hc with rfl | rfl <;> exact absurd h.1 (by decide)
  | n + 1, n' + 1, a, x, y, hf, hg, h => by
    simp only [ctail, List.cons_append, List.nil_append, List.append_assoc, List.cons.injEq, true_and] at h
    obtain ⟨h1, h2⟩ := (hf 0 (by omega)).1 (g a) _ _ (hf 0 (by omega)).2 (hg 0 (by omega)) (tail_behind _ _ _ c hc _) (tail_behind _ _ _ c hc _) h
    obtain ⟨h3, h4, h5⟩ := tail_inj f g c hc n n' (a + 1) x y (fun i hi => by have := hf (i + 1) (by omega); rwa [show a + (i + 1) = a + 1 + i by omega] at this) (fun i hi => by have := hg (i + 1) (by omega); rwa [show a + (i + 1) = a + 1 + i by omega] at this) h2
    refine ⟨by omega, fun i hi => ?_, h5⟩
    cases i with
    | zero => exact h1
    | succ i => have := h4 i (by omega); rwa [show a + 1 + i = a + (i + 1) by omega] at this
theorem commas_inj (f g : Nat → Vl) (c : UInt8) (hc : c = 41 ∨ c = 93) (n n' : Nat) (x y : List UInt8) (hn : 0 < n) (hn' : 0 < n') (hf : ∀ i, i < n → Tells (f i) ∧ (f i).fm = true) (hg : ∀ i, i < n' → (g i).fm = true)
    (h : commas (fun i => (f i).txt) n ++ (c :: x) = commas (fun i => (g i).txt) n' ++ (c :: y)) : n = n' ∧ (∀ i, i < n → (f i).same (g i) = true) ∧ x = y := by
  obtain ⟨m, rfl⟩ : ∃ m, n = m + 1 := ⟨n - 1, by omega⟩
  obtain ⟨m', rfl⟩ : ∃ m', n' = m' + 1 := ⟨n' - 1, by omega⟩
  rw [commas_left, commas_left, List.append_assoc, List.append_assoc] at h
  obtain ⟨h1, h2⟩ := (hf 0 (by omega)).1 (g 0) _ _ (hf 0 (by omega)).2 (hg 0 (by omega)) (tail_behind _ _ _ c hc _) (tail_behind _ _ _ c hc _) h
  obtain ⟨h3, h4, h5⟩ := tail_inj f g c hc m m' 1 x y (fun i hi => by have := hf (i + 1) (by omega); rwa [Nat.add_comm i 1] at this) (fun i hi => by have := hg (i + 1) (by omega); rwa [Nat.add_comm i 1] at this) h2
  refine ⟨by omega, fun i hi => ?_, h5⟩
  cases i with
  | zero => exact h1
  | succ i => have := h4 i (by omega); rwa [Nat.add_comm 1 i] at this

/-- The Kind by the first signs. -/
def kindOf : List UInt8 → Int
  | c :: d :: _ => if c = 40 then 3 else if c = 114 then 5 else if c = 116 then 2 else if c = 102 then (if d = 97 then 2 else 4) else 1
  | _ => 1
theorem kind_num (n : Int) (x : List UInt8) : kindOf (Lib.itoa n ++ x) = 1 := by
  obtain ⟨c, r, h, hc⟩ := itoa_head n x
  rw [h]
  cases r with
  | nil => rfl
  | cons d r =>
    have h1 : c ≠ 40 ∧ c ≠ 114 ∧ c ≠ 116 ∧ c ≠ 102 := by
      refine ⟨?_, ?_, ?_, ?_⟩ <;> (rintro rfl; rcases hc with h | h; exact absurd h (by decide); unfold dig at h; exact absurd h (by decide))
    show (if c = 40 then (3 : Int) else if c = 114 then 5 else if c = 116 then 2 else if c = 102 then (if d = 97 then 2 else 4) else 1) = 1
    rw [if_neg h1.1, if_neg h1.2.1, if_neg h1.2.2.1, if_neg h1.2.2.2]
theorem nd_kind {k m : Int} {len : Nat} (h : ndB k m len = true) : k = 1 ∨ k = 2 ∨ k = 3 ∨ k = 4 ∨ k = 5 := by
  unfold ndB at h
  repeat (split at h; · simp_all)
  cases h
theorem fm_parts {k m : Int} {ao : Option Addr} {b o len cap : Nat} {ps : Nat → Vl} (h : Vl.fm (.mk k m ao b o len cap ps) = true) : ndB k m len = true ∧ ∀ i, i < len → (ps i).fm = true := by
  have h' : (ndB k m len && decide (∀ i, i < len → Vl.fm (ps i) = true)) = true := h
  rw [Bool.and_eq_true, decide_eq_true_eq] at h'
  exact h'
theorem kind_txt (v : Vl) (x : List UInt8) (h : v.fm = true) : kindOf (v.txt ++ x) = v.k := by
  cases v with
  | dm => cases h
  | mk k m ao b o len cap ps =>
    rcases nd_kind (fm_parts h).1 with rfl | rfl | rfl | rfl | rfl
    · exact kind_num m x
    · show kindOf ((if m = 1 then [116, 114, 117, 101] else [102, 97, 108, 115, 101]) ++ x) = 2
      split <;> rfl
    · show kindOf ([40] ++ (commas (fun i => (ps i).txt) len ++ [41]) ++ x) = 3
      cases hq : commas (fun i => (ps i).txt) len ++ [41] with
      | nil => simp at hq
      | cons d r => rfl
    · rfl
    · rfl
theorem same_mk {k m : Int} {ao : Option Addr} {b o len cap : Nat} {ps : Nat → Vl} {u : Vl} (h1 : k = u.k) (h2 : m = u.m) (h3 : len = u.len) (h4 : ∀ i, i < len → (ps i).same (u.ps i) = true) : (Vl.mk k m ao b o len cap ps).same u = true := by
  show ((((k == u.k) && (m == u.m)) && (len == u.len)) && decide (∀ i, i < len → (ps i).same (u.ps i) = true)) = true
  simp only [Bool.and_eq_true, beq_iff_eq, decide_eq_true_eq]
  exact ⟨⟨⟨h1, h2⟩, h3⟩, h4⟩

theorem txt_tells : ∀ v : Vl, Tells v
  | .dm => fun _ _ _ h => by cases h
  | .mk k m ao b o len cap ps => by
    have ih : ∀ i, Tells (ps i) := fun i => txt_tells (ps i)
    intro u x y hv hu hx hy h
    have hk : k = u.k := by
      have := congrArg kindOf h
      rwa [kind_txt _ x hv, kind_txt u y hu] at this
    cases u with
    | dm => cases hu
    | mk k' m' ao' b' o' len' cap' ps' =>
      have hk' : k = k' := hk
      subst hk'
      obtain ⟨n1, p1⟩ := fm_parts hv
      obtain ⟨n2, p2⟩ := fm_parts hu
      rcases nd_kind n1 with rfl | rfl | rfl | rfl | rfl
      · have h' : Lib.itoa m ++ x = Lib.itoa m' ++ y := h
        obtain ⟨e1, e2⟩ := itoa_inj hx.stop hy.stop h'
        have l1 : len = 0 := by simpa [ndB] using n1
        have l2 : len' = 0 := by simpa [ndB] using n2
        exact ⟨same_mk rfl e1 (l1.trans l2.symm) (fun i hi => by omega), e2⟩
      · have h' : (if m = 1 then [116, 114, 117, 101] else [102, 97, 108, 115, 101]) ++ x = (if m' = 1 then [116, 114, 117, 101] else [102, 97, 108, 115, 101]) ++ y := h
        have l1 : len = 0 ∧ (m = 0 ∨ m = 1) := by simpa [ndB] using n1
        have l2 : len' = 0 ∧ (m' = 0 ∨ m' = 1) := by simpa [ndB] using n2
        have key : m = m' ∧ x = y := by
          rcases l1.2 with rfl | rfl <;> rcases l2.2 with rfl | rfl <;> simp at h' ⊢ <;> exact h'
        exact ⟨same_mk rfl key.1 (l1.1.trans l2.1.symm) (fun i hi => by omega), key.2⟩
      · have h' : [40] ++ (commas (fun i => (ps i).txt) len ++ [41]) ++ x = [40] ++ (commas (fun i => (ps' i).txt) len' ++ [41]) ++ y := h
        have l1 : len = 2 ∧ m = 0 := by simpa [ndB] using n1
        have l2 : len' = 2 ∧ m' = 0 := by simpa [ndB] using n2
        simp only [List.append_assoc, List.cons_append, List.nil_append, List.cons.injEq, true_and] at h'
        obtain ⟨e1, e2, e3⟩ := commas_inj ps ps' 41 (Or.inl rfl) len len' x y (by omega) (by omega) (fun i hi => ⟨ih i, p1 i hi⟩) p2 h'
        exact ⟨same_mk rfl (l1.2.trans l2.2.symm) e1 e2, e3⟩
      · have h' : [102, 117, 110, 32] ++ (Lib.itoa m ++ (if len = 0 then [] else [32, 91] ++ (commas (fun i => (ps i).txt) len ++ [93]))) ++ x = [102, 117, 110, 32] ++ (Lib.itoa m' ++ (if len' = 0 then [] else [32, 91] ++ (commas (fun i => (ps' i).txt) len' ++ [93]))) ++ y := h
        simp only [List.append_assoc, List.cons_append, List.nil_append, List.cons.injEq, true_and] at h'
        have st : ∀ (q : List UInt8) (n : Nat) (z : List UInt8), Behind z → Stop ((if n = 0 then [] else 32 :: 91 :: q) ++ z) := by
          intro q n z hz
          split
          · exact hz.stop
          · intro c r e
            simp only [List.cons_append, List.cons.injEq] at e
            rw [← e.1]
            unfold dig; decide
        obtain ⟨e1, e2⟩ := itoa_inj (st _ len x hx) (st _ len' y hy) h'
        have nb : ∀ (q : List UInt8) (z : List UInt8), Behind z → z ≠ 32 :: q := by
          rintro q z (rfl | ⟨c, r, rfl, hc⟩) e
          · cases e
          · simp only [List.cons.injEq] at e
            rcases hc with rfl | rfl | rfl <;> exact absurd e.1 (by decide)
        by_cases l1 : len = 0
        · by_cases l2 : len' = 0
          · rw [if_pos l1, if_pos l2] at e2
            exact ⟨same_mk rfl e1 (l1.trans l2.symm) (fun i hi => by omega), e2⟩
          · rw [if_pos l1, if_neg l2] at e2
            exact absurd e2 (nb _ x hx)
        · by_cases l2 : len' = 0
          · rw [if_neg l1, if_pos l2] at e2
            exact absurd e2.symm (nb _ y hy)
          · rw [if_neg l1, if_neg l2] at e2
            simp only [List.append_assoc, List.cons_append, List.nil_append, List.cons.injEq, true_and] at e2
            obtain ⟨e3, e4, e5⟩ := commas_inj ps ps' 93 (Or.inr rfl) len len' x y (by omega) (by omega) (fun i hi => ⟨ih i, p1 i hi⟩) p2 e2
            exact ⟨same_mk rfl e1 e3 e4, e5⟩
      · have h' : [114, 101, 102, 32] ++ Lib.itoa m ++ x = [114, 101, 102, 32] ++ Lib.itoa m' ++ y := h
        simp only [List.cons_append, List.nil_append, List.cons.injEq, true_and] at h'
        obtain ⟨e1, e2⟩ := itoa_inj hx.stop hy.stop h'
        have l1 : len = 0 := by unfold ndB at n1; simp at n1; exact n1.1.1
        have l2 : len' = 0 := by unfold ndB at n2; simp at n2; exact n2.1.1
        exact ⟨same_mk rfl e1 (l1.trans l2.symm) (fun i hi => by omega), e2⟩

theorem commas_congr (f g : Nat → List UInt8) (n : Nat) (h : ∀ i, i < n → f i = g i) : commas f n = commas g n := by
  induction n with
  | zero => rfl
  | succ n ih => simp only [commas]; rw [ih (fun i hi => h i (by omega)), h n (by omega)]
/-- What is the same has one text. -/
theorem same_txt : ∀ (v u : Vl), v.fm = true → u.fm = true → v.same u = true → v.txt = u.txt
  | .dm, _, h, _, _ => by cases h
  | .mk k m ao b o len cap ps, u, hv, hu, h => by
    have ih := fun i => same_txt (ps i)
    cases u with
    | dm => cases hu
    | mk k' m' ao' b' o' len' cap' ps' =>
      have h' : ((((k == k') && (m == m')) && (len == len')) && decide (∀ i, i < len → (ps i).same (ps' i) = true)) = true := h
      simp only [Bool.and_eq_true, beq_iff_eq, decide_eq_true_eq] at h'
      obtain ⟨⟨⟨rfl, rfl⟩, rfl⟩, hp⟩ := h'
      have e := commas_congr (fun i => (ps i).txt) (fun i => (ps' i).txt) len (fun i hi => ih i (ps' i) ((fm_parts hv).2 i hi) ((fm_parts hu).2 i hi) (hp i hi))
      simp only [Vl.txt]
      rw [e]
/-- Two formed values have one text just if they are the same. -/
theorem txt_same (v u : Vl) (hv : v.fm = true) (hu : u.fm = true) : (decide (v.txt = u.txt)) = v.same u := by
  cases hs : v.same u with
  | true => exact decide_eq_true (same_txt v u hv hu hs)
  | false =>
    refine decide_eq_false (fun h => ?_)
    have := (txt_tells v u [] [] hv hu (Or.inl rfl) (Or.inl rfl) (by rw [h])).1
    rw [hs] at this
    cases this
theorem txt_ne (v : Vl) (hv : v.fm = true) : v.txt ≠ [] := by
  intro h
  have h1 := kind_txt v [] hv
  cases v with
  | dm => cases hv
  | mk k m ao b o len cap ps =>
    rcases nd_kind (fm_parts hv).1 with rfl | rfl | rfl | rfl | rfl
    · obtain ⟨c, r, hc, _⟩ := itoa_head m []
      have : Lib.itoa m = [] := h
      rw [this] at hc; cases hc
    · have h' : (if m = 1 then [116, 114, 117, 101] else [102, 97, 108, 115, 101]) = ([] : List UInt8) := h
      split at h' <;> cases h'
    · cases h
    · cases h
    · cases h
end Go.Proofs.YtnkipiegjpjfbaaGreatDoor

/- Layer 3: whether a value fits a type: fits, Fits. -/
namespace Go.Proofs.YtnkipiegjpjfbaaGreatDoor
open Go.RowKit

theorem fit_kind {n : Strs} {g : Grid} {fs : Fs} {cs : Cs} {k m : Int} {ao : Option Addr} {b o len cap : Nat} {ps : Nat → Vl} {t : Ty} (h : t.k ≠ k) : Vl.fit n g fs cs (.mk k m ao b o len cap ps) t = false := by
  unfold Vl.fit
  rw [beq_eq_false_iff_ne.2 h]; rfl
theorem fm_arity {N d : Nat} {t : Ty} (h : t.fm N d = true) : (t.len : Int) = arityI t.k ∧ ∀ i, i < t.len → (t.ps i).fm N (d + 1) = true := by
  rcases t with _ | ⟨k, l, hh, e, ao, b, o, len, cap, ps⟩
  · cases h
  · have h' : ((((decide (d ≤ 6) && ((len : Int) == arityI k)) && inR N l) && bndI N k hh e) && decide (∀ i, i < len → Ty.fm N (ps i) (d + 1) = true)) = true := h
    simp only [Bool.and_eq_true, decide_eq_true_eq, beq_iff_eq] at h'
    exact ⟨h'.1.1.1.2, h'.2⟩

set_option maxRecDepth 100000 in
set_option maxHeartbeats 8000000 in
theorem fits_any (n : Strs) (g : Grid) (fs : Fs) (cs : Cs) (hcn : ∀ i, i < cs.len → (cs.t i).nodes ≤ 1000) : ∀ v : Vl, FC n g fs cs v := by
  intro v
  induction v with
  | dm => intro t w X _ _ hf; cases hf
  | mk k m ao b o len cap ps ih =>
    intro t w X he hfd hf ht hv
    show Calls Tryz.prog 25 #[.pointer (some ⟨X, 0, none⟩), .agg #[.int .i64 t.k, .int .i64 t.l, .slice t.ao t.len t.cap, .int .i64 t.h, .int .i64 t.e], .agg #[.int .i64 k, .int .i64 m, .slice ao len cap]] w fun e w' => e = .returned (.bool (Vl.fit n g fs cs (.mk k m ao b o len cap ps) t)) ∧ Below w.heap.size w w'
    have K0 := fbox_new he ht hv
    obtain ⟨nd, hp⟩ := vfm_parts hf
    obtain ⟨d, hd⟩ := hfd
    obtain ⟨har, hpt⟩ := fm_arity hd
    have HPT : Hid (∀ i, i < t.len → ∃ d, (t.ps i).fm n.len d = true) := fun i hi => ⟨_, hpt i hi⟩
    have HP : Hid (∀ i, i < len → (ps i).fm = true) := hp
    have HIH : Hid (∀ i, FC n g fs cs (ps i)) := ih
    have HCN : Hid (∀ i, i < cs.len → (cs.t i).nodes ≤ 1000) := hcn
    have HND : Hid (ndB k m len = true) := nd
    have HA : Hid ((t.len : Int) = arityI t.k) := har
    unfold tyO vlO at K0
    simp only [Vl.k, Vl.m, Vl.ao, Vl.len, Vl.cap] at K0
    have HK0 : Hid (FBox w ((w.alloc (.cells #[.int .i64 t.k, .int .i64 t.l, .slice t.ao t.len t.cap, .int .i64 t.h, .int .i64 t.e] 32)).alloc (.cells #[.int .i64 k, .int .i64 m, .slice ao len cap] 35)) X n g fs cs t (.mk k m ao b o len cap ps)) := K0
    have HFF : Hid (k = 4 → ∀ (q : Nat), m = (q : Nat) → ∀ u, Env u X n g fs cs → t.At u → Vl.At u (.mk k m ao b o len cap ps) → Calls Tryz.prog 44 #[.pointer (some ⟨X, 0, none⟩), .agg #[.int .i64 t.k, .int .i64 t.l, .slice t.ao t.len t.cap, .int .i64 t.h, .int .i64 t.e], .agg #[.int .i64 k, .int .i64 m, .slice ao len cap]] u fun e w' => e = .returned (.bool (funB n g fs cs m len ps t)) ∧ Below u.heap.size u w') := fun _ q hq u h1 h2 h3 => by
      subst hq
      exact funFits_any n g fs cs k q ao b o len cap ps (fun j _ => ih j) hp t u X h1 h2 h3
    have hb1 : len ≤ 9223372036854775807 := hv.bound
    clear K0 nd hp hd har hpt ih hcn he ht hv hf d
    by_cases hk : t.k = k
    · have hbk : (t.k != k) = false := by simp [hk]
      rw [hk] at HK0 HFF ⊢
      have x0 := HK0.out.x.c0
      have v0 : _ = some (Value.int .i64 k) := HK0.out.y.c0
      rcases nd_kind HND.out with rfl | rfl | rfl | rfl | rfl
      · have HE : Hid (Vl.fit n g fs cs (.mk 1 m ao b o len cap ps) t = true) := by
          show Vl.fit _ _ _ _ _ _ = true
          unfold Vl.fit
          rw [hk]; rfl
        rw [hk] at x0
        go_enter Tryz.func25, Tryz.ntmps25
        go_wp2
        go_ret
        exact ⟨ret_bool HE.out.symm, HK0.out.bl⟩
      · have HE : Hid (Vl.fit n g fs cs (.mk 2 m ao b o len cap ps) t = true) := by
          show Vl.fit _ _ _ _ _ _ = true
          unfold Vl.fit
          rw [hk]; rfl
        rw [hk] at x0
        go_enter Tryz.func25, Tryz.ntmps25
        go_wp2
        go_ret
        exact ⟨ret_bool HE.out.symm, HK0.out.bl⟩
      · have l2 : len = 2 := nd_pair HND.out
        subst l2
        have HTL : Hid (t.len = 2) := by show t.len = 2; have := HA.out; rw [hk] at this; have e : arityI 3 = 2 := rfl; omega
        have HE : Hid (Vl.fit n g fs cs (.mk 3 m ao b o 2 cap ps) t = (Vl.fit n g fs cs (ps 0) (t.ps 0) && Vl.fit n g fs cs (ps 1) (t.ps 1))) := by
          show Vl.fit _ _ _ _ _ _ = _
          rw [Vl.fit, hk]; rfl
        rw [hk] at x0
        go_enter Tryz.func25, Tryz.ntmps25
        go_upto_region 5 with fail
        clear x0 v0
        generalize (w.alloc (.cells #[.int .i64 3, .int .i64 t.l, .slice t.ao t.len t.cap, .int .i64 t.h, .int .i64 t.e] 32)).alloc (.cells #[.int .i64 3, .int .i64 m, .slice ao 2 cap] 35) = W0 at HK0 ⊢
        have tl := HTL.out
        have a1 : ao = some ⟨b, o, none⟩ := HK0.out.hv.nil (by show 0 < 2; omega)
        subst a1
        have a2 := HK0.out.ht.nil (by omega)
        have tx2 : W0.cell? ⟨w.heap.size, 2, none⟩ = some (.slice (some ⟨t.b, t.o, none⟩) 2 t.cap) := by rw [HK0.out.x.c2, a2, tl]
        have vx2 : W0.cell? ⟨w.heap.size + 1, 2, none⟩ = some (.slice (some ⟨b, o, none⟩) 2 cap) := HK0.out.y.c2
        have T0 : C5 W0 t.b (t.o + 0 * 5) (t.ps 0) := HK0.out.ht.cells (by omega)
        have T1 : C5 W0 t.b (t.o + 1 * 5) (t.ps 1) := HK0.out.ht.cells (by omega)
        have V0 : C3 W0 b (o + 0 * 3) (ps 0) := HK0.out.hv.cells (i := 0) (by show 0 < 2; omega)
        have V1 : C3 W0 b (o + 1 * 3) (ps 1) := HK0.out.hv.cells (i := 1) (by show 1 < 2; omega)
        simp only [Nat.zero_mul, Nat.add_zero, Nat.one_mul] at T0 T1 V0 V1
        have g0 := fun x => Gr.cell x tx2
        have g1 := fun x => Gr.cell x vx2
        have t00 := fun x => Gr.cell x T0.c0
        have t01 := fun x => Gr.cell x T0.c1
        have t02 := fun x => Gr.cell x T0.c2
        have t03 := fun x => Gr.cell x T0.c3
        have t04 := fun x => Gr.cell x T0.c4
        have t10 := fun x => Gr.cell x T1.c0
        have t11 := fun x => Gr.cell x T1.c1
        have t12 := fun x => Gr.cell x T1.c2
        have t13 := fun x => Gr.cell x T1.c3
        have t14 := fun x => Gr.cell x T1.c4
        have w00 := fun x => Gr.cell x V0.c0
        have w01 := fun x => Gr.cell x V0.c1
        have w02 := fun x => Gr.cell x V0.c2
        have w10 := fun x => Gr.cell x V1.c0
        have w11 := fun x => Gr.cell x V1.c1
        have w12 := fun x => Gr.cell x V1.c2
        have hNE : Nonempty (Gr W0) := ⟨⟨_, Below.refl _ _⟩⟩
        have H1 := fun u (hu : Below W0.heap.size W0 u) => HIH.out 0 (t.ps 0) u X (HK0.out.env.kept hu) (HPT.out 0 (by omega)) (HP.out 0 (by omega)) ((HK0.out.ht.part (i := 0) (by omega)).kept hu) ((HK0.out.hv.part (i := 0) (by show 0 < 2; omega)).kept hu)
        have H2 := fun u (hu : Below W0.heap.size W0 u) => HIH.out 1 (t.ps 1) u X (HK0.out.env.kept hu) (HPT.out 1 (by omega)) (HP.out 1 (by omega)) ((HK0.out.ht.part (i := 1) (by omega)).kept hu) ((HK0.out.hv.part (i := 1) (by show 1 < 2; omega)).kept hu)
        have HB : Hid (Below w.heap.size w W0) := HK0.out.bl
        clear T0 T1 V0 V1 tx2 vx2 a2 hk tl
        cases hf0 : Vl.fit n g fs cs (ps 0) (t.ps 0)
        · rw [hf0] at H1 HE
          clear hf0
          refine wp_region_gr (by kernel_rfl) (by kernel_rfl) ?_
          repeat (first | go_big_quiet_step ((go_at_call 25; exact Calls.gr _ (H1 _ (Gr.bl _)))))
          refine wpQuiet_nil ?_
          rintro w8 ⟨q8, rfl⟩
          have B8 := q8.bl
          generalize q8.w = w8 at B8 ⊢
          clear q8 hNE g0 g1 t00 t01 t02 t03 t04 t10 t11 t12 t13 t14 w00 w01 w02 w10 w11 w12 H1 H2
          go_wp2
          go_ret
          exact ⟨ret_bool HE.out.symm, Below.next HB.out B8⟩
        · rw [hf0] at H1 HE
          clear hf0
          refine wp_region_gr (by kernel_rfl) (by kernel_rfl) ?_
          repeat (first | go_big_quiet_step ((go_at_call 25; first | with_reducible exact Calls.gr _ (H1 _ (Gr.bl _)) | with_reducible exact Calls.gr _ (H2 _ (Gr.bl _)))))
          refine wpQuiet_nil ?_
          rintro w8 ⟨q8, rfl⟩
          have B8 := q8.bl
          generalize q8.w = w8 at B8 ⊢
          clear q8 hNE g0 g1 t00 t01 t02 t03 t04 t10 t11 t12 t13 t14 w00 w01 w02 w10 w11 w12 H1 H2
          go_wp2
          go_ret
          exact ⟨ret_bool HE.out.symm, Below.next HB.out B8⟩
      · obtain ⟨m0, _⟩ := nd_fun HND.out
        have HE : Hid (Vl.fit n g fs cs (.mk 4 m ao b o len cap ps) t = funB n g fs cs m len ps t) := by
          show Vl.fit _ _ _ _ _ _ = _
          rw [Vl.fit, hk]; rfl
        have hC := HFF.out rfl m.toNat (by omega) _ HK0.out.env HK0.out.ht HK0.out.hv
        have x1 := HK0.out.x.c1
        have x2 := HK0.out.x.c2
        have x3 := HK0.out.x.c3
        have x4 := HK0.out.x.c4
        have v1 : _ = some (Value.int .i64 m) := HK0.out.y.c1
        have v2 : _ = some (Value.slice ao len cap) := HK0.out.y.c2
        rw [hk] at x0
        go_enter Tryz.func25, Tryz.ntmps25
        go_wp2_with fail
        refine hC.mono ?_
        rintro e w8 ⟨rfl, hb8⟩
        go_wp2
        go_ret
        exact ⟨ret_bool HE.out.symm, Below.next HK0.out.bl hb8⟩
      · have m0 := nd_ref HND.out
        obtain ⟨q, hq⟩ : ∃ q : Nat, m = (q : Nat) := ⟨m.toNat, by omega⟩
        subst hq
        have HTL : Hid (t.len = 1) := by show t.len = 1; have := HA.out; rw [hk] at this; have e : arityI 5 = 1 := rfl; omega
        have HE : Hid (Vl.fit n g fs cs (.mk 5 (q : Nat) ao b o len cap ps) t = (decide ((q : Int) < cs.len) && (cs.t q).same (t.ps 0))) := by
          show Vl.fit _ _ _ _ _ _ = _
          rw [Vl.fit, hk]; rfl
        rw [hk] at x0
        go_enter Tryz.func25, Tryz.ntmps25
        go_upto_region 9 with fail
        clear x0 v0
        generalize (w.alloc (.cells #[.int .i64 5, .int .i64 t.l, .slice t.ao t.len t.cap, .int .i64 t.h, .int .i64 t.e] 32)).alloc (.cells #[.int .i64 5, .int .i64 (q : Nat), .slice ao len cap] 35) = W0 at HK0 ⊢
        have tl := HTL.out
        have v1 : W0.cell? ⟨w.heap.size + 1, 1, none⟩ = some (.int .i64 (q : Nat)) := HK0.out.y.c1
        have g0 := fun x => Gr.cell x v1
        have hcb := HK0.out.env.hc.bound
        have hNE : Nonempty (Gr W0) := ⟨⟨_, Below.refl _ _⟩⟩
        have HB : Hid (Below w.heap.size w W0) := HK0.out.bl
        by_cases hqc : q < cs.len
        · have iq : (q : Int) < cs.len := by omega
          have i0 : (0 : Int) ≤ q := by omega
          have dq : decide ((q : Int) < cs.len) = true := decide_eq_true iq
          rw [dq, Bool.true_and] at HE
          have a2 := HK0.out.ht.nil (by omega)
          have a3 := HK0.out.env.hc.nil (by omega)
          have c3 : W0.cell? ⟨X, 3, none⟩ = some (.slice (some ⟨cs.b, cs.o, none⟩) cs.len cs.cap) := by rw [HK0.out.env.c3, a3]
          have tx2 : W0.cell? ⟨w.heap.size, 2, none⟩ = some (.slice (some ⟨t.b, t.o, none⟩) 1 t.cap) := by rw [HK0.out.x.c2, a2, tl]
          have T0 : C5 W0 t.b (t.o + 0 * 5) (t.ps 0) := HK0.out.ht.cells (by omega)
          have Q0 : C5 W0 cs.b (cs.o + q * 8) (cs.t q) := HK0.out.env.hc.ct q hqc
          simp only [Nat.zero_mul, Nat.add_zero] at T0
          have g1 := fun x => Gr.cell x c3
          have g2 := fun x => Gr.cell x tx2
          have t00 := fun x => Gr.cell x T0.c0
          have t01 := fun x => Gr.cell x T0.c1
          have t02 := fun x => Gr.cell x T0.c2
          have t03 := fun x => Gr.cell x T0.c3
          have t04 := fun x => Gr.cell x T0.c4
          have q00 := fun x => Gr.cell x Q0.c0
          have q01 := fun x => Gr.cell x Q0.c1
          have q02 := fun x => Gr.cell x Q0.c2
          have q03 := fun x => Gr.cell x Q0.c3
          have q04 := fun x => Gr.cell x Q0.c4
          have H1 := fun u (hu : Below W0.heap.size W0 u) => Same_any2 (cs.t q) (t.ps 0) u ((HK0.out.env.hc.pt q hqc).kept hu) ((HK0.out.ht.part (i := 0) (by omega)).kept hu) (by have := HCN.out q hqc; have := pn_nodes (cs.t q); omega)
          clear T0 Q0 tx2 c3 a2 a3 hk tl v1
          refine wp_region_gr (by kernel_rfl) (by kernel_rfl) ?_
          repeat (first | go_big_quiet_step ((go_at_call 45; exact Calls.gr _ (H1 _ (Gr.bl _)))))
          refine wpQuiet_nil ?_
          rintro w8 ⟨q8, rfl⟩
          have B8 := q8.bl
          generalize q8.w = w8 at B8 ⊢
          clear q8 hNE g0 g1 g2 t00 t01 t02 t03 t04 q00 q01 q02 q03 q04 H1
          go_wp2
          go_ret
          exact ⟨ret_bool HE.out.symm, Below.next HB.out B8⟩
        · have iq : ¬ (q : Int) < cs.len := by omega
          have dq : decide ((q : Int) < cs.len) = false := decide_eq_false iq
          rw [dq, Bool.false_and] at HE
          have g1 := fun x => Gr.cell x HK0.out.env.c3
          clear hk tl v1
          refine wp_region_gr (by kernel_rfl) (by kernel_rfl) ?_
          repeat (first | go_big_quiet_step (fail))
          refine wpQuiet_nil ?_
          rintro w8 ⟨q8, rfl⟩
          have B8 := q8.bl
          generalize q8.w = w8 at B8 ⊢
          clear q8 hNE g0 g1
          go_wp2
          go_ret
          exact ⟨ret_bool HE.out.symm, Below.next HB.out B8⟩
    · have HE : Hid (Vl.fit n g fs cs (.mk k m ao b o len cap ps) t = false) := fit_kind hk
      have hbk : (t.k != k) = true := by simp [hk]
      have x0 := HK0.out.x.c0
      have v0 : _ = some (Value.int .i64 k) := HK0.out.y.c0
      clear hk
      go_enter Tryz.func25, Tryz.ntmps25
      go_wp2
      go_ret
      exact ⟨ret_bool HE.out.symm, HK0.out.bl⟩
end Go.Proofs.YtnkipiegjpjfbaaGreatDoor
