/- Layer 3: a value's text, as data, and that it tells the value. -/
import Derived.Test.YtnkipiegjpjfbaaDoorP10
import Derived.Lib.ItoaNum
import Derived.Test.YtnkipiegjpjfbaaDoorP1
import Derived.Lib.ItoaLen
import Derived.Lib.AppendIntMem
import Derived.Laws.Concat
import Derived.Deep.Cut
import Derived.Deep.CutRange
import Derived.Deep.DeepCutAuto
namespace Go.Proofs.YtnkipiegjpjfbaaDoor

/-- Texts with a comma and a blank between. -/
def commas (f : Nat → List UInt8) : Nat → List UInt8
  | 0 => []
  | n + 1 => (if n = 0 then [] else commas f n ++ [44, 32]) ++ f n
def Vl.txt : Vl → List UInt8
  | .dm => []
  | .mk k m _ _ _ len _ ps => if k = 1 then Lib.itoa m else if k = 2 then (if m = 1 then [116, 114, 117, 101] else [102, 97, 108, 115, 101]) else if k = 3 then [40] ++ (commas (fun i => Vl.txt (ps i)) len ++ [41])
      else if k = 4 then [102, 117, 110, 32] ++ (Lib.itoa m ++ (if len = 0 then [] else [32, 91] ++ (commas (fun i => Vl.txt (ps i)) len ++ [93]))) else if k = 5 then [114, 101, 102, 32] ++ Lib.itoa m else []

/- Digits. -/
def dig (c : UInt8) : Prop := 48 ≤ c.toNat ∧ c.toNat ≤ 57
theorem dig_of (u : Nat) (h : u < 10) : dig (UInt8.ofNat (48 + u)) ∧ (UInt8.ofNat (48 + u)).toNat = 48 + u := by
  have e : (UInt8.ofNat (48 + u)).toNat = 48 + u := by rw [UInt8.toNat_ofNat']; omega
  unfold dig
  rw [e]
  exact ⟨by omega, rfl⟩
theorem dec_dig (u : Nat) : ∀ c ∈ Lib.decDigits u, dig c := by
  induction u using Nat.strongRecOn with
  | ind u ih =>
    rw [Lib.decDigits]
    split
    · rename_i h
      intro c hc
      simp only [List.mem_singleton] at hc
      subst hc
      exact (dig_of u h).1
    · rename_i h
      intro c hc
      rcases List.mem_append.1 hc with h1 | h1
      · exact ih (u / 10) (by omega) c h1
      · simp only [List.mem_singleton] at h1
        subst h1
        exact (dig_of (u % 10) (by omega)).1
/-- The number that digits say. -/
def dval (l : List UInt8) : Nat := l.foldl (fun n c => n * 10 + (c.toNat - 48)) 0
theorem dec_val (u : Nat) : dval (Lib.decDigits u) = u := by
  induction u using Nat.strongRecOn with
  | ind u ih =>
    rw [Lib.decDigits]
    split
    · rename_i h
      show 0 * 10 + ((UInt8.ofNat (48 + u)).toNat - 48) = u
      rw [(dig_of u h).2]; omega
    · rename_i h
      have e : dval (Lib.decDigits (u / 10) ++ [UInt8.ofNat (48 + u % 10)]) = dval (Lib.decDigits (u / 10)) * 10 + ((UInt8.ofNat (48 + u % 10)).toNat - 48) := by simp [dval, List.foldl_append]
      rw [e, ih (u / 10) (by omega), (dig_of (u % 10) (by omega)).2]
      omega
theorem dec_ne (u : Nat) : Lib.decDigits u ≠ [] := by
  rw [Lib.decDigits]; split <;> simp
/-- What ends a number. -/
def Stop (x : List UInt8) : Prop := ∀ c r, x = c :: r → ¬ dig c
theorem digits_split : ∀ (a b x y : List UInt8), (∀ c ∈ a, dig c) → (∀ c ∈ b, dig c) → Stop x → Stop y → a ++ x = b ++ y → a = b ∧ x = y
  | [], [], _, _, _, _, _, _, h => ⟨rfl, h⟩
  | [], c :: b, x, y, _, hb, hx, _, h => absurd (hb c (by simp)) (hx c (b ++ y) h)
  | c :: a, [], x, y, ha, _, _, hy, h => absurd (ha c (by simp)) (hy c (a ++ x) h.symm)
  | c :: a, d :: b, x, y, ha, hb, hx, hy, h => by
    simp only [List.cons_append, List.cons.injEq] at h
    obtain ⟨h1, h2⟩ := digits_split a b x y (fun c hc => ha c (by simp [hc])) (fun c hc => hb c (by simp [hc])) hx hy h.2
    exact ⟨by rw [h.1, h1], h2⟩
theorem dec_inj {u v : Nat} {x y : List UInt8} (hx : Stop x) (hy : Stop y) (h : Lib.decDigits u ++ x = Lib.decDigits v ++ y) : u = v ∧ x = y := by
  obtain ⟨h1, h2⟩ := digits_split _ _ x y (dec_dig u) (dec_dig v) hx hy h
  exact ⟨by rw [← dec_val u, h1, dec_val v], h2⟩
theorem dec_head (u : Nat) (x : List UInt8) : ∃ c r, Lib.decDigits u ++ x = c :: r ∧ dig c := by
  have h := dec_dig u
  cases hd : Lib.decDigits u with
  | nil => exact absurd hd (dec_ne u)
  | cons c r => exact ⟨c, r ++ x, rfl, h c (by rw [hd]; simp)⟩
theorem itoa_inj {n m : Int} {x y : List UInt8} (hx : Stop x) (hy : Stop y) (h : Lib.itoa n ++ x = Lib.itoa m ++ y) : n = m ∧ x = y := by
  have nd : ¬ dig 45 := by unfold dig; decide
  unfold Lib.itoa at h
  split at h
  · split at h
    · simp only [List.cons_append, List.cons.injEq, true_and] at h
      obtain ⟨h1, h2⟩ := dec_inj hx hy h
      exact ⟨by omega, h2⟩
    · obtain ⟨c, r, hc, hd⟩ := dec_head m.toNat y
      rw [hc] at h
      simp only [List.cons_append, List.cons.injEq] at h
      rw [← h.1] at hd
      exact absurd hd nd
  · split at h
    · obtain ⟨c, r, hc, hd⟩ := dec_head n.toNat x
      rw [hc] at h
      simp only [List.cons_append, List.cons.injEq] at h
      rw [h.1] at hd
      exact absurd hd nd
    · obtain ⟨h1, h2⟩ := dec_inj hx hy h
      exact ⟨by omega, h2⟩
/-- A number's first sign. -/
theorem itoa_head (n : Int) (x : List UInt8) : ∃ c r, Lib.itoa n ++ x = c :: r ∧ (c = 45 ∨ dig c) := by
  unfold Lib.itoa
  split
  · exact ⟨45, _, rfl, Or.inl rfl⟩
  · obtain ⟨c, r, h, hd⟩ := dec_head n.toNat x
    exact ⟨c, r, h, Or.inr hd⟩

/-- What stands behind a value. -/
def Behind (x : List UInt8) : Prop := x = [] ∨ ∃ c r, x = c :: r ∧ (c = 44 ∨ c = 41 ∨ c = 93)
theorem Behind.stop {x : List UInt8} (h : Behind x) : Stop x := by
  intro c r e
  rcases h with rfl | ⟨c', r', rfl, h⟩
  · cases e
  · simp only [List.cons.injEq] at e
    rw [← e.1]
    unfold dig
    rcases h with rfl | rfl | rfl <;> decide

/-- The texts behind the first. -/
def ctail (f : Nat → List UInt8) (a : Nat) : Nat → List UInt8
  | 0 => []
  | n + 1 => [44, 32] ++ (f a ++ ctail f (a + 1) n)
theorem ctail_snoc (f : Nat → List UInt8) (n : Nat) : ∀ a, ctail f a (n + 1) = ctail f a n ++ ([44, 32] ++ f (a + n)) := by
  induction n with
  | zero => intro a; simp [ctail]
  | succ n ih =>
    intro a
    rw [show ctail f a (n + 1 + 1) = [44, 32] ++ (f a ++ ctail f (a + 1) (n + 1)) from rfl, ih (a + 1), show ctail f a (n + 1) = [44, 32] ++ (f a ++ ctail f (a + 1) n) from rfl, show a + 1 + n = a + (n + 1) by omega]
    simp only [List.append_assoc]
theorem commas_left (f : Nat → List UInt8) (n : Nat) : commas f (n + 1) = f 0 ++ ctail f 1 n := by
  induction n with
  | zero => simp [commas, ctail]
  | succ n ih =>
    rw [show commas f (n + 1 + 1) = (commas f (n + 1) ++ [44, 32]) ++ f (n + 1) from rfl, ih, ctail_snoc, Nat.add_comm 1 n]
    simp only [List.append_assoc]
theorem tail_behind (f : Nat → List UInt8) (a n : Nat) (c : UInt8) (hc : c = 41 ∨ c = 93) (x : List UInt8) : Behind (ctail f a n ++ (c :: x)) := by
  cases n with
  | zero => exact Or.inr ⟨c, x, rfl, Or.inr hc⟩
  | succ n => exact Or.inr ⟨44, _, rfl, Or.inl rfl⟩

/-- What is said of one value: its text tells it. -/
def Tells (v : Vl) : Prop := ∀ (u : Vl) (x y : List UInt8), v.fm = true → u.fm = true → Behind x → Behind y → v.txt ++ x = u.txt ++ y → v.same u = true ∧ x = y

theorem tail_inj (f g : Nat → Vl) (c : UInt8) (hc : c = 41 ∨ c = 93) : ∀ (n n' a : Nat) (x y : List UInt8), (∀ i, i < n → Tells (f (a + i)) ∧ (f (a + i)).fm = true) → (∀ i, i < n' → (g (a + i)).fm = true) →
    ctail (fun i => (f i).txt) a n ++ (c :: x) = ctail (fun i => (g i).txt) a n' ++ (c :: y) → n = n' ∧ (∀ i, i < n → (f (a + i)).same (g (a + i)) = true) ∧ x = y
  | 0, 0, _, x, y, _, _, h => by
    simp only [ctail, List.nil_append, List.cons.injEq, true_and] at h
    exact ⟨rfl, fun i hi => absurd hi (Nat.not_lt_zero _), h⟩
  | 0, n' + 1, _, x, y, _, _, h => by
    simp only [ctail, List.nil_append, List.cons_append, List.cons.injEq] at h
    rcases hc with rfl | rfl <;> exact absurd h.1 (by decide)
  | n + 1, 0, _, x, y, _, _, h => by
    simp only [ctail, List.nil_append, List.cons_append, List.cons.injEq] at h
    rcases hc with rfl | rfl <;> exact absurd h.1 (by decide)
  | n + 1, n' + 1, a, x, y, hf, hg, h => by
    simp only [ctail, List.cons_append, List.nil_append, List.append_assoc, List.cons.injEq, true_and] at h
    obtain ⟨h1, h2⟩ := (hf 0 (by omega)).1 (g a) _ _ (hf 0 (by omega)).2 (hg 0 (by omega)) (tail_behind _ _ _ c hc _) (tail_behind _ _ _ c hc _) h
    obtain ⟨h3, h4, h5⟩ := tail_inj f g c hc n n' (a + 1) x y (fun i hi => by have := hf (i + 1) (by omega); rwa [show a + (i + 1) = a + 1 + i by omega] at this) (fun i hi => by have := hg (i + 1) (by omega); rwa [show a + (i + 1) = a + 1 + i by omega] at this) h2
    refine ⟨by omega, fun i hi => ?_, h5⟩
    cases i with
    | zero => exact h1
    | succ i => have := h4 i (by omega); rwa [show a + 1 + i = a + (i + 1) by omega] at this
theorem commas_inj (f g : Nat → Vl) (c : UInt8) (hc : c = 41 ∨ c = 93) (n n' : Nat) (x y : List UInt8) (hn : 0 < n) (hn' : 0 < n') (hf : ∀ i, i < n → Tells (f i) ∧ (f i).fm = true) (hg : ∀ i, i < n' → (g i).fm = true)
    (h : commas (fun i => (f i).txt) n ++ (c :: x) = commas (fun i => (g i).txt) n' ++ (c :: y)) : n = n' ∧ (∀ i, i < n → (f i).same (g i) = true) ∧ x = y := by
  obtain ⟨m, rfl⟩ : ∃ m, n = m + 1 := ⟨n - 1, by omega⟩
  obtain ⟨m', rfl⟩ : ∃ m', n' = m' + 1 := ⟨n' - 1, by omega⟩
  rw [commas_left, commas_left, List.append_assoc, List.append_assoc] at h
  obtain ⟨h1, h2⟩ := (hf 0 (by omega)).1 (g 0) _ _ (hf 0 (by omega)).2 (hg 0 (by omega)) (tail_behind _ _ _ c hc _) (tail_behind _ _ _ c hc _) h
  obtain ⟨h3, h4, h5⟩ := tail_inj f g c hc m m' 1 x y (fun i hi => by have := hf (i + 1) (by omega); rwa [Nat.add_comm i 1] at this) (fun i hi => by have := hg (i + 1) (by omega); rwa [Nat.add_comm i 1] at this) h2
  refine ⟨by omega, fun i hi => ?_, h5⟩
  cases i with
  | zero => exact h1
  | succ i => have := h4 i (by omega); rwa [Nat.add_comm 1 i] at this

/-- The Kind by the first signs. -/
def kindOf : List UInt8 → Int
  | c :: d :: _ => if c = 40 then 3 else if c = 114 then 5 else if c = 116 then 2 else if c = 102 then (if d = 97 then 2 else 4) else 1
  | _ => 1
theorem kind_num (n : Int) (x : List UInt8) : kindOf (Lib.itoa n ++ x) = 1 := by
  obtain ⟨c, r, h, hc⟩ := itoa_head n x
  rw [h]
  cases r with
  | nil => rfl
  | cons d r =>
    have h1 : c ≠ 40 ∧ c ≠ 114 ∧ c ≠ 116 ∧ c ≠ 102 := by
      refine ⟨?_, ?_, ?_, ?_⟩ <;> (rintro rfl; rcases hc with h | h; exact absurd h (by decide); unfold dig at h; exact absurd h (by decide))
    show (if c = 40 then (3 : Int) else if c = 114 then 5 else if c = 116 then 2 else if c = 102 then (if d = 97 then 2 else 4) else 1) = 1
    rw [if_neg h1.1, if_neg h1.2.1, if_neg h1.2.2.1, if_neg h1.2.2.2]
theorem nd_kind {k m : Int} {len : Nat} (h : ndB k m len = true) : k = 1 ∨ k = 2 ∨ k = 3 ∨ k = 4 ∨ k = 5 := by
  unfold ndB at h
  repeat (split at h; · simp_all)
  cases h
theorem fm_parts {k m : Int} {ao : Option Addr} {b o len cap : Nat} {ps : Nat → Vl} (h : Vl.fm (.mk k m ao b o len cap ps) = true) : ndB k m len = true ∧ ∀ i, i < len → (ps i).fm = true := by
  have h' : (ndB k m len && decide (∀ i, i < len → Vl.fm (ps i) = true)) = true := h
  rw [Bool.and_eq_true, decide_eq_true_eq] at h'
  exact h'
theorem kind_txt (v : Vl) (x : List UInt8) (h : v.fm = true) : kindOf (v.txt ++ x) = v.k := by
  cases v with
  | dm => cases h
  | mk k m ao b o len cap ps =>
    rcases nd_kind (fm_parts h).1 with rfl | rfl | rfl | rfl | rfl
    · exact kind_num m x
    · show kindOf ((if m = 1 then [116, 114, 117, 101] else [102, 97, 108, 115, 101]) ++ x) = 2
      split <;> rfl
    · show kindOf ([40] ++ (commas (fun i => (ps i).txt) len ++ [41]) ++ x) = 3
      cases hq : commas (fun i => (ps i).txt) len ++ [41] with
      | nil => simp at hq
      | cons d r => rfl
    · rfl
    · rfl
theorem same_mk {k m : Int} {ao : Option Addr} {b o len cap : Nat} {ps : Nat → Vl} {u : Vl} (h1 : k = u.k) (h2 : m = u.m) (h3 : len = u.len) (h4 : ∀ i, i < len → (ps i).same (u.ps i) = true) : (Vl.mk k m ao b o len cap ps).same u = true := by
  show ((((k == u.k) && (m == u.m)) && (len == u.len)) && decide (∀ i, i < len → (ps i).same (u.ps i) = true)) = true
  simp only [Bool.and_eq_true, beq_iff_eq, decide_eq_true_eq]
  exact ⟨⟨⟨h1, h2⟩, h3⟩, h4⟩

theorem txt_tells : ∀ v : Vl, Tells v
  | .dm => fun _ _ _ h => by cases h
  | .mk k m ao b o len cap ps => by
    have ih : ∀ i, Tells (ps i) := fun i => txt_tells (ps i)
    intro u x y hv hu hx hy h
    have hk : k = u.k := by
      have := congrArg kindOf h
      rwa [kind_txt _ x hv, kind_txt u y hu] at this
    cases u with
    | dm => cases hu
    | mk k' m' ao' b' o' len' cap' ps' =>
      have hk' : k = k' := hk
      subst hk'
      obtain ⟨n1, p1⟩ := fm_parts hv
      obtain ⟨n2, p2⟩ := fm_parts hu
      rcases nd_kind n1 with rfl | rfl | rfl | rfl | rfl
      · have h' : Lib.itoa m ++ x = Lib.itoa m' ++ y := h
        obtain ⟨e1, e2⟩ := itoa_inj hx.stop hy.stop h'
        have l1 : len = 0 := by simpa [ndB] using n1
        have l2 : len' = 0 := by simpa [ndB] using n2
        exact ⟨same_mk rfl e1 (l1.trans l2.symm) (fun i hi => by omega), e2⟩
      · have h' : (if m = 1 then [116, 114, 117, 101] else [102, 97, 108, 115, 101]) ++ x = (if m' = 1 then [116, 114, 117, 101] else [102, 97, 108, 115, 101]) ++ y := h
        have l1 : len = 0 ∧ (m = 0 ∨ m = 1) := by simpa [ndB] using n1
        have l2 : len' = 0 ∧ (m' = 0 ∨ m' = 1) := by simpa [ndB] using n2
        have key : m = m' ∧ x = y := by
          rcases l1.2 with rfl | rfl <;> rcases l2.2 with rfl | rfl <;> simp at h' ⊢ <;> exact h'
        exact ⟨same_mk rfl key.1 (l1.1.trans l2.1.symm) (fun i hi => by omega), key.2⟩
      · have h' : [40] ++ (commas (fun i => (ps i).txt) len ++ [41]) ++ x = [40] ++ (commas (fun i => (ps' i).txt) len' ++ [41]) ++ y := h
        have l1 : len = 2 ∧ m = 0 := by simpa [ndB] using n1
        have l2 : len' = 2 ∧ m' = 0 := by simpa [ndB] using n2
        simp only [List.append_assoc, List.cons_append, List.nil_append, List.cons.injEq, true_and] at h'
        obtain ⟨e1, e2, e3⟩ := commas_inj ps ps' 41 (Or.inl rfl) len len' x y (by omega) (by omega) (fun i hi => ⟨ih i, p1 i hi⟩) p2 h'
        exact ⟨same_mk rfl (l1.2.trans l2.2.symm) e1 e2, e3⟩
      · have h' : [102, 117, 110, 32] ++ (Lib.itoa m ++ (if len = 0 then [] else [32, 91] ++ (commas (fun i => (ps i).txt) len ++ [93]))) ++ x = [102, 117, 110, 32] ++ (Lib.itoa m' ++ (if len' = 0 then [] else [32, 91] ++ (commas (fun i => (ps' i).txt) len' ++ [93]))) ++ y := h
        simp only [List.append_assoc, List.cons_append, List.nil_append, List.cons.injEq, true_and] at h'
        have st : ∀ (q : List UInt8) (n : Nat) (z : List UInt8), Behind z → Stop ((if n = 0 then [] else 32 :: 91 :: q) ++ z) := by
          intro q n z hz
          split
          · exact hz.stop
          · intro c r e
            simp only [List.cons_append, List.cons.injEq] at e
            rw [← e.1]
            unfold dig; decide
        obtain ⟨e1, e2⟩ := itoa_inj (st _ len x hx) (st _ len' y hy) h'
        have nb : ∀ (q : List UInt8) (z : List UInt8), Behind z → z ≠ 32 :: q := by
          rintro q z (rfl | ⟨c, r, rfl, hc⟩) e
          · cases e
          · simp only [List.cons.injEq] at e
            rcases hc with rfl | rfl | rfl <;> exact absurd e.1 (by decide)
        by_cases l1 : len = 0
        · by_cases l2 : len' = 0
          · rw [if_pos l1, if_pos l2] at e2
            exact ⟨same_mk rfl e1 (l1.trans l2.symm) (fun i hi => by omega), e2⟩
          · rw [if_pos l1, if_neg l2] at e2
            exact absurd e2 (nb _ x hx)
        · by_cases l2 : len' = 0
          · rw [if_neg l1, if_pos l2] at e2
            exact absurd e2.symm (nb _ y hy)
          · rw [if_neg l1, if_neg l2] at e2
            simp only [List.append_assoc, List.cons_append, List.nil_append, List.cons.injEq, true_and] at e2
            obtain ⟨e3, e4, e5⟩ := commas_inj ps ps' 93 (Or.inr rfl) len len' x y (by omega) (by omega) (fun i hi => ⟨ih i, p1 i hi⟩) p2 e2
            exact ⟨same_mk rfl e1 e3 e4, e5⟩
      · have h' : [114, 101, 102, 32] ++ Lib.itoa m ++ x = [114, 101, 102, 32] ++ Lib.itoa m' ++ y := h
        simp only [List.cons_append, List.nil_append, List.cons.injEq, true_and] at h'
        obtain ⟨e1, e2⟩ := itoa_inj hx.stop hy.stop h'
        have l1 : len = 0 := by unfold ndB at n1; simp at n1; exact n1.1.1
        have l2 : len' = 0 := by unfold ndB at n2; simp at n2; exact n2.1.1
        exact ⟨same_mk rfl e1 (l1.trans l2.symm) (fun i hi => by omega), e2⟩

theorem commas_congr (f g : Nat → List UInt8) (n : Nat) (h : ∀ i, i < n → f i = g i) : commas f n = commas g n := by
  induction n with
  | zero => rfl
  | succ n ih => simp only [commas]; rw [ih (fun i hi => h i (by omega)), h n (by omega)]
/-- What is the same has one text. -/
theorem same_txt : ∀ (v u : Vl), v.fm = true → u.fm = true → v.same u = true → v.txt = u.txt
  | .dm, _, h, _, _ => by cases h
  | .mk k m ao b o len cap ps, u, hv, hu, h => by
    have ih := fun i => same_txt (ps i)
    cases u with
    | dm => cases hu
    | mk k' m' ao' b' o' len' cap' ps' =>
      have h' : ((((k == k') && (m == m')) && (len == len')) && decide (∀ i, i < len → (ps i).same (ps' i) = true)) = true := h
      simp only [Bool.and_eq_true, beq_iff_eq, decide_eq_true_eq] at h'
      obtain ⟨⟨⟨rfl, rfl⟩, rfl⟩, hp⟩ := h'
      have e := commas_congr (fun i => (ps i).txt) (fun i => (ps' i).txt) len (fun i hi => ih i (ps' i) ((fm_parts hv).2 i hi) ((fm_parts hu).2 i hi) (hp i hi))
      simp only [Vl.txt]
      rw [e]
/-- Two formed values have one text just if they are the same. -/
theorem txt_same (v u : Vl) (hv : v.fm = true) (hu : u.fm = true) : (decide (v.txt = u.txt)) = v.same u := by
  cases hs : v.same u with
  | true => exact decide_eq_true (same_txt v u hv hu hs)
  | false =>
    refine decide_eq_false (fun h => ?_)
    have := (txt_tells v u [] [] hv hu (Or.inl rfl) (Or.inl rfl) (by rw [h])).1
    rw [hs] at this
    cases this
theorem txt_ne (v : Vl) (hv : v.fm = true) : v.txt ≠ [] := by
  intro h
  have h1 := kind_txt v [] hv
  cases v with
  | dm => cases hv
  | mk k m ao b o len cap ps =>
    rcases nd_kind (fm_parts hv).1 with rfl | rfl | rfl | rfl | rfl
    · obtain ⟨c, r, hc, _⟩ := itoa_head m []
      have : Lib.itoa m = [] := h
      rw [this] at hc; cases hc
    · have h' : (if m = 1 then [116, 114, 117, 101] else [102, 97, 108, 115, 101]) = ([] : List UInt8) := h
      split at h' <;> cases h'
    · cases h
    · cases h
    · cases h
end Go.Proofs.YtnkipiegjpjfbaaDoor

/- Layer 3: the walks of value.write and writeAll: a value's text. -/
namespace Go.Proofs.YtnkipiegjpjfbaaDoor
open Go.RowKit

/-- The table of powers of ten is as the library's text lays it. -/
def Tab (w : World) : Prop := Lib.TabIs Tryd.prog w "internal/strconv.uint64pow10" .u64 Lib.pow10Tab
theorem Tab.kept {w w' : World} (h : Tab w) (hb : Below w.heap.size w w') : Tab w' := by
  unfold Tab Lib.TabIs World.var? at *
  cases hg : Tryd.prog.globalNamed "internal/strconv.uint64pow10" with
  | none => rw [hg] at h; cases h
  | some g =>
    rw [hg] at h
    have hlt : g < w.heap.size := by
      rcases Nat.lt_or_ge g w.heap.size with h' | h'
      · exact h'
      · simp [Array.getElem?_eq_none h'] at h
    simp only [Option.bind_some] at h ⊢
    rw [hb.block g hlt]
    exact h
theorem fmtInt_any (n : Int) (h : -9223372036854775808 ≤ n ∧ n ≤ 9223372036854775807) (w : World) (ht : Tab w) :
    Calls Tryd.prog 47 #[.int .i64 n, .int .i64 10] w fun e w' => e = .returned (.string ⟨(Lib.itoa n).toArray⟩) ∧ Below w.heap.size w w' := by
  refine (Tryd.strconv_FormatInt_10 n h.1 h.2 w ht).mono ?_
  rintro e w' ⟨rfl, k, os, rfl⟩
  exact ⟨rfl, Lib.below_grow w.heap.size w (Nat.le_refl _) k os⟩

/-- Each number of a value is an int64. -/
def Vl.rng : Vl → Prop
  | .dm => True
  | .mk _ m _ _ _ len _ ps => (-9223372036854775808 ≤ m ∧ m ≤ 9223372036854775807) ∧ ∀ i, i < len → Vl.rng (ps i)

/-- What write does with one value. -/
def WC (v : Vl) : Prop := ∀ (w0 w : World) (B b : Nat) (l : List UInt8), v.At w0 → Tab w0 → w0.heap.size ≤ B → Below w0.heap.size w0 w → B ≤ w.heap.size → Bld w B b l → v.fm = true → v.rng → l.length + 40 * v.nodes ≤ 1000000000 →
  Calls Tryd.prog 28 #[.pointer (some ⟨b, 0, none⟩), .agg #[.int .i64 v.k, .int .i64 v.m, .slice v.ao v.len v.cap]] w fun e w' => e = .returned (.tuple #[]) ∧ Bld w' B b (l ++ v.txt) ∧ Below B w w' ∧ KT w w' b

theorem commas_len (f : Nat → List UInt8) (g : Nat → Nat) (n : Nat) (h : ∀ i, i < n → (f i).length + 2 ≤ g i) : (commas f n).length ≤ sumTo g n := by
  induction n with
  | zero => exact Nat.zero_le _
  | succ n ih =>
    have h1 := ih (fun i hi => h i (by omega))
    have h2 := h n (by omega)
    show _ ≤ sumTo g n + g n
    simp only [commas, List.length_append]
    split
    · simp; omega
    · simp; omega
theorem sumTo_mul (g : Nat → Nat) (n : Nat) : sumTo (fun i => 40 * g i) n = 40 * sumTo g n := by
  induction n with
  | zero => rfl
  | succ n ih => show sumTo (fun i => 40 * g i) n + 40 * g n = 40 * (sumTo g n + g n); rw [ih]; omega
theorem txt_len : ∀ v : Vl, v.fm = true → v.rng → v.txt.length + 2 ≤ 40 * v.nodes
  | .dm => fun h => by cases h
  | .mk k m ao b o len cap ps => by
    intro hf hr
    have ih := fun i => txt_len (ps i)
    obtain ⟨n1, p1⟩ := fm_parts hf
    have hc : (commas (fun i => (ps i).txt) len).length ≤ 40 * sumTo (fun i => (ps i).nodes) len := by
      rw [← sumTo_mul]
      exact commas_len _ _ len (fun i hi => ih i (p1 i hi) (hr.2 i hi))
    have hi := Lib.itoa_length_le m hr.1.1 hr.1.2
    show _ ≤ 40 * (1 + sumTo (fun i => (ps i).nodes) len)
    rcases nd_kind n1 with rfl | rfl | rfl | rfl | rfl
    · show (Lib.itoa m).length + 2 ≤ _; omega
    · show (if m = 1 then [116, 114, 117, 101] else [102, 97, 108, 115, 101] : List UInt8).length + 2 ≤ _
      split <;> simp <;> omega
    · show ([40] ++ (commas (fun i => (ps i).txt) len ++ [41])).length + 2 ≤ _
      simp only [List.length_append, List.length_cons, List.length_nil]; omega
    · show ([102, 117, 110, 32] ++ (Lib.itoa m ++ (if len = 0 then [] else [32, 91] ++ (commas (fun i => (ps i).txt) len ++ [93])))).length + 2 ≤ _
      split <;> simp only [List.length_append, List.length_cons, List.length_nil] <;> omega
    · show ([114, 101, 102, 32] ++ Lib.itoa m).length + 2 ≤ _
      simp only [List.length_append, List.length_cons, List.length_nil]; omega

set_option maxRecDepth 100000 in
set_option maxHeartbeats 4000000 in
theorem wall_any (ao : Option Addr) (b0 o len cap : Nat) (ps : Nat → Vl) (op cl : ByteArray) (w0 w : World) (B b : Nat) (l : List UInt8)
    (hnil : 0 < len → ao = some ⟨b0, o, none⟩) (hbd : len ≤ 9223372036854775807) (hp : ∀ i, i < len → C3 w0 b0 (o + i * 3) (ps i) ∧ (ps i).At w0) (hwc : ∀ i, i < len → WC (ps i) ∧ (ps i).fm = true ∧ (ps i).rng)
    (hT : Tab w0) (h0B : w0.heap.size ≤ B) (hb0 : Below w0.heap.size w0 w) (hBw : B ≤ w.heap.size) (hBl : Bld w B b l) (hlen : l.length + 10 + 40 * sumTo (fun i => (ps i).nodes) len ≤ 1000000000) (hop : op.size ≤ 2) (hcl : cl.size ≤ 2) (hl0 : 0 < len) :
    Calls Tryd.prog 49 #[.pointer (some ⟨b, 0, none⟩), .string op, .slice ao len cap, .string cl] w fun e w' => e = .returned (.tuple #[]) ∧ Bld w' B b (l ++ (op.data.toList ++ (commas (fun i => (ps i).txt) len ++ cl.data.toList))) ∧ Below B w w' ∧ KT w w' b := by
  have HBl : Hid (Bld w B b l) := hBl
  have HP : Hid (∀ i, i < len → C3 w0 b0 (o + i * 3) (ps i) ∧ (ps i).At w0) := hp
  have HWC : Hid (∀ i, i < len → WC (ps i) ∧ (ps i).fm = true ∧ (ps i).rng) := hwc
  have HT : Hid (Tab w0) := hT
  have HB0 : Hid (Below w0.heap.size w0 w) := hb0
  have HLen : Hid (l.length + 10 + 40 * sumTo (fun i => (ps i).nodes) len ≤ 1000000000) := hlen
  have hll : l.length ≤ 1000000000 := by omega
  have hos : op.data.toList.length = op.size := by rw [← Lib.size_eq]
  have hcs : cl.data.toList.length = cl.size := by rw [← Lib.size_eq]
  have HOS : Hid (op.data.toList.length = op.size ∧ cl.data.toList.length = cl.size) := ⟨hos, hcs⟩
  have HCl : Hid (∀ k, k ≤ len → (commas (fun i => (ps i).txt) k).length ≤ 40 * sumTo (fun i => (ps i).nodes) k) := fun k hk => by
    rw [← sumTo_mul]
    exact commas_len _ _ k (fun i hi => txt_len _ (hwc i (by omega)).2.1 (hwc i (by omega)).2.2)
  rw [hnil hl0]
  clear hBl hp hwc hT hb0 hlen hos hcs hnil
  go_enter Tryd.func49, Tryd.ntmps49
  go_wp2_with (go_at_call 46; refine (wstr_any B b l op w HBl.out (by omega) hBw).mono ?_; rintro e w1 ⟨rfl, h1, hb1, hk1⟩; have H1 : Hid (Bld w1 B b (l ++ op.data.toList)) := h1; have HB1 : Hid (Below B w w1 ∧ KT w w1 b) := ⟨hb1, hk1⟩; clear h1 hb1 hk1)
  go_loopw [15] (fun i wr => ∃ k : Nat, k ≤ len ∧ i = .int .i64 k ∧ Bld wr B b (l ++ op.data.toList ++ commas (fun i => (ps i).txt) k) ∧ Below B w wr ∧ KT w wr b) (fun i _ => len - (intOf i).toNat)
  case atStart => exact ⟨0, Nat.zero_le _, rfl, by simpa [commas] using H1.out, HB1.out.1, HB1.out.2⟩
  case round =>
    obtain ⟨k, hk, rfl, hbl, hbw, hkt⟩ := hrel
    have HBk : Hid (Bld wr B b (l ++ op.data.toList ++ commas (fun i => (ps i).txt) k)) := hbl
    have HW : Hid (Below B w wr ∧ KT w wr b) := ⟨hbw, hkt⟩
    have hws := hbw.size
    have HCk : Hid ((l ++ op.data.toList ++ commas (fun i => (ps i).txt) k).length ≤ l.length + 2 + 40 * sumTo (fun i => (ps i).nodes) k) := by
      show _ ≤ _
      rw [List.length_append, List.length_append, HOS.out.1]
      have := HCl.out k hk
      omega
    clear hbl hbw hkt H1 HB1
    by_cases hlt : k < len
    · have HBr : Hid (Below w0.heap.size w0 wr) := HB0.out.trans (HW.out.1.mono h0B)
      obtain ⟨u, hu⟩ : ∃ u, u = ps k := ⟨_, rfl⟩
      have HU : Hid (u = ps k) := hu
      have HPk : Hid (C3 w0 b0 (o + k * 3) u ∧ u.At w0) := by show _ ∧ _; rw [hu]; exact HP.out k hlt
      have HWk : Hid (WC u ∧ u.fm = true ∧ u.rng) := by show _ ∧ _ ∧ _; rw [hu]; exact HWC.out k hlt
      have hC := HPk.out.1.kept HBr.out
      have c0 := hC.c0
      have c1 := hC.c1
      have c2 := hC.c2
      clear hC
      have HM : Hid (sumTo (fun i => (ps i).nodes) k + u.nodes ≤ sumTo (fun i => (ps i).nodes) len) := by show _ ≤ _; rw [hu]; exact sumTo_mono (fun i => (ps i).nodes) (show k + 1 ≤ len by omega)
      clear hu
      have HV : Hid (Bv (wr.alloc (.cells #[.int .i64 u.k, .int .i64 u.m, .slice u.ao u.len u.cap] 24)) wr.heap.size u) := Bv.new wr u
      have HVb : Hid (Below wr.heap.size wr (wr.alloc (.cells #[.int .i64 u.k, .int .i64 u.m, .slice u.ao u.len u.cap] 24))) := (Below.refl _ _).alloc (Nat.le_refl _) _
      have HVh : Hid ((wr.alloc (.cells #[.int .i64 u.k, .int .i64 u.m, .slice u.ao u.len u.cap] 24)).heap[wr.heap.size]? = some (.cells #[.int .i64 u.k, .int .i64 u.m, .slice u.ao u.len u.cap] 24 (0, 0))) := heap_alloc_new _ _
      go_upto_region 4 with fail
      generalize wr.alloc (.cells #[.int .i64 u.k, .int .i64 u.m, .slice u.ao u.len u.cap] 24) = wv at *
      clear c0 c1 c2
      have hBb : b < wr.heap.size := by
        obtain ⟨p, v, _, hh⟩ := HBk.out.at
        rcases Nat.lt_or_ge b wr.heap.size with h' | h'
        · exact h'
        · rw [Array.getElem?_eq_none h'] at hh; cases hh
      have HBv : Hid (Bld wv B b (l ++ op.data.toList ++ commas (fun i => (ps i).txt) k)) := HBk.out.kept HVb.out
      have hvs := HVb.out.size
      have HVk : Hid (Below B w wv ∧ KT w wv b) := ⟨HW.out.1.trans (HVb.out.mono (by omega)), HW.out.2.trans (KT.bel HVb.out b)⟩
      clear HBk HW HBr
      by_cases h0 : k = 0
      · have d0 := HV.out.c0
        have d1 := HV.out.c1
        have d2 := HV.out.c2
        go_wp2_with (go_at_call 28; refine (HWk.out.1 w0 wv B b _ HPk.out.2 HT.out h0B (HB0.out.trans (HVk.out.1.mono h0B)) (by omega) HBv.out HWk.out.2.1 HWk.out.2.2 (by have := HCk.out; have := HM.out; have := HLen.out; omega)).mono ?_; rintro e w3 ⟨rfl, h3, hb3, hk3⟩; have H3 : Hid (Bld w3 B b (l ++ op.data.toList ++ commas (fun i => (ps i).txt) k ++ u.txt)) := h3; have HB3 : Hid (Below B w w3 ∧ KT w w3 b) := ⟨HVk.out.1.trans hb3, HVk.out.2.trans hk3⟩; clear h3 hb3 hk3)
        go_roundw
        case rel =>
          refine ⟨k + 1, by omega, by go_num, ?_, HB3.out.1, HB3.out.2⟩
          have h := H3.out
          rw [show commas (fun i => (ps i).txt) (k + 1) = commas (fun i => (ps i).txt) k ++ (ps k).txt by subst h0; simp [commas], ← List.append_assoc, ← HU.out]
          exact h
        case measure => simp [intOf]; omega
      · go_wp2_with (first
          | (go_at_call 46; refine (wstr_any B b _ ⟨#[44, 32]⟩ wv HBv.out (by have := HCk.out; have := HM.out; have := HLen.out; show _ + 2 ≤ _; omega) (by omega)).mono ?_; rintro e w2 ⟨rfl, h2, hb2, hk2⟩; have H2 : Hid (Bld w2 B b (l ++ op.data.toList ++ commas (fun i => (ps i).txt) k ++ [44, 32])) := h2; have HB2 : Hid (Below B w w2 ∧ KT w w2 b) := ⟨HVk.out.1.trans hb2, HVk.out.2.trans hk2⟩; have HX : Hid (w2.heap[wr.heap.size]? = some (.cells #[.int .i64 u.k, .int .i64 u.m, .slice u.ao u.len u.cap] 24 (0, 0))) := (hk2 _ _ _ _ (by decide) (by omega) HVh.out).trans HVh.out; have d0 : w2.cell? ⟨wr.heap.size, 0, none⟩ = some (.int .i64 u.k) := (by rw [Lib.cell_of_heap HX.out]; rfl); have d1 : w2.cell? ⟨wr.heap.size, 1, none⟩ = some (.int .i64 u.m) := (by rw [Lib.cell_of_heap HX.out]; rfl); have d2 : w2.cell? ⟨wr.heap.size, 2, none⟩ = some (.slice u.ao u.len u.cap) := (by rw [Lib.cell_of_heap HX.out]; rfl); have hs2 := hb2.size; clear h2 hb2 hk2)
          | (go_at_call 28; refine (HWk.out.1 w0 w2 B b _ HPk.out.2 HT.out h0B (HB0.out.trans (HB2.out.1.mono h0B)) (by omega) H2.out HWk.out.2.1 HWk.out.2.2 (by have := HCk.out; have := HM.out; have := HLen.out; rw [List.length_append]; show _ + 2 + _ ≤ _; omega)).mono ?_; rintro e w3 ⟨rfl, h3, hb3, hk3⟩; have H3 : Hid (Bld w3 B b (l ++ op.data.toList ++ commas (fun i => (ps i).txt) k ++ [44, 32] ++ u.txt)) := h3; have HB3 : Hid (Below B w w3 ∧ KT w w3 b) := ⟨HB2.out.1.trans hb3, HB2.out.2.trans hk3⟩; clear h3 hb3 hk3))
        go_roundw
        case rel =>
          refine ⟨k + 1, by omega, by go_num, ?_, HB3.out.1, HB3.out.2⟩
          have h := H3.out
          rw [show commas (fun i => (ps i).txt) (k + 1) = commas (fun i => (ps i).txt) k ++ [44, 32] ++ (ps k).txt by simp only [commas]; rw [if_neg h0], ← List.append_assoc, ← List.append_assoc, ← HU.out]
          exact h
        case measure => simp [intOf]; omega
    · have HK : Hid (k = len) := by show k = len; omega
      go_wp2_with (go_at_call 46; refine (wstr_any B b _ cl wr HBk.out (by have := HCk.out; have := HLen.out; rw [HK.out] at *; omega) (by omega)).mono ?_; rintro e w2 ⟨rfl, h2, hb2, hk2⟩; have H2 : Hid (Bld w2 B b (l ++ op.data.toList ++ commas (fun i => (ps i).txt) k ++ cl.data.toList)) := h2; have HB2 : Hid (Below B w w2 ∧ KT w w2 b) := ⟨HW.out.1.trans hb2, HW.out.2.trans hk2⟩; clear h2 hb2 hk2)
      go_end0
      refine ⟨rfl, ?_, HB2.out.1, HB2.out.2⟩
      have h := H2.out
      rw [HK.out] at h
      simpa only [List.append_assoc] using h
end Go.Proofs.YtnkipiegjpjfbaaDoor

/- Layer 3: the counts of nodes. -/
namespace Go.Proofs.YtnkipiegjpjfbaaDoor
open Go.RowKit

set_option maxHeartbeats 2000000 in
theorem rvNodes_any : ∀ (t : Vl) (w : World), t.At w → Calls Tryd.prog 17 #[.agg #[.int .i64 t.k, .int .i64 t.m, .slice t.ao t.len t.cap]] w fun e w' => e = .returned (.int .i64 (min t.nodes 2001 : Nat)) ∧ Below w.heap.size w w' := by
  intro t
  induction t with
  | dm => intro w hAt; exact hAt.elim
  | mk k m ao b o len cap ps ih =>
    intro w hAt
    show Calls Tryd.prog 17 #[.agg #[.int .i64 k, .int .i64 m, .slice ao len cap]] w fun r w' => r = .returned (.int .i64 (min (1 + sumTo (fun i => (ps i).nodes) len) 2001 : Nat)) ∧ Below w.heap.size w w'
    have X0 := Bv.new w (.mk k m ao b o len cap ps)
    have hb : len ≤ 9223372036854775807 := hAt.bound
    have hnil : 0 < len → ao = some ⟨b, o, none⟩ := hAt.nil
    have hA1 := hAt.kept (below_alloc w (.cells #[.int .i64 k, .int .i64 m, .slice ao len cap] 24))
    have B0 := below_alloc w (.cells #[.int .i64 k, .int .i64 m, .slice ao len cap] 24)
    have HS : Hid (Bv (w.alloc (.cells #[.int .i64 k, .int .i64 m, .slice ao len cap] 24)) w.heap.size (.mk k m ao b o len cap ps) ∧ Vl.At (w.alloc (.cells #[.int .i64 k, .int .i64 m, .slice ao len cap] 24)) (.mk k m ao b o len cap ps) ∧ Below w.heap.size w (w.alloc (.cells #[.int .i64 k, .int .i64 m, .slice ao len cap] 24))) := ⟨X0, hA1, B0⟩
    clear X0 hA1 B0 hAt
    go_enter Tryd.func17, Tryd.ntmps17
    go_wp2
    go_loopw [3, 4] (fun mm i wr => ∃ (q j : Nat), j ≤ len ∧ mm = .int .i64 q ∧ i = .int .i64 j ∧ q ≤ 4001 ∧ min q 2001 = min (1 + sumTo (fun i => (ps i).nodes) j) 2001 ∧ Bv wr w.heap.size (.mk k m ao b o len cap ps) ∧ Vl.At wr (.mk k m ao b o len cap ps) ∧ Below w.heap.size w wr) (fun _ i _ => len - (intOf i).toNat)
    case atStart => exact ⟨1, 0, Nat.zero_le _, rfl, rfl, by omega, rfl, HS.out⟩
    case round =>
      obtain ⟨q, j, hj, rfl, rfl, hq, hm, hX, hA, hB⟩ := hrel
      clear HS
      have x2 : wr.cell? ⟨w.heap.size, 2, none⟩ = some (.slice ao len cap) := hX.c2
      have HS : Hid (Bv wr w.heap.size (.mk k m ao b o len cap ps) ∧ Vl.At wr (.mk k m ao b o len cap ps) ∧ Below w.heap.size w wr) := ⟨hX, hA, hB⟩
      have HQ : Hid (min q 2001 = min (1 + sumTo (fun i => (ps i).nodes) j) 2001) := hm
      clear hX hm hB
      by_cases hlt : j < len
      · have ij : (j : Int) < len := by omega
        by_cases h40 : q ≤ 2000
        · have d40 : decide ((q : Int) ≤ 2000) = true := by simp; omega
          have a0 := hnil (by omega)
          subst a0
          have C : C3 wr b (o + j * 3) (ps j) := hA.cells hlt
          have P : (ps j).At wr := hA.part hlt
          have y0 := C.c0
          have y1 := C.c1
          have y2 := C.c2
          clear hA C
          go_wp2_with fail
          refine (ih j _ P).mono ?_
          rintro r w1 ⟨rfl, hb1⟩
          clear y0 y1 y2 x2
          go_wp2
          go_roundw
          case rel => exact ⟨q + min (ps j).nodes 2001, j + 1, by omega, by rw [Int.natCast_add], by go_num, by omega, by have := HQ.out; simp only [sumTo]; omega, HS.out.1.kept hb1, HS.out.2.1.kept hb1, HS.out.2.2.trans (hb1.mono HS.out.2.2.size)⟩
          case measure => simp [intOf]; omega
        · have d40 : decide ((q : Int) ≤ 2000) = false := by simp; omega
          have HE : Hid (min (1 + sumTo (fun i => (ps i).nodes) len) 2001 = 2001) := by
            show min (1 + sumTo (fun i => (ps i).nodes) len) 2001 = 2001
            have := HQ.out
            have h2 := sumTo_mono (fun i => (ps i).nodes) hj
            omega
          have HF : Hid (min q 2001 = 2001) := by show min q 2001 = 2001; omega
          go_wp2
          all_goals go_ret
          all_goals exact ⟨ret_int (by have h1 := HF.out; have h2 := HE.out; omega), HS.out.2.2⟩
      · have e : len = j := by omega
        subst e
        have d : ¬ (len : Int) < len := by omega
        go_wp2
        all_goals go_ret
        all_goals exact ⟨ret_int (by have h1 := HQ.out; omega), HS.out.2.2⟩

set_option maxHeartbeats 1000000 in
theorem vpartsOf_any (t : Vl) (w : World) :
    Calls Tryd.prog 26 #[.agg #[.int .i64 t.k, .int .i64 t.m, .slice t.ao t.len t.cap]] w fun e w' => e = .returned (.slice t.ao t.len t.cap) ∧ Below w.heap.size w w' := by
  have X0 := Bv.new w t
  have B0 := below_alloc w (.cells #[.int .i64 t.k, .int .i64 t.m, .slice t.ao t.len t.cap] 24)
  have x2 := X0.c2
  clear X0
  go_enter Tryd.func26, Tryd.ntmps26
  go_wp2
  go_ret
  exact ⟨rfl, B0⟩

set_option maxRecDepth 100000 in
set_option maxHeartbeats 2000000 in
theorem vcount_any : ∀ (t : Vl) (a : Nat) (w : World), a ≤ 2000 → t.At w → Calls Tryd.prog 52 #[.agg #[.int .i64 t.k, .int .i64 t.m, .slice t.ao t.len t.cap], .func (.func 26) #[] #[], .int .i64 2000, .int .i64 a] w fun e w' => e = .returned (.int .i64 (min (a + t.nodes) 2001 : Nat)) ∧ Below w.heap.size w w' := by
  intro t
  induction t with
  | dm => intro a w _ hAt; exact hAt.elim
  | mk k m ao b o len cap ps ih =>
    intro a w ha hAt
    show Calls Tryd.prog 52 #[.agg #[.int .i64 k, .int .i64 m, .slice ao len cap], .func (.func 26) #[] #[], .int .i64 2000, .int .i64 a] w fun r w' => r = .returned (.int .i64 (min (a + (1 + sumTo (fun i => (ps i).nodes) len)) 2001 : Nat)) ∧ Below w.heap.size w w'
    have B0 := below_alloc w (.cells #[.int .i64 k, .int .i64 m, .slice ao len cap] 24)
    have hb : len ≤ 9223372036854775807 := hAt.bound
    have hnil : 0 < len → ao = some ⟨b, o, none⟩ := hAt.nil
    have HS : Hid (Vl.At (w.alloc (.cells #[.int .i64 k, .int .i64 m, .slice ao len cap] 24)) (.mk k m ao b o len cap ps) ∧ Below w.heap.size w (w.alloc (.cells #[.int .i64 k, .int .i64 m, .slice ao len cap] 24))) := ⟨hAt.kept B0, B0⟩
    have hP : Calls Tryd.prog 26 #[.agg #[.int .i64 k, .int .i64 m, .slice ao len cap]] (w.alloc (.cells #[.int .i64 k, .int .i64 m, .slice ao len cap] 24)) fun r w' => r = .returned (.slice ao len cap) ∧ Below (w.alloc (.cells #[.int .i64 k, .int .i64 m, .slice ao len cap] 24)).heap.size (w.alloc (.cells #[.int .i64 k, .int .i64 m, .slice ao len cap] 24)) w' := vpartsOf_any (.mk k m ao b o len cap ps) _
    clear B0 hAt
    go_enter Tryd.func52, Tryd.ntmps52
    go_wp2_with fail
    refine hP.mono ?_
    rintro _ w5 ⟨rfl, hb5⟩
    have HS : Hid (Vl.At w5 (.mk k m ao b o len cap ps) ∧ Below w.heap.size w w5) := ⟨HS.out.1.kept hb5, Below.next HS.out.2 hb5⟩
    clear hb5 hP
    go_wp2
    go_loopw [9, 18] (fun mm i wr => ∃ (q j : Nat), j ≤ len ∧ mm = .int .i64 q ∧ i = .int .i64 j ∧ q = min (a + (1 + sumTo (fun i => (ps i).nodes) j)) 2001 ∧ Vl.At wr (.mk k m ao b o len cap ps) ∧ Below w.heap.size w wr) (fun _ i _ => len - (intOf i).toNat)
    case atStart => exact ⟨a + 1, 0, Nat.zero_le _, by rw [Int.natCast_add]; rfl, rfl, by simp only [sumTo]; omega, HS.out⟩
    case round =>
      obtain ⟨q, j, hj, rfl, rfl, hm, hA, hB⟩ := hrel
      clear HS
      have HQ : Hid (q = min (a + (1 + sumTo (fun i => (ps i).nodes) j)) 2001) := hm
      clear hm
      by_cases hlt : j < len
      · have ij : (j : Int) < len := by omega
        have a0 := hnil (by omega)
        subst a0
        have C : C3 wr b (o + j * 3) (ps j) := hA.cells hlt
        have P : (ps j).At wr := hA.part hlt
        have X0 := Bv.new wr (ps j)
        have B0 := below_alloc wr (.cells #[.int .i64 (ps j).k, .int .i64 (ps j).m, .slice (ps j).ao (ps j).len (ps j).cap] 24)
        have HS : Hid (Vl.At wr (.mk k m (some ⟨b, o, none⟩) b o len cap ps) ∧ Below w.heap.size w wr) := ⟨hA, hB⟩
        have y0 := C.c0
        have y1 := C.c1
        have y2 := C.c2
        clear hA C hB
        by_cases h40 : 2000 < q
        · have d40 : decide ((2000 : Int) < q) = true := by simp; omega
          have HE : Hid (min (a + (1 + sumTo (fun i => (ps i).nodes) len)) 2001 = q) := by
            show min (a + (1 + sumTo (fun i => (ps i).nodes) len)) 2001 = q
            have := HQ.out
            have h2 := sumTo_mono (fun i => (ps i).nodes) hj
            omega
          go_wp2
          all_goals go_ret
          all_goals exact ⟨ret_int (by have h2 := HE.out; omega), Below.next HS.out.2 B0⟩
        · have d40 : decide ((2000 : Int) < q) = false := by simp; omega
          go_wp2_with fail
          refine (ih j q _ (by omega) (P.kept B0)).mono ?_
          rintro r w1 ⟨rfl, hb1⟩
          have B1 := Below.next B0 hb1
          go_wp2
          go_roundw
          case rel => exact ⟨min (q + (ps j).nodes) 2001, j + 1, by omega, rfl, by go_num, by have := HQ.out; simp only [sumTo]; omega, HS.out.1.kept B1, Below.next HS.out.2 B1⟩
          case measure => simp [intOf]; omega
      · have e : len = j := by omega
        subst e
        have d : ¬ (len : Int) < len := by omega
        go_wp2
        go_ret
        exact ⟨ret_int (by have h1 := HQ.out; omega), hB⟩

set_option maxHeartbeats 1000000 in
theorem vCount_any (t : Vl) (w : World) (ht : t.At w) : Calls Tryd.prog 33 #[.agg #[.int .i64 t.k, .int .i64 t.m, .slice t.ao t.len t.cap], .func (.func 26) #[] #[], .int .i64 2000] w fun e w' => e = .returned (.int .i64 (min t.nodes 2001 : Nat)) ∧ Below w.heap.size w w' := by
  have B0 := below_alloc w (.cells #[.int .i64 t.k, .int .i64 t.m, .slice t.ao t.len t.cap] 24)
  have h := vcount_any t 0 _ (by omega) (ht.kept B0)
  rw [Nat.zero_add] at h
  go_enter Tryd.func33, Tryd.ntmps33
  go_wp2_with fail
  refine h.mono ?_
  rintro r w1 ⟨rfl, hb1⟩
  go_wp2
  go_ret
  exact ⟨rfl, Below.next B0 hb1⟩

set_option maxHeartbeats 1000000 in
theorem vNodes_any (t : Vl) (w : World) (ht : t.At w) : Calls Tryd.prog 16 #[.agg #[.int .i64 t.k, .int .i64 t.m, .slice t.ao t.len t.cap]] w fun e w' => e = .returned (.int .i64 (min t.nodes 2001 : Nat)) ∧ Below w.heap.size w w' := by
  have B0 := below_alloc w (.cells #[.int .i64 t.k, .int .i64 t.m, .slice t.ao t.len t.cap] 24)
  have h := vCount_any t _ (ht.kept B0)
  go_enter Tryd.func16, Tryd.ntmps16
  go_wp2_with fail
  refine h.mono ?_
  rintro r w1 ⟨rfl, hb1⟩
  go_wp2
  go_ret
  exact ⟨rfl, Below.next B0 hb1⟩

set_option maxHeartbeats 1000000 in
theorem rvSmall_any (t : Vl) (w : World) (ht : t.At w) : Calls Tryd.prog 9 #[.agg #[.int .i64 t.k, .int .i64 t.m, .slice t.ao t.len t.cap]] w fun e w' => e = .returned (.bool (decide (t.nodes ≤ 2000))) ∧ Below w.heap.size w w' := by
  have B0 := below_alloc w (.cells #[.int .i64 t.k, .int .i64 t.m, .slice t.ao t.len t.cap] 24)
  have HE : Hid (decide ((min t.nodes 2001 : Nat) ≤ (2000 : Int)) = decide (t.nodes ≤ 2000)) := by
    show decide (((min t.nodes 2001 : Nat) : Int) ≤ 2000) = decide (t.nodes ≤ 2000)
    exact decide_eq_decide.2 (by omega)
  go_enter Tryd.func9, Tryd.ntmps9
  go_wp2_with fail
  refine (rvNodes_any t _ (ht.kept B0)).mono ?_
  rintro r w1 ⟨rfl, hb1⟩
  generalize min t.nodes 2001 = q at HE
  go_wp2
  go_ret
  exact ⟨ret_bool HE.out, Below.next B0 hb1⟩
end Go.Proofs.YtnkipiegjpjfbaaDoor
