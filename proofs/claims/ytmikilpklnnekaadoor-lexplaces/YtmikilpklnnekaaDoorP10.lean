/- Layer 5, plain: what follows of the words of a text. -/
import Derived.Test.YtmikilpklnnekaaDoorP4
import Derived.Test.YtmikilpklnnekaaDoorP9
namespace Go.Proofs.YtmikilpklnnekaaDoor

theorem split_rem (c : UInt8) (r : List UInt8) (h : c.toNat = 35) : ∃ r1 r2, c :: r = c :: (r1 ++ r2) ∧ remLen (c :: r) = r1.length + 1 ∧ (∀ x ∈ r1, x.toNat ≠ 10) ∧ (r2 = [] ∨ ∃ x y, r2 = x :: y ∧ x.toNat = 10) := by
  have key : ∀ r : List UInt8, ∃ r1 r2, r = r1 ++ r2 ∧ remLen r = r1.length ∧ (∀ x ∈ r1, x.toNat ≠ 10) ∧ (r2 = [] ∨ ∃ x y, r2 = x :: y ∧ x.toNat = 10) := by
    intro r
    induction r with
    | nil => exact ⟨[], [], rfl, rfl, by simp, Or.inl rfl⟩
    | cons d r ih =>
      by_cases hd : d.toNat = 10
      · exact ⟨[], d :: r, rfl, by simp [remLen, hd], by simp, Or.inr ⟨d, r, rfl, hd⟩⟩
      · obtain ⟨r1, r2, e, hl, h1, h2⟩ := ih
        refine ⟨d :: r1, r2, by rw [e]; rfl, ?_, ?_, h2⟩
        · simp only [remLen]
          rw [if_neg (by simpa using hd), hl]; rfl
        · intro x hx
          rcases List.mem_cons.1 hx with rfl | hx
          · exact hd
          · exact h1 x hx
  obtain ⟨r1, r2, e, hl, h1, h2⟩ := key r
  refine ⟨r1, r2, by rw [e], ?_, h1, h2⟩
  simp only [remLen]
  rw [if_neg (by simp; omega), hl]

/-- Where all is right. -/
theorem rch_ok : ∀ (N : Nat) (l : List UInt8) (a : Nat) (acc us : List Tk), l.length ≤ N → R l a acc = .ok us → ∃ ts, us = acc ++ ts ∧ Rch [] l a ts ∧ (acc.length ≤ 2000 → acc.length + ts.length ≤ 2000)
  | _, [], a, acc, us, _, h => by
    rw [R_nil] at h
    cases h
    exact ⟨[], by simp, Rch.nil a, by simp⟩
  | 0, _ :: _, _, _, _, h, _ => by simp at h
  | N + 1, c :: r, a, acc, us, hN, h => by
    simp only [List.length_cons] at hN
    by_cases hb : bl c = true
    · rw [R_bl _ _ _ hb] at h
      obtain ⟨ts, e, hr, hl⟩ := rch_ok N r (a + 1) acc us (by omega) h
      exact ⟨ts, e, Rch.bl hb hr, hl⟩
    · rw [Bool.not_eq_true] at hb
      by_cases h35 : c.toNat = 35
      · rw [R_rem _ _ _ h35] at h
        obtain ⟨r1, r2, er, hlen, h1, h2⟩ := split_rem c r h35
        rw [hlen, er, List.drop_succ_cons, List.drop_left] at h
        have hl2 : r2.length ≤ N := by
          have : r = r1 ++ r2 := (List.cons.inj er).2
          rw [this, List.length_append] at hN; omega
        obtain ⟨ts, e, hr, hl⟩ := rch_ok N r2 _ acc us hl2 h
        refine ⟨ts, e, ?_, hl⟩
        rw [er]
        exact Rch.rem h35 h1 (by simpa using h2) hr
      · cases hn : nextW (c :: r) with
        | none => rw [R_none _ _ _ hb h35 hn] at h; cases h
        | some x =>
          obtain ⟨k, m, n⟩ := x
          have hle := nextW_le hn
          by_cases h2 : 2000 ≤ acc.length
          · rw [R_full _ _ _ hb h35 hn h2] at h; cases h
          · rw [R_word _ _ _ hb h35 hn (by omega)] at h
            obtain ⟨ts, e, hr, hl⟩ := rch_ok N ((c :: r).drop m) _ _ us (by simp only [List.length_drop, List.length_cons] at *; omega) h
            have hs : (c :: r).take m ++ (c :: r).drop m = c :: r := List.take_append_drop _ _
            have tl : ((c :: r).take m).length = m := by rw [List.length_take]; omega
            refine ⟨⟨k, (c :: r).take m, n, a⟩ :: ts, by rw [e, List.append_assoc]; rfl, ?_, ?_⟩
            · have hw := Rch.word (q := []) (t := (c :: r).take m) (p := (c :: r).drop m) (a := a) (k := k) (n := n) (ts := ts) (by rw [List.append_nil, hs, tl]; exact hn) (by rw [tl]; exact hr)
              rw [hs] at hw; exact hw
            · intro _
              have := hl (by rw [List.length_append]; simp; omega)
              rw [List.length_append] at this
              simp only [List.length_cons, List.length_nil] at this ⊢
              omega
/-- Where there is a fault. -/
theorem rch_bad : ∀ (N : Nat) (l : List UInt8) (a k : Nat) (acc : List Tk), l.length ≤ N → acc.length ≤ 2000 → R l a acc = .bad k 2 →
    ∃ p c q ts, l = p ++ c :: q ∧ Rch (c :: q) p a ts ∧ k = a + p.length ∧ bl c = false ∧ c.toNat ≠ 35 ∧ nextW (c :: q) = none ∧ acc.length + ts.length ≤ 2000
  | _, [], a, k, acc, _, _, h => by rw [R_nil] at h; cases h
  | 0, _ :: _, _, _, _, h, _, _ => by simp at h
  | N + 1, c :: r, a, k, acc, hN, hA, h => by
    simp only [List.length_cons] at hN
    by_cases hb : bl c = true
    · rw [R_bl _ _ _ hb] at h
      obtain ⟨p, d, q, ts, e, hr, hk, x⟩ := rch_bad N r (a + 1) k acc (by omega) hA h
      exact ⟨c :: p, d, q, ts, by rw [e]; rfl, Rch.bl hb hr, by rw [hk, List.length_cons]; omega, x⟩
    · rw [Bool.not_eq_true] at hb
      by_cases h35 : c.toNat = 35
      · rw [R_rem _ _ _ h35] at h
        obtain ⟨r1, r2, er, hlen, h1, h2⟩ := split_rem c r h35
        rw [hlen, er, List.drop_succ_cons, List.drop_left] at h
        have hl2 : r2.length ≤ N := by
          have : r = r1 ++ r2 := (List.cons.inj er).2
          rw [this, List.length_append] at hN; omega
        obtain ⟨p, d, q, ts, e, hr, hk, x⟩ := rch_bad N r2 _ k acc hl2 hA h
        refine ⟨c :: (r1 ++ p), d, q, ts, by rw [er, e]; simp, Rch.rem h35 h1 (by rw [← e]; exact h2) hr, ?_, x⟩
        rw [hk]; simp only [List.length_cons, List.length_append]; omega
      · cases hn : nextW (c :: r) with
        | none =>
          rw [R_none _ _ _ hb h35 hn] at h
          cases h
          exact ⟨[], c, r, [], rfl, Rch.nil a, rfl, hb, h35, hn, by simpa using hA⟩
        | some x =>
          obtain ⟨kk, m, n⟩ := x
          have hle := nextW_le hn
          by_cases h2 : 2000 ≤ acc.length
          · rw [R_full _ _ _ hb h35 hn h2] at h; cases h
          · rw [R_word _ _ _ hb h35 hn (by omega)] at h
            obtain ⟨p, d, q, ts, e, hr, hk, h4, h5, h6, h7⟩ := rch_bad N ((c :: r).drop m) _ k _ (by simp only [List.length_drop, List.length_cons] at *; omega) (by rw [List.length_append]; simp; omega) h
            have hs : (c :: r).take m ++ (c :: r).drop m = c :: r := List.take_append_drop _ _
            have tl : ((c :: r).take m).length = m := by rw [List.length_take]; omega
            rw [e] at hs
            refine ⟨(c :: r).take m ++ p, d, q, ⟨kk, (c :: r).take m, n, a⟩ :: ts, by rw [List.append_assoc]; exact hs.symm, Rch.word (by rw [hs, tl]; exact hn) (by rw [tl]; exact hr), ?_, h4, h5, h6, ?_⟩
            · rw [hk, List.length_append, tl]; omega
            · rw [List.length_append] at h7
              simp only [List.length_cons, List.length_nil] at h7 ⊢; omega

/-- What may come behind in the place of q. -/
def Cn (q q' : List UInt8) : Prop := q' = [] ∨ (∃ x, q' = 10 :: x) ∨ ∃ x, q' = q ++ 10 :: x
theorem nm_10 (x : List UInt8) : nmLen (10 :: x) = 0 := by
  cases x with
  | nil => rfl
  | cons d x => rw [nm2]; simp [al, dig, gk]
theorem Stp.cont {k : Nat} {t q q' : List UInt8} (h : Stp k t q) (hc : Cn q q') : Stp k t q' := by
  have base : ∀ x, q' = 10 :: x → Stp k t q' := fun x e => by
    subst e
    unfold Stp
    split
    · simp [dgLen, dig]
    · split
      · intro c d r' _ e
        cases e
        simp [lg]
      · exact nm_10 x
  rcases hc with rfl | ⟨x, e⟩ | ⟨x, rfl⟩
  · unfold Stp
    split
    · rfl
    · split
      · intro c d r' _ e; cases e
      · rfl
  · exact base x e
  · match q with
    | [] => exact base x rfl
    | c :: q2 =>
      unfold Stp at h ⊢
      split
      · rename_i hk
        rw [if_pos hk] at h
        simp only [List.cons_append, dgLen] at h ⊢
        split at h
        · omega
        · rename_i hd; rw [if_neg hd]
      · rename_i hk
        rw [if_neg hk] at h
        split
        · rename_i hk4
          rw [if_pos hk4] at h
          intro c' d r' e1 e2
          rw [List.cons_append] at e2
          cases e2
          exact h c' c q2 e1 rfl
        · rename_i hk4
          rw [if_neg hk4] at h
          match q2 with
          | [] =>
            simp only [nmLen] at h
            split at h
            · omega
            · rename_i hal
              show nmLen (c :: 10 :: x) = 0
              rw [nm2, if_neg hal]
              have : gk c 10 = false := by simp [gk]
              rw [this]; rfl
          | d :: q3 =>
            show nmLen (c :: d :: (q3 ++ 10 :: x)) = 0
            rw [nm2] at h ⊢
            split at h
            · omega
            · rename_i hal
              split at h
              · omega
              · rename_i hg
                rw [if_neg hal, if_neg hg]
theorem Stp.head {k : Nat} {t : List UInt8} {c : UInt8} {y y' : List UInt8} (h : Stp k t (c :: y)) (hc : c.toNat < 128 ∨ ∃ d z z', y = d :: z ∧ y' = d :: z') : Stp k t (c :: y') := by
  unfold Stp at h ⊢
  split
  · rename_i hk
    rw [if_pos hk, dg1] at h
    rw [dg1]
    split at h
    · omega
    · rename_i hd; rw [if_neg hd]
  · rename_i hk
    rw [if_neg hk] at h
    split
    · rename_i hk4
      rw [if_pos hk4] at h
      intro c' d r' e1 e2
      cases e2
      exact h c' c y e1 rfl
    · rename_i hk4
      rw [if_neg hk4] at h
      have hal : ¬ (al c || dig c) = true := by
        intro hal
        cases y with
        | nil => simp [nmLen, hal] at h
        | cons d z => rw [nm2, if_pos hal] at h; omega
      rcases hc with hc | ⟨d, z, z', rfl, rfl⟩
      · have hg : ∀ d, gk c d = false := fun d => by rw [← Bool.not_eq_true, gk_iff]; omega
        cases y' with
        | nil => simp only [nmLen]; rw [if_neg hal]
        | cons d z => rw [nm2, if_neg hal, hg]; rfl
      · rw [nm2, if_neg hal] at h
        rw [nm2, if_neg hal]
        split at h
        · omega
        · rename_i hg; rw [if_neg hg]
theorem Rch.one {q : List UInt8} {c : UInt8} {a : Nat} {ts : List Tk} (h : Rch q [c] a ts) : c.toNat < 128 := by
  generalize hp : [c] = p at h
  cases h with
  | nil => cases hp
  | bl hb _ => cases hp; have := (bl_iff c).1 hb; omega
  | rem h35 _ _ _ => rw [(List.cons.inj hp).1]; omega
  | @word t p a k n ts hn hp2 =>
    have hle := nextW_le hn
    match t, hle with
    | d :: t', hle =>
      rw [List.cons_append] at hp
      have e := (List.cons.inj hp)
      have e2 : t' = [] := by
        have := e.2.symm
        cases t' with
        | nil => rfl
        | cons _ _ => cases this
      subst e2
      rw [e.1]
      exact nextW_one ((nextW_split [d] (p ++ q) k n).1 hn).1
theorem Rch.cont {q q' p : List UInt8} {a : Nat} {ts : List Tk} (h : Rch q p a ts) (hc : Cn q q') : Rch q' p a ts := by
  induction h with
  | nil a => exact Rch.nil a
  | bl hb _ ih => exact Rch.bl hb ih
  | @rem c r p a ts h35 hr he _ ih =>
    refine Rch.rem h35 hr ?_ ih
    cases p with
    | cons x p =>
      rcases he with he | ⟨x', y, e, hx⟩
      · cases he
      · right; exact ⟨x, p ++ q', rfl, by rw [List.cons_append] at e; rw [(List.cons.inj e).1]; exact hx⟩
    | nil =>
      simp only [List.nil_append] at he ⊢
      rcases hc with rfl | ⟨x, rfl⟩ | ⟨x, rfl⟩
      · left; rfl
      · right; exact ⟨10, x, rfl, rfl⟩
      · rcases he with rfl | ⟨x', y, rfl, hx⟩
        · right; exact ⟨10, x, rfl, rfl⟩
        · right; exact ⟨x', y ++ 10 :: x, rfl, hx⟩
  | @word t p a k n ts hn hp ih =>
    refine Rch.word ?_ ih
    rw [nextW_split] at hn ⊢
    refine ⟨hn.1, ?_⟩
    cases p with
    | nil => exact hn.2.cont hc
    | cons c p =>
      refine Stp.head (y := p ++ q) hn.2 ?_
      cases p with
      | nil => exact Or.inl hp.one
      | cons d p => exact Or.inr ⟨d, _, _, rfl, rfl⟩
end Go.Proofs.YtmikilpklnnekaaDoor

/- Layer 5, plain: a fault, and what comes behind it. -/
namespace Go.Proofs.YtmikilpklnnekaaDoor

theorem lg_10 (c : UInt8) : lg c 10 = false := by simp [lg]
theorem gk_10 (c : UInt8) : gk c 10 = false := by simp [gk]
theorem lsz_nl {l : List UInt8} (x : List UInt8) (h : l ≠ []) : lsz (l ++ 10 :: x) = lsz l := by
  match l with
  | [] => exact absurd rfl h
  | [c] => show lsz (c :: 10 :: x) = lsz [c]; rw [lsz2, lsz1, gk_10]; rfl
  | c :: d :: r => rfl
theorem sg_nl {l : List UInt8} (x : List UInt8) (h : l ≠ []) : sgLen (l ++ 10 :: x) = sgLen l := by
  match l with
  | [] => exact absurd rfl h
  | [c] => show sgLen (c :: 10 :: x) = sgLen [c]; rw [sg2, sg1, lg_10]; rfl
  | c :: d :: r => rfl
theorem dg_nl : ∀ (l x : List UInt8), dgLen (l ++ 10 :: x) = dgLen l
  | [], x => by show dgLen (10 :: x) = 0; rw [dg1]; rfl
  | c :: l, x => by
    rw [List.cons_append, dg1, dg1, dg_nl l x]
theorem nm_nl : ∀ (l x : List UInt8), nmLen (l ++ 10 :: x) = nmLen l ∧ nmCnt (l ++ 10 :: x) = nmCnt l
  | [], x => ⟨nm_10 x, cnt_zero (nm_10 x)⟩
  | [c], x => by
    show nmLen (c :: 10 :: x) = nmLen [c] ∧ nmCnt (c :: 10 :: x) = nmCnt [c]
    rw [nm2, nmCnt2, gk_10, nm_10, cnt_zero (nm_10 x)]
    simp only [nmLen, nmCnt]
    split <;> simp
  | c :: d :: l, x => by
    have h1 := nm_nl (d :: l) x
    have h2 := nm_nl l x
    simp only [List.cons_append] at h1 ⊢
    rw [nm2, nm2, nmCnt2, nmCnt2, h1.1, h1.2, h2.1, h2.2]
    exact ⟨rfl, rfl⟩
theorem nextW_nl {l : List UInt8} (x : List UInt8) (h : l ≠ []) : nextW (l ++ 10 :: x) = nextW l := by
  have h1 := nm_le l
  have h2 := dg_le l
  have hh : (l ++ 10 :: x).head? = l.head? := by
    cases l with
    | nil => exact absurd rfl h
    | cons c r => rfl
  unfold nextW
  rw [lsz_nl x h, sg_nl x h, dg_nl, (nm_nl l x).1, (nm_nl l x).2, hh, List.take_append_of_le_length h1, List.take_append_of_le_length h2]

theorem fault {l : List UInt8} {a : Nat} (h : R l 0 [] = .bad a 2) : a ≤ l.length ∧ (∃ ts, R (l.take a) 0 [] = .ok ts) ∧ ∀ x, R (l ++ 10 :: x) 0 [] = .bad a 2 := by
  obtain ⟨p, c, q, ts, rfl, hr, rfl, hb, h35, hn, hl⟩ := rch_bad l.length l 0 a [] (Nat.le_refl _) (by simp) h
  simp only [List.length_nil, Nat.zero_add] at hl ⊢
  refine ⟨by rw [List.length_append]; omega, ⟨ts, ?_⟩, fun x => ?_⟩
  · rw [List.take_left' rfl]
    have := (hr.cont (q' := []) (Or.inl rfl)).run [] (by simpa using hl)
    rw [List.append_nil] at this
    rw [this, R_nil, List.nil_append]
  · have := (hr.cont (q' := (c :: q) ++ 10 :: x) (Or.inr (Or.inr ⟨x, rfl⟩))).run [] (by simpa using hl)
    rw [List.append_assoc, this, List.cons_append, R_none _ _ _ hb h35 (by rw [← List.cons_append, nextW_nl x (by simp)]; exact hn), Nat.zero_add]
end Go.Proofs.YtmikilpklnnekaaDoor

/- Layer 5, plain: words written again, blanks put in. -/
namespace Go.Proofs.YtmikilpklnnekaaDoor

/-- Two lists of words are alike, places apart if bare. -/
def Alike (bare : Bool) (ts us : List Tk) : Prop :=
  ts.length = us.length ∧ ∀ i (h : i < ts.length) (h' : i < us.length), ts[i].k = us[i].k ∧ ts[i].t = us[i].t ∧ ts[i].n = us[i].n ∧ (bare = false → ts[i].a = us[i].a)
theorem Alike.nil (b : Bool) : Alike b [] [] := ⟨rfl, fun _ h => absurd h (Nat.not_lt_zero _)⟩
theorem Alike.refl (b : Bool) (ts : List Tk) : Alike b ts ts := ⟨rfl, fun _ _ _ => ⟨rfl, rfl, rfl, fun _ => rfl⟩⟩
theorem Alike.cons {t u : Tk} {ts us : List Tk} (hk : t.k = u.k) (ht : t.t = u.t) (hn : t.n = u.n) (h : Alike true ts us) : Alike true (t :: ts) (u :: us) := by
  refine ⟨by rw [List.length_cons, List.length_cons, h.1], fun i hi hi' => ?_⟩
  cases i with
  | zero => exact ⟨hk, ht, hn, fun h => by cases h⟩
  | succ i => exact h.2 i (by simpa using hi) (by simpa using hi')
theorem Alike.app : ∀ {xs ts us : List Tk}, Alike true ts us → Alike true (xs ++ ts) (xs ++ us)
  | [], _, _, h => h
  | _ :: xs, _, _, h => Alike.cons rfl rfl rfl (Alike.app (xs := xs) h)

theorem rd_bad_ne : ∀ (f : Nat) (l : List UInt8) (a : Nat) (acc : List Tk) {k c : Nat}, rd f l a acc = .bad k c → c ≠ 0
  | 0, _, _, _, _, _, h => by unfold rd at h; cases h
  | _ + 1, [], _, _, _, _, h => by unfold rd at h; cases h
  | f + 1, c :: r, a, acc, _, _, h => by
    unfold rd at h
    split at h
    · exact rd_bad_ne f _ _ _ h
    · split at h
      · exact rd_bad_ne f _ _ _ h
      · split at h
        · cases h; omega
        · split at h
          · cases h; omega
          · exact rd_bad_ne f _ _ _ h
theorem R_bad_ne (l : List UInt8) (a : Nat) (acc : List Tk) {k c : Nat} (h : R l a acc = .bad k c) : c ≠ 0 := rd_bad_ne _ _ _ _ h

theorem rch_words {q p : List UInt8} {a : Nat} {ts : List Tk} (h : Rch q p a ts) : ∀ t ∈ ts, nextW t.t = some (t.k, t.t.length, t.n) := by
  induction h with
  | nil => intro t ht; cases ht
  | bl _ _ ih => exact ih
  | rem _ _ _ _ ih => exact ih
  | word hn _ ih =>
    intro t ht
    rcases List.mem_cons.1 ht with rfl | ht
    · exact ((nextW_split _ _ _ _).1 hn).1
    · exact ih t ht
def joinW : List Tk → List UInt8
  | [] => []
  | t :: ts => t.t ++ 32 :: joinW ts
theorem join_snoc : ∀ (ts : List Tk) (t : Tk), joinW (ts ++ [t]) = joinW ts ++ (t.t ++ [32])
  | [], t => rfl
  | u :: ts, t => by
    show u.t ++ 32 :: joinW (ts ++ [t]) = (u.t ++ 32 :: joinW ts) ++ (t.t ++ [32])
    rw [join_snoc ts t]; simp
theorem stp_32 (k : Nat) (t x : List UInt8) : Stp k t (32 :: x) := by
  unfold Stp
  split
  · rw [dg1]; rfl
  · split
    · intro c d r' _ e
      cases e
      simp [lg]
    · cases x with
      | nil => rfl
      | cons d x => rw [nm2]; simp [al, dig, gk]
theorem rch_join : ∀ (ts : List Tk) (a : Nat), (∀ t ∈ ts, nextW t.t = some (t.k, t.t.length, t.n)) → ∃ us, Rch [] (joinW ts) a us ∧ Alike true ts us
  | [], a, _ => ⟨[], Rch.nil a, Alike.nil _⟩
  | t :: ts, a, h => by
    obtain ⟨us, hr, hA⟩ := rch_join ts (a + t.t.length + 1) (fun x hx => h x (by simp [hx]))
    refine ⟨⟨t.k, t.t, t.n, a⟩ :: us, Rch.word (p := 32 :: joinW ts) ?_ (Rch.bl (by decide) hr), Alike.cons rfl rfl rfl hA⟩
    exact (nextW_split _ _ _ _).2 ⟨h t (by simp), stp_32 _ _ _⟩
theorem join_len {q p : List UInt8} {a : Nat} {ts : List Tk} (h : Rch q p a ts) : (joinW ts).length ≤ p.length + ts.length := by
  induction h with
  | nil => simp [joinW]
  | bl _ _ ih => simp only [List.length_cons]; omega
  | rem _ _ _ _ ih => simp only [List.length_cons, List.length_append]; omega
  | word _ _ ih => simp only [joinW, List.length_cons, List.length_append]; omega
theorem join_take : ∀ (ts : List Tk) (j : Nat), (joinW (ts.take j)).length ≤ (joinW ts).length
  | [], j => by simp
  | t :: ts, 0 => by simp [joinW]
  | t :: ts, j + 1 => by
    have := join_take ts j
    simp only [List.take_succ_cons, joinW, List.length_cons, List.length_append]; omega
theorem join_word : ∀ (ts : List Tk) (j : Nat) (h : j < ts.length), (ts[j].t).length ≤ (joinW ts).length
  | t :: ts, 0, _ => by simp [joinW]
  | t :: ts, j + 1, h => by
    have := join_word ts j (by simpa using h)
    simp only [joinW, List.length_cons, List.length_append, List.getElem_cons_succ]; omega
theorem again {l : List UInt8} {ts : List Tk} (h : R l 0 [] = .ok ts) : ts.length ≤ 2000 ∧ (joinW ts).length ≤ l.length + 2000 ∧ ∃ us, R (joinW ts) 0 [] = .ok us ∧ Alike true ts us := by
  obtain ⟨ts', e, hr, hl⟩ := rch_ok l.length l 0 [] ts (Nat.le_refl _) h
  rw [List.nil_append] at e
  subst e
  have hl' := hl (by simp)
  simp only [List.length_nil, Nat.zero_add] at hl'
  obtain ⟨us, hu, hA⟩ := rch_join ts 0 (rch_words hr)
  have := hu.run [] (by rw [← hA.1]; simpa using hl')
  rw [List.append_nil, R_nil, List.nil_append] at this
  exact ⟨hl', by have := join_len hr; omega, us, this, hA⟩

theorem rch_shift {q p : List UInt8} {a : Nat} {ts : List Tk} (h : Rch q p a ts) : ∀ b, ∃ us, Rch q p b us ∧ Alike true ts us := by
  induction h with
  | nil => exact fun b => ⟨[], Rch.nil b, Alike.nil _⟩
  | bl hb _ ih =>
    intro b
    obtain ⟨us, hu, hA⟩ := ih (b + 1)
    exact ⟨us, Rch.bl hb hu, hA⟩
  | rem h35 hr he _ ih =>
    intro b
    obtain ⟨us, hu, hA⟩ := ih _
    exact ⟨us, Rch.rem h35 hr he hu, hA⟩
  | word hn _ ih =>
    intro b
    obtain ⟨us, hu, hA⟩ := ih _
    exact ⟨_, Rch.word hn hu, Alike.cons rfl rfl rfl hA⟩
theorem rch_at {p : List UInt8} {a : Nat} {ts : List Tk} (h : Rch [] p a ts) : ∀ i (hi : i < ts.length), ∃ x y, p = x ++ y ∧ Rch y x a (ts.take i) ∧ Rch [] y (a + x.length) (ts.drop i) ∧ a + x.length = ts[i].a := by
  induction h with
  | nil => intro i hi; exact absurd hi (Nat.not_lt_zero _)
  | @bl c p a ts hb hp ih =>
    intro i hi
    obtain ⟨x, y, rfl, h1, h2, h3⟩ := ih i hi
    exact ⟨c :: x, y, rfl, Rch.bl hb h1, by rw [List.length_cons, show a + (x.length + 1) = a + 1 + x.length by omega]; exact h2, by rw [List.length_cons]; omega⟩
  | @rem c r p a ts h35 hr he hp ih =>
    intro i hi
    obtain ⟨x, y, rfl, h1, h2, h3⟩ := ih i hi
    refine ⟨c :: (r ++ x), y, by simp, Rch.rem h35 hr (by simpa using he) h1, ?_, ?_⟩
    · have e : a + (c :: (r ++ x)).length = a + (r.length + 1) + x.length := by simp only [List.length_cons, List.length_append]; omega
      rw [e]; exact h2
    · simp only [List.length_cons, List.length_append]; omega
  | @word t p a k n ts hn hp ih =>
    intro i hi
    cases i with
    | zero => exact ⟨[], t ++ p, rfl, Rch.nil a, Rch.word hn hp, rfl⟩
    | succ i =>
      obtain ⟨x, y, rfl, h1, h2, h3⟩ := ih i (by simpa using hi)
      refine ⟨t ++ x, y, by simp, Rch.word (by simpa using hn) h1, ?_, ?_⟩
      · rw [List.length_append, ← Nat.add_assoc]; exact h2
      · rw [List.length_append, ← Nat.add_assoc]; exact h3
def insB (rm : List UInt8) : List UInt8 := 10 :: 35 :: (rm ++ [10, 9])
theorem rch_ins (rm q : List UInt8) (a : Nat) (h : ∀ x ∈ rm, x.toNat ≠ 10) : Rch q (insB rm) a [] :=
  Rch.bl (by decide) (Rch.rem (p := [10, 9]) (by decide) h (Or.inr ⟨10, 9 :: q, rfl, by decide⟩) (Rch.bl (by decide) (Rch.bl (by decide) (Rch.nil _))))
theorem blanks {l : List UInt8} {ts : List Tk} (h : R l 0 [] = .ok ts) (rm : List UInt8) (hrm : ∀ x ∈ rm, x.toNat ≠ 10) : ts.length ≤ 2000 ∧ (∃ us, R (l ++ insB rm) 0 [] = .ok us ∧ Alike true ts us) ∧ ∀ i (hi : i < ts.length), ts[i].a ≤ l.length ∧ ∃ us, R (l.take ts[i].a ++ (insB rm ++ l.drop ts[i].a)) 0 [] = .ok us ∧ Alike true ts us := by
  obtain ⟨ts', e, hr, hl⟩ := rch_ok l.length l 0 [] ts (Nat.le_refl _) h
  rw [List.nil_append] at e
  subst e
  have hl' := hl (by simp)
  simp only [List.length_nil, Nat.zero_add] at hl'
  refine ⟨hl', ⟨ts, ?_, Alike.refl _ _⟩, fun i hi => ?_⟩
  · have h1 := (hr.cont (q' := insB rm) (Or.inr (Or.inl ⟨_, rfl⟩))).run [] (by simpa using hl')
    have h2 := (rch_ins rm [] (0 + l.length) hrm).run ([] ++ ts) (by simpa using hl')
    rw [List.append_nil, R_nil, List.append_nil] at h2
    rw [h1, h2, List.nil_append]
  · obtain ⟨x, y, rfl, h1, h2, h3⟩ := rch_at hr i hi
    rw [Nat.zero_add] at h2 h3
    rw [← h3, List.take_left' rfl, List.drop_left' rfl]
    refine ⟨by rw [List.length_append]; omega, ?_⟩
    have tl : (ts.take i).length = i := by rw [List.length_take]; omega
    obtain ⟨us, hu, hA⟩ := rch_shift h2 (0 + x.length + (insB rm).length)
    have ul : us.length = ts.length - i := by rw [← hA.1, List.length_drop]
    have r1 := (h1.cont (q' := insB rm ++ y) (Or.inr (Or.inl ⟨_, rfl⟩))).run [] (by rw [tl]; simp; omega)
    have r2 := (rch_ins rm y (0 + x.length) hrm).run ([] ++ ts.take i) (by rw [List.nil_append, tl]; simp; omega)
    have r3 := hu.run (([] ++ ts.take i) ++ []) (by rw [List.append_nil, List.nil_append, tl, ul]; omega)
    rw [List.append_nil, R_nil] at r3
    rw [r1, r2, r3, List.append_nil, List.nil_append]
    refine ⟨_, rfl, ?_⟩
    have := Alike.app (xs := ts.take i) hA
    rwa [List.take_append_drop] at this
end Go.Proofs.YtmikilpklnnekaaDoor

/- Layer 5, plain: what lies between words. -/
namespace Go.Proofs.YtmikilpklnnekaaDoor

/-- Blanks and remarks alone; m: within a remark. -/
def emp : Bool → List UInt8 → Bool
  | _, [] => true
  | m, c :: r => if c.toNat = 10 then emp false r else if c.toNat = 35 then emp true r else if m = false ∧ c.toNat ≠ 32 ∧ c.toNat ≠ 9 then false else emp m r
theorem emp_rem : ∀ (r x : List UInt8), (∀ y ∈ r, y.toNat ≠ 10) → emp true (r ++ x) = emp true x
  | [], _, _ => rfl
  | c :: r, x, h => by
    have hc := h c (by simp)
    rw [List.cons_append, emp, if_neg hc]
    split
    · exact emp_rem r x (fun y hy => h y (by simp [hy]))
    · rw [if_neg (by simp)]
      exact emp_rem r x (fun y hy => h y (by simp [hy]))
theorem emp_bl {c : UInt8} (x : List UInt8) (h : bl c = true) : emp false (c :: x) = emp false x := by
  have := (bl_iff c).1 h
  rw [emp]
  split
  · rfl
  · rw [if_neg (by omega), if_neg (by omega)]
/-- Ahead of each word there is nothing but blanks and remarks. -/
theorem rch_gap {p : List UInt8} {a : Nat} {ts : List Tk} (h : Rch [] p a ts) :
    (ts = [] → emp false p = true) ∧ (∀ t us, ts = t :: us → ∃ g p', p = g ++ (t.t ++ p') ∧ emp false g = true ∧ t.a = a + g.length ∧ t.t ≠ [] ∧ Rch [] p' (a + g.length + t.t.length) us) := by
  induction h with
  | nil => exact ⟨fun _ => rfl, fun t us e => by cases e⟩
  | @bl c p a ts hb hp ih =>
    refine ⟨fun e => by rw [emp_bl _ hb]; exact ih.1 e, fun t us e => ?_⟩
    obtain ⟨g, p', rfl, h1, h2, h3, h4⟩ := ih.2 t us e
    refine ⟨c :: g, p', rfl, by rw [emp_bl _ hb]; exact h1, by rw [h2, List.length_cons]; omega, h3, ?_⟩
    rw [List.length_cons, show a + (g.length + 1) + t.t.length = a + 1 + g.length + t.t.length by omega]; exact h4
  | @rem c r p a ts h35 hr he hp ih =>
    rw [List.append_nil] at he
    have start : ∀ x, emp false (c :: (r ++ x)) = emp true x := fun x => by
      rw [emp, if_neg (by omega), if_pos h35, emp_rem r x hr]
    have tf : ∀ x, (x = [] ∨ ∃ y z, x = y :: z ∧ y.toNat = 10) → emp true x = emp false x := fun x hx => by
      rcases hx with rfl | ⟨y, z, rfl, hy⟩
      · rfl
      · rw [emp, emp, if_pos hy, if_pos hy]
    refine ⟨fun e => by rw [start, tf p he]; exact ih.1 e, fun t us e => ?_⟩
    obtain ⟨g, p', rfl, h1, h2, h3, h4⟩ := ih.2 t us e
    refine ⟨c :: (r ++ g), p', by simp, ?_, ?_, h3, ?_⟩
    · rw [start]
      cases g with
      | nil => rfl
      | cons y g =>
        rcases he with he | ⟨y', z, e', hy⟩
        · cases he
        · rw [List.cons_append] at e'
          have := (List.cons.inj e').1
          rw [tf (y :: g) (Or.inr ⟨y, g, rfl, by rw [this]; exact hy⟩)]; exact h1
    · rw [h2]; simp only [List.length_cons, List.length_append]; omega
    · have e2 : a + (c :: (r ++ g)).length + t.t.length = a + (r.length + 1) + g.length + t.t.length := by simp only [List.length_cons, List.length_append]; omega
      rw [e2]; exact h4
  | @word t p a k n ts hn hp _ =>
    refine ⟨fun e => (by cases e), fun t' us e => ?_⟩
    cases e
    refine ⟨[], p, rfl, rfl, rfl, ?_, hp⟩
    have := nextW_le hn
    intro e
    have e : t = [] := e
    rw [e] at this
    simp at this
/-- Where the word ahead ends. -/
def endOf (ts : List Tk) : Nat → Nat
  | 0 => 0
  | i + 1 => match ts[i]? with
    | some t => t.a + t.t.length
    | none => 0
theorem places {l : List UInt8} {ts : List Tk} (h : R l 0 [] = .ok ts) : ts.length ≤ 2000 ∧ (∀ i (hi : i < ts.length), endOf ts i ≤ ts[i].a ∧ ts[i].a + ts[i].t.length ≤ l.length ∧ emp false ((l.take ts[i].a).drop (endOf ts i)) = true ∧ ts[i].t ≠ [] ∧ (l.take (ts[i].a + ts[i].t.length)).drop ts[i].a = ts[i].t) ∧ endOf ts ts.length ≤ l.length ∧ emp false (l.drop (endOf ts ts.length)) = true := by
  obtain ⟨ts', e, hr, hl⟩ := rch_ok l.length l 0 [] ts (Nat.le_refl _) h
  rw [List.nil_append] at e
  subst e
  have hl' := hl (by simp)
  simp only [List.length_nil, Nat.zero_add] at hl'
  -- what is left behind i words
  have key : ∀ i, i ≤ ts.length → ∃ x p', l = x ++ p' ∧ x.length = endOf ts i ∧ Rch [] p' x.length (ts.drop i) := by
    intro i
    induction i with
    | zero => intro _; exact ⟨[], l, rfl, rfl, hr⟩
    | succ i ih =>
      intro hi
      obtain ⟨x, p', e1, e2, e3⟩ := ih (by omega)
      have hd : ts.drop i = ts[i] :: ts.drop (i + 1) := List.drop_eq_getElem_cons (by omega)
      obtain ⟨g, p2, rfl, h1, h2, h3, h4⟩ := (rch_gap e3).2 _ _ hd
      have eo : endOf ts (i + 1) = ts[i].a + ts[i].t.length := by
        simp [endOf, List.getElem?_eq_getElem (show i < ts.length by omega)]
      refine ⟨x ++ (g ++ ts[i].t), p2, by rw [e1]; simp, ?_, ?_⟩
      · rw [eo, h2]; simp only [List.length_append]; omega
      · have e5 : (x ++ (g ++ ts[i].t)).length = x.length + g.length + ts[i].t.length := by simp only [List.length_append]; omega
        rw [e5]; exact h4
  refine ⟨hl', fun i hi => ?_, ?_⟩
  · obtain ⟨x, p', e1, e2, e3⟩ := key i (by omega)
    have hd : ts.drop i = ts[i] :: ts.drop (i + 1) := List.drop_eq_getElem_cons hi
    obtain ⟨g, p2, rfl, h1, h2, h3, h4⟩ := (rch_gap e3).2 _ _ hd
    rw [← e2, h2, e1]
    refine ⟨by omega, by simp only [List.length_append]; omega, ?_, h3, ?_⟩
    · rw [show x ++ (g ++ (ts[i].t ++ p2)) = (x ++ g) ++ (ts[i].t ++ p2) by simp, List.take_left' (by simp), List.drop_left' rfl]; exact h1
    · rw [show x ++ (g ++ (ts[i].t ++ p2)) = (x ++ g ++ ts[i].t) ++ p2 by simp, List.take_left' (by simp only [List.length_append]), List.drop_left' (by simp)]
  · obtain ⟨x, p', e1, e2, e3⟩ := key ts.length (Nat.le_refl _)
    rw [List.drop_eq_nil_of_le (Nat.le_refl _)] at e3
    rw [← e2, e1]
    refine ⟨by rw [List.length_append]; omega, ?_⟩
    rw [List.drop_left' rfl]
    exact (rch_gap e3).1 rfl
end Go.Proofs.YtmikilpklnnekaaDoor

/- Layer 5: the walk of the statement's own empty. -/
namespace Go.Proofs.YtmikilpklnnekaaDoor
open Go.RowKit

set_option maxRecDepth 100000 in
set_option maxHeartbeats 4000000 in
theorem empty_any (s : ByteArray) (w : World) (hs : s.size ≤ 20000) :
    Calls Tryd.prog 18 #[.string s] w fun e w' => e = .returned (.bool (emp false (bs s))) ∧ w' = w := by
  go_enter Tryd.func18, Tryd.ntmps18
  go_wp2
  go_loop [3, 4] (fun m i => ∃ (k : Nat) (b : Bool), k ≤ s.size ∧ m = .bool b ∧ i = .int .i64 k ∧ Hid (emp false (bs s) = emp b ((bs s).drop k))) (fun _ i => s.size - (intOf i).toNat)
  case atStart => exact ⟨0, false, Nat.zero_le _, rfl, rfl, by show emp false (bs s) = emp false ((bs s).drop 0); rw [List.drop_zero]⟩
  case round =>
    obtain ⟨k, b, hk, rfl, rfl, HE⟩ := hrel
    by_cases hlt : k < s.size
    · have ij : (k : Int) < s.size := by omega
      have j0 : (0 : Int) ≤ k := by omega
      have HD := bs_drop s k hlt
      have HS : Hid (emp false (bs s) = if (s[k]'hlt).toNat = 10 then emp false ((bs s).drop (k + 1)) else if (s[k]'hlt).toNat = 35 then emp true ((bs s).drop (k + 1)) else if b = false ∧ (s[k]'hlt).toNat ≠ 32 ∧ (s[k]'hlt).toNat ≠ 9 then false else emp b ((bs s).drop (k + 1))) := by
        show emp false (bs s) = _
        rw [HE.out, HD, emp]
      clear HE HD
      by_cases h10 : (s[k]'hlt).toNat = 10
      · have q1 : (((s[k]'hlt).toNat : Int) == 10) = true := by rw [beq_iff_eq]; omega
        have HR : Hid (emp false (bs s) = emp false ((bs s).drop (k + 1))) := HS.out.trans (if_pos h10)
        clear HS
        go_wp2
        go_round
        case rel => exact ⟨k + 1, false, by omega, rfl, by go_num, HR.out⟩
        case measure => simp [intOf]; omega
      · have q1 : (((s[k]'hlt).toNat : Int) == 10) = false := by rw [beq_eq_false_iff_ne]; omega
        by_cases h35 : (s[k]'hlt).toNat = 35
        · have q2 : (((s[k]'hlt).toNat : Int) == 35) = true := by rw [beq_iff_eq]; omega
          have HR : Hid (emp false (bs s) = emp true ((bs s).drop (k + 1))) := HS.out.trans (by rw [if_neg h10, if_pos h35])
          clear HS
          go_wp2
          go_round
          case rel => exact ⟨k + 1, true, by omega, rfl, by go_num, HR.out⟩
          case measure => simp [intOf]; omega
        · have q2 : (((s[k]'hlt).toNat : Int) == 35) = false := by rw [beq_eq_false_iff_ne]; omega
          cases b
          · by_cases h32 : (s[k]'hlt).toNat = 32
            · have q3 : (((s[k]'hlt).toNat : Int) != 32) = false := by rw [bne_eq_false_iff_eq]; omega
              have HR : Hid (emp false (bs s) = emp false ((bs s).drop (k + 1))) := HS.out.trans (by rw [if_neg h10, if_neg h35, if_neg (by omega)])
              clear HS
              go_wp2
              go_round
              case rel => exact ⟨k + 1, false, by omega, rfl, by go_num, HR.out⟩
              case measure => simp [intOf]; omega
            · have q3 : (((s[k]'hlt).toNat : Int) != 32) = true := by rw [bne_iff_ne]; omega
              by_cases h9 : (s[k]'hlt).toNat = 9
              · have q4 : (((s[k]'hlt).toNat : Int) != 9) = false := by rw [bne_eq_false_iff_eq]; omega
                have HR : Hid (emp false (bs s) = emp false ((bs s).drop (k + 1))) := HS.out.trans (by rw [if_neg h10, if_neg h35, if_neg (by omega)])
                clear HS
                go_wp2
                go_round
                case rel => exact ⟨k + 1, false, by omega, rfl, by go_num, HR.out⟩
                case measure => simp [intOf]; omega
              · have q4 : (((s[k]'hlt).toNat : Int) != 9) = true := by rw [bne_iff_ne]; omega
                have HR : Hid (emp false (bs s) = false) := HS.out.trans (by rw [if_neg h10, if_neg h35, if_pos ⟨rfl, h32, h9⟩])
                clear HS
                go_wp2
                go_ret
                exact ⟨ret_bool HR.out.symm, rfl⟩
          · have HR : Hid (emp false (bs s) = emp true ((bs s).drop (k + 1))) := HS.out.trans (by rw [if_neg h10, if_neg h35, if_neg (by simp)])
            clear HS
            go_wp2
            go_round
            case rel => exact ⟨k + 1, true, by omega, rfl, by go_num, HR.out⟩
            case measure => simp [intOf]; omega
    · have e : k = s.size := by omega
      subst e
      have dl : ¬ (s.size : Int) < s.size := by omega
      go_wp2
      go_ret
      exact ⟨ret_bool (by rw [HE.out, bs_end s _ (by omega)]; cases b <;> rfl), rfl⟩
end Go.Proofs.YtmikilpklnnekaaDoor

/- Layer 5: the walk of the statement LexFault. -/
namespace Go.Proofs.YtmikilpklnnekaaDoor
open Go.RowKit

theorem bs_cat (a b : ByteArray) : bs (a ++ b) = bs a ++ bs b := Joins.data_append a b

set_option maxRecDepth 100000 in
set_option maxHeartbeats 4000000 in
theorem lexFault_any (s more : ByteArray) (w : World) (hv : Vs w) (hs0 : s.size ≤ 9223372036854775807) (hm0 : more.size ≤ 9223372036854775807) :
    Calls Tryd.prog 8 #[.string s, .string more] w fun e w' => e = .returned (.bool true) ∧ Below w.heap.size w w' := by
  go_enter Tryd.func8, Tryd.ntmps8
  go_wp2_with fail
  refine (lawake_any _ hv).mono ?_
  rintro e w1 ⟨rfl, b1⟩
  have V1 := hv.kept b1
  by_cases hs : s.size ≤ 4000
  · by_cases hm : more.size ≤ 3000
    · have hs' : (s.size : Int) ≤ 4000 := by omega
      have hm' : (more.size : Int) ≤ 3000 := by omega
      go_wp2_with fail
      refine (read_any s _ V1).mono ?_
      rintro e w2 ⟨hR, hb⟩
      have b2 := nxt b1 hb
      have V2 := V1.kept hb
      have hr : readV (bs s) = R (bs s) 0 [] := by unfold readV; rw [if_neg (by rw [bs_len]; omega)]
      clear hb V1 b1
      cases hq : readV (bs s) with
      | ok ts =>
        rw [hq] at hR
        obtain ⟨v, rfl, _⟩ := hR
        clear hr
        go_wp2
        go_ret
        exact ⟨rfl, b2⟩
      | bad a c =>
        rw [hq] at hR
        have hR' : e = .returned (.tuple #[.slice none 0 0, .int .i64 a, .int .i64 c]) := hR
        subst hR'
        by_cases hc : c = 2
        · subst hc
          obtain ⟨ha, ⟨ts, hp⟩, hx⟩ := fault (hr.symm.trans hq)
          rw [bs_len] at ha
          have a0 : (0 : Int) ≤ a := by omega
          have a1 : (a : Int) ≤ s.size := by omega
          have HP : Hid (readV (bs (s.extract 0 a)) = .ok ts) := by
            show readV _ = _
            unfold readV
            rw [bs_take, if_neg (by rw [List.length_take, bs_len]; omega)]; exact hp
          have HX : Hid (readV (bs (s ++ ⟨#[10]⟩ ++ more)) = .bad a 2) := by
            show readV _ = _
            unfold readV
            rw [bs_cat, bs_cat, if_neg (by rw [List.length_append, List.length_append, bs_len, bs_len]; show ¬ 8192 < s.size + 1 + more.size; omega), List.append_assoc]
            exact hx (bs more)
          clear hr hq hp hx hR
          go_wp2_with fail
          refine (read_any _ _ V2).mono ?_
          rintro e w3 ⟨hR, hb⟩
          rw [HP.out] at hR
          obtain ⟨v, rfl, _⟩ := hR
          have b3 := nxt b2 hb
          have V3 := V2.kept hb
          clear hb V2 b2
          go_wp2_with fail
          refine (read_any _ _ V3).mono ?_
          rintro e w4 ⟨hR, hb⟩
          rw [HX.out] at hR
          have hR' : e = .returned (.tuple #[.slice none 0 0, .int .i64 a, .int .i64 2]) := hR
          subst hR'
          have b4 := nxt b3 hb
          clear hb V3 b3 hR
          go_wp2
          go_ret
          exact ⟨rfl, b4⟩
        · have c2 : ((c : Int) != 2) = true := by rw [bne_iff_ne]; omega
          clear hr hq hR
          go_wp2
          go_ret
          exact ⟨rfl, b2⟩
    · have hs' : (s.size : Int) ≤ 4000 := by omega
      have hm' : (3000 : Int) < more.size := by omega
      go_wp2_with fail
      refine (lawake_any _ V1).mono ?_
      rintro e w2 ⟨rfl, hb⟩
      go_wp2
      go_ret
      exact ⟨rfl, nxt b1 hb⟩
  · have hs' : (4000 : Int) < s.size := by omega
    go_wp2_with fail
    refine (lawake_any _ V1).mono ?_
    rintro e w2 ⟨rfl, hb⟩
    go_wp2
    go_ret
    exact ⟨rfl, nxt b1 hb⟩
end Go.Proofs.YtmikilpklnnekaaDoor
