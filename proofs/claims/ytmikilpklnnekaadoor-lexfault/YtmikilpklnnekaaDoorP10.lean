/- Layer 5, plain: what follows of the words of a text. -/
import Derived.Test.YtmikilpklnnekaaDoorP4
import Derived.Test.YtmikilpklnnekaaDoorP9
import Derived.Test.YtmikilpklnnekaaDoorP8
import Derived.Test.YtmikilpklnnekaaDoorRows
import Derived.Stop.LaidErr
import Derived.Stop.Joined
import Derived.Lib.LaidTab
import Derived.LaidMore
import Derived.OpenShut
namespace Go.Proofs.YtmikilpklnnekaaDoor

theorem split_rem (c : UInt8) (r : List UInt8) (h : c.toNat = 35) : ∃ r1 r2, c :: r = c :: (r1 ++ r2) ∧ remLen (c :: r) = r1.length + 1 ∧ (∀ x ∈ r1, x.toNat ≠ 10) ∧ (r2 = [] ∨ ∃ x y, r2 = x :: y ∧ x.toNat = 10) := by
  have key : ∀ r : List UInt8, ∃ r1 r2, r = r1 ++ r2 ∧ remLen r = r1.length ∧ (∀ x ∈ r1, x.toNat ≠ 10) ∧ (r2 = [] ∨ ∃ x y, r2 = x :: y ∧ x.toNat = 10) := by
    intro r
    induction r with
    | nil => exact ⟨[], [], rfl, rfl, by simp, Or.inl rfl⟩
    | cons d r ih =>
      by_cases hd : d.toNat = 10
      · exact ⟨[], d :: r, rfl, by simp [remLen, hd], by simp, Or.inr ⟨d, r, rfl, hd⟩⟩
      · obtain ⟨r1, r2, e, hl, h1, h2⟩ := ih
        refine ⟨d :: r1, r2, by rw [e]; rfl, ?_, ?_, h2⟩
        · simp only [remLen]
          rw [if_neg (by simpa using hd), hl]; rfl
        · intro x hx
          rcases List.mem_cons.1 hx with rfl | hx
          · exact hd
          · exact h1 x hx
  obtain ⟨r1, r2, e, hl, h1, h2⟩ := key r
  refine ⟨r1, r2, by rw [e], ?_, h1, h2⟩
  simp only [remLen]
  rw [if_neg (by simp; omega), hl]

/-- Where all is right. -/
theorem rch_ok : ∀ (N : Nat) (l : List UInt8) (a : Nat) (acc us : List Tk), l.length ≤ N → R l a acc = .ok us → ∃ ts, us = acc ++ ts ∧ Rch [] l a ts ∧ (acc.length ≤ 2000 → acc.length + ts.length ≤ 2000)
  | _, [], a, acc, us, _, h => by
    rw [R_nil] at h
    cases h
    exact ⟨[], by simp, Rch.nil a, by simp⟩
  | 0, _ :: _, _, _, _, h, _ => by simp at h
  | N + 1, c :: r, a, acc, us, hN, h => by
    simp only [List.length_cons] at hN
    by_cases hb : bl c = true
    · rw [R_bl _ _ _ hb] at h
      obtain ⟨ts, e, hr, hl⟩ := rch_ok N r (a + 1) acc us (by omega) h
      exact ⟨ts, e, Rch.bl hb hr, hl⟩
    · rw [Bool.not_eq_true] at hb
      by_cases h35 : c.toNat = 35
      · rw [R_rem _ _ _ h35] at h
        obtain ⟨r1, r2, er, hlen, h1, h2⟩ := split_rem c r h35
        rw [hlen, er, List.drop_succ_cons, List.drop_left] at h
        have hl2 : r2.length ≤ N := by
          have : r = r1 ++ r2 := (List.cons.inj er).2
          rw [this, List.length_append] at hN; omega
        obtain ⟨ts, e, hr, hl⟩ := rch_ok N r2 _ acc us hl2 h
        refine ⟨ts, e, ?_, hl⟩
        rw [er]
        exact Rch.rem h35 h1 (by simpa using h2) hr
      · cases hn : nextW (c :: r) with
        | none => rw [R_none _ _ _ hb h35 hn] at h; cases h
        | some x =>
          obtain ⟨k, m, n⟩ := x
          have hle := nextW_le hn
          by_cases h2 : 2000 ≤ acc.length
          · rw [R_full _ _ _ hb h35 hn h2] at h; cases h
          · rw [R_word _ _ _ hb h35 hn (by omega)] at h
            obtain ⟨ts, e, hr, hl⟩ := rch_ok N ((c :: r).drop m) _ _ us (by simp only [List.length_drop, List.length_cons] at *; omega) h
            have hs : (c :: r).take m ++ (c :: r).drop m = c :: r := List.take_append_drop _ _
            have tl : ((c :: r).take m).length = m := by rw [List.length_take]; omega
            refine ⟨⟨k, (c :: r).take m, n, a⟩ :: ts, by rw [e, List.append_assoc]; rfl, ?_, ?_⟩
            · have hw := Rch.word (q := []) (t := (c :: r).take m) (p := (c :: r).drop m) (a := a) (k := k) (n := n) (ts := ts) (by rw [List.append_nil, hs, tl]; exact hn) (by rw [tl]; exact hr)
              rw [hs] at hw; exact hw
            · intro _
              have := hl (by rw [List.length_append]; simp; omega)
              rw [List.length_append] at this
              simp only [List.length_cons, List.length_nil] at this ⊢
              omega
/-- Where there is a fault. -/
theorem rch_bad : ∀ (N : Nat) (l : List UInt8) (a k : Nat) (acc : List Tk), l.length ≤ N → acc.length ≤ 2000 → R l a acc = .bad k 2 →
    ∃ p c q ts, l = p ++ c :: q ∧ Rch (c :: q) p a ts ∧ k = a + p.length ∧ bl c = false ∧ c.toNat ≠ 35 ∧ nextW (c :: q) = none ∧ acc.length + ts.length ≤ 2000
  | _, [], a, k, acc, _, _, h => by rw [R_nil] at h; cases h
  | 0, _ :: _, _, _, _, h, _, _ => by simp at h
  | N + 1, c :: r, a, k, acc, hN, hA, h => by
    simp only [List.length_cons] at hN
    by_cases hb : bl c = true
    · rw [R_bl _ _ _ hb] at h
      obtain ⟨p, d, q, ts, e, hr, hk, x⟩ := rch_bad N r (a + 1) k acc (by omega) hA h
      exact ⟨c :: p, d, q, ts, by rw [e]; rfl, Rch.bl hb hr, by rw [hk, List.length_cons]; omega, x⟩
    · rw [Bool.not_eq_true] at hb
      by_cases h35 : c.toNat = 35
      · rw [R_rem _ _ _ h35] at h
        obtain ⟨r1, r2, er, hlen, h1, h2⟩ := split_rem c r h35
        rw [hlen, er, List.drop_succ_cons, List.drop_left] at h
        have hl2 : r2.length ≤ N := by
          have : r = r1 ++ r2 := (List.cons.inj er).2
          rw [this, List.length_append] at hN; omega
        obtain ⟨p, d, q, ts, e, hr, hk, x⟩ := rch_bad N r2 _ k acc hl2 hA h
        refine ⟨c :: (r1 ++ p), d, q, ts, by rw [er, e]; simp, Rch.rem h35 h1 (by rw [← e]; exact h2) hr, ?_, x⟩
        rw [hk]; simp only [List.length_cons, List.length_append]; omega
      · cases hn : nextW (c :: r) with
        | none =>
          rw [R_none _ _ _ hb h35 hn] at h
          cases h
          exact ⟨[], c, r, [], rfl, Rch.nil a, rfl, hb, h35, hn, by simpa using hA⟩
        | some x =>
          obtain ⟨kk, m, n⟩ := x
          have hle := nextW_le hn
          by_cases h2 : 2000 ≤ acc.length
          · rw [R_full _ _ _ hb h35 hn h2] at h; cases h
          · rw [R_word _ _ _ hb h35 hn (by omega)] at h
            obtain ⟨p, d, q, ts, e, hr, hk, h4, h5, h6, h7⟩ := rch_bad N ((c :: r).drop m) _ k _ (by simp only [List.length_drop, List.length_cons] at *; omega) (by rw [List.length_append]; simp; omega) h
            have hs : (c :: r).take m ++ (c :: r).drop m = c :: r := List.take_append_drop _ _
            have tl : ((c :: r).take m).length = m := by rw [List.length_take]; omega
            rw [e] at hs
            refine ⟨(c :: r).take m ++ p, d, q, ⟨kk, (c :: r).take m, n, a⟩ :: ts, by rw [List.append_assoc]; exact hs.symm, Rch.word (by rw [hs, tl]; exact hn) (by rw [tl]; exact hr), ?_, h4, h5, h6, ?_⟩
            · rw [hk, List.length_append, tl]; omega
            · rw [List.length_append] at h7
              simp only [List.length_cons, List.length_nil] at h7 ⊢; omega

/-- What may come behind in the place of q. -/
def Cn (q q' : List UInt8) : Prop := q' = [] ∨ (∃ x, q' = 10 :: x) ∨ ∃ x, q' = q ++ 10 :: x
theorem nm_10 (x : List UInt8) : nmLen (10 :: x) = 0 := by
  cases x with
  | nil => rfl
  | cons d x => rw [nm2]; simp [al, dig, gk]
theorem Stp.cont {k : Nat} {t q q' : List UInt8} (h : Stp k t q) (hc : Cn q q') : Stp k t q' := by
  have base : ∀ x, q' = 10 :: x → Stp k t q' := fun x e => by
    subst e
    unfold Stp
    split
    · simp [dgLen, dig]
    · split
      · intro c d r' _ e
        cases e
        simp [lg]
      · exact nm_10 x
  rcases hc with rfl | ⟨x, e⟩ | ⟨x, rfl⟩
  · unfold Stp
    split
    · rfl
    · split
      · intro c d r' _ e; cases e
      · rfl
  · exact base x e
  · match q with
    | [] => exact base x rfl
    | c :: q2 =>
      unfold Stp at h ⊢
      split
      · rename_i hk
        rw [if_pos hk] at h
        simp only [List.cons_append, dgLen] at h ⊢
        split at h
        · omega
        · rename_i hd; rw [if_neg hd]
      · rename_i hk
        rw [if_neg hk] at h
        split
        · rename_i hk4
          rw [if_pos hk4] at h
          intro c' d r' e1 e2
          rw [List.cons_append] at e2
          cases e2
          exact h c' c q2 e1 rfl
        · rename_i hk4
          rw [if_neg hk4] at h
          match q2 with
          | [] =>
            simp only [nmLen] at h
            split at h
            · omega
            · rename_i hal
              show nmLen (c :: 10 :: x) = 0
              rw [nm2, if_neg hal]
              have : gk c 10 = false := by simp [gk]
              rw [this]; rfl
          | d :: q3 =>
            show nmLen (c :: d :: (q3 ++ 10 :: x)) = 0
            rw [nm2] at h ⊢
            split at h
            · omega
            · rename_i hal
              split at h
              · omega
              · rename_i hg
                rw [if_neg hal, if_neg hg]
theorem Stp.head {k : Nat} {t : List UInt8} {c : UInt8} {y y' : List UInt8} (h : Stp k t (c :: y)) (hc : c.toNat < 128 ∨ ∃ d z z', y = d :: z ∧ y' = d :: z') : Stp k t (c :: y') := by
  unfold Stp at h ⊢
  split
  · rename_i hk
    rw [if_pos hk, dg1] at h
    rw [dg1]
    split at h
    · omega
    · rename_i hd; rw [if_neg hd]
  · rename_i hk
    rw [if_neg hk] at h
    split
    · rename_i hk4
      rw [if_pos hk4] at h
      intro c' d r' e1 e2
      cases e2
      exact h c' c y e1 rfl
    · rename_i hk4
      rw [if_neg hk4] at h
      have hal : ¬ (al c || dig c) = true := by
        intro hal
        cases y with
        | nil => simp [nmLen, hal] at h
        | cons d z => rw [nm2, if_pos hal] at h; omega
      rcases hc with hc | ⟨d, z, z', rfl, rfl⟩
      · have hg : ∀ d, gk c d = false := fun d => by rw [← Bool.not_eq_true, gk_iff]; omega
        cases y' with
        | nil => simp only [nmLen]; rw [if_neg hal]
        | cons d z => rw [nm2, if_neg hal, hg]; rfl
      · rw [nm2, if_neg hal] at h
        rw [nm2, if_neg hal]
        split at h
        · omega
        · rename_i hg; rw [if_neg hg]
theorem Rch.one {q : List UInt8} {c : UInt8} {a : Nat} {ts : List Tk} (h : Rch q [c] a ts) : c.toNat < 128 := by
  generalize hp : [c] = p at h
  cases h with
  | nil => cases hp
  | bl hb _ => cases hp; have := (bl_iff c).1 hb; omega
  | rem h35 _ _ _ => rw [(List.cons.inj hp).1]; omega
  | @word t p a k n ts hn hp2 =>
    have hle := nextW_le hn
    match t, hle with
    | d :: t', hle =>
      rw [List.cons_append] at hp
      have e := (List.cons.inj hp)
      have e2 : t' = [] := by
        have := e.2.symm
        cases t' with
        | nil => rfl
        | cons _ _ => cases this
      subst e2
      rw [e.1]
      exact nextW_one ((nextW_split [d] (p ++ q) k n).1 hn).1
theorem Rch.cont {q q' p : List UInt8} {a : Nat} {ts : List Tk} (h : Rch q p a ts) (hc : Cn q q') : Rch q' p a ts := by
  induction h with
  | nil a => exact Rch.nil a
  | bl hb _ ih => exact Rch.bl hb ih
  | @rem c r p a ts h35 hr he _ ih =>
    refine Rch.rem h35 hr ?_ ih
    cases p with
    | cons x p =>
      rcases he with he | ⟨x', y, e, hx⟩
      · cases he
      · right; exact ⟨x, p ++ q', rfl, by rw [List.cons_append] at e; rw [(List.cons.inj e).1]; exact hx⟩
    | nil =>
      simp only [List.nil_append] at he ⊢
      rcases hc with rfl | ⟨x, rfl⟩ | ⟨x, rfl⟩
      · left; rfl
      · right; exact ⟨10, x, rfl, rfl⟩
      · rcases he with rfl | ⟨x', y, rfl, hx⟩
        · right; exact ⟨10, x, rfl, rfl⟩
        · right; exact ⟨x', y ++ 10 :: x, rfl, hx⟩
  | @word t p a k n ts hn hp ih =>
    refine Rch.word ?_ ih
    rw [nextW_split] at hn ⊢
    refine ⟨hn.1, ?_⟩
    cases p with
    | nil => exact hn.2.cont hc
    | cons c p =>
      refine Stp.head (y := p ++ q) hn.2 ?_
      cases p with
      | nil => exact Or.inl hp.one
      | cons d p => exact Or.inr ⟨d, _, _, rfl, rfl⟩
end Go.Proofs.YtmikilpklnnekaaDoor

/- Layer 5, plain: a fault, and what comes behind it. -/
namespace Go.Proofs.YtmikilpklnnekaaDoor

theorem lg_10 (c : UInt8) : lg c 10 = false := by simp [lg]
theorem gk_10 (c : UInt8) : gk c 10 = false := by simp [gk]
theorem lsz_nl {l : List UInt8} (x : List UInt8) (h : l ≠ []) : lsz (l ++ 10 :: x) = lsz l := by
  match l with
  | [] => exact absurd rfl h
  | [c] => show lsz (c :: 10 :: x) = lsz [c]; rw [lsz2, lsz1, gk_10]; rfl
  | c :: d :: r => rfl
theorem sg_nl {l : List UInt8} (x : List UInt8) (h : l ≠ []) : sgLen (l ++ 10 :: x) = sgLen l := by
  match l with
  | [] => exact absurd rfl h
  | [c] => show sgLen (c :: 10 :: x) = sgLen [c]; rw [sg2, sg1, lg_10]; rfl
  | c :: d :: r => rfl
theorem dg_nl : ∀ (l x : List UInt8), dgLen (l ++ 10 :: x) = dgLen l
  | [], x => by show dgLen (10 :: x) = 0; rw [dg1]; rfl
  | c :: l, x => by
    rw [List.cons_append, dg1, dg1, dg_nl l x]
theorem nm_nl : ∀ (l x : List UInt8), nmLen (l ++ 10 :: x) = nmLen l ∧ nmCnt (l ++ 10 :: x) = nmCnt l
  | [], x => ⟨nm_10 x, cnt_zero (nm_10 x)⟩
  | [c], x => by
    show nmLen (c :: 10 :: x) = nmLen [c] ∧ nmCnt (c :: 10 :: x) = nmCnt [c]
    rw [nm2, nmCnt2, gk_10, nm_10, cnt_zero (nm_10 x)]
    simp only [nmLen, nmCnt]
    split <;> simp
  | c :: d :: l, x => by
    have h1 := nm_nl (d :: l) x
    have h2 := nm_nl l x
    simp only [List.cons_append] at h1 ⊢
    rw [nm2, nm2, nmCnt2, nmCnt2, h1.1, h1.2, h2.1, h2.2]
    exact ⟨rfl, rfl⟩
theorem nextW_nl {l : List UInt8} (x : List UInt8) (h : l ≠ []) : nextW (l ++ 10 :: x) = nextW l := by
  have h1 := nm_le l
  have h2 := dg_le l
  have hh : (l ++ 10 :: x).head? = l.head? := by
    cases l with
    | nil => exact absurd rfl h
    | cons c r => rfl
  unfold nextW
  rw [lsz_nl x h, sg_nl x h, dg_nl, (nm_nl l x).1, (nm_nl l x).2, hh, List.take_append_of_le_length h1, List.take_append_of_le_length h2]

theorem fault {l : List UInt8} {a : Nat} (h : R l 0 [] = .bad a 2) : a ≤ l.length ∧ (∃ ts, R (l.take a) 0 [] = .ok ts) ∧ ∀ x, R (l ++ 10 :: x) 0 [] = .bad a 2 := by
  obtain ⟨p, c, q, ts, rfl, hr, rfl, hb, h35, hn, hl⟩ := rch_bad l.length l 0 a [] (Nat.le_refl _) (by simp) h
  simp only [List.length_nil, Nat.zero_add] at hl ⊢
  refine ⟨by rw [List.length_append]; omega, ⟨ts, ?_⟩, fun x => ?_⟩
  · rw [List.take_left' rfl]
    have := (hr.cont (q' := []) (Or.inl rfl)).run [] (by simpa using hl)
    rw [List.append_nil] at this
    rw [this, R_nil, List.nil_append]
  · have := (hr.cont (q' := (c :: q) ++ 10 :: x) (Or.inr (Or.inr ⟨x, rfl⟩))).run [] (by simpa using hl)
    rw [List.append_assoc, this, List.cons_append, R_none _ _ _ hb h35 (by rw [← List.cons_append, nextW_nl x (by simp)]; exact hn), Nat.zero_add]
end Go.Proofs.YtmikilpklnnekaaDoor

/- Layer 5: the walk of the statement LexFault. -/
namespace Go.Proofs.YtmikilpklnnekaaDoor
open Go.RowKit

theorem bs_cat (a b : ByteArray) : bs (a ++ b) = bs a ++ bs b := Joins.data_append a b

set_option maxRecDepth 100000 in
set_option maxHeartbeats 4000000 in
theorem lexFault_any (s more : ByteArray) (w : World) (hv : Vs w) (hs0 : s.size ≤ 9223372036854775807) (hm0 : more.size ≤ 9223372036854775807) :
    Calls Tryd.prog 8 #[.string s, .string more] w fun e w' => e = .returned (.bool true) ∧ Below w.heap.size w w' := by
  go_enter Tryd.func8, Tryd.ntmps8
  go_wp2_with fail
  refine (lawake_any _ hv).mono ?_
  rintro e w1 ⟨rfl, b1⟩
  have V1 := hv.kept b1
  by_cases hs : s.size ≤ 4000
  · by_cases hm : more.size ≤ 3000
    · have hs' : (s.size : Int) ≤ 4000 := by omega
      have hm' : (more.size : Int) ≤ 3000 := by omega
      go_wp2_with fail
      refine (read_any s _ V1).mono ?_
      rintro e w2 ⟨hR, hb⟩
      have b2 := nxt b1 hb
      have V2 := V1.kept hb
      have hr : readV (bs s) = R (bs s) 0 [] := by unfold readV; rw [if_neg (by rw [bs_len]; omega)]
      clear hb V1 b1
      cases hq : readV (bs s) with
      | ok ts =>
        rw [hq] at hR
        obtain ⟨v, rfl, _⟩ := hR
        clear hr
        go_wp2
        go_ret
        exact ⟨rfl, b2⟩
      | bad a c =>
        rw [hq] at hR
        have hR' : e = .returned (.tuple #[.slice none 0 0, .int .i64 a, .int .i64 c]) := hR
        subst hR'
        by_cases hc : c = 2
        · subst hc
          obtain ⟨ha, ⟨ts, hp⟩, hx⟩ := fault (hr.symm.trans hq)
          rw [bs_len] at ha
          have a0 : (0 : Int) ≤ a := by omega
          have a1 : (a : Int) ≤ s.size := by omega
          have HP : Hid (readV (bs (s.extract 0 a)) = .ok ts) := by
            show readV _ = _
            unfold readV
            rw [bs_take, if_neg (by rw [List.length_take, bs_len]; omega)]; exact hp
          have HX : Hid (readV (bs (s ++ ⟨#[10]⟩ ++ more)) = .bad a 2) := by
            show readV _ = _
            unfold readV
            rw [bs_cat, bs_cat, if_neg (by rw [List.length_append, List.length_append, bs_len, bs_len]; show ¬ 8192 < s.size + 1 + more.size; omega), List.append_assoc]
            exact hx (bs more)
          clear hr hq hp hx hR
          go_wp2_with fail
          refine (read_any _ _ V2).mono ?_
          rintro e w3 ⟨hR, hb⟩
          rw [HP.out] at hR
          obtain ⟨v, rfl, _⟩ := hR
          have b3 := nxt b2 hb
          have V3 := V2.kept hb
          clear hb V2 b2
          go_wp2_with fail
          refine (read_any _ _ V3).mono ?_
          rintro e w4 ⟨hR, hb⟩
          rw [HX.out] at hR
          have hR' : e = .returned (.tuple #[.slice none 0 0, .int .i64 a, .int .i64 2]) := hR
          subst hR'
          have b4 := nxt b3 hb
          clear hb V3 b3 hR
          go_wp2
          go_ret
          exact ⟨rfl, b4⟩
        · have c2 : ((c : Int) != 2) = true := by rw [bne_iff_ne]; omega
          clear hr hq hR
          go_wp2
          go_ret
          exact ⟨rfl, b2⟩
    · have hs' : (s.size : Int) ≤ 4000 := by omega
      have hm' : (3000 : Int) < more.size := by omega
      go_wp2_with fail
      refine (lawake_any _ V1).mono ?_
      rintro e w2 ⟨rfl, hb⟩
      go_wp2
      go_ret
      exact ⟨rfl, nxt b1 hb⟩
  · have hs' : (4000 : Int) < s.size := by omega
    go_wp2_with fail
    refine (lawake_any _ V1).mono ?_
    rintro e w2 ⟨rfl, hb⟩
    go_wp2
    go_ret
    exact ⟨rfl, nxt b1 hb⟩
end Go.Proofs.YtmikilpklnnekaaDoor

/- Layer 5: what the row says of the variables, as the walks want it. -/
namespace Go.Proofs.YtmikilpklnnekaaDoor
open Go.RowKit

theorem strs_of_tab {H : Type} {enc : TypeId × Value → H} {P : Program} {w : World} {base : Nat} {sp : Nat → Bool} {held : Bool} {fuel : Nat} {t e : TypeId} {n : Nat} {cs : List Value} {zs : List (List UInt8)} {p : List MemPlace}
    (ht : P.underlying t = some (.array n e)) (he : P.underlying e = some .string) (hce : P.cellsOf e = 1) (hct : P.cellsOf t = n)
    (h : DataW.trod enc P w base sp held fuel t cs = some (.agg (zs.map fun z => .lit (.string z)), p)) : cs = zs.map fun z => Value.string (str z) := by
  cases fuel with
  | zero => simp [DataW.trod] at h
  | succ fuel =>
    simp only [DataW.trod, ht, hce, hct, Nat.mul_one] at h
    split at h
    · rename_i hl
      obtain ⟨xs, hm, hx⟩ := Option.map_eq_some_iff.1 h
      have hxs : xs.map (·.1) = zs.map fun z => (DataW.lit (.string z) : DataW H) := by
        have := congrArg Prod.fst hx
        simpa using this
      have hxl : xs.length = n := by simpa using Lib.mapM_length hm
      have hzl : zs.length = n := by
        have := congrArg List.length hxs
        simp at this
        omega
      apply List.ext_getElem?
      intro i
      by_cases hi : i < n
      · obtain ⟨b, hb, hf⟩ := Lib.mapM_at hm i i (by simp [hi])
        obtain ⟨z, hc, rfl, _⟩ := DataW.trod_string he hf
        have h1 : cs[i]? = some (.string z) := by
          have := congrArg (·[0]?) hc
          simpa [List.getElem?_take, List.getElem?_drop] using this
        have h2 : (xs.map (·.1))[i]? = some (DataW.lit (.string z.data.toList) : DataW H) := by simp [hb]
        rw [hxs] at h2
        simp only [List.getElem?_map, Option.map_eq_some_iff, DataW.lit.injEq, Lit.string.injEq] at h2
        obtain ⟨z', hz', rfl⟩ := h2
        have : str z.data.toList = z := str_bs z
        simp [h1, hz', this]
      · rw [List.getElem?_eq_none (by omega), List.getElem?_eq_none (by simp; omega)]
    · cases h

theorem Tryd.starE : "*" ++ "errors.errorString" = "*errors.errorString" := by decide
theorem Tryd.rowE (u : TypeId) (h : Tryd.prog.typeName? 3 u = some "*errors.errorString") : u = 78 :=
  typeName_ptr_named (nm := "errors.errorString") (by rw [Tryd.starE]; kernel_rfl) (by kernel_rfl) (by decide) u (by rw [Tryd.starE]; exact h)
theorem Tryd.gETy : (Tryd.prog.globals[2]?).map (·.type) = some 56 := by kernel_rfl
theorem Tryd.gLN : Tryd.prog.globalNamed "palisade/lex.longSigns" = some 0 := by kernel_rfl
theorem Tryd.gLTy : (Tryd.prog.globals[0]?).map (·.type) = some 59 := by kernel_rfl
theorem sign_data : (Rows.laid_palisade_lex_longSigns : DataW Unit) = .agg ([[61, 61], [61, 62], [45, 62], [58, 61]].map fun z => .lit (.string z)) := rfl

theorem vs_of_laid {W : World} (h0 : laidMetH Tryd.prog Rows.lexFaultRow.laid W) : Vs W := by
  rw [MakeChecks.laidMetH_plain _ _ _ (by kernel_rfl)] at h0
  have h : laidMet Tryd.prog [("math/bits.deBruijn32tab", Rows.laid_math_bits_deBruijn32tab), ("math/bits.deBruijn64tab", Rows.laid_math_bits_deBruijn64tab), ("internal/strconv.uint64pow10", Rows.laid_internal_strconv_uint64pow10), ("strconv.ErrRange", Rows.laid_strconv_ErrRange), ("strconv.ErrSyntax", Rows.laid_strconv_ErrSyntax), ("palisade/lex.longSigns", Rows.laid_palisade_lex_longSigns)] W := h0
  have h3 := h.tail.tail.tail
  obtain ⟨a1, s1, hv1, -, -, -⟩ := laid_sentinel (n := "strconv.ErrRange") h3 Tryd.errNamed Tryd.gETy Tryd.underlying56 Tryd.rowE Tryd.underlying78 Tryd.underlying80 rfl rfl Tryd.underlying9 (by kernel_rfl) (by kernel_rfl)
  have h5 := h3.tail.tail
  obtain ⟨ps, ⟨g0, t0, cs0, f0, p0, q0, hg0, ht0, hv0, hd0, _, _⟩, _⟩ := h5
  obtain rfl := Option.some.inj (Tryd.gLN.symm.trans hg0)
  obtain rfl := Option.some.inj (Tryd.gLTy.symm.trans ht0)
  rw [sign_data] at hd0
  have hcs := strs_of_tab Tryd.underlying59 Tryd.underlying9 (by kernel_rfl) (by kernel_rfl) hd0
  have hcell : ∀ j, W.cell? ⟨0, j, none⟩ = cs0[j]? := fun j => World.var?_cell Tryd.gLN hv0 j
  have hget : ∀ j, cs0[j]? = ([[61, 61], [61, 62], [45, 62], [58, 61]].map fun z => Value.string (str z))[j]? := fun j => by
    rw [← hcs, Array.getElem?_toList]
  exact ⟨⟨_, _, hv1⟩, (hcell 0).trans (hget 0), (hcell 1).trans (hget 1), (hcell 2).trans (hget 2), (hcell 3).trans (hget 3)⟩
end Go.Proofs.YtmikilpklnnekaaDoor
