/- Layer 5, plain: what stands ahead of a place, and what may come behind it. -/
import Derived.Test.YtgpaeilnpeflaaaDoorP3
namespace Go.Proofs.YtgpaeilnpeflaaaDoor

theorem nm2 (c d : UInt8) (r : List UInt8) : nmLen (c :: d :: r) = if al c || dig c then nmLen (d :: r) + 1 else if gk c d then nmLen r + 2 else 0 := by rw [nmLen]
theorem nmCnt2 (c d : UInt8) (r : List UInt8) : nmCnt (c :: d :: r) = if al c || dig c then nmCnt (d :: r) + 1 else if gk c d then nmCnt r + 1 else 0 := by rw [nmCnt]
theorem dg1 (c : UInt8) (r : List UInt8) : dgLen (c :: r) = if dig c then dgLen r + 1 else 0 := by rw [dgLen]

theorem lsz1 (c : UInt8) : lsz [c] = if al c then 1 else 0 := rfl
theorem lsz2 (c d : UInt8) (r : List UInt8) : lsz (c :: d :: r) = if al c then 1 else if gk c d then 2 else 0 := rfl
theorem sg1 (c : UInt8) : sgLen [c] = if sg c then 1 else 0 := rfl
theorem sg2 (c d : UInt8) (r : List UInt8) : sgLen (c :: d :: r) = if lg c d then 2 else if sg c then 1 else 0 := rfl

theorem nm_app : ∀ t r : List UInt8, nmLen t = t.length → nmLen (t ++ r) = t.length + nmLen r ∧ nmCnt (t ++ r) = nmCnt t + nmCnt r
  | [], r, _ => by simp [nmCnt]
  | [c], [], h => by simp only [List.append_nil]; rw [h]; simp [nmLen, nmCnt]
  | [c], d :: r, h => by
    have hc : (al c || dig c) = true := by
      unfold nmLen at h; split at h
      · assumption
      · simp at h
    simp only [List.cons_append, List.nil_append, nmLen, nmCnt, hc, if_true, List.length_cons, List.length_nil]
    omega
  | c :: d :: t, r, h => by
    simp only [List.cons_append, nm2, nmCnt2] at h ⊢
    by_cases hc : (al c || dig c) = true
    · simp only [hc, if_true, List.length_cons] at h ⊢
      have := nm_app (d :: t) r (by simp only [List.length_cons]; omega)
      simp only [List.cons_append, List.length_cons] at this
      omega
    · simp only [hc, Bool.false_eq_true, if_false, List.length_cons] at h ⊢
      split at h
      · rename_i hg
        simp only [hg, if_true]
        have := nm_app t r (by omega)
        omega
      · omega
theorem nm_app' : ∀ t r : List UInt8, nmLen (t ++ r) = t.length → nmLen t = t.length ∧ nmLen r = 0
  | [], r, h => by simpa [nmLen] using h
  | [c], [], h => by simpa [nmLen] using h
  | [c], d :: r, h => by
    simp only [List.cons_append, List.nil_append, List.length_cons, List.length_nil] at h
    unfold nmLen at h
    by_cases hc : (al c || dig c) = true
    · simp only [hc, if_true] at h
      refine ⟨by simp [nmLen, hc], by omega⟩
    · simp only [hc, Bool.false_eq_true, if_false] at h
      split at h <;> omega
  | c :: d :: t, r, h => by
    simp only [List.cons_append, List.length_cons] at h
    unfold nmLen at h
    by_cases hc : (al c || dig c) = true
    · simp only [hc, if_true] at h
      have := nm_app' (d :: t) r (by simp only [List.cons_append, List.length_cons]; omega)
      refine ⟨?_, this.2⟩
      unfold nmLen
      simp only [hc, if_true, this.1, List.length_cons]
    · simp only [hc, Bool.false_eq_true, if_false] at h
      split at h
      · rename_i hg
        have := nm_app' t r (by omega)
        refine ⟨?_, this.2⟩
        unfold nmLen
        simp only [hc, hg, Bool.false_eq_true, if_false, if_true, this.1, List.length_cons]
      · omega
theorem cnt_zero {r : List UInt8} (h : nmLen r = 0) : nmCnt r = 0 := by
  match r with
  | [] => rfl
  | [c] => unfold nmLen at h; unfold nmCnt; split at h <;> simp_all
  | c :: d :: r =>
    unfold nmLen at h
    unfold nmCnt
    split at h
    · omega
    · split at h
      · omega
      · simp_all
theorem dg_app : ∀ t r : List UInt8, dgLen t = t.length → dgLen (t ++ r) = t.length + dgLen r
  | [], r, _ => by simp
  | c :: t, r, h => by
    unfold dgLen at h
    split at h
    · rename_i hc
      simp only [List.length_cons] at h
      have := dg_app t r (by omega)
      simp only [List.cons_append, List.length_cons, dg1]
      simp only [hc, if_true]; omega
    · simp at h
theorem dg_app' : ∀ t r : List UInt8, dgLen (t ++ r) = t.length → dgLen t = t.length ∧ dgLen r = 0
  | [], r, h => by simpa [dgLen] using h
  | c :: t, r, h => by
    simp only [List.cons_append, List.length_cons] at h
    unfold dgLen at h
    split at h
    · rename_i hc
      have := dg_app' t r (by omega)
      refine ⟨?_, this.2⟩
      unfold dgLen
      simp only [hc, if_true, this.1, List.length_cons]
    · omega
theorem dig_low {c : UInt8} (h : dig c = true) : al c = false ∧ ∀ d, gk c d = false := by
  have := (dig_iff c).1 h
  refine ⟨?_, fun d => ?_⟩
  · rw [← Bool.not_eq_true, al_iff]; omega
  · rw [← Bool.not_eq_true, gk_iff]; omega
theorem lsz_dig {c : UInt8} (r : List UInt8) (h : dig c = true) : lsz (c :: r) = 0 := by
  unfold lsz
  have := dig_low h
  cases r <;> simp [this.1, this.2]
theorem lsz_app (t r : List UInt8) (h0 : t ≠ []) (h : nmLen t = t.length) : lsz (t ++ r) = lsz t := by
  match t with
  | [] => exact absurd rfl h0
  | [c] =>
    unfold nmLen at h
    split at h
    · rename_i hc
      by_cases ha : al c = true
      · simp [lsz, ha]
      · have hd : dig c = true := by simpa [ha] using hc
        rw [List.cons_append, lsz_dig _ hd, lsz_dig _ hd]
    · simp at h
  | c :: d :: t => simp [lsz]
theorem sg_low {c : UInt8} (h : sg c = true) : al c = false ∧ dig c = false ∧ bl c = false ∧ c.toNat ≠ 35 ∧ c.toNat < 128 := by
  unfold sg sgs at h
  simp only [List.contains_eq_mem, List.mem_cons, List.not_mem_nil, or_false, decide_eq_true_eq] at h
  rcases h with h | h | h | h | h | h | h | h | h | h | h | h | h | h | h | h | h | h | h <;> subst h <;> decide
theorem lg_sg {c d : UInt8} (h : lg c d = true) : sg c = true := by
  unfold lg at h
  simp only [Bool.or_eq_true, Bool.and_eq_true, beq_iff_eq] at h
  have hc : c.toNat = 61 ∨ c.toNat = 45 ∨ c.toNat = 58 := by omega
  rcases hc with hc | hc | hc
  · have : c = 61 := UInt8.toNat_inj.1 hc
    subst this; decide
  · have : c = 45 := UInt8.toNat_inj.1 hc
    subst this; decide
  · have : c = 58 := UInt8.toNat_inj.1 hc
    subst this; decide
theorem lsz_sg {c : UInt8} (r : List UInt8) (h : sg c = true) : lsz (c :: r) = 0 := by
  have := sg_low h
  unfold lsz
  have hg : ∀ d, gk c d = false := fun d => by rw [← Bool.not_eq_true, gk_iff]; omega
  cases r <;> simp [this.1, hg]
theorem dg_sg {c : UInt8} (r : List UInt8) (h : sg c = true) : dgLen (c :: r) = 0 := by
  unfold dgLen; simp [(sg_low h).2.1]

/-- What comes behind does not go on with the word. -/
def Stp (k : Nat) (t r : List UInt8) : Prop :=
  if k = 3 then dgLen r = 0 else if k = 4 then (∀ c d r', t = [c] → r = d :: r' → lg c d = false) else nmLen r = 0

theorem take_app (t r : List UInt8) : (t ++ r).take t.length = t := by simp

theorem nextW_name {t : List UInt8} (r : List UInt8) (h0 : t ≠ []) (h1 : 0 < lsz t) (h2 : nmLen t = t.length) (h3 : nmLen r = 0) : nextW (t ++ r) = nextW t := by
  have a1 := lsz_app t r h0 h2
  obtain ⟨a2, a3⟩ := nm_app t r h2
  rw [h3] at a2; rw [cnt_zero h3] at a3
  unfold nextW
  rw [a1, if_pos h1, if_pos h1, a2, a3, h2, Nat.add_zero, Nat.add_zero, take_app, List.take_length]
theorem nextW_num {t : List UInt8} (r : List UInt8) (h1 : ¬ 0 < lsz t) (h2 : dgLen t = t.length) (h0 : 0 < dgLen t) (h3 : dgLen r = 0) : nextW (t ++ r) = nextW t := by
  have a2 := dg_app t r h2
  rw [h3] at a2
  match t, h0 with
  | c :: t', h0 =>
    have hc : dig c = true := by unfold dgLen at h0; split at h0; assumption; omega
    have a1 : lsz (c :: t' ++ r) = 0 := lsz_dig _ hc
    unfold nextW
    rw [a1, if_neg (by omega), if_neg h1, a2, Nat.add_zero, h2, take_app, List.take_length]
    rfl
theorem nextW_split (t r : List UInt8) (k n : Nat) : nextW (t ++ r) = some (k, t.length, n) ↔ nextW t = some (k, t.length, n) ∧ Stp k t r := by
  constructor
  · intro h
    have hl := nextW_le h
    have h0 : t ≠ [] := by intro e; subst e; simp at hl
    have hh := h
    unfold nextW at h
    split at h
    · rename_i hz
      split at h
      · simp only [Option.some.injEq, Prod.mk.injEq] at h
        obtain ⟨hk, hm, hn⟩ := h
        obtain ⟨b1, b2⟩ := nm_app' t r hm
        rw [lsz_app t r h0 b1] at hz
        refine ⟨(nextW_name r h0 hz b1 b2).symm.trans hh, ?_⟩
        unfold Stp
        have : k = 1 ∨ k = 2 := by rw [← hk]; split <;> simp
        rw [if_neg (by omega), if_neg (by omega)]; exact b2
      · cases h
    · rename_i hz
      split at h
      · rename_i hd
        split at h
        · simp only [Option.some.injEq, Prod.mk.injEq] at h
          obtain ⟨hk, hm, hn⟩ := h
          obtain ⟨b1, b2⟩ := dg_app' t r hm
          have hz' : ¬ 0 < lsz t := by
            match t, h0 with
            | c :: t', _ =>
              have hc : dig c = true := by unfold dgLen at b1; split at b1; assumption; simp at b1
              rw [lsz_dig _ hc]; omega
          refine ⟨(nextW_num r hz' b1 (by omega) b2).symm.trans hh, ?_⟩
          unfold Stp
          rw [if_pos hk.symm]; exact b2
        · cases h
      · rename_i hd
        split at h
        · simp only [Option.some.injEq, Prod.mk.injEq] at h
          obtain ⟨hk, hm, hn⟩ := h
          subst hk hn
          match t, h0 with
          | [c], _ =>
            have hs : sg c = true ∧ ∀ d r', r = d :: r' → lg c d = false := by
              match r with
              | [] =>
                simp only [List.cons_append, List.nil_append, sgLen, List.length_cons, List.length_nil] at hm
                split at hm
                · exact ⟨by assumption, by intro d r' e; cases e⟩
                · omega
              | d :: r =>
                simp only [List.cons_append, List.nil_append, sgLen, List.length_cons, List.length_nil] at hm
                split at hm
                · omega
                · rename_i hl2
                  split at hm
                  · refine ⟨by assumption, ?_⟩
                    intro d' r' e; cases e; simpa using hl2
                  · omega
            refine ⟨?_, ?_⟩
            · unfold nextW
              rw [lsz_sg [] hs.1, if_neg (by omega), dg_sg [] hs.1, if_neg (by omega)]
              simp [sgLen, hs.1]
            · unfold Stp
              rw [if_neg (by omega), if_pos rfl]
              intro c' d r' e1 e2
              cases e1
              exact hs.2 d r' e2
          | [c, d], _ =>
            have hs : lg c d = true := by
              simp only [List.cons_append, List.nil_append, sgLen, List.length_cons, List.length_nil] at hm
              split at hm
              · assumption
              · split at hm <;> omega
            refine ⟨?_, ?_⟩
            · unfold nextW
              rw [lsz_sg _ (lg_sg hs), if_neg (by omega), dg_sg _ (lg_sg hs), if_neg (by omega)]
              simp [sgLen, hs]
            · unfold Stp
              rw [if_neg (by omega), if_pos rfl]
              intro c' d r' e1 e2
              cases e1
          | c :: d :: e :: t', _ =>
            simp only [List.cons_append, sgLen, List.length_cons] at hm
            split at hm
            · omega
            · split at hm <;> omega
        · cases h
  · rintro ⟨h, hs⟩
    have hl := nextW_le h
    have h0 : t ≠ [] := by intro e; subst e; simp at hl
    have hh := h
    unfold nextW at h
    split at h
    · rename_i hz
      split at h
      · simp only [Option.some.injEq, Prod.mk.injEq] at h
        obtain ⟨hk, hm, hn⟩ := h
        have : k = 1 ∨ k = 2 := by rw [← hk]; split <;> simp
        unfold Stp at hs
        rw [if_neg (by omega), if_neg (by omega)] at hs
        exact (nextW_name r h0 hz hm hs).trans hh
      · cases h
    · rename_i hz
      split at h
      · rename_i hd
        split at h
        · simp only [Option.some.injEq, Prod.mk.injEq] at h
          obtain ⟨hk, hm, hn⟩ := h
          unfold Stp at hs
          rw [if_pos hk.symm] at hs
          exact (nextW_num r hz hm hd hs).trans hh
        · cases h
      · rename_i hd
        split at h
        · simp only [Option.some.injEq, Prod.mk.injEq] at h
          obtain ⟨hk, hm, hn⟩ := h
          subst hk hn
          unfold Stp at hs
          rw [if_neg (by omega), if_pos rfl] at hs
          match t, h0 with
          | [c], _ =>
            have hc : sg c = true := by
              simp only [sgLen, List.length_cons, List.length_nil] at hm
              split at hm
              · assumption
              · omega
            simp only [List.cons_append, List.nil_append]
            unfold nextW
            rw [lsz_sg _ hc, if_neg (by omega), dg_sg _ hc, if_neg (by omega)]
            match r with
            | [] => simp [sgLen, hc]
            | d :: r => simp [sgLen, hc, hs c d r rfl rfl]
          | [c, d], _ =>
            have hc : lg c d = true := by
              simp only [sgLen, List.length_cons, List.length_nil] at hm
              split at hm
              · assumption
              · split at hm <;> omega
            simp only [List.cons_append, List.nil_append]
            unfold nextW
            rw [lsz_sg _ (lg_sg hc), if_neg (by omega), dg_sg _ (lg_sg hc), if_neg (by omega)]
            simp [sgLen, hc]
          | c :: d :: e :: t', _ =>
            simp only [sgLen, List.length_cons] at hm
            split at hm
            · omega
            · split at hm <;> omega
        · cases h

theorem lsz_head {c : UInt8} {r : List UInt8} (hz : 0 < lsz (c :: r)) : al c = true ∨ 128 ≤ c.toNat := by
  match r with
  | [] =>
    rw [lsz1] at hz
    split at hz
    · left; assumption
    · omega
  | d :: r =>
    rw [lsz2] at hz
    split at hz
    · left; assumption
    · split at hz
      · rename_i hg
        have := (gk_iff _ _).1 hg
        right; omega
      · omega
theorem sg_head {c : UInt8} {r : List UInt8} (hs : 0 < sgLen (c :: r)) : sg c = true := by
  match r with
  | [] =>
    rw [sg1] at hs
    split at hs
    · assumption
    · omega
  | d :: r =>
    rw [sg2] at hs
    split at hs
    · exact lg_sg (by assumption)
    · split at hs
      · assumption
      · omega
theorem dg_head {c : UInt8} {r : List UInt8} (hd : 0 < dgLen (c :: r)) : dig c = true := by
  rw [dg1] at hd; split at hd
  · assumption
  · omega
theorem nextW_head {c : UInt8} {r : List UInt8} {x : Nat × Nat × Nat} (h : nextW (c :: r) = some x) : bl c = false ∧ c.toNat ≠ 35 := by
  unfold nextW at h
  split at h
  · rename_i hz
    rw [← Bool.not_eq_true, bl_iff]
    rcases lsz_head hz with hc | hc
    · have := (al_iff c).1 hc; omega
    · omega
  · split at h
    · rename_i hd
      have := (dig_iff c).1 (dg_head hd)
      rw [← Bool.not_eq_true, bl_iff]; omega
    · split at h
      · rename_i hs
        have hc := sg_head hs
        exact ⟨(sg_low hc).2.2.1, (sg_low hc).2.2.2.1⟩
      · cases h
theorem nextW_one {c : UInt8} {k n : Nat} (h : nextW [c] = some (k, 1, n)) : c.toNat < 128 := by
  unfold nextW at h
  split at h
  · rename_i hz
    rw [lsz1] at hz
    split at hz
    · rename_i hc; have := (al_iff c).1 hc; omega
    · simp at hz
  · split at h
    · rename_i hd
      have := (dig_iff c).1 (dg_head hd); omega
    · split at h
      · rename_i hs
        exact (sg_low (sg_head hs)).2.2.2.2
      · cases h

/-- From a text p, ahead of q, these words are read. -/
inductive Rch (q : List UInt8) : List UInt8 → Nat → List Tk → Prop
  | nil (a : Nat) : Rch q [] a []
  | bl {c : UInt8} {p : List UInt8} {a : Nat} {ts : List Tk} (h : bl c = true) (hp : Rch q p (a + 1) ts) : Rch q (c :: p) a ts
  | rem {c : UInt8} {r p : List UInt8} {a : Nat} {ts : List Tk} (h : c.toNat = 35) (hr : ∀ x ∈ r, x.toNat ≠ 10) (he : p ++ q = [] ∨ ∃ x y, p ++ q = x :: y ∧ x.toNat = 10) (hp : Rch q p (a + (r.length + 1)) ts) : Rch q (c :: (r ++ p)) a ts
  | word {t p : List UInt8} {a k n : Nat} {ts : List Tk} (h : nextW (t ++ (p ++ q)) = some (k, t.length, n)) (hp : Rch q p (a + t.length) ts) : Rch q (t ++ p) a (⟨k, t, n, a⟩ :: ts)

theorem rem_eq : ∀ (r x : List UInt8), (∀ y ∈ r, y.toNat ≠ 10) → (x = [] ∨ ∃ y z, x = y :: z ∧ y.toNat = 10) → remLen (r ++ x) = r.length
  | [], x, _, h => by
    rcases h with rfl | ⟨y, z, rfl, hy⟩
    · rfl
    · simp [remLen, hy]
  | c :: r, x, hr, h => by
    simp only [List.cons_append, remLen]
    rw [if_neg (by simpa using hr c (by simp)), rem_eq r x (fun y hy => hr y (by simp [hy])) h]
    rfl
theorem Rch.run {q p : List UInt8} {a : Nat} {ts : List Tk} (h : Rch q p a ts) : ∀ acc : List Tk, acc.length + ts.length ≤ 2000 → R (p ++ q) a acc = R q (a + p.length) (acc ++ ts) := by
  induction h with
  | nil a => intro acc _; simp
  | bl h _ ih =>
    intro acc hl
    rw [List.cons_append, R_bl _ _ _ h, ih acc hl, List.length_cons]
    congr 1; omega
  | @rem c r p a ts h hr he _ ih =>
    intro acc hl
    have e : remLen (c :: (r ++ (p ++ q))) = r.length + 1 := by
      have := rem_eq (c :: r) (p ++ q) (fun y hy => by
        rcases List.mem_cons.1 hy with rfl | hy
        · omega
        · exact hr y hy) he
      simpa using this
    rw [List.cons_append, List.append_assoc, R_rem _ _ _ h, e, List.drop_succ_cons, List.drop_left, ih acc hl]
    simp only [List.length_cons, List.length_append]
    congr 1; omega
  | @word t p a k n ts h _ ih =>
    intro acc hl
    have hle := nextW_le h
    simp only [List.length_cons] at hl
    match t, hle, h with
    | c :: t', hle, h =>
      have hd := nextW_head (c := c) (r := t' ++ (p ++ q)) h
      rw [List.append_assoc]
      have e := R_word (c := c) (t' ++ (p ++ q)) a acc hd.1 hd.2 h (by omega)
      rw [← List.cons_append, List.drop_left, take_app] at e
      rw [e, ih _ (by simp only [List.length_append, List.length_cons, List.length_nil]; omega)]
      rw [List.length_append, List.append_assoc, Nat.add_assoc]
      rfl
end Go.Proofs.YtgpaeilnpeflaaaDoor

/- Layer 5: runes of a text, and its bytes. -/
namespace Go.Proofs.YtgpaeilnpeflaaaDoor
open Go.RowKit

def bs (s : ByteArray) : List UInt8 := s.data.toList
theorem bs_len (s : ByteArray) : (bs s).length = s.size := by unfold bs; simp
theorem bs_get (s : ByteArray) (i : Nat) (h : i < s.size) : (bs s)[i]'(by rw [bs_len]; exact h) = s[i]'h := by
  unfold bs; simp; rfl
theorem bs_drop (s : ByteArray) (i : Nat) (h : i < s.size) : (bs s).drop i = s[i]'h :: (bs s).drop (i + 1) := by
  rw [List.drop_eq_getElem_cons (by rw [bs_len]; exact h), bs_get]
theorem bs_end (s : ByteArray) (i : Nat) (h : ¬ i < s.size) : (bs s).drop i = [] := List.drop_eq_nil_of_le (by rw [bs_len]; omega)

theorem al_letter {c : UInt8} (h : c.toNat < 128) : letterB (c.toNat : Nat) = al c := by
  rw [Bool.eq_iff_iff, al_iff]; unfold letterB
  simp only [Bool.or_eq_true, Bool.and_eq_true, decide_eq_true_eq]
  omega
theorem dig_digit (c : UInt8) : digitB (c.toNat : Nat) = dig c := by
  rw [Bool.eq_iff_iff, dig_iff]; unfold digitB
  simp only [Bool.and_eq_true, decide_eq_true_eq]
  omega
theorem al_high {c : UInt8} (h : ¬ c.toNat < 128) : al c = false ∧ dig c = false := by
  constructor
  · rw [← Bool.not_eq_true, al_iff]; omega
  · rw [← Bool.not_eq_true, dig_iff]; omega
theorem gk_low {c d : UInt8} (h : c.toNat < 128) : gk c d = false := by
  rw [← Bool.not_eq_true, gk_iff]; omega

/-- What a rune is, by its bytes. -/
theorem rune_low {s : ByteArray} {i : Nat} (hi : i < s.size) (h : (s[i]'hi).toNat < 128) : Utf8.decode s i = ((s[i]'hi).toNat, 1) := decode_ascii s i hi h
theorem rune_gk {s : ByteArray} {i : Nat} (hi : i < s.size) (h1 : i + 1 < s.size) (h : gk (s[i]'hi) (s[i + 1]'h1) = true) : (Utf8.decode s i).2 = 2 ∧ letterB (Utf8.decode s i).1 = true := by
  have hg := (gk_iff _ _).1 h
  rw [decode_greek hi h1 hg]
  refine ⟨rfl, letter_gr ?_ ?_⟩ <;> simp only <;> omega
theorem rune_no {s : ByteArray} {i : Nat} (hi : i < s.size) (h : ¬ (s[i]'hi).toNat < 128) (hg : ∀ h1 : i + 1 < s.size, gk (s[i]'hi) (s[i + 1]'h1) = false) : letterB (Utf8.decode s i).1 = false ∧ digitB (Utf8.decode s i).1 = false := by
  refine decode_ge hi (by omega) ?_
  rintro ⟨h1, hh⟩
  have := (gk_iff (s[i]'hi) (s[i + 1]'h1)).2 hh
  rw [hg h1] at this; cases this

theorem lsz_rune (s : ByteArray) (i : Nat) (hi : i < s.size) : letterB (Utf8.decode s i).1 = decide (0 < lsz ((bs s).drop i)) := by
  rw [bs_drop s i hi]
  by_cases hl : (s[i]'hi).toNat < 128
  · rw [rune_low hi hl, al_letter hl]
    by_cases h1 : i + 1 < s.size
    · rw [bs_drop s (i + 1) h1, lsz2, gk_low hl]
      cases al (s[i]'hi) <;> rfl
    · rw [bs_end s (i + 1) h1, lsz1]
      cases al (s[i]'hi) <;> rfl
  · have ha := al_high hl
    by_cases h1 : i + 1 < s.size
    · rw [bs_drop s (i + 1) h1, lsz2, ha.1]
      by_cases hg : gk (s[i]'hi) (s[i + 1]'h1) = true
      · rw [(rune_gk hi h1 hg).2, hg]; rfl
      · rw [Bool.not_eq_true] at hg
        rw [(rune_no hi hl (fun _ => hg)).1, hg]; rfl
    · rw [bs_end s (i + 1) h1, lsz1, ha.1, (rune_no hi hl (fun h => absurd h h1)).1]; rfl
theorem dg_rune (s : ByteArray) (i : Nat) (hi : i < s.size) : digitB (Utf8.decode s i).1 = decide (0 < dgLen ((bs s).drop i)) := by
  rw [bs_drop s i hi, dg1]
  by_cases hl : (s[i]'hi).toNat < 128
  · rw [rune_low hi hl, dig_digit]
    cases dig (s[i]'hi) <;> simp
  · have ha := al_high hl
    rw [ha.2]
    have : digitB ((Utf8.decode s i).1 : Nat) = false := digit_no (Or.inr (by have := (decode_high s i hi (by omega)).1; omega))
    rw [this]; rfl

theorem spn_name (s : ByteArray) : ∀ (f i : Nat), i ≤ s.size → s.size + 1 ≤ f + i → 1 ≤ f → spn nameR s f i = i + nmLen ((bs s).drop i)
  | 0, i, _, _, h => by omega
  | f + 1, i, hle, hf, _ => by
    by_cases hi : i < s.size
    · rw [bs_drop s i hi]
      by_cases hl : (s[i]'hi).toNat < 128
      · by_cases hc : (al (s[i]'hi) || dig (s[i]'hi)) = true
        · have hp : nameR (Utf8.decode s i).1 = true := by rw [rune_low hi hl]; unfold nameR; rw [al_letter hl, dig_digit]; exact hc
          rw [spn_yes (by omega) hi hp, rune_low hi hl]
          show spn nameR s f (i + 1) = _
          rw [spn_name s f (i + 1) (by omega) (by omega) (by omega)]
          by_cases h1 : i + 1 < s.size
          · rw [bs_drop s (i + 1) h1, nm2, if_pos hc]; omega
          · rw [bs_end s (i + 1) h1]; simp only [nmLen, hc, if_true]
        · have hp : nameR (Utf8.decode s i).1 = false := by rw [rune_low hi hl]; unfold nameR; rw [al_letter hl, dig_digit]; simpa using hc
          rw [spn_no (by omega) hi hp]
          by_cases h1 : i + 1 < s.size
          · rw [bs_drop s (i + 1) h1, nm2, if_neg hc, gk_low hl]; simp
          · rw [bs_end s (i + 1) h1]; simp only [nmLen, hc]; simp
      · have ha := al_high hl
        by_cases h1 : i + 1 < s.size
        · rw [bs_drop s (i + 1) h1, nm2, ha.1, ha.2]
          by_cases hg : gk (s[i]'hi) (s[i + 1]'h1) = true
          · have hr := rune_gk hi h1 hg
            have hp : nameR (Utf8.decode s i).1 = true := by unfold nameR; rw [hr.2]; rfl
            rw [spn_yes (by omega) hi hp, hr.1, hg]
            show spn nameR s f (i + 1 + 1) = _
            rw [spn_name s f (i + 1 + 1) (by omega) (by omega) (by omega)]
            simp only [Bool.or_self, Bool.false_eq_true, if_false, if_true]; omega
          · rw [Bool.not_eq_true] at hg
            have hr := rune_no hi hl (fun _ => hg)
            rw [spn_no (by omega) hi (by unfold nameR; rw [hr.1, hr.2]; rfl), hg]; simp
        · have hr := rune_no hi hl (fun h => absurd h h1)
          rw [spn_no (by omega) hi (by unfold nameR; rw [hr.1, hr.2]; rfl), bs_end s (i + 1) h1]
          simp only [nmLen, ha.1, ha.2]; simp
    · rw [spn_end (by omega) hi, bs_end s i hi]
      show s.size = i + 0
      omega
theorem spn_dig (s : ByteArray) : ∀ (f i : Nat), i ≤ s.size → s.size + 1 ≤ f + i → 1 ≤ f → spn digitB s f i = i + dgLen ((bs s).drop i)
  | 0, i, _, _, h => by omega
  | f + 1, i, hle, hf, _ => by
    by_cases hi : i < s.size
    · have hd := dg_rune s i hi
      rw [bs_drop s i hi, dg1] at hd
      rw [bs_drop s i hi, dg1]
      by_cases hc : dig (s[i]'hi) = true
      · have hl : (s[i]'hi).toNat < 128 := by have := (dig_iff _).1 hc; omega
        rw [spn_yes (by omega) hi (by rw [hd, hc]; simp), rune_low hi hl, hc]
        show spn digitB s f (i + 1) = _
        rw [spn_dig s f (i + 1) (by omega) (by omega) (by omega)]
        simp only [if_true]; omega
      · rw [Bool.not_eq_true] at hc
        rw [spn_no (by omega) hi (by rw [hd, hc]; simp), hc]; simp
    · rw [spn_end (by omega) hi, bs_end s i hi]
      show s.size = i + 0
      omega

/-- A rune's bytes beyond the first: none is below 128. -/
theorem dec_cont {s : ByteArray} {i : Nat} (hi : i < s.size) (h : ¬ (s[i]'hi).toNat < 128) : ∀ j, j < (Utf8.decode s i).2 → ∃ hj : i + j < s.size, 128 ≤ (s[i + j]'hj).toNat := by
  have g0 : (s.get! (i + 0)).toNat = (s[i]'hi).toNat := by rw [get_at s i hi]
  have get : ∀ k, (i + k < s.size && (s.get! (i + k)).toNat / 64 == 2) = true → ∃ hj : i + k < s.size, 128 ≤ (s[i + k]'hj).toNat := fun k hk => by
    simp only [Bool.and_eq_true, decide_eq_true_eq, beq_iff_eq] at hk
    refine ⟨hk.1, ?_⟩
    have := get_plain s (i + k) hk.1
    rw [this] at hk; omega
  intro j hj
  by_cases j0 : j = 0
  · subst j0; exact ⟨hi, by show 128 ≤ (s[i]'hi).toNat; omega⟩
  simp only [Utf8.decode, g0] at hj
  rw [if_neg h] at hj
  split at hj
  · rename_i hc
    simp only [Bool.and_eq_true] at hc
    split at hj
    · have : j = 1 := by simp only at hj; omega
      subst this; exact get 1 (by simpa using hc.2)
    · simp only at hj; omega
  · split at hj
    · rename_i hc
      simp only [Bool.and_eq_true] at hc
      split at hj
      · have : j = 1 ∨ j = 2 := by simp only at hj; omega
        rcases this with rfl | rfl
        · exact get 1 (by simpa using hc.1.2)
        · exact get 2 (by simpa using hc.2)
      · simp only at hj; omega
    · split at hj
      · rename_i hc
        simp only [Bool.and_eq_true] at hc
        split at hj
        · have : j = 1 ∨ j = 2 ∨ j = 3 := by simp only at hj; omega
          rcases this with rfl | rfl | rfl
          · exact get 1 (by simpa using hc.1.1.2)
          · exact get 2 (by simpa using hc.1.2)
          · exact get 3 (by simpa using hc.2)
        · simp only at hj; omega
      · simp only at hj; omega
theorem rem_skip (s : ByteArray) (i : Nat) : ∀ k, (∀ j, j < k → ∃ hj : i + j < s.size, 128 ≤ (s[i + j]'hj).toNat) → remLen ((bs s).drop i) = k + remLen ((bs s).drop (i + k))
  | 0, _ => by simp
  | k + 1, h => by
    rw [rem_skip s i k (fun j hj => h j (by omega)), show i + (k + 1) = i + k + 1 by omega]
    obtain ⟨hj, hb⟩ := h k (by omega)
    rw [bs_drop s (i + k) hj]
    simp only [remLen]
    rw [if_neg (by simp; omega)]
    omega
theorem dec_le {s : ByteArray} {i : Nat} (hi : i < s.size) : i + (Utf8.decode s i).2 ≤ s.size := by
  by_cases hl : (s[i]'hi).toNat < 128
  · rw [rune_low hi hl]; show i + 1 ≤ s.size; omega
  · have h1 := (decode_high s i hi (by omega)).2
    obtain ⟨hj, _⟩ := dec_cont hi hl ((Utf8.decode s i).2 - 1) (by omega)
    omega
theorem spn_line (s : ByteArray) : ∀ (f i : Nat), i ≤ s.size → s.size + 1 ≤ f + i → 1 ≤ f → spn lineR s f i = i + remLen ((bs s).drop i)
  | 0, i, _, _, h => by omega
  | f + 1, i, hle, hf, _ => by
    by_cases hi : i < s.size
    · by_cases hl : (s[i]'hi).toNat < 128
      · rw [bs_drop s i hi]
        by_cases hc : (s[i]'hi).toNat = 10
        · have hp : lineR (Utf8.decode s i).1 = false := by rw [rune_low hi hl]; simp [lineR, hc]
          rw [spn_no (by omega) hi hp]; simp [remLen, hc]
        · have hp : lineR (Utf8.decode s i).1 = true := by rw [rune_low hi hl]; simp only [lineR, bne_iff_ne]; omega
          rw [spn_yes (by omega) hi hp, rune_low hi hl]
          show spn lineR s f (i + 1) = _
          rw [spn_line s f (i + 1) (by omega) (by omega) (by omega)]
          simp only [remLen]
          rw [if_neg (by simpa using hc)]; omega
      · have hh := decode_high s i hi (by omega)
        have hp : lineR (Utf8.decode s i).1 = true := by simp only [lineR, bne_iff_ne]; omega
        rw [spn_yes (by omega) hi hp]
        show spn lineR s f (i + (Utf8.decode s i).2) = _
        rw [spn_line s f _ (dec_le hi) (by omega) (by have := dec_le hi; omega), rem_skip s i _ (dec_cont hi hl)]
        omega
    · rw [spn_end (by omega) hi, bs_end s i hi]
      show s.size = i + 0
      omega

theorem name_spn (s : ByteArray) : spn nameR s (s.size + 1) 0 = nmLen (bs s) := by
  rw [spn_name s _ 0 (by omega) (by omega) (by omega)]; simp
theorem dig_spn (s : ByteArray) : spn digitB s (s.size + 1) 0 = dgLen (bs s) := by
  rw [spn_dig s _ 0 (by omega) (by omega) (by omega)]; simp
theorem line_spn (s : ByteArray) : spn lineR s (s.size + 1) 0 = remLen (bs s) := by
  rw [spn_line s _ 0 (by omega) (by omega) (by omega)]; simp

/-- A text of letters and digits: how many runes it has. -/
theorem rest_cnt (s : ByteArray) : ∀ (m i k : Nat), s.size - i ≤ m → i ≤ s.size → 1 ≤ k → nmLen ((bs s).drop i) = s.size - i → restB s i k = decide (k + nmCnt ((bs s).drop i) ≤ 16)
  | m, i, k, hm, hle, hk, hn => by
    by_cases hi : i < s.size
    · obtain ⟨m', rfl⟩ : ∃ m', m = m' + 1 := ⟨m - 1, by omega⟩
      by_cases hl : (s[i]'hi).toNat < 128
      · have hc : (al (s[i]'hi) || dig (s[i]'hi)) = true ∧ nmLen ((bs s).drop (i + 1)) = s.size - (i + 1) ∧ nmCnt ((bs s).drop i) = nmCnt ((bs s).drop (i + 1)) + 1 := by
          rw [bs_drop s i hi] at hn ⊢
          by_cases h1 : i + 1 < s.size
          · rw [bs_drop s (i + 1) h1] at hn ⊢
            rw [nm2, gk_low hl] at hn
            rw [nmCnt2]
            by_cases hc : (al (s[i]'hi) || dig (s[i]'hi)) = true
            · simp only [hc, if_true] at hn ⊢; exact ⟨trivial, by omega, trivial⟩
            · simp only [hc, Bool.false_eq_true, if_false] at hn; omega
          · rw [bs_end s (i + 1) h1] at hn ⊢
            simp only [nmLen] at hn
            by_cases hc : (al (s[i]'hi) || dig (s[i]'hi)) = true
            · simp only [nmLen, nmCnt, hc, if_true] at hn ⊢; exact ⟨trivial, by omega, trivial⟩
            · simp only [hc, Bool.false_eq_true, if_false] at hn; omega
        have hd := rune_low hi hl
        rw [rest_good hi (by
          rw [hd]
          rcases Bool.or_eq_true _ _ ▸ hc.1 with h | h
          · left; rw [al_letter hl]; exact h
          · right; exact ⟨by omega, by rw [dig_digit]; exact h⟩), hd]
        show restB s (i + 1) (k + 1) = _
        rw [rest_cnt s m' (i + 1) (k + 1) (by omega) (by omega) (by omega) hc.2.1, hc.2.2]
        exact decide_eq_decide.2 (by omega)
      · have ha := al_high hl
        have hc : ∃ h1 : i + 1 < s.size, gk (s[i]'hi) (s[i + 1]'h1) = true ∧ nmLen ((bs s).drop (i + 1 + 1)) = s.size - (i + 2) ∧ nmCnt ((bs s).drop i) = nmCnt ((bs s).drop (i + 1 + 1)) + 1 := by
          rw [bs_drop s i hi] at hn ⊢
          by_cases h1 : i + 1 < s.size
          · rw [bs_drop s (i + 1) h1] at hn ⊢
            rw [nm2, ha.1, ha.2] at hn
            rw [nmCnt2, ha.1, ha.2]
            by_cases hg : gk (s[i]'hi) (s[i + 1]'h1) = true
            · refine ⟨h1, hg, ?_, ?_⟩
              · simp only [hg, Bool.or_self, Bool.false_eq_true, if_false, if_true] at hn; omega
              · simp only [hg, Bool.or_self, Bool.false_eq_true, if_false, if_true]
            · simp only [hg, Bool.or_self, Bool.false_eq_true, if_false] at hn; omega
          · rw [bs_end s (i + 1) h1] at hn
            simp only [nmLen, ha.1, ha.2, Bool.or_self, Bool.false_eq_true, if_false] at hn; omega
        obtain ⟨h1, hg, hn2, hc2⟩ := hc
        have hr := rune_gk hi h1 hg
        rw [rest_good hi (Or.inl hr.2), hr.1]
        show restB s (i + 1 + 1) (k + 1) = _
        rw [rest_cnt s m' (i + 1 + 1) (k + 1) (by omega) (by omega) (by omega) hn2, hc2]
        exact decide_eq_decide.2 (by omega)
    · rw [rest_end hi, bs_end s i hi]
      simp only [nmCnt, Nat.add_zero]
      rw [decide_eq_true hk, Bool.true_and]
      rfl
theorem name_cnt (s : ByteArray) (h0 : 0 < lsz (bs s)) (h : nmLen (bs s) = s.size) : nameB s = decide (nmCnt (bs s) ≤ 16) := by
  have hi : 0 < s.size := by have := lsz_nm _ h0; omega
  have hb : nameB s = restB s 0 0 := by unfold nameB restB; rw [if_pos (by omega)]
  have hlt : letterB (Utf8.decode s 0).1 = true := by rw [lsz_rune s 0 hi]; simpa using h0
  rw [hb, rest_good hi (Or.inl hlt), Nat.zero_add]
  by_cases hl : (s[0]'hi).toNat < 128
  · have hd := rune_low hi hl
    have ha : al (s[0]'hi) = true := by rw [hd, al_letter hl] at hlt; exact hlt
    have e : bs s = (s[0]'hi) :: (bs s).drop 1 := by have := bs_drop s 0 hi; simpa using this
    have k : nmLen ((bs s).drop 1) = s.size - 1 ∧ nmCnt (bs s) = nmCnt ((bs s).drop 1) + 1 := by
      have hc : (al (s[0]'hi) || dig (s[0]'hi)) = true := by rw [ha]; rfl
      rw [e] at h ⊢
      simp only [List.drop_succ_cons, List.drop_zero]
      by_cases h1 : 1 < s.size
      · rw [bs_drop s 1 h1] at h ⊢
        rw [nm2, if_pos hc] at h
        rw [nmCnt2, if_pos hc]
        exact ⟨by omega, rfl⟩
      · rw [bs_end s 1 h1]
        simp only [nmLen, nmCnt, hc, if_true]
        exact ⟨by omega, trivial⟩
    rw [hd]
    show restB s 1 1 = _
    rw [rest_cnt s s.size 1 1 (by omega) (by omega) (by omega) k.1, k.2]
    exact decide_eq_decide.2 (by omega)
  · have ha := al_high hl
    by_cases h1 : 1 < s.size
    · have hg : gk (s[0]'hi) (s[1]'h1) = true := by
        cases hh : gk (s[0]'hi) (s[1]'h1) with
        | true => rfl
        | false => rw [(rune_no hi hl (fun _ => hh)).1] at hlt; cases hlt
      have hr := rune_gk hi h1 hg
      have e : bs s = (s[0]'hi) :: (s[1]'h1) :: (bs s).drop 2 := by
        have := bs_drop s 0 hi
        rw [bs_drop s (0 + 1) h1] at this
        simpa using this
      have k : nmLen ((bs s).drop 2) = s.size - 2 ∧ nmCnt (bs s) = nmCnt ((bs s).drop 2) + 1 := by
        rw [e] at h ⊢
        simp only [List.drop_succ_cons, List.drop_zero]
        rw [nm2, ha.1, ha.2, hg] at h
        rw [nmCnt2, ha.1, ha.2, hg]
        simp only [Bool.or_self, Bool.false_eq_true, if_false, if_true] at h ⊢
        exact ⟨by omega, trivial⟩
      rw [hr.1, rest_cnt s s.size 2 1 (by omega) (by omega) (by omega) k.1, k.2]
      exact decide_eq_decide.2 (by omega)
    · rw [(rune_no hi hl (fun h => absurd h h1)).1] at hlt; cases hlt
end Go.Proofs.YtgpaeilnpeflaaaDoor
