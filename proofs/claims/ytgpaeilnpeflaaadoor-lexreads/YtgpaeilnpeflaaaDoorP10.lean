/- Layer 5: the walks of plain and of the reference's Same. -/
import Derived.Test.YtgpaeilnpeflaaaDoorP9
import Derived.Test.YtgpaeilnpeflaaaDoorP4
import Derived.Deep.RegionHeld3
import Derived.Deep.DeepCutAuto
namespace Go.Proofs.YtgpaeilnpeflaaaDoor
open Go.RowKit

theorem ow_nil (w : World) (base : Nat) (e : TypeId) : w.ownsRow base e 4 (.slice none 0 0) ([] : List Tk).length (flat []) := World.ownsRow_nil _ _ _ _

theorem take_succ {ts : List Tk} {j : Nat} (h : j < ts.length) : ts.take (j + 1) = ts.take j ++ [ts[j]] := by
  rw [List.take_add_one, List.getElem?_eq_getElem h]; rfl

theorem push_below {w wr w4 : World} {base : Nat} {ty : TypeId} {v : Value} {n : Nat} {xs : List Value} {o : Obj} (hb : Below w.heap.size w wr) (hle : w.heap.size ≤ base) (hown : wr.ownsRow base ty 4 v n xs) (hgrow : (wr.alloc o).grownBy w4 v.ownBlock) : Below w.heap.size w w4 := by
  have hs := hb.size
  have ez := alloc_size wr o
  refine ⟨hgrow.os.trans hb.os, hgrow.tape.trans hb.tape, hgrow.output.trans hb.output, by have := hgrow.size; omega, fun b hbb => ?_⟩
  rw [hgrow.block b (by omega) (fun e => by have := (ow_ge hown e.symm).1; omega), (below_alloc wr o).block b (by omega)]
  exact hb.block b hbb
theorem flat_push {ts : List Tk} {j : Nat} (h : j < ts.length) : flat (ts.take (j + 1)) = flat (ts.take j) ++ tv ts[j] := by
  rw [take_succ h, flat_app]
  show flat (ts.take j) ++ (tv ts[j] ++ []) = _
  rw [List.append_nil]

set_option maxRecDepth 100000 in
set_option maxHeartbeats 4000000 in
theorem plain_any (v : Value) (ts : List Tk) (w : World) (hv : KAt w v ts) (hl : ts.length ≤ 2000) :
    Calls Tryd.prog 8 #[v] w fun e w' => (∃ u, e = .returned u ∧ KAt w' u ts) ∧ Below w.heap.size w w' := by
  obtain ⟨ao, b, cap, rfl, hc, hn, hcell⟩ := hv
  have HC : Hid (∀ i (h : i < ts.length) q, q < 4 → w.cell? ⟨b, i * 4 + q, none⟩ = (tv ts[i])[q]?) := hcell
  clear hcell
  obtain ⟨i0, hi, hz0, hz1, hz2⟩ := info_parts Tryd.infoRTok
  go_enter Tryd.func8, Tryd.ntmps8
  go_wp2
  go_loopw [3, 4] (fun sv i wr => ∃ (j : Nat) (v : Value), j ≤ ts.length ∧ v = sv ∧ i = .int .i64 j ∧ Hid (Below w.heap.size w wr ∧ wr.ownsRow w.heap.size 40 4 v j (flat (ts.take j)))) (fun _ i _ => ts.length - (intOf i).toNat)
  case atStart => exact ⟨0, _, Nat.zero_le _, rfl, rfl, Below.refl _ _, World.ownsRow_nil _ _ _ _⟩
  case round =>
    obtain ⟨j, v, hj, hv, rfl, HW⟩ := hrel
    subst hv
    by_cases hlt : j < ts.length
    · have ij : (j : Int) < ts.length := by omega
      have a0 := hn (by omega)
      subst a0
      have c0 : wr.cell? ⟨b, j * 4 + 0, none⟩ = some (.int .i64 (ts[j].k : Nat)) := up HW.out.1 (HC.out j hlt 0 (by omega))
      have c1 : wr.cell? ⟨b, j * 4 + 1, none⟩ = some (.string (str ts[j].t)) := up HW.out.1 (HC.out j hlt 1 (by omega))
      have c2 : wr.cell? ⟨b, j * 4 + 2, none⟩ = some (.int .i64 (ts[j].n : Nat)) := up HW.out.1 (HC.out j hlt 2 (by omega))
      have c3 : wr.cell? ⟨b, j * 4 + 3, none⟩ = some (.int .i64 (ts[j].a : Nat)) := up HW.out.1 (HC.out j hlt 3 (by omega))
      rw [Nat.add_zero] at c0
      have hown := ow_kept HW.out.2 (below_alloc wr (.cells #[.int .i64 (ts[j].k : Nat), .string (str ts[j].t), .int .i64 (ts[j].n : Nat), .int .i64 (ts[j].a : Nat)] 40))
      have hnew := heap_alloc_new wr (.cells #[.int .i64 (ts[j].k : Nat), .string (str ts[j].t), .int .i64 (ts[j].n : Nat), .int .i64 (ts[j].a : Nat)] 40)
      have ez : (wr.alloc (.cells #[.int .i64 (ts[j].k : Nat), .string (str ts[j].t), .int .i64 (ts[j].n : Nat), .int .i64 (ts[j].a : Nat)] 40)).heap.size = wr.heap.size + 1 := alloc_size _ _
      have hs0 : w.heap.size ≤ wr.heap.size := HW.out.1.size
      go_wp2_with ((at_builtin; refine wpList_append_lies _ rfl _ _ 27 rfl w.heap.size 40 i0 _ 4 40 Tryd.underlying27 hi hz0 hz1 hz2 rfl (by decide) v j (flat (ts.take j)) rfl hown ⟨wr.heap.size, 0, none⟩ 1 1 (tv ts[j]) rfl rfl (World.news_of_block (cs := #[.int .i64 (ts[j].k : Nat), .string (str ts[j].t), .int .i64 (ts[j].n : Nat), .int .i64 (ts[j].a : Nat)]) (t := 40) (fr := (0, 0)) hnew) (by intro x hx; simp [tv] at hx; rcases hx with rfl | rfl | rfl | rfl <;> rfl) (by omega) (by unfold maxLen; omega) (by omega) (by omega) (wr.heap.size + 1) ez ?_; intro gg cap3 w4 hown4 hgrow hat hltg; have HN : Hid (Below w.heap.size w w4 ∧ w4.ownsRow w.heap.size 40 4 (.slice (some ⟨gg, 0, none⟩) (j + 1) cap3) (j + 1) (flat (ts.take (j + 1)))) := ⟨push_below HW.out.1 (Nat.le_refl _) HW.out.2 hgrow, (flat_push hlt).symm ▸ hown4⟩; clear hown4 hgrow hat hltg))
      go_roundw
      case rel => exact ⟨j + 1, _, by omega, rfl, by go_num, HN.out⟩
      case measure => simp [intOf]; omega
    · have e : j = ts.length := by omega
      subst e
      have dl : ¬ (ts.length : Int) < ts.length := by omega
      go_wp2
      go_ret
      have ho := HW.out.2
      rw [List.take_length] at ho
      exact ⟨⟨_, rfl, KAt.of_own ho⟩, HW.out.1⟩
end Go.Proofs.YtgpaeilnpeflaaaDoor

/- Layer 5, plain: what follows of the words of a text. -/
namespace Go.Proofs.YtgpaeilnpeflaaaDoor

theorem split_rem (c : UInt8) (r : List UInt8) (h : c.toNat = 35) : ∃ r1 r2, c :: r = c :: (r1 ++ r2) ∧ remLen (c :: r) = r1.length + 1 ∧ (∀ x ∈ r1, x.toNat ≠ 10) ∧ (r2 = [] ∨ ∃ x y, r2 = x :: y ∧ x.toNat = 10) := by
  have key : ∀ r : List UInt8, ∃ r1 r2, r = r1 ++ r2 ∧ remLen r = r1.length ∧ (∀ x ∈ r1, x.toNat ≠ 10) ∧ (r2 = [] ∨ ∃ x y, r2 = x :: y ∧ x.toNat = 10) := by
    intro r
    induction r with
    | nil => exact ⟨[], [], rfl, rfl, by simp, Or.inl rfl⟩
    | cons d r ih =>
      by_cases hd : d.toNat = 10
      · exact ⟨[], d :: r, rfl, by simp [remLen, hd], by simp, Or.inr ⟨d, r, rfl, hd⟩⟩
      · obtain ⟨r1, r2, e, hl, h1, h2⟩ := ih
        refine ⟨d :: r1, r2, by rw [e]; rfl, ?_, ?_, h2⟩
        · simp only [remLen]
          rw [if_neg (by simpa using hd), hl]; rfl
        · intro x hx
          rcases List.mem_cons.1 hx with rfl | hx
          · exact hd
          · exact h1 x hx
  obtain ⟨r1, r2, e, hl, h1, h2⟩ := key r
  refine ⟨r1, r2, by rw [e], ?_, h1, h2⟩
  simp only [remLen]
  rw [if_neg (by simp; omega), hl]

/-- Where all is right. -/
theorem rch_ok : ∀ (N : Nat) (l : List UInt8) (a : Nat) (acc us : List Tk), l.length ≤ N → R l a acc = .ok us → ∃ ts, us = acc ++ ts ∧ Rch [] l a ts ∧ (acc.length ≤ 2000 → acc.length + ts.length ≤ 2000)
  | _, [], a, acc, us, _, h => by
    rw [R_nil] at h
    cases h
    exact ⟨[], by simp, Rch.nil a, by simp⟩
  | 0, _ :: _, _, _, _, h, _ => by simp at h
  | N + 1, c :: r, a, acc, us, hN, h => by
    simp only [List.length_cons] at hN
    by_cases hb : bl c = true
    · rw [R_bl _ _ _ hb] at h
      obtain ⟨ts, e, hr, hl⟩ := rch_ok N r (a + 1) acc us (by omega) h
      exact ⟨ts, e, Rch.bl hb hr, hl⟩
    · rw [Bool.not_eq_true] at hb
      by_cases h35 : c.toNat = 35
      · rw [R_rem _ _ _ h35] at h
        obtain ⟨r1, r2, er, hlen, h1, h2⟩ := split_rem c r h35
        rw [hlen, er, List.drop_succ_cons, List.drop_left] at h
        have hl2 : r2.length ≤ N := by
          have : r = r1 ++ r2 := (List.cons.inj er).2
          rw [this, List.length_append] at hN; omega
        obtain ⟨ts, e, hr, hl⟩ := rch_ok N r2 _ acc us hl2 h
        refine ⟨ts, e, ?_, hl⟩
        rw [er]
        exact Rch.rem h35 h1 (by simpa using h2) hr
      · cases hn : nextW (c :: r) with
        | none => rw [R_none _ _ _ hb h35 hn] at h; cases h
        | some x =>
          obtain ⟨k, m, n⟩ := x
          have hle := nextW_le hn
          by_cases h2 : 2000 ≤ acc.length
          · rw [R_full _ _ _ hb h35 hn h2] at h; cases h
          · rw [R_word _ _ _ hb h35 hn (by omega)] at h
            obtain ⟨ts, e, hr, hl⟩ := rch_ok N ((c :: r).drop m) _ _ us (by simp only [List.length_drop, List.length_cons] at *; omega) h
            have hs : (c :: r).take m ++ (c :: r).drop m = c :: r := List.take_append_drop _ _
            have tl : ((c :: r).take m).length = m := by rw [List.length_take]; omega
            refine ⟨⟨k, (c :: r).take m, n, a⟩ :: ts, by rw [e, List.append_assoc]; rfl, ?_, ?_⟩
            · have hw := Rch.word (q := []) (t := (c :: r).take m) (p := (c :: r).drop m) (a := a) (k := k) (n := n) (ts := ts) (by rw [List.append_nil, hs, tl]; exact hn) (by rw [tl]; exact hr)
              rw [hs] at hw; exact hw
            · intro _
              have := hl (by rw [List.length_append]; simp; omega)
              rw [List.length_append] at this
              simp only [List.length_cons, List.length_nil] at this ⊢
              omega
/-- Where there is a fault. -/
theorem rch_bad : ∀ (N : Nat) (l : List UInt8) (a k : Nat) (acc : List Tk), l.length ≤ N → acc.length ≤ 2000 → R l a acc = .bad k 2 →
    ∃ p c q ts, l = p ++ c :: q ∧ Rch (c :: q) p a ts ∧ k = a + p.length ∧ bl c = false ∧ c.toNat ≠ 35 ∧ nextW (c :: q) = none ∧ acc.length + ts.length ≤ 2000
  | _, [], a, k, acc, _, _, h => by rw [R_nil] at h; cases h
  | 0, _ :: _, _, _, _, h, _, _ => by simp at h
  | N + 1, c :: r, a, k, acc, hN, hA, h => by
    simp only [List.length_cons] at hN
    by_cases hb : bl c = true
    · rw [R_bl _ _ _ hb] at h
      obtain ⟨p, d, q, ts, e, hr, hk, x⟩ := rch_bad N r (a + 1) k acc (by omega) hA h
      exact ⟨c :: p, d, q, ts, by rw [e]; rfl, Rch.bl hb hr, by rw [hk, List.length_cons]; omega, x⟩
    · rw [Bool.not_eq_true] at hb
      by_cases h35 : c.toNat = 35
      · rw [R_rem _ _ _ h35] at h
        obtain ⟨r1, r2, er, hlen, h1, h2⟩ := split_rem c r h35
        rw [hlen, er, List.drop_succ_cons, List.drop_left] at h
        have hl2 : r2.length ≤ N := by
          have : r = r1 ++ r2 := (List.cons.inj er).2
          rw [this, List.length_append] at hN; omega
        obtain ⟨p, d, q, ts, e, hr, hk, x⟩ := rch_bad N r2 _ k acc hl2 hA h
        refine ⟨c :: (r1 ++ p), d, q, ts, by rw [er, e]; simp, Rch.rem h35 h1 (by rw [← e]; exact h2) hr, ?_, x⟩
        rw [hk]; simp only [List.length_cons, List.length_append]; omega
      · cases hn : nextW (c :: r) with
        | none =>
          rw [R_none _ _ _ hb h35 hn] at h
          cases h
          exact ⟨[], c, r, [], rfl, Rch.nil a, rfl, hb, h35, hn, by simpa using hA⟩
        | some x =>
          obtain ⟨kk, m, n⟩ := x
          have hle := nextW_le hn
          by_cases h2 : 2000 ≤ acc.length
          · rw [R_full _ _ _ hb h35 hn h2] at h; cases h
          · rw [R_word _ _ _ hb h35 hn (by omega)] at h
            obtain ⟨p, d, q, ts, e, hr, hk, h4, h5, h6, h7⟩ := rch_bad N ((c :: r).drop m) _ k _ (by simp only [List.length_drop, List.length_cons] at *; omega) (by rw [List.length_append]; simp; omega) h
            have hs : (c :: r).take m ++ (c :: r).drop m = c :: r := List.take_append_drop _ _
            have tl : ((c :: r).take m).length = m := by rw [List.length_take]; omega
            rw [e] at hs
            refine ⟨(c :: r).take m ++ p, d, q, ⟨kk, (c :: r).take m, n, a⟩ :: ts, by rw [List.append_assoc]; exact hs.symm, Rch.word (by rw [hs, tl]; exact hn) (by rw [tl]; exact hr), ?_, h4, h5, h6, ?_⟩
            · rw [hk, List.length_append, tl]; omega
            · rw [List.length_append] at h7
              simp only [List.length_cons, List.length_nil] at h7 ⊢; omega

/-- What may come behind in the place of q. -/
def Cn (q q' : List UInt8) : Prop := q' = [] ∨ (∃ x, q' = 10 :: x) ∨ ∃ x, q' = q ++ 10 :: x
theorem nm_10 (x : List UInt8) : nmLen (10 :: x) = 0 := by
  cases x with
  | nil => rfl
  | cons d x => rw [nm2]; simp [al, dig, gk]
theorem Stp.cont {k : Nat} {t q q' : List UInt8} (h : Stp k t q) (hc : Cn q q') : Stp k t q' := by
  have base : ∀ x, q' = 10 :: x → Stp k t q' := fun x e => by
    subst e
    unfold Stp
    split
    · simp [dgLen, dig]
    · split
      · intro c d r' _ e
        cases e
        simp [lg]
      · exact nm_10 x
  rcases hc with rfl | ⟨x, e⟩ | ⟨x, rfl⟩
  · unfold Stp
    split
    · rfl
    · split
      · intro c d r' _ e; cases e
      · rfl
  · exact base x e
  · match q with
    | [] => exact base x rfl
    | c :: q2 =>
      unfold Stp at h ⊢
      split
      · rename_i hk
        rw [if_pos hk] at h
        simp only [List.cons_append, dgLen] at h ⊢
        split at h
        · omega
        · rename_i hd; rw [if_neg hd]
      · rename_i hk
        rw [if_neg hk] at h
        split
        · rename_i hk4
          rw [if_pos hk4] at h
          intro c' d r' e1 e2
          rw [List.cons_append] at e2
          cases e2
          exact h c' c q2 e1 rfl
        · rename_i hk4
          rw [if_neg hk4] at h
          match q2 with
          | [] =>
            simp only [nmLen] at h
            split at h
            · omega
            · rename_i hal
              show nmLen (c :: 10 :: x) = 0
              rw [nm2, if_neg hal]
              have : gk c 10 = false := by simp [gk]
              rw [this]; rfl
          | d :: q3 =>
            show nmLen (c :: d :: (q3 ++ 10 :: x)) = 0
            rw [nm2] at h ⊢
            split at h
            · omega
            · rename_i hal
              split at h
              · omega
              · rename_i hg
                rw [if_neg hal, if_neg hg]
theorem Stp.head {k : Nat} {t : List UInt8} {c : UInt8} {y y' : List UInt8} (h : Stp k t (c :: y)) (hc : c.toNat < 128 ∨ ∃ d z z', y = d :: z ∧ y' = d :: z') : Stp k t (c :: y') := by
  unfold Stp at h ⊢
  split
  · rename_i hk
    rw [if_pos hk, dg1] at h
    rw [dg1]
    split at h
    · omega
    · rename_i hd; rw [if_neg hd]
  · rename_i hk
    rw [if_neg hk] at h
    split
    · rename_i hk4
      rw [if_pos hk4] at h
      intro c' d r' e1 e2
      cases e2
      exact h c' c y e1 rfl
    · rename_i hk4
      rw [if_neg hk4] at h
      have hal : ¬ (al c || dig c) = true := by
        intro hal
        cases y with
        | nil => simp [nmLen, hal] at h
        | cons d z => rw [nm2, if_pos hal] at h; omega
      rcases hc with hc | ⟨d, z, z', rfl, rfl⟩
      · have hg : ∀ d, gk c d = false := fun d => by rw [← Bool.not_eq_true, gk_iff]; omega
        cases y' with
        | nil => simp only [nmLen]; rw [if_neg hal]
        | cons d z => rw [nm2, if_neg hal, hg]; rfl
      · rw [nm2, if_neg hal] at h
        rw [nm2, if_neg hal]
        split at h
        · omega
        · rename_i hg; rw [if_neg hg]
theorem Rch.one {q : List UInt8} {c : UInt8} {a : Nat} {ts : List Tk} (h : Rch q [c] a ts) : c.toNat < 128 := by
  generalize hp : [c] = p at h
  cases h with
  | nil => cases hp
  | bl hb _ => cases hp; have := (bl_iff c).1 hb; omega
  | rem h35 _ _ _ => rw [(List.cons.inj hp).1]; omega
  | @word t p a k n ts hn hp2 =>
    have hle := nextW_le hn
    match t, hle with
    | d :: t', hle =>
      rw [List.cons_append] at hp
      have e := (List.cons.inj hp)
      have e2 : t' = [] := by
        have := e.2.symm
        cases t' with
        | nil => rfl
        | cons _ _ => cases this
      subst e2
      rw [e.1]
      exact nextW_one ((nextW_split [d] (p ++ q) k n).1 hn).1
theorem Rch.cont {q q' p : List UInt8} {a : Nat} {ts : List Tk} (h : Rch q p a ts) (hc : Cn q q') : Rch q' p a ts := by
  induction h with
  | nil a => exact Rch.nil a
  | bl hb _ ih => exact Rch.bl hb ih
  | @rem c r p a ts h35 hr he _ ih =>
    refine Rch.rem h35 hr ?_ ih
    cases p with
    | cons x p =>
      rcases he with he | ⟨x', y, e, hx⟩
      · cases he
      · right; exact ⟨x, p ++ q', rfl, by rw [List.cons_append] at e; rw [(List.cons.inj e).1]; exact hx⟩
    | nil =>
      simp only [List.nil_append] at he ⊢
      rcases hc with rfl | ⟨x, rfl⟩ | ⟨x, rfl⟩
      · left; rfl
      · right; exact ⟨10, x, rfl, rfl⟩
      · rcases he with rfl | ⟨x', y, rfl, hx⟩
        · right; exact ⟨10, x, rfl, rfl⟩
        · right; exact ⟨x', y ++ 10 :: x, rfl, hx⟩
  | @word t p a k n ts hn hp ih =>
    refine Rch.word ?_ ih
    rw [nextW_split] at hn ⊢
    refine ⟨hn.1, ?_⟩
    cases p with
    | nil => exact hn.2.cont hc
    | cons c p =>
      refine Stp.head (y := p ++ q) hn.2 ?_
      cases p with
      | nil => exact Or.inl hp.one
      | cons d p => exact Or.inr ⟨d, _, _, rfl, rfl⟩
end Go.Proofs.YtgpaeilnpeflaaaDoor

/- Layer 5, plain: a fault, and what comes behind it. -/
namespace Go.Proofs.YtgpaeilnpeflaaaDoor

theorem lg_10 (c : UInt8) : lg c 10 = false := by simp [lg]
theorem gk_10 (c : UInt8) : gk c 10 = false := by simp [gk]
theorem lsz_nl {l : List UInt8} (x : List UInt8) (h : l ≠ []) : lsz (l ++ 10 :: x) = lsz l := by
  match l with
  | [] => exact absurd rfl h
  | [c] => show lsz (c :: 10 :: x) = lsz [c]; rw [lsz2, lsz1, gk_10]; rfl
  | c :: d :: r => rfl
theorem sg_nl {l : List UInt8} (x : List UInt8) (h : l ≠ []) : sgLen (l ++ 10 :: x) = sgLen l := by
  match l with
  | [] => exact absurd rfl h
  | [c] => show sgLen (c :: 10 :: x) = sgLen [c]; rw [sg2, sg1, lg_10]; rfl
  | c :: d :: r => rfl
theorem dg_nl : ∀ (l x : List UInt8), dgLen (l ++ 10 :: x) = dgLen l
  | [], x => by show dgLen (10 :: x) = 0; rw [dg1]; rfl
  | c :: l, x => by
    rw [List.cons_append, dg1, dg1, dg_nl l x]
theorem nm_nl : ∀ (l x : List UInt8), nmLen (l ++ 10 :: x) = nmLen l ∧ nmCnt (l ++ 10 :: x) = nmCnt l
  | [], x => ⟨nm_10 x, cnt_zero (nm_10 x)⟩
  | [c], x => by
    show nmLen (c :: 10 :: x) = nmLen [c] ∧ nmCnt (c :: 10 :: x) = nmCnt [c]
    rw [nm2, nmCnt2, gk_10, nm_10, cnt_zero (nm_10 x)]
    simp only [nmLen, nmCnt]
    split <;> simp
  | c :: d :: l, x => by
    have h1 := nm_nl (d :: l) x
    have h2 := nm_nl l x
    simp only [List.cons_append] at h1 ⊢
    rw [nm2, nm2, nmCnt2, nmCnt2, h1.1, h1.2, h2.1, h2.2]
    exact ⟨rfl, rfl⟩
theorem nextW_nl {l : List UInt8} (x : List UInt8) (h : l ≠ []) : nextW (l ++ 10 :: x) = nextW l := by
  have h1 := nm_le l
  have h2 := dg_le l
  have hh : (l ++ 10 :: x).head? = l.head? := by
    cases l with
    | nil => exact absurd rfl h
    | cons c r => rfl
  unfold nextW
  rw [lsz_nl x h, sg_nl x h, dg_nl, (nm_nl l x).1, (nm_nl l x).2, hh, List.take_append_of_le_length h1, List.take_append_of_le_length h2]

theorem fault {l : List UInt8} {a : Nat} (h : R l 0 [] = .bad a 2) : a ≤ l.length ∧ (∃ ts, R (l.take a) 0 [] = .ok ts) ∧ ∀ x, R (l ++ 10 :: x) 0 [] = .bad a 2 := by
  obtain ⟨p, c, q, ts, rfl, hr, rfl, hb, h35, hn, hl⟩ := rch_bad l.length l 0 a [] (Nat.le_refl _) (by simp) h
  simp only [List.length_nil, Nat.zero_add] at hl ⊢
  refine ⟨by rw [List.length_append]; omega, ⟨ts, ?_⟩, fun x => ?_⟩
  · rw [List.take_left' rfl]
    have := (hr.cont (q' := []) (Or.inl rfl)).run [] (by simpa using hl)
    rw [List.append_nil] at this
    rw [this, R_nil, List.nil_append]
  · have := (hr.cont (q' := (c :: q) ++ 10 :: x) (Or.inr (Or.inr ⟨x, rfl⟩))).run [] (by simpa using hl)
    rw [List.append_assoc, this, List.cons_append, R_none _ _ _ hb h35 (by rw [← List.cons_append, nextW_nl x (by simp)]; exact hn), Nat.zero_add]
end Go.Proofs.YtgpaeilnpeflaaaDoor

/- Layer 5, plain: words written again, blanks put in. -/
namespace Go.Proofs.YtgpaeilnpeflaaaDoor

/-- Two lists of words are alike, places apart if bare. -/
def Alike (bare : Bool) (ts us : List Tk) : Prop :=
  ts.length = us.length ∧ ∀ i (h : i < ts.length) (h' : i < us.length), ts[i].k = us[i].k ∧ ts[i].t = us[i].t ∧ ts[i].n = us[i].n ∧ (bare = false → ts[i].a = us[i].a)
theorem Alike.nil (b : Bool) : Alike b [] [] := ⟨rfl, fun _ h => absurd h (Nat.not_lt_zero _)⟩
theorem Alike.refl (b : Bool) (ts : List Tk) : Alike b ts ts := ⟨rfl, fun _ _ _ => ⟨rfl, rfl, rfl, fun _ => rfl⟩⟩
theorem Alike.cons {t u : Tk} {ts us : List Tk} (hk : t.k = u.k) (ht : t.t = u.t) (hn : t.n = u.n) (h : Alike true ts us) : Alike true (t :: ts) (u :: us) := by
  refine ⟨by rw [List.length_cons, List.length_cons, h.1], fun i hi hi' => ?_⟩
  cases i with
  | zero => exact ⟨hk, ht, hn, fun h => by cases h⟩
  | succ i => exact h.2 i (by simpa using hi) (by simpa using hi')
theorem Alike.app : ∀ {xs ts us : List Tk}, Alike true ts us → Alike true (xs ++ ts) (xs ++ us)
  | [], _, _, h => h
  | _ :: xs, _, _, h => Alike.cons rfl rfl rfl (Alike.app (xs := xs) h)

theorem rd_bad_ne : ∀ (f : Nat) (l : List UInt8) (a : Nat) (acc : List Tk) {k c : Nat}, rd f l a acc = .bad k c → c ≠ 0
  | 0, _, _, _, _, _, h => by unfold rd at h; cases h
  | _ + 1, [], _, _, _, _, h => by unfold rd at h; cases h
  | f + 1, c :: r, a, acc, _, _, h => by
    unfold rd at h
    split at h
    · exact rd_bad_ne f _ _ _ h
    · split at h
      · exact rd_bad_ne f _ _ _ h
      · split at h
        · cases h; omega
        · split at h
          · cases h; omega
          · exact rd_bad_ne f _ _ _ h
theorem R_bad_ne (l : List UInt8) (a : Nat) (acc : List Tk) {k c : Nat} (h : R l a acc = .bad k c) : c ≠ 0 := rd_bad_ne _ _ _ _ h

theorem rch_words {q p : List UInt8} {a : Nat} {ts : List Tk} (h : Rch q p a ts) : ∀ t ∈ ts, nextW t.t = some (t.k, t.t.length, t.n) := by
  induction h with
  | nil => intro t ht; cases ht
  | bl _ _ ih => exact ih
  | rem _ _ _ _ ih => exact ih
  | word hn _ ih =>
    intro t ht
    rcases List.mem_cons.1 ht with rfl | ht
    · exact ((nextW_split _ _ _ _).1 hn).1
    · exact ih t ht
def joinW : List Tk → List UInt8
  | [] => []
  | t :: ts => t.t ++ 32 :: joinW ts
theorem join_snoc : ∀ (ts : List Tk) (t : Tk), joinW (ts ++ [t]) = joinW ts ++ (t.t ++ [32])
  | [], t => rfl
  | u :: ts, t => by
    show u.t ++ 32 :: joinW (ts ++ [t]) = (u.t ++ 32 :: joinW ts) ++ (t.t ++ [32])
    rw [join_snoc ts t]; simp
theorem stp_32 (k : Nat) (t x : List UInt8) : Stp k t (32 :: x) := by
  unfold Stp
  split
  · rw [dg1]; rfl
  · split
    · intro c d r' _ e
      cases e
      simp [lg]
    · cases x with
      | nil => rfl
      | cons d x => rw [nm2]; simp [al, dig, gk]
theorem rch_join : ∀ (ts : List Tk) (a : Nat), (∀ t ∈ ts, nextW t.t = some (t.k, t.t.length, t.n)) → ∃ us, Rch [] (joinW ts) a us ∧ Alike true ts us
  | [], a, _ => ⟨[], Rch.nil a, Alike.nil _⟩
  | t :: ts, a, h => by
    obtain ⟨us, hr, hA⟩ := rch_join ts (a + t.t.length + 1) (fun x hx => h x (by simp [hx]))
    refine ⟨⟨t.k, t.t, t.n, a⟩ :: us, Rch.word (p := 32 :: joinW ts) ?_ (Rch.bl (by decide) hr), Alike.cons rfl rfl rfl hA⟩
    exact (nextW_split _ _ _ _).2 ⟨h t (by simp), stp_32 _ _ _⟩
theorem join_len {q p : List UInt8} {a : Nat} {ts : List Tk} (h : Rch q p a ts) : (joinW ts).length ≤ p.length + ts.length := by
  induction h with
  | nil => simp [joinW]
  | bl _ _ ih => simp only [List.length_cons]; omega
  | rem _ _ _ _ ih => simp only [List.length_cons, List.length_append]; omega
  | word _ _ ih => simp only [joinW, List.length_cons, List.length_append]; omega
theorem join_take : ∀ (ts : List Tk) (j : Nat), (joinW (ts.take j)).length ≤ (joinW ts).length
  | [], j => by simp
  | t :: ts, 0 => by simp [joinW]
  | t :: ts, j + 1 => by
    have := join_take ts j
    simp only [List.take_succ_cons, joinW, List.length_cons, List.length_append]; omega
theorem join_word : ∀ (ts : List Tk) (j : Nat) (h : j < ts.length), (ts[j].t).length ≤ (joinW ts).length
  | t :: ts, 0, _ => by simp [joinW]
  | t :: ts, j + 1, h => by
    have := join_word ts j (by simpa using h)
    simp only [joinW, List.length_cons, List.length_append, List.getElem_cons_succ]; omega
theorem again {l : List UInt8} {ts : List Tk} (h : R l 0 [] = .ok ts) : ts.length ≤ 2000 ∧ (joinW ts).length ≤ l.length + 2000 ∧ ∃ us, R (joinW ts) 0 [] = .ok us ∧ Alike true ts us := by
  obtain ⟨ts', e, hr, hl⟩ := rch_ok l.length l 0 [] ts (Nat.le_refl _) h
  rw [List.nil_append] at e
  subst e
  have hl' := hl (by simp)
  simp only [List.length_nil, Nat.zero_add] at hl'
  obtain ⟨us, hu, hA⟩ := rch_join ts 0 (rch_words hr)
  have := hu.run [] (by rw [← hA.1]; simpa using hl')
  rw [List.append_nil, R_nil, List.nil_append] at this
  exact ⟨hl', by have := join_len hr; omega, us, this, hA⟩

theorem rch_shift {q p : List UInt8} {a : Nat} {ts : List Tk} (h : Rch q p a ts) : ∀ b, ∃ us, Rch q p b us ∧ Alike true ts us := by
  induction h with
  | nil => exact fun b => ⟨[], Rch.nil b, Alike.nil _⟩
  | bl hb _ ih =>
    intro b
    obtain ⟨us, hu, hA⟩ := ih (b + 1)
    exact ⟨us, Rch.bl hb hu, hA⟩
  | rem h35 hr he _ ih =>
    intro b
    obtain ⟨us, hu, hA⟩ := ih _
    exact ⟨us, Rch.rem h35 hr he hu, hA⟩
  | word hn _ ih =>
    intro b
    obtain ⟨us, hu, hA⟩ := ih _
    exact ⟨_, Rch.word hn hu, Alike.cons rfl rfl rfl hA⟩
theorem rch_at {p : List UInt8} {a : Nat} {ts : List Tk} (h : Rch [] p a ts) : ∀ i (hi : i < ts.length), ∃ x y, p = x ++ y ∧ Rch y x a (ts.take i) ∧ Rch [] y (a + x.length) (ts.drop i) ∧ a + x.length = ts[i].a := by
  induction h with
  | nil => intro i hi; exact absurd hi (Nat.not_lt_zero _)
  | @bl c p a ts hb hp ih =>
    intro i hi
    obtain ⟨x, y, rfl, h1, h2, h3⟩ := ih i hi
    exact ⟨c :: x, y, rfl, Rch.bl hb h1, by rw [List.length_cons, show a + (x.length + 1) = a + 1 + x.length by omega]; exact h2, by rw [List.length_cons]; omega⟩
  | @rem c r p a ts h35 hr he hp ih =>
    intro i hi
    obtain ⟨x, y, rfl, h1, h2, h3⟩ := ih i hi
    refine ⟨c :: (r ++ x), y, by simp, Rch.rem h35 hr (by simpa using he) h1, ?_, ?_⟩
    · have e : a + (c :: (r ++ x)).length = a + (r.length + 1) + x.length := by simp only [List.length_cons, List.length_append]; omega
      rw [e]; exact h2
    · simp only [List.length_cons, List.length_append]; omega
  | @word t p a k n ts hn hp ih =>
    intro i hi
    cases i with
    | zero => exact ⟨[], t ++ p, rfl, Rch.nil a, Rch.word hn hp, rfl⟩
    | succ i =>
      obtain ⟨x, y, rfl, h1, h2, h3⟩ := ih i (by simpa using hi)
      refine ⟨t ++ x, y, by simp, Rch.word (by simpa using hn) h1, ?_, ?_⟩
      · rw [List.length_append, ← Nat.add_assoc]; exact h2
      · rw [List.length_append, ← Nat.add_assoc]; exact h3
def insB (rm : List UInt8) : List UInt8 := 10 :: 35 :: (rm ++ [10, 9])
theorem rch_ins (rm q : List UInt8) (a : Nat) (h : ∀ x ∈ rm, x.toNat ≠ 10) : Rch q (insB rm) a [] :=
  Rch.bl (by decide) (Rch.rem (p := [10, 9]) (by decide) h (Or.inr ⟨10, 9 :: q, rfl, by decide⟩) (Rch.bl (by decide) (Rch.bl (by decide) (Rch.nil _))))
theorem blanks {l : List UInt8} {ts : List Tk} (h : R l 0 [] = .ok ts) (rm : List UInt8) (hrm : ∀ x ∈ rm, x.toNat ≠ 10) : ts.length ≤ 2000 ∧ (∃ us, R (l ++ insB rm) 0 [] = .ok us ∧ Alike true ts us) ∧ ∀ i (hi : i < ts.length), ts[i].a ≤ l.length ∧ ∃ us, R (l.take ts[i].a ++ (insB rm ++ l.drop ts[i].a)) 0 [] = .ok us ∧ Alike true ts us := by
  obtain ⟨ts', e, hr, hl⟩ := rch_ok l.length l 0 [] ts (Nat.le_refl _) h
  rw [List.nil_append] at e
  subst e
  have hl' := hl (by simp)
  simp only [List.length_nil, Nat.zero_add] at hl'
  refine ⟨hl', ⟨ts, ?_, Alike.refl _ _⟩, fun i hi => ?_⟩
  · have h1 := (hr.cont (q' := insB rm) (Or.inr (Or.inl ⟨_, rfl⟩))).run [] (by simpa using hl')
    have h2 := (rch_ins rm [] (0 + l.length) hrm).run ([] ++ ts) (by simpa using hl')
    rw [List.append_nil, R_nil, List.append_nil] at h2
    rw [h1, h2, List.nil_append]
  · obtain ⟨x, y, rfl, h1, h2, h3⟩ := rch_at hr i hi
    rw [Nat.zero_add] at h2 h3
    rw [← h3, List.take_left' rfl, List.drop_left' rfl]
    refine ⟨by rw [List.length_append]; omega, ?_⟩
    have tl : (ts.take i).length = i := by rw [List.length_take]; omega
    obtain ⟨us, hu, hA⟩ := rch_shift h2 (0 + x.length + (insB rm).length)
    have ul : us.length = ts.length - i := by rw [← hA.1, List.length_drop]
    have r1 := (h1.cont (q' := insB rm ++ y) (Or.inr (Or.inl ⟨_, rfl⟩))).run [] (by rw [tl]; simp; omega)
    have r2 := (rch_ins rm y (0 + x.length) hrm).run ([] ++ ts.take i) (by rw [List.nil_append, tl]; simp; omega)
    have r3 := hu.run (([] ++ ts.take i) ++ []) (by rw [List.append_nil, List.nil_append, tl, ul]; omega)
    rw [List.append_nil, R_nil] at r3
    rw [r1, r2, r3, List.append_nil, List.nil_append]
    refine ⟨_, rfl, ?_⟩
    have := Alike.app (xs := ts.take i) hA
    rwa [List.take_append_drop] at this
end Go.Proofs.YtgpaeilnpeflaaaDoor

/- Layer 5: the walk of the reference's Same, of words that are alike. -/
namespace Go.Proofs.YtgpaeilnpeflaaaDoor
open Go.RowKit

set_option maxRecDepth 100000 in
set_option maxHeartbeats 8000000 in
theorem same_yes (v u : Value) (ts us : List Tk) (bare : Bool) (w : World) (hv : KAt w v ts) (hu : KAt w u us) (hA : Alike bare ts us) (hl : ts.length ≤ 2000) :
    Calls Tryd.prog 7 #[v, u, .bool bare] w fun e w' => e = .returned (.bool true) ∧ Below w.heap.size w w' := by
  obtain ⟨ao, b, cap, rfl, hc, hn, hcell⟩ := hv
  obtain ⟨co, c, cap2, rfl, hc2, hn2, hcell2⟩ := hu
  obtain ⟨hlen, hE⟩ := hA
  rw [← hlen] at hn2 hc2 ⊢
  have HC : Hid (∀ i (h : i < ts.length) q, q < 4 → w.cell? ⟨b, i * 4 + q, none⟩ = (tv ts[i])[q]?) := hcell
  have HD : Hid (∀ i (h : i < us.length) q, q < 4 → w.cell? ⟨c, i * 4 + q, none⟩ = (tv us[i])[q]?) := hcell2
  have HE : Hid (∀ i (h : i < ts.length) (h' : i < us.length), ts[i].k = us[i].k ∧ ts[i].t = us[i].t ∧ ts[i].n = us[i].n ∧ (bare = false → ts[i].a = us[i].a)) := hE
  have HL : Hid (ts.length = us.length) := hlen
  clear hcell hcell2 hE hlen
  go_enter Tryd.func7, Tryd.ntmps7
  go_wp2
  go_loopw [7] (fun i wr => ∃ j : Nat, j ≤ ts.length ∧ i = .int .i64 j ∧ Hid (Below w.heap.size w wr)) (fun i _ => ts.length - (intOf i).toNat)
  case atStart => exact ⟨0, Nat.zero_le _, rfl, Below.refl _ _⟩
  case round =>
    obtain ⟨j, hj, rfl, HW⟩ := hrel
    by_cases hlt : j < ts.length
    · have ij : (j : Int) < ts.length := by omega
      have j0 : (0 : Int) ≤ j := by omega
      have a0 := hn (by omega)
      have a1 := hn2 (by omega)
      subst a0 a1
      have hlt2 : j < us.length := by have := HL.out; omega
      obtain ⟨e0, e1, e2, e3⟩ := HE.out j hlt hlt2
      have c0 : wr.cell? ⟨b, j * 4 + 0, none⟩ = some (.int .i64 (ts[j].k : Nat)) := up HW.out (HC.out j hlt 0 (by omega))
      have c1 : wr.cell? ⟨b, j * 4 + 1, none⟩ = some (.string (str ts[j].t)) := up HW.out (HC.out j hlt 1 (by omega))
      have c2 : wr.cell? ⟨b, j * 4 + 2, none⟩ = some (.int .i64 (ts[j].n : Nat)) := up HW.out (HC.out j hlt 2 (by omega))
      have c3 : wr.cell? ⟨b, j * 4 + 3, none⟩ = some (.int .i64 (ts[j].a : Nat)) := up HW.out (HC.out j hlt 3 (by omega))
      have d0 : wr.cell? ⟨c, j * 4 + 0, none⟩ = some (.int .i64 (us[j].k : Nat)) := up HW.out (HD.out j hlt2 0 (by omega))
      have d1 : wr.cell? ⟨c, j * 4 + 1, none⟩ = some (.string (str us[j].t)) := up HW.out (HD.out j hlt2 1 (by omega))
      have d2 : wr.cell? ⟨c, j * 4 + 2, none⟩ = some (.int .i64 (us[j].n : Nat)) := up HW.out (HD.out j hlt2 2 (by omega))
      have d3 : wr.cell? ⟨c, j * 4 + 3, none⟩ = some (.int .i64 (us[j].a : Nat)) := up HW.out (HD.out j hlt2 3 (by omega))
      rw [Nat.add_zero] at c0 d0
      rw [← e0] at d0
      rw [← e1] at d1
      rw [← e2] at d2
      clear e0 e1 e2
      have HX : Hid (bare = false → ts[j].a = us[j].a) := e3
      clear e3
      generalize ts[j].k = k at c0 d0
      generalize str ts[j].t = tx at c1 d1
      generalize ts[j].n = n at c2 d2
      generalize ts[j].a = x at c3 HX
      generalize us[j].a = y at d3 HX
      go_upto_region 6 with fail
      go_cut [8, 9] (fun p q wx => ∃ B1 B2 : Nat, p = .pointer (some ⟨B1, 0, none⟩) ∧ q = .pointer (some ⟨B2, 0, none⟩) ∧ Hid (B1 ≠ B2 ∧ Below wr.heap.size wr wx ∧ wr.heap.size ≤ B1 ∧ wr.heap.size ≤ B2 ∧ B4 wx B1 (.int .i64 (k : Nat)) (.string tx) (.int .i64 (n : Nat)) (.int .i64 (x : Nat)) ∧ B4 wx B2 (.int .i64 (k : Nat)) (.string tx) (.int .i64 (n : Nat)) (.int .i64 (y : Nat))))
      case first =>
        have key := fun u (hu : Below wr.heap.size wr u) => (⟨up hu c0, up hu c1, up hu c2, up hu c3, up hu d0, up hu d1, up hu d2, up hu d3⟩ : (fun q : World => q.cell? ⟨b, j * 4, none⟩ = some (.int .i64 (k : Nat)) ∧ q.cell? ⟨b, j * 4 + 1, none⟩ = some (.string tx) ∧ q.cell? ⟨b, j * 4 + 2, none⟩ = some (.int .i64 (n : Nat)) ∧ q.cell? ⟨b, j * 4 + 3, none⟩ = some (.int .i64 (x : Nat)) ∧ q.cell? ⟨c, j * 4, none⟩ = some (.int .i64 (k : Nat)) ∧ q.cell? ⟨c, j * 4 + 1, none⟩ = some (.string tx) ∧ q.cell? ⟨c, j * 4 + 2, none⟩ = some (.int .i64 (n : Nat)) ∧ q.cell? ⟨c, j * 4 + 3, none⟩ = some (.int .i64 (y : Nat))) u)
        have hS := key _ (Below.refl _ _).drew
        go_region_held3 (fun q : World => q.cell? ⟨b, j * 4, none⟩ = some (.int .i64 (k : Nat)) ∧ q.cell? ⟨b, j * 4 + 1, none⟩ = some (.string tx) ∧ q.cell? ⟨b, j * 4 + 2, none⟩ = some (.int .i64 (n : Nat)) ∧ q.cell? ⟨b, j * 4 + 3, none⟩ = some (.int .i64 (x : Nat)) ∧ q.cell? ⟨c, j * 4, none⟩ = some (.int .i64 (k : Nat)) ∧ q.cell? ⟨c, j * 4 + 1, none⟩ = some (.string tx) ∧ q.cell? ⟨c, j * 4 + 2, none⟩ = some (.int .i64 (n : Nat)) ∧ q.cell? ⟨c, j * 4 + 3, none⟩ = some (.int .i64 (y : Nat))) (first | with_reducible assumption | exact key _ (by repeat (first | exact Below.refl _ _ | refine Below.drew ?_ | refine Below.alloc ?_ (by simp) _ | refine Below.setCell ?_ (by simp) _))) (fail)
        · go_wp2
          go_meet
          case rel => exact ⟨wr.heap.size, wr.heap.size + 1, rfl, rfl, by omega, (nxt (below_alloc _ _) (below_alloc _ _)).drew, Nat.le_refl _, by omega, ((B4.new wr _ _ _ _ _).kept (below_alloc _ _)).kept (Below.refl _ _).drew, by
              have h := (B4.new (wr.alloc (.cells #[.int .i64 (k : Nat), .string tx, .int .i64 (n : Nat), .int .i64 (x : Nat)] 40)) (.int .i64 (k : Nat)) (.string tx) (.int .i64 (n : Nat)) (.int .i64 (y : Nat)) 40).kept (Below.refl _ _).drew
              rw [alloc_size] at h
              exact h⟩
        · go_wp2
          go_meet
          case rel => exact ⟨wr.heap.size + 1, wr.heap.size, rfl, rfl, by omega, (nxt (below_alloc _ _) (below_alloc _ _)).drew, by omega, Nat.le_refl _, by
              have h := (B4.new (wr.alloc (.cells #[.int .i64 (k : Nat), .string tx, .int .i64 (n : Nat), .int .i64 (y : Nat)] 40)) (.int .i64 (k : Nat)) (.string tx) (.int .i64 (n : Nat)) (.int .i64 (x : Nat)) 40).kept (Below.refl _ _).drew
              rw [alloc_size] at h
              exact h, ((B4.new wr _ _ _ _ _).kept (below_alloc _ _)).kept (Below.refl _ _).drew⟩
      case rest =>
        obtain ⟨B1, B2, hp1, hp2, HB⟩ := hcut
        subst hp1 hp2
        obtain ⟨hne, hbl, g1, g2, K1, K2⟩ := HB.out
        clear HB c0 c1 c2 c3 d0 d1 d2 d3
        obtain ⟨x0, x1, x2, x3, f0, f1, f2, f3⟩ := K1
        obtain ⟨y0, y1, y2, y3, h0, h1, h2, h3⟩ := K2
        cases bare
        · have e := HX.out rfl
          subst e
          go_wp2
          go_roundw
          case rel => exact ⟨j + 1, by omega, by go_num, nxt HW.out hbl⟩
          case measure => simp [intOf]; omega
        · go_wp2
          go_roundw
          case rel => exact ⟨j + 1, by omega, by go_num, (nxt HW.out hbl).setCell (by have := HW.out.size; show w.heap.size ≤ B1; omega) _⟩
          case measure => simp [intOf]; omega
    · have e : j = ts.length := by omega
      subst e
      have dl : ¬ (ts.length : Int) < ts.length := by omega
      go_wp2
      go_ret
      exact ⟨rfl, HW.out⟩
end Go.Proofs.YtgpaeilnpeflaaaDoor

/- Layer 5: the walks of the reference's Words and Keyword, and of the statement LexWords. -/
namespace Go.Proofs.YtgpaeilnpeflaaaDoor
open Go.RowKit

theorem kw_iff (s : ByteArray) : kw (bs s) = true ↔ ∃ j, j < 23 ∧ kwB.getD j ByteArray.empty = s := by
  rw [← kw_contains, Lib.containsS_iff, show kwB.take 23 = kwB from rfl]
  constructor
  · intro h
    obtain ⟨j, hj, e⟩ := List.getElem_of_mem h
    exact ⟨j, hj, by simp [List.getD, hj, e]⟩
  · rintro ⟨j, hj, rfl⟩
    have hj' : j < kwB.length := hj
    simp [List.getD, hj']
set_option maxHeartbeats 1000000 in
theorem rwords_any (w : World) :
    Calls Tryd.prog 33 #[] w fun e w' => e = .returned (.slice (some ⟨w.heap.size, 0, none⟩) 23 23) ∧ w' = w.alloc (.cells kwC 9) := by
  go_enter Tryd.func33, Tryd.ntmps33
  go_wp2
  go_ret
  exact ⟨rfl, rfl⟩
theorem kw_cell (w : World) (i : Nat) (hi : i < 23) : (w.alloc (.cells kwC 9)).cell? ⟨w.heap.size, i, none⟩ = some (.string (kwB.getD i ByteArray.empty)) := by
  have := kw_cells w 9 i hi
  rwa [Nat.zero_add] at this
theorem eq_toList (a b : ByteArray) : (a.toList == b.toList) = true ↔ a = b := by
  rw [beq_iff_eq, toList_bs, toList_bs]
  exact ⟨fun h => by rw [← str_bs a, h, str_bs], fun h => by rw [h]⟩

set_option maxRecDepth 100000 in
set_option maxHeartbeats 2000000 in
theorem rkeyword_any (s : ByteArray) (w : World) :
    Calls Tryd.prog 23 #[.string s] w fun e w' => e = .returned (.bool (kw (bs s))) ∧ Below w.heap.size w w' := by
  have HK : Hid (kw (bs s) = true ↔ ∃ j, j < 23 ∧ kwB.getD j ByteArray.empty = s) := kw_iff s
  have HB : Hid (Below w.heap.size w (w.alloc (.cells kwC 9))) := below_alloc _ _
  have HC : Hid (∀ i, i < 23 → (w.alloc (.cells kwC 9)).cell? ⟨w.heap.size, i, none⟩ = some (.string (kwB.getD i ByteArray.empty))) := kw_cell w
  go_enter Tryd.func23, Tryd.ntmps23
  go_wp2_with fail
  refine (rwords_any _).mono ?_
  rintro e w1 ⟨rfl, rfl⟩
  generalize (w.alloc (.cells kwC 9)) = w0 at HB HC ⊢
  go_wp2
  go_loop [4] (fun i => ∃ k : Nat, k ≤ 23 ∧ i = .int .i64 k ∧ Hid (∀ j, j < k → kwB.getD j ByteArray.empty ≠ s)) (fun i => 23 - (intOf i).toNat)
  case atStart => exact ⟨0, by omega, rfl, fun j h => absurd h (Nat.not_lt_zero _)⟩
  case round =>
    obtain ⟨k, hk, rfl, HN⟩ := hrel
    by_cases hlt : k < 23
    · have hc := HC.out k hlt
      have ij : (k : Int) < 23 := by omega
      generalize hx : kwB.getD k ByteArray.empty = x at hc
      have HX : Hid (kwB.getD k ByteArray.empty = x) := hx
      clear hx
      cases he : (x.toList == s.toList)
      · go_wp2
        go_round
        case rel => exact ⟨k + 1, by omega, by go_num, fun j hj hh => by
            by_cases e : j = k
            · subst e
              rw [HX.out] at hh
              rw [(eq_toList x s).2 hh] at he; cases he
            · exact HN.out j (by omega) hh⟩
        case measure => simp [intOf]; omega
      · go_wp2
        go_ret
        exact ⟨ret_bool ((HK.out.2 ⟨k, hlt, HX.out.trans ((eq_toList x s).1 he)⟩)).symm, HB.out⟩
    · have e : k = 23 := by omega
      subst e
      go_wp2
      go_ret
      refine ⟨ret_bool ?_, HB.out⟩
      cases hq : kw (bs s)
      · rfl
      · obtain ⟨j, hj, e⟩ := HK.out.1 hq
        exact absurd e (HN.out j hj)

theorem keyword_in (i : Nat) (hi : i < 23) (x : ByteArray) (hx : kwB.getD i ByteArray.empty = x) : kw (bs x) = true := (kw_iff x).2 ⟨i, hi, hx⟩

end Go.Proofs.YtgpaeilnpeflaaaDoor
