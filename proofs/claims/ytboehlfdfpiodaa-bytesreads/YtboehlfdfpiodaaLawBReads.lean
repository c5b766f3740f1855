/- Layer 4: the walk of the statement BytesReads. -/
import Derived.Test.YtboehlfdfpiodaaLawBNil
import Derived.Test.YtboehlfdfpiodaaBtNums
namespace Go.Proofs.Ytboehlfdfpiodaa
open Go.RowKit

theorem below_drewN (w : World) (n : Nat) : Below w.heap.size w (w.drewN n) := ⟨rfl, rfl, rfl, Nat.le_refl _, fun _ _ => rfl⟩

set_option maxHeartbeats 2000000 in
theorem xleft_quiet (q : Nat) (X : Bys) (a : Nat) (no : Bool) (r : Nat) (w : World) (h : Rx w q X a no) (hr : leftV (abst X a no) = r) :
    Calls Try.prog 27 #[.pointer (some ⟨q, 0, none⟩)] w fun e w' => e = .returned (.int .i64 r) ∧ ∃ m, w' = w.drewN m := by
  obtain ⟨c0, c1, c2, f1, f2⟩ := blk3 h.blk
  have hb := h.at'.bound
  have hlc := h.at'.lc
  have hle := h.le
  clear h
  subst hr
  cases no
  · have HV : Hid (leftV (abst X a false) = X.len - a) := by show (X.l.drop a).length = _; rw [List.length_drop, X.len_l]
    rw [HV.out]
    go_enter Try.func27, Try.ntmps27
    go_wp2
    go_region
    go_wp2
    go_ret
    exact ⟨ret_int (by omega), 1, rfl⟩
  · go_enter Try.func27, Try.ntmps27
    go_wp2
    go_ret
    exact ⟨rfl, 0, rfl⟩

theorem left_q {p g : Nat} {st : Option (List Nat)} {l : Nat} {w : World} {n : Nat} (h : Rd (w.drewN n) p g st) (hl : leftV st = l) : Calls Try.prog 26 #[.pointer (some ⟨p, 0, none⟩)] (w.drewN n) fun e w'' => e = .returned (.int .i64 l) ∧ ∃ m, w'' = w.drewN m := by
  subst hl; exact Calls.quiet_of_same (left_any p g st _ h)
theorem failed_q {p g : Nat} {st : Option (List Nat)} {b : Bool} {w : World} {n : Nat} (h : Rd (w.drewN n) p g st) (hb : st.isNone = b) : Calls Try.prog 28 #[.pointer (some ⟨p, 0, none⟩)] (w.drewN n) fun e w'' => e = .returned (.bool b) ∧ ∃ m, w'' = w.drewN m := by
  subst hb; exact Calls.quiet_of_same (failed_any p g st _ h)
theorem done_q {p g : Nat} {st : Option (List Nat)} {b : Bool} {w : World} {n : Nat} (h : Rd (w.drewN n) p g st) (hb : doneB st = b) : Calls Try.prog 29 #[.pointer (some ⟨p, 0, none⟩)] (w.drewN n) fun e w'' => e = .returned (.bool b) ∧ ∃ m, w'' = w.drewN m := by
  subst hb; exact Calls.quiet_of_same (done_any p g st _ h)
theorem xleft_q {Q : Nat} {X : Bys} {a : Nat} {no : Bool} {l : Nat} {w : World} {n : Nat} (h : Rx (w.drewN n) Q X a no) (hl : leftV (abst X a no) = l) : Calls Try.prog 27 #[.pointer (some ⟨Q, 0, none⟩)] (w.drewN n) fun e w'' => e = .returned (.int .i64 l) ∧ ∃ m, w'' = w.drewN m :=
  Calls.quiet_of (xleft_quiet Q X a no l _ h hl)

theorem fr0 {w : World} {p : Nat} {cs : Array Value} {T : TypeId} (h : w.heap[p]? = some (.cells cs T (0, 0))) : w.frozen? ⟨p, 0, none⟩ = false := by simp [World.frozen?, h]
theorem blk3_set0 {w : World} {p : Nat} {u v x y : Value} {T : TypeId} (h : w.heap[p]? = some (.cells #[u, v, x] T (0, 0))) : (w.setCell ⟨p, 0, none⟩ y).heap[p]? = some (.cells #[y, v, x] T (0, 0)) := by
  simp [World.setCell, Array.getElem?_modify, h]
/-- The two readers. -/
structure Two (w0 w : World) (p g Q : Nat) (X : Bys) (st : Option (List Nat)) : Prop where
  rd : Rd w p g st
  rf : Rf w Q X st
  bl : Below w0.heap.size w0 w
structure Apart (w0 : World) (p g Q : Nat) (X : Bys) : Prop where
  gp : g ≠ p
  pQ : p ≠ Q
  gQ : g ≠ Q
  Xp : X.b ≠ p
  p0 : w0.heap.size ≤ p
  q0 : w0.heap.size ≤ Q
theorem two_start {w w3 w4 : World} {p g Q : Nat} {R : Bys} {l : List Nat} (hrd : Rd w3 p g (some l)) (hb3 : Below w.heap.size w w3) (hg : w3.grownBy w4 none) (hR : R.At w4) (hl : R.l = l) (hs : l.length ≤ 100000) (hRb : Q + 1 ≤ R.b) (hQ : w4.heap[Q]? = some (.cells #[.slice none 0 0, .int .i64 0, .bool false] 38 (0, 0)))
    (hpQ : p < Q) (hgQ : g < Q) (hw : w.heap.size ≤ Q) : Two w (w4.setCell ⟨Q, 0, none⟩ (.slice R.ao R.len R.cap)) p g Q R (some l) := by
  have hg' : w4.grownBy (w4.setCell ⟨Q, 0, none⟩ (.slice R.ao R.len R.cap)) (some Q) := gb_set (gb_refl _ _) _ _
  refine ⟨((hrd.gb (q := Q) (gb_none hg _) (by omega) (by omega))).gb hg' (by omega) (by omega), ⟨0, false, ⟨hR.gb hg' (by omega), Nat.zero_le _, by omega, by rw [← R.len_l, hl]; exact hs, blk3_set0 hQ⟩, ?_⟩, (hb3.grown hg hb3.size (fun k hk => by cases hk)).setCell hw _⟩
  show some (R.l.drop 0) = _
  rw [List.drop_zero, hl]
theorem Two.left {w w1 w2 : World} {p g Q : Nat} {X : Bys} {st st' : Option (List Nat)} (h : Two w w1 p g Q X st) (ha : Apart w p g Q X) (hr : Rd w2 p g st') (hg : w1.grownBy w2 (some p)) : Rd w2 p g st' ∧ Rf w2 Q X st ∧ Below w.heap.size w w2 :=
  ⟨hr, h.rf.gb hg (fun e => ha.pQ e.symm) ha.Xp, h.bl.grown hg h.bl.size (fun k hk => by injection hk with hk; rw [← hk]; exact ha.p0)⟩
theorem Two.right {w w2 w3 : World} {p g Q : Nat} {X : Bys} {st st' : Option (List Nat)} (h : Rd w2 p g st' ∧ Rf w2 Q X st ∧ Below w.heap.size w w2) (ha : Apart w p g Q X) (hr : Rf w3 Q X st') (hg : w2.grownBy w3 (some Q)) : Two w w3 p g Q X st' :=
  ⟨h.1.gb hg ha.pQ ha.gQ, hr, h.2.2.grown hg h.2.2.size (fun k hk => by injection hk with hk; rw [← hk]; exact ha.q0)⟩

set_option maxRecDepth 100000 in
set_option maxHeartbeats 8000000 in
theorem bytesReads_any (B : Bys) (A : Nums) (w : World) (hB : B.At w) (hA : A.At w) :
    Calls Try.prog 4 #[.slice B.ao B.len B.cap, .slice A.ao A.len A.cap] w fun e w' => e = .returned (.bool true) ∧ Below w.heap.size w w' := by
  have HB : Hid (B.At w) := hB
  have HA : Hid (A.At w) := hA
  have hbb := hB.bound
  have hbl := hB.lc
  have hab := hA.bound
  have hal := hA.lc
  clear hB hA
  go_enter Try.func4, Try.ntmps4
  go_wp2_with fail
  refine (awake_any _).mono ?_
  rintro e w1 ⟨rfl, hb1⟩
  by_cases hs : 70000 < B.len
  · go_wp2_with fail
    refine (awake_any _).mono ?_
    rintro e w3 ⟨rfl, hb3⟩
    go_wp2
    go_ret
    exact ⟨rfl, hb1.trans (hb3.mono hb1.size)⟩
  by_cases hs2 : 300 < A.len
  · go_wp2_with fail
    refine (awake_any _).mono ?_
    rintro e w3 ⟨rfl, hb3⟩
    go_wp2
    go_ret
    exact ⟨rfl, hb1.trans (hb3.mono hb1.size)⟩
  have HB1 : Hid (Below w.heap.size w w1) := hb1
  have hs1 := hb1.size
  clear hb1
  go_upto_region 4 with (go_at_call 17; refine (read_any B w1 (HB.out.kept HB1.out) (by omega)).mono ?_; rintro e w2 ⟨p, rfl, hR, hp, hb2⟩; have HR2 : Hid (Rd w2 p w1.heap.size (some B.l)) := hR; have HB2 : Hid (Below w.heap.size w w2) := HB1.out.trans (hb2.mono hs1); clear hR hb2)
  have hs' : B.len ≤ 70000 := by omega
  have hs2' : A.len ≤ 300 := by omega
  clear hs hs2
  obtain ⟨Q, hQ⟩ : ∃ Q, Q = w2.heap.size := ⟨_, rfl⟩
  have HQ3 : Hid ((w2.alloc (.cells #[.slice none 0 0, .int .i64 0, .bool false] 38)).heap[Q]? = some (.cells #[.slice none 0 0, .int .i64 0, .bool false] 38 (0, 0))) := by rw [hQ]; exact heap_alloc_new _ _
  have HS3 : Hid ((w2.alloc (.cells #[.slice none 0 0, .int .i64 0, .bool false] 38)).heap.size = Q + 1) := by rw [hQ]; show _ = _; simp
  have HR3 : Hid (Rd (w2.alloc (.cells #[.slice none 0 0, .int .i64 0, .bool false] 38)) p w1.heap.size (some B.l)) := HR2.out.bel ((Below.refl _ _).alloc (Nat.le_refl _) _)
  have HB3 : Hid (Below w.heap.size w (w2.alloc (.cells #[.slice none 0 0, .int .i64 0, .bool false] 38))) := HB2.out.alloc HB2.out.size _
  have hpQ : p < Q := by rw [hQ]; exact HR2.out.lt
  have hwQ : w.heap.size ≤ Q := by rw [hQ]; exact HB2.out.size
  go_upto_region 5 with fail
  rw [← hQ]
  generalize w2.alloc (.cells #[.slice none 0 0, .int .i64 0, .bool false] 38) = w3 at *
  clear hQ HR2 HB2
  obtain ⟨c0, c1, c2, f1, f2⟩ := blk3 HQ3.out
  go_upto_region 6 with (refine wpList_append_bys rfl (.tmp 30) (.tmp 31) rfl (Q + 1) _ [] rfl (Own.nil _ _) B rfl (HB.out.kept HB3.out) (by show 0 + B.len ≤ _; omega) (Nat.le_of_eq HS3.out.symm) ?_; intro v w4 HO hg4; obtain ⟨R, rfl, hR, hRl, hRb⟩ := HO.out.bys; have HQ4 : Hid (w4.heap[Q]? = some (.cells #[.slice none 0 0, .int .i64 0, .bool false] 38 (0, 0))) := (hg4.block Q (heap_lt HQ3.out) (fun e => by cases e)).trans HQ3.out; have k0 := (blk3 HQ4.out).1; have kf := fr0 HQ4.out; have HR4 : Hid (R.At w4 ∧ R.l = B.l ∧ Q + 1 ≤ R.b) := ⟨hR, hRl, hRb⟩; clear hR hRl hRb HO)
  have HT : Hid (Two w (w4.setCell ⟨Q, 0, none⟩ (.slice R.ao R.len R.cap)) p w1.heap.size Q R (some B.l)) := two_start HR3.out HB3.out hg4 HR4.out.1 HR4.out.2.1 (by rw [B.len_l]; omega) HR4.out.2.2 HQ4.out hpQ (by omega) hwQ
  have HAp : Hid (Apart w p w1.heap.size Q R) := ⟨by omega, by omega, by omega, by have := HR4.out.2.2; omega, by omega, hwQ⟩
  obtain ⟨g, hgg⟩ : ∃ g, g = w1.heap.size := ⟨_, rfl⟩
  rw [← hgg] at HT HAp
  generalize w4.setCell ⟨Q, 0, none⟩ (.slice R.ao R.len R.cap) = w5 at *
  clear HR4 HQ4 k0 kf hg4 HR3 HB3 HQ3 HS3 c0 c1 c2 f1 f2 hgg HB1
  go_wp2
  go_loopw [7] (fun i wr => ∃ k : Nat, k ≤ A.len ∧ i = .int .i64 k ∧ ∃ st, Two w wr p g Q R st) (fun i _ => A.len - (intOf i).toNat)
  case atStart => exact ⟨0, Nat.zero_le _, rfl, _, HT.out⟩
  case round =>
    obtain ⟨k, hk, rfl, st, ht⟩ := hrel
    have HT2 : Hid (Two w wr p g Q R st) := ht
    clear ht HT
    by_cases hlt : k < A.len
    · have hao := HA.out.nil (by omega)
      have ck := (HA.out.kept HT2.out.bl).cell k hlt
      rw [hao]
      obtain ⟨x, hx⟩ : ∃ x, x = A.f k := ⟨_, rfl⟩
      rw [← hx] at ck
      have HXA : Hid (A.f k = x) := hx.symm
      clear hx
      go_upto_region 9 with fail
      go_cut [8] from 35 to 126 (fun c wx => c = .bool true ∧ wx = wr)
      case first =>
        go_wp2
        go_meet
        case rel => exact ⟨rfl, rfl⟩
      case rest =>
        obtain ⟨rfl, rfl⟩ := hcut
        rename_i K1 a1
        refine a1 _ _ ?_
        clear a1
        refine wp_seq_k ?_
        intro K2 a2
        go_cut [8] from 35 to 126 (fun c wx => c = .bool true ∧ ∃ st, Two w wx p g Q R st)
        case first =>
          by_cases x1 : x = -1
          · subst x1
            obtain ⟨V, hV⟩ : ∃ V, V = shortV st := ⟨_, rfl⟩
            have HV : Hid (shortV st = V) := hV.symm
            clear hV
            go_wp2_with (first
              | (go_at_call 18; refine (rshort_any p g st wc HAp.out.gp HT2.out.rd).mono ?_; rw [HV.out]; rintro e wa ⟨rfl, hR, hg⟩; have HL : Hid (Rd wa p g (tkS 2 st) ∧ Rf wa Q R st ∧ Below w.heap.size w wa) := HT2.out.left HAp.out hR hg; clear hR hg)
              | (go_at_call 19; refine (xshort_any Q R st wa HL.out.2.1).mono ?_; rw [HV.out]; rintro e wb ⟨rfl, hR, hg⟩; have HZ : Hid (Two w wb p g Q R (tkS 2 st)) := Two.right HL.out HAp.out hR hg; clear hR hg))
            go_meet
            case rel => exact ⟨rfl, _, HZ.out⟩
          by_cases x2 : x = -2
          · subst x2
            obtain ⟨V, hV⟩ : ∃ V, V = longV st := ⟨_, rfl⟩
            have HV : Hid (longV st = V) := hV.symm
            clear hV
            go_wp2_with (first
              | (go_at_call 20; refine (rlong_any p g st wc HAp.out.gp HT2.out.rd).mono ?_; rw [HV.out]; rintro e wa ⟨rfl, hR, hg⟩; have HL : Hid (Rd wa p g (tkS 8 st) ∧ Rf wa Q R st ∧ Below w.heap.size w wa) := HT2.out.left HAp.out hR hg; clear hR hg)
              | (go_at_call 21; refine (xlong_any Q R st wa HL.out.2.1).mono ?_; rw [HV.out]; rintro e wb ⟨rfl, hR, hg⟩; have HZ : Hid (Two w wb p g Q R (tkS 8 st)) := Two.right HL.out HAp.out hR hg; clear hR hg))
            go_meet
            case rel => exact ⟨rfl, _, HZ.out⟩
          by_cases x3 : x = -3
          · subst x3
            obtain ⟨V, hV⟩ : ∃ V, V = textV st := ⟨_, rfl⟩
            have HV : Hid (textV st = V) := hV.symm
            clear hV
            go_wp2_with (first
              | (go_at_call 22; refine (rtext_any p g st wc HAp.out.gp HT2.out.rd).mono ?_; rw [HV.out]; rintro e wa ⟨rfl, hR, hg⟩; have HL : Hid (Rd wa p g (textS st) ∧ Rf wa Q R st ∧ Below w.heap.size w wa) := HT2.out.left HAp.out hR hg; clear hR hg)
              | (go_at_call 23; refine (xtext_any Q R st wa HL.out.2.1).mono ?_; rw [HV.out]; rintro e wb ⟨rfl, hR, hg⟩; have HZ : Hid (Two w wb p g Q R (textS st)) := Two.right HL.out HAp.out hR hg; clear hR hg))
            go_meet
            case rel => exact ⟨rfl, _, HZ.out⟩
          · obtain ⟨V, hV⟩ : ∃ V, V = belowV x st := ⟨_, rfl⟩
            have HV : Hid (belowV x st = V) := hV.symm
            have y1 : (x == -1) = false := beq_eq_false_iff_ne.2 x1
            have y2 : (x == -2) = false := beq_eq_false_iff_ne.2 x2
            have y3 : (x == -3) = false := beq_eq_false_iff_ne.2 x3
            clear hV x1 x2 x3
            go_wp2
            have KEY : Hid (∀ u : World, Below w.heap.size w u → (fun u : World => u.cell? ⟨A.b, A.o + k, none⟩ = some (.int .i64 x)) u) := fun u hu => HXA.out ▸ (HA.out.kept hu).cell k hlt
            have HT3 : Hid (Two w wc.drew p g Q R st) := ⟨HT2.out.rd.bel ((Below.refl _ _).drew), HT2.out.rf.bel ((Below.refl _ _).drew), HT2.out.bl.drew⟩
            have hS := KEY.out _ HT3.out.bl
            have i1 : (0 : Int) ≤ (k : Int) := by omega
            have i2 : (k : Int) < (A.len : Int) := by omega
            go_region_held3 (fun u : World => u.cell? ⟨A.b, A.o + k, none⟩ = some (.int .i64 x)) (first | with_reducible assumption | fail) (first
              | (go_at_call 24; refine (below_any p g x st wc.drew HAp.out.gp HT3.out.rd).mono ?_; rw [HV.out]; rintro e wa ⟨rfl, hR, hg⟩; have HL : Hid (Rd wa p g (belowS x st) ∧ Rf wa Q R st ∧ Below w.heap.size w wa) := HT3.out.left HAp.out hR hg; have hS2 := KEY.out _ HL.out.2.2; clear hR hg)
              | (go_at_call 25; refine (xbelow_any Q R x st wa HL.out.2.1).mono ?_; rw [HV.out]; rintro e wb ⟨rfl, hR, hg⟩; have HZ : Hid (Two w wb p g Q R (belowS x st)) := Two.right HL.out HAp.out hR hg; have hS3 := KEY.out _ HZ.out.bl; clear hR hg))
            go_wp2
            go_meet
            case rel => exact ⟨rfl, _, HZ.out⟩
        case rest =>
          obtain ⟨rfl, st2, ht2⟩ := hcut
          have HT4 : Hid (Two w wc p g Q R st2) := ht2
          clear ht2 HT2
          refine a2 _ _ ?_
          clear a2
          obtain ⟨a, no, hx, hst⟩ := HT4.out.rf
          have HX : Hid (Rx wc Q R a no) := hx
          obtain ⟨c0, c1, c2, f1, f2⟩ := blk3 hx.blk
          have hlea := hx.le
          have hRb := hx.at'.bound
          have hRl := hx.at'.lc
          subst hst
          have HD : Hid (∀ n, Rd (wc.drewN n) p g (abst R a no) ∧ Rx (wc.drewN n) Q R a no) := fun n => ⟨HT4.out.rd.bel (below_drewN _ _), HX.out.bel (below_drewN _ _)⟩
          obtain ⟨l, hl⟩ : ∃ l, l = leftV (abst R a no) := ⟨_, rfl⟩
          have HL : Hid (leftV (abst R a no) = l) := hl.symm
          clear hx hl
          go_upto_region 17 with fail
          go_cut [126] from 35 to 126 (fun c wx => c = .bool false ∧ ∃ n, wx = wc.drewN n)
          case first =>
            cases no
            · have HR : Hid (∀ n, Rd (wc.drewN n) p g (abst R a false)) := fun n => (HD.out n).1
              have HX2 : Hid (∀ n, Rx (wc.drewN n) Q R a false) := fun n => (HD.out n).2
              have HFa : Hid ((abst R a false).isNone = false) := rfl
              have HLd : Hid ((R.l.drop a).length = R.len - a) := by show _ = _; rw [List.length_drop, R.len_l]
              by_cases ha : a = R.len
              · have HDo : Hid (doneB (abst R a false) = true) := by
                  show (true && ((R.l.drop a).length == 0)) = true
                  rw [HLd.out, ha]; simp
                have hne : ((a : Int) == (R.len : Int)) = true := by rw [ha]; simp
                clear ha
                refine wp_region_quiet_lit (by kernel_rfl) (by kernel_rfl) ?_
                repeat (first | go_big_quiet_step ((first
                  | (go_at_call 26; with_reducible exact left_q (HR.out _) HL.out)
                  | (go_at_call 27; with_reducible exact xleft_q (HX2.out _) HL.out)
                  | (go_at_call 28; with_reducible exact failed_q (HR.out _) HFa.out)
                  | (go_at_call 29; with_reducible exact done_q (HR.out _) HDo.out))))
                refine wpQuiet_nil ?_
                rintro w' ⟨n, rfl⟩
                go_wp2
                go_meet
                case rel => exact ⟨rfl, _, rfl⟩
              · have HDo : Hid (doneB (abst R a false) = false) := by
                  show (true && ((R.l.drop a).length == 0)) = false
                  rw [HLd.out, Bool.true_and]
                  exact beq_eq_false_iff_ne.2 (by omega)
                have hne : ((a : Int) == (R.len : Int)) = false := beq_eq_false_iff_ne.2 (by omega)
                clear ha
                refine wp_region_quiet_lit (by kernel_rfl) (by kernel_rfl) ?_
                repeat (first | go_big_quiet_step ((first
                  | (go_at_call 26; with_reducible exact left_q (HR.out _) HL.out)
                  | (go_at_call 27; with_reducible exact xleft_q (HX2.out _) HL.out)
                  | (go_at_call 28; with_reducible exact failed_q (HR.out _) HFa.out)
                  | (go_at_call 29; with_reducible exact done_q (HR.out _) HDo.out))))
                refine wpQuiet_nil ?_
                rintro w' ⟨n, rfl⟩
                go_wp2
                go_meet
                case rel => exact ⟨rfl, _, rfl⟩
            · have HR : Hid (∀ n, Rd (wc.drewN n) p g (abst R a true)) := fun n => (HD.out n).1
              have HX2 : Hid (∀ n, Rx (wc.drewN n) Q R a true) := fun n => (HD.out n).2
              have HDo : Hid (doneB (abst R a true) = false) := rfl
              have HFa : Hid ((abst R a true).isNone = true) := rfl
              refine wp_region_quiet_lit (by kernel_rfl) (by kernel_rfl) ?_
              repeat (first | go_big_quiet_step ((first
                | (go_at_call 26; with_reducible exact left_q (HR.out _) HL.out)
                | (go_at_call 27; with_reducible exact xleft_q (HX2.out _) HL.out)
                | (go_at_call 28; with_reducible exact failed_q (HR.out _) HFa.out)
                | (go_at_call 29; with_reducible exact done_q (HR.out _) HDo.out))))
              refine wpQuiet_nil ?_
              rintro w' ⟨n, rfl⟩
              go_wp2
              go_meet
              case rel => exact ⟨rfl, _, rfl⟩
          case rest =>
            obtain ⟨rfl, n, rfl⟩ := hcut
            have HE : Hid (Two w (_ : World) p g Q R (abst R a no)) := ⟨(HD.out n).1, ⟨a, no, (HD.out n).2, rfl⟩, HT4.out.bl.trans ((below_drewN _ _).mono HT4.out.bl.size)⟩
            go_wp2
            go_roundw
            case rel => exact ⟨k + 1, by omega, by go_num, _, HE.out⟩
            case measure => simp [intOf]; omega
    · go_wp2
      go_ret
      exact ⟨rfl, HT2.out.bl⟩
end Go.Proofs.Ytboehlfdfpiodaa
