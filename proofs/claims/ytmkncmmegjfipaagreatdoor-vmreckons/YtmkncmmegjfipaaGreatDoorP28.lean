/- Layer 13: what is asked of a point's slots: slotsFormed. -/
import Derived.Test.YtmkncmmegjfipaaGreatDoorP27
namespace Go.Proofs.YtmkncmmegjfipaaGreatDoor
open Go Go.RowKit

theorem has_mono {R R' : List Ty} {t : Ty} (hR : ∀ (a : Nat) (s : Ty), R[a]? = some s → R'[a]? = some s) (h : has R t = true) : has R' t = true := by
  obtain ⟨i, s, h1, h2⟩ := has_iff.1 h
  exact has_iff.2 ⟨i, s, hR i s h1, h2⟩
theorem takeT_pre (R : List Ty) (t : Ty) (a : Nat) (s : Ty) (h : R[a]? = some s) : (takeT R t)[a]? = some s := by
  unfold takeT
  split
  · exact h
  · exact putT_pre t R a s h
theorem has_takeT {w : World} (R : List Ty) {t : Ty} (ht : t.At w) : has (takeT R t) t = true := by
  unfold takeT
  split
  · assumption
  · rw [putT_eq t R (fun e => by rw [e] at ht; exact ht.elim)]
    split
    · assumption
    · exact has_iff.2 ⟨(itr (fun i => putT (t.ps i)) t.len R).length, t, by simp, same_refl _⟩
def slotT (R : List Ty) (t : Ty) : List Ty := if t.zr then R else takeT R t
def slotL (f : Nat → Ty) : Nat → List Ty → List Ty
  | 0, R => R
  | k + 1, R => slotT (slotL f k R) (f k)
theorem slotT_pre (R : List Ty) (t : Ty) (a : Nat) (s : Ty) (h : R[a]? = some s) : (slotT R t)[a]? = some s := by
  unfold slotT
  split
  · exact h
  · exact takeT_pre R t a s h
theorem slotL_pre (f : Nat → Ty) : ∀ (k : Nat) (R : List Ty) (a : Nat) (s : Ty), R[a]? = some s → (slotL f k R)[a]? = some s
  | 0, _, _, _, h => h
  | k + 1, R, a, s, h => slotT_pre _ _ _ _ (slotL_pre f k R a s h)
theorem slotL_has {w : World} (f : Nat → Ty) (R : List Ty) : ∀ k, (∀ i, i < k → (f i).At w) → ∀ i, i < k → (f i).zr = true ∨ has (slotL f k R) (f i) = true
  | 0, _, i, hi => absurd hi (Nat.not_lt_zero _)
  | k + 1, hA, i, hi => by
    rcases Nat.lt_or_ge i k with h | h
    · rcases slotL_has f R k (fun i hi => hA i (by omega)) i h with h1 | h1
      · exact Or.inl h1
      · exact Or.inr (has_mono (slotT_pre _ _) h1)
    · have : i = k := by omega
      subst this
      cases hz : (f i).zr
      · right
        show has (slotT (slotL f i R) (f i)) (f i) = true
        unfold slotT
        rw [if_neg (by rw [hz]; simp)]
        exact has_takeT _ (hA i (by omega))
      · exact Or.inl rfl
theorem zr_same {s t : Ty} (h : s.same t = true) : s.zr = t.zr := by
  obtain ⟨⟨h1, h2, h3, h4, h5⟩, _⟩ := (same_iff s t).1 h
  unfold Ty.zr
  rw [h1, h2, h3, h4, h5]
/-- A slot that is as one ahead: it is there. -/
theorem slot_old {w : World} {N : Nat} {R : List Ty} {Q : List (List Int)} (G : Good N R Q) (hR : ∀ t ∈ R, t.At w) {s t : Ty} (hs : s.At w) (h : s.same t = true) (ht : t.zr = true ∨ has R t = true) : (s.zr || s.ok N) = true ∧ slotT R s = R := by
  unfold slotT
  rcases ht with h1 | h1
  · have : s.zr = true := (zr_same h).trans h1
    rw [this]
    exact ⟨rfl, if_pos rfl⟩
  · obtain ⟨i, u, h2, h3⟩ := has_iff.1 h1
    have hm := List.mem_of_getElem? h2
    have hu : u.same s = true := same_trans _ _ _ h3 (same_symm _ _ h)
    have hok : s.ok N = true := (same_ok (hR u hm) hs hu).symm.trans (G.ok u hm)
    refine ⟨by rw [hok, Bool.or_true], ?_⟩
    split
    · rfl
    · unfold takeT
      rw [if_pos (has_iff.2 ⟨i, u, h2, hu⟩)]

set_option maxRecDepth 100000 in
set_option maxHeartbeats 8000000 in
theorem slotsFormed_any {w0 : World} {n : Strs} {g : Grid} {p : Nat} (hF : formedB n g = true) (hn : n.At w0) (hg : g.At w0) (L A : Ty) (S : Nat → Prop) (R : List Ty) (w : World) (hL : L.At w0) (hA : A.At w0) (hah : ∀ i, i < A.len → (A.ps i).zr = true ∨ has R (A.ps i) = true) (hP : Pl w0 n g p S R w) (hR : R.length + 40 * L.len ≤ 2000000000) :
    Calls Tryz.prog 143 #[.pointer (some ⟨p, 0, none⟩), .slice L.ao L.len L.cap, .slice A.ao A.len A.cap] w fun e w' => BR w0 n g p S w R (40 * L.len) (decide (∀ i, i < L.len → ((L.ps i).zr || (L.ps i).ok n.len) = true)) (slotL L.ps L.len R) e w' := by
  have HD := hyd (show formedB n g = true ∧ n.At w0 ∧ g.At w0 ∧ L.At w0 ∧ A.At w0 ∧ (∀ i, i < A.len → (A.ps i).zr = true ∨ has R (A.ps i) = true) ∧ R.length + 40 * L.len ≤ 2000000000 ∧ w0.heap.size ≤ w.heap.size from ⟨hF, hn, hg, hL, hA, hah, hR, hP.bl.size⟩)
  have HP := hyd hP
  have hbd : L.len ≤ 9223372036854775807 := hL.bound
  have hnil : 0 < L.len → L.ao = some ⟨L.b, L.o, none⟩ := hL.nil
  have hnia : 0 < A.len → A.ao = some ⟨A.b, A.o, none⟩ := hA.nil
  have HB : Hid (∀ e w' ans, ans = decide (∀ i, i < L.len → ((L.ps i).zr || (L.ps i).ok n.len) = true) → BR w0 n g p S w R (40 * L.len) ans (slotL L.ps L.len R) e w' → BR w0 n g p S w R (40 * L.len) (decide (∀ i, i < L.len → ((L.ps i).zr || (L.ps i).ok n.len) = true)) (slotL L.ps L.len R) e w') := fun e w' ans h1 h2 => h1 ▸ h2
  generalize hANS : decide (∀ i, i < L.len → ((L.ps i).zr || (L.ps i).ok n.len) = true) = ANS at *
  have HANS := hyd hANS
  clear hANS hF hn hg hL hA hah hR hP
  generalize hlen : L.len = len at *
  have HLen := hyd hlen
  clear hlen
  generalize L.ao = lo at *
  go_enter Tryz.func143, Tryz.ntmps143
  go_wp2
  go_loopw [10] (fun i wr => ∃ (j : Nat) (S1 : Nat → Prop), j ≤ len ∧ i = .int .i64 j ∧ Pg w0 n g p S w S1 (slotL L.ps j R) wr ∧ (slotL L.ps j R).length ≤ R.length + 40 * j ∧ (∀ i, i < j → ((L.ps i).zr || (L.ps i).ok n.len) = true)) (fun i _ => len - (intOf i).toNat)
  case atStart => exact ⟨0, S, Nat.zero_le _, rfl, Pg.of HP.out (Below.refl _ _), Nat.le_refl _, fun i hi => absurd hi (Nat.not_lt_zero _)⟩
  case round =>
    clear HP
    obtain ⟨j, S1, hj, rfl, hG, hLn, hall⟩ := hrel
    have HG := hyd hG
    have HI := hyd (show (slotL L.ps j R).length ≤ R.length + 40 * j ∧ (∀ i, i < j → ((L.ps i).zr || (L.ps i).ok n.len) = true) from ⟨hLn, hall⟩)
    clear hG hLn hall
    by_cases hlt : j < len
    · have ij : (j : Int) < len := by omega
      have a0 := hnil (by omega)
      subst a0
      have hjL : j < L.len := by rw [HLen.out]; exact hlt
      have HC := hyd (show C5 wr L.b (L.o + j * 5) (L.ps j) ∧ (L.ps j).At wr ∧ (L.ps j).At w0 from ⟨(HD.out.2.2.2.1.kept HG.out.pl.bl).cells hjL, (HD.out.2.2.2.1.kept HG.out.pl.bl).part hjL, HD.out.2.2.2.1.part hjL⟩)
      have HST : Hid (slotL L.ps (j + 1) R = slotT (slotL L.ps j R) (L.ps j)) := rfl
      have HNX : Hid (((L.ps j).zr || (L.ps j).ok n.len) = true → ∀ i, i < j + 1 → ((L.ps i).zr || (L.ps i).ok n.len) = true) := fun h i hi => by
        rcases Nat.lt_or_ge i j with h2 | h2
        · exact HI.out.2 i h2
        · have : i = j := by omega
          subst this; exact h
      have HNO : Hid (((L.ps j).zr || (L.ps j).ok n.len) = false → ANS = false) := fun h => by
        rw [← HANS.out, decide_eq_false_iff_not]
        intro hh
        have := hh j hlt
        rw [h] at this
        cases this
      clear hjL
      by_cases hja : j < A.len
      · have ia : (j : Int) < (A.len : Int) := by omega
        have b0 := hnia (by omega)
        have hcl : ∀ q, Calls Tryz.prog 171 #[.pointer (some ⟨L.b, L.o + j * 5, none⟩), .pointer (some ⟨A.b, A.o + j * 5, none⟩)] (wr.drewN q) fun e w' => e = .returned (.bool ((L.ps j).same (A.ps j))) ∧ ∃ m, w' = (wr.drewN q).drewN m := fun q => alike_any (L.ps j) (A.ps j) L.b (L.o + j * 5) A.b (A.o + j * 5) (wr.drewN q) (HC.out.1.draw q) (HC.out.2.1.draw q) (((HD.out.2.2.2.2.1.kept HG.out.pl.bl).cells hja).draw q) (((HD.out.2.2.2.2.1.kept HG.out.pl.bl).part hja).draw q)
        have HOL : Hid ((L.ps j).same (A.ps j) = true → ((L.ps j).zr || (L.ps j).ok n.len) = true ∧ slotT (slotL L.ps j R) (L.ps j) = slotL L.ps j R) := fun h => by
          obtain ⟨m, v, es, c, Q, hPw, _⟩ := HG.out.pl
          refine slot_old hPw.good hPw.at_ HC.out.2.2 h ?_
          rcases HD.out.2.2.2.2.2.1 j hja with h1 | h1
          · exact Or.inl h1
          · exact Or.inr (has_mono (slotL_pre _ _ _) h1)
        rw [b0]
        generalize (L.ps j).same (A.ps j) = bb at *
        go_upto_region 4 with fail
        go_quiet ((go_at_call 171; exact Calls.quiet_of (hcl _)))
        have HGW := hyd (HG.out.kept (below_drewN (Below.refl _ _) nq))
        have HCW := hyd (HC.out.1.draw nq)
        generalize wr.drewN nq = W at *
        clear hcl b0
        cases bb
        · clear HOL
          have c0 := HCW.out.c0
          have c1 := HCW.out.c1
          have c2 := HCW.out.c2
          have c3 := HCW.out.c3
          have c4 := HCW.out.c4
          have hz := isZero_any (L.ps j) W
          have HZ0 : Hid ((L.ps j).zr = (L.ps j).zr) := rfl
          have HSL : Hid ((L.ps j).zr = true → slotT (slotL L.ps j R) (L.ps j) = slotL L.ps j R) := fun h => by unfold slotT; rw [if_pos h]
          have HSN : Hid ((L.ps j).zr = false → slotT (slotL L.ps j R) (L.ps j) = takeT (slotL L.ps j R) (L.ps j)) := fun h => by unfold slotT; rw [if_neg (by rw [h]; simp)]
          have HNX2 := hyd (show ((L.ps j).zr || (L.ps j).ok n.len) = true → ∀ i, i < j + 1 → ((L.ps i).zr || (L.ps i).ok n.len) = true from HNX.out)
          clear HZ0
          generalize hzr : (L.ps j).zr = bz at hz HSL HSN HNO HNX
          go_wp2_with fail
          refine hz.mono ?_
          rintro _ w1 ⟨rfl, hb1⟩
          have HG1 := hyd (HGW.out.kept hb1)
          have HC1 := hyd (HCW.out.kept hb1)
          clear hz c0 c1 c2 c3 c4 hb1 HGW HCW
          have HZR := hyd hzr
          clear hzr
          cases bz
          · have c0 := HC1.out.c0
            have c1 := HC1.out.c1
            have c2 := HC1.out.c2
            have c3 := HC1.out.c3
            have c4 := HC1.out.c4
            have ht := takes_any HD.out.1 HD.out.2.1 HD.out.2.2.1 (L.ps j) S1 (slotL L.ps j R) w1 HC.out.2.2 HG1.out.pl (by have h1 := HI.out.1; have h2 := HD.out.2.2.2.2.2.2.1; have : 40 * (j + 1) ≤ 40 * len := Nat.mul_le_mul_left _ hlt; omega)
            go_wp2_with fail
            refine Calls.mono ht ?_
            rintro e w2 ⟨h5, S', h6⟩
            subst h5
            have H6 := hyd h6
            have HW := hyd (show (L.ps j).ok n.len = true → (L.ps j).nodes ≤ 40 from fun h => (ok_fm h).2)
            clear ht h6 c0 c1 c2 c3 c4
            generalize hok : (L.ps j).ok n.len = bo at H6 HW HNO HNX ⊢
            have HOK := hyd hok
            clear hok
            cases bo
            · have HE := hyd (HNO.out rfl)
              go_wp2
              go_ret
              exact BR.no rfl HE.out H6.out.pl.bl
            · have HN := hyd (HNX.out rfl)
              go_wp2
              go_roundw
              case rel => exact ⟨j + 1, S', by omega, by go_num, by rw [HST.out, HSN.out (by simp)]; exact HG1.out.trans (by have := H6.out; simpa using this), by rw [HST.out, HSN.out (by simp)]; have h1 := takeT_len (slotL L.ps j R) (L.ps j); have h2 := HW.out (by simp); have h3 := HI.out.1; omega, HN.out⟩
              case measure => simp [intOf]; omega
          · have HN := hyd (HNX.out rfl)
            go_wp2
            go_roundw
            case rel => exact ⟨j + 1, S1, by omega, by go_num, by rw [HST.out, HSL.out (by simp)]; exact HG1.out, by rw [HST.out, HSL.out (by simp)]; have h3 := HI.out.1; omega, HN.out⟩
            case measure => simp [intOf]; omega
        · have HO := hyd (HOL.out rfl)
          have HN := hyd (HNX.out HO.out.1)
          clear HOL
          go_wp2
          go_roundw
          case rel => exact ⟨j + 1, S1, by omega, by go_num, by rw [HST.out, HO.out.2]; exact HGW.out, by rw [HST.out, HO.out.2]; have h3 := HI.out.1; omega, HN.out⟩
          case measure => simp [intOf]; omega
      · have ia : ¬ (j : Int) < (A.len : Int) := by omega
        go_upto_region 4 with fail
        go_quiet (fail)
        have HGW := hyd (HG.out.kept (below_drewN (Below.refl _ _) nq))
        have HCW := hyd (HC.out.1.draw nq)
        generalize wr.drewN nq = W at *
        have c0 := HCW.out.c0
        have c1 := HCW.out.c1
        have c2 := HCW.out.c2
        have c3 := HCW.out.c3
        have c4 := HCW.out.c4
        have hz := isZero_any (L.ps j) W
        have HZ0 : Hid ((L.ps j).zr = (L.ps j).zr) := rfl
        have HSL : Hid ((L.ps j).zr = true → slotT (slotL L.ps j R) (L.ps j) = slotL L.ps j R) := fun h => by unfold slotT; rw [if_pos h]
        have HSN : Hid ((L.ps j).zr = false → slotT (slotL L.ps j R) (L.ps j) = takeT (slotL L.ps j R) (L.ps j)) := fun h => by unfold slotT; rw [if_neg (by rw [h]; simp)]
        have HNX2 := hyd (show ((L.ps j).zr || (L.ps j).ok n.len) = true → ∀ i, i < j + 1 → ((L.ps i).zr || (L.ps i).ok n.len) = true from HNX.out)
        clear HZ0
        generalize hzr : (L.ps j).zr = bz at hz HSL HSN HNO HNX
        go_wp2_with fail
        refine hz.mono ?_
        rintro _ w1 ⟨rfl, hb1⟩
        have HG1 := hyd (HGW.out.kept hb1)
        have HC1 := hyd (HCW.out.kept hb1)
        clear hz c0 c1 c2 c3 c4 hb1 HGW HCW
        have HZR := hyd hzr
        clear hzr
        cases bz
        · have c0 := HC1.out.c0
          have c1 := HC1.out.c1
          have c2 := HC1.out.c2
          have c3 := HC1.out.c3
          have c4 := HC1.out.c4
          have ht := takes_any HD.out.1 HD.out.2.1 HD.out.2.2.1 (L.ps j) S1 (slotL L.ps j R) w1 HC.out.2.2 HG1.out.pl (by have h1 := HI.out.1; have h2 := HD.out.2.2.2.2.2.2.1; have : 40 * (j + 1) ≤ 40 * len := Nat.mul_le_mul_left _ hlt; omega)
          go_wp2_with fail
          refine Calls.mono ht ?_
          rintro e w2 ⟨h5, S', h6⟩
          subst h5
          have H6 := hyd h6
          have HW := hyd (show (L.ps j).ok n.len = true → (L.ps j).nodes ≤ 40 from fun h => (ok_fm h).2)
          clear ht h6 c0 c1 c2 c3 c4
          generalize hok : (L.ps j).ok n.len = bo at H6 HW HNO HNX ⊢
          have HOK := hyd hok
          clear hok
          cases bo
          · have HE := hyd (HNO.out rfl)
            go_wp2
            go_ret
            exact BR.no rfl HE.out H6.out.pl.bl
          · have HN := hyd (HNX.out rfl)
            go_wp2
            go_roundw
            case rel => exact ⟨j + 1, S', by omega, by go_num, by rw [HST.out, HSN.out (by simp)]; exact HG1.out.trans (by have := H6.out; simpa using this), by rw [HST.out, HSN.out (by simp)]; have h1 := takeT_len (slotL L.ps j R) (L.ps j); have h2 := HW.out (by simp); have h3 := HI.out.1; omega, HN.out⟩
            case measure => simp [intOf]; omega
        · have HN := hyd (HNX.out rfl)
          go_wp2
          go_roundw
          case rel => exact ⟨j + 1, S1, by omega, by go_num, by rw [HST.out, HSL.out (by simp)]; exact HG1.out, by rw [HST.out, HSL.out (by simp)]; have h3 := HI.out.1; omega, HN.out⟩
          case measure => simp [intOf]; omega
    · have e2 : j = len := by omega
      subst e2
      have dj : ¬ (j : Int) < j := by omega
      have HE : Hid (ANS = true) := by show _ = _; rw [← HANS.out, decide_eq_true_eq]; exact HI.out.2
      go_wp2
      go_ret
      exact ⟨ret_bool HE.out.symm, fun _ => ⟨⟨S1, HG.out⟩, HI.out.1⟩, HG.out.pl.bl⟩
end Go.Proofs.YtmkncmmegjfipaaGreatDoor

/- Layer 13: what is asked of a function's points: pointsFormed. -/
namespace Go.Proofs.YtmkncmmegjfipaaGreatDoor
open Go Go.RowKit

def Pt.take (R : List Ty) (p : Pt) : List Ty := slotL p.sl.ps p.sl.len (takeL p.st.ps p.st.len R)
def ptL (f : Nat → Pt) : Nat → List Ty → List Ty
  | 0, R => R
  | k + 1, R => (f k).take (ptL f k R)
theorem takeL_pre (f : Nat → Ty) : ∀ (k : Nat) (R : List Ty) (a : Nat) (s : Ty), R[a]? = some s → (takeL f k R)[a]? = some s
  | 0, _, _, _, h => h
  | k + 1, R, a, s, h => takeT_pre _ _ _ _ (takeL_pre f k R a s h)
def nilT : Ty := .mk 0 0 0 0 none 0 0 0 0 (fun _ => .dm)
theorem nilT_at (w : World) : nilT.At w := ⟨fun h => absurd h (Nat.lt_irrefl 0), by decide, fun _ hi => absurd hi (Nat.not_lt_zero _)⟩
/-- Where pointsFormed stands ahead of a point. -/
structure Poi (w0 : World) (n : Strs) (g : Grid) (p : Nat) (S : Nat → Prop) (w : World) (f : Cf) (R : List Ty) (j : Nat) (S1 : Nat → Prop) (A : Ty) (u : World) : Prop where
  pg : Pg w0 n g p S w S1 (ptL f.pt.x j R) u
  len : (ptL f.pt.x j R).length ≤ R.length + 40 * 258 * j
  bF : Blk u w.heap.size f.vs 66
  nF : ¬ S1 w.heap.size
  aA : A.At w0
  ah : ∀ i, i < A.len → (A.ps i).zr = true ∨ has (ptL f.pt.x j R) (A.ps i) = true

set_option maxRecDepth 100000 in
set_option maxHeartbeats 8000000 in
theorem pointsFormed_any {w0 : World} {n : Strs} {g : Grid} {p : Nat} (hF : formedB n g = true) (hn : n.At w0) (hg : g.At w0) (f : Cf) (hf : f.At w0) (h250 : f.sl ≤ 250) (S : Nat → Prop) (R : List Ty) (w : World) (hP : Pl w0 n g p S R w) (hR : R.length + 40 * 258 * f.pt.len ≤ 2000000000) :
    Calls Tryz.prog 103 #[.pointer (some ⟨p, 0, none⟩), .agg f.vs.toArray] w fun e w' => BR w0 n g p S w R (40 * 258 * f.pt.len) (decide (∀ i, i < f.pt.len → (f.pt.x i).fm n.len f.sl = true)) (ptL f.pt.x f.pt.len R) e w' := by
  have B0 := below_alloc w (.cells f.vs.toArray 66)
  have b := Blk.new w f.vs 66
  have c16 := b.cell 16 rfl
  have HD := hyd (show formedB n g = true ∧ n.At w0 ∧ g.At w0 ∧ f.At w0 ∧ f.sl ≤ 250 ∧ R.length + 40 * 258 * f.pt.len ≤ 2000000000 ∧ w0.heap.size ≤ w.heap.size from ⟨hF, hn, hg, hf, h250, hR, hP.bl.size⟩)
  have HO := hyd (show Poi w0 n g p S w f R 0 S nilT (w.alloc (.cells f.vs.toArray 66)) from ⟨Pg.of hP B0, Nat.le_refl _, b, fun hx => absurd (hP.ge hx).2 (Nat.lt_irrefl _), nilT_at _, fun i hi => absurd hi (Nat.not_lt_zero _)⟩)
  have hbd : f.pt.len ≤ 9223372036854775807 := hf.pt.bound
  have hnil : 0 < f.pt.len → f.pt.ao = some ⟨f.pt.b, f.pt.o, none⟩ := hf.pt.nil
  generalize hANS : decide (∀ i, i < f.pt.len → (f.pt.x i).fm n.len f.sl = true) = ANS at *
  have HANS := hyd hANS
  generalize hlen : f.pt.len = len at *
  have HLen := hyd hlen
  generalize f.pt.ao = lo at *
  clear hlen hANS hF hn hg hf h250 hR hP B0 b
  generalize hV : f.vs.toArray = V at *
  clear hV
  go_enter Tryz.func103, Tryz.ntmps103
  go_wp2
  go_loopw [5, 11] (fun a i wr => ∃ (j : Nat) (S1 : Nat → Prop) (A : Ty), a = .slice A.ao A.len A.cap ∧ j ≤ len ∧ i = .int .i64 j ∧ Poi w0 n g p S w f R j S1 A wr ∧ (∀ i, i < j → (f.pt.x i).fm n.len f.sl = true)) (fun _ i _ => len - (intOf i).toNat)
  case atStart => exact ⟨0, S, nilT, rfl, Nat.zero_le _, rfl, HO.out, fun i hi => absurd hi (Nat.not_lt_zero _)⟩
  case round =>
    clear HO c16
    obtain ⟨j, S1, A, rfl, hj, rfl, hO, hall⟩ := hrel
    by_cases hlt : j < len
    · have ij : (j : Int) < len := by omega
      have a0 := hnil (by omega)
      subst a0
      have hjL : j < f.pt.len := by rw [HLen.out]; exact hlt
      have hpA := (HD.out.2.2.2.1.pt.each j hjL)
      have r0 : wr.rangeAt f.pt.b (f.pt.o + j * 3) (f.pt.x j).vs := range_kept (HD.out.2.2.2.1.pt.row j hjL) hO.pg.pl.bl
      have HPT : Hid (ptL f.pt.x (j + 1) R = (f.pt.x j).take (ptL f.pt.x j R)) := rfl
      have HNX : Hid ((f.pt.x j).fm n.len f.sl = true → ∀ i, i < j + 1 → (f.pt.x i).fm n.len f.sl = true) := fun h i hi => by
        rcases Nat.lt_or_ge i j with h2 | h2
        · exact hall i h2
        · have : i = j := by omega
          subst this; exact h
      have HNO : Hid ((f.pt.x j).fm n.len f.sl = false → ANS = false) := fun h => by
        rw [← HANS.out, decide_eq_false_iff_not]
        intro hh
        have := hh j hlt
        rw [h] at this
        cases this
      clear hjL hall
      generalize f.pt.x j = P at *
      generalize hRj : ptL f.pt.x j R = Rj at *
      have y0 := r0 0 _ rfl
      have y1 := r0 1 _ rfl
      have y2 := r0 2 _ rfl
      simp only [Nat.add_zero] at y0
      have B1 := below_alloc wr (.cells #[.slice P.st.ao P.st.len P.st.cap, .slice P.sl.ao P.sl.len P.sl.cap, .int .i64 P.env] 107)
      have bP := Blk.new wr [.slice P.st.ao P.st.len P.st.cap, .slice P.sl.ao P.sl.len P.sl.cap, .int .i64 P.env] 107
      have HFM : Hid (P.fm n.len f.sl = ((((decide (P.st.len ≤ 8) && decide ((P.sl.len : Int) = f.sl)) && inR n.len P.env) && decide (∀ i, i < P.st.len → (P.st.ps i).ok n.len = true)) && decide (∀ i, i < P.sl.len → ((P.sl.ps i).zr || (P.sl.ps i).ok n.len) = true))) := rfl
      have bF1 := hO.bF.kept B1
      have f13 := bF1.cell 13 rfl
      have HQ := hyd (show Pg w0 n g p S w S1 Rj (wr.alloc (.cells #[.slice P.st.ao P.st.len P.st.cap, .slice P.sl.ao P.sl.len P.sl.cap, .int .i64 P.env] 107)) ∧ Blk (wr.alloc (.cells #[.slice P.st.ao P.st.len P.st.cap, .slice P.sl.ao P.sl.len P.sl.cap, .int .i64 P.env] 107)) w.heap.size f.vs 66 ∧ Blk (wr.alloc (.cells #[.slice P.st.ao P.st.len P.st.cap, .slice P.sl.ao P.sl.len P.sl.cap, .int .i64 P.env] 107)) wr.heap.size [.slice P.st.ao P.st.len P.st.cap, .slice P.sl.ao P.sl.len P.sl.cap, .int .i64 P.env] 107 ∧ ¬ S1 w.heap.size ∧ ¬ S1 wr.heap.size from ⟨by rw [← hRj]; exact hO.pg.kept B1, bF1, bP, hO.nF, fun hx => absurd (hO.pg.pl.ge hx).2 (Nat.lt_irrefl _)⟩)
      have HAh := hyd (show A.At w0 ∧ (∀ i, i < A.len → (A.ps i).zr = true ∨ has Rj (A.ps i) = true) ∧ Rj.length ≤ R.length + 40 * 258 * j from ⟨hO.aA, by rw [← hRj]; exact hO.ah, by rw [← hRj]; exact hO.len⟩)
      have HpA := hyd hpA
      have HRj := hyd hRj
      have z0 := bP.cell 0 rfl
      have z1 := bP.cell 1 rfl
      have z2 := bP.cell 2 rfl
      have hlb := cLabel_any P.env _ HQ.out.1.pl
      clear hO hpA hRj r0 B1 bP bF1
      generalize P.fm n.len f.sl = bf at *
      by_cases h1 : 8 < P.st.len
      · have d1 : (8 : Int) < P.st.len := by omega
        have HE := hyd (HNO.out (by rw [HFM.out, decide_eq_false (by omega)]; rfl))
        go_wp2
        go_ret
        exact BR.no rfl HE.out HQ.out.1.pl.bl
      have d1 : ¬ (8 : Int) < P.st.len := by omega
      by_cases h2 : (P.sl.len : Int) = f.sl
      · have d2 : ((P.sl.len : Int) != f.sl) = false := by simpa using h2
        have HF2 : Hid (bf = ((inR n.len P.env && decide (∀ i, i < P.st.len → (P.st.ps i).ok n.len = true)) && decide (∀ i, i < P.sl.len → ((P.sl.ps i).zr || (P.sl.ps i).ok n.len) = true))) := by
          show _ = _
          rw [HFM.out, decide_eq_true (show P.st.len ≤ 8 by omega), decide_eq_true h2]; rfl
        have HLs : Hid (P.st.len ≤ 8 ∧ P.sl.len ≤ 250) := ⟨by omega, by have := HD.out.2.2.2.2.1; omega⟩
        clear h1 h2 HFM
        generalize inR n.len P.env = be at *
        go_wp2_with fail
        refine hlb.mono ?_
        rintro _ w1 ⟨rfl, hb1⟩
        have HQ1 := hyd (show Pg w0 n g p S w S1 Rj w1 ∧ Blk w1 w.heap.size f.vs 66 ∧ Blk w1 wr.heap.size [.slice P.st.ao P.st.len P.st.cap, .slice P.sl.ao P.sl.len P.sl.cap, .int .i64 P.env] 107 ∧ ¬ S1 w.heap.size ∧ ¬ S1 wr.heap.size from ⟨HQ.out.1.kept hb1, HQ.out.2.1.kept hb1, HQ.out.2.2.1.kept hb1, HQ.out.2.2.2⟩)
        clear hlb hb1 HQ z0 z1 z2 y0 y1 y2 f13 d1 d2
        generalize wr.heap.size = BP at *
        cases be
        · have HE := hyd (HNO.out (by rw [HF2.out]; rfl))
          go_wp2
          go_ret
          exact BR.no rfl HE.out HQ1.out.1.pl.bl
        · have HAR : Hid (40 * 258 * (j + 1) ≤ 40 * 258 * len) := Nat.mul_le_mul_left _ hlt
          have e0 := HQ1.out.2.2.1.cell 0 rfl
          have hta := takesAll_any HD.out.1 HD.out.2.1 HD.out.2.2.1 P.st S1 Rj w1 HpA.out.st HQ1.out.1.pl (by have h1 := HAh.out.2.2; have h2 := HD.out.2.2.2.2.2.1; have h3 := HAR.out; have h4 := HLs.out.1; omega)
          generalize decide (∀ i, i < P.st.len → (P.st.ps i).ok n.len = true) = b4 at *
          go_wp2_with fail
          refine Calls.mono hta ?_
          rintro e w2 hBR
          obtain rfl := hBR.ret
          have HBR := hyd hBR
          clear hBR hta e0
          cases b4
          · have HE := hyd (HNO.out (by rw [HF2.out]; rfl))
            go_wp2
            go_ret
            exact BR.no rfl HE.out HBR.out.bl
          · obtain ⟨⟨S2, hpg2⟩, hl2⟩ := HBR.out.yes rfl
            have hf2 := hpg2.blk HQ1.out.2.1 HQ1.out.2.2.2.1
            have hp2 := hpg2.blk HQ1.out.2.2.1 HQ1.out.2.2.2.2
            have HQ2 := hyd (show Pg w0 n g p S w S2 (takeL P.st.ps P.st.len Rj) w2 ∧ Blk w2 w.heap.size f.vs 66 ∧ Blk w2 BP [.slice P.st.ao P.st.len P.st.cap, .slice P.sl.ao P.sl.len P.sl.cap, .int .i64 P.env] 107 ∧ ¬ S2 w.heap.size ∧ ¬ S2 BP ∧ (takeL P.st.ps P.st.len Rj).length ≤ Rj.length + 40 * P.st.len from ⟨HQ1.out.1.trans hpg2, hf2.1, hp2.1, hf2.2, hp2.2, hl2⟩)
            clear HBR HQ1 hf2 hp2 hpg2 hl2
            have e1 := HQ2.out.2.2.1.cell 1 rfl
            have hsl := slotsFormed_any HD.out.1 HD.out.2.1 HD.out.2.2.1 P.sl A S2 (takeL P.st.ps P.st.len Rj) w2 HpA.out.sl HAh.out.1 (fun i hi => (HAh.out.2.1 i hi).imp_right (has_mono (takeL_pre _ _ _))) HQ2.out.1.pl (by have h1 := HAh.out.2.2; have h2 := HD.out.2.2.2.2.2.1; have h3 := HAR.out; have h4 := HLs.out; have h5 := HQ2.out.2.2.2.2.2; omega)
            generalize decide (∀ i, i < P.sl.len → ((P.sl.ps i).zr || (P.sl.ps i).ok n.len) = true) = b5 at *
            go_wp2_with fail
            refine Calls.mono hsl ?_
            rintro e w3 hBR
            obtain rfl := hBR.ret
            have HBR := hyd hBR
            clear hBR hsl e1
            cases b5
            · have HE := hyd (HNO.out (by rw [HF2.out]; rfl))
              go_wp2
              go_ret
              exact BR.no rfl HE.out HBR.out.bl
            · obtain ⟨⟨S3, hpg3⟩, hl3⟩ := HBR.out.yes rfl
              have hf3 := hpg3.blk HQ2.out.2.1 HQ2.out.2.2.2.1
              have hp3 := hpg3.blk HQ2.out.2.2.1 HQ2.out.2.2.2.2.1
              have e1 := hp3.1.cell 1 rfl
              have HPO := hyd (show Poi w0 n g p S w f R (j + 1) S3 P.sl w3 from by
                have e9 : ptL f.pt.x (j + 1) R = slotL P.sl.ps P.sl.len (takeL P.st.ps P.st.len Rj) := by rw [HPT.out]; rfl
                refine ⟨by rw [e9]; exact HQ2.out.1.trans hpg3, ?_, hf3.1, hf3.2, HpA.out.sl, fun i hi => ?_⟩
                · rw [e9]
                  have h1 := HAh.out.2.2
                  have h4 := HLs.out
                  have h5 := HQ2.out.2.2.2.2.2
                  omega
                · rw [e9]
                  exact slotL_has (w := w0) P.sl.ps _ P.sl.len (fun i hi => HpA.out.sl.part hi) i hi)
              have HN := hyd (HNX.out (by rw [HF2.out]; rfl))
              clear hf3 hp3 hpg3 hl3 HBR HQ2
              go_wp2
              go_roundw
              case rel => exact ⟨j + 1, S3, P.sl, rfl, by omega, by go_num, HPO.out, HN.out⟩
              case measure => simp [intOf]; omega
      · have d2 : ((P.sl.len : Int) != f.sl) = true := by simpa using h2
        have HE := hyd (HNO.out (by rw [HFM.out, decide_eq_false h2]; simp))
        go_wp2
        go_ret
        exact BR.no rfl HE.out HQ.out.1.pl.bl
    · have e2 : j = len := by omega
      subst e2
      have dj : ¬ (j : Int) < j := by omega
      have HE : Hid (ANS = true) := by show _ = _; rw [← HANS.out, decide_eq_true_eq]; exact hall
      have HOO := hyd hO
      clear hO hall
      go_wp2
      go_ret
      exact ⟨ret_bool HE.out.symm, fun _ => ⟨⟨S1, HOO.out.pg⟩, HOO.out.len⟩, HOO.out.pg.pl.bl⟩
end Go.Proofs.YtmkncmmegjfipaaGreatDoor

/- Layer 13: what is asked of a function: functionFormed. -/
namespace Go.Proofs.YtmkncmmegjfipaaGreatDoor
open Go Go.RowKit

def insL (f : Nat → In) : Nat → List Ty → List Ty
  | 0, R => R
  | k + 1, R => (f k).take (insL f k R)
set_option maxHeartbeats 2000000 in
theorem allIns_any {w0 : World} {n : Strs} {g : Grid} {p : Nat} (hF : formedB n g = true) (hn : n.At w0) (hg : g.At w0) (hO : Og w0) (r : Rw In) (S : Nat → Prop) (R : List Ty) (w : World) (hr : InsAt w0 r) (hP : Pl w0 n g p S R w) (hR : R.length + 40 * r.len ≤ 2000000000) :
    Calls Tryz.prog 101 #[.slice r.ao r.len r.cap, .func (.func 102) #[.pointer (some ⟨p, 0, none⟩)] #[]] w fun e w' => BR w0 n g p S w R (40 * r.len) (decide (∀ i, i < r.len → (r.x i).fm n.len = true)) (insL r.x r.len R) e w' := by
  have hA := all_ins (.pointer (some ⟨p, 0, none⟩)) (fun i u => (∃ S', Pg w0 n g p S w S' (insL r.x i R) u) ∧ (insL r.x i R).length ≤ R.length + 40 * i) (fun u => Below w0.heap.size w0 u) (fun i => (r.x i).fm n.len) r.ao r.b r.o r.len r.cap (fun i => (r.x i).vs) w hr.nil hr.bound (fun _ _ => rfl) (fun i _ => In.vs_one _)
    (fun i u hi h => by
      obtain ⟨⟨S', h1⟩, _⟩ := h
      exact range_kept (hr.row i hi) h1.pl.bl)
    (fun i u u' _ h hb => by
      obtain ⟨⟨S', h1⟩, h2⟩ := h
      exact ⟨⟨S', h1.kept hb⟩, h2⟩)
    (fun i u hi h => by
      obtain ⟨⟨S', h1⟩, h2⟩ := h
      refine (insFormed_any hF hn hg hO (r.x i) S' (insL r.x i R) u (hr.each i hi) h1.pl (by
        have : 40 * (i + 1) ≤ 40 * r.len := Nat.mul_le_mul_left _ hi
        omega)).mono ?_
      intro e u' h3
      refine ⟨h3.ret, fun h5 => ?_, fun _ => h3.bl⟩
      obtain ⟨⟨S2, h4⟩, h6⟩ := h3.yes h5
      refine ⟨⟨S2, h1.trans h4⟩, ?_⟩
      show ((r.x i).take (insL r.x i R)).length ≤ _
      omega)
    ⟨⟨S, Pg.of hP (Below.refl _ _)⟩, Nat.le_refl _⟩
  refine hA.mono fun e w' h => ⟨h.ret, fun h1 => h.yes (of_decide_eq_true h1), ?_⟩
  by_cases h1 : ∀ i, i < r.len → (r.x i).fm n.len = true
  · obtain ⟨⟨S', h2⟩, _⟩ := h.yes h1
    exact h2.pl.bl
  · apply h.no
    apply Classical.byContradiction
    intro h2
    apply h1
    intro i hi
    cases h3 : (r.x i).fm n.len
    · exact absurd ⟨i, hi, h3⟩ h2
    · rfl
theorem allHn_any (r : Rw Hn) (w : World) (hr : HnsAt w r) : Calls Tryz.prog 104 #[.slice r.ao r.len r.cap, .func (.func 105) #[] #[]] w fun e w' => e = .returned (.bool (decide (∀ i, i < r.len → (r.x i).fm = true))) ∧ Below w.heap.size w w' := by
  have hA := all_hn (fun _ u => Below w.heap.size w u) (fun u => Below w.heap.size w u) (fun i => (r.x i).fm) r.ao r.b r.o r.len r.cap (fun i => (r.x i).vs) w hr.nil hr.bound (fun _ _ => rfl) (fun i _ => Hn.vs_one _)
    (fun i u hi h => range_kept (hr.row i hi) h) (fun i u u' _ h hb => Below.next h hb)
    (fun i u hi h => (handlerFormed_any (r.x i) u).mono fun e u' h3 => ⟨h3.1, fun _ => Below.next h h3.2, fun _ => Below.next h h3.2⟩) (Below.refl _ _)
  refine hA.mono fun e w' h => ⟨h.ret, ?_⟩
  by_cases h1 : ∀ i, i < r.len → (r.x i).fm = true
  · exact h.yes h1
  · apply h.no
    apply Classical.byContradiction
    intro h2
    apply h1
    intro i hi
    cases h3 : (r.x i).fm
    · exact absurd ⟨i, hi, h3⟩ h2
    · rfl
theorem allRn_any (r : Rw Rn) (w : World) (hr : RnsAt w r) : Calls Tryz.prog 106 #[.slice r.ao r.len r.cap, .func (.func 107) #[] #[]] w fun e w' => e = .returned (.bool (decide (∀ i, i < r.len → (r.x i).fm = true))) ∧ Below w.heap.size w w' := by
  have hA := all_rn (fun _ u => Below w.heap.size w u) (fun u => Below w.heap.size w u) (fun i => (r.x i).fm) r.ao r.b r.o r.len r.cap (fun i => (r.x i).vs) w hr.nil hr.bound (fun _ _ => rfl) (fun i _ => Rn.vs_one _)
    (fun i u hi h => range_kept (hr.row i hi) h) (fun i u u' _ h hb => Below.next h hb)
    (fun i u hi h => (regionFormed_any (r.x i) u (Rn.At.kept h (hr.each i hi))).mono fun e u' h3 => ⟨h3.1, fun _ => Below.next h h3.2, fun _ => Below.next h h3.2⟩) (Below.refl _ _)
  refine hA.mono fun e w' h => ⟨h.ret, ?_⟩
  by_cases h1 : ∀ i, i < r.len → (r.x i).fm = true
  · exact h.yes h1
  · apply h.no
    apply Classical.byContradiction
    intro h2
    apply h1
    intro i hi
    cases h3 : (r.x i).fm
    · exact absurd ⟨i, hi, h3⟩ h2
    · rfl
theorem wpList_rowW {P : Program} {ops : Array Oper} {rest : List Oper} {op : Oper} {a : Act} {w : World} {Q : Exit → Act → World → Prop} (hw : Region.wanted op (yielded ops a.tmps) = true) (ty : TypeId) (x : Operand) (ho : op.op = .load ty x)
    (b o : Nat) (hx : a.eval x = .pointer (some ⟨b, o, none⟩)) (cs : List Value) (d : TypeDesc) (hc : w.rangeAt b o cs)
    (hu : P.underlying ty = some d) (hd : d.isRow = true) (hi : (P.info? ty).map (·.size) = some cs.length)
    (h : wpList P ops Q rest (a.put op.dst (.agg cs.toArray)) w) : wpList P ops Q (op :: rest) a w :=
  wpList_step fun K hK => by simp only [hw, if_true]; exact wp_load_mid ty x ho b o hx cs d hc hu hd hi (hK _ _ h)
def Cf.take (R : List Ty) (f : Cf) : List Ty := ptL f.pt.x f.pt.len (insL f.cd.x f.cd.len (takeL f.c.ps f.c.len (takeT (takeT R f.p) f.r)))
/-- Where functionFormed stands. -/
structure Fu (w0 : World) (n : Strs) (g : Grid) (p : Nat) (S : Nat → Prop) (w : World) (f : Cf) (R0 : List Ty) (c : Nat) (S1 : Nat → Prop) (R : List Ty) (u : World) : Prop where
  pg : Pg w0 n g p S w S1 R u
  bF : Blk u w.heap.size f.vs 66
  nF : ¬ S1 w.heap.size
  len : R.length ≤ R0.length + c
theorem Fu.kept {w0 : World} {n : Strs} {g : Grid} {p : Nat} {S : Nat → Prop} {w : World} {f : Cf} {R0 : List Ty} {c : Nat} {S1 : Nat → Prop} {R : List Ty} {u u' : World} (h : Fu w0 n g p S w f R0 c S1 R u) (hb : Below u.heap.size u u') : Fu w0 n g p S w f R0 c S1 R u' := ⟨h.pg.kept hb, h.bF.kept hb, h.nF, h.len⟩
theorem Fu.next {w0 : World} {n : Strs} {g : Grid} {p : Nat} {S : Nat → Prop} {w : World} {f : Cf} {R0 : List Ty} {c d : Nat} {S1 S2 : Nat → Prop} {R R' : List Ty} {u u' : World} (h : Fu w0 n g p S w f R0 c S1 R u) (k : Pg w0 n g p S1 u S2 R' u') (hl : R'.length ≤ R.length + d) : Fu w0 n g p S w f R0 (c + d) S2 R' u' := by
  obtain ⟨h1, h2⟩ := k.blk h.bF h.nF
  exact ⟨h.pg.trans k, h1, h2, by have := h.len; omega⟩
end Go.Proofs.YtmkncmmegjfipaaGreatDoor

/- Layer 13: what is asked of a function, walked. -/
namespace Go.Proofs.YtmkncmmegjfipaaGreatDoor
open Go Go.RowKit

set_option maxRecDepth 100000 in
set_option maxHeartbeats 8000000 in
theorem functionFormed_any {w0 : World} {n : Strs} {g : Grid} {p : Nat} (hF : formedB n g = true) (hn : n.At w0) (hg : g.At w0) (hO : Og w0) (f : Cf) (hf : f.At w0) (S : Nat → Prop) (R : List Ty) (w : World) (hP : Pl w0 n g p S R w) (hR : R.length + 20720720 ≤ 2000000000) :
    Calls Tryz.prog 69 #[.pointer (some ⟨p, 0, none⟩), .agg f.vs.toArray] w fun e w' => BR w0 n g p S w R 20720720 (f.fm n.len) (f.take R) e w' := by
  have B0 := below_alloc w (.cells f.vs.toArray 66)
  have HD := hyd (show formedB n g = true ∧ n.At w0 ∧ g.At w0 ∧ Og w0 ∧ f.At w0 ∧ R.length + 20720720 ≤ 2000000000 from ⟨hF, hn, hg, hO, hf, hR⟩)
  have H0 := hyd (show Fu w0 n g p S w f R 0 S R (w.alloc (.cells f.vs.toArray 66)) from ⟨Pg.of hP B0, Blk.new w f.vs _, fun hx => absurd (hP.ge hx).2 (Nat.lt_irrefl _), Nat.le_refl _⟩)
  have HFM : Hid (f.fm n.len = ((f.bnds n.len && f.few) && ((f.p.ok n.len && f.r.ok n.len) && (decide (∀ i, i < f.c.len → (f.c.ps i).ok n.len = true) && (decide (∀ i, i < f.cd.len → (f.cd.x i).fm n.len = true) && (decide (∀ i, i < f.pt.len → (f.pt.x i).fm n.len f.sl = true) && (decide (∀ i, i < f.hd.len → (f.hd.x i).fm = true) && decide (∀ i, i < f.rg.len → (f.rg.x i).fm = true)))))))) := rfl
  have HTK : Hid (f.take R = ptL f.pt.x f.pt.len (insL f.cd.x f.cd.len (takeL f.c.ps f.c.len (takeT (takeT R f.p) f.r)))) := rfl
  have HSL : Hid (f.bnds n.len = true → f.sl ≤ 250) := fun h => by
    unfold Cf.bnds at h
    simp only [Bool.and_eq_true, decide_eq_true_eq] at h
    exact h.2
  have HFW : Hid (f.few = true → f.c.len ≤ 16 ∧ f.cd.len ≤ 2000 ∧ f.hd.len ≤ 2000 ∧ f.pt.len ≤ 2000 ∧ f.rg.len ≤ 2000) := fun h => by
    unfold Cf.few at h
    simpa only [Bool.and_eq_true, decide_eq_true_eq] using h
  have hmf : ∀ (fn : Fn) (first cap : Array Value) (w : World), (Instr.makeFunc fn first cap).run Tryz.prog w = .ok (.func fn first cap) w := fun _ _ _ _ => rfl
  generalize f.fm n.len = F at *
  generalize f.take R = RT at *
  clear hF hn hg hO hf hP hR B0
  have h0 := cBounds_any f _ H0.out.pg.pl
  have r0 := H0.out.bF.range
  generalize f.bnds n.len = b0 at *
  generalize hw0 : w.alloc (.cells f.vs.toArray 66) = u0 at *
  go_enter Tryz.func69, Tryz.ntmps69
  go_wp2_with (refine wpList_rowW (by kernel_rfl) 66 (.tmp 3) rfl w.heap.size 0 (by kernel_rfl) f.vs _ r0 Tryz.underlying66 rfl (by kernel_rfl) ?_)
  refine h0.mono ?_
  rintro _ u1 ⟨rfl, hb1⟩
  have H1 := hyd (H0.out.kept hb1)
  clear h0 hb1 r0 H0 hw0
  cases b0
  · have HE : Hid (F = false) := by show _ = _; rw [HFM.out]; simp
    go_wp2
    go_ret
    exact BR.no rfl HE.out H1.out.pg.pl.bl
  · have h1 := fewEnough_any f u1
    have r0 := H1.out.bF.range
    generalize f.few = b1 at *
    go_wp2_with (refine wpList_rowW (by kernel_rfl) 66 (.tmp 3) rfl w.heap.size 0 (by kernel_rfl) f.vs _ r0 Tryz.underlying66 rfl (by kernel_rfl) ?_)
    refine h1.mono ?_
    rintro _ u2 ⟨rfl, hb2⟩
    have H2 := hyd (H1.out.kept hb2)
    clear h1 hb2 r0 H1
    cases b1
    · have HE : Hid (F = false) := by show _ = _; rw [HFM.out]; simp
      go_wp2
      go_ret
      exact BR.no rfl HE.out H2.out.pg.pl.bl
    · have HW := hyd (HFW.out (by simp))
      have HS := hyd (HSL.out (by simp))
      have c0 := H2.out.bF.cell 0 rfl
      have c1 := H2.out.bF.cell 1 rfl
      have c2 := H2.out.bF.cell 2 rfl
      have c3 := H2.out.bF.cell 3 rfl
      have c4 := H2.out.bF.cell 4 rfl
      have h2 := takes_any HD.out.1 HD.out.2.1 HD.out.2.2.1 f.p S R u2 HD.out.2.2.2.2.1.p H2.out.pg.pl (by have := HD.out.2.2.2.2.2; omega)
      go_wp2_with fail
      refine Calls.mono h2 ?_
      rintro e u3 ⟨h5, S3, h6⟩
      subst h5
      have HN3 := hyd (show f.p.ok n.len = true → f.p.nodes ≤ 40 from fun h => (ok_fm h).2)
      have H6 := hyd h6
      clear h2 h6 c0 c1 c2 c3 c4
      generalize f.p.ok n.len = b2 at *
      cases b2
      · have HE : Hid (F = false) := by show _ = _; rw [HFM.out]; simp
        go_wp2
        go_ret
        exact BR.no rfl HE.out H6.out.pl.bl
      · have H3 := hyd (show Fu w0 n g p S w f R (0 + 40) S3 (takeT R f.p) u3 from H2.out.next (by have := H6.out; simpa using this) (by have h1 := takeT_len R f.p; have h2 := HN3.out (by simp); omega))
        clear H2 H6 HN3
        have c5 := H3.out.bF.cell 5 rfl
        have c6 := H3.out.bF.cell 6 rfl
        have c7 := H3.out.bF.cell 7 rfl
        have c8 := H3.out.bF.cell 8 rfl
        have c9 := H3.out.bF.cell 9 rfl
        have h2 := takes_any HD.out.1 HD.out.2.1 HD.out.2.2.1 f.r S3 (takeT R f.p) u3 HD.out.2.2.2.2.1.r H3.out.pg.pl (by have h1 := HD.out.2.2.2.2.2; have h2 := H3.out.len; omega)
        go_wp2_with fail
        refine Calls.mono h2 ?_
        rintro e u4 ⟨h5, S4, h6⟩
        subst h5
        have HN4 := hyd (show f.r.ok n.len = true → f.r.nodes ≤ 40 from fun h => (ok_fm h).2)
        have H6 := hyd h6
        clear h2 h6 c5 c6 c7 c8 c9
        generalize f.r.ok n.len = b3 at *
        cases b3
        · have HE : Hid (F = false) := by show _ = _; rw [HFM.out]; simp
          go_wp2
          go_ret
          exact BR.no rfl HE.out H6.out.pl.bl
        · have H4 := hyd (show Fu w0 n g p S w f R (0 + 40 + 40) S4 (takeT (takeT R f.p) f.r) u4 from H3.out.next (by have := H6.out; simpa using this) (by have h1 := takeT_len (takeT R f.p) f.r; have h2 := HN4.out (by simp); omega))
          clear H3 H6 HN4
          generalize takeT (takeT R f.p) f.r = R4 at *
          have c10 := H4.out.bF.cell 10 rfl
          have h2 := takesAll_any HD.out.1 HD.out.2.1 HD.out.2.2.1 f.c S4 R4 u4 HD.out.2.2.2.2.1.c H4.out.pg.pl (by have h1 := HD.out.2.2.2.2.2; have h2 := H4.out.len; have h3 := HW.out.1; omega)
          generalize decide (∀ i, i < f.c.len → (f.c.ps i).ok n.len = true) = b4 at *
          go_wp2_with fail
          refine Calls.mono h2 ?_
          intro e u5 h6
          obtain rfl := h6.ret
          have H6 := hyd h6
          clear h2 h6 c10
          cases b4
          · have HE : Hid (F = false) := by show _ = _; rw [HFM.out]; simp
            go_wp2
            go_ret
            exact BR.no rfl HE.out H6.out.bl
          · obtain ⟨⟨S5, h7⟩, h8⟩ := H6.out.yes (by simp)
            have H5 := hyd (H4.out.next h7 h8)
            clear H4 H6 h7 h8
            generalize takeL f.c.ps f.c.len R4 = R5 at *
            have c14 := H5.out.bF.cell 14 rfl
            have h2 := allIns_any HD.out.1 HD.out.2.1 HD.out.2.2.1 HD.out.2.2.2.1 f.cd S5 R5 u5 HD.out.2.2.2.2.1.cd H5.out.pg.pl (by have h1 := HD.out.2.2.2.2.2; have h2 := H5.out.len; have h3 := HW.out; omega)
            generalize decide (∀ i, i < f.cd.len → (f.cd.x i).fm n.len = true) = b5 at *
            go_wp2_with fail
            refine Calls.mono h2 ?_
            intro e u6 h6
            obtain rfl := h6.ret
            have H6 := hyd h6
            clear h2 h6 c14
            cases b5
            · have HE : Hid (F = false) := by show _ = _; rw [HFM.out]; simp
              go_wp2
              go_ret
              exact BR.no rfl HE.out H6.out.bl
            · obtain ⟨⟨S6, h7⟩, h8⟩ := H6.out.yes (by simp)
              have H7 := hyd (H5.out.next h7 h8)
              clear H5 H6 h7 h8
              generalize insL f.cd.x f.cd.len R5 = R6 at *
              have r0 := H7.out.bF.range
              have h2 := pointsFormed_any HD.out.1 HD.out.2.1 HD.out.2.2.1 f HD.out.2.2.2.2.1 HS.out S6 R6 u6 H7.out.pg.pl (by have h1 := HD.out.2.2.2.2.2; have h2 := H7.out.len; have h3 := HW.out; omega)
              generalize decide (∀ i, i < f.pt.len → (f.pt.x i).fm n.len f.sl = true) = b6 at *
              go_wp2_with (refine wpList_rowW (by kernel_rfl) 66 (.tmp 3) rfl w.heap.size 0 (by kernel_rfl) f.vs _ r0 Tryz.underlying66 rfl (by kernel_rfl) ?_)
              refine Calls.mono h2 ?_
              intro e u7 h6
              obtain rfl := h6.ret
              have H6 := hyd h6
              clear h2 h6 r0
              cases b6
              · have HE : Hid (F = false) := by show _ = _; rw [HFM.out]; simp
                go_wp2
                go_ret
                exact BR.no rfl HE.out H6.out.bl
              · obtain ⟨⟨S7, h7⟩, h8⟩ := H6.out.yes (by simp)
                have H8 := hyd (H7.out.next h7 h8)
                clear H7 H6 h7 h8
                generalize ptL f.pt.x f.pt.len R6 = R7 at *
                have c15 := H8.out.bF.cell 15 rfl
                have h2 := allHn_any f.hd u7 (HD.out.2.2.2.2.1.hd.kept H8.out.pg.pl.bl)
                generalize decide (∀ i, i < f.hd.len → (f.hd.x i).fm = true) = b7 at *
                go_wp2_with fail
                refine Calls.mono h2 ?_
                rintro _ u8 ⟨rfl, hb8⟩
                have H9 := hyd (H8.out.kept hb8)
                clear h2 hb8 c15 H8
                cases b7
                · have HE : Hid (F = false) := by show _ = _; rw [HFM.out]; simp
                  go_wp2
                  go_ret
                  exact BR.no rfl HE.out H9.out.pg.pl.bl
                · have c17 := H9.out.bF.cell 17 rfl
                  have h2 := allRn_any f.rg u8 (HD.out.2.2.2.2.1.rg.kept H9.out.pg.pl.bl)
                  have HE : Hid (F = decide (∀ i, i < f.rg.len → (f.rg.x i).fm = true)) := by show _ = _; rw [HFM.out]; simp
                  generalize decide (∀ i, i < f.rg.len → (f.rg.x i).fm = true) = b8 at *
                  go_wp2_with fail
                  refine Calls.mono h2 ?_
                  rintro _ u9 ⟨rfl, hb9⟩
                  have H10 := hyd (H9.out.kept hb9)
                  clear h2 hb9 c17 H9
                  go_wp2
                  go_ret
                  exact ⟨ret_bool HE.out.symm, fun _ => ⟨⟨S7, by rw [HTK.out]; exact H10.out.pg⟩, by rw [HTK.out]; have h1 := H10.out.len; have h2 := HW.out; omega⟩, H10.out.pg.pl.bl⟩
end Go.Proofs.YtmkncmmegjfipaaGreatDoor
