/- Closing an order: the program's one pass and the reference's passes come to the same. No program is named here. -/
import Derived.Test.YtibhcbdofadamaaP2
import Derived.Test.YtibhcbdofadamaaP1
namespace Go.Proofs.Ytibhcbdofadamaa

theorem war_trans (M : Nat → Nat → Bool) : ∀ k b, b < k → ∀ r c, war M k r b = true → war M k b c = true → war M k r c = true
  | 0, _, h, _, _, _, _ => absurd h (Nat.not_lt_zero _)
  | k + 1, b, hb, r, c, h1, h2 => by
    have ih := war_trans M k
    have key : ∀ x y, war M (k + 1) x y = (war M k x y || (war M k x k && war M k k y)) := fun _ _ => rfl
    rw [key] at h1 h2 ⊢
    simp only [Bool.or_eq_true, Bool.and_eq_true] at h1 h2 ⊢
    by_cases e : b = k
    · subst e
      have g1 : war M b r b = true := by rcases h1 with h | h <;> simp_all
      have g2 : war M b b c = true := by rcases h2 with h | h <;> simp_all
      exact Or.inr ⟨g1, g2⟩
    · have hb' : b < k := by omega
      rcases h1 with h1 | ⟨h1, h1'⟩
      · rcases h2 with h2 | ⟨h2, h2'⟩
        · exact Or.inl (ih b hb' r c h1 h2)
        · exact Or.inr ⟨ih b hb' r k h1 h2, h2'⟩
      · rcases h2 with h2 | ⟨h2, h2'⟩
        · exact Or.inr ⟨h1, ih b hb' k c h1' h2⟩
        · exact Or.inr ⟨h1, h2'⟩

/-- M lies within N, among the first n. -/
def Within (n : Nat) (M N : Nat → Nat → Bool) : Prop := ∀ r c, r < n → c < n → M r c = true → N r c = true
theorem war_least (n : Nat) (M N : Nat → Nat → Bool) (hM : Within n M N) (ht : ∀ a b c, a < n → b < n → c < n → N a b = true → N b c = true → N a c = true) : ∀ k, k ≤ n → Within n (war M k) N
  | 0, _ => hM
  | k + 1, hk => fun r c hr hc h => by
    have ih := war_least n M N hM ht k (by omega)
    unfold war warStep at h
    rw [Bool.or_eq_true, Bool.and_eq_true] at h
    rcases h with h | ⟨h1, h2⟩
    · exact ih r c hr hc h
    · exact ht r k c hr (by omega) hc (ih r k hr (by omega) h1) (ih k c (by omega) hc h2)

/-- What the reference's passes come to is the least order. -/
theorem closed_least (n : Nat) (P M : Nat → Nat → Bool) (h1 : Within n P M) (h2 : Within n M (war P n)) (hc : ∀ a b c, a < n → b < n → c < n → (M a b && M b c && !M a c) = false) : ∀ r c, r < n → c < n → M r c = war P n r c := by
  intro r c hr hcc
  have ht : ∀ a b c, a < n → b < n → c < n → M a b = true → M b c = true → M a c = true := fun a b c ha hb hc' q1 q2 => by
    have := hc a b c ha hb hc'
    rw [q1, q2] at this
    simpa using this
  rw [Bool.eq_iff_iff]
  exact ⟨h2 r c hr hcc, war_least n P M h1 ht n (Nat.le_refl _) r c hr hcc⟩

/-- How many places are not told. -/
def cnt1 (f : Nat → Bool) : Nat → Nat
  | 0 => 0
  | k + 1 => cnt1 f k + if f k then 0 else 1
def cnt2 (M : Nat → Nat → Bool) (n : Nat) : Nat → Nat
  | 0 => 0
  | k + 1 => cnt2 M n k + cnt1 (M k) n
def setM (M : Nat → Nat → Bool) (a c : Nat) : Nat → Nat → Bool := fun x y => if x = a ∧ y = c then true else M x y
theorem cnt1_congr {f g : Nat → Bool} : ∀ k, (∀ i, i < k → f i = g i) → cnt1 f k = cnt1 g k
  | 0, _ => rfl
  | k + 1, h => by unfold cnt1; rw [cnt1_congr k (fun i hi => h i (by omega)), h k (by omega)]
theorem cnt1_set {f : Nat → Bool} {c : Nat} (hf : f c = false) : ∀ k, c < k → cnt1 (fun y => if y = c then true else f y) k + 1 = cnt1 f k
  | 0, h => absurd h (Nat.not_lt_zero _)
  | k + 1, h => by
    unfold cnt1
    by_cases e : c = k
    · subst e
      rw [cnt1_congr c (g := f) (fun i hi => by rw [if_neg (by omega)]), if_pos rfl, hf]; rfl
    · have := cnt1_set hf k (by omega)
      rw [if_neg (Ne.symm e)]
      omega
theorem cnt2_set {M : Nat → Nat → Bool} {n a c : Nat} (hM : M a c = false) (hc : c < n) : ∀ k, cnt2 (setM M a c) n k + (if a < k then 1 else 0) = cnt2 M n k
  | 0 => rfl
  | k + 1 => by
    have ih := cnt2_set hM hc (n := n) k
    unfold cnt2
    by_cases e : a = k
    · subst e
      have h1 : cnt1 (setM M a c a) n + 1 = cnt1 (M a) n := by
        rw [← cnt1_set hM n hc]
        rw [cnt1_congr n (f := setM M a c a) (g := fun y => if y = c then true else M a y) (fun i _ => by simp [setM])]
      rw [if_neg (Nat.lt_irrefl _)] at ih
      rw [if_pos (by omega)]
      omega
    · have h1 : cnt1 (setM M a c k) n = cnt1 (M k) n := cnt1_congr n (fun i _ => by simp [setM, Ne.symm e])
      rw [h1]
      by_cases h : a < k
      · rw [if_pos h] at ih; rw [if_pos (by omega)]; omega
      · rw [if_neg h] at ih; rw [if_neg (by omega)]; omega
theorem cnt2_less {M : Nat → Nat → Bool} {n a c : Nat} (hM : M a c = false) (ha : a < n) (hc : c < n) : cnt2 (setM M a c) n n < cnt2 M n n := by
  have := cnt2_set hM hc n (n := n)
  rw [if_pos ha] at this
  omega

/-- Three labels ahead of (a, b, c), in the order of the loops. -/
def Ahead (a b c x y z : Nat) : Prop := x < a ∨ (x = a ∧ (y < b ∨ (y = b ∧ z < c)))
/-- One pass, gone as far as (a, b, c), begun with M. -/
structure Pass (n : Nat) (P M M' : Nat → Nat → Bool) (more : Bool) (a b c : Nat) : Prop where
  up : Within n M M'
  inn : Within n M' (war P n)
  no : more = false → M' = M ∧ ∀ x y z, x < n → y < n → z < n → Ahead a b c x y z → (M x y && M y z && !M x z) = false
  yes : more = true → cnt2 M' n n < cnt2 M n n

theorem Pass.start {n : Nat} {P M : Nat → Nat → Bool} (h : Within n M (war P n)) : Pass n P M M false 0 0 0 :=
  ⟨fun _ _ _ _ h => h, h, fun _ => ⟨rfl, fun x y z _ _ _ ha => by unfold Ahead at ha; omega⟩, fun h => Bool.noConfusion h⟩
theorem Pass.skip {n : Nat} {P M M' : Nat → Nat → Bool} {more : Bool} {a b c : Nat} (h : Pass n P M M' more a b c) (ht : (M' a b && M' b c && !M' a c) = false) : Pass n P M M' more a b (c + 1) :=
  ⟨h.up, h.inn, fun hm => by
    obtain ⟨e, h2⟩ := h.no hm
    refine ⟨e, fun x y z hx hy hz ha => ?_⟩
    by_cases h3 : Ahead a b c x y z
    · exact h2 x y z hx hy hz h3
    · unfold Ahead at ha h3
      obtain ⟨rfl, rfl, rfl⟩ : x = a ∧ y = b ∧ z = c := by omega
      rw [← e]; exact ht, h.yes⟩
theorem Pass.add {n : Nat} {P M M' : Nat → Nat → Bool} {more : Bool} {a b c : Nat} (h : Pass n P M M' more a b c) (ha : a < n) (hb : b < n) (hc : c < n) (h1 : M' a b = true) (h2 : M' b c = true) (h3 : M' a c = false) : Pass n P M (setM M' a c) true a b (c + 1) := by
  have hless := cnt2_less h3 ha hc
  refine ⟨fun r c' hr hc' q => ?_, fun r c' hr hc' q => ?_, fun hm => Bool.noConfusion hm, fun _ => ?_⟩
  · unfold setM; split
    · rfl
    · exact h.up r c' hr hc' q
  · unfold setM at q; split at q
    · rename_i e
      rw [e.1, e.2]
      exact war_trans P n b hb a c (h.inn a b ha hb h1) (h.inn b c hb hc h2)
    · exact h.inn r c' hr hc' q
  · cases hm : more
    · have := (h.no hm).1
      rw [this] at hless ⊢
      exact hless
    · have := h.yes hm
      omega
theorem Pass.nextB {n : Nat} {P M M' : Nat → Nat → Bool} {more : Bool} {a b : Nat} (h : Pass n P M M' more a b n) : Pass n P M M' more a (b + 1) 0 :=
  ⟨h.up, h.inn, fun hm => ⟨(h.no hm).1, fun x y z hx hy hz ha => (h.no hm).2 x y z hx hy hz (by unfold Ahead at ha ⊢; omega)⟩, h.yes⟩
theorem Pass.nextA {n : Nat} {P M M' : Nat → Nat → Bool} {more : Bool} {a : Nat} (h : Pass n P M M' more a n 0) : Pass n P M M' more (a + 1) 0 0 :=
  ⟨h.up, h.inn, fun hm => ⟨(h.no hm).1, fun x y z hx hy hz ha => (h.no hm).2 x y z hx hy hz (by unfold Ahead at ha ⊢; omega)⟩, h.yes⟩

end Go.Proofs.Ytibhcbdofadamaa

/- The walk of the reference's Name: it tells just what the program's Name tells. -/
namespace Go.Proofs.Ytibhcbdofadamaa
open Go.RowKit

theorem digit_no {r : Int} (h : r < 48 ∨ 57 < r) : digitB r = false := by
  unfold digitB; rw [Bool.and_eq_false_iff, decide_eq_false_iff_not, decide_eq_false_iff_not]; omega
theorem letter_hi {r : Int} (h : 128 ≤ r) (h2 : r < 945) : letterB r = false := by
  unfold letterB
  simp only [Bool.or_eq_false_iff, Bool.and_eq_false_iff, decide_eq_false_iff_not]
  omega

theorem letter_gr {r : Int} (h : 945 ≤ r) (h2 : r ≤ 969) : letterB r = true := by
  unfold letterB
  simp only [Bool.or_eq_true, Bool.and_eq_true, decide_eq_true_eq]
  omega

theorem get_plain (s : ByteArray) (i : Nat) (h : i < s.size) : s.get! i = s[i]'h := get_at s i h

/-- The rest of a name, k runes being read. -/
def restB (s : ByteArray) (i k : Nat) : Bool := if k ≤ 16 then nameFrom s (17 - k) i k else false

theorem rest_bad {s : ByteArray} {i k : Nat} (hi : i < s.size) (h : badRune k (Utf8.decode s i).1 = true) : restB s i k = false := by
  unfold restB
  split
  · exact nameFrom_bad (by assumption) hi h
  · rfl
theorem rest_good {s : ByteArray} {i k : Nat} (hi : i < s.size) (h : letterB (Utf8.decode s i).1 = true ∨ (k ≠ 0 ∧ digitB (Utf8.decode s i).1 = true)) : restB s i k = restB s (i + (Utf8.decode s i).2) (k + 1) := by
  by_cases h16 : k < 16
  · have hb : badRune k (Utf8.decode s i).1 = false := by
      unfold badRune
      rw [beq_eq_false_iff_ne.2 (show k ≠ 16 by omega)]
      rcases h with h | ⟨hk, h⟩
      · rw [h]; rfl
      · rw [h, beq_eq_false_iff_ne.2 hk]; simp
    unfold restB
    rw [if_pos (by omega), if_pos (by omega)]
    exact nameFrom_good (by omega) hi hb
  · have e1 : restB s i k = false := by
      by_cases e : k = 16
      · subst e; exact rest_bad hi (by simp [badRune])
      · unfold restB; rw [if_neg (by omega)]
    have e2 : restB s (i + (Utf8.decode s i).2) (k + 1) = false := by unfold restB; rw [if_neg (by omega)]
    rw [e1, e2]
theorem rest_end {s : ByteArray} {i k : Nat} (hi : ¬ i < s.size) : restB s i k = (decide (1 ≤ k) && decide (k ≤ 16)) := by
  unfold restB
  by_cases h : k ≤ 16
  · rw [if_pos h, nameFrom_end h hi]; simp [h]; rfl
  · rw [if_neg h]; simp [h]

theorem bad_of {k : Nat} {r : Int} (h1 : letterB r = false) (h2 : k = 0 ∨ digitB r = false) : badRune k r = true := by
  unfold badRune
  rcases h2 with rfl | h2
  · simp [h1]
  · simp [h1, h2]

theorem decode_ge {s : ByteArray} {i : Nat} (hi : i < s.size) (hb : 128 ≤ (s[i]'hi).toNat) (h : ¬ (∃ h1 : i + 1 < s.size, ((s[i]'hi).toNat = 206 ∧ 177 ≤ (s[i + 1]'h1).toNat ∧ (s[i + 1]'h1).toNat ≤ 191) ∨ ((s[i]'hi).toNat = 207 ∧ 128 ≤ (s[i + 1]'h1).toNat ∧ (s[i + 1]'h1).toNat ≤ 137))) :
    letterB (Utf8.decode s i).1 = false ∧ digitB (Utf8.decode s i).1 = false := by
  have hr := (decode_high s i hi hb).1
  have hd : digitB ((Utf8.decode s i).1 : Nat) = false := by unfold digitB; rw [Bool.and_eq_false_iff, decide_eq_false_iff_not, decide_eq_false_iff_not]; omega
  refine ⟨?_, hd⟩
  have key : ¬ (945 ≤ (Utf8.decode s i).1 ∧ (Utf8.decode s i).1 ≤ 969) := by
    intro hc
    have e0 : (s.get! (i + 0)).toNat = (s[i]'hi).toNat := by rw [get_at s i hi]
    simp only [Utf8.decode, e0] at hc
    rw [if_neg (by omega)] at hc
    split at hc
    · rename_i hcond
      simp only [Bool.and_eq_true, decide_eq_true_eq, beq_iff_eq] at hcond
      obtain ⟨q1, q2, q3⟩ := hcond
      have e1 : (s.get! (i + 1)).toNat = (s[i + 1]'q2).toNat := by rw [get_plain s (i + 1) q2]
      rw [e1] at q3 hc
      split at hc
      · refine h ⟨q2, ?_⟩
        have := hc
        simp only at this
        omega
      · simp [Utf8.runeError] at hc
    · split at hc
      · split at hc
        · rename_i hcond
          simp only [Bool.and_eq_true, decide_eq_true_eq] at hcond
          simp only at hc
          omega
        · simp [Utf8.runeError] at hc
      · split at hc
        · split at hc
          · rename_i hcond
            simp only [Bool.and_eq_true, decide_eq_true_eq] at hcond
            simp only at hc
            omega
          · simp [Utf8.runeError] at hc
        · simp [Utf8.runeError] at hc
  unfold letterB
  simp only [Bool.or_eq_false_iff, Bool.and_eq_false_iff, decide_eq_false_iff_not]
  omega

theorem decode_greek {s : ByteArray} {i : Nat} (hi : i < s.size) (h1 : i + 1 < s.size) (h : ((s[i]'hi).toNat = 206 ∧ 177 ≤ (s[i + 1]'h1).toNat ∧ (s[i + 1]'h1).toNat ≤ 191) ∨ ((s[i]'hi).toNat = 207 ∧ 128 ≤ (s[i + 1]'h1).toNat ∧ (s[i + 1]'h1).toNat ≤ 137)) :
    Utf8.decode s i = (((s[i]'hi).toNat - 192) * 64 + ((s[i + 1]'h1).toNat - 128), 2) := by
  have e0 : (s.get! (i + 0)).toNat = (s[i]'hi).toNat := by rw [get_at s i hi]
  have e1 : (s.get! (i + 1)).toNat = (s[i + 1]'h1).toNat := by rw [get_plain s (i + 1) h1]
  simp only [Utf8.decode, e0, e1]
  rw [if_neg (by omega), if_pos (by simp only [Bool.and_eq_true, decide_eq_true_eq, beq_iff_eq]; omega), if_pos (by omega)]
  refine Prod.ext ?_ rfl
  show (s[i]'hi).toNat % 32 * 64 + (s[i + 1]'h1).toNat % 64 = _
  omega

end Go.Proofs.Ytibhcbdofadamaa

/- The walks of the reference's above, below, join, meet. -/
namespace Go.Proofs.Ytibhcbdofadamaa
open Go.RowKit

/-- Names and a square table of as many rows. -/
structure SqAt (n : Strs) (g : Grid) (w : World) : Prop where
  nat : n.At w
  gat : g.At w
  pos : 0 < n.len
  le8 : n.len ≤ 8
  len : g.len = n.len
  L : ∀ r, r < n.len → g.L r = n.len
theorem SqAt.kept {n : Strs} {g : Grid} {w w' : World} (h : SqAt n g w) (hb : Below w.heap.size w w') : SqAt n g w' := ⟨h.nat.kept hb, h.gat.kept hb, h.pos, h.le8, h.len, h.L⟩
theorem SqAt.ao {n : Strs} {g : Grid} {w : World} (h : SqAt n g w) : g.ao = some ⟨g.gb, g.go, none⟩ := h.gat.nil (by have := h.len; have := h.pos; omega)
theorem SqAt.row {n : Strs} {g : Grid} {w : World} (h : SqAt n g w) {r : Nat} (hr : r < n.len) : w.cell? ⟨g.gb, g.go + r, none⟩ = some (.slice (some ⟨g.AB r, g.AO r, none⟩) n.len (g.C r)) := by
  have h1 := h.gat.row r (by have := h.len; omega)
  have h2 := h.gat.adr r (by have := h.len; omega) (by rw [h.L r hr]; exact h.pos)
  rw [h1, h2, h.L r hr]
theorem SqAt.cell {n : Strs} {g : Grid} {w : World} (h : SqAt n g w) {r c : Nat} (hr : r < n.len) (hc : c < n.len) : w.cell? ⟨g.AB r, g.AO r + c, none⟩ = some (.bool (g.B r c)) :=
  h.gat.cell r (by have := h.len; omega) c (by rw [h.L r hr]; exact hc)

/-- above, below: of three labels. -/
def abvB (n : Strs) (g : Grid) (a b c : Nat) : Bool := (g.B a c && g.B b c) && decide (∀ d, d < n.len → (g.B a d && g.B b d && !g.B c d) = false)
def blwB (n : Strs) (g : Grid) (a b c : Nat) : Bool := (g.B c a && g.B c b) && decide (∀ d, d < n.len → (g.B d a && g.B d b && !g.B d c) = false)

/-- The first c from k on with p, or -1. -/
def findI (p : Nat → Bool) : Nat → Nat → Int
  | 0, _ => -1
  | f + 1, k => if p k then k else findI p f (k + 1)
theorem findI_hit {p : Nat → Bool} {N k : Nat} (hk : k < N) (h : p k = true) : findI p (N - k) k = k := by
  obtain ⟨m, hm⟩ : ∃ m, N - k = m + 1 := ⟨N - k - 1, by omega⟩
  rw [hm, findI, if_pos h]
theorem findI_miss {p : Nat → Bool} {N k : Nat} (hk : k < N) (h : p k = false) : findI p (N - k) k = findI p (N - (k + 1)) (k + 1) := by
  obtain ⟨m, hm⟩ : ∃ m, N - k = m + 1 := ⟨N - k - 1, by omega⟩
  rw [hm, findI, if_neg (by rw [h]; simp), show N - (k + 1) = m by omega]
theorem findI_end {p : Nat → Bool} {N k : Nat} (hk : ¬ k < N) : findI p (N - k) k = -1 := by
  rw [show N - k = 0 by omega]; rfl

end Go.Proofs.Ytibhcbdofadamaa

/- The walk of the reference's shaped: it tells just what the program's two questions tell. -/
namespace Go.Proofs.Ytibhcbdofadamaa
open Go.RowKit

def shpRow (n : Strs) (g : Grid) (i : Nat) : Bool := (nameB (n.s i) && (g.L i == n.len)) && !holdsB n.s i (n.s i)
theorem shp_no {n : Strs} {g : Grid} {k : Nat} (hk : k < n.len) (hg : g.len = n.len) (h : shpRow n g k = false) : (namesB n && squareB g n.len) = false := by
  cases h1 : (namesB n && squareB g n.len)
  · rfl
  · exfalso
    rw [Bool.and_eq_true] at h1
    have h2 := (squareB_len h1.2).2 k (by omega)
    have h3 := h1.1
    unfold namesB at h3
    rw [Bool.and_eq_true, decide_eq_true_eq, decide_eq_true_eq] at h3
    have h4 := h3.2 k hk
    rw [Bool.and_eq_true] at h4
    unfold shpRow at h
    rw [h4.1, h4.2, h2] at h
    simp at h
theorem shp_yes {n : Strs} {g : Grid} (h0 : 0 < n.len) (h8 : n.len ≤ 8) (hg : g.len = n.len) (h : ∀ k, k < n.len → shpRow n g k = true) : (namesB n && squareB g n.len) = true := by
  rw [Bool.and_eq_true]
  constructor
  · unfold namesB
    rw [Bool.and_eq_true, decide_eq_true_eq, decide_eq_true_eq]
    refine ⟨⟨h0, h8⟩, fun i hi => ?_⟩
    have := h i hi
    unfold shpRow at this
    rw [Bool.and_eq_true, Bool.and_eq_true] at this
    rw [this.1.1, this.2]; rfl
  · unfold squareB
    rw [Bool.and_eq_true, decide_eq_true_eq, beq_iff_eq]
    refine ⟨hg, fun r hr => ?_⟩
    have := h r (by omega)
    unfold shpRow at this
    rw [Bool.and_eq_true, Bool.and_eq_true, beq_iff_eq] at this
    exact this.1.2

theorem holds_no {s : Nat → ByteArray} {k : Nat} (h : ∀ x, x < k → ((s x).toList == (s k).toList) = false) : holdsB s k (s k) = false := by
  unfold holdsB
  rw [decide_eq_false_iff_not]
  rintro ⟨i, hi, h1⟩
  have := h i hi
  rw [beq_eq_false_iff_ne] at this
  exact this (by simpa using (beq_iff_eq.1 h1).symm)
theorem holds_yes {s : Nat → ByteArray} {k x : Nat} (hx : x < k) (h : ((s x).toList == (s k).toList) = true) : holdsB s k (s k) = true := by
  unfold holdsB
  rw [decide_eq_true_eq]
  exact ⟨x, hx, by rw [beq_iff_eq] at h ⊢; exact h.symm⟩

end Go.Proofs.Ytibhcbdofadamaa

/- The document's own words for a formed lattice, and the program's sets: one and the same. No walk in this text. -/
namespace Go.Proofs.Ytibhcbdofadamaa

structure Sq (n : Strs) (g : Grid) : Prop where
  len : g.len = n.len
  pos : 0 < n.len
  le8 : n.len ≤ 8
  L : ∀ r, r < g.len → g.L r = n.len

section
variable {n : Strs} {g : Grid}
theorem sq_of (h : (namesB n && squareB g n.len) = true) : Sq n g := by
  rw [Bool.and_eq_true] at h
  have h1 := namesB_len h.1
  have h2 := squareB_len h.2
  exact ⟨h2.1, h1.1, h1.2, h2.2⟩
theorem le_iff_s (hS : Sq n g) {a b : Nat} (ha : a < n.len) (hb : b < n.len) : g.le a b = true ↔ Lq g a b := by
  unfold Grid.le Lq
  rw [hS.L a (by have := hS.len; omega)]
  simp [show a < g.len by have := hS.len; omega, hb]
theorem le_lt_s (hS : Sq n g) {a b : Nat} (h : g.le a b = true) : a < n.len ∧ b < n.len := by
  unfold Grid.le at h
  simp only [Bool.and_eq_true, decide_eq_true_eq] at h
  have := hS.L a h.1
  have := hS.len
  omega
theorem U_mem_s (hS : Sq n g) {a b : Nat} (ha : a < n.len) : (g.U a).testBit b = true ↔ b < n.len ∧ Lq g a b := by
  rw [U_bit g (by have := hS.len; omega), Bool.and_eq_true, decide_eq_true_eq]
  constructor
  · rintro ⟨_, h⟩
    have := le_lt_s hS h
    exact ⟨this.2, (le_iff_s hS ha this.2).1 h⟩
  · rintro ⟨h1, h2⟩
    exact ⟨by have := hS.le8; omega, (le_iff_s hS ha h1).2 h2⟩
theorem D_mem_s (hS : Sq n g) {a b : Nat} (hb : b < n.len) : (g.D b).testBit a = true ↔ a < n.len ∧ Lq g a b := by
  rw [D_bit g, Bool.and_eq_true, decide_eq_true_eq]
  constructor
  · rintro ⟨_, h⟩
    have := le_lt_s hS h
    exact ⟨this.1, (le_iff_s hS this.1 hb).1 h⟩
  · rintro ⟨h1, h2⟩
    exact ⟨by have := hS.le8; omega, (le_iff_s hS h1 hb).2 h2⟩

theorem abv_iff (n : Strs) (g : Grid) (a b c : Nat) : abvB n g a b c = true ↔ Lq g a c ∧ Lq g b c ∧ ∀ d, d < n.len → Lq g a d → Lq g b d → Lq g c d := by
  unfold abvB Lq
  rw [Bool.and_eq_true, Bool.and_eq_true, decide_eq_true_eq]
  constructor
  · rintro ⟨⟨h1, h2⟩, h3⟩
    refine ⟨h1, h2, fun d hd q1 q2 => ?_⟩
    have := h3 d hd
    rw [q1, q2] at this
    simpa using this
  · rintro ⟨h1, h2, h3⟩
    refine ⟨⟨h1, h2⟩, fun d hd => ?_⟩
    cases q1 : g.B a d
    · rfl
    · cases q2 : g.B b d
      · rfl
      · rw [h3 d hd q1 q2]; rfl
theorem blw_iff (n : Strs) (g : Grid) (a b c : Nat) : blwB n g a b c = true ↔ Lq g c a ∧ Lq g c b ∧ ∀ d, d < n.len → Lq g d a → Lq g d b → Lq g d c := by
  unfold blwB Lq
  rw [Bool.and_eq_true, Bool.and_eq_true, decide_eq_true_eq]
  constructor
  · rintro ⟨⟨h1, h2⟩, h3⟩
    refine ⟨h1, h2, fun d hd q1 q2 => ?_⟩
    have := h3 d hd
    rw [q1, q2] at this
    simpa using this
  · rintro ⟨h1, h2, h3⟩
    refine ⟨⟨h1, h2⟩, fun d hd => ?_⟩
    cases q1 : g.B d a
    · rfl
    · cases q2 : g.B d b
      · rfl
      · rw [h3 d hd q1 q2]; rfl

theorem findI_spec (p : Nat → Bool) : ∀ f k, findI p f k = -1 ∨ ∃ j, k ≤ j ∧ j < k + f ∧ findI p f k = (j : Int) ∧ p j = true
  | 0, _ => Or.inl rfl
  | f + 1, k => by
    unfold findI
    by_cases h : p k = true
    · rw [if_pos h]; exact Or.inr ⟨k, Nat.le_refl _, by omega, rfl, h⟩
    · rw [if_neg h]
      rcases findI_spec p f (k + 1) with h0 | ⟨j, h1, h2, h3⟩
      · exact Or.inl h0
      · exact Or.inr ⟨j, by omega, by omega, h3⟩
theorem findI_some (p : Nat → Bool) (j : Nat) (h : p j = true) : ∀ f k, k ≤ j → j < k + f → findI p f k ≠ -1
  | 0, _, _, _ => by omega
  | f + 1, k, hk, hj => by
    unfold findI
    by_cases h0 : p k = true
    · rw [if_pos h0]; omega
    · rw [if_neg h0]
      refine findI_some p j h f (k + 1) ?_ (by omega)
      by_cases e : k = j
      · subst e; exact absurd h h0
      · omega
/-- what is found, where there is just one -/
theorem findI_one (p : Nat → Bool) {N j : Nat} (hj : j < N) (h : p j = true) (hu : ∀ i, i < N → p i = true → i = j) : findI p N 0 = (j : Int) := by
  rcases findI_spec p N 0 with h0 | ⟨i, h1, h2, h3, h4⟩
  · exact absurd h0 (findI_some p j h N 0 (Nat.zero_le _) (by omega))
  · rw [h3, hu i (by omega) h4]

/-- One pair of labels, as the reference asks. -/
def abOk (n : Strs) (g : Grid) (a b : Nat) : Bool :=
  ((if a = b then g.B a b else !(g.B a b && g.B b a)) && decide (∀ c, c < n.len → (g.B a b && g.B b c && !g.B a c) = false)) && (findI (abvB n g a b) n.len 0 != -1 && findI (blwB n g a b) n.len 0 != -1)
def rformedB (n : Strs) (g : Grid) : Bool := (namesB n && squareB g n.len) && decide (∀ a, a < n.len → ∀ b, b < n.len → abOk n g a b = true)

theorem ab_of_formed (hF : formedB n g = true) {a b : Nat} (ha : a < n.len) (hb : b < n.len) : abOk n g a b = true := by
  unfold abOk
  rw [Bool.and_eq_true, Bool.and_eq_true, Bool.and_eq_true, bne_iff_ne, bne_iff_ne, decide_eq_true_eq]
  refine ⟨⟨?_, fun c hc => ?_⟩, ?_, ?_⟩
  · by_cases e : a = b
    · subst e; rw [if_pos rfl]; exact lq_refl hF ha
    · rw [if_neg e]
      cases q1 : g.B a b
      · rfl
      · cases q2 : g.B b a
        · rfl
        · exact absurd (lq_anti hF ha hb q1 q2) e
  · cases q1 : g.B a b
    · rfl
    · cases q2 : g.B b c
      · rfl
      · rw [show g.B a c = true from lq_trans hF ha hb hc q1 q2]; rfl
  · obtain ⟨h1, h2, h3, h4⟩ := (jn_is hF ha hb).2
    exact findI_some _ _ ((abv_iff n g a b _).2 ⟨h2, h3, h4⟩) _ _ (Nat.zero_le _) (by omega)
  · obtain ⟨h1, h2, h3, h4⟩ := (mt_is hF ha hb).2
    exact findI_some _ _ ((blw_iff n g a b _).2 ⟨h2, h3, h4⟩) _ _ (Nat.zero_le _) (by omega)

theorem formed_of_ab (hS : (namesB n && squareB g n.len) = true) (h : ∀ a, a < n.len → ∀ b, b < n.len → abOk n g a b = true) : formedB n g = true := by
  have s := sq_of hS
  have refl : ∀ a, a < n.len → Lq g a a := fun a ha => by
    have := h a ha a ha
    unfold abOk at this
    rw [Bool.and_eq_true, Bool.and_eq_true, if_pos rfl] at this
    exact this.1.1
  have anti : ∀ a b, a < n.len → b < n.len → Lq g a b → Lq g b a → a = b := fun a b ha hb q1 q2 => by
    by_cases e : a = b
    · exact e
    · have := h a ha b hb
      unfold abOk at this
      rw [Bool.and_eq_true, Bool.and_eq_true, if_neg e, show g.B a b = true from q1, show g.B b a = true from q2] at this
      exact absurd this.1.1 (by simp)
  have trans : ∀ a b c, a < n.len → b < n.len → c < n.len → Lq g a b → Lq g b c → Lq g a c := fun a b c ha hb hc q1 q2 => by
    have := h a ha b hb
    unfold abOk at this
    rw [Bool.and_eq_true, Bool.and_eq_true, decide_eq_true_eq] at this
    have := this.1.2 c hc
    rw [show g.B a b = true from q1, show g.B b c = true from q2] at this
    simpa [Lq] using this
  unfold formedB
  rw [hS, Bool.true_and, Bool.and_eq_true]
  constructor
  · refine part_yes fun a ha => ?_
    have ha' : a < n.len := by have := s.len; omega
    unfold partRow
    rw [Bool.and_eq_true, beq_iff_eq, decide_eq_true_eq]
    refine ⟨?_, fun b hb hbit => ?_⟩
    · apply Nat.eq_of_testBit_eq
      intro i
      rw [Nat.testBit_and, Nat.testBit_two_pow, Bool.eq_iff_iff, Bool.and_eq_true, U_mem_s s ha', D_mem_s s ha', decide_eq_true_eq]
      constructor
      · rintro ⟨⟨h1, h2⟩, _, h3⟩; exact anti a i ha' h1 h2 h3
      · rintro rfl; exact ⟨⟨ha', refl a ha'⟩, ha', refl a ha'⟩
    · have hb' : b < n.len := by have := s.len; omega
      have h1 := (U_mem_s s ha').1 hbit
      exact and_sub.2 fun i hi => by
        have h2 := (U_mem_s s hb').1 hi
        exact (U_mem_s s ha').2 ⟨h2.1, trans a b i ha' hb' h2.1 h1.2 h2.2⟩
  · refine bdd_yes fun a ha b hb => ?_
    have ha' : a < n.len := by have := s.len; omega
    have hb' : b < n.len := by omega
    have hab := h a ha' b hb'
    unfold abOk at hab
    rw [Bool.and_eq_true, Bool.and_eq_true, Bool.and_eq_true, bne_iff_ne, bne_iff_ne] at hab
    have l8 := s.le8
    have le := s.len
    unfold okPair
    rw [Bool.and_eq_true, bne_iff_ne, bne_iff_ne]
    constructor
    · rcases findI_spec (abvB n g a b) n.len 0 with h0 | ⟨j, _, hj, _, h4⟩
      · exact absurd h0 hab.2.1
      · obtain ⟨q1, q2, q3⟩ := (abv_iff n g a b j).1 h4
        have up : ∀ i, (((2 ^ g.len - 1) &&& g.U a) &&& g.U b).testBit i = true ↔ i < n.len ∧ Lq g a i ∧ Lq g b i := fun i => by
          rw [Nat.testBit_and, Nat.testBit_and, Bool.and_eq_true, Bool.and_eq_true, all_bit, decide_eq_true_eq, U_mem_s s ha', U_mem_s s hb']
          constructor
          · rintro ⟨⟨h1, h2⟩, h3⟩; exact ⟨h2.1, h2.2, h3.2⟩
          · rintro ⟨h1, h2, h3⟩; exact ⟨⟨by omega, h1, h2⟩, h1, h3⟩
        refine near_some g.U _ j ((up j).2 ⟨by omega, q1, q2⟩) ?_ 8 0 (Nat.zero_le _) (by omega)
        exact and_sub.2 fun i hi => by
          obtain ⟨r1, r2, r3⟩ := (up i).1 hi
          exact (U_mem_s s (by omega)).2 ⟨r1, q3 i r1 r2 r3⟩
    · rcases findI_spec (blwB n g a b) n.len 0 with h0 | ⟨j, _, hj, _, h4⟩
      · exact absurd h0 hab.2.2
      · obtain ⟨q1, q2, q3⟩ := (blw_iff n g a b j).1 h4
        have dn : ∀ i, (((2 ^ g.len - 1) &&& g.D a) &&& g.D b).testBit i = true ↔ i < n.len ∧ Lq g i a ∧ Lq g i b := fun i => by
          rw [Nat.testBit_and, Nat.testBit_and, Bool.and_eq_true, Bool.and_eq_true, all_bit, decide_eq_true_eq, D_mem_s s ha', D_mem_s s hb']
          constructor
          · rintro ⟨⟨h1, h2⟩, h3⟩; exact ⟨h2.1, h2.2, h3.2⟩
          · rintro ⟨h1, h2, h3⟩; exact ⟨⟨by omega, h1, h2⟩, h1, h3⟩
        refine near_some g.D _ j ((dn j).2 ⟨by omega, q1, q2⟩) ?_ 8 0 (Nat.zero_le _) (by omega)
        exact and_sub.2 fun i hi => by
          obtain ⟨r1, r2, r3⟩ := (dn i).1 hi
          exact (D_mem_s s (by omega)).2 ⟨r1, q3 i r1 r2 r3⟩

theorem rformed_eq (n : Strs) (g : Grid) : rformedB n g = formedB n g := by
  rw [Bool.eq_iff_iff]
  unfold rformedB
  rw [Bool.and_eq_true, decide_eq_true_eq]
  constructor
  · rintro ⟨h1, h2⟩; exact formed_of_ab h1 h2
  · intro h
    refine ⟨?_, fun a ha b hb => ab_of_formed h ha hb⟩
    unfold formedB at h
    rw [Bool.and_eq_true] at h
    exact h.1
end
end Go.Proofs.Ytibhcbdofadamaa

/- The walk of the reference's Formed: it tells just what the program's Formed tells. -/
namespace Go.Proofs.Ytibhcbdofadamaa
open Go.RowKit

theorem findI_neg (p : Nat → Bool) (N : Nat) (h : findI p N 0 ≠ -1) : 0 ≤ findI p N 0 := by
  rcases findI_spec p N 0 with h0 | ⟨j, _, _, h3, _⟩
  · exact absurd h0 h
  · rw [h3]; omega

theorem rf_no {n : Strs} {g : Grid} {a b : Nat} (ha : a < n.len) (hb : b < n.len) (h : abOk n g a b = false) : formedB n g = false := by
  rw [← rformed_eq]
  unfold rformedB
  rw [Bool.and_eq_false_iff, decide_eq_false_iff_not]
  right
  intro hh
  rw [hh a ha b hb] at h
  exact Bool.noConfusion h

end Go.Proofs.Ytibhcbdofadamaa

/- The walks of layer 1's Same, with slices.Equal and slices.EqualFunc. -/
namespace Go.Proofs.Ytibhcbdofadamaa
open Go.RowKit

def eqSB (p q : Strs) : Bool := (p.len == q.len) && decide (∀ i, i < p.len → ((p.s i).toList == (q.s i).toList) = true)
theorem eqS_no {p q : Strs} {k : Nat} (hk : k < p.len) (h : ((p.s k).toList == (q.s k).toList) = false) : eqSB p q = false := by
  unfold eqSB
  rw [Bool.and_eq_false_iff, decide_eq_false_iff_not]
  right
  intro hh
  rw [hh k hk] at h
  exact Bool.noConfusion h

/-- A []bool in memory. -/
structure Row where
  ao : Option Addr
  b : Nat
  o : Nat
  len : Nat
  cap : Nat
  f : Nat → Bool
structure Row.At (g : Row) (w : World) : Prop where
  nil : 0 < g.len → g.ao = some ⟨g.b, g.o, none⟩
  bound : g.len ≤ 9223372036854775807
  cell : ∀ i, i < g.len → w.cell? ⟨g.b, g.o + i, none⟩ = some (.bool (g.f i))
theorem Row.At.kept {g : Row} {w w' : World} (h : g.At w) (hb : Below w.heap.size w w') : g.At w' :=
  ⟨h.nil, h.bound, fun i hi => (hb.cell (p := ⟨g.b, g.o + i, none⟩) (cell_lt (h.cell i hi))).trans (h.cell i hi)⟩

def eqRB (p q : Row) : Bool := (p.len == q.len) && decide (∀ i, i < p.len → p.f i = q.f i)
theorem eqR_no {p q : Row} {k : Nat} (hk : k < p.len) (h : p.f k ≠ q.f k) : eqRB p q = false := by
  unfold eqRB
  rw [Bool.and_eq_false_iff, decide_eq_false_iff_not]
  right
  intro hh
  exact h (hh k hk)

end Go.Proofs.Ytibhcbdofadamaa

/- The walks of slices.EqualFunc and layer 1's Same. -/
namespace Go.Proofs.Ytibhcbdofadamaa
open Go.RowKit

def Grid.row (g : Grid) (r : Nat) : Row := ⟨g.A r, g.AB r, g.AO r, g.L r, g.C r, g.B r⟩
theorem Grid.row_at {g : Grid} {w : World} (h : g.At w) {r : Nat} (hr : r < g.len) : (g.row r).At w := ⟨h.adr r hr, h.lbound r hr, h.cell r hr⟩
def eqGB (p q : Grid) : Bool := (p.len == q.len) && decide (∀ r, r < p.len → eqRB (p.row r) (q.row r) = true)
theorem eqG_no {p q : Grid} {k : Nat} (hk : k < p.len) (h : eqRB (p.row k) (q.row k) = false) : eqGB p q = false := by
  unfold eqGB
  rw [Bool.and_eq_false_iff, decide_eq_false_iff_not]
  right
  intro hh
  rw [hh k hk] at h
  exact Bool.noConfusion h

def sameB (n : Strs) (g : Grid) (n2 : Strs) (g2 : Grid) : Bool := eqSB n n2 && eqGB g g2

/-- w1 is w, and behind it two variables of two cells each, and what came since. -/
structure Two (w w1 : World) (u v u2 v2 : Value) : Prop where
  bl : Below w.heap.size w w1
  lt : w.heap.size + 1 < w1.heap.size
  c0 : w1.cell? ⟨w.heap.size, 0, none⟩ = some u
  c1 : w1.cell? ⟨w.heap.size, 1, none⟩ = some v
  c2 : w1.cell? ⟨w.heap.size + 1, 0, none⟩ = some u2
  c3 : w1.cell? ⟨w.heap.size + 1, 1, none⟩ = some v2
theorem Two.start (w : World) (u v u2 v2 : Value) (t t2 : TypeId) : Two w ((w.alloc (.cells #[u, v] t)).alloc (.cells #[u2, v2] t2)) u v u2 v2 :=
  ⟨((Below.refl _ _).alloc (Nat.le_refl _) _).alloc (by simp) _, by simp, by simp, by simp, (cells2' w _ u2 v2 t2).1, (cells2' w _ u2 v2 t2).2⟩
theorem Two.step {w w1 w2 : World} {u v u2 v2 : Value} (h : Two w w1 u v u2 v2) (k : Below w1.heap.size w1 w2) : Two w w2 u v u2 v2 :=
  ⟨h.bl.trans (k.mono h.bl.size), Nat.lt_of_lt_of_le h.lt k.size, (k.cell (p := ⟨w.heap.size, 0, none⟩) (by have := h.lt; show w.heap.size < _; omega)).trans h.c0, (k.cell (p := ⟨w.heap.size, 1, none⟩) (by have := h.lt; show w.heap.size < _; omega)).trans h.c1,
    (k.cell (p := ⟨w.heap.size + 1, 0, none⟩) h.lt).trans h.c2, (k.cell (p := ⟨w.heap.size + 1, 1, none⟩) h.lt).trans h.c3⟩

/-- The worlds behind w in which both variables still hold what they held. -/
def Cls2 (w : World) (u v u2 v2 : Value) : Type := { w' : World // Two w w' u v u2 v2 }
def Cls2.w {w : World} {u v u2 v2 : Value} (x : Cls2 w u v u2 v2) : World := x.1
theorem Cls2.box {w : World} {u v u2 v2 : Value} (x : Cls2 w u v u2 v2) : Two w x.w u v u2 v2 := x.2
theorem wp_region_cls2 {P : Program} {w0 : World} {u v u2 v2 : Value} {id : Nat} {Q : Exit → Act → World → Prop} {a : Act} {w : World} {l : List Oper} (hb : Two w0 w u v u2 v2) (hm : P.follows .mixedOrders = true) (hB : Region.lexB .any l.toArray = true)
    (h : wpQuiet P l.toArray (fun w' => ∃ x : Cls2 w0 u v u2 v2, w' = x.w) (fun a' => ∀ w', (∃ x : Cls2 w0 u v u2 v2, w' = x.w) → Q .normal a' w') l a) : (Code.region id l.toArray true).wp P Q a w :=
  wp_region_quiet (C := fun w' => ∃ x : Cls2 w0 u v u2 v2, w' = x.w) hm hB ⟨⟨_, hb.step ((Below.refl _ _).drew)⟩, rfl⟩ (by simpa using h)
theorem Calls.cls2 {P : Program} {f : FuncId} {args : Array Value} {w0 : World} {u v u2 v2 r : Value} (x : Cls2 w0 u v u2 v2)
    (h : Calls P f args x.w fun e w' => e = .returned r ∧ Below x.w.heap.size x.w w') : Calls P f args x.w fun e w'' => e = .returned r ∧ ∃ y : Cls2 w0 u v u2 v2, w'' = y.w :=
  h.mono fun _ _ ⟨he, hb⟩ => ⟨he, ⟨_, x.box.step hb⟩, rfl⟩

/-- What Find answers. -/
def findN (n : Strs) (g : Grid) (s : ByteArray) : Int := if formedB n g = true then idxFrom n.s s n.len 0 else -1

end Go.Proofs.Ytibhcbdofadamaa

/- The walk of the reference's Same: it tells just what the program's Same tells. -/
namespace Go.Proofs.Ytibhcbdofadamaa
open Go.RowKit

theorem same_lens {n : Strs} {g : Grid} {n2 : Strs} {g2 : Grid} (h : n.len ≠ n2.len ∨ g.len ≠ g2.len) : sameB n g n2 g2 = false := by
  unfold sameB eqSB eqGB
  rcases h with h | h
  · rw [beq_eq_false_iff_ne.2 h]; rfl
  · rw [beq_eq_false_iff_ne.2 h]; simp

end Go.Proofs.Ytibhcbdofadamaa

/- The walk of layer 1's Below. -/
namespace Go.Proofs.Ytibhcbdofadamaa
open Go.RowKit

/-- A []int in memory. -/
structure Ints where
  ao : Option Addr
  b : Nat
  o : Nat
  len : Nat
  cap : Nat
  x : Nat → Int
structure Ints.At (g : Ints) (w : World) : Prop where
  nil : 0 < g.len → g.ao = some ⟨g.b, g.o, none⟩
  le8 : g.len ≤ 8
  cell : ∀ i, i < g.len → w.cell? ⟨g.b, g.o + i, none⟩ = some (.int .i64 (g.x i))
theorem Ints.At.kept {g : Ints} {w w' : World} (h : g.At w) (hb : Below w.heap.size w w') : g.At w' :=
  ⟨h.nil, h.le8, fun i hi => (hb.cell (p := ⟨g.b, g.o + i, none⟩) (cell_lt (h.cell i hi))).trans (h.cell i hi)⟩

theorem Try.infoInt : (Try.prog.info? 3).map (fun i => (i.zero, i.size, i.bytes)) = some (some (.int .i64 0), 1, 8) := by kernel_rfl

theorem own_ge {w : World} {base : Nat} {e : TypeId} {size : Nat} {v : Value} {n : Nat} {xs : List Value} (h : w.ownsRow base e size v n xs) {b : Nat} (hb : v.ownBlock = some b) : base ≤ b := by
  obtain ⟨_, ⟨rfl, _⟩ | ⟨gb, cap, cur, rfl, hg, _⟩⟩ := h
  · simp [Value.ownBlock] at hb
  · have : gb = b := by simpa [Value.ownBlock] using hb
    omega

def intCells (l : List Nat) : List Value := l.map fun (b : Nat) => Value.int .i64 (b : Int)
theorem ints_of_own {w : World} {base : Nat} {v : Value} {l : List Nat} (h : w.ownsRow base 3 1 v l.length (intCells l)) (h8 : l.length ≤ 8) :
    ∃ q : Ints, v = .slice q.ao q.len q.cap ∧ q.At w ∧ q.len = l.length ∧ ∀ i, q.x i = (l.getD i 0 : Nat) := by
  have h' := h
  obtain ⟨_, ⟨rfl, h0⟩ | ⟨gb, cap, cur, rfl, _, _, hc, _⟩⟩ := h'
  · refine ⟨⟨none, 0, 0, 0, 0, fun i => (l.getD i 0 : Nat)⟩, rfl, ⟨fun h => absurd h (Nat.lt_irrefl _), Nat.zero_le _, fun _ h => absurd h (Nat.not_lt_zero _)⟩, h0.symm, fun _ => rfl⟩
  · refine ⟨⟨some ⟨gb, 0, none⟩, gb, 0, l.length, cap, fun i => (l.getD i 0 : Nat)⟩, rfl, ⟨fun _ => rfl, h8, fun i hi => ?_⟩, rfl, fun _ => rfl⟩
    have hi' : i < l.length := hi
    show w.cell? ⟨gb, 0 + i, none⟩ = _
    rw [Nat.zero_add, h.cellAt i (by simpa using hi')]
    simp [intCells, hi', List.getD]

/-- The labels below a, among the first k. -/
def belTo (g : Grid) (a k : Nat) : List Nat := (List.range k).filter (fun b => g.B b a)
theorem belTo_len (g : Grid) (a k : Nat) : (belTo g a k).length ≤ k := by
  have := List.length_filter_le (fun b => g.B b a) (List.range k)
  simpa [belTo] using this
theorem belTo_yes (g : Grid) (a k : Nat) (h : g.B k a = true) : belTo g a (k + 1) = belTo g a k ++ [k] := by
  simp [belTo, List.range_succ, List.filter_append, h]
theorem belTo_no (g : Grid) (a k : Nat) (h : g.B k a = false) : belTo g a (k + 1) = belTo g a k := by
  simp [belTo, List.range_succ, List.filter_append, h]

/-- What Below answers. -/
def belL (n : Strs) (g : Grid) (a : Int) : List Nat := if (labB n a && formedB n g) = true then belTo g a.toNat n.len else []

end Go.Proofs.Ytibhcbdofadamaa
