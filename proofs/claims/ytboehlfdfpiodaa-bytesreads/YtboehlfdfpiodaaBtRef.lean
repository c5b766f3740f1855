/- Layer 4: the walks of the reference's reader. -/
import Derived.Test.YtboehlfdfpiodaaBtApp
import Derived.Deep.RegionHeld3
import Derived.Deep.Cut
import Derived.Deep.CutRange
import Derived.Deep.DeepCutAuto
namespace Go.Proofs.Ytboehlfdfpiodaa
open Go.RowKit

/-- What the reference's reader has. -/
def abst (X : Bys) (a : Nat) (no : Bool) : Option (List Nat) := if no = true then none else some (X.l.drop a)
/-- The reference's reader in block q: X's bytes, place a, failed or not. -/
structure Rx (w : World) (q : Nat) (X : Bys) (a : Nat) (no : Bool) : Prop where
  at' : X.At w
  le : a ≤ X.len
  ne : X.b ≠ q
  small : X.len ≤ 100000
  blk : w.heap[q]? = some (.cells #[.slice X.ao X.len X.cap, .int .i64 a, .bool no] 38 (0, 0))

theorem blk3 {w : World} {p : Nat} {u v x : Value} {T : TypeId} (h : w.heap[p]? = some (.cells #[u, v, x] T (0, 0))) : w.cell? ⟨p, 0, none⟩ = some u ∧ w.cell? ⟨p, 1, none⟩ = some v ∧ w.cell? ⟨p, 2, none⟩ = some x ∧ w.frozen? ⟨p, 1, none⟩ = false ∧ w.frozen? ⟨p, 2, none⟩ = false := by
  simp [World.cell?, World.frozen?, h]
theorem blk3_set1 {w : World} {p : Nat} {u v x y : Value} {T : TypeId} (h : w.heap[p]? = some (.cells #[u, v, x] T (0, 0))) : (w.setCell ⟨p, 1, none⟩ y).heap[p]? = some (.cells #[u, y, x] T (0, 0)) := by
  simp [World.setCell, Array.getElem?_modify, h]
theorem blk3_set2 {w : World} {p : Nat} {u v x y : Value} {T : TypeId} (h : w.heap[p]? = some (.cells #[u, v, x] T (0, 0))) : (w.setCell ⟨p, 2, none⟩ y).heap[p]? = some (.cells #[u, v, y] T (0, 0)) := by
  simp [World.setCell, Array.getElem?_modify, h]
theorem Rx.gb {w w' : World} {q r : Nat} {X : Bys} {a : Nat} {no : Bool} (h : Rx w q X a no) (hb : w.grownBy w' (some r)) (h1 : q ≠ r) (h2 : X.b ≠ r) : Rx w' q X a no :=
  ⟨h.at'.gb hb h2, h.le, h.ne, h.small, (hb.block q (heap_lt h.blk) (fun e => h1 (by injection e))).trans h.blk⟩
theorem Rx.bel {w w' : World} {q : Nat} {X : Bys} {a : Nat} {no : Bool} (h : Rx w q X a no) (hb : Below w.heap.size w w') : Rx w' q X a no :=
  ⟨h.at'.kept hb, h.le, h.ne, h.small, (hb.block q (heap_lt h.blk)).trans h.blk⟩
theorem Rx.set1 {w : World} {q : Nat} {X : Bys} {a : Nat} {no : Bool} (h : Rx w q X a no) (c : Nat) (hc : c ≤ X.len) : Rx (w.setCell ⟨q, 1, none⟩ (.int .i64 c)) q X c no :=
  ⟨h.at'.gb (gb_set (gb_refl _ _) _ _) h.ne, hc, h.ne, h.small, blk3_set1 h.blk⟩
theorem Rx.set2 {w : World} {q : Nat} {X : Bys} {a : Nat} {no : Bool} (h : Rx w q X a no) (b : Bool) : Rx (w.setCell ⟨q, 2, none⟩ (.bool b)) q X a b :=
  ⟨h.at'.gb (gb_set (gb_refl _ _) _ _) h.ne, h.le, h.ne, h.small, blk3_set2 h.blk⟩
/-- The same by what it has. -/
def Rf (w : World) (q : Nat) (X : Bys) (st : Option (List Nat)) : Prop := ∃ a no, Rx w q X a no ∧ abst X a no = st
theorem Rf.gb {w w' : World} {q r : Nat} {X : Bys} {st : Option (List Nat)} (h : Rf w q X st) (hb : w.grownBy w' (some r)) (h1 : q ≠ r) (h2 : X.b ≠ r) : Rf w' q X st := by
  obtain ⟨a, no, h, e⟩ := h; exact ⟨a, no, h.gb hb h1 h2, e⟩
theorem Rf.bel {w w' : World} {q : Nat} {X : Bys} {st : Option (List Nat)} (h : Rf w q X st) (hb : Below w.heap.size w w') : Rf w' q X st := by
  obtain ⟨a, no, h, e⟩ := h; exact ⟨a, no, h.bel hb, e⟩

/-- What the reference's take answers. -/
def Got (w : World) (base : Nat) (v : Value) (l : List Nat) : Prop := ∃ R : Bys, v = .slice R.ao R.len R.cap ∧ R.At w ∧ R.l = l ∧ base ≤ R.b
theorem Got.nil (w : World) (base : Nat) : Got w base (.slice none 0 0) [] := (Own.nil w base).bys
theorem Got.gb {w w' : World} {base q : Nat} {v : Value} {l : List Nat} (h : Got w base v l) (hb : w.grownBy w' (some q)) (hq : q < base) : Got w' base v l := by
  obtain ⟨R, h1, h2, h3, h4⟩ := h
  exact ⟨R, h1, h2.gb hb (by omega), h3, h4⟩
theorem Own.drew {w : World} {base : Nat} {v : Value} {l : List Nat} (h : Own w base v l) : Own w.drew base v l := ⟨h.1.drew, h.2⟩

set_option maxHeartbeats 1000000 in
theorem xtake_no (q s : Nat) (X : Bys) (a : Nat) (no : Bool) (w : World) (h : Rx w q X a no) (hs : no = true ∨ X.len - a < s) :
    Calls Try.prog 35 #[.pointer (some ⟨q, 0, none⟩), .int .i64 s] w fun e w' => e = .returned (.slice none 0 0) ∧ Rx w' q X a true ∧ w.grownBy w' (some q) := by
  obtain ⟨c0, c1, c2, f1, f2⟩ := blk3 h.blk
  have hb := h.at'.bound
  have hlc := h.at'.lc
  have hle := h.le
  have H : Hid (Rx w q X a no) := h
  clear h
  have HE : Hid (Rx (w.drew.setCell ⟨q, 2, none⟩ (.bool true)) q X a true ∧ w.grownBy (w.drew.setCell ⟨q, 2, none⟩ (.bool true)) (some q)) :=
    ⟨(H.out.bel ((Below.refl _ _).drew)).set2 true, gb_set (gb_of_below ((Below.refl _ _).drew) _) _ _⟩
  rcases hs with rfl | hs
  · go_enter Try.func35, Try.ntmps35
    go_wp2
    go_region
    go_wp2
    go_ret
    exact ⟨rfl, HE.out⟩
  · cases no
    · go_enter Try.func35, Try.ntmps35
      go_wp2
      go_region
      go_wp2
      go_ret
      exact ⟨rfl, HE.out⟩
    · go_enter Try.func35, Try.ntmps35
      go_wp2
      go_region
      go_wp2
      go_ret
      exact ⟨rfl, HE.out⟩

/-- What is taken, as bytes that lie in X. -/
def midB (X : Bys) (a s : Nat) (ao : Option Addr) (c : Nat) : Bys := ⟨ao, X.b, X.o + a, s, c, fun i => X.f (a + i)⟩
theorem mid_l (X : Bys) (a s : Nat) (ao : Option Addr) (c : Nat) (hs : s ≤ X.len - a) (ha : a ≤ X.len) : (midB X a s ao c).l = (X.l.drop a).take s := by
  rw [← drop_l X a ao c ha]
  exact (take_l ⟨ao, X.b, X.o + a, X.len - a, c, fun i => X.f (a + i)⟩ s ao c hs).symm ▸ rfl
theorem mid_at {X : Bys} {w : World} (h : X.At w) (a s : Nat) (ao : Option Addr) (c : Nat) (hs : s ≤ X.len - a) (ha : a ≤ X.len) (h1 : 0 < s → ao = some ⟨X.b, X.o + a, none⟩) (h2 : ao = none → c = 0) (h3 : s ≤ c) (h4 : c ≤ 9223372036854775807) : (midB X a s ao c).At w :=
  ⟨h3, h1, h2, h4, fun i hi => (by
    have hi' : i < s := hi
    have := h.cell (a + i) (by omega)
    rw [← Nat.add_assoc] at this
    exact this), fun i hi => (by
    have hi' : i < s := hi
    exact h.lt (a + i) (by omega))⟩

set_option maxHeartbeats 2000000 in
theorem xtake_yes (q s : Nat) (X : Bys) (a : Nat) (w : World) (h : Rx w q X a false) (hs : s ≤ X.len - a) (hc : ¬ X.cap = a) :
    Calls Try.prog 35 #[.pointer (some ⟨q, 0, none⟩), .int .i64 s] w fun e w' => ∃ v, e = .returned v ∧ Got w' w.heap.size v ((X.l.drop a).take s) ∧ Rx w' q X (a + s) false ∧ w.grownBy w' (some q) := by
  obtain ⟨c0, c1, c2, f1, f2⟩ := blk3 h.blk
  have hb := h.at'.bound
  have hlc := h.at'.lc
  have hle := h.le
  have hq := heap_lt h.blk
  have H : Hid (Rx w q X a false) := h
  clear h
  go_enter Try.func35, Try.ntmps35
  go_wp2
  go_region
  go_upto_region 4 with fail
  go_cut [5] (fun v wx => Got wx w.heap.size v ((X.l.drop a).take s) ∧ Below w.heap.size w wx)
  case first =>
    have key : Hid (∀ u : World, Below w.heap.size w u → (fun u : World => u.cell? ⟨q, 0, none⟩ = some (.slice X.ao X.len X.cap) ∧ u.cell? ⟨q, 1, none⟩ = some (.int .i64 a)) u) := fun u hu => ⟨(hu.cell (p := ⟨q, 0, none⟩) hq).trans c0, (hu.cell (p := ⟨q, 1, none⟩) hq).trans c1⟩
    have D1 : Below w.heap.size w w.drew.drew := ((Below.refl _ _).drew).drew
    have D2 : Below w.heap.size w (w.alloc (.cells #[] 5)).drew.drew := (((Below.refl _ _).alloc (Nat.le_refl _) _).drew).drew
    have hS := key.out _ D1
    have i1 : (0 : Int) ≤ (a : Int) := by omega
    have i2 : ((a : Int) + (s : Int)) ≤ (X.cap : Int) := by omega
    have i3 : (a : Int) ≤ (a : Int) + (s : Int) := by omega
    have i4 : IntKind.i64.wrap ((a : Int) + (s : Int)) = (a : Int) + (s : Int) := by rw [IntKind.wrap_i64]; omega
    have hsm := H.out.small
    go_region_held3 (fun u : World => u.cell? ⟨q, 0, none⟩ = some (.slice X.ao X.len X.cap) ∧ u.cell? ⟨q, 1, none⟩ = some (.int .i64 a)) (first | with_reducible assumption | with_reducible exact key.out _ D2 | with_reducible exact key.out _ D3 | fail) ((refine step_append_bys rfl (.tmp 27) (.tmp 42) rfl w.heap.size _ [] rfl (Own.lit w).drew.drew (midB X a s (X.ao.map fun x => x.add a) (X.cap - a)) _ rfl (by show _ = s; omega) (mid_at (H.out.at'.kept D2) a s _ _ hs hle (fun h => by rw [H.out.at'.nil (by omega)]; exact congrArg some (addr_add _ _ _)) (fun h => by rw [H.out.at'.none (by cases hq : X.ao with | none => rfl | some a => rw [hq] at h; cases h)]; omega) (by omega) (by omega)) (by show 0 + s ≤ _; omega) (Nat.le_of_lt (by simp)) ?_; intro v' w5 HO hg5; have D3 : Below w.heap.size w w5 := D2.grown hg5 (Nat.le_of_lt (by simp)) (fun k hk => Nat.le_of_eq (Option.some.inj hk))))
    go_wp2
    go_meet
    case rel =>
      obtain ⟨R, hv, hR, hl, hRb⟩ := HO.out.bys
      rw [List.nil_append, mid_l X a s _ _ hs hle] at hl
      exact ⟨⟨R, hv, hR, hl, hRb⟩, D3⟩
  case rest =>
    obtain ⟨hG, hB⟩ := hcut
    have HG : Hid (Got wc w.heap.size u5 ((X.l.drop a).take s)) := hG
    have HX : Hid (Rx wc q X a false) := H.out.bel hB
    obtain ⟨d0, d1, d2, e1, e2⟩ := blk3 HX.out.blk
    clear hG c0 c1 c2 f1 f2
    have HE : Hid (Rx (wc.setCell ⟨q, 1, none⟩ (.int .i64 ((a : Int) + (s : Int)))) q X (a + s) false) := by
      have h := HX.out.set1 (a + s) (by omega)
      rw [show ((a + s : Nat) : Int) = (a : Int) + (s : Int) by omega] at h
      exact h
    go_wp2
    go_ret
    exact ⟨_, rfl, HG.out.gb (gb_set (gb_refl _ _) _ _) hq, HE.out, gb_set (gb_of_below hB _) _ _⟩

set_option maxHeartbeats 2000000 in
theorem xtake_end (q : Nat) (X : Bys) (w : World) (h : Rx w q X X.len false) (hc : X.cap = X.len) :
    Calls Try.prog 35 #[.pointer (some ⟨q, 0, none⟩), .int .i64 0] w fun e w' => ∃ v, e = .returned v ∧ Got w' w.heap.size v [] ∧ Rx w' q X X.len false ∧ w.grownBy w' (some q) := by
  obtain ⟨c0, c1, c2, f1, f2⟩ := blk3 h.blk
  have hb := h.at'.bound
  have hq := heap_lt h.blk
  have H : Hid (Rx w q X X.len false) := h
  rw [hc] at c0 hb
  have HC : Hid (X.cap = X.len) := hc
  clear h hc
  obtain ⟨n, hn⟩ : ∃ n, n = X.len := ⟨_, rfl⟩
  have HN : Hid (n = X.len) := hn
  rw [← hn] at c0 c1 hb
  clear hn
  go_enter Try.func35, Try.ntmps35
  go_wp2
  go_region
  go_upto_region 4 with fail
  go_cut [5] (fun v wx => Got wx w.heap.size v [] ∧ Below w.heap.size w wx)
  case first =>
    have key : Hid (∀ u : World, Below w.heap.size w u → (fun u : World => u.cell? ⟨q, 0, none⟩ = some (.slice X.ao n n) ∧ u.cell? ⟨q, 1, none⟩ = some (.int .i64 n)) u) := fun u hu => ⟨(hu.cell (p := ⟨q, 0, none⟩) hq).trans c0, (hu.cell (p := ⟨q, 1, none⟩) hq).trans c1⟩
    have D1 : Below w.heap.size w w.drew.drew := ((Below.refl _ _).drew).drew
    have D2 : Below w.heap.size w (w.alloc (.cells #[] 5)).drew.drew := (((Below.refl _ _).alloc (Nat.le_refl _) _).drew).drew
    have hS := key.out _ D1
    have i1 : (0 : Int) ≤ (n : Int) := by omega
    have i4 : IntKind.i64.wrap (n : Int) = (n : Int) := by rw [IntKind.wrap_i64]; omega
    go_region_held3 (fun u : World => u.cell? ⟨q, 0, none⟩ = some (.slice X.ao n n) ∧ u.cell? ⟨q, 1, none⟩ = some (.int .i64 n)) (first | with_reducible assumption | with_reducible exact key.out _ D2 | with_reducible exact key.out _ D3 | fail) ((refine step_append_bys rfl (.tmp 27) (.tmp 42) rfl w.heap.size _ [] rfl (Own.lit w).drew.drew (midB X n 0 X.ao 0) _ rfl (by show _ = 0; omega) (mid_at (H.out.at'.kept D2) n 0 _ _ (Nat.zero_le _) (Nat.le_of_eq HN.out) (fun h => absurd h (Nat.lt_irrefl _)) (fun _ => rfl) (Nat.le_refl _) (by omega)) (by show 0 + 0 ≤ _; omega) (Nat.le_of_lt (by simp)) ?_; intro v' w5 HO hg5; have D3 : Below w.heap.size w w5 := D2.grown hg5 (Nat.le_of_lt (by simp)) (fun k hk => Nat.le_of_eq (Option.some.inj hk))))
    go_wp2
    go_meet
    case rel =>
      obtain ⟨R, hv, hR, hl, hRb⟩ := HO.out.bys
      exact ⟨⟨R, hv, hR, hl, hRb⟩, D3⟩
  case rest =>
    obtain ⟨hG, hB⟩ := hcut
    have HG : Hid (Got wc w.heap.size u5 []) := hG
    have HX : Hid (Rx wc q X n false) := by have := H.out.bel hB; rw [← HN.out] at this; exact this
    obtain ⟨d0, d1, d2, e1, e2⟩ := blk3 HX.out.blk
    clear hG c0 c1 c2 f1 f2 d0
    have HE : Hid (Rx (wc.setCell ⟨q, 1, none⟩ (.int .i64 (n : Int))) q X X.len false) := by
      have h := HX.out.set1 n (Nat.le_of_eq HN.out)
      rw [← HN.out]
      exact h
    go_wp2
    go_ret
    exact ⟨_, rfl, HG.out.gb (gb_set (gb_refl _ _) _ _) hq, HE.out, gb_set (gb_of_below hB _) _ _⟩

theorem xtake_any (q s : Nat) (X : Bys) (st : Option (List Nat)) (w : World) (h : Rf w q X st) :
    Calls Try.prog 35 #[.pointer (some ⟨q, 0, none⟩), .int .i64 s] w fun e w' => ∃ v, e = .returned v ∧ Got w' w.heap.size v (tk s st) ∧ Rf w' q X (tkS s st) ∧ w.grownBy w' (some q) := by
  obtain ⟨a, no, hR, rfl⟩ := h
  have hle := hR.le
  have hlc := hR.at'.lc
  by_cases hs : no = true ∨ X.len - a < s
  · refine (xtake_no q s X a no w hR hs).mono ?_
    rintro e w' ⟨rfl, h1, h2⟩
    have e1 : tk s (abst X a no) = [] ∧ tkS s (abst X a no) = none := by
      unfold abst
      by_cases hn : no = true
      · rw [if_pos hn]; exact ⟨rfl, rfl⟩
      · rw [if_neg hn]
        have h := hs.resolve_left hn
        unfold tk tkS
        dsimp only
        rw [List.length_drop, X.len_l, if_neg (by omega), if_neg (by omega)]
        exact ⟨rfl, rfl⟩
    rw [e1.1, e1.2]
    exact ⟨_, rfl, Got.nil _ _, ⟨a, true, h1, rfl⟩, h2⟩
  · have hn : no = false := by cases no; rfl; exact absurd (Or.inl rfl) hs
    subst hn
    have hs' : s ≤ X.len - a := by omega
    have e1 : tk s (abst X a false) = (X.l.drop a).take s ∧ tkS s (abst X a false) = some (X.l.drop (a + s)) := by
      rw [show abst X a false = some (X.l.drop a) from rfl]
      unfold tk tkS
      dsimp only
      rw [List.length_drop, X.len_l, if_pos hs', if_pos hs', List.drop_drop]
      exact ⟨rfl, rfl⟩
    rw [e1.1, e1.2]
    by_cases hc : X.cap = a
    · have ha : a = X.len := by omega
      have h0 : s = 0 := by omega
      subst h0 ha
      refine (xtake_end q X w hR hc).mono ?_
      rintro e w' ⟨v, rfl, h1, h2, h3⟩
      rw [List.take_zero]
      exact ⟨v, rfl, h1, ⟨X.len, false, h2, rfl⟩, h3⟩
    · refine (xtake_yes q s X a w hR hs' hc).mono ?_
      rintro e w' ⟨v, rfl, h1, h2, h3⟩
      exact ⟨v, rfl, h1, ⟨a + s, false, h2, rfl⟩, h3⟩
end Go.Proofs.Ytboehlfdfpiodaa
