/- Walks of layer 1's order: join, meet, and whether it is an order. -/
import Derived.Test.YtmajlfocfjcgmaaGreatDoorP1
namespace Go.Proofs.YtmajlfocfjcgmaaGreatDoor
open Go.RowKit

/-- Block B of w is an order of n labels: U: what is above each, D: what is below each. -/
structure OrdAt (w : World) (B n : Nat) (U D : Nat → Nat) : Prop where
  size : w.cell? ⟨B, 0, none⟩ = some (.int .i64 n)
  up : ∀ i, i < 8 → w.cell? ⟨B, 1 + i, none⟩ = some (.int .u64 (U i))
  dn : ∀ i, i < 8 → w.cell? ⟨B, 9 + i, none⟩ = some (.int .u64 (D i))

theorem cell_lt {w : World} {b o : Nat} {v : Value} (h : w.cell? ⟨b, o, none⟩ = some v) : b < w.heap.size := by
  unfold World.cell? at h
  cases hb : w.heap[b]? with
  | none => simp [hb] at h
  | some x => exact (Array.getElem?_eq_some_iff.1 hb).1

theorem OrdAt.kept {w w' : World} {B n : Nat} {U D : Nat → Nat} (h : OrdAt w B n U D) (hb : Below w.heap.size w w') : OrdAt w' B n U D := by
  have hl := cell_lt h.size
  exact ⟨(hb.cell (p := ⟨B, 0, none⟩) hl).trans h.size, fun i hi => (hb.cell (p := ⟨B, 1 + i, none⟩) hl).trans (h.up i hi), fun i hi => (hb.cell (p := ⟨B, 9 + i, none⟩) hl).trans (h.dn i hi)⟩

theorem below_drewN {B : Nat} {a w : World} (h : Below B a w) (n : Nat) : Below B a (w.drewN n) := ⟨h.os, h.tape, h.output, h.size, h.block⟩

/-- w' is w, but for draws. -/
def Dr (w w' : World) : Prop := ∃ n, w' = w.drewN n
theorem Dr.refl (w : World) : Dr w w := ⟨0, rfl⟩
theorem Dr.step {a w : World} (h : Dr a w) (n : Nat) : Dr a (w.drewN n) := by
  obtain ⟨m, rfl⟩ := h; exact ⟨_, World.drewN_drewN _ _ _⟩
theorem Dr.trans {a b c : World} (h : Dr a b) (k : Dr b c) : Dr a c := by
  obtain ⟨m, rfl⟩ := k; exact h.step m
theorem Dr.below {w w' : World} (h : Dr w w') (B : Nat) : Below B w w' := by
  obtain ⟨m, rfl⟩ := h; exact below_drewN (Below.refl _ _) m
theorem Dr.cell {w w' : World} (h : Dr w w') (a : Addr) : w'.cell? a = w.cell? a := by
  obtain ⟨m, rfl⟩ := h; rfl
theorem OrdAt.dr {w w' : World} {B n : Nat} {U D : Nat → Nat} (h : OrdAt w B n U D) (k : Dr w w') : OrdAt w' B n U D := h.kept (k.below _)

theorem has_is (x a : Nat) (hx : x < 256) (ha : a < 8) (r : Bool) (h : x.testBit a = r) (w : World) :
    Calls Tryz.prog 76 #[.int .u64 x, .int .i64 a] w fun e w' => e = .returned (.bool r) ∧ w' = w := by
  subst h; exact has_any x a hx ha w

set_option maxHeartbeats 400000 in
theorem join_any (B n : Nat) (U D : Nat → Nat) (la : Option Addr) (lb lo ll lc : Nat) (ls : Nat → Nat) (w : World)
    (hn : n ≤ 8) (ho : OrdAt w B n U D) (hU : ∀ i, i < 8 → U i < 256)
    (hla : 0 < ll → la = some ⟨lb, lo, none⟩) (hll : ll ≤ 8) (hls : ∀ j, j < ll → ls j < 8) (hcl : ∀ j, j < ll → w.cell? ⟨lb, lo + j, none⟩ = some (.int .i64 (ls j))) :
    Calls Tryz.prog 77 #[.pointer (some ⟨B, 0, none⟩), .slice la ll lc] w fun e w' => e = .returned (.int .i64 (near U (andAll U ls ll (2 ^ n - 1)))) ∧ Dr w w' := by
  have h8 := all8_lt n hn
  go_enter Tryz.func77, Tryz.ntmps77
  go_wp2
  go_quiet ((first
    | (go_at_call 99; exact Calls.quiet_of_same (all_any B n hn _ ho.size))
    | (go_at_call 98; exact Calls.quiet_of (nearest_any _ B 1 U la lb lo ll lc ls _ h8 hU ho.up hla hll hls hcl))))
  go_wp2
  go_ret
  exact ⟨rfl, _, rfl⟩

set_option maxHeartbeats 400000 in
theorem meet_any (B n : Nat) (U D : Nat → Nat) (la : Option Addr) (lb lo ll lc : Nat) (ls : Nat → Nat) (w : World)
    (hn : n ≤ 8) (ho : OrdAt w B n U D) (hU : ∀ i, i < 8 → D i < 256)
    (hla : 0 < ll → la = some ⟨lb, lo, none⟩) (hll : ll ≤ 8) (hls : ∀ j, j < ll → ls j < 8) (hcl : ∀ j, j < ll → w.cell? ⟨lb, lo + j, none⟩ = some (.int .i64 (ls j))) :
    Calls Tryz.prog 78 #[.pointer (some ⟨B, 0, none⟩), .slice la ll lc] w fun e w' => e = .returned (.int .i64 (near D (andAll D ls ll (2 ^ n - 1)))) ∧ Dr w w' := by
  have h8 := all8_lt n hn
  go_enter Tryz.func78, Tryz.ntmps78
  go_wp2
  go_quiet ((first
    | (go_at_call 99; exact Calls.quiet_of_same (all_any B n hn _ ho.size))
    | (go_at_call 98; exact Calls.quiet_of (nearest_any _ B 9 D la lb lo ll lc ls _ h8 hU ho.dn hla hll hls hcl))))
  go_wp2
  go_ret
  exact ⟨rfl, _, rfl⟩

set_option maxHeartbeats 1000000 in
theorem partial_any (B n : Nat) (U D : Nat → Nat) (w : World) (hn : n ≤ 8) (ho : OrdAt w B n U D) (hU : ∀ i, i < 8 → U i < 256) (hD : ∀ i, i < 8 → D i < 256) :
    Calls Tryz.prog 47 #[.pointer (some ⟨B, 0, none⟩)] w fun e w' => e = .returned (.bool (partB n U D)) ∧ Dr w w' := by
  have c0 := ho.size
  go_enter Tryz.func47, Tryz.ntmps47
  go_wp2
  go_loopw [9] (fun i wr => ∃ k : Nat, k ≤ n ∧ i = .int .i64 k ∧ (∀ a, a < k → partRow n U D a = true) ∧ Dr w wr) (fun i _ => n - (intOf i).toNat)
  case atStart => exact ⟨0, Nat.zero_le _, rfl, fun _ h => absurd h (Nat.not_lt_zero _), Dr.refl _⟩
  case round =>
    obtain ⟨k, hk, rfl, hdone, hdr⟩ := hrel
    have HD : Hid (∀ a, a < k → partRow n U D a = true) := hdone
    clear hdone c0
    have ho1 := ho.dr hdr
    have c1 := ho1.size
    by_cases hlt : k < n
    · have g1 := ho1.up k (by omega)
      have g2 := ho1.dn k (by omega)
      have g3 := and_u8 _ _ (hU k (by omega)) (hD k (by omega))
      have g4 := shl8 k (by omega)
      have k8 : (k : Int) < 8 := by omega
      go_wp2
      go_quiet (fail)
      go_wp2
      · have t : (((U k &&& D k : Nat) : Int) != 2 ^ k) = true := by assumption
        go_ret
        exact ⟨ret_bool (part_no1 hlt t).symm, hdr.step _⟩
      · have t : (((U k &&& D k : Nat) : Int) != 2 ^ k) = false := by assumption
        have T : Hid ((((U k &&& D k : Nat) : Int) != 2 ^ k) = false) := t
        clear t g3 g4 g1 g2 c1
        go_loopw [32] (fun i w2 => ∃ j : Nat, j ≤ n ∧ i = .int .i64 j ∧ (∀ b, b < j → (U k).testBit b = true → U b &&& U k = U b) ∧ Dr w w2) (fun i _ => n - (intOf i).toNat)
        case atStart => exact ⟨0, Nat.zero_le _, rfl, fun _ h => absurd h (Nat.not_lt_zero _), hdr.step _⟩
        case round =>
          obtain ⟨j, hj, rfl, hdone2, hdr2⟩ := hrel
          have HD2 : Hid (∀ b, b < j → (U k).testBit b = true → U b &&& U k = U b) := hdone2
          clear hdone2
          have ho2 := ho.dr hdr2
          have c2 := ho2.size
          by_cases hj8 : j < n
          · have f1 := ho2.up j (by omega)
            have f2 := ho2.up k (by omega)
            have f3 := andNot_ne (U j) (U k) (hU j (by omega)) (hU k (by omega))
            have f4 := hU k (by omega)
            have j8 : (j : Int) < 8 := by omega
            cases hbit : (U k).testBit j
            · go_wp2
              go_quiet ((go_at_call 76; exact Calls.quiet_of_same (has_is (U k) j f4 (by omega) _ hbit _)))
              go_wp2
              go_roundw
              case rel =>
                refine ⟨j + 1, by omega, by go_num, fun b hb hbb => ?_, hdr2.step _⟩
                rcases Nat.lt_succ_iff_lt_or_eq.1 hb with h | h
                · exact HD2.out b h hbb
                · subst h; rw [hbit] at hbb; exact Bool.noConfusion hbb
              case measure => simp [intOf]; omega
            · go_wp2
              go_quiet ((go_at_call 76; exact Calls.quiet_of_same (has_is (U k) j f4 (by omega) _ hbit _)))
              go_wp2
              · have t : (!U j &&& U k == U j) = true := by assumption
                go_ret
                exact ⟨ret_bool (part_no2 hlt hj8 hbit (by simpa using t)).symm, hdr2.step _⟩
              · have t : (!U j &&& U k == U j) = false := by assumption
                go_roundw
                case rel =>
                  refine ⟨j + 1, by omega, by go_num, fun b hb hbb => ?_, hdr2.step _⟩
                  rcases Nat.lt_succ_iff_lt_or_eq.1 hb with h | h
                  · exact HD2.out b h hbb
                  · subst h; simpa using t
                case measure => simp [intOf]; omega
          · have e : j = n := by omega
            subst e
            go_wp2
            go_roundw
            case rel =>
              refine ⟨k + 1, by omega, by go_num, fun a ha => ?_, hdr2⟩
              rcases Nat.lt_succ_iff_lt_or_eq.1 ha with h | h
              · exact HD.out a h
              · subst h; exact part_row T.out HD2.out
            case measure => simp [intOf]; omega
    · have e : k = n := by omega
      subst e
      go_wp2
      go_ret
      exact ⟨ret_bool (part_yes HD.out).symm, hdr⟩

theorem join2_any (B n : Nat) (U D : Nat → Nat) (lb a b : Nat) (w : World) (hn : n ≤ 8) (ho : OrdAt w B n U D) (hU : ∀ i, i < 8 → U i < 256) (ha : a < 8) (hb : b < 8)
    (h0 : w.cell? ⟨lb, 0, none⟩ = some (.int .i64 a)) (h1 : w.cell? ⟨lb, 1, none⟩ = some (.int .i64 b)) :
    Calls Tryz.prog 77 #[.pointer (some ⟨B, 0, none⟩), .slice (some ⟨lb, 0, none⟩) 2 2] w fun e w' => e = .returned (.int .i64 (near2 n U a b)) ∧ Dr w w' := by
  refine join_any B n U D _ lb 0 2 2 (pairL a b) w hn ho hU (fun _ => rfl) (by omega) ?_ ?_
  · intro j _; unfold pairL; split <;> assumption
  · intro j hj
    match j, hj with
    | 0, _ => exact h0
    | 1, _ => exact h1

theorem meet2_any (B n : Nat) (U D : Nat → Nat) (lb a b : Nat) (w : World) (hn : n ≤ 8) (ho : OrdAt w B n U D) (hU : ∀ i, i < 8 → D i < 256) (ha : a < 8) (hb : b < 8)
    (h0 : w.cell? ⟨lb, 0, none⟩ = some (.int .i64 a)) (h1 : w.cell? ⟨lb, 1, none⟩ = some (.int .i64 b)) :
    Calls Tryz.prog 78 #[.pointer (some ⟨B, 0, none⟩), .slice (some ⟨lb, 0, none⟩) 2 2] w fun e w' => e = .returned (.int .i64 (near2 n D a b)) ∧ Dr w w' := by
  refine meet_any B n U D _ lb 0 2 2 (pairL a b) w hn ho hU (fun _ => rfl) (by omega) ?_ ?_
  · intro j _; unfold pairL; split <;> assumption
  · intro j hj
    match j, hj with
    | 0, _ => exact h0
    | 1, _ => exact h1

theorem join0_any (B n : Nat) (U D : Nat → Nat) (lc : Nat) (w : World) (hn : n ≤ 8) (ho : OrdAt w B n U D) (hU : ∀ i, i < 8 → U i < 256) :
    Calls Tryz.prog 77 #[.pointer (some ⟨B, 0, none⟩), .slice none 0 lc] w fun e w' => e = .returned (.int .i64 (near U (2 ^ n - 1))) ∧ Dr w w' :=
  join_any B n U D _ 0 0 0 lc (fun _ => 0) w hn ho hU (fun h => absurd h (Nat.lt_irrefl _)) (by omega) (fun _ h => absurd h (Nat.not_lt_zero _)) (fun _ h => absurd h (Nat.not_lt_zero _))

theorem meet0_any (B n : Nat) (U D : Nat → Nat) (lc : Nat) (w : World) (hn : n ≤ 8) (ho : OrdAt w B n U D) (hU : ∀ i, i < 8 → D i < 256) :
    Calls Tryz.prog 78 #[.pointer (some ⟨B, 0, none⟩), .slice none 0 lc] w fun e w' => e = .returned (.int .i64 (near D (2 ^ n - 1))) ∧ Dr w w' :=
  meet_any B n U D _ 0 0 0 lc (fun _ => 0) w hn ho hU (fun h => absurd h (Nat.lt_irrefl _)) (by omega) (fun _ h => absurd h (Nat.not_lt_zero _)) (fun _ h => absurd h (Nat.not_lt_zero _))

theorem cells2 (w : World) (u v : Value) (t : TypeId) : (w.alloc (.cells #[u, v] t)).cell? ⟨w.heap.size, 0, none⟩ = some u ∧ (w.alloc (.cells #[u, v] t)).cell? ⟨w.heap.size, 1, none⟩ = some v := by
  constructor <;> simp

end Go.Proofs.YtmajlfocfjcgmaaGreatDoor

/- What the arguments of layer 1 read as: a list of names, a table of truths; both stay where nothing old is written. -/
namespace Go.Proofs.YtmajlfocfjcgmaaGreatDoor
open Go.RowKit

/-- A []string in memory. -/
structure Strs where
  ao : Option Addr
  b : Nat
  o : Nat
  len : Nat
  cap : Nat
  s : Nat → ByteArray

structure Strs.At (g : Strs) (w : World) : Prop where
  lc : g.len ≤ g.cap
  nil : 0 < g.len → g.ao = some ⟨g.b, g.o, none⟩
  bound : g.len ≤ 9223372036854775807
  cell : ∀ i, i < g.len → w.cell? ⟨g.b, g.o + i, none⟩ = some (.string (g.s i))
  sz : ∀ i, i < g.len → (g.s i).size ≤ 9223372036854775807

/-- A [][]bool in memory. -/
structure Grid where
  ao : Option Addr
  gb : Nat
  go : Nat
  len : Nat
  cap : Nat
  A : Nat → Option Addr
  L : Nat → Nat
  C : Nat → Nat
  AB : Nat → Nat
  AO : Nat → Nat
  B : Nat → Nat → Bool

structure Grid.At (g : Grid) (w : World) : Prop where
  lc : g.len ≤ g.cap
  nil : 0 < g.len → g.ao = some ⟨g.gb, g.go, none⟩
  bound : g.len ≤ 9223372036854775807
  lbound : ∀ r, r < g.len → g.L r ≤ 9223372036854775807
  row : ∀ r, r < g.len → w.cell? ⟨g.gb, g.go + r, none⟩ = some (.slice (g.A r) (g.L r) (g.C r))
  adr : ∀ r, r < g.len → 0 < g.L r → g.A r = some ⟨g.AB r, g.AO r, none⟩
  cell : ∀ r, r < g.len → ∀ c, c < g.L r → w.cell? ⟨g.AB r, g.AO r + c, none⟩ = some (.bool (g.B r c))

theorem Strs.At.kept {g : Strs} {w w' : World} (h : g.At w) (hb : Below w.heap.size w w') : g.At w' :=
  ⟨h.lc, h.nil, h.bound, fun i hi => (hb.cell (p := ⟨g.b, g.o + i, none⟩) (cell_lt (h.cell i hi))).trans (h.cell i hi), h.sz⟩

theorem Grid.At.kept {g : Grid} {w w' : World} (h : g.At w) (hb : Below w.heap.size w w') : g.At w' :=
  ⟨h.lc, h.nil, h.bound, h.lbound, fun i hi => (hb.cell (p := ⟨g.gb, g.go + i, none⟩) (cell_lt (h.row i hi))).trans (h.row i hi), h.adr,
    fun r hr c hc => (hb.cell (p := ⟨g.AB r, g.AO r + c, none⟩) (cell_lt (h.cell r hr c hc))).trans (h.cell r hr c hc)⟩

/-- What the table says, within it. -/
def Grid.le (g : Grid) (a b : Nat) : Bool := decide (a < g.len) && (decide (b < g.L a) && g.B a b)

/-- A block that is an order, and may be written. -/
structure OrdOwn (w : World) (B n : Nat) (U D : Nat → Nat) : Prop where
  at' : OrdAt w B n U D
  free : ∀ i, i < 17 → w.frozen? ⟨B, i, none⟩ = false

end Go.Proofs.YtmajlfocfjcgmaaGreatDoor

/- The walk of layer 1's Name. -/
namespace Go.Proofs.YtmajlfocfjcgmaaGreatDoor
open Go.RowKit

/-- No name goes on so. -/
def badRune (n : Nat) (r : Int) : Bool := n == 16 || (!letterB r && (n == 0 || !digitB r))
/-- Name, from a place on, n runes being read; at most 'fuel' runes more. -/
def nameFrom (s : ByteArray) : Nat → Nat → Nat → Bool
  | 0, _, _ => false
  | f + 1, pos, n => if pos < s.size then (if badRune n (Utf8.decode s pos).1 then false else nameFrom s f (pos + (Utf8.decode s pos).2) (n + 1)) else decide (0 < n)
def nameB (s : ByteArray) : Bool := nameFrom s 17 0 0

theorem nameFrom_bad {s : ByteArray} {pos n : Nat} (hn : n ≤ 16) (hp : pos < s.size) (h : badRune n (Utf8.decode s pos).1 = true) : nameFrom s (17 - n) pos n = false := by
  obtain ⟨m, hm⟩ : ∃ m, 17 - n = m + 1 := ⟨16 - n, by omega⟩
  rw [hm, nameFrom, if_pos hp, h]; rfl
theorem nameFrom_good {s : ByteArray} {pos n : Nat} (hn : n ≤ 16) (hp : pos < s.size) (h : badRune n (Utf8.decode s pos).1 = false) : nameFrom s (17 - n) pos n = nameFrom s (17 - (n + 1)) (pos + (Utf8.decode s pos).2) (n + 1) := by
  obtain ⟨m, hm⟩ : ∃ m, 17 - n = m + 1 := ⟨16 - n, by omega⟩
  rw [hm, nameFrom, if_pos hp, h, show 17 - (n + 1) = m by omega]; rfl
theorem nameFrom_end {s : ByteArray} {pos n : Nat} (hn : n ≤ 16) (hp : ¬ pos < s.size) : nameFrom s (17 - n) pos n = decide (0 < n) := by
  obtain ⟨m, hm⟩ : ∃ m, 17 - n = m + 1 := ⟨16 - n, by omega⟩
  rw [hm, nameFrom, if_neg hp]

set_option maxHeartbeats 1000000 in
theorem name_any (s : ByteArray) (w : World) :
    Calls Tryz.prog 74 #[.string s] w fun e w' => e = .returned (.bool (nameB s)) ∧ Below w.heap.size w w' := by
  go_enter Tryz.func74, Tryz.ntmps74
  go_wp2
  go_loopw [3] (fun t wr => ∃ n pos : Nat, n ≤ 16 ∧ t = .int .i64 n ∧ nameB s = nameFrom s (17 - n) pos n ∧ wr = w.iter s pos) (fun t _ => 17 - (intOf t).toNat)
  case atStart => exact ⟨0, 0, by omega, rfl, rfl, rfl⟩
  case round =>
    obtain ⟨n, pos, hn, rfl, hname, rfl⟩ := hrel
    have HN : Hid (nameB s = nameFrom s (17 - n) pos n) := hname
    clear hname
    have hbl : Below w.heap.size w (w.iter s pos) := (Below.refl _ _).alloc (Nat.le_refl _) _
    by_cases hlt : pos < s.size
    · have hnx := fun ty => run_next_any (P := Tryz.prog) w s pos ty hlt
      have hbl2 : Below w.heap.size w (w.iter s (pos + (Utf8.decode s pos).2)) := (Below.refl _ _).alloc (Nat.le_refl _) _
      have FB : Hid (badRune n (Utf8.decode s pos).1 = true → nameB s = false) := fun h => HN.out.trans (nameFrom_bad hn hlt h)
      have FG : Hid (badRune n (Utf8.decode s pos).1 = false → nameB s = nameFrom s (17 - (n + 1)) (pos + (Utf8.decode s pos).2) (n + 1)) := fun h => HN.out.trans (nameFrom_good hn hlt h)
      clear HN
      by_cases h16 : n = 16
      · subst h16
        go_wp2
        go_ret
        exact ⟨ret_bool (FB.out rfl).symm, hbl2⟩
      · have hb16 : ((n : Int) == 16) = false := beq_eq_false_iff_ne.2 (by omega)
        have hb16' : (n == 16) = false := beq_eq_false_iff_ne.2 h16
        have HB : Hid ((n == 16) = false) := hb16'
        clear hb16'
        go_wp2_with (first
          | (go_at_call 95; refine (letter_any _ _).mono ?_; rintro e w' ⟨rfl, rfl⟩)
          | (go_at_call 96; refine (digit_any _ _).mono ?_; rintro e w' ⟨rfl, rfl⟩))
        · have t1 : letterB (Utf8.decode s pos).1 = true := by assumption
          go_roundw
          case rel => exact ⟨n + 1, _, by omega, by go_num, FG.out (by simp [badRune, HB.out, t1]), rfl⟩
          case measure => simp [intOf]; omega
        · have t1 : ¬ letterB (Utf8.decode s pos).1 = true := by assumption
          have t2 : n = 0 := by assumption
          go_ret
          exact ⟨ret_bool (FB.out (by simp [badRune, t1, t2])).symm, hbl2⟩
        · have t1 : ¬ letterB (Utf8.decode s pos).1 = true := by assumption
          have t2 : ¬ n = 0 := by assumption
          have t3 : ((n : Int) == 0) = true ∨ (!digitB (Utf8.decode s pos).1) = true := by assumption
          go_ret
          refine ⟨ret_bool (FB.out ?_).symm, hbl2⟩
          rcases t3 with t3 | t3
          · exact absurd (by simpa using t3) t2
          · simp [badRune, t1, t3]
        · have t1 : ¬ letterB (Utf8.decode s pos).1 = true := by assumption
          have t2 : ¬ n = 0 := by assumption
          have t3 : ((n : Int) == 0) = false ∧ (!digitB (Utf8.decode s pos).1) = false := by assumption
          have t4 : digitB (Utf8.decode s pos).1 = true := by simpa using t3.2
          go_roundw
          case rel => exact ⟨n + 1, _, by omega, by go_num, FG.out (by simp [badRune, HB.out, t4, beq_eq_false_iff_ne.2 t2]), rfl⟩
          case measure => simp [intOf]; omega
    · have hnx := fun ty => run_next_end (P := Tryz.prog) w s pos ty hlt
      go_wp2
      go_ret
      exact ⟨ret_bool (HN.out.trans (nameFrom_end hn hlt)).symm, hbl⟩
end Go.Proofs.YtmajlfocfjcgmaaGreatDoor

/- The walk of layer 1's orderOf. -/
namespace Go.Proofs.YtmajlfocfjcgmaaGreatDoor
open Go.RowKit

/-- What has been gone through. -/
def seen (k j a b : Nat) : Bool := decide (a < k) || (a == k && decide (b < j))
def upTo (g : Grid) (k j a : Nat) : Nat := mask 8 (fun b => g.le a b && seen k j a b)
def dnTo (g : Grid) (k j b : Nat) : Nat := mask 8 (fun a => g.le a b && seen k j a b)

theorem upTo_lt (g : Grid) (k j a : Nat) : upTo g k j a < 256 := mask8_lt _
theorem dnTo_lt (g : Grid) (k j b : Nat) : dnTo g k j b < 256 := mask8_lt _

theorem upTo_no (g : Grid) (k j a : Nat) (h : g.le k j = false) : upTo g k (j + 1) a = upTo g k j a := by
  refine mask_congr 8 _ _ fun b _ => ?_
  by_cases ha : a = k
  · subst ha
    by_cases hb : b = j
    · subst hb; simp [h]
    · simp [seen, show (b < j + 1) = (b < j) by simp; omega]
  · simp [seen, beq_eq_false_iff_ne.2 ha]
theorem dnTo_no (g : Grid) (k j b : Nat) (h : g.le k j = false) : dnTo g k (j + 1) b = dnTo g k j b := by
  refine mask_congr 8 _ _ fun a _ => ?_
  by_cases ha : a = k
  · subst ha
    by_cases hb : b = j
    · subst hb; simp [h]
    · simp [seen, show (b < j + 1) = (b < j) by simp; omega]
  · simp [seen, beq_eq_false_iff_ne.2 ha]
theorem upTo_yes (g : Grid) (k j a : Nat) (hj : j < 8) (h : g.le k j = true) : upTo g k (j + 1) a = if a = k then upTo g k j k ||| 2 ^ j else upTo g k j a := by
  by_cases ha : a = k
  · subst ha
    rw [if_pos rfl]
    unfold upTo
    rw [mask_or _ _ hj]
    refine mask_congr 8 _ _ fun b _ => ?_
    by_cases hb : b = j
    · subst hb; simp [h, seen]
    · simp [seen, beq_eq_false_iff_ne.2 hb, show (b < j + 1) = (b < j) by simp; omega]
  · rw [if_neg ha]
    exact mask_congr 8 _ _ fun b _ => by simp [seen, beq_eq_false_iff_ne.2 ha]
theorem dnTo_yes (g : Grid) (k j b : Nat) (hk : k < 8) (h : g.le k j = true) : dnTo g k (j + 1) b = if b = j then dnTo g k j j ||| 2 ^ k else dnTo g k j b := by
  by_cases hb : b = j
  · subst hb
    rw [if_pos rfl]
    unfold dnTo
    rw [mask_or _ _ hk]
    refine mask_congr 8 _ _ fun a _ => ?_
    by_cases ha : a = k
    · subst ha; simp [h, seen]
    · simp [seen, beq_eq_false_iff_ne.2 ha]
  · rw [if_neg hb]
    exact mask_congr 8 _ _ fun a _ => by simp [seen, show (b < j + 1) = (b < j) by simp; omega]
theorem upTo_row (g : Grid) (k a : Nat) : upTo g k (g.L k) a = upTo g (k + 1) 0 a := by
  refine mask_congr 8 _ _ fun b _ => ?_
  by_cases ha : a = k
  · subst ha
    by_cases hb : b < g.L a
    · simp [seen, hb]
    · simp [Grid.le, hb]
  · simp [seen, beq_eq_false_iff_ne.2 ha, show (a < k + 1) = (a < k) by simp; omega]
theorem dnTo_row (g : Grid) (k b : Nat) : dnTo g k (g.L k) b = dnTo g (k + 1) 0 b := by
  refine mask_congr 8 _ _ fun a _ => ?_
  by_cases ha : a = k
  · subst ha
    by_cases hb : b < g.L a
    · simp [seen, hb]
    · simp [Grid.le, hb]
  · simp [seen, beq_eq_false_iff_ne.2 ha, show (a < k + 1) = (a < k) by simp; omega]

theorem mask_none (n : Nat) : mask n (fun _ => false) = 0 := by
  induction n with
  | zero => rfl
  | succ n ih => simp [mask, ih]
theorem upTo_start (g : Grid) (a : Nat) : upTo g 0 0 a = 0 := by
  unfold upTo; rw [mask_congr 8 _ (fun _ => false) (fun b _ => by simp [seen]), mask_none]
theorem dnTo_start (g : Grid) (b : Nat) : dnTo g 0 0 b = 0 := by
  unfold dnTo; rw [mask_congr 8 _ (fun _ => false) (fun b _ => by simp [seen]), mask_none]

theorem OrdOwn.congr {w : World} {B n : Nat} {U D U' D' : Nat → Nat} (h : OrdOwn w B n U D) (hU : ∀ i, U' i = U i) (hD : ∀ i, D' i = D i) : OrdOwn w B n U' D' :=
  ⟨⟨h.at'.size, fun i hi => by rw [hU]; exact h.at'.up i hi, fun i hi => by rw [hD]; exact h.at'.dn i hi⟩, h.free⟩

theorem OrdOwn.set {w : World} {B n : Nat} {U D U' D' : Nat → Nat} (h : OrdOwn w B n U D) {k j x y : Nat} {p q : Int} (hk : k < 8) (hj : j < 8) (hp : p = x) (hq : q = y)
    (hU : ∀ i, U' i = if i = k then x else U i) (hD : ∀ i, D' i = if i = j then y else D i) :
    OrdOwn ((w.setCell ⟨B, 1 + k, none⟩ (.int .u64 p)).setCell ⟨B, 9 + j, none⟩ (.int .u64 q)).drew.drew B n U' D' := by
  subst hp hq
  refine ⟨⟨?_, fun i hi => ?_, fun i hi => ?_⟩, fun i hi => ?_⟩
  · show ((w.setCell ⟨B, 1 + k, none⟩ _).setCell ⟨B, 9 + j, none⟩ _).cell? _ = _
    rw [World.cell?_setCell_other _ _ _ _ (by simp <;> omega), World.cell?_setCell_other _ _ _ _ (by simp <;> omega)]
    exact h.at'.size
  · show ((w.setCell ⟨B, 1 + k, none⟩ _).setCell ⟨B, 9 + j, none⟩ _).cell? _ = _
    rw [World.cell?_setCell_other _ _ _ _ (by simp <;> omega), hU]
    by_cases e : i = k
    · subst e; rw [if_pos rfl]; exact World.cell?_setCell_same _ _ _ (h.at'.up i hi)
    · rw [if_neg e, World.cell?_setCell_other _ _ _ _ (by simp <;> omega)]; exact h.at'.up i hi
  · show ((w.setCell ⟨B, 1 + k, none⟩ _).setCell ⟨B, 9 + j, none⟩ _).cell? _ = _
    rw [hD]
    have hh : (w.setCell ⟨B, 1 + k, none⟩ (.int .u64 x)).cell? ⟨B, 9 + i, none⟩ = some (.int .u64 (D i)) := by
      rw [World.cell?_setCell_other _ _ _ _ (by simp <;> omega)]; exact h.at'.dn i hi
    by_cases e : i = j
    · subst e; rw [if_pos rfl]; exact World.cell?_setCell_same _ _ _ hh
    · rw [if_neg e, World.cell?_setCell_other _ _ _ _ (by simp <;> omega)]; exact hh
  · show ((w.setCell ⟨B, 1 + k, none⟩ _).setCell ⟨B, 9 + j, none⟩ _).frozen? _ = _
    rw [World.frozen?_setCell, World.frozen?_setCell]; exact h.free i hi

theorem OrdOwn.start (w : World) (n : Nat) (t : TypeId) : OrdOwn (w.alloc (.cells #[.int .i64 n, .int .u64 0, .int .u64 0, .int .u64 0, .int .u64 0, .int .u64 0, .int .u64 0, .int .u64 0, .int .u64 0, .int .u64 0, .int .u64 0, .int .u64 0, .int .u64 0, .int .u64 0, .int .u64 0, .int .u64 0, .int .u64 0] t)) w.heap.size n (fun _ => 0) (fun _ => 0) := by
  refine ⟨⟨by simp, fun i hi => ?_, fun i hi => ?_⟩, fun i hi => by simp⟩
  · match i, hi with
    | 0, _ | 1, _ | 2, _ | 3, _ | 4, _ | 5, _ | 6, _ | 7, _ => simp
  · match i, hi with
    | 0, _ | 1, _ | 2, _ | 3, _ | 4, _ | 5, _ | 6, _ | 7, _ => simp

theorem or_pow (x j : Nat) (hx : x < 256) (hj : j < 8) : bits .or .u64 (x : Int) (2 ^ j) = ((x ||| 2 ^ j : Nat) : Int) := by
  have hp : (2 : Nat) ^ j ≤ 2 ^ 7 := Nat.pow_le_pow_right (by omega) (by omega)
  have hc : ((2 : Int) ^ j) = ((2 ^ j : Nat) : Int) := by simp
  rw [hc, or_u8 _ _ hx (by omega)]

theorem le_at (g : Grid) {k j : Nat} (hk : k < g.len) (hj : j < g.L k) {r : Bool} (h : g.B k j = r) : g.le k j = r := by simp [Grid.le, hk, hj, h]

set_option maxHeartbeats 1000000 in
theorem orderOf_any (g : Grid) (w : World) (hg : g.At w) (h8 : g.len ≤ 8) (hL : ∀ r, r < g.len → g.L r ≤ 8) :
    Calls Tryz.prog 46 #[.slice g.ao g.len g.cap] w fun e w' => e = .returned (.pointer (some ⟨w.heap.size, 0, none⟩)) ∧ OrdAt w' w.heap.size g.len (upTo g g.len 0) (dnTo g g.len 0) ∧ Below w.heap.size w w' := by
  go_enter Tryz.func46, Tryz.ntmps46
  go_wp2
  go_loopw [14] (fun i wr => ∃ k : Nat, k ≤ g.len ∧ i = .int .i64 k ∧ OrdOwn wr w.heap.size g.len (upTo g k 0) (dnTo g k 0) ∧ Below w.heap.size w wr) (fun i _ => g.len - (intOf i).toNat)
  case atStart =>
    exact ⟨0, Nat.zero_le _, rfl, (OrdOwn.start w g.len _).congr (upTo_start g) (dnTo_start g), (Below.refl _ _).alloc (Nat.le_refl _) _⟩
  case round =>
    obtain ⟨k, hk, rfl, hown, hbl⟩ := hrel
    have HO : Hid (OrdOwn wr w.heap.size g.len (upTo g k 0) (dnTo g k 0)) := hown
    clear hown
    have hg1 := (hg.kept hbl)
    by_cases hlt : k < g.len
    · have r1 := hg1.row k hlt
      have r2 := hg1.nil (by omega)
      have L8 := hL k hlt
      go_wp2
      go_loopw [21] (fun i wr => ∃ j : Nat, j ≤ g.L k ∧ i = .int .i64 j ∧ OrdOwn wr w.heap.size g.len (upTo g k j) (dnTo g k j) ∧ Below w.heap.size w wr) (fun i _ => g.L k - (intOf i).toNat)
      case atStart => exact ⟨0, Nat.zero_le _, rfl, HO.out, hbl⟩
      case round =>
        obtain ⟨j, hj, rfl, hown2, hbl2⟩ := hrel
        clear HO r1 hg1
        have hg2 := (hg.kept hbl2)
        by_cases hjl : j < g.L k
        · have a1 := hg2.adr k hlt (by omega)
          have a2 := hg2.cell k hlt j hjl
          have u1 := hown2.at'.up k (by omega)
          have d1 := hown2.at'.dn j (by omega)
          have f1 := hown2.free (1 + k) (by omega)
          have f2 := hown2.free (9 + j) (by omega)
          have HO2 : Hid (OrdOwn wr w.heap.size g.len (upTo g k j) (dnTo g k j)) := hown2
          have k8 : (k : Int) < 8 := by omega
          have j8 : (j : Int) < 8 := by omega
          have s1 := shl8 k (by omega)
          have s2 := shl8 j (by omega)
          clear hown2 hg2 r2
          cases hbit : g.B k j
          · go_wp2
            go_roundw
            case rel => exact ⟨j + 1, by omega, by go_num, HO2.out.congr (fun a => upTo_no g k j a (le_at g hlt hjl hbit)) (fun a => dnTo_no g k j a (le_at g hlt hjl hbit)), hbl2⟩
            case measure => simp [intOf]; omega
          · go_wp2
            go_region
            go_wp2
            go_region
            go_wp2
            go_roundw
            case rel =>
              exact ⟨j + 1, by omega, by go_num, HO2.out.set (by omega) (by omega) (or_pow _ _ (upTo_lt _ _ _ _) (by omega)) (or_pow _ _ (dnTo_lt _ _ _ _) (by omega)) (fun a => upTo_yes g k j a (by omega) (le_at g hlt hjl hbit)) (fun a => dnTo_yes g k j a (by omega) (le_at g hlt hjl hbit)),
                (((hbl2.setCell (Nat.le_refl _) _).setCell (Nat.le_refl _) _).drew).drew⟩
            case measure => simp [intOf]; omega
        · have e : j = g.L k := by omega
          subst e
          have HO2 : Hid (OrdOwn wr w.heap.size g.len (upTo g k (g.L k)) (dnTo g k (g.L k))) := hown2
          clear hown2
          go_wp2
          go_roundw
          case rel => exact ⟨k + 1, by omega, by go_num, HO2.out.congr (fun a => (upTo_row g k a).symm) (fun a => (dnTo_row g k a).symm), hbl2⟩
          case measure => simp [intOf]; omega
    · have e : k = g.len := by omega
      have HO3 : Hid (OrdAt wr w.heap.size g.len (upTo g g.len 0) (dnTo g g.len 0)) := by rw [← e]; exact e ▸ HO.out.at'
      clear HO
      go_wp2
      go_ret
      exact ⟨rfl, HO3.out, hbl⟩
end Go.Proofs.YtmajlfocfjcgmaaGreatDoor

/- The walk of layer 1's bounded. -/
namespace Go.Proofs.YtmajlfocfjcgmaaGreatDoor
open Go.RowKit

set_option maxHeartbeats 1000000 in
theorem bounded_any (B n : Nat) (U D : Nat → Nat) (w : World) (hn : n ≤ 8) (ho : OrdAt w B n U D) (hU : ∀ i, i < 8 → U i < 256) (hD : ∀ i, i < 8 → D i < 256) :
    Calls Tryz.prog 48 #[.pointer (some ⟨B, 0, none⟩)] w fun e w' => e = .returned (.bool (bddB n U D)) ∧ Below w.heap.size w w' := by
  have c0 := ho.size
  go_enter Tryz.func48, Tryz.ntmps48
  go_wp2
  go_loopw [9] (fun i wr => ∃ k : Nat, k ≤ n ∧ i = .int .i64 k ∧ (∀ a, a < k → ∀ b, b < a → okPair n U D a b = true) ∧ Below w.heap.size w wr) (fun i _ => n - (intOf i).toNat)
  case atStart => exact ⟨0, Nat.zero_le _, rfl, fun _ h => absurd h (Nat.not_lt_zero _), Below.refl _ _⟩
  case round =>
    obtain ⟨k, hk, rfl, hdone, hbl⟩ := hrel
    have HD : Hid (∀ a, a < k → ∀ b, b < a → okPair n U D a b = true) := hdone
    clear hdone c0
    by_cases hlt : k < n
    · go_wp2
      go_loopw [13] (fun i w2 => ∃ j : Nat, j ≤ k ∧ i = .int .i64 j ∧ (∀ b, b < j → okPair n U D k b = true) ∧ Below w.heap.size w w2) (fun i _ => k - (intOf i).toNat)
      case atStart => exact ⟨0, Nat.zero_le _, rfl, fun _ h => absurd h (Nat.not_lt_zero _), hbl⟩
      case round =>
        obtain ⟨j, hj, rfl, hdone2, hbl2⟩ := hrel
        have HD2 : Hid (∀ b, b < j → okPair n U D k b = true) := hdone2
        clear hdone2
        have ho2 := ho.kept hbl2
        by_cases hjk : j < k
        · have A1 : OrdAt (wr.alloc (.cells #[.int .i64 k, .int .i64 j] 3)) B n U D := ho2.kept ((Below.refl _ _).alloc (Nat.le_refl _) _)
          have C1 := cells2 wr (.int .i64 k) (.int .i64 j) 3
          cases h1 : (near2 n U k j == -1)
          · go_wp2_with fail
            refine (join2_any B n U D _ k j _ hn A1 hU (by omega) (by omega) C1.1 C1.2).mono ?_
            rintro e w3 ⟨rfl, hdr3⟩
            have hbl3 : Below w.heap.size w w3 := (hbl2.alloc hbl2.size _).trans (hdr3.below _)
            have ho3 := ho.kept hbl3
            clear hdr3 A1 C1
            have A2 : OrdAt (w3.alloc (.cells #[.int .i64 k, .int .i64 j] 3)) B n U D := ho3.kept ((Below.refl _ _).alloc (Nat.le_refl _) _)
            have C2 := cells2 w3 (.int .i64 k) (.int .i64 j) 3
            go_wp2_with fail
            refine (meet2_any B n U D _ k j _ hn A2 hD (by omega) (by omega) C2.1 C2.2).mono ?_
            rintro e w4 ⟨rfl, hdr4⟩
            have hbl4 : Below w.heap.size w w4 := (hbl3.alloc hbl3.size _).trans (hdr4.below _)
            clear hdr4 A2 C2
            cases h2 : (near2 n D k j == -1)
            · go_wp2
              go_roundw
              case rel =>
                refine ⟨j + 1, by omega, by go_num, fun b hb => ?_, hbl4⟩
                rcases Nat.lt_succ_iff_lt_or_eq.1 hb with h | h
                · exact HD2.out b h
                · subst h; simp [okPair, bne, h1, h2]
              case measure => simp [intOf]; omega
            · go_wp2
              go_ret
              exact ⟨ret_bool (bdd_no hlt hjk (by simp [okPair, bne, h2])).symm, hbl4⟩
          · go_wp2_with fail
            refine (join2_any B n U D _ k j _ hn A1 hU (by omega) (by omega) C1.1 C1.2).mono ?_
            rintro e w3 ⟨rfl, hdr3⟩
            have hbl3 : Below w.heap.size w w3 := (hbl2.alloc hbl2.size _).trans (hdr3.below _)
            clear hdr3 A1 C1
            go_wp2
            go_ret
            exact ⟨ret_bool (bdd_no hlt hjk (by simp [okPair, bne, h1])).symm, hbl3⟩
        · have e : j = k := by omega
          subst e
          go_wp2
          go_roundw
          case rel =>
            refine ⟨j + 1, by omega, by go_num, fun a ha b hb => ?_, hbl2⟩
            rcases Nat.lt_succ_iff_lt_or_eq.1 ha with h | h
            · exact HD.out a h b hb
            · subst h; exact HD2.out b hb
          case measure => simp [intOf]; omega
    · have e : k = n := by omega
      subst e
      go_wp2
      go_ret
      exact ⟨ret_bool (bdd_yes HD.out).symm, hbl⟩
end Go.Proofs.YtmajlfocfjcgmaaGreatDoor

/- The walks of layer 1's square, namesFormed (with slices.Contains, slices.Index) and Formed. -/
namespace Go.Proofs.YtmajlfocfjcgmaaGreatDoor
open Go.RowKit

def squareB (g : Grid) (n : Nat) : Bool := (g.len == n) && decide (∀ r, r < g.len → g.L r = n)
/-- Index: the first place from i on, or -1. -/
def idxFrom (s : Nat → ByteArray) (v : ByteArray) : Nat → Nat → Int
  | 0, _ => -1
  | k + 1, i => if v.toList == (s i).toList then i else idxFrom s v k (i + 1)
def holdsB (s : Nat → ByteArray) (n : Nat) (v : ByteArray) : Bool := decide (∃ i, i < n ∧ (v.toList == (s i).toList) = true)
def namesB (g : Strs) : Bool := decide (0 < g.len ∧ g.len ≤ 8) && decide (∀ i, i < g.len → (nameB (g.s i) && !holdsB g.s i (g.s i)) = true)

set_option maxHeartbeats 400000 in
theorem square_any (g : Grid) (n : Nat) (w : World) (hg : g.At w) :
    Calls Tryz.prog 45 #[.slice g.ao g.len g.cap, .int .i64 n] w fun e w' => e = .returned (.bool (squareB g n)) ∧ w' = w := by
  have hb := hg.bound
  go_enter Tryz.func45, Tryz.ntmps45
  by_cases hl : g.len = n
  · have hbne : ((g.len : Int) != n) = false := by simp [hl]
    have HL : Hid (g.len = n) := hl
    clear hl
    go_wp2
    go_loop [13] (fun i => ∃ k : Nat, k ≤ g.len ∧ i = .int .i64 k ∧ ∀ r, r < k → g.L r = n) (fun i => g.len - (intOf i).toNat)
    case atStart => exact ⟨0, Nat.zero_le _, rfl, fun _ h => absurd h (Nat.not_lt_zero _)⟩
    case round =>
      obtain ⟨k, hk, rfl, hdone⟩ := hrel
      have HD : Hid (∀ r, r < k → g.L r = n) := hdone
      clear hdone
      by_cases hlt : k < g.len
      · have r1 := hg.row k hlt
        have r2 := hg.nil (by omega)
        have r3 := hg.lbound k hlt
        go_wp2
        · have t : ((g.L k : Int) != n) = true := by assumption
          go_ret
          refine ⟨ret_bool (Eq.symm ?_), rfl⟩
          unfold squareB
          rw [Bool.and_eq_false_iff]
          right
          rw [decide_eq_false_iff_not]
          intro hh
          rw [hh k hlt] at t
          simp at t
        · have t : ((g.L k : Int) != n) = false := by assumption
          go_round
          case rel =>
            refine ⟨k + 1, by omega, by go_num, fun r hr => ?_⟩
            rcases Nat.lt_succ_iff_lt_or_eq.1 hr with h | h
            · exact HD.out r h
            · subst h
              have t' : ((g.L r : Int)) = n := by simpa using t
              omega
          case measure => simp [intOf]; omega
      · have e : k = g.len := by omega
        have HE : Hid (k = g.len) := e
        clear e
        go_wp2
        go_ret
        refine ⟨ret_bool (Eq.symm ?_), rfl⟩
        unfold squareB
        rw [HL.out]
        simp
        intro r hr
        exact HD.out r (by have := HE.out; have := HL.out; omega)
  · have hbne : ((g.len : Int) != n) = true := by rw [bne_iff_ne]; omega
    go_wp2
    go_ret
    exact ⟨ret_bool (by simp [squareB, beq_eq_false_iff_ne.2 hl]), rfl⟩

set_option maxHeartbeats 400000 in
theorem index_any (g : Strs) (n cap : Nat) (v : ByteArray) (w : World) (hg : g.At w) (hn : n ≤ g.len) (ao : Option Addr) (hao : 0 < n → ao = some ⟨g.b, g.o, none⟩) :
    Calls Tryz.prog 97 #[.slice ao n cap, .string v] w fun e w' => e = .returned (.int .i64 (idxFrom g.s v n 0)) ∧ w' = w := by
  have hb := hg.bound
  go_enter Tryz.func97, Tryz.ntmps97
  go_wp2
  go_loop [8] (fun i => ∃ k : Nat, k ≤ n ∧ i = .int .i64 k ∧ idxFrom g.s v n 0 = idxFrom g.s v (n - k) k) (fun i => n - (intOf i).toNat)
  case atStart => exact ⟨0, Nat.zero_le _, rfl, rfl⟩
  case round =>
    obtain ⟨k, hk, rfl, hdone⟩ := hrel
    have HD : Hid (idxFrom g.s v n 0 = idxFrom g.s v (n - k) k) := hdone
    clear hdone
    by_cases hlt : k < n
    · have r1 := hg.cell k (by omega)
      have r2 := hao (by omega)
      go_wp2
      · have t : (v.toList == (g.s k).toList) = true := by assumption
        go_ret
        refine ⟨ret_int ?_, rfl⟩
        rw [HD.out]
        obtain ⟨m, hm⟩ : ∃ m, n - k = m + 1 := ⟨n - k - 1, by omega⟩
        rw [hm, idxFrom, t]; rfl
      · have t : (v.toList == (g.s k).toList) = false := by assumption
        go_round
        case rel =>
          refine ⟨k + 1, by omega, by go_num, ?_⟩
          rw [HD.out]
          obtain ⟨m, hm⟩ : ∃ m, n - k = m + 1 := ⟨n - k - 1, by omega⟩
          rw [hm, idxFrom, t, show n - (k + 1) = m by omega]; rfl
        case measure => simp [intOf]; omega
    · have e : n - k = 0 := by omega
      have HE : Hid (n - k = 0) := e
      clear e
      go_wp2
      go_ret
      exact ⟨ret_int (by rw [HD.out, HE.out]; rfl), rfl⟩

theorem idx_nonneg (s : Nat → ByteArray) (v : ByteArray) : ∀ (k i : Nat), 0 ≤ idxFrom s v k i ↔ ∃ j, i ≤ j ∧ j < i + k ∧ (v.toList == (s j).toList) = true
  | 0, i => by
    simp only [idxFrom]
    constructor
    · intro h; omega
    · rintro ⟨j, h1, h2, _⟩; omega
  | k + 1, i => by
    simp only [idxFrom]
    by_cases h : (v.toList == (s i).toList) = true
    · rw [if_pos h]
      constructor
      · intro _; exact ⟨i, by omega, by omega, h⟩
      · intro _; omega
    · rw [if_neg h, idx_nonneg s v k (i + 1)]
      constructor
      · rintro ⟨j, h1, h2, h3⟩; exact ⟨j, by omega, by omega, h3⟩
      · rintro ⟨j, h1, h2, h3⟩
        by_cases e : j = i
        · subst e; exact absurd h3 h
        · exact ⟨j, by omega, by omega, h3⟩

theorem holds_idx (s : Nat → ByteArray) (n : Nat) (v : ByteArray) : decide (0 ≤ idxFrom s v n 0) = holdsB s n v := by
  unfold holdsB
  rw [decide_eq_decide, idx_nonneg]
  constructor
  · rintro ⟨j, _, h2, h3⟩; exact ⟨j, by omega, h3⟩
  · rintro ⟨j, h2, h3⟩; exact ⟨j, by omega, by omega, h3⟩

set_option maxHeartbeats 400000 in
theorem contains_any (g : Strs) (n cap : Nat) (v : ByteArray) (w : World) (hg : g.At w) (hn : n ≤ g.len) (ao : Option Addr) (hao : 0 < n → ao = some ⟨g.b, g.o, none⟩) :
    Calls Tryz.prog 75 #[.slice ao n cap, .string v] w fun e w' => e = .returned (.bool (holdsB g.s n v)) ∧ w' = w := by
  have H : Hid (decide (0 ≤ idxFrom g.s v n 0) = holdsB g.s n v) := holds_idx g.s n v
  go_enter Tryz.func75, Tryz.ntmps75
  go_wp2_with (go_at_call 97; refine (index_any g n cap v _ hg hn ao hao).mono ?_; rintro e w' ⟨rfl, rfl⟩)
  go_ret
  exact ⟨ret_bool H.out, rfl⟩

set_option maxHeartbeats 1000000 in
theorem namesFormed_any (g : Strs) (w : World) (hg : g.At w) :
    Calls Tryz.prog 44 #[.slice g.ao g.len g.cap] w fun e w' => e = .returned (.bool (namesB g)) ∧ Below w.heap.size w w' := by
  have hb := hg.bound
  by_cases h0 : g.len = 0
  · have e1 : ((g.len : Int) == 0) = true := by simp [h0]
    have HF : Hid (namesB g = false) := by show namesB g = false; simp [namesB, h0]
    clear h0
    go_enter Tryz.func44, Tryz.ntmps44
    go_wp2
    go_ret
    exact ⟨ret_bool HF.out.symm, Below.refl _ _⟩
  have e1 : ((g.len : Int) == 0) = false := beq_eq_false_iff_ne.2 (by omega)
  by_cases h8 : g.len ≤ 8
  · rw [hg.nil (by omega)]
    go_enter Tryz.func44, Tryz.ntmps44
    go_wp2
    go_loopw [15] (fun i wr => ∃ k : Nat, k ≤ g.len ∧ i = .int .i64 k ∧ (∀ i, i < k → (nameB (g.s i) && !holdsB g.s i (g.s i)) = true) ∧ Below w.heap.size w wr) (fun i _ => g.len - (intOf i).toNat)
    case atStart => exact ⟨0, Nat.zero_le _, rfl, fun _ h => absurd h (Nat.not_lt_zero _), Below.refl _ _⟩
    case round =>
      obtain ⟨k, hk, rfl, hdone, hbl⟩ := hrel
      have HD : Hid (∀ i, i < k → (nameB (g.s i) && !holdsB g.s i (g.s i)) = true) := hdone
      clear hdone
      have hg1 := hg.kept hbl
      by_cases hlt : k < g.len
      · have r1 := hg1.cell k hlt
        go_wp2_with fail
        refine (name_any _ _).mono ?_
        rintro e w1 ⟨rfl, hb1⟩
        have hbl1 : Below w.heap.size w w1 := hbl.trans (hb1.mono hbl.size)
        have hg2 := hg.kept hbl1
        clear hb1 r1
        cases hnm : nameB (g.s k)
        · go_wp2
          go_ret
          refine ⟨ret_bool (Eq.symm ?_), hbl1⟩
          unfold namesB
          rw [Bool.and_eq_false_iff]
          right
          rw [decide_eq_false_iff_not]
          intro hh
          have := hh k hlt
          simp [hnm] at this
        · have hkc : k ≤ g.cap := by have := hg.lc; omega
          go_wp2_with fail
          refine (contains_any g k g.cap (g.s k) _ hg2 (by omega) _ (fun _ => rfl)).mono ?_
          rintro e w2 ⟨rfl, rfl⟩
          cases hh : holdsB g.s k (g.s k)
          · go_wp2
            go_roundw
            case rel =>
              refine ⟨k + 1, by omega, by go_num, fun i hi => ?_, hbl1⟩
              rcases Nat.lt_succ_iff_lt_or_eq.1 hi with h | h
              · exact HD.out i h
              · subst h; rw [hnm, hh]; rfl
            case measure => simp [intOf]; omega
          · go_wp2
            go_ret
            refine ⟨ret_bool (Eq.symm ?_), hbl1⟩
            unfold namesB
            rw [Bool.and_eq_false_iff]
            right
            rw [decide_eq_false_iff_not]
            intro hq
            have := hq k hlt
            simp [hnm, hh] at this
      · have e : k = g.len := by omega
        have HE : Hid (k = g.len) := e
        clear e
        go_wp2
        go_ret
        refine ⟨ret_bool (Eq.symm ?_), hbl⟩
        unfold namesB
        rw [Bool.and_eq_true, decide_eq_true_eq, decide_eq_true_eq]
        exact ⟨⟨by omega, h8⟩, fun i hi => HD.out i (by have := HE.out; omega)⟩
  · have e2 : decide (8 < (g.len : Int)) = true := by simp; omega
    go_enter Tryz.func44, Tryz.ntmps44
    go_wp2
    go_ret
    exact ⟨ret_bool (by simp [namesB, h8]), Below.refl _ _⟩
end Go.Proofs.YtmajlfocfjcgmaaGreatDoor
