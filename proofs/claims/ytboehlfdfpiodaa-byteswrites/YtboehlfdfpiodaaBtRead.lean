/- Layer 4: the walks of the reader's calls. -/
import Derived.Test.YtboehlfdfpiodaaBtWrite
import Derived.Laws.BytesString
namespace Go.Proofs.Ytboehlfdfpiodaa
open Go.RowKit

/-- The reader in block p has st, in row g: none, if it has failed. -/
def Rd (w : World) (p g : Nat) : Option (List Nat) → Prop
  | none => w.heap[p]? = some (.cells #[.slice none 0 0, .bool true] 49 (0, 0))
  | some l => ∃ X : Bys, X.b = g ∧ X.At w ∧ X.l = l ∧ w.heap[p]? = some (.cells #[.slice X.ao X.len X.cap, .bool false] 49 (0, 0))

theorem Rd.lt {w : World} {p g : Nat} {st : Option (List Nat)} (h : Rd w p g st) : p < w.heap.size := by
  cases st with
  | none => exact heap_lt h
  | some l => obtain ⟨X, _, _, _, h⟩ := h; exact heap_lt h
theorem Rd.gb {w w' : World} {p g q : Nat} {st : Option (List Nat)} (h : Rd w p g st) (hb : w.grownBy w' (some q)) (hp : p ≠ q) (hg : g ≠ q) : Rd w' p g st := by
  have hl := h.lt
  cases st with
  | none => exact (hb.block p hl (fun e => hp (by injection e))).trans h
  | some l =>
    obtain ⟨X, h1, h2, h3, h4⟩ := h
    exact ⟨X, h1, h2.gb hb (by rw [h1]; exact hg), h3, (hb.block p hl (fun e => hp (by injection e))).trans h4⟩
theorem Rd.bel {w w' : World} {p g : Nat} {st : Option (List Nat)} (h : Rd w p g st) (hb : Below w.heap.size w w') : Rd w' p g st := by
  have hl := h.lt
  cases st with
  | none => exact (hb.block p hl).trans h
  | some l =>
    obtain ⟨X, h1, h2, h3, h4⟩ := h
    exact ⟨X, h1, h2.kept hb, h3, (hb.block p hl).trans h4⟩

theorem blk2 {w : World} {p : Nat} {u v : Value} {T : TypeId} (h : w.heap[p]? = some (.cells #[u, v] T (0, 0))) : w.cell? ⟨p, 0, none⟩ = some u ∧ w.cell? ⟨p, 1, none⟩ = some v ∧ w.frozen? ⟨p, 0, none⟩ = false ∧ w.frozen? ⟨p, 1, none⟩ = false := by
  simp [World.cell?, World.frozen?, h]
theorem blk2_set0 {w : World} {p : Nat} {u v x : Value} {T : TypeId} (h : w.heap[p]? = some (.cells #[u, v] T (0, 0))) : (w.setCell ⟨p, 0, none⟩ x).heap[p]? = some (.cells #[x, v] T (0, 0)) := by
  simp [World.setCell, Array.getElem?_modify, h]
theorem blk2_set1 {w : World} {p : Nat} {u v x : Value} {T : TypeId} (h : w.heap[p]? = some (.cells #[u, v] T (0, 0))) : (w.setCell ⟨p, 1, none⟩ x).heap[p]? = some (.cells #[u, x] T (0, 0)) := by
  simp [World.setCell, Array.getElem?_modify, h]

set_option maxHeartbeats 1000000 in
theorem failed_cell (p : Nat) (b : Bool) (u : Value) (w : World) (h : w.heap[p]? = some (.cells #[u, .bool b] 49 (0, 0))) :
    Calls Try.prog 28 #[.pointer (some ⟨p, 0, none⟩)] w fun e w' => e = .returned (.bool b) ∧ w' = w := by
  obtain ⟨_, c1, _, _⟩ := blk2 h
  clear h
  go_enter Try.func28, Try.ntmps28
  go_wp2
  go_ret
  exact ⟨rfl, rfl⟩
theorem failed_any (p g : Nat) (st : Option (List Nat)) (w : World) (h : Rd w p g st) :
    Calls Try.prog 28 #[.pointer (some ⟨p, 0, none⟩)] w fun e w' => e = .returned (.bool st.isNone) ∧ w' = w := by
  cases st with
  | none => exact failed_cell p true _ w h
  | some l => obtain ⟨X, _, _, _, h⟩ := h; exact failed_cell p false _ w h
set_option maxHeartbeats 1000000 in
theorem failed_nil (w : World) : Calls Try.prog 28 #[.pointer none] w fun e w' => e = .returned (.bool true) ∧ w' = w := by
  go_enter Try.func28, Try.ntmps28
  go_wp2
  go_ret
  exact ⟨rfl, rfl⟩

set_option maxHeartbeats 1000000 in
theorem fail_any (p : Nat) (u v : Value) (w : World) (h : w.heap[p]? = some (.cells #[u, v] 49 (0, 0))) :
    Calls Try.prog 36 #[.pointer (some ⟨p, 0, none⟩)] w fun e w' => e = .returned (.tuple #[]) ∧ w'.heap[p]? = some (.cells #[.slice none 0 0, .bool true] 49 (0, 0)) ∧ w.grownBy w' (some p) := by
  obtain ⟨c0, c1, f0, f1⟩ := blk2 h
  have H : Hid (w.heap[p]? = some (.cells #[u, v] 49 (0, 0))) := h
  clear h
  go_enter Try.func36, Try.ntmps36
  go_wp2
  go_end0
  exact ⟨rfl, blk2_set1 (blk2_set0 H.out), gb_set (gb_set (gb_refl _ _) _ _) _ _⟩

/-- What is behind the first s bytes. -/
theorem drop_l (X : Bys) (s : Nat) (ao : Option Addr) (c : Nat) (h : s ≤ X.len) : (⟨ao, X.b, X.o + s, X.len - s, c, fun i => X.f (s + i)⟩ : Bys).l = X.l.drop s := by
  unfold Bys.l
  dsimp only
  have e : X.len = s + (X.len - s) := by omega
  conv => rhs; rw [e, range_split, List.drop_left' (by simp)]
theorem take_l (X : Bys) (s : Nat) (ao : Option Addr) (c : Nat) (h : s ≤ X.len) : (⟨ao, X.b, X.o, s, c, X.f⟩ : Bys).l = X.l.take s := by
  unfold Bys.l
  dsimp only
  have e : X.len = s + (X.len - s) := by omega
  conv => rhs; rw [e, range_split, List.take_left' (by simp)]

/-- What take answers: the bytes, in row g. -/
def Took (w : World) (g : Nat) (v : Value) (l : List Nat) : Prop := ∃ Y : Bys, v = .slice Y.ao Y.len Y.cap ∧ Y.At w ∧ Y.l = l ∧ (0 < Y.len → Y.b = g)

set_option maxHeartbeats 1000000 in
theorem take_no (p g s : Nat) (w : World) (h : Rd w p g none) :
    Calls Try.prog 34 #[.pointer (some ⟨p, 0, none⟩), .int .i64 s] w fun e w' => e = .returned (.slice none 0 0) ∧ w' = w := by
  have h' : Hid (Rd w p g none) := h
  clear h
  go_enter Try.func34, Try.ntmps34
  go_wp2_with (go_at_call 28; refine (failed_any p g none w h'.out).mono ?_; rintro e w1 ⟨rfl, rfl⟩)
  go_ret
  exact ⟨rfl, rfl⟩
set_option maxHeartbeats 1000000 in
theorem take_nil (s : Int) (w : World) :
    Calls Try.prog 34 #[.pointer none, .int .i64 s] w fun e w' => e = .returned (.slice none 0 0) ∧ w' = w := by
  go_enter Try.func34, Try.ntmps34
  go_wp2_with (go_at_call 28; refine (failed_nil w).mono ?_; rintro e w1 ⟨rfl, rfl⟩)
  go_ret
  exact ⟨rfl, rfl⟩
set_option maxHeartbeats 1000000 in
theorem take_short (p g s : Nat) (X : Bys) (w : World) (hX : X.At w) (h : w.heap[p]? = some (.cells #[.slice X.ao X.len X.cap, .bool false] 49 (0, 0))) (hs : X.len < s) :
    Calls Try.prog 34 #[.pointer (some ⟨p, 0, none⟩), .int .i64 s] w fun e w' => e = .returned (.slice none 0 0) ∧ Rd w' p g none ∧ w.grownBy w' (some p) := by
  obtain ⟨c0, c1, f0, f1⟩ := blk2 h
  have H : Hid (w.heap[p]? = some (.cells #[.slice X.ao X.len X.cap, .bool false] 49 (0, 0))) := h
  have hb := hX.bound
  have hlc := hX.lc
  clear h hX
  go_enter Try.func34, Try.ntmps34
  go_wp2_with (first
    | (go_at_call 28; refine (failed_cell p false _ w H.out).mono ?_; rintro e w1 ⟨rfl, rfl⟩)
    | (go_at_call 36; refine (fail_any p _ _ _ H.out).mono ?_; rintro e w2 ⟨rfl, h2, hg2⟩; have H2 : Hid (Rd w2 p g none) := h2; clear h2))
  go_ret
  exact ⟨rfl, H2.out, hg2⟩
theorem take_end {p g s c : Nat} {X : Bys} {w : World} {ao : Option Addr} (hX : X.At w) (hg : X.b = g) (hp : g ≠ p) (h : w.heap[p]? = some (.cells #[.slice X.ao X.len X.cap, .bool false] 49 (0, 0))) (hs : s ≤ X.len)
    (h1 : s < X.len → ao = some ⟨g, X.o + s, none⟩) (h2 : ao = none → c = 0) (h3 : X.len - s ≤ c) (h4 : c ≤ 9223372036854775807) :
    Took (w.setCell ⟨p, 0, none⟩ (.slice ao (X.len - s) c)) g (.slice X.ao s X.cap) (X.l.take s) ∧ Rd (w.setCell ⟨p, 0, none⟩ (.slice ao (X.len - s) c)) p g (some (X.l.drop s)) ∧ w.grownBy (w.setCell ⟨p, 0, none⟩ (.slice ao (X.len - s) c)) (some p) := by
  have hgb := gb_set (gb_refl w (some p)) 0 (.slice ao (X.len - s) c)
  have hX' := hX.gb hgb (by rw [hg]; exact hp)
  refine ⟨⟨⟨X.ao, X.b, X.o, s, X.cap, X.f⟩, rfl, ⟨Nat.le_trans hs hX.lc, fun h0 => hX.nil (Nat.lt_of_lt_of_le h0 hs), hX.none, hX.bound, fun i hi => hX'.cell i (Nat.lt_of_lt_of_le hi hs), fun i hi => hX.lt i (Nat.lt_of_lt_of_le hi hs)⟩, take_l X s _ _ hs, fun _ => hg⟩,
    ⟨⟨ao, X.b, X.o + s, X.len - s, c, fun i => X.f (s + i)⟩, hg, ⟨h3, fun h0 => ?_, h2, h4, fun i hi => ?_, fun i hi => ?_⟩, drop_l X s _ _ hs, blk2_set0 h⟩, hgb⟩
  · have h0' : 0 < X.len - s := h0
    rw [h1 (by omega), hg]
  · have hi' : i < X.len - s := hi
    have := hX'.cell (s + i) (by omega)
    rw [← Nat.add_assoc] at this
    exact this
  · have hi' : i < X.len - s := hi
    exact hX.lt (s + i) (by omega)

set_option maxHeartbeats 1000000 in
theorem take_yes (p g s : Nat) (X : Bys) (w : World) (hX : X.At w) (hg : X.b = g) (hp : g ≠ p) (h : w.heap[p]? = some (.cells #[.slice X.ao X.len X.cap, .bool false] 49 (0, 0))) (hs : s ≤ X.len) :
    Calls Try.prog 34 #[.pointer (some ⟨p, 0, none⟩), .int .i64 s] w fun e w' => ∃ v, e = .returned v ∧ Took w' g v (X.l.take s) ∧ Rd w' p g (some (X.l.drop s)) ∧ w.grownBy w' (some p) := by
  obtain ⟨c0, c1, f0, f1⟩ := blk2 h
  have H : Hid (w.heap[p]? = some (.cells #[.slice X.ao X.len X.cap, .bool false] 49 (0, 0))) := h
  have HX : Hid (X.At w) := hX
  have hb := hX.bound
  have hlc := hX.lc
  have HG : Hid (X.b = g) := hg
  clear h hX hg
  go_enter Try.func34, Try.ntmps34
  go_wp2_with (first
    | (go_at_call 28; refine (failed_cell p false _ w H.out).mono ?_; rintro e w1 ⟨rfl, rfl⟩))
  · have hc : X.cap = s := by assumption
    have R := take_end (ao := X.ao) (c := 0) HX.out HG.out hp H.out hs (fun h => by omega) (fun _ => rfl) (by omega) (by omega)
    rw [hc] at R
    have HR : Hid _ := R
    clear R
    go_ret
    exact ⟨_, rfl, HR.out⟩
  · have R := take_end (ao := X.ao.map fun x => x.add s) (c := X.cap - s) HX.out HG.out hp H.out hs (fun h => by rw [HX.out.nil (by omega), HG.out]; exact congrArg some (addr_add _ _ _)) (fun h => by rw [HX.out.none (by cases hq : X.ao with | none => rfl | some a => rw [hq] at h; cases h)]; omega) (by omega) (by omega)
    have HR : Hid _ := R
    clear R
    go_ret
    exact ⟨_, rfl, HR.out⟩

theorem take_any (p g s : Nat) (st : Option (List Nat)) (w : World) (hp : g ≠ p) (h : Rd w p g st) :
    Calls Try.prog 34 #[.pointer (some ⟨p, 0, none⟩), .int .i64 s] w fun e w' => ∃ v, e = .returned v ∧ Took w' g v (tk s st) ∧ Rd w' p g (tkS s st) ∧ w.grownBy w' (some p) := by
  have nil_took : ∀ w', Took w' g (.slice none 0 0) [] := fun w' => ⟨⟨none, 0, 0, 0, 0, fun _ => 0⟩, rfl, ⟨Nat.le_refl _, fun h => absurd h (Nat.lt_irrefl _), fun _ => rfl, Nat.zero_le _, fun _ h => absurd h (Nat.not_lt_zero _), fun _ h => absurd h (Nat.not_lt_zero _)⟩, rfl, fun h => absurd h (Nat.lt_irrefl _)⟩
  cases st with
  | none =>
    refine (take_no p g s w h).mono ?_
    rintro e w' ⟨rfl, rfl⟩
    exact ⟨_, rfl, nil_took _, h, gb_refl _ _⟩
  | some l =>
    obtain ⟨X, hg, hX, rfl, hh⟩ := h
    unfold tk tkS
    simp only [X.len_l]
    by_cases hs : s ≤ X.len
    · simp only [if_pos hs]
      exact take_yes p g s X w hX hg hp hh hs
    · simp only [if_neg hs]
      refine (take_short p g s X w hX hh (by omega)).mono ?_
      rintro e w' ⟨rfl, h1, h2⟩
      exact ⟨_, rfl, nil_took _, h1, h2⟩

theorem or_high (x y : Int) (hy₀ : 0 ≤ y) (hy : y < 256) (hx₀ : 0 ≤ x) (hx : x % 256 = 0) (hx₁ : x < 18446744073709551616) : bits .or .u64 x y = x + y := by
  have h := u64_or8 (x := x) (y := y) hy₀ hy hx₀ hx hx₁
  have c : bits .or .u64 x y = bits .or .u64 y x := by
    show IntKind.u64.wrap ((BitVec.ofInt 64 x ||| BitVec.ofInt 64 y).toNat : Int) = IntKind.u64.wrap ((BitVec.ofInt 64 y ||| BitVec.ofInt 64 x).toNat : Int)
    rw [BitVec.or_comm]
  rw [c, h, Int.add_comm]

set_option maxHeartbeats 1000000 in
theorem get_any (Y : Bys) (w : World) (hY : Y.At w) (h8 : Y.len ≤ 8) :
    Calls Try.prog 33 #[.slice Y.ao Y.len Y.cap] w fun e w' => e = .returned (.int .u64 (val Y.l)) ∧ w' = w := by
  rw [show val Y.l = valF Y.f Y.len from val_range _ _]
  by_cases hz : Y.len = 0
  · rw [hz]
    go_enter Try.func33, Try.ntmps33
    go_wp2
    go_loop [3, 8] (fun n i => i = .int .i64 0 ∧ n = .int .u64 0) (fun _ _ => 0)
    case atStart => exact ⟨rfl, rfl⟩
    case round =>
      obtain ⟨rfl, rfl⟩ := hrel
      go_wp2
      go_ret
      exact ⟨rfl, rfl⟩
  rw [hY.nil (by omega)]
  have HY : Hid (Y.At w) := hY
  have hc := hY.cell
  have hlt := hY.lt
  clear hY
  go_enter Try.func33, Try.ntmps33
  go_wp2
  go_loop [3, 8] (fun n i => ∃ k : Nat, k ≤ Y.len ∧ i = .int .i64 k ∧ n = .int .u64 (valF Y.f k)) (fun _ i => Y.len - (intOf i).toNat)
  case atStart => exact ⟨0, Nat.zero_le _, rfl, rfl⟩
  case round =>
    obtain ⟨k, hk, rfl, rfl⟩ := hrel
    by_cases hlt2 : k < Y.len
    · have c1 := hc k hlt2
      have l1 := hlt k hlt2
      have HE : Hid (bits BinOp.or IntKind.u64 (IntKind.u64.wrap (↑(valF Y.f k) * 256)) ↑(Y.f k) = ((valF Y.f (k + 1) : Nat) : Int)) := by
        have h1 := valF_8 Y.f (k + 1) (by omega) (fun i hi => hlt i (by omega))
        have h2 : valF Y.f (k + 1) = valF Y.f k * 256 + Y.f k := rfl
        show _ = _
        rw [IntKind.wrap_u64, Int.emod_eq_of_lt (by omega) (by omega), or_high _ _ (by omega) (by omega) (by omega) (by omega) (by omega), h2]
        omega
      go_wp2
      go_round
      case rel => exact ⟨k + 1, by omega, by go_num, by rw [HE.out]⟩
      case measure => simp [intOf]; omega
    · have e : k = Y.len := by omega
      subst e
      go_wp2
      go_ret
      exact ⟨rfl, rfl⟩
end Go.Proofs.Ytboehlfdfpiodaa
