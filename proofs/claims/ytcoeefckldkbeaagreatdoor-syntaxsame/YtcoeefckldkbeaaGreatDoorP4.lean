/- The walk of layer 1's leastOrder. -/
import Derived.Test.YtcoeefckldkbeaaGreatDoorP3
import Derived.Deep.RegionWith
namespace Go.Proofs.YtcoeefckldkbeaaGreatDoor
open Go.RowKit

theorem Tryz.infoBool : (Tryz.prog.info? 4).map (fun i => (i.zero, i.size, i.bytes)) = some (some (.bool false), 1, 1) := by kernel_rfl
theorem Tryz.infoRow : (Tryz.prog.info? 144).map (fun i => (i.zero, i.size, i.bytes)) = some (some (.slice none 0 0), 1, 24) := by kernel_rfl

/-- The table that the call itself makes. -/
structure OwnG (w0 wr : World) (n : Nat) (M : Nat → Nat → Bool) : Prop where
  bl : Below w0.heap.size w0 wr
  top : wr.rowIs w0.heap.size 144 n (fun j => .slice (some ⟨w0.heap.size + 1 + j, 0, none⟩) n n)
  rows : ∀ j, j < n → wr.rowIs (w0.heap.size + 1 + j) 4 n (fun c => .bool (M j c))

def topTo (T n k : Nat) : Nat → Value := fun j => if j < k then .slice (some ⟨T + 1 + j, 0, none⟩) n n else .slice none 0 0
/-- .. when k of its rows are made. -/
structure MkG (w0 wr : World) (n k : Nat) : Prop where
  bl : Below w0.heap.size w0 wr
  size : wr.heap.size = w0.heap.size + 1 + k
  top : wr.rowIs w0.heap.size 144 n (topTo w0.heap.size n k)
  rows : ∀ j, j < k → wr.rowIs (w0.heap.size + 1 + j) 4 n (fun c => .bool (c == j))

theorem MkG.start (w : World) (n : Nat) : MkG w (w.alloc (.cells (madeCells #[.slice none 0 0] n) 144)) n 0 :=
  ⟨(Below.refl _ _).alloc (Nat.le_refl _) _, by simp, (World.rowIs_made w _ n 144).congr (fun j _ => by simp [topTo]), fun j hj => absurd hj (Nat.not_lt_zero _)⟩

theorem MkG.done {w wr : World} {n : Nat} (h : MkG w wr n n) : OwnG w wr n (fun r c => c == r) :=
  ⟨h.bl, h.top.congr (fun j hj => by simp [topTo, hj]), h.rows⟩

theorem MkG.step {w wr : World} {n k : Nat} (h : MkG w wr n k) (hk : k < n) :
    MkG w (((wr.alloc (.cells (madeCells #[.bool false] n) 4)).setCell ⟨w.heap.size, k, none⟩ (.slice (some ⟨wr.heap.size, 0, none⟩) n n)).setCell ⟨wr.heap.size, k, none⟩ (.bool true)) n (k + 1) := by
  have hs := h.size
  have hnew : ((wr.alloc (.cells (madeCells #[.bool false] n) 4)).setCell ⟨w.heap.size, k, none⟩ (.slice (some ⟨wr.heap.size, 0, none⟩) n n)).rowIs wr.heap.size 4 n (fun _ => .bool false) := (World.rowIs_made wr (.bool false) n 4).setOther (by show wr.heap.size ≠ w.heap.size; omega) _
  refine ⟨((h.bl.alloc h.bl.size _).setCell (Nat.le_refl _) _).setCell (by show w.heap.size ≤ wr.heap.size; omega) _, by simp [hs]; omega, ?_, fun j hj => ?_⟩
  · refine (((h.top.alloc _).set k _).setOther (by show w.heap.size ≠ wr.heap.size; omega) _).congr (fun j _ => ?_)
    simp only [topTo]
    by_cases e : j = k
    · subst e; simp [hs]
    · rw [if_neg e]
      by_cases hlt : j < k
      · rw [if_pos hlt, if_pos (by omega)]
      · rw [if_neg hlt, if_neg (by omega)]
  · by_cases e : j = k
    · subst e
      have h2 := hnew.set j (.bool true)
      rw [hs] at h2 ⊢
      refine h2.congr (fun c _ => ?_)
      by_cases e : c = j
      · subst e; simp
      · rw [if_neg e, beq_eq_false_iff_ne.2 e]
    · exact (((h.rows j (by omega)).alloc _).setOther (by show w.heap.size + 1 + j ≠ w.heap.size; omega) _).setOther (by show w.heap.size + 1 + j ≠ wr.heap.size; omega) _

theorem inR_nat {n : Nat} {a : Int} (h : inR n a = true) : ∃ k : Nat, a = k ∧ k < n := by
  unfold inR at h
  rw [Bool.and_eq_true, decide_eq_true_eq, decide_eq_true_eq] at h
  exact ⟨a.toNat, by omega, by omega⟩
theorem prs_in {g : Prs} {n m : Nat} (h : prsB g n = true) (hm : m < g.len) : (∃ x : Nat, g.x m = x ∧ x < n) ∧ ∃ y : Nat, g.y m = y ∧ y < n := by
  unfold prsB at h
  rw [decide_eq_true_eq] at h
  have := h m hm
  rw [Bool.and_eq_true] at this
  exact ⟨inR_nat this.1, inR_nat this.2⟩

def warStep (M : Nat → Nat → Bool) (b : Nat) : Nat → Nat → Bool := fun r c => M r c || (M r b && M b c)
def warPart (M : Nat → Nat → Bool) (b a : Nat) : Nat → Nat → Bool := fun r c => if r < a then warStep M b r c else M r c
def war (M : Nat → Nat → Bool) : Nat → Nat → Nat → Bool
  | 0 => M
  | k + 1 => warStep (war M k) k
def prsM (g : Prs) (k : Nat) : Nat → Nat → Bool := fun r c => (c == r) || decide (∃ i, i < k ∧ g.x i = r ∧ g.y i = c)
def leastM (g : Prs) (n : Nat) : Nat → Nat → Bool := war (prsM g g.len) n

theorem row_same (M : Nat → Nat → Bool) (b c : Nat) : warStep M b b c = M b c := by
  unfold warStep; cases M b c <;> simp

theorem OwnG.congr {w wr : World} {n : Nat} {M M' : Nat → Nat → Bool} (h : OwnG w wr n M) (e : ∀ r c, r < n → c < n → M r c = M' r c) : OwnG w wr n M' :=
  ⟨h.bl, h.top, fun j hj => (h.rows j hj).congr (fun c hc => by rw [e j c hj hc])⟩

theorem OwnG.pair {g : Prs} {w wr : World} {n m x y : Nat} (h : OwnG w wr n (prsM g m)) (hx : x < n) (e : g.x m = x ∧ g.y m = y) (o : Obj) :
    OwnG w ((wr.alloc o).setCell ⟨w.heap.size + 1 + x, y, none⟩ (.bool true)).drew n (prsM g (m + 1)) := by
  refine ⟨((h.bl.alloc h.bl.size _).setCell (by show w.heap.size ≤ w.heap.size + 1 + x; omega) _).drew, ((h.top.alloc _).setOther (by show w.heap.size ≠ w.heap.size + 1 + x; omega) _).drew, fun j hj => ?_⟩
  have hE : ∀ r c : Nat, prsM g (m + 1) r c = (prsM g m r c || (r == x && c == y)) := by
    intro r c
    unfold prsM
    rw [Bool.eq_iff_iff]
    simp only [Bool.or_eq_true, Bool.and_eq_true, decide_eq_true_eq, beq_iff_eq]
    constructor
    · rintro (h | ⟨i, hi, h1, h2⟩)
      · exact Or.inl (Or.inl h)
      · by_cases hi2 : i = m
        · subst hi2
          refine Or.inr ⟨?_, ?_⟩
          · have := e.1; omega
          · have := e.2; omega
        · exact Or.inl (Or.inr ⟨i, by omega, h1, h2⟩)
    · rintro ((h | ⟨i, hi, h1, h2⟩) | ⟨h1, h2⟩)
      · exact Or.inl h
      · exact Or.inr ⟨i, by omega, h1, h2⟩
      · exact Or.inr ⟨m, by omega, by rw [e.1, h1], by rw [e.2, h2]⟩
  by_cases ej : j = x
  · subst ej
    refine ((((h.rows j hj).alloc _).set y (.bool true)).congr (fun c _ => ?_)).drew
    rw [hE]
    by_cases ec : c = y
    · subst ec; simp
    · rw [if_neg ec, beq_eq_false_iff_ne.2 ec]; simp
  · refine ((((h.rows j hj).alloc _).setOther (by show w.heap.size + 1 + j ≠ w.heap.size + 1 + x; omega) _).congr (fun c _ => ?_)).drew
    rw [hE, beq_eq_false_iff_ne.2 ej]; simp

theorem warPart_other (M : Nat → Nat → Bool) (b a r c : Nat) (e : ¬ r = a) : warPart M b (a + 1) r c = warPart M b a r c := by
  unfold warPart
  by_cases h : r < a
  · rw [if_pos h, if_pos (by omega)]
  · rw [if_neg h, if_neg (by omega)]

theorem OwnG.add {w wr w' : World} {n a b : Nat} {M : Nat → Nat → Bool} (h : OwnG w wr n (warPart M b a)) (ha : a < n) (hM : M a b = true)
    (hrow : w'.rowIs (w.heap.size + 1 + a) 4 n (fun c => .bool (M a c || M b c))) (hw : Wrote wr w' (w.heap.size + 1 + a)) : OwnG w w' n (warPart M b (a + 1)) := by
  refine ⟨h.bl.trans ⟨hw.os, hw.tape, hw.output, Nat.le_of_eq hw.size.symm, fun k hk => hw.block k (by omega)⟩, h.top.of_block (hw.block _ (by omega)), fun j hj => ?_⟩
  by_cases e : j = a
  · subst e
    exact hrow.congr (fun c _ => by simp [warPart, warStep, hM])
  · exact ((h.rows j hj).of_block (hw.block _ (by omega))).congr (fun c _ => by rw [warPart_other M b a j c e])

theorem OwnG.skip {w wr : World} {n a b : Nat} {M : Nat → Nat → Bool} (h : OwnG w wr n (warPart M b a)) (hM : M a b = false) : OwnG w wr n (warPart M b (a + 1)) :=
  h.congr (fun r c _ _ => by
    by_cases e : r = a
    · subst e; simp [warPart, warStep, hM]
    · rw [warPart_other M b a r c e])

theorem warPart_row (M : Nat → Nat → Bool) (b a c : Nat) : warPart M b a b c = M b c := by
  unfold warPart; split
  · exact row_same M b c
  · rfl

theorem warPart_now (M : Nat → Nat → Bool) (b a c : Nat) : warPart M b a a c = M a c := by
  unfold warPart; rw [if_neg (Nat.lt_irrefl _)]

set_option maxHeartbeats 2000000 in
theorem leastOrder_any (g : Prs) (n : Nat) (w : World) (hg : g.At w) (hn : n ≤ 8) (hl : g.len ≤ 64) (hr : prsB g n = true) :
    Calls Tryz.prog 75 #[.int .i64 n, .slice g.ao g.len g.cap] w fun e w' => e = .returned (.slice (some ⟨w.heap.size, 0, none⟩) n n) ∧ OwnG w w' n (leastM g n) := by
  have hmk := run_make_row' (P := Tryz.prog) 33 144 (.slice none 0 0) 24 Tryz.underlying33 Tryz.infoRow rfl .i64 .i64 n (by omega) (by omega)
  go_enter Tryz.func75, Tryz.ntmps75
  go_wp2
  clear hmk
  go_loopw [15] (fun i wr => ∃ k : Nat, k ≤ n ∧ i = .int .i64 k ∧ MkG w wr n k) (fun i _ => n - (intOf i).toNat)
  case atStart => exact ⟨0, Nat.zero_le _, rfl, MkG.start w n⟩
  case round =>
    obtain ⟨k, hk, rfl, hM⟩ := hrel
    by_cases hlt : k < n
    · have hmk := run_make_row' (P := Tryz.prog) 144 4 (.bool false) 1 Tryz.underlying144 Tryz.infoBool rfl .i64 .i64 n (by omega) (by omega)
      have hst1 : ∀ o, (wr.alloc o).cell? ⟨w.heap.size, k, none⟩ = some (topTo w.heap.size n k k) := fun o => (hM.top.alloc o).cell hlt
      have hst2 : ∀ o, (wr.alloc o).frozen? ⟨w.heap.size, k, none⟩ = false := fun o => (hM.top.alloc o).frozen k
      have hnew : ∀ v, ((wr.alloc (.cells (madeCells #[.bool false] n) 4)).setCell ⟨w.heap.size, k, none⟩ v).rowIs wr.heap.size 4 n (fun _ => .bool false) := fun v => (World.rowIs_made wr (.bool false) n 4).setOther (by show wr.heap.size ≠ w.heap.size; have := hM.size; omega) _
      have hst3 := fun v => (hnew v).cell hlt
      have hst4 := fun v => (hnew v).frozen k
      have HM : Hid (MkG w wr n k) := hM
      clear hM hnew
      go_wp2
      go_roundw
      case rel => exact ⟨k + 1, by omega, by go_num, HM.out.step hlt⟩
      case measure => simp [intOf]; omega
    · have e : k = n := by omega
      subst e
      have hO : OwnG w wr k (prsM g 0) := hM.done.congr (fun r c _ _ => by simp [prsM])
      clear hM
      have HO : Hid (OwnG w wr k (prsM g 0)) := hO
      clear hO
      go_wp2
      go_loopw [32] (fun i wr => ∃ m : Nat, m ≤ g.len ∧ i = .int .i64 m ∧ OwnG w wr k (prsM g m)) (fun i _ => g.len - (intOf i).toNat)
      case atStart => exact ⟨0, Nat.zero_le _, rfl, HO.out⟩
      case round =>
        obtain ⟨m, hm, rfl, hO⟩ := hrel
        clear HO
        by_cases hlt2 : m < g.len
        · have hg1 := hg.kept hO.bl
          have r1 := hg1.fst m hlt2
          have r2 := hg1.snd m hlt2
          have r0 := hg1.nil (by omega)
          obtain ⟨⟨x, hx, hx1⟩, ⟨y, hy, hy1⟩⟩ := prs_in hr hlt2
          have HX : Hid (g.x m = x ∧ g.y m = y) := ⟨hx, hy⟩
          rw [hx] at r1
          rw [hy] at r2
          have t1 := fun o => (hO.top.alloc o).cell hx1
          have t2 := fun o => ((hO.rows x hx1).alloc o).cell hy1
          have t3 := fun o => ((hO.rows x hx1).alloc o).frozen y
          have HO : Hid (OwnG w wr k (prsM g m)) := hO
          have ix : (x : Int) < k := by omega
          have iy : (y : Int) < k := by omega
          clear hO hg1 hx hy
          go_wp2
          go_region
          go_wp2
          go_roundw
          case rel => exact ⟨m + 1, by omega, by go_num, HO.out.pair hx1 HX.out _⟩
          case measure => simp [intOf]; omega
        · have e : m = g.len := by omega
          subst e
          have HO : Hid (OwnG w wr k (war (prsM g g.len) 0)) := hO
          clear hO
          have HP : Hid (leastM g k = war (prsM g g.len) k) := rfl
          generalize prsM g g.len = M0 at HO HP
          go_wp2
          go_loopw [47] (fun i wr => ∃ b : Nat, b ≤ k ∧ i = .int .i64 b ∧ OwnG w wr k (war M0 b)) (fun i _ => k - (intOf i).toNat)
          case atStart => exact ⟨0, Nat.zero_le _, rfl, HO.out⟩
          case round =>
            obtain ⟨b, hb, rfl, hO⟩ := hrel
            clear HO
            by_cases hltb : b < k
            · have HO : Hid (OwnG w wr k (warPart (war M0 b) b 0)) := hO.congr (fun r c _ _ => by simp [warPart])
              clear hO
              go_wp2
              go_loopw [52] (fun i wr => ∃ a : Nat, a ≤ k ∧ i = .int .i64 a ∧ OwnG w wr k (warPart (war M0 b) b a)) (fun i _ => k - (intOf i).toNat)
              case atStart => exact ⟨0, Nat.zero_le _, rfl, HO.out⟩
              case round =>
                obtain ⟨a, ha, rfl, hO⟩ := hrel
                clear HO
                by_cases hlta : a < k
                · have t1 := hO.top.cell hlta
                  have t2 := hO.top.cell hltb
                  have t3 := (hO.rows a hlta).cell hltb
                  have ia : (a : Int) < k := by omega
                  have ib : (b : Int) < k := by omega
                  rw [warPart_now] at t3
                  have RA : Hid (wr.rowIs (w.heap.size + 1 + a) 4 k (fun c => .bool (war M0 b a c))) := (hO.rows a hlta).congr (fun c _ => by rw [warPart_now])
                  have RB : Hid (wr.rowIs (w.heap.size + 1 + b) 4 k (fun c => .bool (war M0 b b c))) := (hO.rows b hltb).congr (fun c _ => by rw [warPart_row])
                  have HO : Hid (OwnG w wr k (warPart (war M0 b) b a)) := hO
                  clear hO
                  cases hbit : war M0 b a b
                  · rw [hbit] at t3
                    go_wp2
                    go_roundw
                    case rel => exact ⟨a + 1, by omega, by go_num, HO.out.skip hbit⟩
                    case measure => simp [intOf]; omega
                  · rw [hbit] at t3
                    go_wp2
                    go_region_with (go_at_call 94; refine (addAll_any (w.heap.size + 1 + a) (w.heap.size + 1 + b) k (war M0 b a) (war M0 b b) _ hn ?_ ?_ ?_).mono ?_; exact RA.out.drew; exact RB.out.drew; (intro e c; rw [show a = b by omega]); rintro e w' ⟨rfl, hrow, hwr⟩)
                    all_goals
                      have hO2 := HO.out.add hlta hbit hrow ⟨hwr.os, hwr.tape, hwr.output, hwr.size, hwr.block⟩
                      have HO2 : Hid (OwnG w w' k (warPart (war M0 b) b (a + 1))) := hO2
                      clear hO2 hrow hwr t1 t2 t3
                      go_wp2
                      go_roundw
                      case rel => exact ⟨a + 1, by omega, by go_num, HO2.out⟩
                      case measure => simp [intOf]; omega
                · have e : a = k := by omega
                  subst e
                  have HO : Hid (OwnG w wr a (war M0 (b + 1))) := hO.congr (fun r c hr _ => by simp [warPart, hr, war])
                  clear hO
                  go_wp2
                  go_roundw
                  case rel => exact ⟨b + 1, by omega, by go_num, HO.out⟩
                  case measure => simp [intOf]; omega
            · have e : b = k := by omega
              subst e
              have HO : Hid (OwnG w wr b (leastM g b)) := by rw [HP.out]; exact hO
              clear hO
              go_wp2
              go_ret
              exact ⟨rfl, HO.out⟩
end Go.Proofs.YtcoeefckldkbeaaGreatDoor

/- The walk of layer 1's Make. -/
namespace Go.Proofs.YtcoeefckldkbeaaGreatDoor
open Go.RowKit

/-- A table at block T, its rows behind. -/
def gridOf (T n : Nat) (M : Nat → Nat → Bool) : Grid := ⟨some ⟨T, 0, none⟩, T, 0, n, n, fun j => some ⟨T + 1 + j, 0, none⟩, fun _ => n, fun _ => n, fun j => T + 1 + j, fun _ => 0, M⟩
theorem OwnG.at' {w wr : World} {n : Nat} {M : Nat → Nat → Bool} (h : OwnG w wr n M) (h8 : n ≤ 8) : (gridOf w.heap.size n M).At wr where
  lc := Nat.le_refl _
  nil := fun _ => rfl
  bound := by show n ≤ _; omega
  lbound := fun _ _ => by show n ≤ _; omega
  row := fun r hr => by
    show wr.cell? ⟨w.heap.size, 0 + r, none⟩ = _
    rw [Nat.zero_add]; exact h.top.cell hr
  adr := fun _ _ _ => rfl
  cell := fun r hr c hc => by
    show wr.cell? ⟨w.heap.size + 1 + r, 0 + c, none⟩ = _
    rw [Nat.zero_add]; exact (h.rows r hr).cell hc

/-- Formed, of names and truths alone. -/
def formedM (len : Nat) (s : Nat → ByteArray) (M : Nat → Nat → Bool) : Bool := formedB ⟨none, 0, 0, len, len, s⟩ (gridOf 0 len M)
theorem formed_canon {n : Strs} {T len : Nat} {s : Nat → ByteArray} {M : Nat → Nat → Bool} (h1 : n.len = len) (h2 : n.s = s) : formedB n (gridOf T len M) = formedM len s M := by
  obtain ⟨ao, b, o, l, c, s'⟩ := n
  simp only at h1 h2
  subst h1 h2
  rfl

/-- What Make answers: an error, or names and a table. -/
def makeE (n : Strs) (p : Prs) : Int := if 8 < n.len ∨ 64 < p.len then 1 else if prsB p n.len = false then 10 else if formedM n.len n.s (leastM p n.len) = false then 4 else 0

structure Made (n : Strs) (p : Prs) (e : Int) (n' : Strs) (g' : Grid) (w' : World) : Prop where
  er : e = makeE n p
  nat : n'.At w'
  gat : g'.At w'
  yes : e = 0 → n'.len = n.len ∧ n'.s = n.s ∧ ∃ T, g' = gridOf T n.len (leastM p n.len)
  no : e ≠ 0 → n'.len = 0 ∧ g'.len = 0

def noStrs : Strs := ⟨none, 0, 0, 0, 0, fun _ => ByteArray.empty⟩
def noGrid : Grid := ⟨none, 0, 0, 0, 0, fun _ => none, fun _ => 0, fun _ => 0, fun _ => 0, fun _ => 0, fun _ _ => false⟩
theorem noStrs_at (w : World) : noStrs.At w := ⟨Nat.le_refl _, fun h => absurd h (Nat.lt_irrefl _), Nat.zero_le _, fun _ h => absurd h (Nat.not_lt_zero _), fun _ h => absurd h (Nat.not_lt_zero _)⟩
theorem noGrid_at (w : World) : noGrid.At w := ⟨Nat.le_refl _, fun h => absurd h (Nat.lt_irrefl _), Nat.zero_le _, fun _ h => absurd h (Nat.not_lt_zero _), fun _ h => absurd h (Nat.not_lt_zero _), fun _ h => absurd h (Nat.not_lt_zero _), fun _ h => absurd h (Nat.not_lt_zero _)⟩

theorem clone_any (g : Strs) (w : World) (hg : g.At w) (h8 : g.len ≤ 8) (hs : g.ao = none ∨ g.ao = some ⟨g.b, g.o, none⟩) :
    Calls Tryz.prog 74 #[.slice g.ao g.len g.cap] w fun e w' => ∃ g' : Strs, e = .returned (.slice g'.ao g'.len g'.cap) ∧ g'.At w' ∧ g'.len = g.len ∧ g'.s = g.s ∧ Below w.heap.size w w' := by
  rcases hs with h | h
  · exact clone_nil g w hg h
  · exact clone_some g w hg h8 h

theorem makeE_1 {n : Strs} {p : Prs} (h : 8 < n.len ∨ 64 < p.len) : makeE n p = 1 := by unfold makeE; rw [if_pos h]
theorem makeE_10 {n : Strs} {p : Prs} (h : ¬ (8 < n.len ∨ 64 < p.len)) (h2 : prsB p n.len = false) : makeE n p = 10 := by unfold makeE; rw [if_neg h, if_pos h2]
theorem makeE_4 {n : Strs} {p : Prs} (h : ¬ (8 < n.len ∨ 64 < p.len)) (h2 : prsB p n.len = true) (h3 : formedM n.len n.s (leastM p n.len) = false) : makeE n p = 4 := by unfold makeE; rw [if_neg h, if_neg (by rw [h2]; simp), if_pos h3]
theorem makeE_0 {n : Strs} {p : Prs} (h : ¬ (8 < n.len ∨ 64 < p.len)) (h2 : prsB p n.len = true) (h3 : formedM n.len n.s (leastM p n.len) = true) : makeE n p = 0 := by unfold makeE; rw [if_neg h, if_neg (by rw [h2]; simp), if_neg (by rw [h3]; simp)]
theorem made_no {n : Strs} {p : Prs} {e : Int} (w : World) (h : makeE n p = e) (h0 : e ≠ 0) : Made n p e noStrs noGrid w := ⟨h.symm, noStrs_at w, noGrid_at w, fun h => absurd h h0, fun _ => ⟨rfl, rfl⟩⟩

theorem Strs.At.set {g : Strs} {w : World} (h : g.At w) {a : Addr} {p : Option Addr} {l c : Nat} (ha : w.cell? a = some (.slice p l c)) (v : Value) : g.At (w.setCell a v) :=
  ⟨h.lc, h.nil, h.bound, fun i hi => by
    have hc := h.cell i hi
    rw [World.cell?_setCell_other _ _ _ _ (fun e => by rw [← e, ha] at hc; cases hc)]
    exact hc, h.sz⟩
theorem gridOf_set {T n : Nat} {M : Nat → Nat → Bool} {w : World} (h : (gridOf T n M).At w) {a : Addr} (ha : a.block < T) (v : Value) : (gridOf T n M).At (w.setCell a v) where
  lc := h.lc
  nil := h.nil
  bound := h.bound
  lbound := h.lbound
  row := fun r hr => by
    rw [World.cell?_setCell_other _ _ _ _ (fun e => by have := congrArg Addr.block e; simp [gridOf] at this; omega)]
    exact h.row r hr
  adr := h.adr
  cell := fun r hr c hc => by
    rw [World.cell?_setCell_other _ _ _ _ (fun e => by have := congrArg Addr.block e; simp [gridOf] at this; omega)]
    exact h.cell r hr c hc
theorem below_set2 {w w1 : World} (h : Below w.heap.size w w1) (u v : Value) : Below w.heap.size w ((w1.setCell ⟨w.heap.size, 0, none⟩ u).setCell ⟨w.heap.size, 1, none⟩ v) :=
  (h.setCell (Nat.le_refl _) _).setCell (Nat.le_refl _) _

set_option maxHeartbeats 2000000 in
theorem make_any (n : Strs) (p : Prs) (w : World) (hn : n.At w) (hp : p.At w) (hs : n.ao = none ∨ n.ao = some ⟨n.b, n.o, none⟩) :
    Calls Tryz.prog 54 #[.slice n.ao n.len n.cap, .slice p.ao p.len p.cap] w fun e w' => ∃ (er : Int) (n' : Strs) (g' : Grid), e = .returned (.tuple #[.agg #[.slice n'.ao n'.len n'.cap, .slice g'.ao g'.len g'.cap], .int .i64 er]) ∧ Made n p er n' g' w' ∧ Below w.heap.size w w' := by
  have hnb := hn.bound
  have hpb := hp.bound
  have B0 := Box2.start w (.slice none 0 0) (.slice none 0 0) 35
  by_cases h1 : 8 < n.len ∨ 64 < p.len
  · have HE : Hid (makeE n p = 1) := makeE_1 h1
    by_cases h8 : 8 < n.len
    · have d8 : decide ((8 : Int) < n.len) = true := by simp; omega
      clear h1
      go_enter Tryz.func54, Tryz.ntmps54
      go_wp2
      exact bodyPost_ret (v := .tuple #[.agg #[.slice none 0 0, .slice none 0 0], .int .i64 1]) (by simp [results, Tryz.results54, go_sem]) rfl ⟨1, noStrs, noGrid, rfl, made_no _ HE.out (by decide), B0.bl⟩
    · have d8 : decide ((8 : Int) < n.len) = false := by simp; omega
      have d64 : decide ((64 : Int) < p.len) = true := by simp; omega
      clear h1
      go_enter Tryz.func54, Tryz.ntmps54
      go_wp2
      exact bodyPost_ret (v := .tuple #[.agg #[.slice none 0 0, .slice none 0 0], .int .i64 1]) (by simp [results, Tryz.results54, go_sem]) rfl ⟨1, noStrs, noGrid, rfl, made_no _ HE.out (by decide), B0.bl⟩
  · have d8 : decide ((8 : Int) < n.len) = false := by simp; omega
    have d64 : decide ((64 : Int) < p.len) = false := by simp; omega
    have H1 : Hid (¬ (8 < n.len ∨ 64 < p.len)) := h1
    have l8 : n.len ≤ 8 := by omega
    have l64 : p.len ≤ 64 := by omega
    clear h1
    go_enter Tryz.func54, Tryz.ntmps54
    go_wp2_with fail
    refine (pairsInRange_any p n.len _ (hp.kept B0.bl)).mono ?_
    rintro e w1 ⟨rfl, hb1⟩
    have B1 := B0.step hb1
    clear hb1 B0
    cases h2 : prsB p n.len
    · have c0 := B1.c0
      have c1 := B1.c1
      have f0 := B1.f0
      have f1 := B1.f1
      have HE : Hid (makeE n p = 10) := makeE_10 H1.out h2
      go_wp2
      exact bodyPost_ret (v := .tuple #[.agg #[.slice none 0 0, .slice none 0 0], .int .i64 10]) (by simp [results, Tryz.results54, go_sem, c0, c1]) rfl ⟨10, noStrs, noGrid, rfl, made_no _ HE.out (by decide), below_set2 B1.bl _ _⟩
    · go_wp2_with fail
      refine (clone_any n _ (hn.kept B1.bl) l8 hs).mono ?_
      rintro e w2 ⟨n', rfl, hn2, hl2, hs2, hb2⟩
      obtain ⟨ao', b', o', l', c', s'⟩ := n'
      dsimp only at hl2 hs2
      subst hl2 hs2
      have B2 := B1.step hb2
      clear hb2
      go_wp2_with fail
      refine (leastOrder_any p n.len _ (hp.kept B2.bl) l8 l64 h2).mono ?_
      rintro e w3 ⟨rfl, hO⟩
      have B3 := B2.step hO.bl
      have hn3 := hn2.kept hO.bl
      have hg3 := hO.at' l8
      have X3 := Box2.start w3 (.slice ao' n.len c') (.slice (some ⟨w2.heap.size, 0, none⟩) n.len n.len) 35
      have T3 := B2.lt
      clear hO
      go_wp2_with fail
      refine (formed_any ⟨ao', b', o', n.len, c', n.s⟩ (gridOf w2.heap.size n.len (leastM p n.len)) _ (hn3.kept X3.bl) (hg3.kept X3.bl)).mono ?_
      rintro e w4 ⟨rfl, hb4⟩
      have X4 := X3.step hb4
      have B4 := B3.step X4.bl
      have hn4 := hn3.kept X4.bl
      have hg4 := hg3.kept X4.bl
      clear hb4 X3 hn3 hg3 B3
      rw [formed_canon (n := ⟨ao', b', o', n.len, c', n.s⟩) (s := n.s) rfl rfl]
      have c0 := B4.c0
      have c1 := B4.c1
      have f0 := B4.f0
      have f1 := B4.f1
      have x0 := X4.c0
      have x1 := X4.c1
      cases h3 : formedM n.len n.s (leastM p n.len)
      · have HE : Hid (makeE n p = 4) := makeE_4 H1.out h2 h3
        go_wp2
        exact bodyPost_ret (v := .tuple #[.agg #[.slice none 0 0, .slice none 0 0], .int .i64 4]) (by simp [results, Tryz.results54, go_sem, c0, c1]) rfl ⟨4, noStrs, noGrid, rfl, made_no _ HE.out (by decide), below_set2 B4.bl _ _⟩
      · have HE : Hid (makeE n p = 0) := makeE_0 H1.out h2 h3
        go_wp2
        have c1' : (w4.setCell ⟨w.heap.size, 0, none⟩ (.slice ao' n.len c')).cell? ⟨w.heap.size, 1, none⟩ = some (.slice none 0 0) := by
          rw [World.cell?_setCell_other _ _ _ _ (by simp)]; exact c1
        refine bodyPost_ret (v := .tuple #[.agg #[.slice ao' n.len c', .slice (some ⟨w2.heap.size, 0, none⟩) n.len n.len], .int .i64 0]) (by simp [results, Tryz.results54, go_sem, c0, c1]) rfl ⟨0, ⟨ao', b', o', n.len, c', n.s⟩, gridOf w2.heap.size n.len (leastM p n.len), rfl, ?_, below_set2 B4.bl _ _⟩
        exact ⟨HE.out.symm, (hn4.set c0 _).set c1' _, gridOf_set (gridOf_set hg4 T3 _) T3 _, fun _ => ⟨rfl, rfl, _, rfl⟩, fun h => absurd rfl h⟩
end Go.Proofs.YtcoeefckldkbeaaGreatDoor

/- The walks of the statements' awake and of the reference's Small. -/
namespace Go.Proofs.YtcoeefckldkbeaaGreatDoor
open Go.RowKit

def awkS : Nat → ByteArray := fun i => if i = 0 then ⟨#[108, 111, 119]⟩ else ⟨#[104, 105, 103, 104]⟩
def awkN (b : Nat) : Strs := ⟨some ⟨b, 0, none⟩, b, 0, 2, 2, awkS⟩
def awkP (b : Nat) : Prs := ⟨some ⟨b, 0, none⟩, b, 0, 1, 1, fun _ => 0, fun _ => 1⟩
theorem awk_e (b c : Nat) : makeE (awkN b) (awkP c) = 0 := by kernel_rfl
theorem awk_leq1 (ao : Option Addr) (b o c T q : Nat) : leqB ⟨ao, b, o, 2, c, awkS⟩ (gridOf T 2 (leastM (awkP q) 2)) 0 1 = true := by kernel_rfl
theorem awk_leq2 (ao : Option Addr) (b o c T q : Nat) : leqB ⟨ao, b, o, 2, c, awkS⟩ (gridOf T 2 (leastM (awkP q) 2)) 1 0 = false := by kernel_rfl
theorem awk_top (ao : Option Addr) (b o c T q : Nat) : topI ⟨ao, b, o, 2, c, awkS⟩ (gridOf T 2 (leastM (awkP q) 2)) = 1 := by kernel_rfl

def awkW (w : World) : World := (w.alloc (.cells #[.string ⟨#[108, 111, 119]⟩, .string ⟨#[104, 105, 103, 104]⟩] 9)).alloc (.cells #[.int .i64 0, .int .i64 1] 124)
theorem awkW_below (w : World) : Below w.heap.size w (awkW w) := ((Below.refl _ _).alloc (Nat.le_refl _) _).alloc (by simp) _
theorem awkN_at (w : World) : (awkN w.heap.size).At (awkW w) := by
  refine ⟨Nat.le_refl _, fun _ => rfl, by show (2 : Nat) ≤ _; omega, fun i hi => ?_, fun i hi => ?_⟩
  · match i, hi with
    | 0, _ => simp [awkW, awkN, awkS]
    | 1, _ => simp [awkW, awkN, awkS]
  · match i, hi with
    | 0, _ => show (3 : Nat) ≤ _; omega
    | 1, _ => show (4 : Nat) ≤ _; omega
theorem awkP_at (w : World) : (awkP (w.heap.size + 1)).At (awkW w) := by
  refine ⟨Nat.le_refl _, fun _ => rfl, by show (1 : Nat) ≤ _; omega, fun i hi => ?_, fun i hi => ?_⟩
  · match i, hi with
    | 0, _ => simp [awkW, awkP]
  · match i, hi with
    | 0, _ => simp [awkW, awkP]

theorem awk_make (w : World) :
    Calls Tryz.prog 54 #[.slice (some ⟨w.heap.size, 0, none⟩) 2 2, .slice (some ⟨w.heap.size + 1, 0, none⟩) 1 1] ((w.alloc (.cells #[.string ⟨#[108, 111, 119]⟩, .string ⟨#[104, 105, 103, 104]⟩] 9)).alloc (.cells #[.int .i64 0, .int .i64 1] 124))
      fun e w' => ∃ (ao : Option Addr) (b o c T : Nat), e = .returned (.tuple #[.agg #[.slice ao 2 c, .slice (some ⟨T, 0, none⟩) 2 2], .int .i64 0]) ∧ Strs.At ⟨ao, b, o, 2, c, awkS⟩ w' ∧ (gridOf T 2 (leastM (awkP (w.heap.size + 1)) 2)).At w' ∧ Below w.heap.size w w' := by
  refine (make_any (awkN w.heap.size) (awkP (w.heap.size + 1)) (awkW w) (awkN_at w) (awkP_at w) (Or.inr rfl)).mono ?_
  rintro e w1 ⟨er, n', g', rfl, hM, hb1⟩
  have h0 : er = 0 := hM.er.trans (awk_e _ _)
  subst h0
  obtain ⟨h1, h2, T, rfl⟩ := hM.yes rfl
  obtain ⟨ao', b', o', l', c', s'⟩ := n'
  dsimp only at h1 h2
  subst h1 h2
  exact ⟨ao', b', o', c', T, rfl, hM.nat, hM.gat, (awkW_below w).trans (hb1.mono (awkW_below w).size)⟩

/-- What Small answers. -/
def smallB (n : Strs) (g : Grid) : Bool := decide (g.len ≤ 100 ∧ ∀ r, r < g.len → g.L r ≤ 100) && decide (n.len ≤ 100)

theorem small_no1 {n : Strs} {g : Grid} {k : Nat} (hk : k < g.len) (h : 100 ≤ k ∨ 100 < g.L k) : smallB n g = false := by
  unfold smallB
  rw [Bool.and_eq_false_iff, decide_eq_false_iff_not]
  left
  rintro ⟨h1, h2⟩
  have := h2 k hk
  omega

end Go.Proofs.YtcoeefckldkbeaaGreatDoor
