/- A region that draws its order, whose head is quiet in a class of worlds and whose tail is one behind the other: the head is walked once, then the tail from every world of the class. -/
import Derived.Test.YtgpaeilnpeflaaaDoorP5
import Derived.Test.YtgpaeilnpeflaaaDoorP7
import Derived.StillTail
import Derived.Test.YtgpaeilnpeflaaaDoorP4
import Derived.Test.YtgpaeilnpeflaaaDoorP1
import Derived.Deep.MidRow
import Derived.Lib.SmallJoins
import Derived.Deep.RegionHeld3
namespace Go.Proofs.YtgpaeilnpeflaaaDoor
open Go Go.RowKit

section
variable {P : Program} {ops : Array Oper} {md : Region.Mode} {C : World → Prop} {m : Nat}

theorem chain_down (hc : Region.chainB md ops m = true) {listed : Array Bool} (hS : Shut md ops listed) : ∀ t, m ≤ t → t < ops.size → listed.getD t false = true → listed.getD m false = true := by
  simp only [Region.chainB, List.all_eq_true, List.mem_range, Bool.or_eq_true, decide_eq_true_eq] at hc
  intro t
  induction t with
  | zero => intro h1 _ h3; have : m = 0 := by omega
            subst this; exact h3
  | succ t ih =>
    intro h1 h2 h3
    by_cases e : m = t + 1
    · rw [e]; exact h3
    rcases hc (t + 1) h2 with h | h
    · omega
    · obtain ⟨oj, hj, e, he, hb, hon⟩ := Region.waitsFor_spec h
      have := hS (t + 1) oj h3 hj e he hb
      rw [hon] at this
      exact ih (by omega) (by omega) this

theorem sink_all (hs : Region.sinkB md ops m = true) {listed : Array Bool} (hS : Shut md ops listed) {om : Oper} (hom : ops[m]? = some om) (hall : ∀ e ∈ om.after, Region.binds md e = true → listed.getD e.on false = true) : ∀ d i, i + d + 1 = m → listed.getD i false = true := by
  simp only [Region.sinkB, List.all_eq_true, List.mem_range, List.any_eq_true, Bool.and_eq_true, decide_eq_true_eq] at hs
  intro d
  induction d using Nat.strongRecOn with
  | ind d ih =>
    intro i hi
    obtain ⟨j, hj, hij, hw⟩ := hs i (by omega)
    obtain ⟨oj, hoj, e, he, hb, hon⟩ := Region.waitsFor_spec hw
    by_cases hjm : j = m
    · subst hjm
      rw [hom] at hoj
      cases hoj
      have := hall e he hb
      rwa [hon] at this
    · have hl := ih (m - 1 - j) (by omega) j (by omega)
      have := hS j oj hl hoj e he hb
      rwa [hon] at this

theorem gate2 (hs : Region.sinkB md ops m = true) (hc : Region.chainB md ops m = true) (listed : Array Bool) (j : Nat) (hS : Shut md ops listed) (hj : j ∈ Region.ready md ops listed) (hm : ¬ j < m) : ∀ i ∈ Region.ready md ops listed, ¬ i < m := by
  intro i hi him
  obtain ⟨_, oj, hoj, hall⟩ := mem_ready.1 hj
  have hlt := (Array.getElem?_eq_some_iff.1 hoj).1
  have hmlt : m < ops.size := by omega
  have hom : ops[m]? = some ops[m] := Array.getElem?_eq_getElem hmlt
  have key : ∀ e ∈ ops[m].after, Region.binds md e = true → listed.getD e.on false = true := by
    by_cases e : j = m
    · subst e
      rw [hom] at hoj
      cases hoj
      exact hall
    · have h1 : listed.getD m false = true := by
        have hc' := hc
        simp only [Region.chainB, List.all_eq_true, List.mem_range, Bool.or_eq_true, decide_eq_true_eq] at hc'
        rcases hc' j hlt with h | h
        · omega
        · obtain ⟨oj', hj', e', he', hb', hon'⟩ := Region.waitsFor_spec h
          rw [hoj] at hj'
          cases hj'
          have := hall e' he' hb'
          rw [hon'] at this
          exact chain_down hc hS (j - 1) (by omega) (by omega) this
      exact fun e he hb => hS m ops[m] h1 hom e he hb
  have h2 := sink_all hs hS hom key (m - 1 - i) i (by omega)
  have h3 := (mem_ready.1 hi).1
  rcases Nat.lt_or_ge i listed.size with h' | h'
  · simp [h'] at h2 h3; rw [h2] at h3; cases h3
  · simp [Array.getElem?_eq_none h'] at h2

theorem wpAny_of_prefix2 {R : Array Bool → Act → Prop} {Q : Exit → Act → World → Prop} {rest : Nat} (hg : ∀ (listed : Array Bool) (j : Nat), Shut md ops listed → j ∈ Region.ready md ops listed → ¬ j < m → ∀ i ∈ Region.ready md ops listed, ¬ i < m) : ∀ (fuel : Nat) (listed : Array Bool) (a : Act) (w : World), Shut md ops listed → C w →
    wpAnyP P md ops C m (fun listed a => ∀ w, C w → wpAny P md ops Q rest listed a w) fuel listed a → wpAny P md ops Q (fuel + rest) listed a w
  | 0, _, _, w, _, hw, h => by simpa using h.2 w hw
  | fuel + 1, listed, a, w, hS, hw, h => by
    rw [show fuel + 1 + rest = fuel + rest + 1 by omega]
    by_cases hx : ∃ j ∈ Region.ready md ops listed, ¬ j < m
    · obtain ⟨j, hj, hjm⟩ := hx
      have := wpAny_plus (h.1 (hg _ _ hS hj hjm) w hw) (fuel + 1)
      rwa [show fuel + 1 + rest = fuel + rest + 1 by omega] at this
    · have hall : ∀ j ∈ Region.ready md ops listed, j < m := fun j hj => Classical.byContradiction fun hc => hx ⟨j, hj, hc⟩
      refine ⟨fun h0 => ?_, fun i hi => ?_⟩
      · exact wpAny_normal (h.1 (by rw [h0]; intro i hi; cases hi) w hw) h0
      · exact wpOp_of_qOp hw (fun a' w' hw' h' => wpAny_of_prefix2 (R := R) hg fuel _ a' w' (hS.put hi) hw' h') (h.2 i hi (hall i hi))

def tailB (n : Nat) (l : List Oper) : Bool := decide (n ≤ l.length) && Region.noSelect l.toArray && Region.sinkB .any l.toArray n && Region.chainB .any l.toArray n && lexTo .any l.toArray n n 0 (Array.replicate l.length false) && Region.seqB .any l.toArray (l.length - n) n (listedTo n 0 (Array.replicate l.length false))

theorem wp_region_tail {l : List Oper} {id : Nat} {Q : Exit → Act → World → Prop} {a : Act} {w : World} (n : Nat) (hm : P.follows .mixedOrders = true) (hB : tailB n l = true) (hC : C { w with drawn := w.drawn + 1 })
    (h : wpQuiet P l.toArray C (fun a' => ∀ w', C w' → wpList P l.toArray Q (l.drop n) a' w') (l.take n) a) : (Code.region id l.toArray true).wp P Q a w := by
  simp only [tailB, Bool.and_eq_true, decide_eq_true_eq] at hB
  obtain ⟨⟨⟨⟨⟨hn, h1⟩, h2⟩, h3⟩, h4⟩, h5⟩ := hB
  have e1 : (l.take n).length = n := by simp; omega
  have e2 : (l.drop n).length = l.length - n := by simp
  refine wp_region_any hm ?_
  have key := wpAnyP_lex (P := P) (C := C) (md := .any) (ops := l.toArray) (m := n) (R := fun listed a => ∀ w, C w → wpAny P .any l.toArray Q (l.length - n) listed a w) h1 (l.take n) 0 (Array.replicate l.length false) a
    (by intro j hj; rw [e1] at hj; simp [hj]) (by rw [e1]; exact h4) (by
      rw [e1]
      have mono : ∀ (l' : List Oper) (a : Act) (Q1 Q2 : Act → Prop), (∀ a, Q1 a → Q2 a) → wpQuiet P l.toArray C Q1 l' a → wpQuiet P l.toArray C Q2 l' a := by
        intro l'
        induction l' with
        | nil => intro a Q1 Q2 h12 hq; exact h12 a hq
        | cons o l' ih =>
          intro a Q1 Q2 h12 hq
          unfold wpQuiet at hq ⊢
          split
          · rename_i hw; rw [if_pos hw] at hq; exact Oper.quiet_mono (fun a' h' => ih a' Q1 Q2 h12 h') hq
          · rename_i hw; rw [if_neg hw] at hq; exact ih _ Q1 Q2 h12 hq
      refine mono _ _ _ _ (fun a' ha' w' hw' => ?_) h
      have := wpAny_of_seq (P := P) (md := .any) (ops := l.toArray) (Q' := Q) (l.drop n) n (listedTo n 0 (Array.replicate l.length false)) a' w' (by intro j; simp) (by rw [e2]; exact h5) (ha' w' hw')
      rwa [e2] at this)
  have := wpAny_of_prefix2 (R := fun _ _ => True) (Q := Q) (rest := l.length - n) (gate2 h2 h3) n (Array.replicate l.length false) a { w with drawn := w.drawn + 1 } (by intro k o hk; simp [Array.getElem?_replicate] at hk; split at hk <;> simp_all) hC (by rw [e1] at key; exact key)
  have e3 : n + (l.length - n) = l.length := by omega
  rw [e3] at this
  simpa using this
end

theorem wp_region_gr_tail {P : Program} {id : Nat} {Q : Exit → Act → World → Prop} {a : Act} {w : World} {l : List Oper} (n : Nat) (hm : P.follows .mixedOrders = true) (hB : tailB n l = true)
    (h : wpQuiet P l.toArray (fun w' => ∃ x : Gr w, w' = x.w) (fun a' => ∀ w', (∃ x : Gr w, w' = x.w) → wpList P l.toArray Q (l.drop n) a' w') (l.take n) a) : (Code.region id l.toArray true).wp P Q a w :=
  wp_region_tail (C := fun w' => ∃ x : Gr w, w' = x.w) n hm hB ⟨⟨_, (Below.refl _ _).drew⟩, rfl⟩ h
end Go.Proofs.YtgpaeilnpeflaaaDoor

/- Layer 5: the walks of lex.Words, Keyword, name. -/
namespace Go.Proofs.YtgpaeilnpeflaaaDoor
open Go.RowKit

def str (l : List UInt8) : ByteArray := ⟨l.toArray⟩
theorem bs_str (l : List UInt8) : bs (str l) = l := by simp [bs, str]
theorem str_bs (s : ByteArray) : str (bs s) = s := by obtain ⟨d⟩ := s; simp [bs, str]
theorem str_inj {a b : List UInt8} (h : str a = str b) : a = b := by rw [← bs_str a, h, bs_str]
/-- The keywords, as cells. -/
def kwB : List ByteArray := kws.map str
def kwC : Array Value := (kwB.map Value.string).toArray
theorem kw_contains (s : ByteArray) : Lib.containsS (kwB.take 23) s = kw (bs s) := by
  have e : kwB.take 23 = kwB := rfl
  rw [e, Bool.eq_iff_iff, Lib.containsS_iff]
  unfold kw kwB
  simp only [List.mem_map, List.contains_eq_mem, decide_eq_true_eq]
  constructor
  · rintro ⟨a, ha, rfl⟩; rw [bs_str]; exact ha
  · intro h; exact ⟨_, h, str_bs s⟩
theorem kw_cells (w : World) (t : TypeId) : ∀ j, j < kwB.length → (w.alloc (.cells kwC t)).cell? ⟨w.heap.size, 0 + j, none⟩ = some (.string (kwB.getD j ByteArray.empty)) := by
  intro j hj
  rw [Nat.zero_add]
  simp [kwC, List.getD, hj]

set_option maxHeartbeats 1000000 in
theorem words_any (w : World) :
    Calls Tryd.prog 38 #[] w fun e w' => e = .returned (.slice (some ⟨w.heap.size, 0, none⟩) 23 23) ∧ w' = w.alloc (.cells kwC 9) := by
  go_enter Tryd.func38, Tryd.ntmps38
  go_wp2
  go_ret
  exact ⟨rfl, rfl⟩
set_option maxHeartbeats 1000000 in
theorem keyword_any (s : ByteArray) (w : World) :
    Calls Tryd.prog 29 #[.string s] w fun e w' => e = .returned (.bool (kw (bs s))) ∧ Below w.heap.size w w' := by
  have H : Hid (Lib.containsS (kwB.take 23) s = kw (bs s)) := kw_contains s
  have hc := kw_cells w 9
  go_enter Tryd.func29, Tryd.ntmps29
  go_wp2_with (first
    | (go_at_call 38; refine (words_any _).mono ?_; rintro e w' ⟨rfl, rfl⟩)
    | (go_at_call 37; refine (Tryd.slices_Contains_string w.heap.size 0 23 23 kwB s _ (by decide) (by decide) hc).mono ?_; rintro e w' ⟨rfl, rfl⟩))
  go_ret
  exact ⟨ret_bool H.out, (Below.refl _ _).alloc (Nat.le_refl _) _⟩

theorem nxt {a b c : World} (h : Below a.heap.size a b) (k : Below b.heap.size b c) : Below a.heap.size a c := h.trans (k.mono h.size)

/-- Four cells of a variable. -/
structure B4 (w : World) (B : Nat) (v0 v1 v2 v3 : Value) : Prop where
  c0 : w.cell? ⟨B, 0, none⟩ = some v0
  c1 : w.cell? ⟨B, 1, none⟩ = some v1
  c2 : w.cell? ⟨B, 2, none⟩ = some v2
  c3 : w.cell? ⟨B, 3, none⟩ = some v3
  f0 : w.frozen? ⟨B, 0, none⟩ = false
  f1 : w.frozen? ⟨B, 1, none⟩ = false
  f2 : w.frozen? ⟨B, 2, none⟩ = false
  f3 : w.frozen? ⟨B, 3, none⟩ = false
theorem B4.new (w : World) (v0 v1 v2 v3 : Value) (t : TypeId) : B4 (w.alloc (.cells #[v0, v1, v2, v3] t)) w.heap.size v0 v1 v2 v3 := by
  constructor <;> simp
theorem B4.lt {w : World} {B : Nat} {v0 v1 v2 v3 : Value} (h : B4 w B v0 v1 v2 v3) : B < w.heap.size := cell_lt h.c0
theorem B4.kept {w w' : World} {B : Nat} {v0 v1 v2 v3 : Value} (h : B4 w B v0 v1 v2 v3) (hb : Below w.heap.size w w') : B4 w' B v0 v1 v2 v3 :=
  ⟨up hb h.c0, up hb h.c1, up hb h.c2, up hb h.c3, (hb.frozen (p := ⟨B, 0, none⟩) h.lt).trans h.f0, (hb.frozen (p := ⟨B, 1, none⟩) h.lt).trans h.f1, (hb.frozen (p := ⟨B, 2, none⟩) h.lt).trans h.f2, (hb.frozen (p := ⟨B, 3, none⟩) h.lt).trans h.f3⟩
theorem B4.of_block {w w' : World} {B : Nat} {v0 v1 v2 v3 : Value} (h : B4 w B v0 v1 v2 v3) (e : w'.heap[B]? = w.heap[B]?) : B4 w' B v0 v1 v2 v3 :=
  ⟨(World.cell?_of_block (w := w) (a := ⟨B, 0, none⟩) e).trans h.c0, (World.cell?_of_block (w := w) (a := ⟨B, 1, none⟩) e).trans h.c1, (World.cell?_of_block (w := w) (a := ⟨B, 2, none⟩) e).trans h.c2, (World.cell?_of_block (w := w) (a := ⟨B, 3, none⟩) e).trans h.c3, (World.frozen?_of_block (w := w) (a := ⟨B, 0, none⟩) e).trans h.f0, (World.frozen?_of_block (w := w) (a := ⟨B, 1, none⟩) e).trans h.f1, (World.frozen?_of_block (w := w) (a := ⟨B, 2, none⟩) e).trans h.f2, (World.frozen?_of_block (w := w) (a := ⟨B, 3, none⟩) e).trans h.f3⟩
/-- Four cells written. -/
def put4 (w : World) (B : Nat) (v0 v1 v2 v3 : Value) : World := (((w.setCell ⟨B, 0, none⟩ v0).setCell ⟨B, 1, none⟩ v1).setCell ⟨B, 2, none⟩ v2).setCell ⟨B, 3, none⟩ v3
theorem put4_heap (w : World) (B : Nat) (v0 v1 v2 v3 : Value) {b : Nat} (h : b ≠ B) : (put4 w B v0 v1 v2 v3).heap[b]? = w.heap[b]? := by
  unfold put4
  rw [Below.heap_setCell _ _ _ _ h, Below.heap_setCell _ _ _ _ h, Below.heap_setCell _ _ _ _ h, Below.heap_setCell _ _ _ _ h]
theorem put4_size (w : World) (B : Nat) (v0 v1 v2 v3 : Value) : (put4 w B v0 v1 v2 v3).heap.size = w.heap.size := by
  unfold put4; simp [World.setCell]
theorem put4_below {b : Nat} {w w1 : World} {B : Nat} (hB : b ≤ B) (h : Below b w w1) (v0 v1 v2 v3 : Value) : Below b w (put4 w1 B v0 v1 v2 v3) :=
  (((h.setCell hB _).setCell hB _).setCell hB _).setCell hB _
theorem B4.put {w : World} {B : Nat} {u0 u1 u2 u3 : Value} (h : B4 w B u0 u1 u2 u3) (v0 v1 v2 v3 : Value) : B4 (put4 w B v0 v1 v2 v3) B v0 v1 v2 v3 := by
  have fz : ∀ a : Addr, (put4 w B v0 v1 v2 v3).frozen? a = w.frozen? a := fun a => by
    unfold put4
    rw [World.frozen?_setCell, World.frozen?_setCell, World.frozen?_setCell, World.frozen?_setCell]
  have key := World.rangeAt_setCells_same w B 0 [v0, v1, v2, v3] (fun j hj => ?_)
  · exact ⟨key 0 v0 rfl, key 1 v1 rfl, key 2 v2 rfl, key 3 v3 rfl, (fz _).trans h.f0, (fz _).trans h.f1, (fz _).trans h.f2, (fz _).trans h.f3⟩
  · have hj' : j < 4 := hj
    rw [Nat.zero_add]
    match j, hj' with
    | 0, _ => exact ⟨by rw [h.c0]; rfl, h.f0⟩
    | 1, _ => exact ⟨by rw [h.c1]; rfl, h.f1⟩
    | 2, _ => exact ⟨by rw [h.c2]; rfl, h.f2⟩
    | 3, _ => exact ⟨by rw [h.c3]; rfl, h.f3⟩
/-- A word's value. -/
def tkV (k : Int) (t : ByteArray) (n a : Int) : Value := .agg #[.int .i64 k, .string t, .int .i64 n, .int .i64 a]
theorem keyword_is (s : ByteArray) (b : Bool) (h : kw (bs s) = b) (w : World) :
    Calls Tryd.prog 29 #[.string s] w fun e w' => e = .returned (.bool b) ∧ Below w.heap.size w w' := by
  subst h; exact keyword_any s w
set_option maxHeartbeats 1000000 in
theorem lname_no (s : ByteArray) (w : World) (hk : kw (bs s) = false) :
    Calls Tryd.prog 16 #[.string s] w fun e w' => e = .returned (.tuple #[tkV 1 s 0 0, .bool (nameB s)]) ∧ Below w.heap.size w w' := by
  have B0 := B4.new w (.int .i64 0) (.string ⟨#[]⟩) (.int .i64 0) (.int .i64 0) 34
  have hb0 := below_alloc w (.cells #[.int .i64 0, .string ⟨#[]⟩, .int .i64 0, .int .i64 0] 34)
  go_enter Tryd.func16, Tryd.ntmps16
  go_wp2_with fail
  refine (keyword_is _ _ hk _).mono ?_
  rintro e w1 ⟨rfl, hb⟩
  have B1 := B0.kept hb
  have hb1 := nxt hb0 hb
  clear B0 hb0 hb
  go_wp2_with fail
  refine (name_any _ _).mono ?_
  rintro e w2 ⟨rfl, hb⟩
  obtain ⟨c0, c1, c2, c3, f0, f1, f2, f3⟩ := B1.kept hb
  have hb2 := nxt hb1 hb
  clear hb hb1
  go_wp2
  refine bodyPost_ret (v := .tuple #[tkV 1 s 0 0, .bool (nameB s)]) (by simp [results, Tryd.results16, go_sem, tkV, c0, c1, c2, c3]) rfl ⟨rfl, put4_below (Nat.le_refl _) hb2 _ _ _ _⟩
set_option maxHeartbeats 1000000 in
theorem lname_yes (s : ByteArray) (w : World) (hk : kw (bs s) = true) :
    Calls Tryd.prog 16 #[.string s] w fun e w' => e = .returned (.tuple #[tkV 2 s 0 0, .bool true]) ∧ Below w.heap.size w w' := by
  have B0 := B4.new w (.int .i64 0) (.string ⟨#[]⟩) (.int .i64 0) (.int .i64 0) 34
  have hb0 := below_alloc w (.cells #[.int .i64 0, .string ⟨#[]⟩, .int .i64 0, .int .i64 0] 34)
  go_enter Tryd.func16, Tryd.ntmps16
  go_wp2_with fail
  refine (keyword_is _ _ hk _).mono ?_
  rintro e w1 ⟨rfl, hb⟩
  have B1 := B0.kept hb
  have hb1 := nxt hb0 hb
  clear B0 hb0 hb
  obtain ⟨c0, c1, c2, c3, f0, f1, f2, f3⟩ := B1
  go_wp2
  refine bodyPost_ret (v := .tuple #[tkV 2 s 0 0, .bool true]) (by simp [results, Tryd.results16, go_sem, tkV, c0, c1, c2, c3]) rfl ⟨rfl, put4_below (Nat.le_refl _) hb1 _ _ _ _⟩
theorem lname_any (s : ByteArray) (w : World) :
    Calls Tryd.prog 16 #[.string s] w fun e w' => e = .returned (.tuple #[tkV (if kw (bs s) then 2 else 1) s 0 0, .bool (kw (bs s) || nameB s)]) ∧ Below w.heap.size w w' := by
  cases hk : kw (bs s)
  · exact lname_no s w hk
  · exact lname_yes s w hk
end Go.Proofs.YtgpaeilnpeflaaaDoor

/- Layer 5: the walks of lex.number, sign. -/
namespace Go.Proofs.YtgpaeilnpeflaaaDoor
open Go.RowKit

theorem numF_le : ∀ (l : List UInt8) (a : Nat), a ≤ numF a l
  | [], a => Nat.le_refl _
  | c :: r, a => by
    unfold numF
    have := numF_le r (10 * a + (c.toNat - 48))
    omega
theorem parseU (l : List UInt8) : ∀ (a : Nat), dgLen l = l.length → Lib.parseUint10 a l = if a < 18446744073709551616 ∨ l ≠ [] then (if numF a l < 18446744073709551616 then .ok (numF a l) else .range) else .ok a := by
  induction l with
  | nil => intro a _; unfold Lib.parseUint10 numF; split <;> simp_all
  | cons c r ih =>
    intro a h
    rw [dg1] at h
    split at h
    · rename_i hc
      have hd := (dig_iff c).1 hc
      simp only [List.length_cons] at h
      rw [if_pos (Or.inr (by simp))]
      unfold Lib.parseUint10 numF
      rw [if_pos hd]
      have hle := numF_le r (10 * a + (c.toNat - 48))
      by_cases h1 : 1844674407370955162 ≤ a
      · rw [if_pos h1, if_neg (by omega)]
      · rw [if_neg h1]
        by_cases h2 : 18446744073709551616 ≤ a * 10 + (c.toNat - 48)
        · rw [if_pos h2, if_neg (by omega)]
        · rw [if_neg h2, ih _ (by omega), if_pos (Or.inl (by omega)), show a * 10 = 10 * a by omega]
    · simp at h
theorem parseI (l : List UInt8) (h : dgLen l = l.length) (h0 : l ≠ []) : Lib.parseIntB 64 l = if numV l ≤ 9223372036854775807 then .ok (numV l) else .range := by
  rw [Lib.parseIntB_64]
  match l, h0 with
  | c :: r, _ =>
    have hd := (dig_iff c).1 (dg_head (r := r) (by rw [h]; simp))
    rw [Lib.atoiAll_plain c r (by omega) (by omega)]
    have e : Lib.parseMag (c :: r) = if numV (c :: r) < 18446744073709551616 then .ok (numV (c :: r)) else .range := by
      unfold Lib.parseMag
      rw [if_neg (by simp), parseU _ 0 h, if_pos (Or.inl (by omega))]
      rfl
    rw [e]
    by_cases h1 : numV (c :: r) < 18446744073709551616
    · rw [if_pos h1]
      unfold Lib.signless
      by_cases h2 : numV (c :: r) ≤ 9223372036854775807
      · rw [if_pos h2]; simp only; rw [if_neg (by omega)]
      · rw [if_neg h2]; simp only; rw [if_pos (by omega)]
    · rw [if_neg h1, if_neg (by omega)]; rfl

theorem Tryd.errNamed : Tryd.prog.globalNamed "strconv.ErrRange" = some 2 := by kernel_rfl
/-- The variables that the walks read. -/
structure Vs (w : World) : Prop where
  err : ∃ tp p, w.var? Tryd.prog "strconv.ErrRange" = some #[.iface tp p]
  l0 : w.cell? ⟨0, 0, none⟩ = some (.string ⟨#[61, 61]⟩)
  l1 : w.cell? ⟨0, 1, none⟩ = some (.string ⟨#[61, 62]⟩)
  l2 : w.cell? ⟨0, 2, none⟩ = some (.string ⟨#[45, 62]⟩)
  l3 : w.cell? ⟨0, 3, none⟩ = some (.string ⟨#[58, 61]⟩)
theorem Vs.kept {w w' : World} (h : Vs w) (hb : Below w.heap.size w w') : Vs w' := by
  obtain ⟨tp, p, he⟩ := h.err
  exact ⟨⟨tp, p, Joins.var_stays Tryd.errNamed he hb (Nat.le_refl _)⟩, up hb h.l0, up hb h.l1, up hb h.l2, up hb h.l3⟩

/-- A number that is told. -/
def okN (s : ByteArray) : Bool := decide (s = ⟨#[48]⟩) || (bs s).head? != some 48

set_option maxHeartbeats 2000000 in
theorem lnum_z (s : ByteArray) (w : World) (h0 : 0 < s.size) (hs : s.size ≤ 9223372036854775806) (hp : Lib.parseIntB 64 s.data.toList = .ok (numV (bs s) : Int)) (hz : (s.toList == [48]) = true) :
    Calls Tryd.prog 19 #[.string s] w fun e w' => e = .returned (.tuple #[tkV 3 s (numV (bs s) : Nat) 0, .bool true]) ∧ Below w.heap.size w w' := by
  have hh : (bs s).head? = some (s[0]'h0) := by
    have := bs_drop s 0 h0
    rw [List.drop_zero] at this; rw [this]; rfl
  have B0 := B4.new w (.int .i64 0) (.string ⟨#[]⟩) (.int .i64 0) (.int .i64 0) 34
  have hb0 := below_alloc w (.cells #[.int .i64 0, .string ⟨#[]⟩, .int .i64 0, .int .i64 0] 34)
  go_enter Tryd.func19, Tryd.ntmps19
  go_wp2_with fail
  refine (Tryd.strconv_ParseInt_10_at64_ok s hs _ hp _).mono ?_
  rintro e w1 ⟨rfl, hw⟩
  have hb : Below (w.alloc (.cells #[.int .i64 0, .string ⟨#[]⟩, .int .i64 0, .int .i64 0] 34)).heap.size (w.alloc (.cells #[.int .i64 0, .string ⟨#[]⟩, .int .i64 0, .int .i64 0] 34)) w1 := by
    rcases hw with rfl | ⟨t, rfl⟩
    · exact Below.refl _ _
    · exact Joins.below_bytesWorld _ _ _ _ (Nat.le_refl _)
  obtain ⟨c0, c1, c2, c3, f0, f1, f2, f3⟩ := B0.kept hb
  have hb1 := nxt hb0 hb
  clear hw hb B0 hb0
  go_wp2_with fail
  refine wp_region_held_drew (S := fun _ : World => True) (by kernel_rfl) trivial (fun hS => ?_)
  refine wpAnyH_take (i := 0) (v := .string s) rfl (by kernel_rfl) (by kernel_rfl) (by kernel_rfl) (fun _ _ _ h => h) (Or.inl ⟨by kernel_rfl, ?_⟩) hS ?_
  · intro u _; go_simp
  try simp only [Act.put]
  refine wpAnyH_take (i := 1) (v := .int .i64 (numV (bs s) : Nat)) rfl (by kernel_rfl) (by kernel_rfl) (by kernel_rfl) (fun _ _ _ h => h) (Or.inl ⟨by kernel_rfl, ?_⟩) hS ?_
  · intro u _; go_simp
  try simp only [Act.put]
  refine wpAnyH_take (i := 2) (v := .agg #[.int .i64 3, .string s, .int .i64 (numV (bs s) : Nat), .int .i64 0]) rfl (by kernel_rfl) (by kernel_rfl) (by kernel_rfl) (fun _ _ _ h => h) (Or.inl ⟨by kernel_rfl, ?_⟩) hS ?_
  · intro u _; go_simp
  try simp only [Act.put]
  refine wpAnyH_take (i := 3) (v := .nilIface) rfl (by kernel_rfl) (by kernel_rfl) (by kernel_rfl) (fun _ _ _ h => h) (Or.inl ⟨by kernel_rfl, ?_⟩) hS ?_
  · intro u _; go_simp
  try simp only [Act.put]
  refine wpAnyH_take (i := 4) (v := .bool true) rfl (by kernel_rfl) (by kernel_rfl) (by kernel_rfl) (fun _ _ _ h => h) (Or.inl ⟨by kernel_rfl, ?_⟩) hS ?_
  · intro u _; go_simp
  try simp only [Act.put]
  refine wpAnyH_take (i := 5) (v := .bool true) rfl (by kernel_rfl) (by kernel_rfl) (by kernel_rfl) (fun _ _ _ h => h) (Or.inl ⟨by kernel_rfl, ?_⟩) hS ?_
  · intro u _; go_simp
  try simp only [Act.put]
  refine wpAnyH_take (i := 6) (v := .string s) rfl (by kernel_rfl) (by kernel_rfl) (by kernel_rfl) (fun _ _ _ h => h) (Or.inl ⟨by kernel_rfl, ?_⟩) hS ?_
  · intro u _; go_simp
  try simp only [Act.put]
  refine wpAnyH_take (i := 7) (v := .bool true) rfl (by kernel_rfl) (by kernel_rfl) (by kernel_rfl) (fun _ _ _ h => h) (Or.inl ⟨by kernel_rfl, ?_⟩) hS ?_
  · intro u _; go_simp
  try simp only [Act.put]
  refine wpAnyH_take (i := 8) (v := .bool true) rfl (by kernel_rfl) (by kernel_rfl) (by kernel_rfl) (fun _ _ _ h => h) (Or.inl ⟨by kernel_rfl, ?_⟩) hS ?_
  · intro u _; go_simp
  try simp only [Act.put]
  refine wpAnyH_take (i := 9) (v := undef) rfl (by kernel_rfl) (by kernel_rfl) (by kernel_rfl) (fun _ _ _ h => h) (Or.inr ⟨by kernel_rfl, rfl⟩) hS ?_
  try simp only [Act.put]
  refine wpAnyH_take (i := 10) (v := undef) rfl (by kernel_rfl) (by kernel_rfl) (by kernel_rfl) (fun _ _ _ h => h) (Or.inr ⟨by kernel_rfl, rfl⟩) hS ?_
  try simp only [Act.put]
  refine wpAnyH_take (i := 11) (v := undef) rfl (by kernel_rfl) (by kernel_rfl) (by kernel_rfl) (fun _ _ _ h => h) (Or.inr ⟨by kernel_rfl, rfl⟩) hS ?_
  try simp only [Act.put]
  refine wpAnyH_take (i := 12) (v := .bool true) rfl (by kernel_rfl) (by kernel_rfl) (by kernel_rfl) (fun _ _ _ h => h) (Or.inl ⟨by kernel_rfl, ?_⟩) hS ?_
  · intro u _; go_simp
  try simp only [Act.put]
  refine wpAnyH_take (i := 13) (v := .bool true) rfl (by kernel_rfl) (by kernel_rfl) (by kernel_rfl) (fun _ _ _ h => h) (Or.inl ⟨by kernel_rfl, ?_⟩) hS ?_
  · intro u _; go_simp
  try simp only [Act.put]
  refine wpAnyH_ready (rs := [14]) (by kernel_rfl) (by simp) ?_
  refine AllReadyH.cons rfl (fun K hK => ?_) AllReadyH.nil
  go_simp
  refine hK.out _ _ trivial (fun hS => ?_)
  clear hK K
  try simp only [Act.put]
  refine wpAnyH_ready (rs := [15]) (by kernel_rfl) (by simp) ?_
  refine AllReadyH.cons rfl (fun K hK => ?_) AllReadyH.nil
  go_simp
  refine hK.out _ _ trivial (fun hS => ?_)
  clear hK K
  try simp only [Act.put]
  refine wpAnyH_done (by kernel_rfl) ?_ _
  go_wp2
  refine bodyPost_ret (v := .tuple #[tkV 3 s (numV (bs s) : Nat) 0, .bool true]) (by simp [results, Tryd.results19, go_sem, tkV, c0, c1, c2, c3]) rfl ⟨rfl, (put4_below (Nat.le_refl _) hb1 _ _ _ _).drew⟩
set_option maxHeartbeats 2000000 in
theorem lnum_nz (s : ByteArray) (w : World) (h0 : 0 < s.size) (hs : s.size ≤ 9223372036854775806) (hp : Lib.parseIntB 64 s.data.toList = .ok (numV (bs s) : Int)) (hz : (s.toList == [48]) = false) :
    Calls Tryd.prog 19 #[.string s] w fun e w' => e = .returned (.tuple #[tkV 3 s (numV (bs s) : Nat) 0, .bool ((((s[0]'h0).toNat : Nat) : Int) != 48)]) ∧ Below w.heap.size w w' := by
  have hh : (bs s).head? = some (s[0]'h0) := by
    have := bs_drop s 0 h0
    rw [List.drop_zero] at this; rw [this]; rfl
  have B0 := B4.new w (.int .i64 0) (.string ⟨#[]⟩) (.int .i64 0) (.int .i64 0) 34
  have hb0 := below_alloc w (.cells #[.int .i64 0, .string ⟨#[]⟩, .int .i64 0, .int .i64 0] 34)
  go_enter Tryd.func19, Tryd.ntmps19
  go_wp2_with fail
  refine (Tryd.strconv_ParseInt_10_at64_ok s hs _ hp _).mono ?_
  rintro e w1 ⟨rfl, hw⟩
  have hb : Below (w.alloc (.cells #[.int .i64 0, .string ⟨#[]⟩, .int .i64 0, .int .i64 0] 34)).heap.size (w.alloc (.cells #[.int .i64 0, .string ⟨#[]⟩, .int .i64 0, .int .i64 0] 34)) w1 := by
    rcases hw with rfl | ⟨t, rfl⟩
    · exact Below.refl _ _
    · exact Joins.below_bytesWorld _ _ _ _ (Nat.le_refl _)
  obtain ⟨c0, c1, c2, c3, f0, f1, f2, f3⟩ := B0.kept hb
  have hb1 := nxt hb0 hb
  clear hw hb B0 hb0
  go_wp2_with fail
  refine wp_region_held_drew (S := fun _ : World => True) (by kernel_rfl) trivial (fun hS => ?_)
  refine wpAnyH_take (i := 0) (v := .string s) rfl (by kernel_rfl) (by kernel_rfl) (by kernel_rfl) (fun _ _ _ h => h) (Or.inl ⟨by kernel_rfl, ?_⟩) hS ?_
  · intro u _; go_simp
  try simp only [Act.put]
  refine wpAnyH_take (i := 1) (v := .int .i64 (numV (bs s) : Nat)) rfl (by kernel_rfl) (by kernel_rfl) (by kernel_rfl) (fun _ _ _ h => h) (Or.inl ⟨by kernel_rfl, ?_⟩) hS ?_
  · intro u _; go_simp
  try simp only [Act.put]
  refine wpAnyH_take (i := 2) (v := .agg #[.int .i64 3, .string s, .int .i64 (numV (bs s) : Nat), .int .i64 0]) rfl (by kernel_rfl) (by kernel_rfl) (by kernel_rfl) (fun _ _ _ h => h) (Or.inl ⟨by kernel_rfl, ?_⟩) hS ?_
  · intro u _; go_simp
  try simp only [Act.put]
  refine wpAnyH_take (i := 3) (v := .nilIface) rfl (by kernel_rfl) (by kernel_rfl) (by kernel_rfl) (fun _ _ _ h => h) (Or.inl ⟨by kernel_rfl, ?_⟩) hS ?_
  · intro u _; go_simp
  try simp only [Act.put]
  refine wpAnyH_take (i := 4) (v := .bool true) rfl (by kernel_rfl) (by kernel_rfl) (by kernel_rfl) (fun _ _ _ h => h) (Or.inl ⟨by kernel_rfl, ?_⟩) hS ?_
  · intro u _; go_simp
  try simp only [Act.put]
  refine wpAnyH_take (i := 5) (v := .bool true) rfl (by kernel_rfl) (by kernel_rfl) (by kernel_rfl) (fun _ _ _ h => h) (Or.inl ⟨by kernel_rfl, ?_⟩) hS ?_
  · intro u _; go_simp
  try simp only [Act.put]
  refine wpAnyH_take (i := 6) (v := .string s) rfl (by kernel_rfl) (by kernel_rfl) (by kernel_rfl) (fun _ _ _ h => h) (Or.inl ⟨by kernel_rfl, ?_⟩) hS ?_
  · intro u _; go_simp
  try simp only [Act.put]
  refine wpAnyH_take (i := 7) (v := .bool false) rfl (by kernel_rfl) (by kernel_rfl) (by kernel_rfl) (fun _ _ _ h => h) (Or.inl ⟨by kernel_rfl, ?_⟩) hS ?_
  · intro u _; go_simp
  try simp only [Act.put]
  refine wpAnyH_take (i := 8) (v := .bool false) rfl (by kernel_rfl) (by kernel_rfl) (by kernel_rfl) (fun _ _ _ h => h) (Or.inl ⟨by kernel_rfl, ?_⟩) hS ?_
  · intro u _; go_simp
  try simp only [Act.put]
  refine wpAnyH_take (i := 9) (v := .string s) rfl (by kernel_rfl) (by kernel_rfl) (by kernel_rfl) (fun _ _ _ h => h) (Or.inl ⟨by kernel_rfl, ?_⟩) hS ?_
  · intro u _; go_simp
  try simp only [Act.put]
  refine wpAnyH_take (i := 10) (v := .int .u8 ((s[0]'h0).toNat : Nat)) rfl (by kernel_rfl) (by kernel_rfl) (by kernel_rfl) (fun _ _ _ h => h) (Or.inl ⟨by kernel_rfl, ?_⟩) hS ?_
  · intro u _; go_simp
  try simp only [Act.put]
  refine wpAnyH_take (i := 11) (v := .bool ((((s[0]'h0).toNat : Nat) : Int) != 48)) rfl (by kernel_rfl) (by kernel_rfl) (by kernel_rfl) (fun _ _ _ h => h) (Or.inl ⟨by kernel_rfl, ?_⟩) hS ?_
  · intro u _; go_simp
  try simp only [Act.put]
  refine wpAnyH_take (i := 12) (v := .bool ((((s[0]'h0).toNat : Nat) : Int) != 48)) rfl (by kernel_rfl) (by kernel_rfl) (by kernel_rfl) (fun _ _ _ h => h) (Or.inl ⟨by kernel_rfl, ?_⟩) hS ?_
  · intro u _; go_simp
  try simp only [Act.put]
  refine wpAnyH_take (i := 13) (v := .bool ((((s[0]'h0).toNat : Nat) : Int) != 48)) rfl (by kernel_rfl) (by kernel_rfl) (by kernel_rfl) (fun _ _ _ h => h) (Or.inl ⟨by kernel_rfl, ?_⟩) hS ?_
  · intro u _; go_simp
  try simp only [Act.put]
  refine wpAnyH_ready (rs := [14]) (by kernel_rfl) (by simp) ?_
  refine AllReadyH.cons rfl (fun K hK => ?_) AllReadyH.nil
  go_simp
  refine hK.out _ _ trivial (fun hS => ?_)
  clear hK K
  try simp only [Act.put]
  refine wpAnyH_ready (rs := [15]) (by kernel_rfl) (by simp) ?_
  refine AllReadyH.cons rfl (fun K hK => ?_) AllReadyH.nil
  go_simp
  refine hK.out _ _ trivial (fun hS => ?_)
  clear hK K
  try simp only [Act.put]
  refine wpAnyH_done (by kernel_rfl) ?_ _
  go_wp2
  refine bodyPost_ret (v := .tuple #[tkV 3 s (numV (bs s) : Nat) 0, .bool ((((s[0]'h0).toNat : Nat) : Int) != 48)]) (by simp [results, Tryd.results19, go_sem, tkV, c0, c1, c2, c3]) rfl ⟨rfl, (put4_below (Nat.le_refl _) hb1 _ _ _ _).drew⟩
set_option maxHeartbeats 2000000 in
theorem lnum_big (s : ByteArray) (w : World) (h0 : 0 < s.size) (hs : s.size ≤ 281474976710656) (hp : Lib.parseIntB 64 s.data.toList = .range) (hv : Vs w) :
    Calls Tryd.prog 19 #[.string s] w fun e w' => (∃ n, e = .returned (.tuple #[tkV 3 s n 0, .bool false])) ∧ Below w.heap.size w w' := by
  obtain ⟨tp, pv, hv⟩ := hv.err
  have hh : (bs s).head? = some (s[0]'h0) := by
    have := bs_drop s 0 h0
    rw [List.drop_zero] at this; rw [this]; rfl
  have B0 := B4.new w (.int .i64 0) (.string ⟨#[]⟩) (.int .i64 0) (.int .i64 0) 34
  have hb0 := below_alloc w (.cells #[.int .i64 0, .string ⟨#[]⟩, .int .i64 0, .int .i64 0] 34)
  have hv1 : (w.alloc (.cells #[.int .i64 0, .string ⟨#[]⟩, .int .i64 0, .int .i64 0] 34)).var? Tryd.prog "strconv.ErrRange" = some #[.iface tp pv] := Joins.var_stays Tryd.errNamed hv hb0 (Nat.le_refl _)
  go_enter Tryd.func19, Tryd.ntmps19
  go_wp2_with fail
  refine (Tryd.strconv_ParseInt_10_at64_range_var s hs hp tp pv _ hv1).mono ?_
  rintro e w1 ⟨N, rfl, _, _, hb⟩
  obtain ⟨c0, c1, c2, c3, f0, f1, f2, f3⟩ := B0.kept hb
  have hb1 := nxt hb0 hb
  clear hb B0 hb0 hv1
  go_wp2_with fail
  refine wp_region_held_drew (S := fun _ : World => True) (by kernel_rfl) trivial (fun hS => ?_)
  refine wpAnyH_take (i := 0) (v := .string s) rfl (by kernel_rfl) (by kernel_rfl) (by kernel_rfl) (fun _ _ _ h => h) (Or.inl ⟨by kernel_rfl, ?_⟩) hS ?_
  · intro u _; go_simp
  try simp only [Act.put]
  refine wpAnyH_take (i := 1) (v := .int .i64 (Lib.intSat 64 s.data.toList)) rfl (by kernel_rfl) (by kernel_rfl) (by kernel_rfl) (fun _ _ _ h => h) (Or.inl ⟨by kernel_rfl, ?_⟩) hS ?_
  · intro u _; go_simp
  try simp only [Act.put]
  refine wpAnyH_take (i := 2) (v := .agg #[.int .i64 3, .string s, .int .i64 (Lib.intSat 64 s.data.toList), .int .i64 0]) rfl (by kernel_rfl) (by kernel_rfl) (by kernel_rfl) (fun _ _ _ h => h) (Or.inl ⟨by kernel_rfl, ?_⟩) hS ?_
  · intro u _; go_simp
  try simp only [Act.put]
  refine wpAnyH_take (i := 3) (v := .iface 65 (.pointer (some ⟨N, 0, none⟩))) rfl (by kernel_rfl) (by kernel_rfl) (by kernel_rfl) (fun _ _ _ h => h) (Or.inl ⟨by kernel_rfl, ?_⟩) hS ?_
  · intro u _; go_simp
  try simp only [Act.put]
  refine wpAnyH_take (i := 4) (v := .bool false) rfl (by kernel_rfl) (by kernel_rfl) (by kernel_rfl) (fun _ _ _ h => h) (Or.inl ⟨by kernel_rfl, ?_⟩) hS ?_
  · intro u _; go_simp
  try simp only [Act.put]
  refine wpAnyH_take (i := 5) (v := .bool false) rfl (by kernel_rfl) (by kernel_rfl) (by kernel_rfl) (fun _ _ _ h => h) (Or.inl ⟨by kernel_rfl, ?_⟩) hS ?_
  · intro u _; go_simp
  try simp only [Act.put]
  refine wpAnyH_take (i := 6) (v := undef) rfl (by kernel_rfl) (by kernel_rfl) (by kernel_rfl) (fun _ _ _ h => h) (Or.inr ⟨by kernel_rfl, rfl⟩) hS ?_
  try simp only [Act.put]
  refine wpAnyH_take (i := 7) (v := undef) rfl (by kernel_rfl) (by kernel_rfl) (by kernel_rfl) (fun _ _ _ h => h) (Or.inr ⟨by kernel_rfl, rfl⟩) hS ?_
  try simp only [Act.put]
  refine wpAnyH_take (i := 8) (v := undef) rfl (by kernel_rfl) (by kernel_rfl) (by kernel_rfl) (fun _ _ _ h => h) (Or.inr ⟨by kernel_rfl, rfl⟩) hS ?_
  try simp only [Act.put]
  refine wpAnyH_take (i := 9) (v := undef) rfl (by kernel_rfl) (by kernel_rfl) (by kernel_rfl) (fun _ _ _ h => h) (Or.inr ⟨by kernel_rfl, rfl⟩) hS ?_
  try simp only [Act.put]
  refine wpAnyH_take (i := 10) (v := undef) rfl (by kernel_rfl) (by kernel_rfl) (by kernel_rfl) (fun _ _ _ h => h) (Or.inr ⟨by kernel_rfl, rfl⟩) hS ?_
  try simp only [Act.put]
  refine wpAnyH_take (i := 11) (v := undef) rfl (by kernel_rfl) (by kernel_rfl) (by kernel_rfl) (fun _ _ _ h => h) (Or.inr ⟨by kernel_rfl, rfl⟩) hS ?_
  try simp only [Act.put]
  refine wpAnyH_take (i := 12) (v := undef) rfl (by kernel_rfl) (by kernel_rfl) (by kernel_rfl) (fun _ _ _ h => h) (Or.inr ⟨by kernel_rfl, rfl⟩) hS ?_
  try simp only [Act.put]
  refine wpAnyH_take (i := 13) (v := .bool false) rfl (by kernel_rfl) (by kernel_rfl) (by kernel_rfl) (fun _ _ _ h => h) (Or.inl ⟨by kernel_rfl, ?_⟩) hS ?_
  · intro u _; go_simp
  try simp only [Act.put]
  refine wpAnyH_ready (rs := [14]) (by kernel_rfl) (by simp) ?_
  refine AllReadyH.cons rfl (fun K hK => ?_) AllReadyH.nil
  go_simp
  refine hK.out _ _ trivial (fun hS => ?_)
  clear hK K
  try simp only [Act.put]
  refine wpAnyH_ready (rs := [15]) (by kernel_rfl) (by simp) ?_
  refine AllReadyH.cons rfl (fun K hK => ?_) AllReadyH.nil
  go_simp
  refine hK.out _ _ trivial (fun hS => ?_)
  clear hK K
  try simp only [Act.put]
  refine wpAnyH_done (by kernel_rfl) ?_ _
  go_wp2
  refine bodyPost_ret (v := .tuple #[tkV 3 s (Lib.intSat 64 s.data.toList) 0, .bool false]) (by simp [results, Tryd.results19, go_sem, tkV, c0, c1, c2, c3]) rfl ⟨⟨_, rfl⟩, (put4_below (Nat.le_refl _) hb1 _ _ _ _).drew⟩
end Go.Proofs.YtgpaeilnpeflaaaDoor

/- Layer 5: the walk of lex.sign. -/
namespace Go.Proofs.YtgpaeilnpeflaaaDoor
open Go.RowKit

theorem idx_mem : ∀ (l : List UInt8) (c : UInt8), decide (0 ≤ Lib.indexByte l c) = l.contains c
  | [], c => rfl
  | b :: l, c => by
    have ih := idx_mem l c
    have hge := Lib.indexByte_ge l c
    unfold Lib.indexByte
    rw [List.contains_cons, ← ih]
    by_cases h : b = c
    · subst h; simp
    · rw [if_neg (by simpa using h)]
      have h' : (c == b) = false := by simpa using fun e => h e.symm
      rw [h', Bool.false_or]
      by_cases h1 : Lib.indexByte l c = -1
      · rw [h1]; rfl
      · rw [if_neg (by simpa using h1)]
        exact decide_eq_decide.2 (by omega)
/-- Whether one of the first k long signs begins the text. -/
def lgK (l : List UInt8) (k : Nat) : Bool := (decide (0 < k) && [61, 61].isPrefixOf l) || ((decide (1 < k) && [61, 62].isPrefixOf l) || ((decide (2 < k) && [45, 62].isPrefixOf l) || (decide (3 < k) && [58, 61].isPrefixOf l)))
theorem lgK_len {l : List UInt8} {k : Nat} (h : lgK l k = true) : 2 ≤ l.length := by
  match l with
  | [] => simp [lgK] at h
  | [c] => simp [lgK] at h
  | c :: d :: r => simp
theorem lgK_lg (c d : UInt8) (r : List UInt8) : lgK (c :: d :: r) 4 = lg c d := by
  have e : ∀ (x : UInt8) (n : Nat), n < 256 → (x = UInt8.ofNat n ↔ x.toNat = n) := fun x n hn => by
    rw [← UInt8.toNat_inj, u8, Nat.mod_eq_of_lt hn]
  have e1 := e c 61 (by omega); have e2 := e c 45 (by omega); have e3 := e c 58 (by omega)
  have e4 := e d 61 (by omega); have e5 := e d 62 (by omega)
  rw [Bool.eq_iff_iff]
  unfold lgK lg
  simp only [List.isPrefixOf, Bool.or_eq_true, Bool.and_eq_true, beq_iff_eq, Bool.and_true, decide_eq_true_eq]
  have f1 : (61 : UInt8) = c ↔ c.toNat = 61 := ⟨fun h => e1.1 h.symm, fun h => (e1.2 h).symm⟩
  have f2 : (45 : UInt8) = c ↔ c.toNat = 45 := ⟨fun h => e2.1 h.symm, fun h => (e2.2 h).symm⟩
  have f3 : (58 : UInt8) = c ↔ c.toNat = 58 := ⟨fun h => e3.1 h.symm, fun h => (e3.2 h).symm⟩
  have f4 : (61 : UInt8) = d ↔ d.toNat = 61 := ⟨fun h => e4.1 h.symm, fun h => (e4.2 h).symm⟩
  have f5 : (62 : UInt8) = d ↔ d.toNat = 62 := ⟨fun h => e5.1 h.symm, fun h => (e5.2 h).symm⟩
  rw [f1, f2, f3, f4, f5]
  omega
def szK (l : List UInt8) (k : Nat) : Nat := if lgK l k then 2 else 1
theorem szK_step (l : List UInt8) (k : Nat) (p : List UInt8) (hk : k < 4) (hp : [[61, 61], [61, 62], [45, 62], [58, 61]][k]? = some p) : szK l (k + 1) = if p.isPrefixOf l then 2 else szK l k := by
  have e : lgK l (k + 1) = (p.isPrefixOf l || lgK l k) := by
    match k, hk with
    | 0, _ => cases hp; simp [lgK]
    | 1, _ => cases hp; simp [lgK, Bool.or_comm]
    | 2, _ => cases hp; unfold lgK; simp only [Nat.reduceLT, decide_true, decide_false, Bool.true_and, Bool.false_and, Bool.or_false]; cases List.isPrefixOf [61, 61] l <;> cases List.isPrefixOf [61, 62] l <;> cases List.isPrefixOf [45, 62] l <;> rfl
    | 3, _ => cases hp; unfold lgK; simp only [Nat.reduceLT, decide_true, decide_false, Bool.true_and, Bool.false_and, Bool.or_false]; cases List.isPrefixOf [61, 61] l <;> cases List.isPrefixOf [61, 62] l <;> cases List.isPrefixOf [45, 62] l <;> cases List.isPrefixOf [58, 61] l <;> rfl
  unfold szK
  rw [e]
  cases p.isPrefixOf l <;> simp

theorem ix_at (v0 v1 v2 v3 : Value) (w : World) :
    (Instr.index 52 (.agg #[v0, v1, v2, v3]) (.int .i64 0)).run Tryd.prog w = .ok v0 w ∧ (Instr.index 52 (.agg #[v0, v1, v2, v3]) (.int .i64 1)).run Tryd.prog w = .ok v1 w ∧ (Instr.index 52 (.agg #[v0, v1, v2, v3]) (.int .i64 2)).run Tryd.prog w = .ok v2 w ∧ (Instr.index 52 (.agg #[v0, v1, v2, v3]) (.int .i64 3)).run Tryd.prog w = .ok v3 w := by
  have h : Tryd.prog.underlying 52 = some (.array 4 9) := by kernel_rfl
  refine ⟨?_, ?_, ?_, ?_⟩ <;> simp [Instr.index, run_underlying h, asIntOf, go_sem]
set_option maxRecDepth 100000 in
set_option maxHeartbeats 2000000 in
theorem lsign_any (s : ByteArray) (w : World) (hv : Vs w) (h0 : 0 < s.size) :
    Calls Tryd.prog 20 #[.string s] w fun e w' => e = .returned (.tuple #[tkV 4 (s.extract 0 (szK (bs s) 4)) 0 0, .bool (sg (s[0]'h0))]) ∧ Below w.heap.size w w' := by
  have B0 := B4.new w (.int .i64 0) (.string ⟨#[]⟩) (.int .i64 0) (.int .i64 0) 34
  have hb0 := below_alloc w (.cells #[.int .i64 0, .string ⟨#[]⟩, .int .i64 0, .int .i64 0] 34)
  obtain ⟨_, l0, l1, l2, l3⟩ := hv.kept hb0
  have ix := ix_at (.string ⟨#[61, 61]⟩) (.string ⟨#[61, 62]⟩) (.string ⟨#[45, 62]⟩) (.string ⟨#[58, 61]⟩) (w.alloc (.cells #[.int .i64 0, .string ⟨#[]⟩, .int .i64 0, .int .i64 0] 34))
  obtain ⟨i0, i1, i2, i3⟩ := ix
  have HL : Hid (∀ k, lgK (bs s) k = true → 2 ≤ s.size) := fun k h => by have := lgK_len h; rwa [bs_len] at this
  go_enter Tryd.func20, Tryd.ntmps20
  go_wp2
  clear l0 l1 l2 l3
  go_loop [4, 8] (fun z i => ∃ k n : Nat, k ≤ 4 ∧ Hid (n = szK (bs s) k) ∧ z = .int .i64 n ∧ i = .int .i64 k) (fun _ i => 4 - (intOf i).toNat)
  case atStart => exact ⟨0, 1, by omega, by simp [Hid, szK, lgK], rfl, rfl⟩
  case round =>
    obtain ⟨k, n, hk, HN, rfl, rfl⟩ := hrel
    by_cases h4 : k < 4
    · have cs : k = 0 ∨ k = 1 ∨ k = 2 ∨ k = 3 := by omega
      rcases cs with rfl | rfl | rfl | rfl
      · go_wp2_with (go_at_call 31; refine (Tryd.strings_HasPrefix _ _ _).mono ?_; rintro e w' ⟨rfl, rfl⟩)
        · have t : Lib.hasPrefix s.data.toList [61, 61] = true := by assumption
          exact ⟨⟨1, 2, by omega, by show 2 = szK (bs s) 1; rw [szK_step (bs s) 0 [61, 61] (by omega) rfl]; exact (if_pos t).symm, rfl, rfl⟩, by simp [intOf]⟩
        · have t : Lib.hasPrefix s.data.toList [61, 61] = false := by assumption
          exact ⟨⟨1, n, by omega, by show n = szK (bs s) 1; rw [szK_step (bs s) 0 [61, 61] (by omega) rfl, if_neg (fun h => by rw [show List.isPrefixOf [61, 61] (bs s) = false from t] at h; cases h)]; exact HN.out, rfl, rfl⟩, by simp [intOf]⟩
      · go_wp2_with (go_at_call 31; refine (Tryd.strings_HasPrefix _ _ _).mono ?_; rintro e w' ⟨rfl, rfl⟩)
        · have t : Lib.hasPrefix s.data.toList [61, 62] = true := by assumption
          exact ⟨⟨2, 2, by omega, by show 2 = szK (bs s) 2; rw [szK_step (bs s) 1 [61, 62] (by omega) rfl]; exact (if_pos t).symm, rfl, rfl⟩, by simp [intOf]⟩
        · have t : Lib.hasPrefix s.data.toList [61, 62] = false := by assumption
          exact ⟨⟨2, n, by omega, by show n = szK (bs s) 2; rw [szK_step (bs s) 1 [61, 62] (by omega) rfl, if_neg (fun h => by rw [show List.isPrefixOf [61, 62] (bs s) = false from t] at h; cases h)]; exact HN.out, rfl, rfl⟩, by simp [intOf]⟩
      · go_wp2_with (go_at_call 31; refine (Tryd.strings_HasPrefix _ _ _).mono ?_; rintro e w' ⟨rfl, rfl⟩)
        · have t : Lib.hasPrefix s.data.toList [45, 62] = true := by assumption
          exact ⟨⟨3, 2, by omega, by show 2 = szK (bs s) 3; rw [szK_step (bs s) 2 [45, 62] (by omega) rfl]; exact (if_pos t).symm, rfl, rfl⟩, by simp [intOf]⟩
        · have t : Lib.hasPrefix s.data.toList [45, 62] = false := by assumption
          exact ⟨⟨3, n, by omega, by show n = szK (bs s) 3; rw [szK_step (bs s) 2 [45, 62] (by omega) rfl, if_neg (fun h => by rw [show List.isPrefixOf [45, 62] (bs s) = false from t] at h; cases h)]; exact HN.out, rfl, rfl⟩, by simp [intOf]⟩
      · go_wp2_with (go_at_call 31; refine (Tryd.strings_HasPrefix _ _ _).mono ?_; rintro e w' ⟨rfl, rfl⟩)
        · have t : Lib.hasPrefix s.data.toList [58, 61] = true := by assumption
          exact ⟨⟨4, 2, by omega, by show 2 = szK (bs s) 4; rw [szK_step (bs s) 3 [58, 61] (by omega) rfl]; exact (if_pos t).symm, rfl, rfl⟩, by simp [intOf]⟩
        · have t : Lib.hasPrefix s.data.toList [58, 61] = false := by assumption
          exact ⟨⟨4, n, by omega, by show n = szK (bs s) 4; rw [szK_step (bs s) 3 [58, 61] (by omega) rfl, if_neg (fun h => by rw [show List.isPrefixOf [58, 61] (bs s) = false from t] at h; cases h)]; exact HN.out, rfl, rfl⟩, by simp [intOf]⟩
    · have e4 : k = 4 := by omega
      subst e4
      have n0 : (0 : Int) ≤ n := by omega
      have n1 : (n : Int) ≤ s.size := by
        have h := HN.out
        unfold szK at h
        split at h
        · have := HL.out 4 (by assumption); omega
        · omega
      have HI : Hid (decide (0 ≤ Lib.indexByte sgs (s[0]'h0)) = sg (s[0]'h0)) := idx_mem sgs (s[0]'h0)
      have HC : Hid (((s[0]'h0).toNat : Int).toNat.toUInt8 = s[0]'h0) := by show ((s[0]'h0).toNat : Int).toNat.toUInt8 = s[0]'h0; simp
      obtain ⟨c0, c1, c2, c3, f0, f1, f2, f3⟩ := B0
      clear i0 i1 i2 i3
      go_wp2_with fail
      have hS : True := trivial
      go_region_held3 (fun _ : World => True) (first | exact trivial) ((go_at_call 32; refine (Tryd.strings_IndexByte _ _ _).mono ?_; rintro e w' ⟨rfl, rfl⟩))
      go_wp2
      refine bodyPost_ret (v := .tuple #[tkV 4 (s.extract 0 n) 0 0, .bool (decide (0 ≤ Lib.indexByte sgs (s[0]'h0)))]) (by simp [results, Tryd.results20, go_sem, tkV, sgs] <;> congr) rfl ⟨by rw [HI.out, ← HN.out], (below_alloc _ _).drew⟩
end Go.Proofs.YtgpaeilnpeflaaaDoor
