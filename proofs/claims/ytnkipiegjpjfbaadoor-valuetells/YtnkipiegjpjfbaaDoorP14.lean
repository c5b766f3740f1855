/- Layer 3: Same, by the walk through two values at once, where it puts nothing off. -/
import Derived.Test.YtnkipiegjpjfbaaDoorP11
import Derived.Laws.EntriesVeiled
import Derived.Test.YtnkipiegjpjfbaaDoorP13
namespace Go.Proofs.YtnkipiegjpjfbaaDoor
open Go.RowKit

def vhdEq (s t : Vl) : Bool := ((s.k == t.k) && (s.m == t.m)) && (s.len == t.len)
theorem vsame_eq (s t : Vl) : s.same t = (vhdEq s t && decide (∀ i, i < s.len → (s.ps i).same (t.ps i) = true)) := by
  rcases s with _ | ⟨k, m, ao, b, o, len, cap, ps⟩
  · have e : decide (∀ i : Nat, i < 0 → Vl.same (Vl.dm.ps i) (t.ps i) = true) = true := decide_eq_true (fun _ h => absurd h (Nat.not_lt_zero _))
    show (((0 == t.k) && (0 == t.m)) && (0 == t.len)) = ((((0 : Int) == t.k) && ((0 : Int) == t.m)) && (0 == t.len) && decide (∀ i : Nat, i < 0 → Vl.same (Vl.dm.ps i) (t.ps i) = true))
    rw [e, Bool.and_true]
  · rfl
theorem vhd_cases (s t : Vl) : ((s.k == t.k) = false ∧ vhdEq s t = false) ∨ ((s.k == t.k) = true ∧ (s.m == t.m) = false ∧ vhdEq s t = false) ∨ ((s.k == t.k) = true ∧ (s.m == t.m) = true ∧ vhdEq s t = ((s.len : Int) == t.len)) := by
  unfold vhdEq
  have : ((s.len : Int) == t.len) = (s.len == t.len) := by
    by_cases h : s.len = t.len
    · rw [h]; simp
    · rw [beq_eq_false_iff_ne.2 h, beq_eq_false_iff_ne.2 (by omega)]
  rw [this]
  cases (s.k == t.k) <;> cases (s.m == t.m) <;> simp
theorem start_vv (w : World) (s t : Vl) : Bv ((w.alloc (vlO s)).alloc (vlO t)) w.heap.size s ∧ Bv ((w.alloc (vlO s)).alloc (vlO t)) (w.heap.size + 1) t ∧ Below w.heap.size w ((w.alloc (vlO s)).alloc (vlO t)) := by
  have h4 := Bv.new (w.alloc (vlO s)) t
  rw [alloc_size] at h4
  exact ⟨(Bv.new w s).kept (below_alloc _ _), h4, Below.next (below_alloc _ _) (below_alloc _ _)⟩

set_option maxHeartbeats 2000000 in
theorem vsame1_any (s t : Vl) (w : World) (hs : s.At w) (ht : t.At w) :
    Calls Tryd.prog 27 #[.agg #[.int .i64 s.k, .int .i64 s.m, .slice s.ao s.len s.cap], .agg #[.int .i64 t.k, .int .i64 t.m, .slice t.ao t.len t.cap]] w fun e w' => e = .returned (.bool (vhdEq s t)) ∧ Below w.heap.size w w' := by
  obtain ⟨X0, Y0, B0⟩ := start_vv w s t
  have b1 := hs.bound
  have b2 := ht.bound
  unfold vlO at *
  rcases vhd_cases s t with ⟨h1, hE⟩ | ⟨h1, h2, hE⟩ | ⟨h1, h2, hE⟩
  all_goals rw [hE]
  all_goals clear hE
  all_goals
    go_enter Tryd.func27, Tryd.ntmps27
    go_wp2
    go_ret
    exact ⟨rfl, B0⟩

/-- The walk's variable: asked is Same's question, L nodes may still be gone through, nothing is put off. -/
structure Wv (w : World) (X L : Nat) : Prop where
  c0 : w.cell? ⟨X, 0, none⟩ = some (.func (.func 26) #[] #[])
  c1 : w.cell? ⟨X, 1, none⟩ = some (.func (.func 27) #[] #[])
  c2 : w.cell? ⟨X, 2, none⟩ = some (.int .i64 L)
  c3 : w.cell? ⟨X, 3, none⟩ = some (.slice none 0 0)
  f2 : w.frozen? ⟨X, 2, none⟩ = false
theorem Wv.kept {w w' : World} {X L : Nat} (h : Wv w X L) (hb : Below w.heap.size w w') : Wv w' X L :=
  ⟨up hb h.c0, up hb h.c1, up hb h.c2, up hb h.c3, by rw [hb.frozen (p := ⟨X, 2, none⟩) (by have := World.block_lt_of_cell? w _ h.c0; exact this)]; exact h.f2⟩
theorem Wv.set {w : World} {X L : Nat} (h : Wv w X L) (L' : Nat) : Wv (w.setCell ⟨X, 2, none⟩ (.int .i64 L')) X L' :=
  ⟨by rw [World.cell?_setCell_other _ _ _ _ (by simp)]; exact h.c0, by rw [World.cell?_setCell_other _ _ _ _ (by simp)]; exact h.c1, World.cell?_setCell_same _ _ _ h.c2, by rw [World.cell?_setCell_other _ _ _ _ (by simp)]; exact h.c3, by rw [World.frozen?_setCell]; exact h.f2⟩

theorem vhd_len {s t : Vl} (h : vhdEq s t = true) : s.len = t.len := by
  unfold vhdEq at h
  simp only [Bool.and_eq_true, beq_iff_eq] at h
  exact h.2
/-- How many nodes the Parts have. -/
def Vl.pn (t : Vl) : Nat := sumTo (fun i => (t.ps i).nodes) t.len
theorem vpn_nodes (t : Vl) : t.nodes = 1 + t.pn := by
  cases t <;> rfl

/-- What the walk answers of the Parts of s and t, and what it leaves. -/
def VP (w0 : World) (X : Nat) (s t : Vl) (L : Nat) (e : Ending) (w' : World) : Prop :=
  ∃ r : Bool, e = .returned (.bool r) ∧ r = decide (∀ i, i < s.len → (s.ps i).same (t.ps i) = true) ∧ Below w0.heap.size w0 w' ∧ ∃ L', Wv w' X L' ∧ (r = true → L' + s.pn = L)
theorem VP.intro {w0 : World} {X : Nat} {s t : Vl} {L : Nat} {e : Ending} {w' : World} (r : Bool) (h1 : e = .returned (.bool r)) (h2 : r = decide (∀ i, i < s.len → (s.ps i).same (t.ps i) = true)) (h3 : Below w0.heap.size w0 w') (L' : Nat) (h4 : Wv w' X L') (h5 : r = true → L' + s.pn = L) : VP w0 X s t L e w' := ⟨r, h1, h2, h3, L', h4, h5⟩

set_option maxRecDepth 100000 in
set_option maxHeartbeats 8000000 in
theorem vparts_any (w0 : World) (X : Nat) (hX : w0.heap.size ≤ X) : ∀ (s t : Vl) (w : World) (L : Nat), s.At w0 → t.At w0 → s.len = t.len → s.pn ≤ L → L ≤ 4000 → Wv w X L → Below w0.heap.size w0 w →
    Calls Tryd.prog 45 #[.pointer (some ⟨X, 0, none⟩), .slice s.ao s.len s.cap, .slice t.ao t.len t.cap] w fun e w' => VP w0 X s t L e w' := by
  intro s
  induction s with
  | dm => intro t w L hs; exact hs.elim
  | mk sk sm sao sb so slen scap sps ih =>
    intro t w L hs ht hl hL h4000 hW hB
    rcases t with _ | ⟨tk, tm, tao, tb, to', tlen, tcap, tps⟩
    · exact ht.elim
    have hl' : slen = tlen := hl
    subst hl'
    show Calls Tryd.prog 45 #[.pointer (some ⟨X, 0, none⟩), .slice sao slen scap, .slice tao slen tcap] w fun e w' => VP w0 X (.mk sk sm sao sb so slen scap sps) (.mk tk tm tao tb to' slen tcap tps) L e w'
    have HL : Hid (sumTo (fun i => (sps i).nodes) slen ≤ L) := hL
    have b1 : slen ≤ 9223372036854775807 := hs.bound
    have n1 : 0 < slen → sao = some ⟨sb, so, none⟩ := hs.nil
    have n2 : 0 < slen → tao = some ⟨tb, to', none⟩ := ht.nil
    have HW : Hid (Wv w X L ∧ Below w0.heap.size w0 w) := ⟨hW, hB⟩
    clear hL hl hW hB
    go_enter Tryd.func45, Tryd.ntmps45
    go_wp2
    go_loopw [10] (fun i wr => ∃ j l : Nat, j ≤ slen ∧ i = .int .i64 j ∧ (∀ i, i < j → (sps i).same (tps i) = true) ∧ l + sumTo (fun i => (sps i).nodes) j = L ∧ Wv wr X l ∧ Below w0.heap.size w0 wr) (fun i _ => slen - (intOf i).toNat)
    case atStart => exact ⟨0, L, Nat.zero_le _, rfl, fun _ h => absurd h (Nat.not_lt_zero _), rfl, HW.out.1, HW.out.2⟩
    case round =>
      obtain ⟨j, l, hj, rfl, hdone, hl, hW, hB⟩ := hrel
      clear HW
      have HD : Hid ((∀ i, i < j → (sps i).same (tps i) = true) ∧ l + sumTo (fun i => (sps i).nodes) j = L) := ⟨hdone, hl⟩
      clear hdone
      by_cases hlt : j < slen
      · have ij : (j : Int) < slen := by omega
        have hsum := sumTo_le (fun i => (sps i).nodes) hlt
        have hnod := vpn_nodes (sps j)
        have hLL := HL.out
        have hl0 : 1 ≤ l := by omega
        have HN : Hid ((sps j).pn ≤ l - 1 ∧ l ≤ 4000 ∧ (sps j).nodes = 1 + (sps j).pn) := ⟨by omega, by omega, hnod⟩
        clear hsum hnod hLL hl
        have a1 := n1 (by omega)
        have a2 := n2 (by omega)
        subst a1 a2
        have e0 : ((l : Int) == 0) = false := by simp; omega
        have k1 := hW.c2
        have kf := hW.f2
        have i1 : (1 : Int) ≤ l := by omega
        have i2 : (l : Int) ≤ 4000 := by have := HN.out.2.1; omega
        have W2 : Wv (wr.setCell ⟨X, 2, none⟩ (.int .i64 ((l : Int) - 1))) X (l - 1) := by
          have := hW.set (l - 1)
          rwa [show ((l - 1 : Nat) : Int) = (l : Int) - 1 by omega] at this
        have B2 : Below w0.heap.size w0 (wr.setCell ⟨X, 2, none⟩ (.int .i64 ((l : Int) - 1))) := hB.setCell hX _
        clear hW hB
        have C : C3 _ sb (so + j * 3) (sps j) := (hs.kept B2).cells hlt
        have D : C3 _ tb (to' + j * 3) (tps j) := (ht.kept B2).cells hlt
        have P : (sps j).At w0 := hs.part hlt
        have R : (tps j).At w0 := ht.part hlt
        go_wp2
        generalize wr.setCell ⟨X, 2, none⟩ (.int .i64 ((l : Int) - 1)) = w2 at *
        cases hq : vhdEq (sps j) (tps j)
        · have k0 := fun x => Gr.cell x W2.c1
          have p0 := fun x => Gr.cell x C.c0
          have p1 := fun x => Gr.cell x C.c1
          have p2 := fun x => Gr.cell x C.c2
          have q0 := fun x => Gr.cell x D.c0
          have q1 := fun x => Gr.cell x D.c1
          have q2 := fun x => Gr.cell x D.c2
          have hNE : Nonempty (Gr w2) := ⟨⟨_, Below.refl _ _⟩⟩
          have H1 : ∀ u, Below w0.heap.size w0 u → Calls Tryd.prog 27 #[.agg #[.int .i64 (sps j).k, .int .i64 (sps j).m, .slice (sps j).ao (sps j).len (sps j).cap], .agg #[.int .i64 (tps j).k, .int .i64 (tps j).m, .slice (tps j).ao (tps j).len (tps j).cap]] u fun e w' => e = .returned (.bool false) ∧ Below u.heap.size u w' := fun u hu => by
            have := vsame1_any (sps j) (tps j) u (P.kept hu) (R.kept hu)
            rwa [hq] at this
          have HQ : Hid ((sps j).same (tps j) = false) := by show (sps j).same (tps j) = false; rw [vsame_eq, hq]; rfl
          clear hq
          refine wp_region_gr (by kernel_rfl) (by kernel_rfl) ?_
          repeat (first | go_big_quiet_step ((go_at_call 27; exact Calls.gr _ (H1 _ (Below.next B2 (Gr.bl _))))))
          refine wpQuiet_nil ?_
          rintro w4 ⟨x4, rfl⟩
          have B4 := x4.bl
          generalize x4.w = w4 at B4 ⊢
          clear x4 k0 p0 p1 p2 q0 q1 q2 hNE C D P R H1
          go_wp2
          go_ret
          exact VP.intro false rfl (decide_eq_false (fun hh => absurd (HQ.out.symm.trans (hh j hlt)) (by decide))).symm (Below.next B2 B4) (l - 1) (W2.kept B4) (fun h => Bool.noConfusion h)
        · have H1 : ∀ u, Below w0.heap.size w0 u → Calls Tryd.prog 27 #[.agg #[.int .i64 (sps j).k, .int .i64 (sps j).m, .slice (sps j).ao (sps j).len (sps j).cap], .agg #[.int .i64 (tps j).k, .int .i64 (tps j).m, .slice (tps j).ao (tps j).len (tps j).cap]] u fun e w' => e = .returned (.bool true) ∧ Below u.heap.size u w' := fun u hu => by
            have := vsame1_any (sps j) (tps j) u (P.kept hu) (R.kept hu)
            rwa [hq] at this
          have H2 := fun u (hu : Wv u X (l - 1)) (hv : Below w0.heap.size w0 u) => ih j (tps j) u (l - 1) P R (vhd_len hq) HN.out.1 (by have := HN.out.2.1; omega) hu hv
          have HQ : Hid ((sps j).same (tps j) = decide (∀ i, i < (sps j).len → ((sps j).ps i).same ((tps j).ps i) = true)) := by show (sps j).same (tps j) = _; rw [vsame_eq, hq]; rfl
          clear hq
          have k0 := fun x => Gr.cell x W2.c1
          have k9 := fun x => Gr.cell x W2.c0
          have p0 := fun x => Gr.cell x C.c0
          have p1 := fun x => Gr.cell x C.c1
          have p2 := fun x => Gr.cell x C.c2
          have q0 := fun x => Gr.cell x D.c0
          have q1 := fun x => Gr.cell x D.c1
          have q2 := fun x => Gr.cell x D.c2
          have hNE : Nonempty (Gr w2) := ⟨⟨_, Below.refl _ _⟩⟩
          refine wp_region_gr_tail 34 (by kernel_rfl) (by kernel_rfl) ?_
          simp only [List.take, List.drop]
          repeat (first | go_big_quiet_step ((first | (go_at_call 27; exact Calls.gr _ (H1 _ (Below.next B2 (Gr.bl _)))) | (go_at_call 26; first | with_reducible exact Calls.gr _ (vpartsOf_any (sps j) _) | with_reducible exact Calls.gr _ (vpartsOf_any (tps j) _)))))
          refine wpQuiet_nil ?_
          rintro w4 ⟨x4, rfl⟩
          have B4 := x4.bl
          generalize x4.w = w4 at B4 ⊢
          clear x4 k0 k9 p0 p1 p2 q0 q1 q2 hNE C D P R H1
          have H3 := H2 w4 (W2.kept B4) (Below.next B2 B4)
          clear H2 W2 B2 B4
          go_wp2_with fail
          refine H3.mono ?_
          intro e w6 hVP
          obtain ⟨r, rfl, hr, B6, L6, W6, hr6⟩ := hVP
          have HR : Hid (r = decide (∀ i, i < (sps j).len → ((sps j).ps i).same ((tps j).ps i) = true) ∧ (r = true → L6 + (sps j).pn = l - 1)) := ⟨hr, hr6⟩
          clear hr hr6 H3
          cases r
          · go_wp2
            go_ret
            exact VP.intro false rfl (decide_eq_false (fun hh => absurd ((HR.out.1.trans HQ.out.symm).trans (hh j hlt)) (by decide))).symm B6 L6 W6 (fun h => Bool.noConfusion h)
          · go_wp2
            go_roundw
            case rel => exact ⟨j + 1, L6, by omega, by go_num, fun i hi => (by
                by_cases e : i = j
                · subst e; rw [HQ.out, ← HR.out.1]
                · exact HD.out.1 i (by omega)), by have h1 := HD.out.2; have h2 := HR.out.2 (by simp); have h3 := HN.out; simp only [sumTo]; omega, W6, B6⟩
            case measure => simp [intOf]; omega
      · have e : slen = j := by omega
        subst e
        have dl : ¬ (slen : Int) < slen := by omega
        go_wp2
        go_ret
        exact VP.intro true rfl (decide_eq_true HD.out.1).symm hB l hW (fun _ => HD.out.2)
theorem wv_new (w : World) : Wv (w.alloc (.cells #[.func (.func 26) #[] #[], .func (.func 27) #[] #[], .int .i64 4000, .slice none 0 0, .map none] 79)) w.heap.size 4000 := by
  constructor <;> simp

set_option maxRecDepth 100000 in
set_option maxHeartbeats 4000000 in
theorem veverywhere_any (s t : Vl) (w : World) (hs : s.At w) (ht : t.At w) (hL : s.pn ≤ 4000) :
    Calls Tryd.prog 25 #[.agg #[.int .i64 s.k, .int .i64 s.m, .slice s.ao s.len s.cap], .agg #[.int .i64 t.k, .int .i64 t.m, .slice t.ao t.len t.cap], .func (.func 26) #[] #[], .func (.func 27) #[] #[]] w fun e w' => e = .returned (.bool (s.same t)) ∧ Below w.heap.size w w' := by
  obtain ⟨X0, Y0, B0⟩ := start_vv w s t
  have hs0 := hs.kept B0
  have ht0 := ht.kept B0
  have K0 := wv_new ((w.alloc (vlO s)).alloc (vlO t))
  have BK := below_alloc ((w.alloc (vlO s)).alloc (vlO t)) (.cells #[.func (.func 26) #[] #[], .func (.func 27) #[] #[], .int .i64 4000, .slice none 0 0, .map none] 79)
  have X1 := X0.kept BK
  have Y1 := Y0.kept BK
  have sz : ((w.alloc (vlO s)).alloc (vlO t)).heap.size = w.heap.size + 2 := by rw [alloc_size, alloc_size]
  have HP := fun u (L : Nat) (hu : Wv u ((w.alloc (vlO s)).alloc (vlO t)).heap.size L) (h1 : s.pn ≤ L) (h2 : L ≤ 4000) (h3 : s.len = t.len) (hv : Below ((w.alloc (vlO s)).alloc (vlO t)).heap.size ((w.alloc (vlO s)).alloc (vlO t)) u) => vparts_any _ _ (Nat.le_refl _) s t u L hs0 ht0 h3 h1 h2 hu hv
  rw [sz] at HP K0
  unfold vlO at *
  have HB : Hid (Below w.heap.size w ((w.alloc (.cells #[.int .i64 s.k, .int .i64 s.m, .slice s.ao s.len s.cap] 24)).alloc (.cells #[.int .i64 t.k, .int .i64 t.m, .slice t.ao t.len t.cap] 24))) := B0
  have HZ : Hid (((w.alloc (.cells #[.int .i64 s.k, .int .i64 s.m, .slice s.ao s.len s.cap] 24)).alloc (.cells #[.int .i64 t.k, .int .i64 t.m, .slice t.ao t.len t.cap] 24)).heap.size = w.heap.size + 2) := sz
  clear B0 sz
  go_enter Tryd.func25, Tryd.ntmps25
  go_wp2
  generalize ((w.alloc (.cells #[.int .i64 s.k, .int .i64 s.m, .slice s.ao s.len s.cap] 24)).alloc (.cells #[.int .i64 t.k, .int .i64 t.m, .slice t.ao t.len t.cap] 24)) = w0 at *
  generalize w0.alloc (.cells #[.func (.func 26) #[] #[], .func (.func 27) #[] #[], .int .i64 4000, .slice none 0 0, .map none] 79) = w2 at *
  have H1 : ∀ u, Below w0.heap.size w0 u → Calls Tryd.prog 27 #[.agg #[.int .i64 s.k, .int .i64 s.m, .slice s.ao s.len s.cap], .agg #[.int .i64 t.k, .int .i64 t.m, .slice t.ao t.len t.cap]] u fun e w' => e = .returned (.bool (vhdEq s t)) ∧ Below u.heap.size u w' := fun u hu => vsame1_any s t u (hs0.kept hu) (ht0.kept hu)
  have x0 := fun q => Gr.cell q X1.c0
  have x1 := fun q => Gr.cell q X1.c1
  have x2 := fun q => Gr.cell q X1.c2
  have y0 := fun q => Gr.cell q Y1.c0
  have y1 := fun q => Gr.cell q Y1.c1
  have y2 := fun q => Gr.cell q Y1.c2
  have hNE : Nonempty (Gr w2) := ⟨⟨_, Below.refl _ _⟩⟩
  clear X0 Y0 X1 Y1
  cases hq : vhdEq s t
  · have HQ : Hid (s.same t = false) := by show s.same t = false; rw [vsame_eq, hq]; rfl
    rw [hq] at H1
    clear hq HP
    refine wp_region_gr (by kernel_rfl) (by kernel_rfl) ?_
    repeat (first | go_big_quiet_step ((go_at_call 27; exact Calls.gr _ (H1 _ (Below.next BK (Gr.bl _))))))
    refine wpQuiet_nil ?_
    rintro w4 ⟨q4, rfl⟩
    have B4 := q4.bl
    generalize q4.w = w4 at B4 ⊢
    clear q4 x0 x1 x2 y0 y1 y2 hNE H1
    go_wp2
    go_ret
    exact ⟨ret_bool HQ.out.symm, Below.next HB.out (Below.next BK B4)⟩
  · have HQ : Hid (s.same t = decide (∀ i, i < s.len → (s.ps i).same (t.ps i) = true)) := by show s.same t = _; rw [vsame_eq, hq]; rfl
    have hl := vhd_len hq
    rw [hq] at H1
    have hP := fun (w5 : World) (B5 : Below w2.heap.size w2 w5) => HP w5 4000 (K0.kept B5) hL (Nat.le_refl _) hl ((Below.next BK B5).mono (Nat.le_of_eq HZ.out.symm))
    clear hl hq HP K0
    refine wp_region_gr_tail 12 (by kernel_rfl) (by kernel_rfl) ?_
    simp only [List.take, List.drop]
    repeat (first | go_big_quiet_step ((first | (go_at_call 27; exact Calls.gr _ (H1 _ (Below.next BK (Gr.bl _)))) | (go_at_call 26; first | with_reducible exact Calls.gr _ (vpartsOf_any s _) | with_reducible exact Calls.gr _ (vpartsOf_any t _)))))
    refine wpQuiet_nil ?_
    rintro w4 ⟨q4, rfl⟩
    have B4 := q4.bl
    generalize q4.w = w4 at B4 ⊢
    clear q4 x0 x1 x2 y0 y1 y2 hNE H1
    have H3 := hP w4 B4
    clear hP
    go_wp2_with fail
    refine H3.mono ?_
    intro e w6 hVP
    obtain ⟨r, rfl, hr, B6, L6, W6, hr6⟩ := hVP
    have HR : Hid (r = decide (∀ i, i < s.len → (s.ps i).same (t.ps i) = true)) := hr
    clear hr hr6 H3
    cases r
    · go_wp2
      go_ret
      exact ⟨ret_bool (HR.out.trans HQ.out.symm), Below.next HB.out B6⟩
    · have k2 := W6.c3
      go_wp2
      go_loopw [10] (fun _ wr => wr = w6) (fun _ _ => 0)
      case atStart => rfl
      case round =>
        subst hrel
        go_wp2
        go_ret
        exact ⟨ret_bool (HR.out.trans HQ.out.symm), Below.next HB.out B6⟩

set_option maxHeartbeats 1000000 in
theorem vSame_any (s t : Vl) (w : World) (hs : s.At w) (ht : t.At w) (hL : s.pn ≤ 4000) :
    Calls Tryd.prog 10 #[.agg #[.int .i64 s.k, .int .i64 s.m, .slice s.ao s.len s.cap], .agg #[.int .i64 t.k, .int .i64 t.m, .slice t.ao t.len t.cap]] w fun e w' => e = .returned (.bool (s.same t)) ∧ Below w.heap.size w w' := by
  obtain ⟨X0, Y0, B0⟩ := start_vv w s t
  have h := veverywhere_any s t _ (hs.kept B0) (ht.kept B0) hL
  unfold vlO at *
  go_enter Tryd.func10, Tryd.ntmps10
  go_wp2_with fail
  refine h.mono ?_
  rintro e w5 ⟨rfl, hb5⟩
  go_wp2
  go_ret
  exact ⟨rfl, Below.next B0 hb5⟩
end Go.Proofs.YtnkipiegjpjfbaaDoor

/- Layer 3: the walks of the reference's Same and of the statement ValueTexts. -/
namespace Go.Proofs.YtnkipiegjpjfbaaDoor
open Go.RowKit

theorem toList_mk (l : List UInt8) : (⟨l.toArray⟩ : ByteArray).toList = l := by
  simp

theorem vsame_mk (k m : Int) (ao : Option Addr) (b o len cap : Nat) (ps : Nat → Vl) (u : Vl) : (Vl.mk k m ao b o len cap ps).same u = ((((k == u.k) && (m == u.m)) && (len == u.len)) && decide (∀ i, i < len → (ps i).same (u.ps i) = true)) := rfl

set_option maxRecDepth 100000 in
set_option maxHeartbeats 8000000 in
theorem rvSame_any : ∀ (v u : Vl) (w : World), v.At w → u.At w →
    Calls Tryd.prog 11 #[.agg #[.int .i64 v.k, .int .i64 v.m, .slice v.ao v.len v.cap], .agg #[.int .i64 u.k, .int .i64 u.m, .slice u.ao u.len u.cap]] w fun e w' => e = .returned (.bool (v.same u)) ∧ Below w.heap.size w w'
  | .dm, _, _, h, _ => h.elim
  | .mk k m ao b o len cap ps, u, w, hv, hu => by
    have HIH : Hid (∀ (i : Nat) (u : Vl) (w : World) (r : Bool), (ps i).At w → u.At w → (ps i).same u = r → Calls Tryd.prog 11 #[.agg #[.int .i64 (ps i).k, .int .i64 (ps i).m, .slice (ps i).ao (ps i).len (ps i).cap], .agg #[.int .i64 u.k, .int .i64 u.m, .slice u.ao u.len u.cap]] w fun e w' => e = .returned (.bool r) ∧ Below w.heap.size w w') := fun i u w r h1 h2 h3 => by
      rw [← h3]; exact rvSame_any (ps i) u w h1 h2
    cases u with
    | dm => exact hu.elim
    | mk k' m' ao' b' o' len' cap' ps' =>
      show Calls Tryd.prog 11 #[.agg #[.int .i64 k, .int .i64 m, .slice ao len cap], .agg #[.int .i64 k', .int .i64 m', .slice ao' len' cap']] w _
      rw [vsame_mk]
      show Calls Tryd.prog 11 #[.agg #[.int .i64 k, .int .i64 m, .slice ao len cap], .agg #[.int .i64 k', .int .i64 m', .slice ao' len' cap']] w fun e w' => e = .returned (.bool ((((k == k') && (m == m')) && (len == len')) && decide (∀ i, i < len → (ps i).same (ps' i) = true))) ∧ Below w.heap.size w w'
      have HB0 : Hid (Below w.heap.size w ((w.alloc (.cells #[.int .i64 k, .int .i64 m, .slice ao len cap] 24)).alloc (.cells #[.int .i64 k', .int .i64 m', .slice ao' len' cap'] 24))) := ((Below.refl _ _).alloc (Nat.le_refl _) _).alloc (by simp) _
      have hb1 := hv.2.1
      have hb2 := hu.2.1
      have HV : Hid (Vl.At w (.mk k m ao b o len cap ps)) := hv
      have HU : Hid (Vl.At w (.mk k' m' ao' b' o' len' cap' ps')) := hu
      clear hv hu
      by_cases hk : k = k'
      · subst hk
        by_cases hm : m = m'
        · subst hm
          by_cases hl : len = len'
          · subst hl
            have HEq : Hid (((((k == k) && (m == m)) && (len == len)) && decide (∀ i, i < len → (ps i).same (ps' i) = true)) = decide (∀ i, i < len → (ps i).same (ps' i) = true)) := by show _ = _; simp
            rw [HEq.out]
            have HX0 : Hid (Bv ((w.alloc (.cells #[.int .i64 k, .int .i64 m, .slice ao len cap] 24)).alloc (.cells #[.int .i64 k, .int .i64 m, .slice ao' len cap'] 24)) w.heap.size (.mk k m ao b o len cap ps) ∧ Bv ((w.alloc (.cells #[.int .i64 k, .int .i64 m, .slice ao len cap] 24)).alloc (.cells #[.int .i64 k, .int .i64 m, .slice ao' len cap'] 24)) (w.heap.size + 1) (.mk k m ao' b' o' len cap' ps')) := by
              refine ⟨(Bv.new w (.mk k m ao b o len cap ps)).kept ((Below.refl _ _).alloc (Nat.le_refl _) _), ?_⟩
              have h := Bv.new (w.alloc (.cells #[.int .i64 k, .int .i64 m, .slice ao len cap] 24)) (.mk k m ao' b' o' len cap' ps')
              rw [show (w.alloc (.cells #[.int .i64 k, .int .i64 m, .slice ao len cap] 24)).heap.size = w.heap.size + 1 by simp] at h
              exact h
            go_enter Tryd.func11, Tryd.ntmps11
            go_upto_region 1 with fail
            generalize (w.alloc (.cells #[.int .i64 k, .int .i64 m, .slice ao len cap] 24)).alloc (.cells #[.int .i64 k, .int .i64 m, .slice ao' len cap'] 24) = wv at *
            have hs0 := HB0.out.size
            have c0 := HX0.out.1.c0
            have c1 := HX0.out.1.c1
            have c2 := HX0.out.1.c2
            have d0 := HX0.out.2.c0
            have d1 := HX0.out.2.c1
            have d2 := HX0.out.2.c2
            dsimp only [Vl.k, Vl.m, Vl.ao, Vl.len, Vl.cap] at c0 c1 c2 d0 d1 d2
            go_wp2
            clear c0 c1 c2 d0 d1 d2
            go_loopw [5] (fun i wr => ∃ q : Nat, q ≤ len ∧ i = .int .i64 q ∧ (∀ i, i < q → (ps i).same (ps' i) = true) ∧ Below wv.heap.size wv wr) (fun i _ => len - (intOf i).toNat)
            case atStart => exact ⟨0, Nat.zero_le _, rfl, fun i hi => absurd hi (Nat.not_lt_zero _), Below.refl _ _⟩
            case round =>
              obtain ⟨q, hq, rfl, hdone, hw⟩ := hrel
              have HD : Hid (∀ i, i < q → (ps i).same (ps' i) = true) := hdone
              have HW : Hid (Below wv.heap.size wv wr) := hw
              have HX : Hid (Bv wr w.heap.size (.mk k m ao b o len cap ps) ∧ Bv wr (w.heap.size + 1) (.mk k m ao' b' o' len cap' ps')) := ⟨HX0.out.1.kept hw, HX0.out.2.kept hw⟩
              have HBw : Hid (Below w.heap.size w wr) := HB0.out.trans (hw.mono hs0)
              clear hdone hw
              have c2 := HX.out.1.c2
              have d2 := HX.out.2.c2
              dsimp only [Vl.ao, Vl.len, Vl.cap] at c2 d2
              by_cases hlt : q < len
              · have hao := HV.out.1 (by omega)
                have hao' := HU.out.1 (by omega)
                subst hao hao'
                have HCv : Hid (C3 wr b (o + q * 3) (ps q)) := ((HV.out.2.2 q hlt).1).kept HBw.out
                have HCu : Hid (C3 wr b' (o' + q * 3) (ps' q)) := ((HU.out.2.2 q hlt).1).kept HBw.out
                have HAv : Hid ((ps q).At wr ∧ (ps' q).At wr) := ⟨(HV.out.2.2 q hlt).2.kept HBw.out, (HU.out.2.2 q hlt).2.kept HBw.out⟩
                obtain ⟨r, hr⟩ : ∃ r, (ps q).same (ps' q) = r := ⟨_, rfl⟩
                have HSr : Hid ((ps q).same (ps' q) = r) := hr
                clear hr
                have hNE : Nonempty (Gr wr) := ⟨⟨_, Below.refl _ _⟩⟩
                have gc2 := fun x : Gr wr => x.cell c2
                have gd2 := fun x : Gr wr => x.cell d2
                have ga0 := fun x : Gr wr => x.cell HCv.out.c0
                have ga1 := fun x : Gr wr => x.cell HCv.out.c1
                have ga2 := fun x : Gr wr => x.cell HCv.out.c2
                have gb0 := fun x : Gr wr => x.cell HCu.out.c0
                have gb1 := fun x : Gr wr => x.cell HCu.out.c1
                have gb2 := fun x : Gr wr => x.cell HCu.out.c2
                go_wp2
                refine wp_region_gr (by kernel_rfl) (by kernel_rfl) ?_
                repeat (first | go_big_quiet_step ((go_at_call 11; exact Calls.gr _ (HIH.out q (ps' q) _ r (HAv.out.1.kept (Gr.bl _)) (HAv.out.2.kept (Gr.bl _)) HSr.out))))
                refine wpQuiet_nil ?_
                rintro w4 ⟨x4, rfl⟩
                have B4 := x4.bl
                generalize x4.w = w4 at B4 ⊢
                clear x4 hNE gc2 gd2 ga0 ga1 ga2 gb0 gb1 gb2
                have HB4 : Hid (Below wv.heap.size wv w4) := HW.out.trans (B4.mono HW.out.size)
                clear B4 c2 d2
                cases r
                · have HF : Hid (decide (∀ i, i < len → (ps i).same (ps' i) = true) = false) := decide_eq_false (fun h => by have := h q hlt; rw [HSr.out] at this; cases this)
                  go_wp2
                  go_ret
                  exact ⟨ret_bool HF.out.symm, HB0.out.trans (HB4.out.mono hs0)⟩
                · go_wp2
                  go_roundw
                  case rel =>
                    refine ⟨q + 1, by omega, by go_num, fun i hi => ?_, HB4.out⟩
                    rcases Nat.lt_succ_iff_lt_or_eq.1 hi with h | h
                    · exact HD.out i h
                    · subst h; exact HSr.out
                  case measure => simp [intOf]; omega
              · have HF : Hid (decide (∀ i, i < len → (ps i).same (ps' i) = true) = true) := decide_eq_true (fun i hi => HD.out i (by omega))
                go_wp2
                go_ret
                exact ⟨ret_bool HF.out.symm, HBw.out⟩
          · have y3 : ((len : Int) == (len' : Int)) = false := beq_eq_false_iff_ne.2 (by omega)
            have HE : Hid (((((k == k) && (m == m)) && (len == len')) && decide (∀ i, i < len → (ps i).same (ps' i) = true)) = false) := by show _ = _; rw [show (len == len') = false from beq_eq_false_iff_ne.2 hl]; simp
            rw [HE.out]
            clear hl
            go_enter Tryd.func11, Tryd.ntmps11
            go_wp2
            go_ret
            exact ⟨rfl, HB0.out⟩
        · have y2 : (m == m') = false := beq_eq_false_iff_ne.2 hm
          have HE : Hid (((((k == k) && (m == m')) && (len == len')) && decide (∀ i, i < len → (ps i).same (ps' i) = true)) = false) := by show _ = _; rw [y2]; simp
          rw [HE.out]
          clear hm
          go_enter Tryd.func11, Tryd.ntmps11
          go_wp2
          go_ret
          exact ⟨rfl, HB0.out⟩
      · have y1 : (k == k') = false := beq_eq_false_iff_ne.2 hk
        have HE : Hid (((((k == k') && (m == m')) && (len == len')) && decide (∀ i, i < len → (ps i).same (ps' i) = true)) = false) := by show _ = _; rw [y1]; simp
        rw [HE.out]
        have HK : Hid (¬ k = k') := hk
        clear hk
        have y1b : (k != k') = true := bne_iff_ne.2 HK.out
        go_enter Tryd.func11, Tryd.ntmps11
        go_wp2
        all_goals first | exact absurd (by assumption) HK.out | (go_ret; exact ⟨rfl, HB0.out⟩)

set_option maxRecDepth 100000 in
set_option maxHeartbeats 8000000 in
theorem valueTexts_any (v u : Vl) (w : World) (hv : v.At w) (hu : u.At w) (hT : Tab w) (hr : v.rng) (hs : u.rng) :
    Calls Tryd.prog 6 #[.agg #[.int .i64 v.k, .int .i64 v.m, .slice v.ao v.len v.cap], .agg #[.int .i64 u.k, .int .i64 u.m, .slice u.ao u.len u.cap]] w fun e w' => e = .returned (.bool true) ∧ Below w.heap.size w w' := by
  have HV : Hid (v.At w) := hv
  have HU : Hid (u.At w) := hu
  have HT : Hid (Tab w) := hT
  have HR : Hid (v.rng ∧ u.rng) := ⟨hr, hs⟩
  have HB0 : Hid (Below w.heap.size w ((w.alloc (.cells #[.int .i64 v.k, .int .i64 v.m, .slice v.ao v.len v.cap] 24)).alloc (.cells #[.int .i64 u.k, .int .i64 u.m, .slice u.ao u.len u.cap] 24))) := ((Below.refl _ _).alloc (Nat.le_refl _) _).alloc (by simp) _
  have HX0 : Hid (Bv ((w.alloc (.cells #[.int .i64 v.k, .int .i64 v.m, .slice v.ao v.len v.cap] 24)).alloc (.cells #[.int .i64 u.k, .int .i64 u.m, .slice u.ao u.len u.cap] 24)) w.heap.size v ∧ Bv ((w.alloc (.cells #[.int .i64 v.k, .int .i64 v.m, .slice v.ao v.len v.cap] 24)).alloc (.cells #[.int .i64 u.k, .int .i64 u.m, .slice u.ao u.len u.cap] 24)) (w.heap.size + 1) u) := by
    refine ⟨(Bv.new w v).kept ((Below.refl _ _).alloc (Nat.le_refl _) _), ?_⟩
    have h := Bv.new (w.alloc (.cells #[.int .i64 v.k, .int .i64 v.m, .slice v.ao v.len v.cap] 24)) u
    rw [show (w.alloc (.cells #[.int .i64 v.k, .int .i64 v.m, .slice v.ao v.len v.cap] 24)).heap.size = w.heap.size + 1 by simp] at h
    exact h
  clear hv hu hT hr hs
  go_enter Tryd.func6, Tryd.ntmps6
  go_upto_region 1 with fail
  generalize (w.alloc (.cells #[.int .i64 v.k, .int .i64 v.m, .slice v.ao v.len v.cap] 24)).alloc (.cells #[.int .i64 u.k, .int .i64 u.m, .slice u.ao u.len u.cap] 24) = wv at *
  have hs0 := HB0.out.size
  go_wp2_with fail
  refine (vawake_any wv (HT.out.kept HB0.out)).mono ?_
  rintro e w1 ⟨rfl, hb1⟩
  have HX1 : Hid (Bv w1 w.heap.size v ∧ Bv w1 (w.heap.size + 1) u) := ⟨HX0.out.1.kept hb1, HX0.out.2.kept hb1⟩
  have HB1 : Hid (Below w.heap.size w w1) := HB0.out.trans (hb1.mono hs0)
  have hs1 := HB1.out.size
  clear hb1 HX0 HB0 hs0
  have c0 := HX1.out.1.c0
  have c1 := HX1.out.1.c1
  have c2 := HX1.out.1.c2
  by_cases hnv : v.nodes ≤ 2000
  · have e1 : decide (v.nodes ≤ 2000) = true := decide_eq_true hnv
    have HE1 : Hid (decide (v.nodes ≤ 2000) = true) := e1
    clear e1
    go_wp2_with fail
    refine (rvSmall_any v w1 (HV.out.kept HB1.out)).mono ?_
    rw [HE1.out]
    rintro e w2 ⟨rfl, hb2⟩
    have HX2 : Hid (Bv w2 w.heap.size v ∧ Bv w2 (w.heap.size + 1) u) := ⟨HX1.out.1.kept hb2, HX1.out.2.kept hb2⟩
    have HB2 : Hid (Below w.heap.size w w2) := HB1.out.trans (hb2.mono hs1)
    have hs2 := HB2.out.size
    clear hb2 HX1 HB1 c0 c1 c2
    have c0 := HX2.out.1.c0
    have c1 := HX2.out.1.c1
    have c2 := HX2.out.1.c2
    have d0 := HX2.out.2.c0
    have d1 := HX2.out.2.c1
    have d2 := HX2.out.2.c2
    by_cases hnu : u.nodes ≤ 2000
    · have HE2 : Hid (decide (u.nodes ≤ 2000) = true) := decide_eq_true hnu
      go_wp2_with fail
      refine (rvSmall_any u w2 (HU.out.kept HB2.out)).mono ?_
      rw [HE2.out]
      rintro e w3 ⟨rfl, hb3⟩
      have HX3 : Hid (Bv w3 w.heap.size v ∧ Bv w3 (w.heap.size + 1) u) := ⟨HX2.out.1.kept hb3, HX2.out.2.kept hb3⟩
      have HB3 : Hid (Below w.heap.size w w3) := HB2.out.trans (hb3.mono hs2)
      have hs3 := HB3.out.size
      clear hb3 HX2 HB2 c0 c1 c2 d0 d1 d2
      have c0 := HX3.out.1.c0
      have c1 := HX3.out.1.c1
      have c2 := HX3.out.1.c2
      go_wp2_with fail
      refine (text_any v w3 (HV.out.kept HB3.out) (HT.out.kept HB3.out) HR.out.1).mono ?_
      rintro e w4 ⟨rfl, hb4⟩
      have HX4 : Hid (Bv w4 w.heap.size v ∧ Bv w4 (w.heap.size + 1) u) := ⟨HX3.out.1.kept hb4, HX3.out.2.kept hb4⟩
      have HB4 : Hid (Below w.heap.size w w4) := HB3.out.trans (hb4.mono hs3)
      have hs4 := HB4.out.size
      clear hb4 HX3 HB3 c0 c1 c2
      have d0 := HX4.out.2.c0
      have d1 := HX4.out.2.c1
      have d2 := HX4.out.2.c2
      go_wp2_with fail
      refine (text_any u w4 (HU.out.kept HB4.out) (HT.out.kept HB4.out) HR.out.2).mono ?_
      rintro e w5 ⟨rfl, hb5⟩
      have HX5 : Hid (Bv w5 w.heap.size v ∧ Bv w5 (w.heap.size + 1) u) := ⟨HX4.out.1.kept hb5, HX4.out.2.kept hb5⟩
      have HB5 : Hid (Below w.heap.size w w5) := HB4.out.trans (hb5.mono hs4)
      clear hb5 HX4 HB4 d0 d1 d2
      have c0 := HX5.out.1.c0
      have c1 := HX5.out.1.c1
      have c2 := HX5.out.1.c2
      have d0 := HX5.out.2.c0
      have d1 := HX5.out.2.c1
      have d2 := HX5.out.2.c2
      obtain ⟨s, hs⟩ : ∃ s, v.tx = s := ⟨_, rfl⟩
      obtain ⟨t, ht⟩ : ∃ t, u.tx = t := ⟨_, rfl⟩
      rw [hs, ht]
      have HST : Hid (v.tx = s ∧ u.tx = t) := ⟨hs, ht⟩
      clear hs ht
      cases hov : v.ok with
      | false =>
        have HS0 : Hid (s = ⟨#[]⟩) := by show s = _; rw [← HST.out.1]; unfold Vl.tx; rw [hov]; rfl
        have hte : v.te = 9 := by unfold Vl.te; rw [hov]; rfl
        have hse : s = ByteArray.empty := HS0.out
        rw [hte, hse]
        clear hse hte hov
        go_wp2
        go_ret
        exact ⟨rfl, HB5.out⟩
      | true =>
        have hte : v.te = 0 := by unfold Vl.te; rw [hov]; rfl
        have HSv : Hid (s = ⟨v.txt.toArray⟩) := by show s = _; rw [← HST.out.1]; unfold Vl.tx; rw [hov]; rfl
        have HOv : Hid (v.ok = true) := hov
        rw [hte]
        clear hte hov
        cases hou : u.ok with
        | false =>
          have htu : u.te = 9 := by unfold Vl.te; rw [hou]; rfl
          rw [htu]
          clear htu hou
          have HNe : Hid (s.toList ≠ []) := by
            show s.toList ≠ _
            rw [HSv.out, toList_mk]
            exact txt_ne v (vok_parts HOv.out).2
          go_wp2
          all_goals first | exact absurd (by assumption) HNe.out | (go_ret; exact ⟨rfl, HB5.out⟩)
        | true =>
          have htu : u.te = 0 := by unfold Vl.te; rw [hou]; rfl
          have HSu : Hid (t = ⟨u.txt.toArray⟩) := by show t = _; rw [← HST.out.2]; unfold Vl.tx; rw [hou]; rfl
          have HOu : Hid (u.ok = true) := hou
          rw [htu]
          clear htu hou
          go_wp2_with fail
          refine (rvSame_any v u w5 (HV.out.kept HB5.out) (HU.out.kept HB5.out)).mono ?_
          rintro e w6 ⟨rfl, hb6⟩
          have HB6 : Hid (Below w.heap.size w w6) := HB5.out.trans (hb6.mono HB5.out.size)
          clear hb6
          have HF : Hid ((s.toList == t.toList) = v.same u) := by
            show _ = _
            rw [HSv.out, HSu.out, ← txt_same v u (vok_parts HOv.out).2 (vok_parts HOu.out).2, toList_mk, toList_mk, Bool.eq_iff_iff, beq_iff_eq, decide_eq_true_eq]
          go_wp2
          go_ret
          exact ⟨ret_bool (by rw [HF.out]; simp), HB6.out⟩
    · have HE2 : Hid (decide (u.nodes ≤ 2000) = false) := decide_eq_false hnu
      go_wp2_with fail
      refine (rvSmall_any u w2 (HU.out.kept HB2.out)).mono ?_
      rw [HE2.out]
      rintro e w3 ⟨rfl, hb3⟩
      have HB3 : Hid (Below w.heap.size w w3) := HB2.out.trans (hb3.mono hs2)
      clear hb3
      go_wp2_with fail
      refine (vawake_any w3 (HT.out.kept HB3.out)).mono ?_
      rintro e w4 ⟨rfl, hb4⟩
      go_wp2
      go_ret
      exact ⟨rfl, HB3.out.trans (hb4.mono HB3.out.size)⟩
  · have HE1 : Hid (decide (v.nodes ≤ 2000) = false) := decide_eq_false hnv
    go_wp2_with fail
    refine (rvSmall_any v w1 (HV.out.kept HB1.out)).mono ?_
    rw [HE1.out]
    rintro e w2 ⟨rfl, hb2⟩
    have HB2 : Hid (Below w.heap.size w w2) := HB1.out.trans (hb2.mono hs1)
    clear hb2
    go_wp2_with fail
    refine (vawake_any w2 (HT.out.kept HB2.out)).mono ?_
    rintro e w3 ⟨rfl, hb3⟩
    go_wp2
    go_ret
    exact ⟨rfl, HB2.out.trans (hb3.mono HB2.out.size)⟩
end Go.Proofs.YtnkipiegjpjfbaaDoor
