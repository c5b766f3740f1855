/- Layer 2: Same. -/
import Derived.Test.YtbdhbgilaeldgaaGreatP9
import Derived.Laws.EntriesVeiled
namespace Go.Proofs.YtbdhbgilaeldgaaGreat
open Go.RowKit

theorem wk_new (w : World) : Wk (w.alloc (.cells #[.func (.func 109) #[] #[], .func (.func 110) #[] #[], .int .i64 4000, .slice none 0 0, .map none] 154)) w.heap.size 4000 := by
  constructor <;> simp

set_option maxRecDepth 100000 in
set_option maxHeartbeats 4000000 in
theorem everywhere_any (s t : Ty) (w : World) (hs : s.At w) (ht : t.At w) (hL : s.pn ≤ 4000) :
    Calls Tryz.prog 108 #[.agg #[.int .i64 s.k, .int .i64 s.l, .slice s.ao s.len s.cap, .int .i64 s.h, .int .i64 s.e], .agg #[.int .i64 t.k, .int .i64 t.l, .slice t.ao t.len t.cap, .int .i64 t.h, .int .i64 t.e], .func (.func 109) #[] #[], .func (.func 110) #[] #[]] w fun e w' => e = .returned (.bool (s.same t)) ∧ Below w.heap.size w w' := by
  obtain ⟨X0, Y0, B0⟩ := start_tt w s t
  have hs0 := hs.kept B0
  have ht0 := ht.kept B0
  have K0 := wk_new ((w.alloc (tyO s)).alloc (tyO t))
  have BK := below_alloc ((w.alloc (tyO s)).alloc (tyO t)) (.cells #[.func (.func 109) #[] #[], .func (.func 110) #[] #[], .int .i64 4000, .slice none 0 0, .map none] 154)
  have X1 := X0.kept BK
  have Y1 := Y0.kept BK
  have sz : ((w.alloc (tyO s)).alloc (tyO t)).heap.size = w.heap.size + 2 := by rw [alloc_size, alloc_size]
  have HP := fun u (L : Nat) (hu : Wk u ((w.alloc (tyO s)).alloc (tyO t)).heap.size L) (h1 : s.pn ≤ L) (h2 : L ≤ 4000) (h3 : s.len = t.len) (hv : Below ((w.alloc (tyO s)).alloc (tyO t)).heap.size ((w.alloc (tyO s)).alloc (tyO t)) u) => parts_any _ _ (Nat.le_refl _) s t u L hs0 ht0 h3 h1 h2 hu hv
  rw [sz] at HP K0
  unfold tyO at *
  have HB : Hid (Below w.heap.size w ((w.alloc (.cells #[.int .i64 s.k, .int .i64 s.l, .slice s.ao s.len s.cap, .int .i64 s.h, .int .i64 s.e] 38)).alloc (.cells #[.int .i64 t.k, .int .i64 t.l, .slice t.ao t.len t.cap, .int .i64 t.h, .int .i64 t.e] 38))) := B0
  have HZ : Hid (((w.alloc (.cells #[.int .i64 s.k, .int .i64 s.l, .slice s.ao s.len s.cap, .int .i64 s.h, .int .i64 s.e] 38)).alloc (.cells #[.int .i64 t.k, .int .i64 t.l, .slice t.ao t.len t.cap, .int .i64 t.h, .int .i64 t.e] 38)).heap.size = w.heap.size + 2) := sz
  clear B0 sz
  go_enter Tryz.func108, Tryz.ntmps108
  go_wp2
  generalize ((w.alloc (.cells #[.int .i64 s.k, .int .i64 s.l, .slice s.ao s.len s.cap, .int .i64 s.h, .int .i64 s.e] 38)).alloc (.cells #[.int .i64 t.k, .int .i64 t.l, .slice t.ao t.len t.cap, .int .i64 t.h, .int .i64 t.e] 38)) = w0 at *
  generalize w0.alloc (.cells #[.func (.func 109) #[] #[], .func (.func 110) #[] #[], .int .i64 4000, .slice none 0 0, .map none] 154) = w2 at *
  have H1 : ∀ u, Below w0.heap.size w0 u → Calls Tryz.prog 110 #[.agg #[.int .i64 s.k, .int .i64 s.l, .slice s.ao s.len s.cap, .int .i64 s.h, .int .i64 s.e], .agg #[.int .i64 t.k, .int .i64 t.l, .slice t.ao t.len t.cap, .int .i64 t.h, .int .i64 t.e]] u fun e w' => e = .returned (.bool (hdEq s t)) ∧ Below u.heap.size u w' := fun u hu => same1_any s t u (hs0.kept hu) (ht0.kept hu)
  have x0 := fun q => Gr.cell q X1.c0
  have x1 := fun q => Gr.cell q X1.c1
  have x2 := fun q => Gr.cell q X1.c2
  have x3 := fun q => Gr.cell q X1.c3
  have x4 := fun q => Gr.cell q X1.c4
  have y0 := fun q => Gr.cell q Y1.c0
  have y1 := fun q => Gr.cell q Y1.c1
  have y2 := fun q => Gr.cell q Y1.c2
  have y3 := fun q => Gr.cell q Y1.c3
  have y4 := fun q => Gr.cell q Y1.c4
  have hNE : Nonempty (Gr w2) := ⟨⟨_, Below.refl _ _⟩⟩
  clear X0 Y0 X1 Y1
  cases hq : hdEq s t
  · have HQ : Hid (s.same t = false) := by show s.same t = false; rw [same_eq, hq]; rfl
    rw [hq] at H1
    clear hq HP
    refine wp_region_gr (by kernel_rfl) (by kernel_rfl) ?_
    repeat (first | go_big_quiet_step ((go_at_call 110; exact Calls.gr _ (H1 _ (Below.next BK (Gr.bl _))))))
    refine wpQuiet_nil ?_
    rintro w4 ⟨q4, rfl⟩
    have B4 := q4.bl
    generalize q4.w = w4 at B4 ⊢
    clear q4 x0 x1 x2 x3 x4 y0 y1 y2 y3 y4 hNE H1
    go_wp2
    go_ret
    exact ⟨ret_bool HQ.out.symm, Below.next HB.out (Below.next BK B4)⟩
  · have HQ : Hid (s.same t = decide (∀ i, i < s.len → (s.ps i).same (t.ps i) = true)) := by show s.same t = _; rw [same_eq, hq]; rfl
    have hl := hd_len hq
    rw [hq] at H1
    have hP := fun (w5 : World) (B5 : Below w2.heap.size w2 w5) => HP w5 4000 (K0.kept B5) hL (Nat.le_refl _) hl ((Below.next BK B5).mono (Nat.le_of_eq HZ.out.symm))
    clear hl hq HP K0
    refine wp_region_gr_tail 12 (by kernel_rfl) (by kernel_rfl) ?_
    simp only [List.take, List.drop]
    repeat (first | go_big_quiet_step ((first | (go_at_call 110; exact Calls.gr _ (H1 _ (Below.next BK (Gr.bl _)))) | (go_at_call 109; first | with_reducible exact Calls.gr _ (partsOf_any s _) | with_reducible exact Calls.gr _ (partsOf_any t _)))))
    refine wpQuiet_nil ?_
    rintro w4 ⟨q4, rfl⟩
    have B4 := q4.bl
    generalize q4.w = w4 at B4 ⊢
    clear q4 x0 x1 x2 x3 x4 y0 y1 y2 y3 y4 hNE H1
    have H3 := hP w4 B4
    clear hP
    go_wp2_with fail
    refine H3.mono ?_
    intro e w6 hPP
    obtain ⟨r, rfl, hr, B6, L6, W6, hr6⟩ := hPP
    have HR : Hid (r = decide (∀ i, i < s.len → (s.ps i).same (t.ps i) = true)) := hr
    clear hr hr6 H3
    cases r
    · go_wp2
      go_ret
      exact ⟨ret_bool (HR.out.trans HQ.out.symm), Below.next HB.out B6⟩
    · have k2 := W6.c3
      go_wp2
      go_loopw [10] (fun _ wr => wr = w6) (fun _ _ => 0)
      case atStart => rfl
      case round =>
        subst hrel
        go_wp2
        go_ret
        exact ⟨ret_bool (HR.out.trans HQ.out.symm), Below.next HB.out B6⟩

set_option maxHeartbeats 1000000 in
theorem Same_any2 (s t : Ty) (w : World) (hs : s.At w) (ht : t.At w) (hL : s.pn ≤ 1000) :
    Calls Tryz.prog 75 #[.agg #[.int .i64 s.k, .int .i64 s.l, .slice s.ao s.len s.cap, .int .i64 s.h, .int .i64 s.e], .agg #[.int .i64 t.k, .int .i64 t.l, .slice t.ao t.len t.cap, .int .i64 t.h, .int .i64 t.e]] w fun e w' => e = .returned (.bool (s.same t)) ∧ Below w.heap.size w w' := by
  obtain ⟨X0, Y0, B0⟩ := start_tt w s t
  have h := everywhere_any s t _ (hs.kept B0) (ht.kept B0) (Nat.le_trans hL (by decide))
  unfold tyO at *
  go_enter Tryz.func75, Tryz.ntmps75
  go_wp2_with fail
  refine h.mono ?_
  rintro e w5 ⟨rfl, hb5⟩
  go_wp2
  go_ret
  exact ⟨rfl, Below.next B0 hb5⟩
end Go.Proofs.YtbdhbgilaeldgaaGreat

/- Layer 2: the order looked up; exception labels. -/
namespace Go.Proofs.YtbdhbgilaeldgaaGreat
open Go.RowKit

/-- A formed lattice's table, where it lies. -/
def fgrid (N gb go gcap : Nat) (gA : Nat → Option Addr) (gL gC gAB gAO : Nat → Nat) (gB : Nat → Nat → Bool) : Grid := ⟨some ⟨gb, go, none⟩, gb, go, N, gcap, gA, gL, gC, gAB, gAO, gB⟩
theorem ord_cells {n : Strs} {gb go gcap : Nat} {gA : Nat → Option Addr} {gL gC gAB gAO : Nat → Nat} {gB : Nat → Nat → Bool} (hF : formedB n (fgrid n.len gb go gcap gA gL gC gAB gAO gB) = true) {w : World} (hg : (fgrid n.len gb go gcap gA gL gC gAB gAO gB).At w) {x y : Nat} (hx : x < n.len) (hy : y < n.len) :
    w.cell? ⟨gb, go + x, none⟩ = some (.slice (some ⟨gAB x, gAO x, none⟩) n.len (gC x)) ∧ w.cell? ⟨gAB x, gAO x + y, none⟩ = some (.bool (gB x y)) := by
  unfold formedB at hF
  rw [Bool.and_eq_true, Bool.and_eq_true] at hF
  obtain ⟨e1, e2⟩ := squareB_len hF.1.2
  have hL : gL x = n.len := e2 x hx
  have h1 := hg.row x hx
  have h2 : gA x = some ⟨gAB x, gAO x, none⟩ := hg.adr x hx (by show 0 < gL x; omega)
  have h3 := hg.cell x hx y (by show y < gL x; omega)
  refine ⟨?_, h3⟩
  have h1' : w.cell? ⟨gb, go + x, none⟩ = some (.slice (gA x) (gL x) (gC x)) := h1
  rw [h1', h2, hL]

set_option maxHeartbeats 2000000 in
theorem excBelow_any (n : Strs) (gb go gcap : Nat) (gA : Nat → Option Addr) (gL gC gAB gAO : Nat → Nat) (gB : Nat → Nat → Bool) (hF : Hid (formedB n (fgrid n.len gb go gcap gA gL gC gAB gAO gB) = true)) (a b : Int) (w : World) (hg : (fgrid n.len gb go gcap gA gL gC gAB gAO gB).At w) (ha : a = -1 ∨ inR n.len a = true) (hb : b = -1 ∨ inR n.len b = true) :
    Calls Tryz.prog 128 #[.agg #[.slice n.ao n.len n.cap, .slice (some ⟨gb, go, none⟩) n.len gcap], .int .i64 a, .int .i64 b] w fun e w' => e = .returned (.bool (excB gB a b)) ∧ Below w.heap.size w w' := by
  have B0 := below_alloc w (.cells #[.slice n.ao n.len n.cap, .slice (some ⟨gb, go, none⟩) n.len gcap] 25)
  have hg2 := hg.kept B0
  have HE : Hid (excB gB a b = ((a == -1) || ((b != -1) && gB a.toNat b.toNat))) := rfl
  cases h1 : (a == -1)
  · obtain ⟨x, hx, hx1⟩ : ∃ k : Nat, a = k ∧ k < n.len := inR_nat (by
      rcases ha with h | h
      · rw [h] at h1; cases h1
      · exact h)
    cases h2 : (b != -1)
    · have HV : Hid (excB gB a b = false) := by show excB gB a b = false; rw [HE.out, h1, h2]; rfl
      clear HE ha hb hx
      go_enter Tryz.func128, Tryz.ntmps128
      go_wp2
      go_ret
      exact ⟨ret_bool HV.out.symm, B0⟩
    · obtain ⟨y, hy, hy1⟩ : ∃ k : Nat, b = k ∧ k < n.len := inR_nat (by
        rcases hb with h | h
        · rw [h] at h2; cases h2
        · exact h)
      subst hx hy
      have HV : Hid (excB gB x y = gB x y) := by show excB gB x y = gB x y; rw [HE.out, h1, h2]; simp
      obtain ⟨c0, c1⟩ := ord_cells hF.out hg2 hx1 hy1
      have ix : (x : Int) < n.len := by omega
      have iy : (y : Int) < n.len := by omega
      clear HE ha hb
      go_enter Tryz.func128, Tryz.ntmps128
      go_wp2
      go_ret
      exact ⟨ret_bool HV.out.symm, B0⟩
  · have HV : Hid (excB gB a b = true) := by show excB gB a b = true; rw [HE.out, h1]; rfl
    clear HE ha hb
    go_enter Tryz.func128, Tryz.ntmps128
    go_wp2
    go_ret
    exact ⟨ret_bool HV.out.symm, B0⟩
end Go.Proofs.YtbdhbgilaeldgaaGreat

/- Layer 2: one step of Below. -/
namespace Go.Proofs.YtbdhbgilaeldgaaGreat
open Go.RowKit

/-- What below answers of a and b, in whatever world in which they lie. -/
def Ct (n : Strs) (gb go gcap : Nat) (gA : Nat → Option Addr) (gL gC gAB gAO : Nat → Nat) (gB : Nat → Nat → Bool) (a b : Ty) (r : Bool) : Prop := ∀ u : World, n.At u → (fgrid n.len gb go gcap gA gL gC gAB gAO gB).At u → a.At u → b.At u →
  Calls Tryz.prog 99 #[.agg #[.slice n.ao n.len n.cap, .slice (some ⟨gb, go, none⟩) n.len gcap], .agg #[.int .i64 a.k, .int .i64 a.l, .slice a.ao a.len a.cap, .int .i64 a.h, .int .i64 a.e], .agg #[.int .i64 b.k, .int .i64 b.l, .slice b.ao b.len b.cap, .int .i64 b.h, .int .i64 b.e]] u fun e w' => e = .returned (.bool r) ∧ Below u.heap.size u w'
/-- A node that is formed, whatever its Parts are. -/
structure Gd (N : Nat) (t : Ty) : Prop where
  ar : (t.len : Int) = arityI t.k
  lab : inR N t.l = true
  bnd : bndI N t.k t.h t.e = true
def stepB (le : Nat → Nat → Bool) (s t : Ty) (p0 p1 : Bool) : Bool := ((s.k == t.k) && le s.l.toNat t.l.toNat) && (if s.k = 3 then p0 && p1 else if s.k = 4 then ((p0 && p1) && le t.h.toNat s.h.toNat) && excB le s.e t.e else if s.k = 5 then (s.ps 0).same (t.ps 0) else true)
theorem bnd4 {N : Nat} {h e : Int} (hb : bndI N 4 h e = true) : inR N h = true ∧ (e = -1 ∨ inR N e = true) := by
  unfold bndI at hb
  rw [if_pos rfl, Bool.and_eq_true, Bool.or_eq_true] at hb
  exact ⟨hb.1, hb.2.imp (fun h => by simpa using h) (fun h => h)⟩

set_option maxRecDepth 100000 in
set_option maxHeartbeats 8000000 in
theorem below_step (n : Strs) (gb go gcap : Nat) (gA : Nat → Option Addr) (gL gC gAB gAO : Nat → Nat) (gB : Nat → Nat → Bool) (hF : Hid (formedB n (fgrid n.len gb go gcap gA gL gC gAB gAO gB) = true)) (sk sl sh se : Int) (sao : Option Addr) (sb so slen scap : Nat) (sps : Nat → Ty) (tk tl th te : Int) (tao : Option Addr) (tb to' tlen tcap : Nat) (tps : Nat → Ty)
    (gs : Gd n.len (.mk sk sl sh se sao sb so slen scap sps)) (gt : Gd n.len (.mk tk tl th te tao tb to' tlen tcap tps)) (p0 p1 : Bool) (hp0 : sk = 3 ∧ tk = 3 → Ct n gb go gcap gA gL gC gAB gAO gB (sps 0) (tps 0) p0) (hf0 : sk = 4 ∧ tk = 4 → Ct n gb go gcap gA gL gC gAB gAO gB (tps 0) (sps 0) p0) (hp1 : (sk = 3 ∧ tk = 3) ∨ (sk = 4 ∧ tk = 4) → Ct n gb go gcap gA gL gC gAB gAO gB (sps 1) (tps 1) p1) (hpn : sk = 5 → (sps 0).pn ≤ 1000) :
    Ct n gb go gcap gA gL gC gAB gAO gB (.mk sk sl sh se sao sb so slen scap sps) (.mk tk tl th te tao tb to' tlen tcap tps) (stepB gB (.mk sk sl sh se sao sb so slen scap sps) (.mk tk tl th te tao tb to' tlen tcap tps) p0 p1) := by
  intro w hn hg hs ht
  obtain ⟨L0, X0, Y0, B0⟩ := start_ltt w n (fgrid n.len gb go gcap gA gL gC gAB gAO gB) (.mk sk sl sh se sao sb so slen scap sps) (.mk tk tl th te tao tb to' tlen tcap tps)
  have hn0 := hn.kept B0
  have hg0 := hg.kept B0
  have hs0 := hs.kept B0
  have ht0 := ht.kept B0
  have n1 : 0 < slen → sao = some ⟨sb, so, none⟩ := hs.nil
  have n2 : 0 < tlen → tao = some ⟨tb, to', none⟩ := ht.nil
  obtain ⟨x, hx, hx1⟩ : ∃ k : Nat, sl = k ∧ k < n.len := inR_nat gs.lab
  obtain ⟨y, hy, hy1⟩ : ∃ k : Nat, tl = k ∧ k < n.len := inR_nat gt.lab
  subst hx hy
  have a1 : (slen : Int) = arityI sk := gs.ar
  have a2 : (tlen : Int) = arityI tk := gt.ar
  have bn1 : bndI n.len sk sh se = true := gs.bnd
  have bn2 : bndI n.len tk th te = true := gt.bnd
  have HV : Hid (stepB gB (.mk sk x sh se sao sb so slen scap sps) (.mk tk y th te tao tb to' tlen tcap tps) p0 p1 = (((sk == tk) && gB x y) && (if sk = 3 then p0 && p1 else if sk = 4 then ((p0 && p1) && gB th.toNat sh.toNat) && excB gB se te else if sk = 5 then (sps 0).same (tps 0) else true))) := rfl
  generalize stepB gB (.mk sk x sh se sao sb so slen scap sps) (.mk tk y th te tao tb to' tlen tcap tps) p0 p1 = V at HV ⊢
  show Calls Tryz.prog 99 #[.agg #[.slice n.ao n.len n.cap, .slice (some ⟨gb, go, none⟩) n.len gcap], .agg #[.int .i64 sk, .int .i64 x, .slice sao slen scap, .int .i64 sh, .int .i64 se], .agg #[.int .i64 tk, .int .i64 y, .slice tao tlen tcap, .int .i64 th, .int .i64 te]] w fun e w' => e = .returned (.bool V) ∧ Below w.heap.size w w'
  clear hn hg hs ht gs gt
  unfold latO tyO fgrid at *
  simp only [Ty.k, Ty.l, Ty.h, Ty.e, Ty.ao, Ty.len, Ty.cap] at B0 L0 X0 Y0 hn0 hg0 hs0 ht0
  obtain ⟨o0, o1⟩ := ord_cells hF.out hg0 hx1 hy1
  have ix : (x : Int) < n.len := by omega
  have iy : (y : Int) < n.len := by omega
  have l0 := fun x => Gr.cell x L0.c0
  have l1 := fun x => Gr.cell x L0.c1
  have x0 := fun x => Gr.cell x X0.c0
  have x1 := fun x => Gr.cell x X0.c1
  have x2 := fun x => Gr.cell x X0.c2
  have x3 := fun x => Gr.cell x X0.c3
  have x4 := fun x => Gr.cell x X0.c4
  have y0 := fun x => Gr.cell x Y0.c0
  have y1 := fun x => Gr.cell x Y0.c1
  have y2 := fun x => Gr.cell x Y0.c2
  have y3 := fun x => Gr.cell x Y0.c3
  have y4 := fun x => Gr.cell x Y0.c4
  simp only [Ty.k, Ty.l, Ty.h, Ty.e, Ty.ao, Ty.len, Ty.cap] at x0 x1 x2 x3 x4 y0 y1 y2 y3 y4
  have u0 := fun x => Gr.cell x o0
  have u1 := fun x => Gr.cell x o1
  have hNE : Nonempty (Gr (((w.alloc (.cells #[.slice n.ao n.len n.cap, .slice (some ⟨gb, go, none⟩) n.len gcap] 25)).alloc (.cells #[.int .i64 sk, .int .i64 x, .slice sao slen scap, .int .i64 sh, .int .i64 se] 38)).alloc (.cells #[.int .i64 tk, .int .i64 y, .slice tao tlen tcap, .int .i64 th, .int .i64 te] 38))) := ⟨⟨_, Below.refl _ _⟩⟩
  by_cases hk : sk = tk
  · subst hk
    have bk : (sk != sk) = false := by simp
    cases hle : gB x y
    · have HW : Hid (V = false) := by show V = false; rw [HV.out, hle, Bool.and_false, Bool.false_and]
      rw [hle] at u1
      clear HV hp0 hf0 hp1 hpn
      go_enter Tryz.func99, Tryz.ntmps99
      go_wp2
      refine wp_region_gr (by kernel_rfl) (by kernel_rfl) ?_
      repeat (first | go_big_quiet_step (fail))
      refine wpQuiet_nil ?_
      rintro w4 ⟨x4w, rfl⟩
      have B4 := x4w.bl
      generalize x4w.w = w4 at B4 ⊢
      clear x4w u0 u1 hNE l0 l1 x0 x1 x2 x3 x4 y0 y1 y2 y3 y4
      go_wp2
      go_ret
      exact ⟨ret_bool HW.out.symm, Below.next B0 B4⟩
    · have HV2 : Hid (V = (if sk = 3 then p0 && p1 else if sk = 4 then ((p0 && p1) && gB th.toNat sh.toNat) && excB gB se te else if sk = 5 then (sps 0).same (tps 0) else true)) := by show V = _; rw [HV.out, hle, beq_self_eq_true, Bool.true_and, Bool.true_and]
      rw [hle] at u1
      clear HV hle
      by_cases k3 : sk = 3
      · subst k3
        have HV : Hid (V = (p0 && p1)) := HV2.out
        have e1 : slen = 2 := by have h := a1; simp [arityI] at h; omega
        have e2 : tlen = 2 := by have h := a2; simp [arityI] at h; omega
        subst e1 e2
        have g1 := n1 (by omega)
        have g2 := n2 (by omega)
        subst g1 g2
        have z0 := hp0 ⟨rfl, rfl⟩
        have z1 := hp1 (Or.inl ⟨rfl, rfl⟩)
        clear HV2 n1 n2 a1 a2 hp0 hf0 hp1 hpn
        go_enter Tryz.func99, Tryz.ntmps99
        go_wp2
        refine wp_region_gr (by kernel_rfl) (by kernel_rfl) ?_
        repeat (first | go_big_quiet_step (fail))
        refine wpQuiet_nil ?_
        rintro w4 ⟨x4w, rfl⟩
        have B4 := x4w.bl
        generalize x4w.w = w4 at B4 ⊢
        clear x4w u0 u1 hNE l0 l1 x0 x1 x2 x3 x4 y0 y1 y2 y3 y4
        have L4 := L0.kept B4
        have X4 := X0.kept B4
        have Y4 := Y0.kept B4
        have B5 := Below.next B0 B4
        have hn4 := hn0.kept B4
        have hg4 := hg0.kept B4
        have hs4 := hs0.kept B4
        have ht4 := ht0.kept B4
        clear L0 X0 Y0 B0 B4 hn0 hg0 hs0 ht0 o0 o1
        have C0 : C5 w4 sb so (sps 0) := hs4.cells (i := 0) (by show 0 < 2; omega)
        have C1 : C5 w4 sb (so + 5) (sps 1) := hs4.cells (i := 1) (by show 1 < 2; omega)
        have D0 : C5 w4 tb to' (tps 0) := ht4.cells (i := 0) (by show 0 < 2; omega)
        have D1 : C5 w4 tb (to' + 5) (tps 1) := ht4.cells (i := 1) (by show 1 < 2; omega)
        have P0 : (sps 0).At w4 := hs4.part (i := 0) (by show 0 < 2; omega)
        have P1 : (sps 1).At w4 := hs4.part (i := 1) (by show 1 < 2; omega)
        have R0 : (tps 0).At w4 := ht4.part (i := 0) (by show 0 < 2; omega)
        have R1 : (tps 1).At w4 := ht4.part (i := 1) (by show 1 < 2; omega)
        have H0 : ∀ u, Below w4.heap.size w4 u → Calls Tryz.prog 99 #[.agg #[.slice n.ao n.len n.cap, .slice (some ⟨gb, go, none⟩) n.len gcap], .agg #[.int .i64 (sps 0).k, .int .i64 (sps 0).l, .slice (sps 0).ao (sps 0).len (sps 0).cap, .int .i64 (sps 0).h, .int .i64 (sps 0).e], .agg #[.int .i64 (tps 0).k, .int .i64 (tps 0).l, .slice (tps 0).ao (tps 0).len (tps 0).cap, .int .i64 (tps 0).h, .int .i64 (tps 0).e]] u fun e w' => e = .returned (.bool p0) ∧ Below u.heap.size u w' := fun u hu => z0 u (hn4.kept hu) (hg4.kept hu) (P0.kept hu) (R0.kept hu)
        have H1 : ∀ u, Below w4.heap.size w4 u → Calls Tryz.prog 99 #[.agg #[.slice n.ao n.len n.cap, .slice (some ⟨gb, go, none⟩) n.len gcap], .agg #[.int .i64 (sps 1).k, .int .i64 (sps 1).l, .slice (sps 1).ao (sps 1).len (sps 1).cap, .int .i64 (sps 1).h, .int .i64 (sps 1).e], .agg #[.int .i64 (tps 1).k, .int .i64 (tps 1).l, .slice (tps 1).ao (tps 1).len (tps 1).cap, .int .i64 (tps 1).h, .int .i64 (tps 1).e]] u fun e w' => e = .returned (.bool p1) ∧ Below u.heap.size u w' := fun u hu => z1 u (hn4.kept hu) (hg4.kept hu) (P1.kept hu) (R1.kept hu)
        have l0 := fun x => Gr.cell x L4.c0
        have l1 := fun x => Gr.cell x L4.c1
        have x0 := fun x => Gr.cell x X4.c0
        have x1 := fun x => Gr.cell x X4.c1
        have x2 := fun x => Gr.cell x X4.c2
        have x3 := fun x => Gr.cell x X4.c3
        have x4 := fun x => Gr.cell x X4.c4
        have y0 := fun x => Gr.cell x Y4.c0
        have y1 := fun x => Gr.cell x Y4.c1
        have y2 := fun x => Gr.cell x Y4.c2
        have y3 := fun x => Gr.cell x Y4.c3
        have y4 := fun x => Gr.cell x Y4.c4
        have c0 := fun x => Gr.cell x C0.c0
        have c1 := fun x => Gr.cell x C0.c1
        have c2 := fun x => Gr.cell x C0.c2
        have c3 := fun x => Gr.cell x C0.c3
        have c4 := fun x => Gr.cell x C0.c4
        have d0 := fun x => Gr.cell x C1.c0
        have d1 := fun x => Gr.cell x C1.c1
        have d2 := fun x => Gr.cell x C1.c2
        have d3 := fun x => Gr.cell x C1.c3
        have d4 := fun x => Gr.cell x C1.c4
        have e0 := fun x => Gr.cell x D0.c0
        have e1 := fun x => Gr.cell x D0.c1
        have e2 := fun x => Gr.cell x D0.c2
        have e3 := fun x => Gr.cell x D0.c3
        have e4 := fun x => Gr.cell x D0.c4
        have f0 := fun x => Gr.cell x D1.c0
        have f1 := fun x => Gr.cell x D1.c1
        have f2 := fun x => Gr.cell x D1.c2
        have f3 := fun x => Gr.cell x D1.c3
        have f4 := fun x => Gr.cell x D1.c4
        simp only [Ty.k, Ty.l, Ty.h, Ty.e, Ty.ao, Ty.len, Ty.cap] at x0 x1 x2 x3 x4 y0 y1 y2 y3 y4
        have hNE : Nonempty (Gr w4) := ⟨⟨_, Below.refl _ _⟩⟩
        have x0' := X4.c0
        simp only [Ty.k] at x0'
        clear C0 C1 D0 D1 hs4 ht4 z0 z1
        cases p0
        · have HW : Hid (V = false) := HV.out
          go_wp2
          refine wp_region_gr (by kernel_rfl) (by kernel_rfl) ?_
          repeat (first | go_big_quiet_step ((go_at_call 99; with_reducible exact Calls.gr _ (H0 _ (Gr.bl _)))))
          refine wpQuiet_nil ?_
          rintro w6 ⟨x6w, rfl⟩
          have B6 := x6w.bl
          generalize x6w.w = w6 at B6 ⊢
          clear x6w hNE l0 l1 x0 x1 x2 x3 x4 y0 y1 y2 y3 y4
          go_wp2
          go_ret
          exact ⟨ret_bool HW.out.symm, Below.next B5 B6⟩
        · have HW : Hid (V = p1) := HV.out
          go_wp2
          refine wp_region_gr (by kernel_rfl) (by kernel_rfl) ?_
          repeat (first | go_big_quiet_step ((first | (go_at_call 99; with_reducible exact Calls.gr _ (H0 _ (Gr.bl _))) | (go_at_call 99; with_reducible exact Calls.gr _ (H1 _ (Gr.bl _))))))
          refine wpQuiet_nil ?_
          rintro w6 ⟨x6w, rfl⟩
          have B6 := x6w.bl
          generalize x6w.w = w6 at B6 ⊢
          clear x6w hNE l0 l1 x0 x1 x2 x3 x4 y0 y1 y2 y3 y4
          go_wp2
          go_ret
          exact ⟨ret_bool HW.out.symm, Below.next B5 B6⟩
      by_cases k4 : sk = 4
      · subst k4
        have HV : Hid (V = (((p0 && p1) && gB th.toNat sh.toNat) && excB gB se te)) := HV2.out
        have e1 : slen = 2 := by have h := a1; simp [arityI] at h; omega
        have e2 : tlen = 2 := by have h := a2; simp [arityI] at h; omega
        subst e1 e2
        have g1 := n1 (by omega)
        have g2 := n2 (by omega)
        subst g1 g2
        have z0 := hf0 ⟨rfl, rfl⟩
        have z1 := hp1 (Or.inr ⟨rfl, rfl⟩)
        obtain ⟨r1, r2⟩ := bnd4 bn1
        obtain ⟨r3, r4⟩ := bnd4 bn2
        obtain ⟨xh, hxh, hxh1⟩ : ∃ k : Nat, sh = k ∧ k < n.len := inR_nat r1
        obtain ⟨yh, hyh, hyh1⟩ : ∃ k : Nat, th = k ∧ k < n.len := inR_nat r3
        subst hxh hyh
        have ixh : (xh : Int) < n.len := by omega
        have iyh : (yh : Int) < n.len := by omega
        have HR : Hid ((se = -1 ∨ inR n.len se = true) ∧ (te = -1 ∨ inR n.len te = true)) := ⟨r2, r4⟩
        clear HV2 n1 n2 a1 a2 hp0 hf0 hp1 hpn k3 bn1 bn2 r1 r2 r3 r4
        go_enter Tryz.func99, Tryz.ntmps99
        go_wp2
        refine wp_region_gr (by kernel_rfl) (by kernel_rfl) ?_
        repeat (first | go_big_quiet_step (fail))
        refine wpQuiet_nil ?_
        rintro w4 ⟨x4w, rfl⟩
        have B4 := x4w.bl
        generalize x4w.w = w4 at B4 ⊢
        clear x4w u0 u1 hNE l0 l1 x0 x1 x2 x3 x4 y0 y1 y2 y3 y4
        have L4 := L0.kept B4
        have X4 := X0.kept B4
        have Y4 := Y0.kept B4
        have B5 := Below.next B0 B4
        have hn4 := hn0.kept B4
        have hg4 := hg0.kept B4
        have hs4 := hs0.kept B4
        have ht4 := ht0.kept B4
        clear L0 X0 Y0 B0 B4 hn0 hg0 hs0 ht0 o0 o1
        have C0 : C5 w4 sb so (sps 0) := hs4.cells (i := 0) (by show 0 < 2; omega)
        have C1 : C5 w4 sb (so + 5) (sps 1) := hs4.cells (i := 1) (by show 1 < 2; omega)
        have D0 : C5 w4 tb to' (tps 0) := ht4.cells (i := 0) (by show 0 < 2; omega)
        have D1 : C5 w4 tb (to' + 5) (tps 1) := ht4.cells (i := 1) (by show 1 < 2; omega)
        have P0 : (sps 0).At w4 := hs4.part (i := 0) (by show 0 < 2; omega)
        have P1 : (sps 1).At w4 := hs4.part (i := 1) (by show 1 < 2; omega)
        have R0 : (tps 0).At w4 := ht4.part (i := 0) (by show 0 < 2; omega)
        have R1 : (tps 1).At w4 := ht4.part (i := 1) (by show 1 < 2; omega)
        obtain ⟨o0, o1⟩ := ord_cells hF.out hg4 hyh1 hxh1
        have u0 := fun x => Gr.cell x o0
        have u1 := fun x => Gr.cell x o1
        have H0 : ∀ u, Below w4.heap.size w4 u → Calls Tryz.prog 99 #[.agg #[.slice n.ao n.len n.cap, .slice (some ⟨gb, go, none⟩) n.len gcap], .agg #[.int .i64 (tps 0).k, .int .i64 (tps 0).l, .slice (tps 0).ao (tps 0).len (tps 0).cap, .int .i64 (tps 0).h, .int .i64 (tps 0).e], .agg #[.int .i64 (sps 0).k, .int .i64 (sps 0).l, .slice (sps 0).ao (sps 0).len (sps 0).cap, .int .i64 (sps 0).h, .int .i64 (sps 0).e]] u fun e w' => e = .returned (.bool p0) ∧ Below u.heap.size u w' := fun u hu => z0 u (hn4.kept hu) (hg4.kept hu) (R0.kept hu) (P0.kept hu)
        have H1 : ∀ u, Below w4.heap.size w4 u → Calls Tryz.prog 99 #[.agg #[.slice n.ao n.len n.cap, .slice (some ⟨gb, go, none⟩) n.len gcap], .agg #[.int .i64 (sps 1).k, .int .i64 (sps 1).l, .slice (sps 1).ao (sps 1).len (sps 1).cap, .int .i64 (sps 1).h, .int .i64 (sps 1).e], .agg #[.int .i64 (tps 1).k, .int .i64 (tps 1).l, .slice (tps 1).ao (tps 1).len (tps 1).cap, .int .i64 (tps 1).h, .int .i64 (tps 1).e]] u fun e w' => e = .returned (.bool p1) ∧ Below u.heap.size u w' := fun u hu => z1 u (hn4.kept hu) (hg4.kept hu) (P1.kept hu) (R1.kept hu)
        have HX : ∀ u, Below w4.heap.size w4 u → Calls Tryz.prog 128 #[.agg #[.slice n.ao n.len n.cap, .slice (some ⟨gb, go, none⟩) n.len gcap], .int .i64 se, .int .i64 te] u fun e w' => e = .returned (.bool (excB gB se te)) ∧ Below u.heap.size u w' := fun u hu => excBelow_any n gb go gcap gA gL gC gAB gAO gB hF se te u (hg4.kept hu) HR.out.1 HR.out.2
        have l0 := fun x => Gr.cell x L4.c0
        have l1 := fun x => Gr.cell x L4.c1
        have x0 := fun x => Gr.cell x X4.c0
        have x1 := fun x => Gr.cell x X4.c1
        have x2 := fun x => Gr.cell x X4.c2
        have x3 := fun x => Gr.cell x X4.c3
        have x4 := fun x => Gr.cell x X4.c4
        have y0 := fun x => Gr.cell x Y4.c0
        have y1 := fun x => Gr.cell x Y4.c1
        have y2 := fun x => Gr.cell x Y4.c2
        have y3 := fun x => Gr.cell x Y4.c3
        have y4 := fun x => Gr.cell x Y4.c4
        have c0 := fun x => Gr.cell x C0.c0
        have c1 := fun x => Gr.cell x C0.c1
        have c2 := fun x => Gr.cell x C0.c2
        have c3 := fun x => Gr.cell x C0.c3
        have c4 := fun x => Gr.cell x C0.c4
        have d0 := fun x => Gr.cell x C1.c0
        have d1 := fun x => Gr.cell x C1.c1
        have d2 := fun x => Gr.cell x C1.c2
        have d3 := fun x => Gr.cell x C1.c3
        have d4 := fun x => Gr.cell x C1.c4
        have e0 := fun x => Gr.cell x D0.c0
        have e1 := fun x => Gr.cell x D0.c1
        have e2 := fun x => Gr.cell x D0.c2
        have e3 := fun x => Gr.cell x D0.c3
        have e4 := fun x => Gr.cell x D0.c4
        have f0 := fun x => Gr.cell x D1.c0
        have f1 := fun x => Gr.cell x D1.c1
        have f2 := fun x => Gr.cell x D1.c2
        have f3 := fun x => Gr.cell x D1.c3
        have f4 := fun x => Gr.cell x D1.c4
        simp only [Ty.k, Ty.l, Ty.h, Ty.e, Ty.ao, Ty.len, Ty.cap] at x0 x1 x2 x3 x4 y0 y1 y2 y3 y4
        have hNE : Nonempty (Gr w4) := ⟨⟨_, Below.refl _ _⟩⟩
        have x0' := X4.c0
        simp only [Ty.k] at x0'
        have HV3 : Hid (V = (((p0 && p1) && gB yh xh) && excB gB se te)) := HV.out
        clear C0 C1 D0 D1 hs4 ht4 z0 z1 HV
        cases p0
        · have HW : Hid (V = false) := HV3.out
          go_wp2
          refine wp_region_gr (by kernel_rfl) (by kernel_rfl) ?_
          repeat (first | go_big_quiet_step (((go_at_call 99; with_reducible exact Calls.gr _ (H0 _ (Gr.bl _))))))
          refine wpQuiet_nil ?_
          rintro w6 ⟨x6w, rfl⟩
          have B6 := x6w.bl
          generalize x6w.w = w6 at B6 ⊢
          clear x6w hNE l0 l1 x0 x1 x2 x3 x4 y0 y1 y2 y3 y4 u0 u1
          go_wp2
          go_ret
          exact ⟨ret_bool HW.out.symm, Below.next B5 B6⟩
        · cases p1
          · have HW : Hid (V = false) := HV3.out
            go_wp2
            refine wp_region_gr (by kernel_rfl) (by kernel_rfl) ?_
            repeat (first | go_big_quiet_step ((first | (go_at_call 99; with_reducible exact Calls.gr _ (H0 _ (Gr.bl _))) | (go_at_call 99; with_reducible exact Calls.gr _ (H1 _ (Gr.bl _))))))
            refine wpQuiet_nil ?_
            rintro w6 ⟨x6w, rfl⟩
            have B6 := x6w.bl
            generalize x6w.w = w6 at B6 ⊢
            clear x6w hNE l0 l1 x0 x1 x2 x3 x4 y0 y1 y2 y3 y4 u0 u1
            go_wp2
            go_ret
            exact ⟨ret_bool HW.out.symm, Below.next B5 B6⟩
          · cases hh : gB yh xh
            · have HW : Hid (V = false) := by show V = false; rw [HV3.out, hh]; rfl
              rw [hh] at u1
              go_wp2
              refine wp_region_gr (by kernel_rfl) (by kernel_rfl) ?_
              repeat (first | go_big_quiet_step ((first | (go_at_call 99; with_reducible exact Calls.gr _ (H0 _ (Gr.bl _))) | (go_at_call 99; with_reducible exact Calls.gr _ (H1 _ (Gr.bl _))))))
              refine wpQuiet_nil ?_
              rintro w6 ⟨x6w, rfl⟩
              have B6 := x6w.bl
              generalize x6w.w = w6 at B6 ⊢
              clear x6w hNE l0 l1 x0 x1 x2 x3 x4 y0 y1 y2 y3 y4 u0 u1
              go_wp2
              go_ret
              exact ⟨ret_bool HW.out.symm, Below.next B5 B6⟩
            · have HW : Hid (V = excB gB se te) := by show V = _; rw [HV3.out, hh]; rfl
              rw [hh] at u1
              clear HV3 hh
              generalize excB gB se te = X at HX HW
              go_wp2
              refine wp_region_gr (by kernel_rfl) (by kernel_rfl) ?_
              repeat (first | go_big_quiet_step ((first | (go_at_call 99; with_reducible exact Calls.gr _ (H0 _ (Gr.bl _))) | (go_at_call 99; with_reducible exact Calls.gr _ (H1 _ (Gr.bl _))) | (go_at_call 128; with_reducible exact Calls.gr _ (HX _ (Gr.bl _))))))
              refine wpQuiet_nil ?_
              rintro w6 ⟨x6w, rfl⟩
              have B6 := x6w.bl
              generalize x6w.w = w6 at B6 ⊢
              clear x6w hNE l0 l1 x0 x1 x2 x3 x4 y0 y1 y2 y3 y4 u0 u1
              go_wp2
              go_ret
              exact ⟨ret_bool HW.out.symm, Below.next B5 B6⟩
      by_cases k5 : sk = 5
      · subst k5
        have HV : Hid (V = (sps 0).same (tps 0)) := HV2.out
        have e1 : slen = 1 := by have h := a1; simp [arityI] at h; omega
        have e2 : tlen = 1 := by have h := a2; simp [arityI] at h; omega
        subst e1 e2
        have g1 := n1 (by omega)
        have g2 := n2 (by omega)
        subst g1 g2
        have hpn5 := hpn rfl
        clear HV2 n1 n2 a1 a2 hp0 hf0 hp1 hpn k3 k4
        go_enter Tryz.func99, Tryz.ntmps99
        go_wp2
        refine wp_region_gr (by kernel_rfl) (by kernel_rfl) ?_
        repeat (first | go_big_quiet_step (fail))
        refine wpQuiet_nil ?_
        rintro w4 ⟨x4w, rfl⟩
        have B4 := x4w.bl
        generalize x4w.w = w4 at B4 ⊢
        clear x4w u0 u1 hNE l0 l1 x0 x1 x2 x3 x4 y0 y1 y2 y3 y4
        have L4 := L0.kept B4
        have X4 := X0.kept B4
        have Y4 := Y0.kept B4
        have B5 := Below.next B0 B4
        have hn4 := hn0.kept B4
        have hg4 := hg0.kept B4
        have hs4 := hs0.kept B4
        have ht4 := ht0.kept B4
        clear L0 X0 Y0 B0 B4 hn0 hg0 hs0 ht0 o0 o1
        have C0 : C5 w4 sb so (sps 0) := hs4.cells (i := 0) (by show 0 < 1; omega)
        have D0 : C5 w4 tb to' (tps 0) := ht4.cells (i := 0) (by show 0 < 1; omega)
        have P0 : (sps 0).At w4 := hs4.part (i := 0) (by show 0 < 1; omega)
        have R0 : (tps 0).At w4 := ht4.part (i := 0) (by show 0 < 1; omega)
        have HW : Hid (V = (sps 0).same (tps 0)) := HV.out
        have l0 := fun x => Gr.cell x L4.c0
        have l1 := fun x => Gr.cell x L4.c1
        have x0 := fun x => Gr.cell x X4.c0
        have x1 := fun x => Gr.cell x X4.c1
        have x2 := fun x => Gr.cell x X4.c2
        have x3 := fun x => Gr.cell x X4.c3
        have x4 := fun x => Gr.cell x X4.c4
        have y0 := fun x => Gr.cell x Y4.c0
        have y1 := fun x => Gr.cell x Y4.c1
        have y2 := fun x => Gr.cell x Y4.c2
        have y3 := fun x => Gr.cell x Y4.c3
        have y4 := fun x => Gr.cell x Y4.c4
        have c0 := fun x => Gr.cell x C0.c0
        have c1 := fun x => Gr.cell x C0.c1
        have c2 := fun x => Gr.cell x C0.c2
        have c3 := fun x => Gr.cell x C0.c3
        have c4 := fun x => Gr.cell x C0.c4
        have e0 := fun x => Gr.cell x D0.c0
        have e1 := fun x => Gr.cell x D0.c1
        have e2 := fun x => Gr.cell x D0.c2
        have e3 := fun x => Gr.cell x D0.c3
        have e4 := fun x => Gr.cell x D0.c4
        simp only [Ty.k, Ty.l, Ty.h, Ty.e, Ty.ao, Ty.len, Ty.cap] at x0 x1 x2 x3 x4 y0 y1 y2 y3 y4
        have hNE : Nonempty (Gr w4) := ⟨⟨_, Below.refl _ _⟩⟩
        have x0' := X4.c0
        simp only [Ty.k] at x0'
        clear C0 D0 hs4 ht4 HV
        go_wp2
        refine wp_region_gr (by kernel_rfl) (by kernel_rfl) ?_
        repeat (first | go_big_quiet_step ((go_at_call 75; exact Calls.gr _ (Same_any2 (sps 0) (tps 0) _ (P0.kept (Gr.bl _)) (R0.kept (Gr.bl _)) hpn5))))
        refine wpQuiet_nil ?_
        rintro w6 ⟨x6w, rfl⟩
        have B6 := x6w.bl
        generalize x6w.w = w6 at B6 ⊢
        clear x6w hNE l0 l1 x0 x1 x2 x3 x4 y0 y1 y2 y3 y4
        go_wp2
        go_ret
        exact ⟨ret_bool HW.out.symm, Below.next B5 B6⟩
      · have HW : Hid (V = true) := by show V = true; rw [HV2.out, if_neg k3, if_neg k4, if_neg k5]
        have b3 : (sk == 3) = false := beq_eq_false_iff_ne.2 k3
        have b4 : (sk == 4) = false := beq_eq_false_iff_ne.2 k4
        have b5 : (sk == 5) = false := beq_eq_false_iff_ne.2 k5
        clear HV2 n1 n2 a1 a2 hp0 hf0 hp1 hpn k3 k4 k5
        go_enter Tryz.func99, Tryz.ntmps99
        go_wp2
        refine wp_region_gr (by kernel_rfl) (by kernel_rfl) ?_
        repeat (first | go_big_quiet_step (fail))
        refine wpQuiet_nil ?_
        rintro w4 ⟨x4w, rfl⟩
        have B4 := x4w.bl
        generalize x4w.w = w4 at B4 ⊢
        clear x4w u0 u1 hNE l0 l1 x0 x1 x2 x3 x4 y0 y1 y2 y3 y4
        have L4 := L0.kept B4
        have X4 := X0.kept B4
        have Y4 := Y0.kept B4
        have B5 := Below.next B0 B4
        have hn4 := hn0.kept B4
        have hg4 := hg0.kept B4
        have hs4 := hs0.kept B4
        have ht4 := ht0.kept B4
        clear L0 X0 Y0 B0 B4 hn0 hg0 hs0 ht0 o0 o1
        have x0' := X4.c0
        simp only [Ty.k] at x0'
        go_wp2
        go_ret
        exact ⟨ret_bool HW.out.symm, B5⟩
  · have bk : (sk != tk) = true := by simp [hk]
    have HW : Hid (V = false) := by show V = false; rw [HV.out, beq_eq_false_iff_ne.2 hk]; rfl
    clear HV
    go_enter Tryz.func99, Tryz.ntmps99
    go_wp2
    refine wp_region_gr (by kernel_rfl) (by kernel_rfl) ?_
    repeat (first | go_big_quiet_step (fail))
    refine wpQuiet_nil ?_
    rintro w4 ⟨x4w, rfl⟩
    have B4 := x4w.bl
    generalize x4w.w = w4 at B4 ⊢
    clear x4w u0 u1 hNE l0 l1 x0 x1 x2 x3 x4 y0 y1 y2 y3 y4
    go_wp2
    go_ret
    exact ⟨ret_bool HW.out.symm, Below.next B0 B4⟩
end Go.Proofs.YtbdhbgilaeldgaaGreat
