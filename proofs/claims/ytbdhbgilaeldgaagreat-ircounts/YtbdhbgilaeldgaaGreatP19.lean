/- Layer 10: node, where it makes something. -/
import Derived.Test.YtbdhbgilaeldgaaGreatP18
namespace Go.Proofs.YtbdhbgilaeldgaaGreat
open Go Go.RowKit

/-- A state and whether it is right, answered. -/
def StRet (o : Option Sta) (w : World) (e : Ending) (w' : World) : Prop := ∃ (s : Sta) (ok : Bool), e = .returned (.tuple #[.agg s.vs.toArray, .bool ok]) ∧ ok = o.isSome ∧ (∀ s1, o = some s1 → s = s1) ∧ Below w.heap.size w w'
/-- Four variables: a judge, a node, a state, and the answer's. -/
structure Nw (w : World) (j : Jd) (nd : Nd) (s z : Sta) (u : World) : Prop where
  bl : Below w.heap.size w u
  hj : j.At u
  hn : nd.At u
  J : Blk u w.heap.size j.vs 61
  N : Blk u (w.heap.size + 1) nd.vs 44
  S : Blk u (w.heap.size + 2) s.vs 83
  Z : Blk u (w.heap.size + 3) z.vs 83
  sz : w.heap.size + 4 ≤ u.heap.size
theorem Nw.kept {w : World} {j : Jd} {nd : Nd} {s z : Sta} {u u' : World} (h : Nw w j nd s z u) (hb : Below u.heap.size u u') : Nw w j nd s z u' :=
  ⟨Below.next h.bl hb, h.hj.kept hb, h.hn.kept hb, h.J.kept hb, h.N.kept hb, h.S.kept hb, h.Z.kept hb, Nat.le_trans h.sz hb.size⟩
def nwW (w : World) (j : Jd) (nd : Nd) (s : Sta) : World := (((w.alloc (.cells j.va 61)).alloc (.cells nd.va 44)).alloc (.cells s.va 83)).alloc (.cells Sta.zero.va 83)
theorem nw_new (w : World) (j : Jd) (nd : Nd) (s : Sta) (hj : j.At w) (hn : nd.At w) : Nw w j nd s Sta.zero (nwW w j nd s) := by
  have H := allocs_heap [.cells j.va 61, .cells nd.va 44, .cells s.va 83, .cells Sta.zero.va 83] w
  have B0 := allocs_below [.cells j.va 61, .cells nd.va 44, .cells s.va 83, .cells Sta.zero.va 83] w
  have SZ := allocs_size [.cells j.va 61, .cells nd.va 44, .cells s.va 83, .cells Sta.zero.va 83] w
  simp only [List.foldl, List.length] at H B0 SZ
  exact ⟨B0, hj.kept B0, hn.kept B0, H 0 (by simp), H 1 (by simp), H 2 (by simp), H 3 (by simp), by show _ ≤ (World.heap _).size; exact Nat.le_of_eq SZ.symm⟩
theorem Nw.wroteS {w : World} {j : Jd} {nd : Nd} {s s' z : Sta} {u u' : World} (h : Nw w j nd s z u) (hj : j.At w) (hn : nd.At w) (W : WroteB u u' (w.heap.size + 2) s'.vs 83) : Nw w j nd s' z u' :=
  have hb := W.below (B0 := w.heap.size) (a := w) (by omega) h.bl
  ⟨hb, hj.kept hb, hn.kept hb, W.keep h.J (by omega), W.keep h.N (by omega), W.blk, W.keep h.Z (by omega), by rw [W.size]; exact h.sz⟩
theorem Nw.wroteZ {w : World} {j : Jd} {nd : Nd} {s z z' : Sta} {u u' : World} (h : Nw w j nd s z u) (hj : j.At w) (hn : nd.At w) (W : WroteB u u' (w.heap.size + 3) z'.vs 83) : Nw w j nd s z' u' :=
  have hb := W.below (B0 := w.heap.size) (a := w) (by omega) h.bl
  ⟨hb, hj.kept hb, hn.kept hb, W.keep h.J (by omega), W.keep h.N (by omega), W.keep h.S (by omega), W.blk, by rw [W.size]; exact h.sz⟩
theorem hj_of {l : List Oper} : ∀ {js : List Nat}, (js.all fun i => decide (i < l.length)) = true → ∀ j, j < (js.filterMap (l[·]?)).length → ∃ i, js[j]? = some i ∧ l.toArray[i]? = (js.filterMap (l[·]?))[j]?
  | [], _, j, hj => absurd hj (Nat.not_lt_zero _)
  | i :: js, h, j, hj => by
    simp only [List.all_cons, Bool.and_eq_true, decide_eq_true_eq] at h
    have e : l[i]? = some l[i] := List.getElem?_eq_getElem h.1
    rw [List.filterMap_cons, e] at hj ⊢
    cases j with
    | zero => exact ⟨i, rfl, by simp [e]⟩
    | succ j =>
      obtain ⟨i', h1, h2⟩ := hj_of h.2 j (by simpa using hj)
      exact ⟨i', by simpa using h1, by simpa using h2⟩
/-- What the last region of node reads. -/
def Sn (w : World) (j : Jd) (nd : Nd) (s : Sta) (u : Ty) (B9 : Nat) (q : World) : Prop := Below w.heap.size w q ∧ Blk q w.heap.size j.vs 61 ∧ Blk q (w.heap.size + 1) nd.vs 44 ∧ Blk q (w.heap.size + 2) s.vs 83 ∧ Blk q B9 u.vs 38
def NodeC (o : Option Sta) (j : Jd) (nd : Nd) (s : Sta) (w : World) : Prop := Calls Tryz.prog 66 #[.agg j.va, .agg nd.va, .agg s.va] w (StRet o w)

set_option maxRecDepth 100000 in
set_option maxHeartbeats 8000000 in
theorem node_make (D : Nat) (j : Jd) (nd : Nd) (s : Sta) (w : World) (hj : j.At w) (hn : nd.At w) (hop : ¬ (nd.h.op = 14 ∨ nd.h.op = 15 ∨ nd.h.op = 16 ∨ nd.h.op = 17 ∨ nd.h.op = 18)) (hd : 0 ≤ nd.h.dst) (hd1 : nd.h.dst < j.f.slots.len) (hs : j.f.slots.len ≤ 250)
    (hD : D ≤ w.heap.size) (hnd : (j.makes nd).1.Nd) (hc : ∀ u, Below w.heap.size w u → MakeC D j nd u) : NodeC (j.make nd s) j nd s w := by
  unfold NodeC
  simp only [not_or] at hop
  have e14 := beqI hop.1
  have e15 := beqI hop.2.1
  have e16 := beqI hop.2.2.1
  have e17 := beqI hop.2.2.2.1
  have e18 := beqI hop.2.2.2.2
  have HI := hid (nw_new w j nd s hj hn)
  have c0 := HI.out.N.cell 0 (v := .int .i64 nd.h.op) rfl
  unfold nwW at HI c0
  have HH := hid (show (0 ≤ nd.h.dst ∧ nd.h.dst < j.f.slots.len ∧ j.f.slots.len ≤ 250) ∧ D ≤ w.heap.size ∧ (∀ u, Below w.heap.size w u → MakeC D j nd u) from ⟨⟨hd, hd1, hs⟩, hD, hc⟩)
  have HJ := hid (show j.At w ∧ nd.At w from ⟨hj, hn⟩)
  have HND := hid hnd
  clear hnd
  have HG : Hid (j.make nd s = if belB j.n j.g (raiseT j.n j.g (j.makes nd).1 (bothI j.n j.g nd.h.env (j.makes nd).2)) (j.f.slots.ps nd.h.dst.toNat) = true then some ⟨bothI j.n j.g s.at_ (j.makes nd).2, bothI j.n j.g s.x (j.makes nd).2, upd s.set nd.h.dst.toNat, s.gone⟩ else none) := by show _ = _; rfl
  clear hop hj hn hd hd1 hs hD hc
  go_enter Tryz.func66, Tryz.ntmps66
  go_upto_region 1 with (refine wpList_alloc_st rfl rfl ?_)
  generalize ((((w.alloc (.cells j.va 61)).alloc (.cells nd.va 44)).alloc (.cells s.va 83)).alloc (.cells Sta.zero.va 83)) = w1 at *
  generalize nd.h.op = op at *
  have bJ := HI.out.J
  have bN := HI.out.N
  go_wp2_with (first | (refine wpList_load_mid rfl 61 (.tmp 3) rfl w.heap.size 0 (by kernel_rfl) j.vs _ bJ.range Tryz.underlying61 rfl (by kernel_rfl) ?_) | (refine wpList_load_mid rfl 44 (.tmp 4) rfl (w.heap.size + 1) 0 (by kernel_rfl) nd.vs _ bN.range Tryz.underlying44 rfl (by kernel_rfl) ?_))
  refine (HH.out.2.2 w1 HI.out.bl).mono ?_
  rintro _ w2 ⟨u, rfl, uA, uB, uS, hb⟩
  have HI2 := hid (HI.out.kept hb)
  have HU := hid (show u.At w2 ∧ u.Blk (fun b => b < D ∨ w.heap.size + 4 ≤ b) ∧ u.same (j.makes nd).1 = true from ⟨uA, uB.mono (fun b h => by have := HI.out.sz; omega), uS⟩)
  clear HI bJ bN c0 hb uA uB uS e14 e15 e16 e17 e18
  generalize (j.makes nd).2 = k at *
  generalize (j.makes nd).1 = r at *
  have hN := below_alloc w2 (.cells u.vs.toArray 38)
  have HB : Hid (Nw w j nd s Sta.zero (w2.alloc (.cells u.vs.toArray 38)) ∧ Blk (w2.alloc (.cells u.vs.toArray 38)) w2.heap.size u.vs 38 ∧ u.At (w2.alloc (.cells u.vs.toArray 38)) ∧ u.Blk (fun b => b < D ∨ w.heap.size + 4 ≤ b) ∧ u.same r = true ∧ w.heap.size + 4 ≤ w2.heap.size) := ⟨HI2.out.kept hN, Blk.new w2 _ _, HU.out.1.kept hN, HU.out.2.1, HU.out.2.2, HI2.out.sz⟩
  clear hN HI2 HU
  go_upto_region 15 with (refine wpList_new_mid rfl rfl 38 rfl (.tmp 9) (.tmp 64) rfl zTv (alloc_ty _) rfl u.vs.toArray (by kernel_rfl) (by kernel_rfl) rfl (by kernel_rfl) (by simpa using u.vs_one) ?_)
  generalize (w2.alloc (.cells u.vs.toArray 38)) = w3 at *
  generalize w2.heap.size = B9 at *
  have hC0 : ∀ q, (∃ x : Gr w3, q = x.w) → q.rangeAt w.heap.size 0 j.vs := by rintro _ ⟨x, rfl⟩; exact (HB.out.1.J.kept x.bl).range
  have p0 : ∀ x : Gr w3, x.w.cell? ⟨w.heap.size + 2, 0, none⟩ = some (.int .i64 s.at_) := fun x => (HB.out.1.S.kept x.bl).cell 0 s.v0
  have p1 : ∀ x : Gr w3, x.w.cell? ⟨w.heap.size + 2, 1, none⟩ = some (.int .i64 s.x) := fun x => (HB.out.1.S.kept x.bl).cell 1 s.v1
  have HBt : ∀ (a b : Int) (x : Gr w3), Calls Tryz.prog 97 #[.agg j.vs.toArray, .int .i64 a, .int .i64 b] x.w fun e w' => e = .returned (.int .i64 (bothI j.n j.g a b)) ∧ Below x.w.heap.size x.w w' := fun a b x => both_any j a b x.w (HB.out.1.hj.n.kept x.bl) (HB.out.1.hj.g.kept x.bl)
  have hNE : Nonempty (Gr w3) := ⟨⟨_, Below.refl _ _⟩⟩
  refine wp_region_gr_tail 11 (by kernel_rfl) (by kernel_rfl) ?_
  simp only [List.take, List.drop]
  go_big_quiet_want
  refine quiet_load_row 61 (.tmp 3) rfl _ 0 (by kernel_rfl) j.vs _ hC0 Tryz.underlying61 rfl (by kernel_rfl) ?_
  simp only [Act.put, List.setIfInBounds_toArray, List.set_cons_succ, List.set_cons_zero]
  go_big_quiet_on
  iterate 3 go_big_quiet_step (fail)
  go_big_quiet_step ((go_at_call 97; exact Calls.gr _ (HBt _ _ _)))
  go_big_quiet_want
  refine quiet_load_row 61 (.tmp 3) rfl _ 0 (by kernel_rfl) j.vs _ hC0 Tryz.underlying61 rfl (by kernel_rfl) ?_
  simp only [Act.put, List.setIfInBounds_toArray, List.set_cons_succ, List.set_cons_zero]
  go_big_quiet_on
  iterate 3 go_big_quiet_step (fail)
  go_big_quiet_step ((go_at_call 97; exact Calls.gr _ (HBt _ _ _)))
  go_big_quiet_step (fail)
  refine wpQuiet_nil ?_
  rintro w4 ⟨x4, rfl⟩
  have B5 := x4.bl
  generalize x4.w = w4 at B5 ⊢
  have HC := hid (show Nw w j nd s Sta.zero w4 ∧ Blk w4 B9 u.vs 38 ∧ u.At w4 ∧ u.Blk (fun b => b < D ∨ w.heap.size + 4 ≤ b) ∧ u.same r = true ∧ w.heap.size + 4 ≤ B9 from ⟨HB.out.1.kept B5, HB.out.2.1.kept B5, HB.out.2.2.1.kept B5, HB.out.2.2.2.1, HB.out.2.2.2.2.1, HB.out.2.2.2.2.2⟩)
  clear x4 B5 hC0 p0 p1 HBt hNE HB
  obtain ⟨at1, hat⟩ : ∃ y, y = bothI j.n j.g s.at_ k := ⟨_, rfl⟩
  obtain ⟨x1, hx1⟩ : ∃ y, y = bothI j.n j.g s.x k := ⟨_, rfl⟩
  rw [← hat, ← hx1] at HG ⊢
  clear hat hx1
  have q0 := HC.out.1.S.cell 0 s.v0
  have q1 := HC.out.1.S.cell 1 s.v1
  have g0 := HC.out.1.S.frozen 0
  have g1 := HC.out.1.S.frozen 1
  go_upto_region 16 with fail
  have W1 := wrote_setCell (i := 0) HC.out.1.S (.int .i64 at1)
  have W2 := wrote_setCell (i := 1) W1.blk (.int .i64 x1)
  rw [s.put0] at W1
  rw [s.put0, Sta.put1] at W2
  have HC2 := hid (show Nw w j nd ⟨at1, x1, s.set, s.gone⟩ Sta.zero _ ∧ Blk _ B9 u.vs 38 ∧ u.At _ ∧ u.Blk (fun b => b < D ∨ w.heap.size + 4 ≤ b) ∧ u.same r = true ∧ w.heap.size + 4 ≤ B9 from ⟨(HC.out.1.wroteS (s' := ⟨at1, s.x, s.set, s.gone⟩) HJ.out.1 HJ.out.2 W1).wroteS (s' := ⟨at1, x1, s.set, s.gone⟩) HJ.out.1 HJ.out.2 W2, W2.keep (W1.keep HC.out.2.1 (by have := HC.out.2.2.2.2.2; omega)) (by have := HC.out.2.2.2.2.2; omega), (HC.out.2.2.1.wrote HC.out.2.2.2.1 W1 (by have := HH.out.2.1; omega) (by omega)).wrote HC.out.2.2.2.1 W2 (by have := HH.out.2.1; omega) (by omega), HC.out.2.2.2.1, HC.out.2.2.2.2.1, HC.out.2.2.2.2.2⟩)
  clear W1 W2 q0 q1 g0 g1 HC
  generalize ((w4.setCell ⟨w.heap.size + 2, 0, none⟩ (.int .i64 at1)).setCell ⟨w.heap.size + 2, 1, none⟩ (.int .i64 x1)) = w5 at *
  obtain ⟨dn, hdn⟩ : ∃ m : Nat, nd.h.dst = m := ⟨nd.h.dst.toNat, by have := HH.out.1.1; omega⟩
  have hd250 : dn < 250 := by have := HH.out.1; omega
  have hdl : dn < j.f.slots.len := by have := HH.out.1; omega
  have c1 := HC2.out.1.N.cell 1 (v := .int .i64 nd.h.dst) rfl
  have d2 := HC2.out.1.S.cell (2 + dn) (Sta.v2 ⟨at1, x1, s.set, s.gone⟩ hd250)
  have g2 := HC2.out.1.S.frozen (2 + dn)
  rw [hdn] at c1
  have HDN := hid (show nd.h.dst = dn ∧ dn < j.f.slots.len ∧ dn < 250 from ⟨hdn, hdl, hd250⟩)
  clear hdn hdl
  go_upto_region 17 with fail
  have W1 := wrote_setCell (i := 2 + dn) HC2.out.1.S (.bool true)
  rw [Sta.put2 _ hd250] at W1
  have HC3 := hid (show Nw w j nd ⟨at1, x1, upd s.set dn, s.gone⟩ Sta.zero _ ∧ Blk _ B9 u.vs 38 ∧ u.At _ ∧ u.Blk (fun b => b < D ∨ w.heap.size + 4 ≤ b) ∧ u.same r = true ∧ w.heap.size + 4 ≤ B9 from ⟨HC2.out.1.wroteS (s' := ⟨at1, x1, upd s.set dn, s.gone⟩) HJ.out.1 HJ.out.2 W1, W1.keep HC2.out.2.1 (by have := HC2.out.2.2.2.2.2; omega), HC2.out.2.2.1.wrote HC2.out.2.2.2.1 W1 (by have := HH.out.2.1; omega) (by omega), HC2.out.2.2.2.1, HC2.out.2.2.2.2.1, HC2.out.2.2.2.2.2⟩)
  clear W1 c1 d2 g2 HC2 hd250
  generalize (w5.setCell ⟨w.heap.size + 2, 2 + dn, none⟩ (.bool true)) = w6 at *
  have hDr := (Below.refl w6.heap.size w6).drew
  have HC4 := hid (show Nw w j nd ⟨at1, x1, upd s.set dn, s.gone⟩ Sta.zero w6.drew ∧ Blk w6.drew B9 u.vs 38 ∧ u.At w6.drew ∧ u.Blk (fun b => b < D ∨ w.heap.size + 4 ≤ b) ∧ u.same r = true ∧ w.heap.size + 4 ≤ B9 from ⟨HC3.out.1.kept hDr, HC3.out.2.1.kept hDr, HC3.out.2.2.1.kept hDr, HC3.out.2.2.2.1, HC3.out.2.2.2.2.1, HC3.out.2.2.2.2.2⟩)
  clear HC3 hDr
  refine wp_region_readsMN (Sn w j nd ⟨at1, x1, upd s.set dn, s.gone⟩ u B9) [0, 1, 2, 3, 4, 5, 6, 7, 8, 11, 12, 13, 14, 15, 16, 17] 5 (by kernel_rfl) rfl (by kernel_rfl) (hj_of (by kernel_rfl)) ⟨HC4.out.1.bl, HC4.out.1.J, HC4.out.1.N, HC4.out.1.S, HC4.out.2.1⟩ ?_
  have hS : ∀ q, (∃ x : Wd (Sn w j nd ⟨at1, x1, upd s.set dn, s.gone⟩ u B9), q = x.w) → Sn w j nd ⟨at1, x1, upd s.set dn, s.gone⟩ u B9 q := by rintro _ ⟨x, rfl⟩; exact x.2
  have hao := HJ.out.1.f.slots.nil (by have := HDN.out.2.1; omega)
  have p0 : ∀ x : Wd (Sn w j nd ⟨at1, x1, upd s.set dn, s.gone⟩ u B9), x.w.cell? ⟨w.heap.size, 0, none⟩ = some (.slice j.n.ao j.n.len j.n.cap) := fun x => x.2.2.1.cell 0 rfl
  have p1 : ∀ x : Wd (Sn w j nd ⟨at1, x1, upd s.set dn, s.gone⟩ u B9), x.w.cell? ⟨w.heap.size, 1, none⟩ = some (.slice j.g.ao j.g.len j.g.cap) := fun x => x.2.2.1.cell 1 rfl
  have p5 : ∀ x : Wd (Sn w j nd ⟨at1, x1, upd s.set dn, s.gone⟩ u B9), x.w.cell? ⟨w.heap.size + 1, 5, none⟩ = some (.int .i64 nd.h.env) := fun x => x.2.2.2.1.cell 5 rfl
  have p17 : ∀ x : Wd (Sn w j nd ⟨at1, x1, upd s.set dn, s.gone⟩ u B9), x.w.cell? ⟨w.heap.size, 17, none⟩ = some (.slice (some ⟨j.f.slots.b, j.f.slots.o, none⟩) j.f.slots.len j.f.slots.cap) := fun x => x.2.2.1.cell 17 (by rw [← hao]; rfl)
  have pd : ∀ x : Wd (Sn w j nd ⟨at1, x1, upd s.set dn, s.gone⟩ u B9), x.w.cell? ⟨w.heap.size + 1, 1, none⟩ = some (.int .i64 (dn : Int)) := fun x => x.2.2.2.1.cell 1 (by rw [← HDN.out.1]; rfl)
  have hdl : (dn : Int) < j.f.slots.len := by have := HDN.out.2.1; omega
  have hNE : Nonempty (Wd (Sn w j nd ⟨at1, x1, upd s.set dn, s.gone⟩ u B9)) := ⟨⟨w6.drew, HC4.out.1.bl, HC4.out.1.J, HC4.out.1.N, HC4.out.1.S, HC4.out.2.1⟩⟩
  simp only [List.filterMap, List.getElem?_cons_zero, List.getElem?_cons_succ]
  generalize w6.drew = w7 at *
  clear hao
  go_big_quiet_want
  refine quiet_load_row 83 (.tmp 5) rfl _ 0 (by kernel_rfl) (⟨at1, x1, upd s.set dn, s.gone⟩ : Sta).vs _ (fun q hq => (hS q hq).2.2.2.1.range) Tryz.underlying83 rfl (by rw [Sta.len]; kernel_rfl) ?_
  simp only [Act.put, List.setIfInBounds_toArray, List.set_cons_succ, List.set_cons_zero]
  go_big_quiet_on
  iterate 2 go_big_quiet_step (fail)
  go_big_quiet_want
  refine quiet_load_row 61 (.tmp 3) rfl _ 0 (by kernel_rfl) j.vs _ (fun q hq => (hS q hq).2.1.range) Tryz.underlying61 rfl (by kernel_rfl) ?_
  simp only [Act.put, List.setIfInBounds_toArray, List.set_cons_succ, List.set_cons_zero]
  go_big_quiet_on
  go_big_quiet_want
  refine quiet_load_row 38 (.tmp 9) rfl _ 0 (by kernel_rfl) u.vs _ (fun q hq => (hS q hq).2.2.2.2.range) Tryz.underlying38 rfl (by kernel_rfl) ?_
  simp only [Act.put, List.setIfInBounds_toArray, List.set_cons_succ, List.set_cons_zero]
  go_big_quiet_on
  go_big_quiet_want
  refine quiet_load_row 61 (.tmp 3) rfl _ 0 (by kernel_rfl) j.vs _ (fun q hq => (hS q hq).2.1.range) Tryz.underlying61 rfl (by kernel_rfl) ?_
  simp only [Act.put, List.setIfInBounds_toArray, List.set_cons_succ, List.set_cons_zero]
  go_big_quiet_on
  iterate 9 go_big_quiet_step (fail)
  go_big_quiet_want
  refine quiet_load_row 38 (.tmp 98) rfl j.f.slots.b (j.f.slots.o + dn * 5) (by kernel_rfl) (j.f.slots.ps dn).vs _ (fun q hq => C5.row ((HJ.out.1.f.slots.kept (hS q hq).1).cells HDN.out.2.1)) Tryz.underlying38 rfl (by kernel_rfl) ?_
  simp only [Act.put, List.setIfInBounds_toArray, List.set_cons_succ, List.set_cons_zero]
  go_big_quiet_on
  refine wpQuiet_nil ?_
  clear hS p0 p1 p5 p17 pd hNE hdl
  refine wpAnyH_ready (rs := [9]) (by kernel_rfl) (by simp) ?_
  refine AllReadyH.cons rfl (fun K hK => ?_) AllReadyH.nil
  rw [if_pos (by rfl)]
  go_simp
  refine (both_any j nd.h.env k w7 HC4.out.1.hj.n HC4.out.1.hj.g).mono ?_
  rintro _ w8 ⟨rfl, hb8⟩
  have HC5 := hid (show Nw w j nd ⟨at1, x1, upd s.set dn, s.gone⟩ Sta.zero w8 ∧ Blk w8 B9 u.vs 38 ∧ u.At w8 from ⟨HC4.out.1.kept hb8, HC4.out.2.1.kept hb8, HC4.out.2.2.1.kept hb8⟩)
  refine hK.out _ _ ⟨HC5.out.1.bl, HC5.out.1.J, HC5.out.1.N, HC5.out.1.S, HC5.out.2.1⟩ (fun _ => ?_)
  clear hK K hb8
  generalize bothI j.n j.g nd.h.env k = ek at *
  refine wpAnyH_ready (rs := [10]) (by kernel_rfl) (by simp) ?_
  refine AllReadyH.cons rfl (fun K hK => ?_) AllReadyH.nil
  rw [if_pos (by rfl)]
  go_simp
  refine (jraise_any D j u ek w8 HC5.out.1.hj.n HC5.out.1.hj.g HC5.out.2.2 (by have h1 := HH.out.2.1; have h2 := HC5.out.1.sz; omega)).mono ?_
  rintro _ w9 ⟨v, rfl, vA, vB, vS, hb9⟩
  have HC6 := hid (show Nw w j nd ⟨at1, x1, upd s.set dn, s.gone⟩ Sta.zero w9 ∧ Blk w9 B9 u.vs 38 ∧ v.At w9 ∧ v.same (raiseT j.n j.g u ek) = true from ⟨HC5.out.1.kept hb9, HC5.out.2.1.kept hb9, vA, vS⟩)
  have HUN := hid (HC5.out.2.2.nd)
  refine hK.out _ _ ⟨HC6.out.1.bl, HC6.out.1.J, HC6.out.1.N, HC6.out.1.S, HC6.out.2.1⟩ (fun _ => ?_)
  clear hK K hb9 vA vB vS HC5
  refine wpAnyH_ready (rs := [18]) (by kernel_rfl) (by simp) ?_
  refine AllReadyH.cons rfl (fun K hK => ?_) AllReadyH.nil
  rw [if_pos (by rfl)]
  go_simp
  refine (Below_any2 j.n j.g v (j.f.slots.ps dn) w9 HC6.out.1.hj.n HC6.out.1.hj.g HC6.out.2.2.1 (HC6.out.1.hj.f.slots.part HDN.out.2.1)).mono ?_
  rintro _ w10 ⟨rfl, hb10⟩
  have HBB : Hid (belB j.n j.g v (j.f.slots.ps dn) = belB j.n j.g (raiseT j.n j.g r ek) (j.f.slots.ps dn)) := bel_sameL HC6.out.2.2.1.nd (raise_nd HND.out) (same_trans _ _ _ HC6.out.2.2.2 (raise_same HUN.out HND.out HC4.out.2.2.2.2.1))
  have HC7 := hid (show Nw w j nd ⟨at1, x1, upd s.set dn, s.gone⟩ Sta.zero w10 ∧ Blk w10 B9 u.vs 38 from ⟨HC6.out.1.kept hb10, HC6.out.2.1.kept hb10⟩)
  refine hK.out _ _ ⟨HC7.out.1.bl, HC7.out.1.J, HC7.out.1.N, HC7.out.1.S, HC7.out.2⟩ (fun _ => ?_)
  clear hK K hb10 HC6
  generalize belB j.n j.g v (j.f.slots.ps dn) = bb at *
  refine wpAnyH_ready (rs := [19]) (by kernel_rfl) (by simp) ?_
  refine AllReadyH.cons rfl (fun K hK => ?_) AllReadyH.nil
  rw [if_pos (by rfl)]
  refine wp_store_wrote' 83 (.tmp 6) (.tmp 82) rfl rfl (w.heap.size + 3) (⟨at1, x1, upd s.set dn, s.gone⟩ : Sta).vs Sta.zero.vs (by kernel_rfl) (by kernel_rfl) (Sta.va_one _) HC7.out.1.Z (by rw [Sta.len, Sta.len]) (by simp only [List.size_toArray, Sta.len]; kernel_rfl) ?_
  intro w11 W
  have HC8 := hid (show Nw w j nd ⟨at1, x1, upd s.set dn, s.gone⟩ ⟨at1, x1, upd s.set dn, s.gone⟩ w11 ∧ Blk w11 B9 u.vs 38 from ⟨HC7.out.1.wroteZ HJ.out.1 HJ.out.2 W, W.keep HC7.out.2 (by have := HC4.out.2.2.2.2.2; omega)⟩)
  refine hK.out _ _ ⟨HC8.out.1.bl, HC8.out.1.J, HC8.out.1.N, HC8.out.1.S, HC8.out.2⟩ (fun _ => ?_)
  clear hK K W HC7
  refine wpAnyH_ready (rs := [20]) (by kernel_rfl) (by simp) ?_
  refine AllReadyH.cons rfl (fun K hK => ?_) AllReadyH.nil
  rw [if_pos (by rfl)]
  go_simp
  refine hK.out _ _ ⟨HC8.out.1.bl, HC8.out.1.J, HC8.out.1.N, HC8.out.1.S, HC8.out.2⟩ (fun _ => ?_)
  clear hK K
  refine wpAnyH_done (by kernel_rfl) ?_ _
  refine ⟨(fun c hc => by cases hc), ?_⟩
  go_wp2
  refine bodyPost_ret (v := .tuple #[.agg (⟨at1, x1, upd s.set dn, s.gone⟩ : Sta).vs.toArray, .bool bb]) (results_st Tryz.results66 rfl rfl HC8.out.1.Z.range) rfl ⟨_, _, rfl, ?_, ?_, HC8.out.1.bl⟩
  · rw [HG.out, HDN.out.1, HBB.out]
    show _ = Option.isSome (if belB j.n j.g (raiseT j.n j.g r ek) (j.f.slots.ps (Int.toNat dn)) = true then _ else none)
    rw [Int.toNat_natCast]
    cases belB j.n j.g (raiseT j.n j.g r ek) (j.f.slots.ps dn) <;> rfl
  · intro s1 hs1
    rw [HG.out, HDN.out.1, Int.toNat_natCast] at hs1
    split at hs1
    · exact Option.some.inj hs1
    · cases hs1
end Go.Proofs.YtbdhbgilaeldgaaGreat

/- Layer 10: tells; node at the Ops 14 and 15. -/
namespace Go.Proofs.YtbdhbgilaeldgaaGreat
open Go Go.RowKit

theorem wpList_want {P : Program} {ops : Array Oper} {rest : List Oper} {o : Oper} {a : Act} {w : World} {Q : Exit → Act → World → Prop} (hw : Region.wanted o (yielded ops a.tmps) = true) (h : o.wp P a w (wpList P ops Q rest) Q) : wpList P ops Q (o :: rest) a w := by
  unfold wpList; rw [if_pos hw]; exact .inl h
theorem wpList_load_W {P : Program} {ops : Array Oper} {rest : List Oper} {op : Oper} {a : Act} {w : World} {Q : Exit → Act → World → Prop} (hw : Region.wanted op (yielded ops a.tmps) = true) (ty : TypeId) (x : Operand) (ho : op.op = .load ty x)
    (b o : Nat) (hx : a.eval x = .pointer (some ⟨b, o, none⟩)) (cs : List Value) (d : TypeDesc) (hc : w.rangeAt b o cs)
    (hu : P.underlying ty = some d) (hd : d.isRow = true) (hi : (P.info? ty).map (·.size) = some cs.length)
    (h : wpList P ops Q rest (a.put op.dst (.agg cs.toArray)) w) : wpList P ops Q (op :: rest) a w :=
  wpList_want hw (wp_load_mid ty x ho b o hx cs d hc hu hd hi h)
theorem wpList_sliceW {ops : Array Oper} {rest : List Oper} {o : Oper} {a : Act} {w w' : World} {v : Value} {Q : Exit → Act → World → Prop} (hw : Region.wanted o (yielded ops a.tmps) = true) (t : TypeId) (n : Nat) (parts : Array (Nat × Operand)) (ho : o.op = .buildSlice t n parts) (vals : Array (Nat × Value)) (hv : (parts.map fun (i, x) => (i, a.eval x)) = vals)
    (hs : (Instr.buildSlice t n vals).run Tryz.prog w = .ok v w') (h : wpList Tryz.prog ops Q rest (a.put o.dst v) w') : wpList Tryz.prog ops Q (o :: rest) a w := by
  subst hv
  refine wpList_want hw ?_
  unfold Oper.wp execOp
  simp only [ho, Sem.run_bind, hs, Result.andThen_ok, Sem.run_pure]
  exact h
/-- Two variables: a judge and a node. -/
structure Mj (w : World) (j : Jd) (nd : Nd) (u : World) : Prop where
  bl : Below w.heap.size w u
  hj : j.At u
  J : Blk u w.heap.size j.vs 61
  N : Blk u (w.heap.size + 1) nd.vs 44
theorem Mj.kept {w : World} {j : Jd} {nd : Nd} {u u' : World} (h : Mj w j nd u) (hb : Below u.heap.size u u') : Mj w j nd u' :=
  ⟨Below.next h.bl hb, h.hj.kept hb, h.J.kept hb, h.N.kept hb⟩
theorem mj_new (w : World) (j : Jd) (nd : Nd) (hj : j.At w) : Mj w j nd ((w.alloc (.cells j.va 61)).alloc (.cells nd.va 44)) := by
  have H := allocs_heap [.cells j.va 61, .cells nd.va 44] w
  have B0 := allocs_below [.cells j.va 61, .cells nd.va 44] w
  simp only [List.foldl] at H B0
  exact ⟨B0, hj.kept B0, H 0 (by simp), H 1 (by simp)⟩
set_option maxRecDepth 100000 in
set_option maxHeartbeats 8000000 in
theorem tells_any (j : Jd) (nd : Nd) (w : World) (hj : j.At w) (ha : 0 ≤ nd.h.a) (ha1 : nd.h.a < j.f.slots.len) :
    Calls Tryz.prog 93 #[.agg j.va, .agg nd.va] w fun e w' => e = .returned (.bool (j.tells nd)) ∧ Below w.heap.size w w' := by
  have HI := hid (mj_new w j nd hj)
  have HH := hid (show 0 ≤ nd.h.a ∧ nd.h.a < j.f.slots.len from ⟨ha, ha1⟩)
  have c2 := HI.out.N.cell 2 (v := .int .i64 nd.h.a) rfl
  clear hj ha ha1
  go_enter Tryz.func93, Tryz.ntmps93
  go_upto_region 1 with fail
  generalize ((w.alloc (.cells j.va 61)).alloc (.cells nd.va 44)) = w1 at *
  have bJ := HI.out.J
  have bN := HI.out.N
  go_wp2_with (first | (refine wpList_load_mid rfl 61 (.tmp 2) rfl w.heap.size 0 (by kernel_rfl) j.vs _ bJ.range Tryz.underlying61 rfl (by kernel_rfl) ?_) | (refine wpList_load_mid rfl 44 (.tmp 3) rfl (w.heap.size + 1) 0 (by kernel_rfl) nd.vs _ bN.range Tryz.underlying44 rfl (by kernel_rfl) ?_))
  refine (read_any 0 j nd nd.h.a w1 HI.out.hj (by omega) HH.out.1 HH.out.2).mono ?_
  rintro _ w2 ⟨u, rfl, uA, uB, uS, hb⟩
  have HI2 := hid (HI.out.kept hb)
  have HE : Hid (j.tells nd = ((u.k == 1) && (leqB j.n j.g u.l nd.h.n && leqB j.n j.g j.f.heap nd.h.n))) := by show _ = _; unfold Jd.tells; rw [← same_k uS, ← same_l uS]
  clear HI c2 bJ bN hb uA uB uS
  have hN := below_alloc w2 (.cells u.vs.toArray 38)
  have HB := hid (show Mj w j nd (w2.alloc (.cells u.vs.toArray 38)) ∧ Blk (w2.alloc (.cells u.vs.toArray 38)) w2.heap.size u.vs 38 from ⟨HI2.out.kept hN, Blk.new w2 _ _⟩)
  clear hN HI2
  go_upto_region 2 with (refine wpList_new_mid rfl rfl 38 rfl (.tmp 5) (.tmp 10) rfl zTv (alloc_ty _) rfl u.vs.toArray (by kernel_rfl) (by kernel_rfl) rfl (by kernel_rfl) (by simpa using u.vs_one) ?_)
  generalize (w2.alloc (.cells u.vs.toArray 38)) = w3 at *
  generalize w2.heap.size = B at *
  have x0 := HB.out.2.cell 0 (v := .int .i64 u.k) rfl
  cases hq : (u.k == 1)
  · have HF : Hid (j.tells nd = false) := by show _ = _; rw [HE.out, hq]; rfl
    go_wp2
    go_ret
    exact ⟨ret_bool HF.out.symm, HB.out.1.bl⟩
  · have HF : Hid (j.tells nd = ([u.l, j.f.heap].all fun a => leqB j.n j.g a nd.h.n)) := by show _ = _; rw [HE.out, hq]; simp
    have x1 := HB.out.2.cell 1 (v := .int .i64 u.l) rfl
    have c4 := HB.out.1.N.cell 4 (v := .int .i64 nd.h.n) rfl
    have c15 := HB.out.1.J.cell 15 (v := .int .i64 j.f.heap) rfl
    have bJ := HB.out.1.J
    have hr := run_int2 u.l j.f.heap w3
    have hb := below_alloc w3 (.cells #[.int .i64 u.l, .int .i64 j.f.heap] 3)
    have hL := IAt.blk (l := [u.l, j.f.heap]) (Blk.new w3 [.int .i64 u.l, .int .i64 j.f.heap] 3) (by simp)
    have HL := hid (jbelow_any j nd.h.n [u.l, j.f.heap] _ _ (HB.out.1.hj.n.kept hb) (HB.out.1.hj.g.kept hb) hL)
    have HX := hid (Below.next HB.out.1.bl hb)
    clear hb hL
    go_wp2_with (first | (refine wpList_load_W (by kernel_rfl) 61 (.tmp 2) rfl w.heap.size 0 (by kernel_rfl) j.vs _ bJ.range Tryz.underlying61 rfl (by kernel_rfl) ?_) | (refine wpList_sliceW (by kernel_rfl) 42 2 #[(0, .tmp 19), (1, .tmp 22)] rfl #[(0, .int .i64 u.l), (1, .int .i64 j.f.heap)] rfl hr ?_))
    refine HL.out.mono ?_
    rintro _ w4 ⟨rfl, hb4⟩
    clear x0 x1 c4 c15 bJ hr HL
    rw [← HF.out]
    go_wp2
    go_ret
    exact ⟨rfl, Below.next HX.out hb4⟩

theorem st_bool {b : Bool} {s : Sta} {w w' : World} (hb : Below w.heap.size w w') : StRet (if b = true then some s else none) w (.returned (.tuple #[.agg s.vs.toArray, .bool b])) w' := by
  refine ⟨s, b, rfl, ?_, ?_, hb⟩
  · cases b <;> rfl
  · intro s1 h
    cases b
    · cases h
    · exact Option.some.inj h
set_option maxRecDepth 100000 in
set_option maxHeartbeats 8000000 in
theorem node_op15 (j : Jd) (nd : Nd) (s : Sta) (w : World) (hj : j.At w) (hn : nd.At w) (hop : nd.h.op = 15) (b : Bool) (o : Option Sta) (ho : o = if b = true then some s else none) (hc : ∀ u, Below w.heap.size w u → Calls Tryz.prog 93 #[.agg j.vs.toArray, .agg nd.vs.toArray] u fun e w' => e = .returned (.bool b) ∧ Below u.heap.size u w') : NodeC o j nd s w := by
  unfold NodeC
  have HO := hid ho
  clear ho
  have HI := hid (nw_new w j nd s hj hn)
  have c0 := HI.out.N.cell 0 (v := .int .i64 nd.h.op) rfl
  rw [hop] at c0
  unfold nwW at HI c0
  have HJ := hid (show j.At w ∧ nd.At w from ⟨hj, hn⟩)
  have HP := hid hc
  clear hop hj hn hc
  go_enter Tryz.func66, Tryz.ntmps66
  go_upto_region 1 with (refine wpList_alloc_st rfl rfl ?_)
  generalize ((((w.alloc (.cells j.va 61)).alloc (.cells nd.va 44)).alloc (.cells s.va 83)).alloc (.cells Sta.zero.va 83)) = w1 at *
  go_upto_region 5 with fail
  clear c0
  have hC0 : ∀ q, (∃ x : Gr w1, q = x.w) → q.rangeAt w.heap.size 0 j.vs := by rintro _ ⟨x, rfl⟩; exact (HI.out.J.kept x.bl).range
  have hC1 : ∀ q, (∃ x : Gr w1, q = x.w) → q.rangeAt (w.heap.size + 1) 0 nd.vs := by rintro _ ⟨x, rfl⟩; exact (HI.out.N.kept x.bl).range
  have hC2 : ∀ q, (∃ x : Gr w1, q = x.w) → q.rangeAt (w.heap.size + 2) 0 s.vs := by rintro _ ⟨x, rfl⟩; exact (HI.out.S.kept x.bl).range
  have HBt : ∀ (x : Gr w1), Calls Tryz.prog 93 #[.agg j.vs.toArray, .agg nd.vs.toArray] x.w fun e w' => e = .returned (.bool b) ∧ Below x.w.heap.size x.w w' := fun x => HP.out x.w (Below.next HI.out.bl x.bl)
  have hNE : Nonempty (Gr w1) := ⟨⟨_, Below.refl _ _⟩⟩
  refine wp_region_gr_tail 4 (by kernel_rfl) (by kernel_rfl) ?_
  simp only [List.take, List.drop]
  go_big_quiet_want
  refine quiet_load_row 83 (.tmp 5) rfl _ 0 (by kernel_rfl) s.vs _ hC2 Tryz.underlying83 rfl (by rw [Sta.len]; kernel_rfl) ?_
  simp only [Act.put, List.setIfInBounds_toArray, List.set_cons_succ, List.set_cons_zero]
  go_big_quiet_on
  go_big_quiet_want
  refine quiet_load_row 61 (.tmp 3) rfl _ 0 (by kernel_rfl) j.vs _ hC0 Tryz.underlying61 rfl (by kernel_rfl) ?_
  simp only [Act.put, List.setIfInBounds_toArray, List.set_cons_succ, List.set_cons_zero]
  go_big_quiet_on
  go_big_quiet_want
  refine quiet_load_row 44 (.tmp 4) rfl _ 0 (by kernel_rfl) nd.vs _ hC1 Tryz.underlying44 rfl (by kernel_rfl) ?_
  simp only [Act.put, List.setIfInBounds_toArray, List.set_cons_succ, List.set_cons_zero]
  go_big_quiet_on
  go_big_quiet_step ((go_at_call 93; exact Calls.gr _ (HBt _)))
  refine wpQuiet_nil ?_
  rintro w4 ⟨x4, rfl⟩
  have B5 := x4.bl
  generalize x4.w = w4 at B5 ⊢
  have HC := hid (HI.out.kept B5)
  have bZ := HC.out.Z
  clear x4 B5 hC0 hC1 hC2 HBt hNE HI HP
  go_wp2_with (refine wpList_store_blk rfl rfl 83 (.tmp 6) (.tmp 21) rfl (w.heap.size + 3) s.vs (by kernel_rfl) (by kernel_rfl) (Sta.va_one _) bZ (by rw [Sta.len, Sta.len]) (by simp only [List.size_toArray, Sta.len]; kernel_rfl) ?_; intro w5 W)
  refine bodyPost_ret (v := .tuple #[.agg s.vs.toArray, .bool b]) (results_st Tryz.results66 rfl rfl W.blk.range) rfl ?_
  rw [HO.out]
  exact st_bool (W.below (by omega) HC.out.bl)
end Go.Proofs.YtbdhbgilaeldgaaGreat
