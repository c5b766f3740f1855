/- Layer 10: node at the Ops 16, 17, 18. -/
import Derived.Test.YtbdhbgilaeldgaaP26
import Derived.Test.YtbdhbgilaeldgaaP22
namespace Go.Proofs.Ytbdhbgilaeldgaa
open Go Go.RowKit

set_option maxRecDepth 100000 in
set_option maxHeartbeats 8000000 in
theorem node_op16 (j : Jd) (nd : Nd) (s : Sta) (w : World) (hj : j.At w) (hn : nd.At w) (hop : nd.h.op = 16) (o : Option Sta) (hc : ∀ u, Below w.heap.size w u → Calls Try.prog 75 #[.agg j.vs.toArray, .agg nd.vs.toArray, .agg s.vs.toArray] u (StRet o u)) : NodeC o j nd s w := by
  unfold NodeC
  have HI := hid (nw_new w j nd s hj hn)
  have c0 := HI.out.N.cell 0 (v := .int .i64 nd.h.op) rfl
  rw [hop] at c0
  unfold nwW at HI c0
  have HP := hid hc
  clear hop hj hn hc
  go_enter Try.func52, Try.ntmps52
  go_upto_region 1 with (refine wpList_alloc_st rfl rfl ?_)
  generalize ((((w.alloc (.cells j.va 57)).alloc (.cells nd.va 46)).alloc (.cells s.va 75)).alloc (.cells Sta.zero.va 75)) = w1 at *
  have bJ := HI.out.J
  have bN := HI.out.N
  have bS := HI.out.S
  go_wp2_with (first | (refine wpList_load_mid rfl 57 (.tmp 3) rfl w.heap.size 0 (by kernel_rfl) j.vs _ bJ.range Try.underlying57 rfl (by kernel_rfl) ?_) | (refine wpList_load_mid rfl 46 (.tmp 4) rfl (w.heap.size + 1) 0 (by kernel_rfl) nd.vs _ bN.range Try.underlying46 rfl (by kernel_rfl) ?_) | (refine wpList_load_mid rfl 75 (.tmp 5) rfl (w.heap.size + 2) 0 (by kernel_rfl) s.vs _ bS.range Try.underlying75 rfl (by rw [Sta.len]; kernel_rfl) ?_))
  refine (HP.out w1 HI.out.bl).mono ?_
  rintro _ w2 ⟨y, ok, rfl, hok, hy, hb⟩
  have HY := hid (show ok = o.isSome ∧ ∀ s1, o = some s1 → y = s1 from ⟨hok, hy⟩)
  have HC := hid (HI.out.kept hb)
  have bZ := HC.out.Z
  clear HI bJ bN bS c0 HP hb hok hy
  go_wp2_with (refine wpList_store_blk rfl rfl 75 (.tmp 6) (.tmp 31) rfl (w.heap.size + 3) y.vs (by kernel_rfl) (by kernel_rfl) (Sta.va_one _) bZ (by rw [Sta.len, Sta.len]) (by simp only [List.size_toArray, Sta.len]; kernel_rfl) ?_; intro w5 W)
  exact bodyPost_ret (v := .tuple #[.agg y.vs.toArray, .bool ok]) (results_st Try.results52 rfl rfl W.blk.range) rfl ⟨y, ok, rfl, HY.out.1, HY.out.2, W.below (by omega) HC.out.bl⟩
set_option maxRecDepth 100000 in
set_option maxHeartbeats 8000000 in
theorem node_op17 (j : Jd) (nd : Nd) (s : Sta) (w : World) (hj : j.At w) (hn : nd.At w) (hop : nd.h.op = 17) (o : Option Sta) (hc : ∀ u, Below w.heap.size w u → Calls Try.prog 76 #[.agg j.vs.toArray, .agg nd.vs.toArray, .agg s.vs.toArray] u (StRet o u)) : NodeC o j nd s w := by
  unfold NodeC
  have HI := hid (nw_new w j nd s hj hn)
  have c0 := HI.out.N.cell 0 (v := .int .i64 nd.h.op) rfl
  rw [hop] at c0
  unfold nwW at HI c0
  have HP := hid hc
  clear hop hj hn hc
  go_enter Try.func52, Try.ntmps52
  go_upto_region 1 with (refine wpList_alloc_st rfl rfl ?_)
  generalize ((((w.alloc (.cells j.va 57)).alloc (.cells nd.va 46)).alloc (.cells s.va 75)).alloc (.cells Sta.zero.va 75)) = w1 at *
  have bJ := HI.out.J
  have bN := HI.out.N
  have bS := HI.out.S
  go_wp2_with (first | (refine wpList_load_mid rfl 57 (.tmp 3) rfl w.heap.size 0 (by kernel_rfl) j.vs _ bJ.range Try.underlying57 rfl (by kernel_rfl) ?_) | (refine wpList_load_mid rfl 46 (.tmp 4) rfl (w.heap.size + 1) 0 (by kernel_rfl) nd.vs _ bN.range Try.underlying46 rfl (by kernel_rfl) ?_) | (refine wpList_load_mid rfl 75 (.tmp 5) rfl (w.heap.size + 2) 0 (by kernel_rfl) s.vs _ bS.range Try.underlying75 rfl (by rw [Sta.len]; kernel_rfl) ?_))
  refine (HP.out w1 HI.out.bl).mono ?_
  rintro _ w2 ⟨y, ok, rfl, hok, hy, hb⟩
  have HY := hid (show ok = o.isSome ∧ ∀ s1, o = some s1 → y = s1 from ⟨hok, hy⟩)
  have HC := hid (HI.out.kept hb)
  have bZ := HC.out.Z
  clear HI bJ bN bS c0 HP hb hok hy
  go_wp2_with (refine wpList_store_blk rfl rfl 75 (.tmp 6) (.tmp 39) rfl (w.heap.size + 3) y.vs (by kernel_rfl) (by kernel_rfl) (Sta.va_one _) bZ (by rw [Sta.len, Sta.len]) (by simp only [List.size_toArray, Sta.len]; kernel_rfl) ?_; intro w5 W)
  exact bodyPost_ret (v := .tuple #[.agg y.vs.toArray, .bool ok]) (results_st Try.results52 rfl rfl W.blk.range) rfl ⟨y, ok, rfl, HY.out.1, HY.out.2, W.below (by omega) HC.out.bl⟩
def raO (j : Jd) (nd : Nd) (s : Sta) : Option Sta := if (j.read nd nd.h.a).k = 1 then some { s with x := bothI j.n j.g s.x (j.read nd nd.h.a).l, gone := true } else none
theorem Sta.put252 (s : Sta) (v : Bool) : s.vs.set 252 (.bool v) = ({ s with gone := v } : Sta).vs := by
  rw [Sta.vs_set]
  show Value.int .i64 s.at_ :: Value.int .i64 s.x :: ((setV s.set ++ [Value.bool s.gone]).set 250 (Value.bool v)) = _
  rw [List.set_append_right _ _ (by rw [setV_len]; exact Nat.le_refl _), setV_len]
  rfl
set_option maxRecDepth 100000 in
set_option maxHeartbeats 16000000 in
theorem node_op18 (j : Jd) (nd : Nd) (s : Sta) (w : World) (hj : j.At w) (hn : nd.At w) (hop : nd.h.op = 18) (ha : 0 ≤ nd.h.a) (ha1 : nd.h.a < j.f.slots.len) : NodeC (raO j nd s) j nd s w := by
  unfold NodeC
  have HI := hid (nw_new w j nd s hj hn)
  have c0 := HI.out.N.cell 0 (v := .int .i64 nd.h.op) rfl
  have c2 := HI.out.N.cell 2 (v := .int .i64 nd.h.a) rfl
  rw [hop] at c0
  unfold nwW at HI c0 c2
  have HH := hid (show 0 ≤ nd.h.a ∧ nd.h.a < j.f.slots.len from ⟨ha, ha1⟩)
  have HJ := hid (show j.At w ∧ nd.At w from ⟨hj, hn⟩)
  clear hop hj hn ha ha1
  go_enter Try.func52, Try.ntmps52
  go_upto_region 1 with (refine wpList_alloc_st rfl rfl ?_)
  generalize ((((w.alloc (.cells j.va 57)).alloc (.cells nd.va 46)).alloc (.cells s.va 75)).alloc (.cells Sta.zero.va 75)) = w1 at *
  have bJ := HI.out.J
  have bN := HI.out.N
  go_wp2_with (first | (refine wpList_load_mid rfl 57 (.tmp 3) rfl w.heap.size 0 (by kernel_rfl) j.vs _ bJ.range Try.underlying57 rfl (by kernel_rfl) ?_) | (refine wpList_load_mid rfl 46 (.tmp 4) rfl (w.heap.size + 1) 0 (by kernel_rfl) nd.vs _ bN.range Try.underlying46 rfl (by kernel_rfl) ?_))
  refine (read_any 0 j nd nd.h.a w1 HI.out.hj (by omega) HH.out.1 HH.out.2).mono ?_
  rintro _ w2 ⟨u, rfl, uA, uB, uS, hb⟩
  have HI2 := hid (HI.out.kept hb)
  have HE : Hid (raO j nd s = if u.k = 1 then some { s with x := bothI j.n j.g s.x u.l, gone := true } else none) := by show _ = _; unfold raO; rw [← same_k uS, ← same_l uS]
  clear HI c0 c2 bJ bN hb uA uB uS
  have hN := below_alloc w2 (.cells u.vs.toArray 39)
  have HB := hid (show Nw w j nd s Sta.zero (w2.alloc (.cells u.vs.toArray 39)) ∧ Blk (w2.alloc (.cells u.vs.toArray 39)) w2.heap.size u.vs 39 ∧ w.heap.size + 4 ≤ w2.heap.size from ⟨HI2.out.kept hN, Blk.new w2 _ _, HI2.out.sz⟩)
  clear hN HI2
  go_upto_region 12 with (refine wpList_new_mid rfl rfl 39 rfl (.tmp 8) (.tmp 47) rfl zTv (alloc_ty _) rfl u.vs.toArray (by kernel_rfl) (by kernel_rfl) rfl (by kernel_rfl) (by simpa using u.vs_one) ?_)
  generalize (w2.alloc (.cells u.vs.toArray 39)) = w3 at *
  generalize w2.heap.size = B8 at *
  have x1 := HB.out.2.1.cell 1 (v := .int .i64 u.l) rfl
  have s1 := HB.out.1.S.cell 1 s.v1
  have bJ := HB.out.1.J
  go_wp2_with (refine wpList_load_mid rfl 57 (.tmp 3) rfl w.heap.size 0 (by kernel_rfl) j.vs _ bJ.range Try.underlying57 rfl (by kernel_rfl) ?_)
  refine (both_any j s.x u.l w3 HB.out.1.hj.n HB.out.1.hj.g).mono ?_
  rintro _ w4 ⟨rfl, hb4⟩
  have HC := hid (show Nw w j nd s Sta.zero w4 ∧ Blk w4 B8 u.vs 39 ∧ w.heap.size + 4 ≤ B8 from ⟨HB.out.1.kept hb4, HB.out.2.1.kept hb4, HB.out.2.2⟩)
  clear x1 s1 bJ hb4 HB
  generalize bothI j.n j.g s.x u.l = bx at *
  have s1 := HC.out.1.S.cell 1 s.v1
  have g1 := HC.out.1.S.frozen 1
  have s252 := HC.out.1.S.cell 252 s.v252
  have g252 := HC.out.1.S.frozen 252
  have W1 := wrote_setCell (i := 1) HC.out.1.S (.int .i64 bx)
  rw [s.put1] at W1
  have W2 := wrote_setCell (i := 252) W1.blk (.bool true)
  rw [Sta.put252] at W2
  have HD := hid (show Nw w j nd ⟨s.at_, bx, s.set, true⟩ Sta.zero _ ∧ Blk _ B8 u.vs 39 from ⟨(HC.out.1.wroteS HJ.out.1 HJ.out.2 W1).wroteS HJ.out.1 HJ.out.2 W2, W2.keep (W1.keep HC.out.2.1 (by have := HC.out.2.2; omega)) (by have := HC.out.2.2; omega)⟩)
  clear W1 W2
  go_upto_region 13 with fail
  clear s1 g1 s252 g252
  generalize ((w4.setCell ⟨w.heap.size + 2, 1, none⟩ (.int .i64 bx)).setCell ⟨w.heap.size + 2, 252, none⟩ (.bool true)) = w5 at *
  have HP8 := hid HC.out.2.2
  clear HC
  have hS : ∀ q, (∃ x : Wd (fun q : World => Below w.heap.size w q ∧ Blk q (w.heap.size + 2) (⟨s.at_, bx, s.set, true⟩ : Sta).vs 75 ∧ Blk q B8 u.vs 39), q = x.w) → Below w.heap.size w q ∧ Blk q (w.heap.size + 2) (⟨s.at_, bx, s.set, true⟩ : Sta).vs 75 ∧ Blk q B8 u.vs 39 := by rintro _ ⟨x, rfl⟩; exact x.2
  have p0 : ∀ x : Wd (fun q : World => Below w.heap.size w q ∧ Blk q (w.heap.size + 2) (⟨s.at_, bx, s.set, true⟩ : Sta).vs 75 ∧ Blk q B8 u.vs 39), x.w.cell? ⟨B8, 0, none⟩ = some (.int .i64 u.k) := fun x => x.2.2.2.cell 0 rfl
  have hdb := (Below.refl w5.heap.size w5).drew
  have HV0 := hid (show Nw w j nd ⟨s.at_, bx, s.set, true⟩ Sta.zero w5.drew ∧ Blk w5.drew B8 u.vs 39 from ⟨HD.out.1.kept hdb, HD.out.2.kept hdb⟩)
  clear hdb HD
  have hNE : Nonempty (Wd (fun q : World => Below w.heap.size w q ∧ Blk q (w.heap.size + 2) (⟨s.at_, bx, s.set, true⟩ : Sta).vs 75 ∧ Blk q B8 u.vs 39)) := ⟨⟨_, HV0.out.1.bl, HV0.out.1.S, HV0.out.2⟩⟩
  refine wp_region_readsMN (fun q : World => Below w.heap.size w q ∧ Blk q (w.heap.size + 2) (⟨s.at_, bx, s.set, true⟩ : Sta).vs 75 ∧ Blk q B8 u.vs 39) [0, 1, 2] 3 (by kernel_rfl) rfl (by kernel_rfl) (hj_of (by kernel_rfl)) ⟨HV0.out.1.bl, HV0.out.1.S, HV0.out.2⟩ ?_
  simp only [List.filterMap, List.getElem?_cons_zero, List.getElem?_cons_succ]
  generalize w5.drew = v0 at *
  go_big_quiet_want
  refine quiet_load_row 75 (.tmp 5) rfl _ 0 (by kernel_rfl) (⟨s.at_, bx, s.set, true⟩ : Sta).vs _ (fun q hq => (hS q hq).2.1.range) Try.underlying75 rfl (by rw [Sta.len]; kernel_rfl) ?_
  simp only [Act.put, List.setIfInBounds_toArray, List.set_cons_succ, List.set_cons_zero]
  go_big_quiet_on
  iterate 2 go_big_quiet_step (fail)
  refine wpQuiet_nil ?_
  clear hS p0 hNE
  have HR : Hid ((u.k == 1) = (raO j nd s).isSome ∧ ∀ s1, raO j nd s = some s1 → (⟨s.at_, bx, s.set, true⟩ : Sta) = s1) := by
    show _ ∧ _
    rw [HE.out]
    by_cases hq : u.k = 1
    · rw [if_pos hq, hq]; exact ⟨rfl, fun s1 h => Option.some.inj h⟩
    · rw [if_neg hq]; exact ⟨beq_eq_false_iff_ne.2 hq, fun _ h => by cases h⟩
  generalize (⟨s.at_, bx, s.set, true⟩ : Sta) = sr at *
  generalize hkk : (u.k == 1) = kk at *
  refine wpAnyH_ready (rs := [3, 4]) (by kernel_rfl) (by simp) ?_
  refine AllReadyH.cons rfl (fun K hK => ?_) (AllReadyH.cons rfl (fun K hK => ?_) AllReadyH.nil)
  · rw [if_pos (by rfl)]
    go_simp
    refine hK.out _ _ ⟨HV0.out.1.bl, HV0.out.1.S, HV0.out.2⟩ (fun _ => ?_)
    clear hK K
    refine wpAnyH_ready (rs := [4]) (by kernel_rfl) (by simp) ?_
    refine AllReadyH.cons rfl (fun K hK => ?_) AllReadyH.nil
    rw [if_pos (by rfl)]
    refine wp_store_wrote' 75 (.tmp 6) (.tmp 56) rfl rfl (w.heap.size + 3) sr.vs Sta.zero.vs (by kernel_rfl) (by kernel_rfl) (Sta.va_one _) HV0.out.1.Z (by rw [Sta.len, Sta.len]) (by simp only [List.size_toArray, Sta.len]; kernel_rfl) ?_
    intro w8 W8
    have HV3 := hid (show Below w.heap.size w w8 ∧ Blk w8 (w.heap.size + 2) sr.vs 75 ∧ Blk w8 B8 u.vs 39 from ⟨W8.below (by omega) HV0.out.1.bl, W8.keep HV0.out.1.S (by omega), W8.keep HV0.out.2 (by have := HP8.out; omega)⟩)
    refine hK.out _ _ HV3.out (fun _ => ?_)
    clear hK K
    refine wpAnyH_ready (rs := [5]) (by kernel_rfl) (by simp) ?_
    refine AllReadyH.cons rfl (fun K hK => ?_) AllReadyH.nil
    rw [if_pos (by rfl)]
    go_simp
    refine hK.out _ _ HV3.out (fun _ => ?_)
    clear hK K
    refine wpAnyH_done (by kernel_rfl) ?_ _
    refine ⟨(fun c hc => by cases hc), ?_⟩
    go_wp2
    exact bodyPost_ret (v := .tuple #[.agg sr.vs.toArray, .bool kk]) (results_st Try.results52 rfl rfl W8.blk.range) rfl ⟨_, _, rfl, HR.out.1, HR.out.2, HV3.out.1⟩
  · rw [if_pos (by rfl)]
    refine wp_store_wrote' 75 (.tmp 6) (.tmp 56) rfl rfl (w.heap.size + 3) sr.vs Sta.zero.vs (by kernel_rfl) (by kernel_rfl) (Sta.va_one _) HV0.out.1.Z (by rw [Sta.len, Sta.len]) (by simp only [List.size_toArray, Sta.len]; kernel_rfl) ?_
    intro w8 W8
    have HV3 := hid (show Below w.heap.size w w8 ∧ Blk w8 (w.heap.size + 2) sr.vs 75 ∧ Blk w8 B8 u.vs 39 from ⟨W8.below (by omega) HV0.out.1.bl, W8.keep HV0.out.1.S (by omega), W8.keep HV0.out.2 (by have := HP8.out; omega)⟩)
    refine hK.out _ _ HV3.out (fun _ => ?_)
    clear hK K
    refine wpAnyH_ready (rs := [3]) (by kernel_rfl) (by simp) ?_
    refine AllReadyH.cons rfl (fun K hK => ?_) AllReadyH.nil
    rw [if_pos (by rfl)]
    go_simp
    refine hK.out _ _ HV3.out (fun _ => ?_)
    clear hK K
    refine wpAnyH_ready (rs := [5]) (by kernel_rfl) (by simp) ?_
    refine AllReadyH.cons rfl (fun K hK => ?_) AllReadyH.nil
    rw [if_pos (by rfl)]
    go_simp
    refine hK.out _ _ HV3.out (fun _ => ?_)
    clear hK K
    refine wpAnyH_done (by kernel_rfl) ?_ _
    refine ⟨(fun c hc => by cases hc), ?_⟩
    go_wp2
    exact bodyPost_ret (v := .tuple #[.agg sr.vs.toArray, .bool kk]) (results_st Try.results52 rfl rfl W8.blk.range) rfl ⟨_, _, rfl, HR.out.1, HR.out.2, HV3.out.1⟩
end Go.Proofs.Ytbdhbgilaeldgaa

/- Layer 10: what a node needs, as data; needed. -/
namespace Go.Proofs.Ytbdhbgilaeldgaa
open Go Go.RowKit

/-- What an Op needs beside slots and Env; those within told by x, y. -/
def needB (n : Strs) (g : Grid) (many : Int) (h : Hd) (x y : Bool) : Bool :=
  if h.op = 2 then wthB h.n 2 else if h.op = 4 then (decide (6 ≤ h.n) && decide (h.n ≤ 12)) else if h.op = 9 then wthB h.n many else if h.op = 12 then okB n g h.t else if h.op = 15 then wthB h.n n.len
  else if h.op = 16 ∨ h.op = 17 then (x && y) else (decide (1 ≤ h.op) && decide (h.op ≤ 18))
def shpB (n : Strs) (g : Grid) (many : Int) (m : Nat) (h : Hd) (x y : Bool) : Bool := ((wthB h.env n.len && slotsB m h.rds) && (!h.wrs || slotsB m [h.dst])) && needB n g many h x y
/-- Is a node shaped? -/
def Nd.shp (n : Strs) (g : Grid) (many : Int) (m : Nat) : Nd → Bool
  | .dm => false
  | .mk h _ _ _ bl _ bp _ _ _ el _ ep => shpB n g many m h (decide (∀ i, i < bl → Nd.shp n g many m (bp i) = true)) (decide (∀ i, i < el → Nd.shp n g many m (ep i) = true))
def Ns.shp (n : Strs) (g : Grid) (many : Int) (m : Nat) (b : Ns) : Bool := decide (∀ i, i < b.len → (b.ps i).shp n g many m = true)
theorem Nd.shp_eq {w : World} {n : Strs} {g : Grid} {many : Int} {m : Nat} : ∀ {nd : Nd}, nd.At w → nd.shp n g many m = shpB n g many m nd.h (nd.bd.shp n g many m) (nd.el.shp n g many m)
  | .dm, h => h.elim
  | .mk _ _ _ _ _ _ _ _ _ _ _ _ _, _ => rfl
def NodesC (n : Strs) (g : Grid) (many : Int) (f : Fc) (b : Ns) : Prop := ∀ w : World, n.At w → g.At w → b.At w → Calls Try.prog 46 #[.agg (shV n g many f).toArray, .slice b.ao b.len b.cap] w fun e w' => e = .returned (.bool (b.shp n g many f.slots.len)) ∧ Below w.heap.size w w'
structure Dw (w : World) (n : Strs) (g : Grid) (many : Int) (f : Fc) (nd : Nd) (u : World) : Prop where
  bl : Below w.heap.size w u
  H : Blk u w.heap.size (shV n g many f) 68
  N : Blk u (w.heap.size + 1) nd.vs 46
theorem dw_new (w : World) (n : Strs) (g : Grid) (many : Int) (f : Fc) (nd : Nd) : Dw w n g many f nd ((w.alloc (.cells (shV n g many f).toArray 68)).alloc (.cells nd.va 46)) := by
  have H := allocs_heap [.cells (shV n g many f).toArray 68, .cells nd.va 46] w
  have B0 := allocs_below [.cells (shV n g many f).toArray 68, .cells nd.va 46] w
  simp only [List.foldl] at H B0
  exact ⟨B0, H 0 (by simp), H 1 (by simp)⟩
set_option maxRecDepth 100000 in
set_option maxHeartbeats 8000000 in
theorem needed_any (n : Strs) (g : Grid) (many : Int) (f : Fc) (nd : Nd) (w : World) (hn : n.At w) (hg : g.At w) (hd : nd.At w) (h1 : NodesC n g many f nd.bd) (h2 : NodesC n g many f nd.el) :
    Calls Try.prog 69 #[.agg (shV n g many f).toArray, .agg nd.va] w fun e w' => e = .returned (.bool (needB n g many nd.h (nd.bd.shp n g many f.slots.len) (nd.el.shp n g many f.slots.len))) ∧ Below w.heap.size w w' := by
  have HI := hid (dw_new w n g many f nd)
  have HH := hid (show n.At w ∧ g.At w ∧ nd.At w ∧ NodesC n g many f nd.bd ∧ NodesC n g many f nd.el from ⟨hn, hg, hd, h1, h2⟩)
  obtain ⟨R, hR⟩ : ∃ R, R = needB n g many nd.h (nd.bd.shp n g many f.slots.len) (nd.el.shp n g many f.slots.len) := ⟨_, rfl⟩
  rw [← hR]
  have HR := hid hR
  clear hn hg hd h1 h2 hR
  have c0 := HI.out.N.cell 0 (v := .int .i64 nd.h.op) rfl
  have c4 := HI.out.N.cell 4 (v := .int .i64 nd.h.n) rfl
  go_enter Try.func69, Try.ntmps69
  go_upto_region 1 with fail
  generalize ((w.alloc (.cells (shV n g many f).toArray 68)).alloc (.cells nd.va 46)) = w1 at *
  by_cases o2 : nd.h.op = 2
  · have HF : Hid (R = wthB nd.h.n 2) := by show _ = _; rw [HR.out]; unfold needB; rw [if_pos o2]
    rw [o2] at c0
    have hW := within_any nd.h.n 2 w1
    go_wp2_with fail
    refine hW.mono ?_
    rintro _ w2 ⟨rfl, hb⟩
    rw [← HF.out]
    go_wp2
    go_ret
    exact ⟨rfl, Below.next HI.out.bl hb⟩
  by_cases o4 : nd.h.op = 4
  · have HF : Hid (R = (decide (6 ≤ nd.h.n) && decide (nd.h.n ≤ 12))) := by show _ = _; rw [HR.out]; unfold needB; rw [if_neg o2, if_pos o4]
    rw [o4] at c0
    by_cases h6 : 6 ≤ nd.h.n
    · go_wp2
      go_ret
      exact ⟨ret_bool (by rw [HF.out, decide_eq_true h6]; rfl), HI.out.bl⟩
    · go_wp2
      go_ret
      exact ⟨ret_bool (by rw [HF.out, decide_eq_false (p := 6 ≤ nd.h.n) (by omega)]; rfl), HI.out.bl⟩
  by_cases o9 : nd.h.op = 9
  · have HF : Hid (R = wthB nd.h.n many) := by show _ = _; rw [HR.out]; unfold needB; rw [if_neg o2, if_neg o4, if_pos o9]
    rw [o9] at c0
    have d2 := HI.out.H.cell 2 (v := .int .i64 many) rfl
    have hW := within_any nd.h.n many w1
    go_wp2_with fail
    refine hW.mono ?_
    rintro _ w2 ⟨rfl, hb⟩
    rw [← HF.out]
    go_wp2
    go_ret
    exact ⟨rfl, Below.next HI.out.bl hb⟩
  by_cases o12 : nd.h.op = 12
  · have HF : Hid (R = okB n g nd.h.t) := by show _ = _; rw [HR.out]; unfold needB; rw [if_neg o2, if_neg o4, if_neg o9, if_pos o12]
    rw [o12] at c0
    have d0 := HI.out.H.cell 0 (v := .slice n.ao n.len n.cap) rfl
    have d1 := HI.out.H.cell 1 (v := .slice g.ao g.len g.cap) rfl
    have r6 : w1.rangeAt (w.heap.size + 1) 6 nd.h.t.vs := range_of5 HI.out.N 6 rfl rfl rfl rfl rfl
    have hW := Formed2_any n g nd.h.t w1 (HH.out.1.kept HI.out.bl) (HH.out.2.1.kept HI.out.bl) (HH.out.2.2.1.t.kept HI.out.bl)
    go_wp2_with (refine wpList_load_mid rfl 39 (.tmp 33) rfl (w.heap.size + 1) 6 (by kernel_rfl) nd.h.t.vs _ r6 Try.underlying39 rfl (by kernel_rfl) ?_)
    refine Calls.mono hW ?_
    rintro _ w2 ⟨rfl, hb⟩
    rw [← HF.out]
    go_wp2
    go_ret
    exact ⟨rfl, Below.next HI.out.bl hb⟩
  by_cases o15 : nd.h.op = 15
  · have HF : Hid (R = wthB nd.h.n n.len) := by show _ = _; rw [HR.out]; unfold needB; rw [if_neg o2, if_neg o4, if_neg o9, if_neg o12, if_pos o15]
    rw [o15] at c0
    have d0 := HI.out.H.cell 0 (v := .slice n.ao n.len n.cap) rfl
    have hW := within_any nd.h.n n.len w1
    go_wp2_with fail
    refine hW.mono ?_
    rintro _ w2 ⟨rfl, hb⟩
    rw [← HF.out]
    go_wp2
    go_ret
    exact ⟨rfl, Below.next HI.out.bl hb⟩
  by_cases o16 : nd.h.op = 16 ∨ nd.h.op = 17
  · have HF : Hid (R = (nd.bd.shp n g many f.slots.len && nd.el.shp n g many f.slots.len)) := by show _ = _; rw [HR.out]; unfold needB; rw [if_neg o2, if_neg o4, if_neg o9, if_neg o12, if_neg o15, if_pos o16]
    have c12 := HI.out.N.cell 12 (v := .slice nd.bd.ao nd.bd.len nd.bd.cap) rfl
    have bH := HI.out.H
    have hW := HH.out.2.2.2.1 w1 (HH.out.1.kept HI.out.bl) (HH.out.2.1.kept HI.out.bl) (HH.out.2.2.1.kept HI.out.bl).bd
    clear o2 o4 o9 o12 o15 c4
    generalize nd.h.op = op at *
    rcases o16 with rfl | rfl
    all_goals
      go_wp2_with (refine wpList_load_mid rfl 68 (.tmp 2) rfl w.heap.size 0 (by kernel_rfl) (shV n g many f) _ bH.range Try.underlying68 rfl (by kernel_rfl) ?_)
      refine Calls.mono hW ?_
      rintro _ w2 ⟨rfl, hb⟩
      have HB := hid (show Below w1.heap.size w1 w2 from hb)
      clear hW hb c0 c12 bH
      generalize nd.bd.shp n g many f.slots.len = x at *
      cases x
      · go_wp2
        go_ret
        exact ⟨ret_bool (by rw [HF.out]; rfl), Below.next HI.out.bl HB.out⟩
      · have c13 := (HI.out.N.kept HB.out).cell 13 (v := .slice nd.el.ao nd.el.len nd.el.cap) rfl
        have bH := HI.out.H.kept HB.out
        have hW := HH.out.2.2.2.2 w2 ((HH.out.1.kept HI.out.bl).kept HB.out) ((HH.out.2.1.kept HI.out.bl).kept HB.out) ((HH.out.2.2.1.kept HI.out.bl).kept HB.out).el
        go_wp2_with (refine wpList_load_W (by kernel_rfl) 68 (.tmp 2) rfl w.heap.size 0 (by kernel_rfl) (shV n g many f) _ bH.range Try.underlying68 rfl (by kernel_rfl) ?_)
        refine Calls.mono hW ?_
        rintro _ w3 ⟨rfl, hb⟩
        clear hW c13 bH
        rw [show nd.el.shp n g many f.slots.len = R by rw [HF.out]; rfl]
        go_wp2
        go_ret
        exact ⟨rfl, Below.next (Below.next HI.out.bl HB.out) hb⟩
  · have HF : Hid (R = (decide (1 ≤ nd.h.op) && decide (nd.h.op ≤ 18))) := by show _ = _; rw [HR.out]; unfold needB; rw [if_neg o2, if_neg o4, if_neg o9, if_neg o12, if_neg o15, if_neg o16]
    have e2 := beqI o2
    have e4 := beqI o4
    have e9 := beqI o9
    have e12 := beqI o12
    have e15 := beqI o15
    have e16 := beqI (fun e => o16 (Or.inl e))
    have e17 := beqI (fun e => o16 (Or.inr e))
    clear o2 o4 o9 o12 o15 o16
    by_cases h6 : 1 ≤ nd.h.op
    · go_wp2
      go_ret
      exact ⟨ret_bool (by rw [HF.out, decide_eq_true h6]; rfl), HI.out.bl⟩
    · go_wp2
      go_ret
      exact ⟨ret_bool (by rw [HF.out, decide_eq_false (p := 1 ≤ nd.h.op) (by omega)]; rfl), HI.out.bl⟩
end Go.Proofs.Ytbdhbgilaeldgaa
