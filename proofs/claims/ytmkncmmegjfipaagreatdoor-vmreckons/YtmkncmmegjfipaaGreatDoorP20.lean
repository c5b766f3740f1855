/- Layer 18: what is on top of the stack. -/
import Derived.Test.YtmkncmmegjfipaaGreatDoorP19
namespace Go.Proofs.YtmkncmmegjfipaaGreatDoor
open Go Go.RowKit

theorem i63 {m : Int} (h : 0 ≤ m) (h2 : m ≤ 1000000) : wrap64 m = m := by unfold wrap64; omega
def Fr.sk (f : Fr) (l : List Vl) (v : Value) : Fr := { f with st := l, sv := v }
set_option maxRecDepth 100000 in
set_option maxHeartbeats 2000000 in
theorem pop_nil {cl : Kl} {w0 : World} {B : Nat} {ρ : Nat → Nat} {m : Mc} {r : List Fr} {f : Fr} {g : Nat} {w : World} (kd : Int) (h : Tp cl w0 B ρ m r f g w) (hst : f.st = []) : Calls Tryz.prog 146 #[.pointer (some ⟨g, r.length * 7, none⟩), .int .i64 kd] w fun e w' => e = .returned (.tuple #[.agg Vl.zv.vs.toArray, .bool false]) ∧ Below w.heap.size w w' := by
  have cS := h.cell 5 (v := f.sv) rfl
  have e1 : ∃ ao cap, f.sv = .slice ao 0 cap := by
    obtain ⟨ao, cap, e⟩ := owform h.fr.s.own
    rw [hst] at e
    exact ⟨ao, cap, e⟩
  obtain ⟨ao, cap, e⟩ := e1
  rw [e] at cS
  have B0 := below_alloc w (.cells #[.int .i64 0, .int .i64 0, .slice none 0 0] 31)
  have b0 := Blk.new w [.int .i64 0, .int .i64 0, .slice none 0 0] 31
  have HB := hyd B0
  clear h hst e B0
  generalize r.length * 7 = o at *
  go_enter Tryz.func146, Tryz.ntmps146
  go_upto_region 1 with fail
  have cS1 := (show ∀ u, Below w.heap.size w u → u.cell? ⟨g, o + 5, none⟩ = some (.slice ao 0 cap) from fun u hu => up hu cS) _ HB.out
  clear cS
  generalize w.alloc (.cells #[.int .i64 0, .int .i64 0, .slice none 0 0] 31) = u1 at *
  generalize hBZ : w.heap.size = BZ at *
  have HBZ := hyd hBZ
  clear hBZ
  go_wp2_with (refine wpList_store_seg rfl rfl 31 (.tmp 4) (.tmp 16) rfl BZ 0 [.int .i64 0, .int .i64 0, .slice none 0 0] (by kernel_rfl) (by kernel_rfl) rfl b0 (by decide) (by kernel_rfl) ?_; intro u2 W2)
  exact bodyPost_ret (v := .tuple #[.agg Vl.zv.vs.toArray, .bool false]) (results_row2V (vs := Vl.zv.vs) Tryz.underlying31 rfl (by kernel_rfl) Tryz.results146 rfl rfl W2.blk.range) rfl ⟨rfl, by rw [HBZ.out]; exact W2.below (Nat.le_refl _) HB.out⟩
theorem vls_at {l : List Vl} {v : Vl} {ys : List Value} (j : Nat) (hj : j < 3) : (vls (l ++ [v]) ++ ys)[l.length * 3 + j]? = v.vs[j]? := by
  rw [List.getElem?_append_left (by rw [vls_len, List.length_append, List.length_singleton]; omega)]
  exact vls_get (by simp) j hj
theorem fr_pop {cl : Kl} {w0 : World} {ρ : Nat → Nat} {i gs cap : Nat} {f : Fr} {w : World} {l : List Vl} {v : Vl} (h : FrAt cl w0 ρ i f w) (e : f.sv = .slice (some ⟨gs, 0, none⟩) (l.length + 1) cap) (hst : f.st = l ++ [v]) : FrAt cl w0 ρ i (f.sk l (.slice (some ⟨gs, 0, none⟩) l.length cap)) w ∧ VOk ρ w v := by
  have hs := h.s
  rw [e, hst, List.length_append, List.length_singleton] at hs
  have h2 := hs.cut l.length (by omega)
  rw [vls_app, List.take_append_of_le_length (by rw [vls_len]; exact Nat.le_refl _), List.take_of_length_le (by rw [vls_len]; exact Nat.le_refl _)] at h2
  exact ⟨⟨h.fn, h.fu, h2, h.l, fun u hu => h.vs u (by rw [hst]; exact List.mem_append_left _ hu), h.vl⟩, h.vs v (by rw [hst]; simp)⟩
set_option maxRecDepth 100000 in
set_option maxHeartbeats 4000000 in
theorem pop_any {cl : Kl} {w0 : World} {B : Nat} {ρ : Nat → Nat} {m : Mc} {r : List Fr} {f : Fr} {g : Nat} {w : World} (kd : Int) (l : List Vl) (v : Vl) (h : Tp cl w0 B ρ m r f g w) (hst : f.st = l ++ [v]) (hl : l.length ≤ 10) : Calls Tryz.prog 146 #[.pointer (some ⟨g, r.length * 7, none⟩), .int .i64 kd] w fun e w' => e = .returned (.tuple #[.agg v.vs.toArray, .bool (decide (kd = -1) || decide (v.k = kd))]) ∧ (∃ sv' ρ', Tp cl w0 B ρ' (m.top r (f.sk l sv')) r (f.sk l sv') g w' ∧ Ch (fun x => x = 2) ρ ρ' w w') := by
  have hlen : f.st.length = l.length + 1 := by rw [hst]; simp
  obtain ⟨gs, cap, ys, es, hgs, hbs, hcap⟩ := h.fr.s.blk (by omega)
  rw [hlen] at es
  have cS := h.cell 5 (v := .slice (some ⟨gs, 0, none⟩) (l.length + 1) cap) (by rw [← es]; rfl)
  have y0 : w.cell? ⟨gs, l.length * 3 + 0, none⟩ = some (.int .i64 v.k) := hbs.cell _ (by rw [hst, vls_at 0 (by omega)]; rfl)
  have y1 : w.cell? ⟨gs, l.length * 3 + 1, none⟩ = some (.int .i64 v.m) := hbs.cell _ (by rw [hst, vls_at 1 (by omega)]; rfl)
  have y2 : w.cell? ⟨gs, l.length * 3 + 2, none⟩ = some (.slice v.ao v.len v.cap) := hbs.cell _ (by rw [hst, vls_at 2 (by omega)]; rfl)
  rw [Nat.add_zero] at y0
  have B0 := below_alloc w (.cells #[.int .i64 0, .int .i64 0, .slice none 0 0] 31)
  have HK := hyd (Blk.new w [.int .i64 0, .int .i64 0, .slice none 0 0] 31)
  have HT := hyd (h.keep (Ch.fresh 5 B0))
  have HC := hyd (Ch.fresh (R := fun x => x = 2) (ρ := ρ) 5 B0)
  have cap1 := hcap.1
  rw [hlen] at cap1
  have HF := hyd (show f.sv = .slice (some ⟨gs, 0, none⟩) (l.length + 1) cap ∧ f.st = l ++ [v] from ⟨es, hst⟩)
  have hB := hyd B0
  have HZ := hyd (show w.heap.size ≠ B ∧ w.heap.size ≠ g ∧ w0.heap.size ≤ w.heap.size from ⟨by have := h.M.blk.lt; omega, by obtain ⟨_, hg, _⟩ := h.there; have := hg.lt; omega, h.M.bl.size⟩)
  clear h hst es hbs hcap hlen B0
  have HRZ := hyd (upd_at ρ w.heap.size 5)
  have HW0 := hyd (show w.heap.size ≤ w.heap.size from Nat.le_refl _)
  generalize hρ : upd ρ w.heap.size 5 = ρ1 at *
  clear hρ
  generalize ho : r.length * 7 = o at *
  have HO := hyd ho
  clear ho
  generalize hk : l.length = n at *
  have HNN := hyd hk
  clear hk
  go_enter Tryz.func146, Tryz.ntmps146
  go_upto_region 1 with fail
  have cS1 : _ := up hB.out cS
  have z0 := up hB.out y0
  have z1 := up hB.out y1
  have z2 := up hB.out y2
  clear cS y0 y1 y2 hB
  generalize w.alloc (.cells #[.int .i64 0, .int .i64 0, .slice none 0 0] 31) = u1 at *
  generalize hBZ : w.heap.size = BZ at *
  have HBZ := hyd hBZ
  clear hBZ
  have i1 : wrap64 ((n : Int) + 1 - 1) = n := by unfold wrap64; omega
  go_upto_region 5 with fail
  have HT3 := hyd (HT.out.kept (below_alloc u1 (.cells #[.int .i64 v.k, .int .i64 v.m, .slice v.ao v.len v.cap] 31)))
  have HC3 := hyd (HC.out.trans (Ch.of_below (below_alloc u1 (.cells #[.int .i64 v.k, .int .i64 v.m, .slice v.ao v.len v.cap] 31))))
  have HK3 := hyd (HK.out.kept (below_alloc u1 (.cells #[.int .i64 v.k, .int .i64 v.m, .slice v.ao v.len v.cap] 31)))
  have HV3 := hyd (Blk.new u1 v.vs 31)
  have HZ3 := hyd (show u1.heap.size ≠ BZ ∧ u1.heap.size ≠ g from ⟨by have := HK.out.lt; omega, by obtain ⟨_, hg, _⟩ := HT.out.there; have := hg.lt; omega⟩)
  have cS3 := up (below_alloc u1 (.cells #[.int .i64 v.k, .int .i64 v.m, .slice v.ao v.len v.cap] 31)) cS1
  clear HT HC HK cS1 z0 z1 z2
  have HV4 : Hid (Blk (u1.alloc (.cells #[.int .i64 v.k, .int .i64 v.m, .slice v.ao v.len v.cap] 31)) u1.heap.size v.vs 31) := HV3.out
  clear HV3
  generalize u1.alloc (.cells #[.int .i64 v.k, .int .i64 v.m, .slice v.ao v.len v.cap] 31) = u2 at *
  generalize u1.heap.size = BV at *
  have HS := hyd HT3.out.there
  obtain ⟨c, hc, hcl⟩ := HS.out
  have HCB := hyd hc
  have HCL := hyd hcl
  clear hc hcl HS
  go_upto_region 6 with (refine wpList_store1 rfl 29 (.tmp 32) (.tmp 30) rfl rfl g (o + 5) (.slice (some ⟨gs, 0, none⟩) n cap) c _ (by kernel_rfl) (by kernel_rfl) (store_one _ _ (by kernel_rfl) rfl rfl _ _) HCB.out (by have := HCL.out; have := HO.out; omega) ?_; intro u3 W3)
  have HT4 : Hid (Tp cl w0 B ρ1 (m.top r (f.sk l (.slice (some ⟨gs, 0, none⟩) n cap))) r (f.sk l (.slice (some ⟨gs, 0, none⟩) n cap)) g u3) := by
    have e1 := HO.out
    have e2 := HNN.out
    subst e1
    subst e2
    exact HT3.out.set (Ch.refl _ _ _) (fr_pop HT3.out.fr HF.out.1 HF.out.2).1 (j := 5) (by omega) rfl HCB.out W3
  have HC4 := hyd (HC3.out.trans (Ch.wrote W3 (R := fun x => x = 2) HT3.out.gne))
  have HK4 := hyd (W3.keep HK3.out HZ.out.2.1)
  have HV5 := hyd (W3.keep HV4.out HZ3.out.2)
  clear HT3 HC3 HK3 HV4 W3 cS3 HCB HCL
  have D1 := (Below.refl u3.heap.size u3).drew
  have p0 : ∀ x : Wd (fun q => Blk q BV v.vs 31), x.w.cell? ⟨BV, 0, none⟩ = some (.int .i64 v.k) := fun x => Blk.cell x.2 0 rfl
  have rT : ∀ u, (∃ x : Wd (fun q => Blk q BV v.vs 31), u = x.w) → u.rangeAt BV 0 v.vs := fun _ hC => by obtain ⟨x, rfl⟩ := hC; exact Blk.range x.2
  have hNE : Nonempty (Wd (fun q => Blk q BV v.vs 31)) := ⟨⟨_, HV5.out⟩⟩
  have HT5 := hyd (HT4.out.kept D1)
  have HC5 := hyd (HC4.out.trans (Ch.of_below D1))
  have HK5 := hyd (HK4.out.kept D1)
  have HV6 := hyd (HV5.out.kept D1)
  clear HT4 HC4 HK4 D1
  have H1 := hyd v.vs_one
  have HL := hyd (show v.vs.length = 3 from rfl)
  by_cases hk : kd = -1
  · have HR : Hid ((decide (kd = -1) || decide (v.k = kd)) = true) := by show _ = _; simp [hk]
    generalize (decide (kd = -1) || decide (v.k = kd)) = R at *
    subst hk
    generalize hV : v.vs = V at *
    refine wp_region_readsV (fun q => Blk q BV V 31) (fun i => i != 10) [0, 1, 2, 3, 4, 5, 6, 7, 8] 2 (by kernel_rfl) rfl (by kernel_rfl) HV6.out ?_
    simp only [List.filterMap, List.getElem?_cons_zero, List.getElem?_cons_succ]
    go_big_quiet_want
    refine quiet_load_rowV 31 (.tmp 7) rfl BV 0 (by kernel_rfl) V _ rT Tryz.underlying31 rfl (by rw [HL.out]; kernel_rfl) ?_
    simp only [Act.put, List.setIfInBounds_toArray, List.set_cons_succ, List.set_cons_zero]
    go_big_quiet_on
    iterate 8 go_big_quiet_step (fail)
    refine wpQuiet_nil ?_
    clear rT hNE p0
    generalize u3.drew = u4 at *
    refine wpAnyX_ready (rs := [9]) (by kernel_rfl) (by simp) ?_
    refine AllReadyX.cons rfl (fun K hK => ?_) AllReadyX.nil
    rw [if_pos (by rfl)]
    refine wp_store_seg 31 (.tmp 4) (.tmp 33) rfl rfl BZ 0 V (by kernel_rfl) rfl H1.out HK5.out (by rw [HL.out]; show 0 + 3 ≤ 3; omega) (by show _ = some V.length; rw [HL.out]; kernel_rfl) ?_
    intro u5 W5
    have eV : ([.int .i64 0, .int .i64 0, .slice none 0 0] : List Value).take 0 ++ V ++ ([.int .i64 0, .int .i64 0, .slice none 0 0] : List Value).drop (0 + V.length) = V := by rw [HL.out]; simp
    rw [eV] at W5
    have HT6 := hyd (HT5.out.keep (Ch.wrote W5 (R := fun x => x = 5) HRZ.out))
    have HC6 := hyd (HC5.out.loc W5 (by rw [HBZ.out]; exact Nat.le_refl _))
    have HK6 := hyd W5.blk
    have HV7 := hyd (W5.keep HV6.out (fun e => HZ3.out.1 e))
    refine hK.out _ _ (fun _ => HV7.out) ?_
    clear hK K W5 eV HT5 HC5 HK5 HV6
    refine wpAnyX_ready (rs := [10]) (by kernel_rfl) (by simp) ?_
    refine AllReadyX.cons rfl (fun K hK => ?_) AllReadyX.nil
    rw [if_pos (by rfl)]
    go_simp
    refine hK.out _ _ (fun h => by cases h) ?_
    clear hK K
    refine wpAnyX_done (by kernel_rfl) ?_ _
    refine ⟨(fun c hc => by cases hc), ?_⟩
    go_wp2
    exact bodyPost_ret (v := .tuple #[.agg V.toArray, .bool true]) (results_row2V (vs := V) Tryz.underlying31 rfl (by rw [HL.out]; kernel_rfl) Tryz.results146 rfl rfl HK6.out.range) rfl ⟨by rw [← HR.out], _, _, HT6.out, HC6.out⟩
  · have HR : Hid ((decide (kd = -1) || decide (v.k = kd)) = (v.k == kd)) := by show _ = _; rw [decide_eq_false hk, Bool.false_or]; rfl
    have hq : (kd == -1) = false := by simpa using hk
    clear hk
    generalize hV : v.vs = V at *
    refine wp_region_readsV (fun q => Blk q BV V 31) (fun i => i != 10) [0, 1, 2, 3, 4, 5, 6, 7, 8] 2 (by kernel_rfl) rfl (by kernel_rfl) HV6.out ?_
    simp only [List.filterMap, List.getElem?_cons_zero, List.getElem?_cons_succ]
    go_big_quiet_want
    refine quiet_load_rowV 31 (.tmp 7) rfl BV 0 (by kernel_rfl) V _ rT Tryz.underlying31 rfl (by rw [HL.out]; kernel_rfl) ?_
    simp only [Act.put, List.setIfInBounds_toArray, List.set_cons_succ, List.set_cons_zero]
    go_big_quiet_on
    iterate 8 go_big_quiet_step (fail)
    refine wpQuiet_nil ?_
    clear rT hNE p0
    generalize u3.drew = u4 at *
    refine wpAnyX_ready (rs := [9]) (by kernel_rfl) (by simp) ?_
    refine AllReadyX.cons rfl (fun K hK => ?_) AllReadyX.nil
    rw [if_pos (by rfl)]
    refine wp_store_seg 31 (.tmp 4) (.tmp 33) rfl rfl BZ 0 V (by kernel_rfl) rfl H1.out HK5.out (by rw [HL.out]; show 0 + 3 ≤ 3; omega) (by show _ = some V.length; rw [HL.out]; kernel_rfl) ?_
    intro u5 W5
    have eV : ([.int .i64 0, .int .i64 0, .slice none 0 0] : List Value).take 0 ++ V ++ ([.int .i64 0, .int .i64 0, .slice none 0 0] : List Value).drop (0 + V.length) = V := by rw [HL.out]; simp
    rw [eV] at W5
    have HT6 := hyd (HT5.out.keep (Ch.wrote W5 (R := fun x => x = 5) HRZ.out))
    have HC6 := hyd (HC5.out.loc W5 (by rw [HBZ.out]; exact Nat.le_refl _))
    have HK6 := hyd W5.blk
    have HV7 := hyd (W5.keep HV6.out (fun e => HZ3.out.1 e))
    refine hK.out _ _ (fun _ => HV7.out) ?_
    clear hK K W5 eV HT5 HC5 HK5 HV6
    refine wpAnyX_ready (rs := [10]) (by kernel_rfl) (by simp) ?_
    refine AllReadyX.cons rfl (fun K hK => ?_) AllReadyX.nil
    rw [if_pos (by rfl)]
    go_simp
    refine hK.out _ _ (fun h => by cases h) ?_
    clear hK K
    refine wpAnyX_done (by kernel_rfl) ?_ _
    refine ⟨(fun c hc => by cases hc), ?_⟩
    go_wp2
    exact bodyPost_ret (v := .tuple #[.agg V.toArray, .bool (v.k == kd)]) (results_row2V (vs := V) Tryz.underlying31 rfl (by rw [HL.out]; kernel_rfl) Tryz.results146 rfl rfl HK6.out.range) rfl ⟨by rw [HR.out, hV], _, _, HT6.out, HC6.out⟩
end Go.Proofs.YtmkncmmegjfipaaGreatDoor

/- Layer 18: a value put on the stack. -/
namespace Go.Proofs.YtmkncmmegjfipaaGreatDoor
open Go Go.RowKit

theorem Tryz.infoVl : (Tryz.prog.info? 31).map (fun i => (i.zero, i.size, i.bytes)) = some (some (.agg #[.int .i64 0, .int .i64 0, .slice none 0 0]), 3, 40) := by kernel_rfl
/-- Put behind a row of one's own, where it lies told. -/
theorem wp_append_lie {S E : TypeId} {size bytes : Nat} {z : Value} (hu : Tryz.prog.underlying S = some (.slice E)) (hinf : (Tryz.prog.info? E).map (fun i => (i.zero, i.size, i.bytes)) = some (some z, size, bytes)) (hzc : z.cells.size = size) (hpos : 0 < size) {w : World} {o : Oper} {a : Act} {K : Act → World → Prop} {Q : Exit → Act → World → Prop} (s x : Operand)
    (hop : o.op = .call { callee := .builtin .append, args := #[s, x], argTypes := #[S, S] }) (base : Nat) (v : Value) (n : Nat) (xs : List Value) (hs : a.eval s = v) (ho : w.ownsRow base E size v n xs) (BN m c : Nat) (news : List Value) (hx : a.eval x = .slice (some ⟨BN, 0, none⟩) m c) (hm : 0 < m) {T : TypeId} (hB : Blk w BN news T) (hl : news.length = m * size) (h1 : news.all (·.oneCell') = true) (h63 : n + m ≤ 1000000) (hby : bytes ≤ 1000) (hb : base ≤ w.heap.size)
    (h : ∀ g cap w', w'.ownsRow base E size (.slice (some ⟨g, 0, none⟩) (n + m) cap) (n + m) (xs ++ news) → w.grownBy w' v.ownBlock → (v.ownBlock = some g ∨ g = w.heap.size) → g < w'.heap.size → K (a.put o.dst (.slice (some ⟨g, 0, none⟩) (n + m) cap)) w') : o.wp Tryz.prog a w K Q := by
  obtain ⟨i0, hi, hz0, hz1, hz2⟩ := info_parts hinf
  refine wp_append_lies w s x S hop base E i0 z size bytes hu hi hz0 hz1 hz2 hzc hpos v n xs hs ho ⟨BN, 0, none⟩ m c news hx hl (fun j u hj => by rw [adp, Nat.zero_add]; exact hB.cell j hj) (fun u hu => List.all_eq_true.1 h1 u hu) hm (by unfold maxLen; omega) ?_ hb _ rfl h
  have : (n + m) * bytes ≤ 1000000 * 1000 := Nat.mul_le_mul h63 hby
  omega
theorem vl_ind (v : Vl) : v.vs.length = 3 := rfl
set_option maxRecDepth 100000 in
set_option maxHeartbeats 4000000 in
theorem mput_full {cl : Kl} {w0 : World} {B : Nat} {ρ : Nat → Nat} {m : Mc} {r : List Fr} {f : Fr} {g : Nat} {w : World} (v : Vl) (h : Tp cl w0 B ρ m r f g w) (hl : f.st.length = 8) : Calls Tryz.prog 109 #[.pointer (some ⟨B, 0, none⟩), .pointer (some ⟨g, r.length * 7, none⟩), .agg v.vs.toArray] w fun e w' => e = .returned (.tuple #[]) ∧ MAt cl w0 B ρ { m with en := 5, la := .zv } w' ∧ Ch (fun r => r = 1) ρ ρ w w' := by
  have cS := h.cell 5 (v := f.sv) rfl
  obtain ⟨ao, cap, es⟩ := owform h.fr.s.own
  rw [es, hl] at cS
  have B0 := below_alloc w (.cells v.vs.toArray 31)
  have HS := hyd (stop_any 5 (h.M.kept B0))
  have HC := hyd (Ch.of_below (R := fun x => x = 1) (ρ := ρ) B0)
  have cS1 := up B0 cS
  clear h hl es cS B0
  generalize r.length * 7 = o at *
  generalize v.vs.toArray = V at *
  go_enter Tryz.func109, Tryz.ntmps109
  go_upto_region 1 with fail
  generalize w.alloc (.cells V 31) = u1 at *
  go_wp2_with fail
  refine HS.out.mono ?_
  rintro _ u2 ⟨rfl, hm, hc⟩
  have HR := hyd (show MAt cl w0 B ρ { m with en := 5, la := .zv } u2 ∧ Ch (fun r => r = 1) ρ ρ w u2 from ⟨hm, HC.out.trans hc⟩)
  clear hm hc HS HC cS1
  go_wp2
  exact bodyPost_ret (v := .tuple #[]) (by kernel_rfl) rfl ⟨rfl, HR.out⟩
/-- The last element of a row of values turned. -/
theorem Rr.last {w0 : World} {ρ : Nat → Nat} {q g' cap n : Nat} {l : List Vl} {v : Vl} {w : World} (h : Rr w0 ρ q 31 3 (.slice (some ⟨g', 0, none⟩) (n + 1) cap) (n + 1) (vls l ++ [.int .i64 0, .int .i64 0, .slice none 0 0]) w) (hn : l.length = n) : ∃ c, Blk w g' c 31 ∧ n * 3 + 3 ≤ c.length ∧ ∀ w', WroteB w w' g' (c.take (n * 3) ++ v.vs ++ c.drop (n * 3 + 3)) 31 → Rr w0 ρ q 31 3 (.slice (some ⟨g', 0, none⟩) (n + 1) cap) (n + 1) (vls (l ++ [v])) w' := by
  obtain ⟨g2, cap2, ys, e, hb, hB, h1, h2, h3, hr⟩ := h.blk (by omega)
  simp only [Value.slice.injEq, Option.some.injEq, Addr.mk.injEq, and_true, true_and] at e
  obtain ⟨rfl, rfl⟩ := e
  have hv := vls_len l
  rw [hn] at hv
  refine ⟨_, hB, by rw [List.length_append, List.length_append, hv]; show n * 3 + 3 ≤ n * 3 + 3 + ys.length; omega, fun w' W => ?_⟩
  have e1 : (vls l ++ [Value.int .i64 0, .int .i64 0, .slice none 0 0] ++ ys).take (n * 3) = vls l := by rw [List.append_assoc, List.take_append_of_le_length (by omega), List.take_of_length_le (by omega)]
  have e2 : (vls l ++ [Value.int .i64 0, .int .i64 0, .slice none 0 0] ++ ys).drop (n * 3 + 3) = ys := by
    have : (vls l ++ [Value.int .i64 0, .int .i64 0, .slice none 0 0]).length = n * 3 + 3 := by simp [hv]
    rw [← this, List.drop_left]
  rw [e1, e2] at W
  have e3 : vls l ++ v.vs = vls (l ++ [v]) := by rw [vls_app]; simp [vls]
  rw [e3] at W
  exact Rr.of_blk (by rw [vls_len, List.length_append, hn]; rfl) hb W.blk h1 h2 (by rw [← h3, ← e3]; simp [Vl.vs]) hr
theorem WroteB.swap {w u x : World} {A B : Nat} {a0 a b : List Value} {s t : TypeId} (h : WroteB w u B b t) (k : WroteB u x A a s) (hne : A ≠ B) (ha : Blk w A a0 s) (hl : a0.length = a.length) : ∃ v, WroteB w v A a s ∧ WroteB v x B b t := by
  have W := wrote_setCells ha a hl
  refine ⟨_, W, ?_, ?_, ?_, ?_⟩
  · exact k.keep h.blk (fun e => hne e.symm)
  · intro q hq
    by_cases e : q = A
    · subst e
      exact k.blk.trans W.blk.symm
    · rw [k.other q e, h.other q hq, W.other q e]
  · rw [k.size, h.size, W.size]
  · intro B0 a1 hB hb
    have h1 := W.below (B0 := 0) (a := w) (Nat.zero_le _) (Below.refl _ _)
    have h2 := k.below (B0 := 0) (a := w) (Nat.zero_le _) (h.below (B0 := 0) (Nat.zero_le _) (Below.refl _ _))
    refine ⟨h2.os.trans (h1.os.symm.trans hb.os), h2.tape.trans (h1.tape.symm.trans hb.tape), h2.output.trans (h1.output.symm.trans hb.output), ?_, fun q hq => ?_⟩
    · rw [k.size, h.size, ← W.size]; exact hb.size
    · rw [← hb.block q hq]
      by_cases e : q = A
      · subst e
        exact k.blk.trans W.blk.symm
      · rw [k.other q e, h.other q (by omega), W.other q e]
theorem mput_done {cl : Kl} {w0 : World} {B : Nat} {ρ : Nat → Nat} {m : Mc} {r : List Fr} {f : Fr} {g g' cap' n : Nat} {v : Vl} {u3 u4 v4 u6 : World} (hT : Tp cl w0 B ρ m r f g u3) (hv : VOk ρ u3 v) (hkg : Ch (fun x => x = 6 + 2 * r.length) ρ (upd ρ g' (6 + 2 * r.length)) u3 u4)
    (hR : Rr w0 (upd ρ g' (6 + 2 * r.length)) (6 + 2 * r.length) 31 3 (.slice (some ⟨g', 0, none⟩) (n + 1) cap') (n + 1) (vls (f.st ++ [v])) v4) (hn : f.st.length = n) {c9 c12 : List Value} (W9 : WroteB u4 v4 g' c9 31) (hne : g' ≠ g)
    (hc12 : Blk u4 g c12 120) (W12 : WroteB v4 u6 g (c12.set (r.length * 7 + 5) (.slice (some ⟨g', 0, none⟩) (n + 1) cap')) 120) : ∃ sv' ρ', Tp cl w0 B ρ' (m.top r (f.sk (f.st ++ [v]) sv')) r (f.sk (f.st ++ [v]) sv') g u6 ∧ Ch (fun x => x = 2 ∨ x = 6 + 2 * r.length) ρ ρ' u3 u6 := by
  have kk := hkg.trans (Ch.wrote W9 (R := fun x => x = 6 + 2 * r.length) (upd_at _ _ _))
  have hF := hT.fr
  have hfr : FrAt cl w0 (upd ρ g' (6 + 2 * r.length)) r.length (f.sk (f.st ++ [v]) (.slice (some ⟨g', 0, none⟩) (n + 1) cap')) v4 := by
    refine ⟨hF.fn, hF.fu.kept kk (by omega), ?_, hF.l.kept kk (by omega), fun u hu => ?_, fun u hu => (hF.vl u hu).kept kk (by omega)⟩
    · show Rr w0 _ _ _ 3 (.slice (some ⟨g', 0, none⟩) (n + 1) cap') (f.st ++ [v]).length (vls (f.st ++ [v])) v4
      rw [List.length_append, hn]
      exact hR
    · rcases List.mem_append.1 hu with hu | hu
      · exact (hF.vs u hu).kept kk (by omega)
      · have : u = v := by simpa using hu
        subst this
        exact hv.kept kk (by omega)
  obtain ⟨_, hg, _⟩ := hT.there
  exact ⟨_, _, hT.set (kk.mono fun x e => Or.inl e) hfr (j := 5) (by omega) rfl (W9.keep hc12 (fun e => hne e.symm)) W12, (kk.mono fun x e => Or.inr e).trans (Ch.wrote W12 (R := fun x => x = 2 ∨ x = 6 + 2 * r.length) (Or.inl ((kk.role g hg.lt).trans hT.gne)))⟩
set_option maxRecDepth 100000 in
set_option maxHeartbeats 8000000 in
theorem mput_any {cl : Kl} {w0 : World} {B : Nat} {ρ : Nat → Nat} {m : Mc} {r : List Fr} {f : Fr} {g : Nat} {w : World} (v : Vl) (h : Tp cl w0 B ρ m r f g w) (hv : VOk ρ w v) (hl : f.st.length < 8) : Calls Tryz.prog 109 #[.pointer (some ⟨B, 0, none⟩), .pointer (some ⟨g, r.length * 7, none⟩), .agg v.vs.toArray] w fun e w' => e = .returned (.tuple #[]) ∧ ∃ sv' ρ', Tp cl w0 B ρ' (m.top r (f.sk (f.st ++ [v]) sv')) r (f.sk (f.st ++ [v]) sv') g w' ∧ Ch (fun x => x = 2 ∨ x = 6 + 2 * r.length) ρ ρ' w w' := by
  obtain ⟨ao, cap, es⟩ := owform h.fr.s.own
  have cS := h.cell 5 (v := .slice ao f.st.length cap) (by rw [← es]; rfl)
  have B0 := below_alloc w (.cells v.vs.toArray 31)
  have HT := hyd (h.kept B0)
  have HV := hyd (hv.kept (Ch.of_below (R := fun _ => False) B0) (fun x => x))
  have HC := hyd (Ch.of_below (R := fun x => x = 2 ∨ x = 6 + 2 * r.length) (ρ := ρ) B0)
  have HK := hyd (Blk.new w v.vs 31)
  have HSV := hyd es
  have cS1 := up B0 cS
  have HZ := hyd (show w0.heap.size ≤ w.heap.size ∧ w.heap.size ≠ g from ⟨h.M.bl.size, by obtain ⟨_, hg, _⟩ := h.there; have := hg.lt; omega⟩)
  have HOB := hyd (fun k (e : f.sv.ownBlock = some k) => (h.fr.s.own.lt k e).2)
  have H1 := hyd v.vs_one
  have HL := hyd (show v.vs.length = 3 from rfl)
  clear h hv es cS B0
  have hne : ((f.st.length : Int) == 8) = false := by simp; omega
  generalize hn : f.st.length = n at *
  have HN := hyd hn
  clear hn
  generalize ho : r.length * 7 = o at *
  have HO := hyd ho
  clear ho
  generalize hV : v.vs = V at *
  have HVE := hyd hV
  clear hV
  go_enter Tryz.func109, Tryz.ntmps109
  go_upto_region 1 with fail
  generalize w.alloc (.cells V.toArray 31) = u1 at *
  generalize w.heap.size = BX at *
  go_upto_region 3 with fail
  have D1 := (Below.refl u1.heap.size u1).drew
  have rT : ∀ u, (∃ x : Wd (fun q => Blk q BX V 31), u = x.w) → u.rangeAt BX 0 V := fun _ hC => by obtain ⟨x, rfl⟩ := hC; exact Blk.range x.2
  have hNE : Nonempty (Wd (fun q => Blk q BX V 31)) := ⟨⟨_, HK.out⟩⟩
  have HT2 := hyd (HT.out.kept D1)
  have HV2 := hyd (HV.out.kept (Ch.of_below (R := fun _ => False) D1) (fun x => x))
  have HC2 := hyd (HC.out.trans (Ch.of_below D1))
  have HK2 := hyd (HK.out.kept D1)
  have HCS := hyd (up D1 cS1)
  clear HT HV HC HK cS1 D1
  refine wp_region_readsX (fun i q => Blk q BX V 31 ∧ (i = 6 → q.cell? ⟨g, o + 5, none⟩ = some (.slice ao n cap))) (fun q => Blk q BX V 31) (fun _ => true) [4] 12 (by kernel_rfl) rfl (by kernel_rfl) (fun _ _ _ k => k.1) (fun i hi q hq => ⟨hq, fun e => by simp at hi; omega⟩) HK2.out ?_
  simp only [List.filterMap, List.getElem?_cons_zero, List.getElem?_cons_succ]
  go_big_quiet_want
  refine quiet_load_rowV 31 (.tmp 5) rfl BX 0 (by kernel_rfl) V _ rT Tryz.underlying31 rfl (by rw [HL.out]; kernel_rfl) ?_
  simp only [Act.put, List.setIfInBounds_toArray, List.set_cons_succ, List.set_cons_zero]
  go_big_quiet_on
  refine wpQuiet_nil ?_
  clear rT hNE
  generalize u1.drew = u2 at *
  refine wpAnyX_mid (fun q => Blk q BX V 31 ∧ q.cell? ⟨g, o + 5, none⟩ = some (.slice ao n cap)) (fun i => i == 6) [0, 1, 2, 3] (rest := 8) rfl (by kernel_rfl) (fun j hj q k => ⟨k.1, k.2 (by simpa using hj)⟩) (fun i hi q hq => ⟨hq.1, fun e => by simp at hi; omega⟩) ⟨HK2.out, HCS.out⟩ ?_
  simp only [List.filterMap, List.getElem?_cons_zero, List.getElem?_cons_succ]
  have p5 : ∀ x : Wd (fun q => Blk q BX V 31 ∧ q.cell? ⟨g, o + 5, none⟩ = some (.slice ao n cap)), x.w.cell? ⟨g, o + 5, none⟩ = some (.slice ao n cap) := fun x => x.2.2
  have hNE : Nonempty (Wd (fun q => Blk q BX V 31 ∧ q.cell? ⟨g, o + 5, none⟩ = some (.slice ao n cap))) := ⟨⟨_, HK2.out, HCS.out⟩⟩
  iterate 4 go_big_quiet_step (fail)
  refine wpQuiet_nil ?_
  clear p5 hNE
  refine wpAnyX_mid (fun q => Blk q BX V 31) (fun _ => true) [5] (rest := 7) rfl (by kernel_rfl) (fun _ _ _ k => k.1) (fun i hi q hq => ⟨hq, fun e => by simp at hi; omega⟩) HK2.out ?_
  simp only [List.filterMap, List.getElem?_cons_zero, List.getElem?_cons_succ]
  have hNE : Nonempty (Wd (fun q => Blk q BX V 31)) := ⟨⟨_, HK2.out⟩⟩
  iterate 1 go_big_quiet_step (fail)
  refine wpQuiet_nil ?_
  clear hNE
  refine wpAnyX_ready (rs := [6]) (by kernel_rfl) (by simp) ?_
  refine AllReadyX.cons rfl (fun K hK => ?_) AllReadyX.nil
  rw [if_pos (by rfl)]
  go_simp
  have B3 := below_alloc u2 (.cells #[.int .i64 0, .int .i64 0, .slice none 0 0] 31)
  have HT3 := hyd (HT2.out.kept B3)
  have HV3 := hyd (HV2.out.kept (Ch.of_below (R := fun _ => False) B3) (fun x => x))
  have HC3 := hyd (HC2.out.trans (Ch.of_below B3))
  have HK3 := hyd (HK2.out.kept B3)
  have HCS3 := hyd (up B3 HCS.out)
  have HNB : Hid (Blk (u2.alloc (.cells #[.int .i64 0, .int .i64 0, .slice none 0 0] 31)) u2.heap.size [.int .i64 0, .int .i64 0, .slice none 0 0] 31) := Blk.new u2 _ _
  refine hK.out _ _ ⟨HK3.out, fun _ => HCS3.out⟩ ?_
  clear hK K HT2 HV2 HC2 HK2 HCS B3 HCS3
  generalize u2.alloc (.cells #[.int .i64 0, .int .i64 0, .slice none 0 0] 31) = u3 at *
  generalize u2.heap.size = BN at *
  refine wpAnyX_ready (rs := [7]) (by kernel_rfl) (by simp) ?_
  refine AllReadyX.cons rfl (fun K hK => ?_) AllReadyX.nil
  rw [if_pos (by rfl)]
  have HSR : Hid (Rr w0 ρ (6 + 2 * r.length) 31 3 (.slice ao n cap) n (vls f.st) u3) := by have := HT3.out.fr.s; rw [HSV.out, HN.out] at this; exact this
  refine wp_append_lie Tryz.underlying29 Tryz.infoVl rfl (by decide) (.tmp 19) (.tmp 22) rfl w0.heap.size (.slice ao n cap) n (vls f.st) (by kernel_rfl) HSR.out.own BN 1 1 [.int .i64 0, .int .i64 0, .slice none 0 0] (by kernel_rfl) (by decide) HNB.out rfl (by decide) (by omega) (by decide) HT3.out.M.bl.size ?_
  intro g' cap' u4 ho4 hg4 hat hlt
  have hkg := Ch.grow (R := fun x => x = 6 + 2 * r.length) (ρ := ρ) hg4 (fun k e => HSR.out.role k e) hat rfl
  have hne1 : g' ≠ BX := by
    rcases hat with e | e
    · have := HOB.out g' (by rw [HSV.out]; exact e); omega
    · have := HK3.out.lt; omega
  have hρg : ρ g = 2 := HT3.out.gne
  have hne2 : g' ≠ g := by
    rcases hat with e | e
    · intro e2
      have := HSR.out.role g' e
      rw [e2, hρg] at this
      omega
    · obtain ⟨_, hg, _⟩ := HT3.out.there
      have := hg.lt
      omega
  have HR4 := hyd (show Rr w0 (upd ρ g' (6 + 2 * r.length)) (6 + 2 * r.length) 31 3 (.slice (some ⟨g', 0, none⟩) (n + 1) cap') (n + 1) (vls f.st ++ [.int .i64 0, .int .i64 0, .slice none 0 0]) u4 from ⟨ho4, fun k e => by { have e2 : g' = k := by { simpa [Value.ownBlock] using e }; rw [← e2, upd_at] }⟩)
  have HKG := hyd hkg
  have HNE := hyd (show g' ≠ BX ∧ g' ≠ g from ⟨hne1, hne2⟩)
  have HC3b := hyd HC3.out
  have hbx : Blk u4 BX V 31 := by
    unfold Blk
    rw [hg4.block BX HK3.out.lt (fun e => by have := HOB.out BX (by rw [HSV.out]; exact e.symm); omega)]
    exact HK3.out
  have HK4 := hyd hbx
  refine hK.out _ _ ⟨HK4.out, fun e => by cases e⟩ ?_
  clear hK K ho4 hg4 hat hlt hkg hne1 hρg hne2 hbx HC3 HK3 HNB HSR HOB
  simp only [List.getElem_toArray, List.getElem_cons_succ, List.getElem_cons_zero, Act.put, List.setIfInBounds_toArray, List.set_cons_succ, List.set_cons_zero]
  refine wpAnyX_mid (fun q => Blk q BX V 31) (fun _ => true) [8, 10, 11] (rest := 2) rfl (by kernel_rfl) (fun _ _ _ k => k.1) (fun i hi q hq => ⟨hq, fun e => by simp at hi; omega⟩) HK4.out ?_
  simp only [List.filterMap, List.getElem?_cons_zero, List.getElem?_cons_succ]
  have hNE : Nonempty (Wd (fun q => Blk q BX V 31)) := ⟨⟨_, HK4.out⟩⟩
  iterate 3 go_big_quiet_step (fail)
  refine wpQuiet_nil ?_
  clear hNE
  have hT := HT3.out
  obtain ⟨c12, hc12, hl12⟩ := hT.there
  have hb12 : Blk u4 g c12 120 := by unfold Blk; rw [HKG.out.block g hc12.lt (by rw [hT.gne]; omega)]; exact hc12
  obtain ⟨c9, hc9, hl9, hend⟩ := HR4.out.last HN.out (v := v)
  have HB9 := hyd hc9
  have HB12 := hyd hb12
  have HE := hyd hend
  have HLL := hyd (show n * 3 + 3 ≤ c9.length ∧ o + 7 ≤ c12.length from ⟨hl9, by have := HO.out; omega⟩)
  have HC3 := hyd HC3b.out
  clear hT hc12 hl12 hb12 hc9 hl9 hend HR4
  refine wpAnyX_ready (rs := [9, 12]) (by kernel_rfl) (by simp) ?_
  refine AllReadyX.cons rfl (fun K hK => ?_) (AllReadyX.cons rfl (fun K hK => ?_) AllReadyX.nil)
  · rw [if_pos (by rfl)]
    refine wp_store_seg 31 (.tmp 24) (.tmp 20) rfl rfl g' (n * 3) V (by kernel_rfl) rfl H1.out HB9.out (by rw [HL.out]; exact HLL.out.1) (by show _ = some V.length; rw [HL.out]; kernel_rfl) ?_
    intro u5 W9
    have HK5 := hyd (W9.keep HK4.out (fun e => HNE.out.1 e.symm))
    have HW9 := hyd W9
    refine hK.out _ _ ⟨HK5.out, fun e => by cases e⟩ ?_
    clear hK K W9
    refine wpAnyX_ready (rs := [12]) (by kernel_rfl) (by simp) ?_
    refine AllReadyX.cons rfl (fun K hK => ?_) AllReadyX.nil
    rw [if_pos (by rfl)]
    refine wp_store1 29 (.tmp 26) (.tmp 23) rfl rfl g (o + 5) (.slice (some ⟨g', 0, none⟩) (n + 1) cap') c12 _ (by kernel_rfl) (by kernel_rfl) (store_one _ _ (by kernel_rfl) rfl rfl _ _) (HW9.out.keep HB12.out (fun e => HNE.out.2 e.symm)) (by have := HLL.out; omega) ?_
    intro u6 W12
    have hrr := HE.out u5 (by have w9 := HW9.out; rw [HL.out] at w9; rw [HVE.out]; exact w9)
    have e1 := HO.out
    subst e1
    obtain ⟨sv', ρ', hTT, hCC⟩ := mput_done HT3.out HV3.out HKG.out hrr HN.out HW9.out HNE.out.2 HB12.out W12
    have HFIN := hyd (show ∃ sv' ρ', Tp cl w0 B ρ' (m.top r (f.sk (f.st ++ [v]) sv')) r (f.sk (f.st ++ [v]) sv') g u6 ∧ Ch (fun x => x = 2 ∨ x = 6 + 2 * r.length) ρ ρ' w u6 from ⟨sv', ρ', hTT, HC3.out.trans hCC⟩)
    refine hK.out _ _ ⟨W12.keep HK5.out HZ.out.2, fun e => by cases e⟩ ?_
    clear hK K hrr W12 hTT hCC
    refine wpAnyX_done (by kernel_rfl) ?_ _
    refine ⟨(fun c hc => by cases hc), ?_⟩
    go_wp2
    go_end0
    exact ⟨rfl, HFIN.out⟩
  · rw [if_pos (by rfl)]
    refine wp_store1 29 (.tmp 26) (.tmp 23) rfl rfl g (o + 5) (.slice (some ⟨g', 0, none⟩) (n + 1) cap') c12 _ (by kernel_rfl) (by kernel_rfl) (store_one _ _ (by kernel_rfl) rfl rfl _ _) HB12.out (by have := HLL.out; omega) ?_
    intro u5 W12
    have HK5 := hyd (W12.keep HK4.out HZ.out.2)
    have HW12 := hyd W12
    refine hK.out _ _ ⟨HK5.out, fun e => by cases e⟩ ?_
    clear hK K W12
    refine wpAnyX_ready (rs := [9]) (by kernel_rfl) (by simp) ?_
    refine AllReadyX.cons rfl (fun K hK => ?_) AllReadyX.nil
    rw [if_pos (by rfl)]
    refine wp_store_seg 31 (.tmp 24) (.tmp 20) rfl rfl g' (n * 3) V (by kernel_rfl) rfl H1.out (HW12.out.keep HB9.out HNE.out.2) (by rw [HL.out]; exact HLL.out.1) (by show _ = some V.length; rw [HL.out]; kernel_rfl) ?_
    intro u6 W9
    have HK6 := hyd (W9.keep HK5.out (fun e => HNE.out.1 e.symm))
    obtain ⟨x5, X9, X12⟩ := WroteB.swap HW12.out W9 HNE.out.2 HB9.out (by have := HLL.out.1; have := HL.out; simp; omega)
    have hrr := HE.out x5 (by have w9 := X9; rw [HL.out] at w9; rw [HVE.out]; exact w9)
    have e1 := HO.out
    subst e1
    obtain ⟨sv', ρ', hTT, hCC⟩ := mput_done HT3.out HV3.out HKG.out hrr HN.out X9 HNE.out.2 HB12.out X12
    have HFIN := hyd (show ∃ sv' ρ', Tp cl w0 B ρ' (m.top r (f.sk (f.st ++ [v]) sv')) r (f.sk (f.st ++ [v]) sv') g u6 ∧ Ch (fun x => x = 2 ∨ x = 6 + 2 * r.length) ρ ρ' w u6 from ⟨sv', ρ', hTT, HC3.out.trans hCC⟩)
    refine hK.out _ _ ⟨HK6.out, fun e => by cases e⟩ ?_
    clear hK K hrr W9 X9 X12 hTT hCC
    refine wpAnyX_done (by kernel_rfl) ?_ _
    refine ⟨(fun c hc => by cases hc), ?_⟩
    go_wp2
    go_end0
    exact ⟨rfl, HFIN.out⟩
end Go.Proofs.YtmkncmmegjfipaaGreatDoor
