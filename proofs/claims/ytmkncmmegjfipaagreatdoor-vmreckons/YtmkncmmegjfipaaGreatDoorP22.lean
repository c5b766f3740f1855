/- Layer 18: whether a frame handles what is raised. -/
import Derived.Test.YtmkncmmegjfipaaGreatDoorP21
namespace Go.Proofs.YtmkncmmegjfipaaGreatDoor
open Go Go.RowKit

def Fr.hd (f : Fr) (v : Vl) (h : Nat) (sv : Value) : Fr := { f with st := [v], sv := sv, pl := h }
/-- The handler of a frame's call or instruction. -/
def Fr.hn (cl : Kl) (f : Fr) : Int := (cl.fs.x f.fn).han ((f.pl : Int) - 1)
theorem Tp.own {cl : Kl} {w0 : World} {B : Nat} {ρ : Nat → Nat} {m : Mc} {r : List Fr} {f : Fr} {g : Nat} {w : World} (h : Tp cl w0 B ρ m r f g w) (hc : cl.At w0) : (cl.fs.x f.fn).At w ∧ w.rangeAt cl.fs.b (cl.fs.o + f.fn * 18) (cl.fs.x f.fn).vs ∧ f.fn < cl.fs.len := by
  have hfn := h.fr.fn
  have hA := (hc.kept h.M.bl).fs
  exact ⟨hA.each _ hfn, hA.row _ hfn, hfn⟩
set_option maxRecDepth 100000 in
set_option maxHeartbeats 4000000 in
theorem handles_no {cl : Kl} {w0 : World} {B : Nat} {ρ : Nat → Nat} {m : Mc} {r : List Fr} {f : Fr} {g : Nat} {w : World} (v : Vl) (h : Tp cl w0 B ρ m r f g w) (hc : cl.At w0) (hp : 1 ≤ f.pl ∧ f.pl ≤ (cl.fs.x f.fn).cd.len ∧ f.pl ≤ 100000) (hn : f.hn cl = -1) : Calls Tryz.prog 157 #[.pointer (some ⟨g, r.length * 7, none⟩), .agg v.vs.toArray] w fun e w' => e = .returned (.bool false) ∧ Below w.heap.size w w' := by
  have B0 := below_alloc w (.cells v.vs.toArray 31)
  have HT := hyd (h.kept B0)
  have HCF := hyd ((h.kept B0).own hc)
  have HB := hyd B0
  have c0 := (h.kept B0).cell 0 rfl
  rw [Nat.add_zero] at c0
  have c4 := (h.kept B0).cell 4 rfl
  have HH := hyd (fun u (hb : Below (w.alloc (.cells v.vs.toArray 31)).heap.size (w.alloc (.cells v.vs.toArray 31)) u) => (show Calls Tryz.prog 172 #[.agg (cl.fs.x f.fn).vs.toArray, .int .i64 ((f.pl : Int) - 1)] u fun e w' => e = .returned (.int .i64 ((cl.fs.x f.fn).han ((f.pl : Int) - 1))) ∧ Below u.heap.size u w' by have e9 : (f.pl : Int) - 1 = ((f.pl - 1 : Nat) : Int) := by { omega }; rw [e9]; exact handler_any (cl.fs.x f.fn) (f.pl - 1) u (((h.kept B0).own hc).1.kept hb) (by omega)))
  have HN : Hid ((cl.fs.x f.fn).han ((f.pl : Int) - 1) = -1) := hn
  clear h hc hn B0
  generalize r.length * 7 = o at *
  generalize v.vs.toArray = V at *
  generalize cl.fs.x f.fn = F at *
  go_enter Tryz.func157, Tryz.ntmps157
  go_upto_region 1 with fail
  generalize w.alloc (.cells V 31) = u1 at *
  generalize cl.fs.o + f.fn * 18 = oF at *
  have q0 := fun x : Gr u1 => x.cell c0
  have q4 := fun x : Gr u1 => x.cell c4
  have rF : ∀ u, (∃ x : Gr u1, u = x.w) → u.rangeAt cl.fs.b oF F.vs := fun _ hC => by obtain ⟨x, rfl⟩ := hC; exact range_kept HCF.out.2.1 (Gr.bl x)
  have hNE : Nonempty (Gr u1) := ⟨⟨_, Below.refl _ _⟩⟩
  refine wp_region_gr_tail 11 (by kernel_rfl) (by kernel_rfl) ?_
  simp only [List.take, List.drop]
  iterate 5 go_big_quiet_step (fail)
  go_big_quiet_want
  refine quiet_load_rowV 66 (.tmp 10) rfl cl.fs.b oF (by kernel_rfl) F.vs _ rF Tryz.underlying66 rfl (by kernel_rfl) ?_
  simp only [Act.put, List.setIfInBounds_toArray, List.set_cons_succ, List.set_cons_zero]
  go_big_quiet_on
  iterate 5 go_big_quiet_step (fail)
  refine wpQuiet_nil ?_
  rintro u2 ⟨xg, rfl⟩
  have Bg := xg.bl
  generalize xg.w = u2 at Bg ⊢
  have HH2 := hyd (HH.out u2 Bg)
  have HB2 := hyd (Below.next HB.out Bg)
  clear xg Bg q0 q4 rF hNE HH HT HCF c0 c4
  go_wp2_with fail
  refine HH2.out.mono ?_
  rintro _ u3 ⟨rfl, hb⟩
  have HB3 := hyd (Below.next HB2.out hb)
  clear hb HH2 HB2
  rw [HN.out]
  go_wp2
  go_ret
  exact ⟨rfl, HB3.out⟩
set_option maxRecDepth 100000 in
set_option maxHeartbeats 8000000 in
theorem handles_yes {cl : Kl} {w0 : World} {B : Nat} {ρ : Nat → Nat} {m : Mc} {r : List Fr} {f : Fr} {g : Nat} {w : World} (v : Vl) (hh : Nat) (h : Tp cl w0 B ρ m r f g w) (hv : VOk ρ w v) (hc : cl.At w0) (hp : 1 ≤ f.pl ∧ f.pl ≤ (cl.fs.x f.fn).cd.len ∧ f.pl ≤ 100000) (hn : f.hn cl = hh) : Calls Tryz.prog 157 #[.pointer (some ⟨g, r.length * 7, none⟩), .agg v.vs.toArray] w fun e w' => e = .returned (.bool true) ∧ ∃ sv' ρ', Tp cl w0 B ρ' (m.top r (f.hd v hh sv')) r (f.hd v hh sv') g w' ∧ Ch (fun x => x = 2 ∨ x = 6 + 2 * r.length) ρ ρ' w w' := by
  have B0 := below_alloc w (.cells v.vs.toArray 31)
  have HT := hyd (h.kept B0)
  have HV := hyd (hv.kept (Ch.of_below (R := fun _ => False) B0) (fun x => x))
  have HK := hyd (Blk.new w v.vs 31)
  have HCF := hyd ((h.kept B0).own hc)
  have HB := hyd B0
  have HC0 := hyd (Ch.of_below (R := fun x => x = 2 ∨ x = 6 + 2 * r.length) (ρ := ρ) B0)
  have c0 := (h.kept B0).cell 0 rfl
  rw [Nat.add_zero] at c0
  have c4 := (h.kept B0).cell 4 rfl
  have HH := hyd (fun u (hb : Below (w.alloc (.cells v.vs.toArray 31)).heap.size (w.alloc (.cells v.vs.toArray 31)) u) => (show Calls Tryz.prog 172 #[.agg (cl.fs.x f.fn).vs.toArray, .int .i64 ((f.pl : Int) - 1)] u fun e w' => e = .returned (.int .i64 ((cl.fs.x f.fn).han ((f.pl : Int) - 1))) ∧ Below u.heap.size u w' by have e9 : (f.pl : Int) - 1 = ((f.pl - 1 : Nat) : Int) := by { omega }; rw [e9]; exact handler_any (cl.fs.x f.fn) (f.pl - 1) u (((h.kept B0).own hc).1.kept hb) (by omega)))
  have HN : Hid ((cl.fs.x f.fn).han ((f.pl : Int) - 1) = hh) := hn
  have HG := hyd (show g < w.heap.size ∧ ∀ k, f.sv.ownBlock = some k → k < w.heap.size from ⟨by obtain ⟨_, hg, _⟩ := h.there; exact hg.lt, fun k e => (h.fr.s.own.lt k e).2⟩)
  have hne : ((hh : Int) == -1) = false := by simp
  obtain ⟨ao, cap, es⟩ := owform h.fr.s.own
  have c5 := (h.kept B0).cell 5 (v := .slice ao f.st.length cap) (by rw [← es]; rfl)
  have HSV := hyd es
  have H1 := hyd v.vs_one
  have HL := hyd (show v.vs.length = 3 from rfl)
  clear h hv hc hn B0 es
  generalize hF : cl.fs.x f.fn = F at *
  generalize ho : r.length * 7 = o at *
  have HO := hyd ho
  generalize hV : v.vs = V at *
  have HVE := hyd hV
  clear ho hV hF
  go_enter Tryz.func157, Tryz.ntmps157
  go_upto_region 1 with fail
  generalize w.alloc (.cells V.toArray 31) = u1 at *
  generalize hBX : w.heap.size = BX at *
  have HBX := hyd hBX
  clear hBX
  generalize cl.fs.o + f.fn * 18 = oF at *
  have q0 := fun x : Gr u1 => x.cell c0
  have q4 := fun x : Gr u1 => x.cell c4
  have rF : ∀ u, (∃ x : Gr u1, u = x.w) → u.rangeAt cl.fs.b oF F.vs := fun _ hC => by obtain ⟨x, rfl⟩ := hC; exact range_kept HCF.out.2.1 (Gr.bl x)
  have hNE : Nonempty (Gr u1) := ⟨⟨_, Below.refl _ _⟩⟩
  refine wp_region_gr_tail 11 (by kernel_rfl) (by kernel_rfl) ?_
  simp only [List.take, List.drop]
  iterate 5 go_big_quiet_step (fail)
  go_big_quiet_want
  refine quiet_load_rowV 66 (.tmp 10) rfl cl.fs.b oF (by kernel_rfl) F.vs _ rF Tryz.underlying66 rfl (by kernel_rfl) ?_
  simp only [Act.put, List.setIfInBounds_toArray, List.set_cons_succ, List.set_cons_zero]
  go_big_quiet_on
  iterate 5 go_big_quiet_step (fail)
  refine wpQuiet_nil ?_
  rintro u2 ⟨xg, rfl⟩
  have Bg := xg.bl
  generalize xg.w = u2 at Bg ⊢
  have HH2 := hyd (HH.out u2 Bg)
  have HB2 := hyd Bg
  clear xg Bg q0 q4 rF hNE HH HCF c0 c4
  go_wp2_with fail
  refine HH2.out.mono ?_
  rintro _ u3 ⟨rfl, hb⟩
  have hb3 := Below.next HB2.out hb
  clear hb HH2 HB2
  rw [HN.out]
  have HT3 := hyd (HT.out.kept hb3)
  have HV3 := hyd (HV.out.kept (Ch.of_below (R := fun _ => False) hb3) (fun x => x))
  have HK3 := hyd (HK.out.kept hb3)
  have HC3 := hyd (HC0.out.trans (Ch.of_below hb3))
  have c5' := up hb3 c5
  have HCS := hyd c5'
  clear hb3 HT HV HK HB c5 c5'
  go_upto_region 4 with fail
  have D1 := (Below.refl u3.heap.size u3).drew
  have rT : ∀ u, (∃ x : Wd (fun q => Blk q BX V 31 ∧ q.cell? ⟨g, o + 5, none⟩ = some (.slice ao f.st.length cap)), u = x.w) → u.rangeAt BX 0 V := fun _ hC => by obtain ⟨x, rfl⟩ := hC; exact Blk.range x.2.1
  have p5 : ∀ x : Wd (fun q => Blk q BX V 31 ∧ q.cell? ⟨g, o + 5, none⟩ = some (.slice ao f.st.length cap)), x.w.cell? ⟨g, o + 5, none⟩ = some (.slice ao f.st.length cap) := fun x => x.2.2
  have hNE : Nonempty (Wd (fun q => Blk q BX V 31 ∧ q.cell? ⟨g, o + 5, none⟩ = some (.slice ao f.st.length cap))) := ⟨⟨_, HK3.out, HCS.out⟩⟩
  have HT4 := hyd (HT3.out.kept D1)
  have HV4 := hyd (HV3.out.kept (Ch.of_below (R := fun _ => False) D1) (fun x => x))
  have HK4 := hyd (HK3.out.kept D1)
  have HC4 := hyd (HC3.out.trans (Ch.of_below D1))
  have HCS4 := hyd (up D1 HCS.out)
  clear HT3 HV3 HK3 HC3 HCS D1
  refine wp_region_readsV (fun q => Blk q BX V 31 ∧ q.cell? ⟨g, o + 5, none⟩ = some (.slice ao f.st.length cap)) (fun i => i != 11) [0, 1, 2, 3, 4, 5, 6] 5 (by kernel_rfl) rfl (by kernel_rfl) ⟨HK4.out, HCS4.out⟩ ?_
  simp only [List.filterMap, List.getElem?_cons_zero, List.getElem?_cons_succ]
  iterate 5 go_big_quiet_step (fail)
  go_big_quiet_step (fail)
  go_big_quiet_want
  refine quiet_load_rowV 31 (.tmp 3) rfl BX 0 (by kernel_rfl) V _ rT Tryz.underlying31 rfl (by rw [HL.out]; kernel_rfl) ?_
  simp only [Act.put, List.setIfInBounds_toArray, List.set_cons_succ, List.set_cons_zero]
  go_big_quiet_on
  refine wpQuiet_nil ?_
  clear rT hNE p5
  generalize u3.drew = u4 at *
  refine wpAnyX_ready (rs := [7]) (by kernel_rfl) (by simp) ?_
  refine AllReadyX.cons rfl (fun K hK => ?_) AllReadyX.nil
  rw [if_pos (by rfl)]
  have e7 : V.toArray = #[.int .i64 v.k, .int .i64 v.m, .slice v.ao v.len v.cap] := by rw [← HVE.out]; rfl
  have e8 : V = [.int .i64 v.k, .int .i64 v.m, .slice v.ao v.len v.cap] := by rw [← HVE.out]; rfl
  rw [e7]
  go_simp
  have B3 := below_alloc u4 (.cells #[.int .i64 v.k, .int .i64 v.m, .slice v.ao v.len v.cap] 31)
  have HT5 := hyd (HT4.out.kept B3)
  have HV5 := hyd (HV4.out.kept (Ch.of_below (R := fun _ => False) B3) (fun x => x))
  have HC5 := hyd (HC4.out.trans (Ch.of_below B3))
  have HK5 := hyd (HK4.out.kept B3)
  have HCS5 := hyd (up B3 HCS4.out)
  have HNB : Hid (Blk (u4.alloc (.cells #[.int .i64 v.k, .int .i64 v.m, .slice v.ao v.len v.cap] 31)) u4.heap.size V 31) := by rw [e8]; exact Blk.new u4 _ _
  refine hK.out _ _ (fun _ => ⟨HK5.out, HCS5.out⟩) ?_
  clear hK K HT4 HV4 HC4 HK4 HCS4 B3 e7 e8
  generalize u4.alloc (.cells #[.int .i64 v.k, .int .i64 v.m, .slice v.ao v.len v.cap] 31) = u5 at *
  generalize u4.heap.size = BN at *
  refine wpAnyX_ready (rs := [8]) (by kernel_rfl) (by simp) ?_
  refine AllReadyX.cons rfl (fun K hK => ?_) AllReadyX.nil
  rw [if_pos (by rfl)]
  have hSR : Rr w0 ρ (6 + 2 * r.length) 31 3 (.slice ao 0 cap) 0 [] u5 := by
    have h9 := HT5.out.fr.s
    rw [HSV.out] at h9
    rcases h9.own.2 with ⟨e, _⟩ | ⟨gq, cq, _, e, _⟩
    · simp only [Value.slice.injEq] at e
      obtain ⟨rfl, _, rfl⟩ := e
      exact Rr.nil _ _ _ _ _ _
    · simp only [Value.slice.injEq] at e
      obtain ⟨rfl, _, rfl⟩ := e
      simpa using h9.cut 0 (Nat.zero_le _)
  have HSR := hyd hSR
  clear hSR
  refine wp_append_lie Tryz.underlying29 Tryz.infoVl rfl (by decide) (.tmp 25) (.tmp 27) rfl w0.heap.size (.slice ao 0 cap) 0 [] (by kernel_rfl) HSR.out.own BN 1 1 V (by kernel_rfl) (by decide) HNB.out (by rw [HL.out]) H1.out (by decide) (by decide) HT5.out.M.bl.size ?_
  intro g' cap' u6 ho6 hg6 hat hlt
  have hown : ∀ k, Value.ownBlock (.slice ao 0 cap) = some k → f.sv.ownBlock = some k := fun k e => by rw [HSV.out]; cases ao <;> exact e
  have hkg := Ch.grow (R := fun x => x = 6 + 2 * r.length) (ρ := ρ) hg6 (fun k e => HSR.out.role k e) hat rfl
  have hρg : ρ g = 2 := HT5.out.gne
  have hbx : Blk u6 BX V 31 := by
    unfold Blk
    rw [hg6.block BX HK5.out.lt (fun e => by have := HG.out.2 BX (hown BX e.symm); omega)]
    exact HK5.out
  have hcs : u6.cell? ⟨g, o + 5, none⟩ = some (.slice ao f.st.length cap) := hg6.cell HCS5.out (fun e => by have := HSR.out.role g e.symm; rw [hρg] at this; omega)
  have HR6 := hyd (show Rr w0 (upd ρ g' (6 + 2 * r.length)) (6 + 2 * r.length) 31 3 (.slice (some ⟨g', 0, none⟩) 1 cap') 1 V u6 from ⟨ho6, fun k e => by { have e2 : g' = k := by { simpa [Value.ownBlock] using e }; rw [← e2, upd_at] }⟩)
  have HKG := hyd hkg
  have HK6 := hyd hbx
  have HCS6 := hyd hcs
  refine hK.out _ _ (fun _ => ⟨HK6.out, HCS6.out⟩) ?_
  clear hK K ho6 hg6 hat hlt hown hkg hρg hbx hcs HK5 HCS5 HNB HSR
  refine wpAnyX_ready (rs := [9]) (by kernel_rfl) (by simp) ?_
  refine AllReadyX.cons rfl (fun K hK => ?_) AllReadyX.nil
  rw [if_pos (by rfl)]
  go_simp
  refine hK.out _ _ (fun _ => ⟨HK6.out, HCS6.out⟩) ?_
  clear hK K
  refine wpAnyX_ready (rs := [10]) (by kernel_rfl) (by simp) ?_
  refine AllReadyX.cons rfl (fun K hK => ?_) AllReadyX.nil
  rw [if_pos (by rfl)]
  go_simp
  refine hK.out _ _ (fun _ => ⟨HK6.out, HCS6.out⟩) ?_
  clear hK K
  refine wpAnyX_ready (rs := [11]) (by kernel_rfl) (by simp) ?_
  refine AllReadyX.cons rfl (fun K hK => ?_) AllReadyX.nil
  rw [if_pos (by rfl)]
  have hT := HT5.out
  obtain ⟨c, hc, hcl⟩ := hT.there
  have hcb : Blk u6 g c 120 := by unfold Blk; rw [HKG.out.block g hc.lt (by rw [hT.gne]; omega)]; exact hc
  have HO' := HO.out
  refine wp_store1 29 (.tmp 30) (.tmp 28) rfl rfl g (o + 5) (.slice (some ⟨g', 0, none⟩) 1 cap') c _ (by kernel_rfl) (by kernel_rfl) (store_one _ _ (by kernel_rfl) rfl rfl _ _) hcb (by omega) ?_
  intro u7 W7
  have hfr : FrAt cl w0 (upd ρ g' (6 + 2 * r.length)) r.length (f.sk [v] (.slice (some ⟨g', 0, none⟩) 1 cap')) u6 := by
    have hF := hT.fr
    refine ⟨hF.fn, hF.fu.kept HKG.out (by omega), ?_, hF.l.kept HKG.out (by omega), fun u hu => ?_, fun u hu => (hF.vl u hu).kept HKG.out (by omega)⟩
    · show Rr w0 _ _ _ 3 (.slice (some ⟨g', 0, none⟩) 1 cap') 1 (vls [v]) u6
      rw [show vls [v] = V by rw [← HVE.out]; simp [vls]]
      exact HR6.out
    · have hu2 : u ∈ [v] := hu
      have : u = v := by simpa using hu2
      subst this
      exact HV5.out.kept HKG.out (by omega)
  subst HO'
  have HT7 := hyd (hT.set (HKG.out.mono fun x e => Or.inl e) hfr (j := 5) (by omega) rfl hcb W7)
  have HC7 := hyd ((HC5.out.trans (HKG.out.mono fun x e => Or.inr e)).trans (Ch.wrote W7 (R := fun x => x = 2 ∨ x = 6 + 2 * r.length) (Or.inl ((HKG.out.role g hc.lt).trans hT.gne))))
  refine hK.out _ _ (fun h => by cases h) ?_
  clear hK K hfr W7 hcb hc hcl hT HC5 HT5 HKG HR6 HK6 HCS6
  refine wpAnyX_done (by kernel_rfl) ?_ _
  refine ⟨(fun c hc => by cases hc), ?_⟩
  obtain ⟨c, hc, hcl⟩ := HT7.out.there
  have HCB := hyd hc
  have HCL := hyd hcl
  clear hc hcl
  have HT8 := hyd (fun u (W : WroteB u7 u g (c.set (r.length * 7 + 4) (.int .i64 hh)) 120) => HT7.out.set (Ch.refl _ _ _) (f' := f.hd v hh (.slice (some ⟨g', 0, none⟩) 1 cap')) (by have h9 := HT7.out.fr; exact ⟨h9.fn, h9.fu, h9.s, h9.l, h9.vs, h9.vl⟩) (j := 4) (by omega) rfl HCB.out W)
  have HGN := hyd HT7.out.gne
  go_wp2_with (refine wpList_store1 rfl 3 (.tmp 34) (.tmp 32) rfl rfl g (r.length * 7 + 4) (.int .i64 hh) c _ (by kernel_rfl) (by kernel_rfl) (store_one _ _ (by kernel_rfl) rfl rfl _ _) HCB.out (by have := HCL.out; omega) ?_; intro u8 W8; have HT9 := hyd (HT8.out u8 W8); have HC9 := hyd (HC7.out.trans (Ch.wrote W8 (R := fun x => x = 2 ∨ x = 6 + 2 * r.length) (Or.inl HGN.out))); clear W8)
  go_ret
  exact ⟨rfl, _, _, HT9.out, HC9.out⟩
end Go.Proofs.YtmkncmmegjfipaaGreatDoor

/- Layer 18: what is raised goes to the first handler, from the last frame back. -/
namespace Go.Proofs.YtmkncmmegjfipaaGreatDoor
open Go Go.RowKit

def Mc.dim (m : Mc) (k : Nat) : Mc := { m with fs := m.fs.take k, dd := m.fs.drop k }
theorem MAt.dim {cl : Kl} {w0 : World} {B : Nat} {ρ : Nat → Nat} {m : Mc} {w : World} (h : MAt cl w0 B ρ m w) (hd : m.dd = []) (k : Nat) : MAt cl w0 B ρ (m.dim k) w := by
  have e : m.fs.take k ++ m.fs.drop k = m.fs ++ m.dd := by rw [List.take_append_drop, hd, List.append_nil]
  refine ⟨h.bl, h.low, h.hB, h.rB, h.blk, h.c, h.t, ?_, ?_, h.ce, h.la⟩
  · show Rr w0 ρ 2 _ 7 m.fv (m.fs.take k ++ m.fs.drop k).length (frs cl (m.fs.take k ++ m.fs.drop k)) w
    rw [e]; exact h.f
  · intro i f hf
    have h4 : (m.fs.take k)[i]? = some f := hf
    rw [List.getElem?_take] at h4
    split at h4
    · exact h.fr i f h4
    · cases h4
theorem take_at {α : Type} {l : List α} {j : Nat} {a : α} (h : l[j]? = some a) : l.take (j + 1) = l.take j ++ [a] := by
  rw [List.take_add_one, h]; rfl
theorem MAt.tp {cl : Kl} {w0 : World} {B : Nat} {ρ : Nat → Nat} {m : Mc} {w : World} {j g cap : Nat} {f : Fr} (h : MAt cl w0 B ρ m w) (hd : m.dd = []) (hf : m.fs[j]? = some f) (hv : m.fv = .slice (some ⟨g, 0, none⟩) m.fs.length cap) : Tp cl w0 B ρ (m.dim (j + 1)) (m.fs.take j) f g w :=
  ⟨h.dim hd (j + 1), take_at hf, ⟨cap, by show m.fv = .slice _ (m.fs.take (j + 1) ++ m.fs.drop (j + 1)).length cap; rw [List.take_append_drop]; exact hv⟩⟩
/-- The place of a frame is one of its code's, or the one behind. -/
def Fr.ok (cl : Kl) (f : Fr) : Prop := 1 ≤ f.pl ∧ f.pl ≤ (cl.fs.x f.fn).cd.len ∧ f.pl ≤ 100000
set_option maxRecDepth 100000 in
set_option maxHeartbeats 8000000 in
theorem raise_no {cl : Kl} {w0 : World} {B : Nat} {ρ : Nat → Nat} {m : Mc} {w : World} (v : Vl) (h : MAt cl w0 B ρ m w) (hv : VOk ρ w v) (hc : cl.At w0) (hd : m.dd = []) (hn : 0 < m.fs.length ∧ m.fs.length ≤ 100000) (ha : ∀ x ∈ m.fs, x.ok cl ∧ x.hn cl = -1) : Calls Tryz.prog 120 #[.pointer (some ⟨B, 0, none⟩), .agg v.vs.toArray] w fun e w' => e = .returned (.tuple #[]) ∧ MAt cl w0 B ρ { m with en := 2, la := v } w' ∧ Ch (fun x => x = 1) ρ ρ w w' := by
  have B0 := below_alloc w (.cells v.vs.toArray 31)
  have HM := hyd (show MAt cl w0 B ρ m (w.alloc (.cells v.vs.toArray 31)) ∧ VOk ρ (w.alloc (.cells v.vs.toArray 31)) v ∧ Blk (w.alloc (.cells v.vs.toArray 31)) w.heap.size v.vs 31 from ⟨h.kept B0, hv.kept (Ch.of_below (R := fun _ => False) B0) (fun x => x), Blk.new w v.vs 31⟩)
  have HC := hyd (Ch.of_below (R := fun x => x = 1) (ρ := ρ) B0)
  obtain ⟨g, cap, _, ev, _⟩ := h.f.blk (by rw [hd, List.append_nil]; exact hn.1)
  rw [hd, List.append_nil] at ev
  have HEV := hyd ev
  have HH := hyd (fun (j : Nat) (u : World) (f : Fr) (hf : m.fs[j]? = some f) (hu : MAt cl w0 B ρ m u) => (show (m.fs.take j).length = j by rw [List.length_take]; have := (List.getElem?_eq_some_iff.1 hf).1; omega) ▸ handles_no v (hu.tp hd hf ev) hc (ha f (List.mem_of_getElem? hf)).1 (ha f (List.mem_of_getElem? hf)).2)
  have HE := hyd (fun (u : World) (hu : MAt cl w0 B ρ m u) (hv : VOk ρ u v) => end_any 2 v hu hv)
  have c14 := fun (u : World) (hu : MAt cl w0 B ρ m u) => (show u.cell? ⟨B, 14, none⟩ = some (.slice (some ⟨g, 0, none⟩) m.fs.length cap) by rw [← ev]; exact hu.blk.cell 14 rfl)
  have HC14 := hyd c14
  have HCAP := hyd (fun (u : World) (hu : MAt cl w0 B ρ m u) => hu.f.own.1)
  have c14a := c14 _ (h.kept B0)
  clear h hv hc ha ev B0 c14
  have H1 := hyd v.vs_one
  have HL := hyd (show v.vs.length = 3 from rfl)
  generalize hV : v.vs = V at *
  have HVE := hyd hV
  clear hV
  generalize hnn : m.fs.length = n at *
  have HN := hyd hnn
  clear hnn
  go_enter Tryz.func120, Tryz.ntmps120
  go_upto_region 1 with fail
  generalize w.alloc (.cells V.toArray 31) = u1 at *
  generalize w.heap.size = BX at *
  go_wp2
  go_loopw [4] (fun i wr => ∃ (k : Nat) (z : Int), k ≤ n ∧ z = k - 1 ∧ i = .int .i64 z ∧ MAt cl w0 B ρ m wr ∧ VOk ρ wr v ∧ Blk wr BX V 31 ∧ Ch (fun x => x = 1) ρ ρ w wr) (fun i _ => (intOf i + 1).toNat)
  case atStart => exact ⟨n, _, Nat.le_refl _, rfl, rfl, HM.out.1, HM.out.2.1, HM.out.2.2, HC.out⟩
  case round =>
    clear HM HC c14a
    obtain ⟨k, z, hk, hz, rfl, hM, hV, hB, hCh⟩ := hrel
    have HM := hyd hM
    have HV := hyd hV
    have HB := hyd hB
    have HCh := hyd hCh
    have c14 := HC14.out wr hM
    clear hM hV hB hCh
    cases k with
    | zero =>
      have hz1 : z = -1 := by omega
      subst hz1
      clear hz
      go_upto_region 6 with fail
      have rT : ∀ u, (∃ x : Gr wr, u = x.w) → u.rangeAt BX 0 V := fun _ hC => by obtain ⟨x, rfl⟩ := hC; exact range_kept HB.out.range (Gr.bl x)
      have hNE : Nonempty (Gr wr) := ⟨⟨_, Below.refl _ _⟩⟩
      refine wp_region_gr_tail 4 (by kernel_rfl) (by kernel_rfl) ?_
      simp only [List.take, List.drop]
      iterate 3 go_big_quiet_step (fail)
      go_big_quiet_want
      refine quiet_load_rowV 31 (.tmp 3) rfl BX 0 (by kernel_rfl) V _ rT Tryz.underlying31 rfl (by rw [HL.out]; kernel_rfl) ?_
      simp only [Act.put, List.setIfInBounds_toArray, List.set_cons_succ, List.set_cons_zero]
      go_big_quiet_on
      refine wpQuiet_nil ?_
      rintro u2 ⟨xg, rfl⟩
      have Bg := xg.bl
      generalize xg.w = u2 at Bg ⊢
      have HE2 := hyd (HE.out u2 (HM.out.kept Bg) (HV.out.kept (Ch.of_below (R := fun _ => False) Bg) (fun x => x)))
      have HC2 := hyd (HCh.out.trans (Ch.of_below Bg))
      clear xg Bg rT hNE HM HV HB HCh c14 HE HH HC14 HCAP
      go_wp2_with fail
      refine HE2.out.mono ?_
      rintro _ u3 ⟨rfl, hm, hc3⟩
      have HR := hyd (show MAt cl w0 B ρ { m with en := 2, la := v } u3 ∧ Ch (fun x => x = 1) ρ ρ w u3 from ⟨hm, HC2.out.trans hc3⟩)
      clear hm hc3 HE2 HC2
      go_wp2
      go_end0
      exact ⟨rfl, HR.out⟩
    | succ j =>
      have hz1 : z = (j : Int) := by omega
      subst hz1
      clear hz
      obtain ⟨f, hf⟩ : ∃ f, m.fs[j]? = some f := ⟨_, List.getElem?_eq_getElem (by rw [HN.out]; omega)⟩
      have jn : (j : Int) < n := by omega
      go_upto_region 4 with fail
      have rT : ∀ u, (∃ x : Gr wr, u = x.w) → u.rangeAt BX 0 V := fun _ hC => by obtain ⟨x, rfl⟩ := hC; exact range_kept HB.out.range (Gr.bl x)
      have q14 := fun x : Gr wr => x.cell c14
      have hNE : Nonempty (Gr wr) := ⟨⟨_, Below.refl _ _⟩⟩
      refine wp_region_gr_tail 7 (by kernel_rfl) (by kernel_rfl) ?_
      simp only [List.take, List.drop]
      iterate 6 go_big_quiet_step (fail)
      go_big_quiet_want
      refine quiet_load_rowV 31 (.tmp 3) rfl BX 0 (by kernel_rfl) V _ rT Tryz.underlying31 rfl (by rw [HL.out]; kernel_rfl) ?_
      simp only [Act.put, List.setIfInBounds_toArray, List.set_cons_succ, List.set_cons_zero]
      go_big_quiet_on
      refine wpQuiet_nil ?_
      rintro u2 ⟨xg, rfl⟩
      have Bg := xg.bl
      generalize xg.w = u2 at Bg ⊢
      have HM2 := hyd (HM.out.kept Bg)
      have HV2 := hyd (HV.out.kept (Ch.of_below (R := fun _ => False) Bg) (fun x => x))
      have HB2 := hyd (HB.out.kept Bg)
      have HC2 := hyd (HCh.out.trans (Ch.of_below Bg))
      have HH2 := hyd (HH.out j u2 f hf HM2.out)
      clear xg Bg rT q14 hNE HM HV HB HCh c14
      go_wp2_with fail
      refine HH2.out.mono ?_
      rintro _ u3 ⟨rfl, hb⟩
      have HM3 := hyd (HM2.out.kept hb)
      have HV3 := hyd (HV2.out.kept (Ch.of_below (R := fun _ => False) hb) (fun x => x))
      have HB3 := hyd (HB2.out.kept hb)
      have HC3 := hyd (HC2.out.trans (Ch.of_below hb))
      clear hb HM2 HV2 HB2 HC2 HH2
      go_wp2
      go_roundw
      case rel => exact ⟨j, (j : Int) - 1, by omega, rfl, rfl, HM3.out, HV3.out, HB3.out, HC3.out⟩
      case measure => simp [intOf]
set_option maxRecDepth 100000 in
set_option maxHeartbeats 8000000 in
theorem raise_yes {cl : Kl} {w0 : World} {B : Nat} {ρ : Nat → Nat} {m : Mc} {w : World} (v : Vl) (h : MAt cl w0 B ρ m w) (hv : VOk ρ w v) (hc : cl.At w0) (hd : m.dd = []) (hn : 0 < m.fs.length ∧ m.fs.length ≤ 100000) (r rest : List Fr) (f0 : Fr) (hh : Nat) (hfs : m.fs = r ++ f0 :: rest) (ha : ∀ x ∈ rest, x.ok cl ∧ x.hn cl = -1) (hok : f0.ok cl) (hhn : f0.hn cl = hh) : Calls Tryz.prog 120 #[.pointer (some ⟨B, 0, none⟩), .agg v.vs.toArray] w fun e w' => e = .returned (.tuple #[]) ∧ ∃ sv' ρ' fv', MAt cl w0 B ρ' { m with fs := r ++ [f0.hd v hh sv'], fv := fv', dd := [] } w' ∧ Ch (fun x => x = 1 ∨ x = 2 ∨ x = 6 + 2 * r.length) ρ ρ' w w' := by
  have B0 := below_alloc w (.cells v.vs.toArray 31)
  have HM := hyd (show MAt cl w0 B ρ m (w.alloc (.cells v.vs.toArray 31)) ∧ VOk ρ (w.alloc (.cells v.vs.toArray 31)) v ∧ Blk (w.alloc (.cells v.vs.toArray 31)) w.heap.size v.vs 31 from ⟨h.kept B0, hv.kept (Ch.of_below (R := fun _ => False) B0) (fun x => x), Blk.new w v.vs 31⟩)
  have HC := hyd (Ch.of_below (R := fun x => x = 1 ∨ x = 2 ∨ x = 6 + 2 * r.length) (ρ := ρ) B0)
  obtain ⟨g, cap, _, ev, _, _, hcap, _⟩ := h.f.blk (by rw [hd, List.append_nil]; exact hn.1)
  rw [hd, List.append_nil] at ev hcap
  have hcp : r.length + 1 ≤ cap := by rw [hfs, List.length_append, List.length_cons] at hcap; omega
  clear hcap
  have HEV := hyd ev
  have hr0 : m.fs[r.length]? = some f0 := by rw [hfs, List.getElem?_append_right (Nat.le_refl _), Nat.sub_self]; rfl
  have htk : m.fs.take r.length = r := by rw [hfs, List.take_left]
  have hin : ∀ (j : Nat) (f : Fr), r.length < j → m.fs[j]? = some f → f ∈ rest := fun j f hj hf => by
    rw [hfs, List.getElem?_append_right (by omega), show j - r.length = (j - r.length - 1) + 1 by omega, List.getElem?_cons_succ] at hf
    exact List.mem_of_getElem? hf
  have HH := hyd (fun (j : Nat) (u : World) (f : Fr) (hf : m.fs[j]? = some f) (hj : r.length < j) (hu : MAt cl w0 B ρ m u) => (show (m.fs.take j).length = j by rw [List.length_take]; have := (List.getElem?_eq_some_iff.1 hf).1; omega) ▸ handles_no v (hu.tp hd hf ev) hc (ha f (hin j f hj hf)).1 (ha f (hin j f hj hf)).2)
  have HY := hyd (fun (u : World) (hu : MAt cl w0 B ρ m u) (hv : VOk ρ u v) => handles_yes v hh (htk ▸ hu.tp hd hr0 ev) hv hc hok hhn)
  have HRL := hyd (show r.length < m.fs.length by rw [hfs]; simp)
  have HFIN := hyd (fun (ρ' : Nat → Nat) (sv' : Value) (u u' : World) (hu : Tp cl w0 B ρ' ((m.dim (r.length + 1)).top r (f0.hd v hh sv')) r (f0.hd v hh sv') g u) (W : WroteB u u' B ((((m.dim (r.length + 1)).top r (f0.hd v hh sv')).vs cl).set 14 (.slice (some ⟨g, 0, none⟩) (r.length + 1) cap)) 83) => (show MAt cl w0 B ρ' { m with fs := r ++ [f0.hd v hh sv'], fv := .slice (some ⟨g, 0, none⟩) (r.length + 1) cap, dd := [] } u' by
    have h9 := hu.M.cut (j := r.length + 1) (g := g) (cap := cap) (by show m.fv = .slice _ (r ++ [f0.hd v hh sv'] ++ m.fs.drop (r.length + 1)).length cap; rw [ev]; congr 1; rw [hfs]; simp) (by show r.length + 1 ≤ (r ++ [f0.hd v hh sv']).length; simp) W
    have e9 : (r ++ [f0.hd v hh sv']).take (r.length + 1) = r ++ [f0.hd v hh sv'] := List.take_of_length_le (by simp)
    have h10 : MAt cl w0 B ρ' { m with fs := (r ++ [f0.hd v hh sv']).take (r.length + 1), fv := .slice (some ⟨g, 0, none⟩) (r.length + 1) cap, dd := [] } u' := h9
    rw [e9] at h10
    exact h10))
  have c14 := fun (u : World) (hu : MAt cl w0 B ρ m u) => (show u.cell? ⟨B, 14, none⟩ = some (.slice (some ⟨g, 0, none⟩) m.fs.length cap) by rw [← ev]; exact hu.blk.cell 14 rfl)
  have HC14 := hyd c14
  have HCAP := hyd (fun (u : World) (hu : MAt cl w0 B ρ m u) => hu.f.own.1)
  have c14a := c14 _ (h.kept B0)
  clear h hv hc ha ev B0 c14 hok hhn hin htk hr0
  have H1 := hyd v.vs_one
  have HL := hyd (show v.vs.length = 3 from rfl)
  generalize hV : v.vs = V at *
  have HVE := hyd hV
  clear hV
  generalize hnn : m.fs.length = n at *
  have HN := hyd hnn
  clear hnn
  go_enter Tryz.func120, Tryz.ntmps120
  go_upto_region 1 with fail
  generalize w.alloc (.cells V.toArray 31) = u1 at *
  generalize w.heap.size = BX at *
  go_wp2
  go_loopw [4] (fun i wr => ∃ (k : Nat) (z : Int), r.length + 1 ≤ k ∧ k ≤ n ∧ z = k - 1 ∧ i = .int .i64 z ∧ MAt cl w0 B ρ m wr ∧ VOk ρ wr v ∧ Blk wr BX V 31 ∧ Ch (fun x => x = 1 ∨ x = 2 ∨ x = 6 + 2 * r.length) ρ ρ w wr) (fun i _ => (intOf i + 1).toNat)
  case atStart => exact ⟨n, _, by have := HRL.out; omega, Nat.le_refl _, rfl, rfl, HM.out.1, HM.out.2.1, HM.out.2.2, HC.out⟩
  case round =>
    clear HM HC c14a
    obtain ⟨k, z, hkr, hk, hz, rfl, hM, hV, hB, hCh⟩ := hrel
    have HM := hyd hM
    have HV := hyd hV
    have HB := hyd hB
    have HCh := hyd hCh
    have c14 := HC14.out wr hM
    clear hM hV hB hCh
    cases k with
    | zero => exact absurd hkr (by omega)
    | succ j =>
      have hz1 : z = (j : Int) := by omega
      subst hz1
      clear hz
      obtain ⟨f, hf⟩ : ∃ f, m.fs[j]? = some f := ⟨_, List.getElem?_eq_getElem (by rw [HN.out]; omega)⟩
      have jn : (j : Int) < n := by omega
      by_cases hjr : r.length < j
      · go_upto_region 4 with fail
        have rT : ∀ u, (∃ x : Gr wr, u = x.w) → u.rangeAt BX 0 V := fun _ hC => by obtain ⟨x, rfl⟩ := hC; exact range_kept HB.out.range (Gr.bl x)
        have q14 := fun x : Gr wr => x.cell c14
        have hNE : Nonempty (Gr wr) := ⟨⟨_, Below.refl _ _⟩⟩
        refine wp_region_gr_tail 7 (by kernel_rfl) (by kernel_rfl) ?_
        simp only [List.take, List.drop]
        iterate 6 go_big_quiet_step (fail)
        go_big_quiet_want
        refine quiet_load_rowV 31 (.tmp 3) rfl BX 0 (by kernel_rfl) V _ rT Tryz.underlying31 rfl (by rw [HL.out]; kernel_rfl) ?_
        simp only [Act.put, List.setIfInBounds_toArray, List.set_cons_succ, List.set_cons_zero]
        go_big_quiet_on
        refine wpQuiet_nil ?_
        rintro u2 ⟨xg, rfl⟩
        have Bg := xg.bl
        generalize xg.w = u2 at Bg ⊢
        have HM2 := hyd (HM.out.kept Bg)
        have HV2 := hyd (HV.out.kept (Ch.of_below (R := fun _ => False) Bg) (fun x => x))
        have HB2 := hyd (HB.out.kept Bg)
        have HC2 := hyd (HCh.out.trans (Ch.of_below Bg))
        have HH2 := hyd (HH.out j u2 f hf hjr HM2.out)
        clear xg Bg rT q14 hNE HM HV HB HCh c14
        go_wp2_with fail
        refine HH2.out.mono ?_
        rintro _ u3 ⟨rfl, hb⟩
        have HM3 := hyd (HM2.out.kept hb)
        have HV3 := hyd (HV2.out.kept (Ch.of_below (R := fun _ => False) hb) (fun x => x))
        have HB3 := hyd (HB2.out.kept hb)
        have HC3 := hyd (HC2.out.trans (Ch.of_below hb))
        clear hb HM2 HV2 HB2 HC2 HH2
        go_wp2
        go_roundw
        case rel => exact ⟨j, (j : Int) - 1, by omega, by omega, rfl, rfl, HM3.out, HV3.out, HB3.out, HC3.out⟩
        case measure => simp [intOf]
      · have hje : j = r.length := by omega
        subst hje
        go_upto_region 4 with fail
        have rT : ∀ u, (∃ x : Gr wr, u = x.w) → u.rangeAt BX 0 V := fun _ hC => by obtain ⟨x, rfl⟩ := hC; exact range_kept HB.out.range (Gr.bl x)
        have q14 := fun x : Gr wr => x.cell c14
        have hNE : Nonempty (Gr wr) := ⟨⟨_, Below.refl _ _⟩⟩
        refine wp_region_gr_tail 7 (by kernel_rfl) (by kernel_rfl) ?_
        simp only [List.take, List.drop]
        iterate 6 go_big_quiet_step (fail)
        go_big_quiet_want
        refine quiet_load_rowV 31 (.tmp 3) rfl BX 0 (by kernel_rfl) V _ rT Tryz.underlying31 rfl (by rw [HL.out]; kernel_rfl) ?_
        simp only [Act.put, List.setIfInBounds_toArray, List.set_cons_succ, List.set_cons_zero]
        go_big_quiet_on
        refine wpQuiet_nil ?_
        rintro u2 ⟨xg, rfl⟩
        have Bg := xg.bl
        generalize xg.w = u2 at Bg ⊢
        have HM2 := hyd (HM.out.kept Bg)
        have HV2 := hyd (HV.out.kept (Ch.of_below (R := fun _ => False) Bg) (fun x => x))
        have HB2 := hyd (HB.out.kept Bg)
        have HC2 := hyd (HCh.out.trans (Ch.of_below Bg))
        have HY2 := hyd (HY.out u2 HM2.out HV2.out)
        clear xg Bg rT q14 hNE HM HV HB HCh c14
        go_wp2_with fail
        refine HY2.out.mono ?_
        rintro _ u3 ⟨rfl, sv', ρ', hT, hCC⟩
        have HT3 := hyd hT
        have HC3 := hyd (HC2.out.trans (hCC.mono fun x e => Or.inr e))
        have c14 := HT3.out.M.blk.cell 14 (v := .slice (some ⟨g, 0, none⟩) n cap) (by rw [← HEV.out]; rfl)
        clear hT hCC HM2 HV2 HB2 HC2 HY2
        go_wp2_with (refine wpList_store1 rfl 81 (.tmp 32) (.tmp 30) rfl rfl B 14 (.slice (some ⟨g, 0, none⟩) (r.length + 1) cap) _ _ (by kernel_rfl) (by kernel_rfl) (store_one _ _ (by kernel_rfl) rfl rfl _ _) HT3.out.M.blk (by show 14 < 15; omega) ?_; intro u4 W4; have HR4 := hyd (HFIN.out ρ' sv' u3 u4 HT3.out W4); have HC4 := hyd (HC3.out.trans (Ch.wrote W4 (R := fun x => x = 1 ∨ x = 2 ∨ x = 6 + 2 * r.length) (Or.inl HT3.out.M.rB))); clear W4 c14)
        exact bodyPost_ret (v := .tuple #[]) (by kernel_rfl) rfl ⟨rfl, _, _, _, HR4.out, HC4.out⟩
end Go.Proofs.YtmkncmmegjfipaaGreatDoor

/- Layer 18: what is reckoned; a function ends. -/
namespace Go.Proofs.YtmkncmmegjfipaaGreatDoor
open Go Go.RowKit

set_option maxRecDepth 100000 in
set_option maxHeartbeats 4000000 in
theorem mreckon_yes {B : Nat} {w : World} (p : Value) (op x y k n : Int) (P : World → Prop) (hR : ∀ u, Calls Tryz.prog 158 #[.int .i64 op, .int .i64 x, .int .i64 y] u fun e u' => e = .returned (.tuple #[.agg #[.int .i64 k, .int .i64 n, .slice none 0 0], .bool true]) ∧ Below u.heap.size u u')
    (hP : ∀ u, Below w.heap.size w u → Calls Tryz.prog 109 #[.pointer (some ⟨B, 0, none⟩), p, .agg #[.int .i64 k, .int .i64 n, .slice none 0 0]] u fun e u' => e = .returned (.tuple #[]) ∧ P u') :
    Calls Tryz.prog 122 #[.pointer (some ⟨B, 0, none⟩), p, .int .i64 op, .int .i64 x, .int .i64 y] w fun e w' => e = .returned (.tuple #[]) ∧ P w' := by
  go_enter Tryz.func122, Tryz.ntmps122
  go_wp2_with fail
  refine (hR _).mono ?_
  rintro _ u1 ⟨rfl, hb⟩
  have y0 := (Blk.new u1 [.int .i64 k, .int .i64 n, .slice none 0 0] 31).cell 0 rfl
  have y1 := (Blk.new u1 [.int .i64 k, .int .i64 n, .slice none 0 0] 31).cell 1 rfl
  have y2 := (Blk.new u1 [.int .i64 k, .int .i64 n, .slice none 0 0] 31).cell 2 rfl
  have HB := hyd (Below.next hb (below_alloc u1 (.cells #[.int .i64 k, .int .i64 n, .slice none 0 0] 31)))
  have HP := hyd hP
  clear hb hP hR
  go_wp2_with fail
  refine (HP.out _ HB.out).mono ?_
  rintro _ u2 ⟨rfl, h2⟩
  have HQ := hyd h2
  clear h2 HP HB y0 y1 y2
  go_wp2
  go_end0
  exact ⟨rfl, HQ.out⟩
set_option maxRecDepth 100000 in
set_option maxHeartbeats 4000000 in
theorem mreckon_no {B : Nat} {w : World} (p : Value) (op x y k n : Int) (P : World → Prop) (hR : ∀ u, Calls Tryz.prog 158 #[.int .i64 op, .int .i64 x, .int .i64 y] u fun e u' => e = .returned (.tuple #[.agg #[.int .i64 k, .int .i64 n, .slice none 0 0], .bool false]) ∧ Below u.heap.size u u')
    (hP : ∀ u, Below w.heap.size w u → Calls Tryz.prog 120 #[.pointer (some ⟨B, 0, none⟩), .agg #[.int .i64 1, .int .i64 0, .slice none 0 0]] u fun e u' => e = .returned (.tuple #[]) ∧ P u') :
    Calls Tryz.prog 122 #[.pointer (some ⟨B, 0, none⟩), p, .int .i64 op, .int .i64 x, .int .i64 y] w fun e w' => e = .returned (.tuple #[]) ∧ P w' := by
  go_enter Tryz.func122, Tryz.ntmps122
  go_wp2_with fail
  refine (hR _).mono ?_
  rintro _ u1 ⟨rfl, hb⟩
  have HB := hyd (Below.next hb (below_alloc u1 (.cells #[.int .i64 k, .int .i64 n, .slice none 0 0] 31)))
  have HP := hyd hP
  clear hb hP hR
  go_wp2_with fail
  refine (HP.out _ HB.out).mono ?_
  rintro _ u2 ⟨rfl, h2⟩
  have HQ := hyd h2
  clear h2 HP HB
  go_wp2
  exact bodyPost_ret (v := .tuple #[]) (by kernel_rfl) rfl ⟨rfl, HQ.out⟩
set_option maxRecDepth 100000 in
set_option maxHeartbeats 8000000 in
/-- The first function ends. -/
theorem leave_last {cl : Kl} {w0 : World} {B : Nat} {ρ : Nat → Nat} {m : Mc} {f : Fr} {g : Nat} {w : World} (v : Vl) (h : Tp cl w0 B ρ m [] f g w) (hv : VOk ρ w v) (hd : m.dd = []) (hst : f.st = []) : Calls Tryz.prog 121 #[.pointer (some ⟨B, 0, none⟩), .pointer (some ⟨g, 0, none⟩), .agg v.vs.toArray] w fun e w' => e = .returned (.tuple #[]) ∧ (∃ fv', MAt cl w0 B ρ { m with en := 1, la := v, fs := [], fv := fv', dd := [] } w') ∧ Ch (fun x => x = 1) ρ ρ w w' := by
  have B0 := below_alloc w (.cells v.vs.toArray 31)
  have HT := hyd (h.kept B0)
  have HV := hyd (hv.kept (Ch.of_below (R := fun _ => False) B0) (fun x => x))
  have HK := hyd (Blk.new w v.vs 31)
  have HC := hyd (Ch.of_below (R := fun x => x = 1) (ρ := ρ) B0)
  have HZ := hyd (show w.heap.size ≠ B by have := h.M.blk.lt; omega)
  obtain ⟨ao, cap, es⟩ := owform h.fr.s.own
  rw [hst] at es
  have c5 := (h.kept B0).cell 5 (v := .slice ao 0 cap) (by show some f.sv = _; rw [es]; rfl)
  have c5' : (w.alloc (.cells v.vs.toArray 31)).cell? ⟨g, 5, none⟩ = some (.slice ao 0 cap) := by simpa using c5
  obtain ⟨capf, ys, ev, _, _, hcf, _⟩ := h.blk
  have hlen : (m.fs ++ m.dd).length = 1 := by rw [h.e, hd]; rfl
  rw [hlen] at ev hcf
  have c14 := (h.kept B0).M.blk.cell 14 (v := .slice (some ⟨g, 0, none⟩) 1 capf) (by rw [← ev]; rfl)
  have HCUT := hyd (fun (u u' : World) (hu : Tp cl w0 B ρ m [] f g u) (W : WroteB u u' B ((m.vs cl).set 14 (.slice (some ⟨g, 0, none⟩) 0 capf)) 83) => (show MAt cl w0 B ρ { m with fv := .slice (some ⟨g, 0, none⟩) 0 capf, fs := [], dd := [] } u' from hu.M.cut (j := 0) (g := g) (cap := capf) (by rw [hlen]; exact ev) (Nat.zero_le _) W))
  have H1 := hyd v.vs_one
  have HL := hyd (show v.vs.length = 3 from rfl)
  clear h hv hst es c5 B0 ev hlen hd
  generalize hV : v.vs = V at *
  have HVE := hyd hV
  clear hV
  go_enter Tryz.func121, Tryz.ntmps121
  go_upto_region 1 with fail
  generalize w.alloc (.cells V.toArray 31) = u1 at *
  generalize hBX : w.heap.size = BX at *
  go_upto_region 5 with (refine wpList_store1 rfl 81 (.tmp 31) (.tmp 29) rfl rfl B 14 (.slice (some ⟨g, 0, none⟩) 0 capf) _ _ (by kernel_rfl) (by kernel_rfl) (store_one _ _ (by kernel_rfl) rfl rfl _ _) HT.out.M.blk (by show 14 < 15; omega) ?_; intro u2 W2; have HM2 := hyd (HCUT.out _ _ HT.out W2); have HV2 := hyd (HV.out.kept (Ch.wrote W2 (R := fun x => x = 1) HT.out.M.rB) (by omega)); have HC2 := hyd (HC.out.trans (Ch.wrote W2 HT.out.M.rB)); have HK2 := hyd (W2.keep HK.out HZ.out); clear W2 c14)
  go_upto_region 6 with fail
  have rT : ∀ u, (∃ x : Gr u2, u = x.w) → u.rangeAt BX 0 V := fun _ hC => by obtain ⟨x, rfl⟩ := hC; exact range_kept HK2.out.range (Gr.bl x)
  have hNE : Nonempty (Gr u2) := ⟨⟨_, Below.refl _ _⟩⟩
  refine wp_region_gr_tail 4 (by kernel_rfl) (by kernel_rfl) ?_
  simp only [List.take, List.drop]
  iterate 3 go_big_quiet_step (fail)
  go_big_quiet_want
  refine quiet_load_rowV 31 (.tmp 5) rfl BX 0 (by kernel_rfl) V _ rT Tryz.underlying31 rfl (by rw [HL.out]; kernel_rfl) ?_
  simp only [Act.put, List.setIfInBounds_toArray, List.set_cons_succ, List.set_cons_zero]
  go_big_quiet_on
  refine wpQuiet_nil ?_
  rintro u3 ⟨xg, rfl⟩
  have Bg := xg.bl
  generalize xg.w = u3 at Bg ⊢
  have HE := hyd (end_any 1 v (HM2.out.kept Bg) (HV2.out.kept (Ch.of_below (R := fun _ => False) Bg) (fun x => x)))
  have HC3 := hyd (HC2.out.trans (Ch.of_below Bg))
  clear xg Bg rT hNE HM2 HV2 HC2 HK2 HK HC HV HT HCUT
  rw [HVE.out] at HE
  go_wp2_with fail
  refine HE.out.mono ?_
  rintro _ u4 ⟨rfl, hm, hc4⟩
  have HRR := hyd (show (∃ fv', MAt cl w0 B ρ { m with en := 1, la := v, fs := [], fv := fv', dd := [] } u4) ∧ Ch (fun x => x = 1) ρ ρ w u4 from ⟨⟨_, hm⟩, HC3.out.trans hc4⟩)
  clear hm hc4 HE HC3
  go_wp2
  exact bodyPost_ret (v := .tuple #[]) (by kernel_rfl) rfl ⟨rfl, HRR.out⟩
end Go.Proofs.YtmkncmmegjfipaaGreatDoor
