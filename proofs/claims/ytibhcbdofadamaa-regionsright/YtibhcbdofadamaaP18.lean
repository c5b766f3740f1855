/- Layer 16: the joins of all places. -/
import Derived.Test.YtibhcbdofadamaaP16
import Derived.Test.YtibhcbdofadamaaP17
import Derived.Test.YtibhcbdofadamaaP13
import Derived.Deep.CutBlock
namespace Go.Proofs.Ytibhcbdofadamaa
open Go Go.RowKit

/-- The joins from k on. -/
noncomputable def jnF (f : Cf) (g : Rw Bool) (k p : Nat) : Int := if k ≤ p then f.jn g p else -1
theorem jnF_end (f : Cf) (g : Rw Bool) : nvL (jnF f g f.cd.len) f.cd.len = nvL (fun _ => -1) f.cd.len := nvL_congr fun p hp => by unfold jnF; rw [if_neg (by omega)]
theorem jnF_all (f : Cf) (g : Rw Bool) : nvL (jnF f g 0) f.cd.len = nvL (f.jn g) f.cd.len := nvL_congr fun p hp => by unfold jnF; rw [if_pos (by omega)]
theorem jnF_up {f : Cf} {g : Rw Bool} {p : Nat} {z : Int} (h : f.jn g p = z) : nvL (updI (jnF f g (p + 1)) p z) f.cd.len = nvL (jnF f g p) f.cd.len := nvL_congr fun q hq => by
  unfold updI jnF
  by_cases e : q = p
  · subst e; rw [if_pos rfl, if_pos (Nat.le_refl _), h]
  · rw [if_neg e]
    by_cases c : p + 1 ≤ q
    · rw [if_pos c, if_pos (by omega)]
    · rw [if_neg c, if_neg (by omega)]
theorem jnF_same {f : Cf} {g : Rw Bool} {p : Nat} (h : f.jn g p = -1) : nvL (jnF f g (p + 1)) f.cd.len = nvL (jnF f g p) f.cd.len := nvL_congr fun q hq => by
  unfold jnF
  by_cases e : q = p
  · subst e; rw [if_neg (by omega), if_pos (Nat.le_refl _), h]
  · by_cases c : p + 1 ≤ q
    · rw [if_pos c, if_pos (by omega)]
    · rw [if_neg c, if_neg (by omega)]
theorem jnF_known (f : Cf) (g : Rw Bool) (p : Nat) (z : Int) : JK f g (p + 1) (updI (jnF f g (p + 1)) p z) := fun q h1 h2 => by
  unfold updI jnF
  rw [if_neg (by omega), if_pos h1]
/-- The boxes. -/
structure Js (w0 : World) (f : Cf) (BL BV : Nat) (J : Nat → Int) (u : World) : Prop where
  bl : Below w0.heap.size w0 u
  bF : Blk u w0.heap.size f.vs 30
  bL : Blk u BL [.slice (some ⟨BV, 0, none⟩) f.cd.len f.cd.len] 36
  bV : Blk u BV (nvL J f.cd.len) 3
  ne : w0.heap.size < BV ∧ BV < BL
theorem Js.kept {w0 : World} {f : Cf} {BL BV : Nat} {J : Nat → Int} {u u' : World} (h : Js w0 f BL BV J u) (hb : Below u.heap.size u u') : Js w0 f BL BV J u' := ⟨Below.next h.bl hb, h.bF.kept hb, h.bL.kept hb, h.bV.kept hb, h.ne⟩
theorem Js.to {w0 : World} {f : Cf} {BL BV : Nat} {J J' : Nat → Int} {u : World} (h : Js w0 f BL BV J u) (e : nvL J f.cd.len = nvL J' f.cd.len) : Js w0 f BL BV J' u := ⟨h.bl, h.bF, h.bL, by rw [← e]; exact h.bV, h.ne⟩
theorem Js.setV {w0 : World} {f : Cf} {BL BV : Nat} {J : Nat → Int} {p : Nat} {z : Int} {u u' : World} (h : Js w0 f BL BV J u) (W : WroteB u u' BV ((nvL J f.cd.len).set p (.int .i64 z)) 3) : Js w0 f BL BV (updI J p z) u' :=
  ⟨gb_bel h.bl W.gb (fun k e => by have := Option.some.inj e; have := h.ne; omega), h.bF.gb W.gb (fun e => by have := Option.some.inj e; have := h.ne; omega), h.bL.gb W.gb (fun e => by have := Option.some.inj e; have := h.ne; omega), by rw [← nvL_set]; exact W.blk, h.ne⟩
theorem updI_upd (J : Nat → Int) (p : Nat) (y z : Int) : updI (updI J p y) p z = updI J p z := by
  funext q; unfold updI; split <;> rfl
/-- Numbers of one's own, opened. -/
theorem Oi.open1 {w : World} {base : Nat} {ao : Option Addr} {L cap : Nat} {l : List Int} (h : Oi w base (.slice ao L cap) l) (hn : l.length ≠ 0) : ∃ g : Nat, ao = some ⟨g, 0, none⟩ ∧ L = l.length ∧ L ≤ cap ∧ base ≤ g ∧ ∀ i, i < l.length → w.cell? ⟨g, i, none⟩ = some (.int .i64 (l.getD i 0)) := by
  have h' := h
  obtain ⟨_, ⟨h1, h0⟩ | ⟨g, cap', cur, h1, h2, h3, h4, h5, h6, h7⟩⟩ := h
  · exact absurd h0 hn
  · injection h1 with e1 e2 e3
    subst e1; subst e2; subst e3
    refine ⟨g, rfl, rfl, h4, h2, fun i hi => ?_⟩
    have := World.ownsRow.cells h' (g := g) rfl i (.int .i64 (l.getD i 0)) (by simp [ivL, hi])
    rw [adp] at this
    simpa using this
theorem take_more {l : List Int} {k : Nat} (h : k < l.length) : l.take (k + 1) = l.take k ++ [l.getD k 0] := by
  rw [List.take_succ_eq_append_getElem h]
  simp [List.getD, h]
def JnP (f : Cf) (g : Rw Bool) (w : World) : Ending → World → Prop := fun e w' => ∃ B : Nat, e = .returned (.slice (some ⟨B, 0, none⟩) f.cd.len f.cd.len) ∧ w.heap.size < B ∧ Blk w' B (nvL (f.jn g) f.cd.len) 3 ∧ Below w.heap.size w w'

set_option maxRecDepth 100000 in
set_option maxHeartbeats 16000000 in
theorem joins_any (f : Cf) (g : Rw Bool) (w : World) (hf : f.At w) (hg : BlAt w g) (hA : Up f g) (hn : f.cd.len ≤ 100000) : Calls Try.prog 23 #[.agg f.vs.toArray, .slice g.ao g.len g.cap] w (JnP f g w) := by
  have hmf : ∀ (fn : Fn) (first cap : Array Value) (w : World), (Instr.makeFunc fn first cap).run Try.prog w = .ok (.func fn first cap) w := fun _ _ _ _ => rfl
  have H1 := hyd (Fb.new w f)
  have HD := hyd (show (f.At w ∧ BlAt w g) ∧ Up f g from ⟨⟨hf, hg⟩, hA⟩)
  clear hf hg hA
  generalize hw : w.alloc (.cells f.vs.toArray 30) = u1 at *
  go_enter Try.func23, Try.ntmps23
  go_upto_region 1 with fail
  clear hw
  have c14 := H1.out.b.cell 14 rfl
  have B1 := below_alloc u1 (.cells #[.int .i64 (-1)] 3)
  have c14' := (H1.out.b.kept B1).cell 14 rfl
  have hlt1 := H1.out.b.lt
  have h0 := repeat_any (-1) f.cd.len u1.heap.size (u1.alloc (.cells #[.int .i64 (-1)] 3)) ((Blk.new u1 [.int .i64 (-1)] 3).cell 0 rfl) hn
  go_wp2_with fail
  refine h0.mono ?_
  rintro _ u2 ⟨BV, rfl, hBV, hbV, hb⟩
  have H2 := hyd (show Below w.heap.size w u2 ∧ Blk u2 w.heap.size f.vs 30 ∧ Blk u2 BV (nvL (jnF f g f.cd.len) f.cd.len) 3 ∧ w.heap.size < BV ∧ BV < u2.heap.size from ⟨Below.next (Below.next H1.out.bl B1) hb, (H1.out.b.kept B1).kept hb, by rw [jnF_end, ← rpl_nvL]; exact hbV, by have := H1.out.b.lt; rw [alloc_size] at hBV; omega, hbV.lt⟩)
  clear h0 hBV hbV hb B1 c14 c14' hlt1 H1
  go_upto_region 2 with (refine wpList_store1 rfl 36 (.tmp 5) (.tmp 15) rfl rfl u2.heap.size 0 (.slice (some ⟨BV, 0, none⟩) f.cd.len f.cd.len) _ _ (by kernel_rfl) (by kernel_rfl) (store_one _ _ (by kernel_rfl) rfl rfl _ _) (Blk.new u2 [.slice none 0 0] 36) (by simp) ?_; intro w3 W3; have H3 : Hid (Js w f u2.heap.size BV (jnF f g f.cd.len) w3) := ⟨gb_bel (Below.next H2.out.1 (below_alloc u2 _)) W3.gb (fun k e => by have := Option.some.inj e; have := H2.out.2.2.2; omega), (H2.out.2.1.kept (below_alloc u2 _)).gb W3.gb (fun e => by have := Option.some.inj e; have := H2.out.2.2.2; omega), W3.blk, (H2.out.2.2.1.kept (below_alloc u2 _)).gb W3.gb (fun e => by have := Option.some.inj e; have := H2.out.2.2.2; omega), H2.out.2.2.2⟩; clear W3 H2)
  generalize u2.heap.size = BL at *
  have c14 := H3.out.bF.cell 14 rfl
  have e0 : IntKind.i64.wrap ((f.cd.len : Int) - 1) = (f.cd.len : Int) - 1 := by rw [IntKind.wrap_i64]; omega
  go_upto_block 0 with fail
  go_cut [7] (fun _ wx => Hid (Js w f BL BV (f.jn g) wx))
  case first =>
    clear c14
    go_wp2_with fail
    go_loopw [7] (fun i wr => ∃ (k : Nat), k ≤ f.cd.len ∧ i = .int .i64 ((k : Int) - 1) ∧ Js w f BL BV (jnF f g k) wr) (fun i _ => (intOf i + 1).toNat)
    case atStart => exact ⟨f.cd.len, Nat.le_refl _, by first | rfl | rw [e0], H3.out⟩
    case round =>
      clear H3 e0
      obtain ⟨k, hk, rfl, hB⟩ := hrel
      have HB := hyd hB
      clear hB
      rcases Nat.eq_zero_or_pos k with hk0 | hk0
      · subst hk0
        have ik : ¬ (0 : Int) ≤ ((0 : Nat) : Int) - 1 := by omega
        go_wp2
        go_meet
        case rel => exact HB.out.to (jnF_all f g)
      · obtain ⟨p, rfl⟩ : ∃ p, k = p + 1 := ⟨k - 1, by omega⟩
        rw [show ((p + 1 : Nat) : Int) - 1 = p by omega]
        have hp : p < f.cd.len := by omega
        have ip : (0 : Int) ≤ p := by omega
        have rF := HB.out.bF.range
        have h0 := ways_any f g p wr (Cf.At.kept HB.out.bl HD.out.1.1) (BlAt.kept HD.out.1.2 HB.out.bl) hp
        have hsm := lstm_small (n := f.cd.len) (P := f.way g p) hn
        have hsm2 : (f.ws g p).length ≤ f.cd.len := by unfold Cf.ws Cf.wsH; rw [List.length_map]; exact lst_len _ _
        have HWK : Hid (∀ b ∈ f.ws g p, ((p + 1 : Nat) : Int) ≤ b ∧ b < f.cd.len) := fun b hb => by
          obtain ⟨q, rfl, hq⟩ := ws_mem.1 hb
          have h1 := HD.out.2.up (show f.wy g p q from ⟨hp, hq⟩)
          have h2 := hq.1
          omega
        have HDD := hyd (fun h => jn_dead (f := f) (g := g) (a := p) hp h)
        have HDN := hyd (fun z h1 h2 h3 => Mw.done (lo := p + 1) (z := z) HD.out.2 hp h1 h2 h3)
        have HPN := hyd (show p < f.cd.len ∧ p + 1 ≤ f.cd.len from ⟨hp, hk⟩)
        have hle := leaves_any f g p
        clear hsm hk hk0
        generalize f.ws g p = l at *
        generalize f.lv g p = lb at *
        go_upto_region 7 with (refine wpList_load_mid rfl 30 (.tmp 2) rfl w.heap.size 0 (by kernel_rfl) f.vs _ rF Try.underlying30 rfl (by kernel_rfl) ?_)
        refine h0.mono ?_
        rintro _ w4 ⟨v4, rfl, hO, hb⟩
        obtain ⟨ao, cap, rfl⟩ := owform hO
        have H4 := hyd (show Js w f BL BV (jnF f g (p + 1)) w4 ∧ Oi w4 wr.heap.size (.slice ao l.length cap) l ∧ BL < wr.heap.size from ⟨HB.out.kept hb, hO, HB.out.bL.lt⟩)
        clear h0 hO hb HB rF
        generalize wr.heap.size = b4 at *
        by_cases hl0 : l.length = 0
        · have el : ((l.length : Int) == 0) = true := by simp [hl0]
          have HE := hyd (HDD.out (Or.inr hl0))
          clear HDD HDN HWK hl0 hle
          go_wp2
          go_roundw
          case rel => exact ⟨p, by have := HPN.out; omega, rfl, H4.out.1.to (jnF_same HE.out)⟩
          case measure => (simp [intOf] <;> omega)
        · have el : ((l.length : Int) == 0) = false := by simpa using hl0
          have HL0 := hyd hl0
          have rF := H4.out.1.bF.range
          have h0 := hle w4 (Cf.At.kept H4.out.1.bl HD.out.1.1) (BlAt.kept HD.out.1.2 H4.out.1.bl) hp
          clear hl0 hle
          go_wp2_with (refine wpList_loadW (by kernel_rfl) 30 (.tmp 2) rfl w.heap.size 0 (by kernel_rfl) f.vs _ rF Try.underlying30 rfl (by kernel_rfl) ?_)
          refine h0.mono ?_
          rintro _ w5 ⟨rfl, hb⟩
          have H5 := hyd (show Js w f BL BV (jnF f g (p + 1)) w5 ∧ Oi w5 b4 (.slice ao l.length cap) l ∧ BL < b4 from ⟨H4.out.1.kept hb, H4.out.2.1.kept hb, H4.out.2.2⟩)
          clear h0 hb rF H4
          cases lb
          · as_aux_lemma =>
            obtain ⟨gg, rfl, _, hcap, hgb, hcl⟩ := H5.out.2.1.open1 HL0.out
            have HG := hyd hgb
            have HLS := hyd (HWK.out (l.getD 0 0) (by rw [List.getD_eq_getElem?_getD, List.getElem?_eq_getElem (by have := HL0.out; omega)]; exact List.getElem_mem _))
            have HT1 : Hid (l.take 1 = [l.getD 0 0]) := by
              show _ = _
              rw [take_more (k := 0) (by have := HL0.out; omega)]; simp
            have cg0 := hcl 0 (by have := HL0.out; omega)
            clear hgb hcl HDD
            have HZG : Hid (∀ u, Oi u b4 (.slice (some ⟨gg, 0, none⟩) l.length cap) l → ∀ i, i < l.length → u.cell? ⟨gg, i, none⟩ = some (.int .i64 (l.getD i 0))) := fun u hu i hi => by
              obtain ⟨g', e, _, _, _, h⟩ := hu.open1 HL0.out
              injection e with e
              injection e with e
              subst e
              exact h i hi
            generalize l.getD 0 0 = z0 at *
            go_upto_region 8 with fail
            clear el
            have D5 := (Below.refl w5.heap.size w5).drew
            have HS5 := hyd (show Blk w5.drew BL [.slice (some ⟨BV, 0, none⟩) f.cd.len f.cd.len] 36 ∧ w5.drew.cell? ⟨gg, 0, none⟩ = some (.int .i64 z0) from ⟨H5.out.1.bL.kept D5, cg0⟩)
            have H6 := hyd (show Js w f BL BV (jnF f g (p + 1)) w5.drew ∧ Oi w5.drew b4 (.slice (some ⟨gg, 0, none⟩) l.length cap) l ∧ BL < b4 from ⟨H5.out.1.kept D5, H5.out.2.1.kept D5, H5.out.2.2⟩)
            have x1 : ∀ x : Wd (fun q => Blk q BL [.slice (some ⟨BV, 0, none⟩) f.cd.len f.cd.len] 36 ∧ q.cell? ⟨gg, 0, none⟩ = some (.int .i64 z0)), x.w.cell? ⟨BL, 0, none⟩ = some (.slice (some ⟨BV, 0, none⟩) f.cd.len f.cd.len) := fun x => x.2.1.cell 0 rfl
            have x2 : ∀ x : Wd (fun q => Blk q BL [.slice (some ⟨BV, 0, none⟩) f.cd.len f.cd.len] 36 ∧ q.cell? ⟨gg, 0, none⟩ = some (.int .i64 z0)), x.w.cell? ⟨gg, 0, none⟩ = some (.int .i64 z0) := fun x => x.2.2
            have hNE : Nonempty (Wd (fun q => Blk q BL [.slice (some ⟨BV, 0, none⟩) f.cd.len f.cd.len] 36 ∧ q.cell? ⟨gg, 0, none⟩ = some (.int .i64 z0))) := ⟨⟨_, HS5.out⟩⟩
            have i0 : (0 : Int) < l.length := by have := HL0.out; omega
            have i1 : (p : Int) < f.cd.len := by omega
            refine wp_region_readsL (fun q => Blk q BL [.slice (some ⟨BV, 0, none⟩) f.cd.len f.cd.len] 36 ∧ q.cell? ⟨gg, 0, none⟩ = some (.int .i64 z0)) 6 [0, 1, 2, 3, 4, 5] 1 (by kernel_rfl) rfl (by kernel_rfl) HS5.out ?_
            simp only [List.filterMap, List.getElem?_cons_zero, List.getElem?_cons_succ]
            iterate 6 go_big_quiet_step (fail)
            refine wpQuiet_nil ?_
            clear x1 x2 hNE D5 H5 cg0 HS5
            generalize w5.drew = y0 at *
            refine wpAnyL_ready (rs := [6]) (by kernel_rfl) (by simp) ?_
            refine AllReadyL.cons rfl (fun K hK => ?_) AllReadyL.nil
            rw [if_pos (by rfl)]
            refine wp_store1 3 (.tmp 43) (.tmp 42) rfl rfl BV p (.int .i64 z0) _ _ (by kernel_rfl) (by kernel_rfl) (store_one _ _ (by kernel_rfl) rfl rfl _ _) H6.out.1.bV (by rw [nvL_len]; omega) ?_
            intro w6 W6
            have H7 := hyd (show Js w f BL BV (updI (jnF f g (p + 1)) p z0) w6 ∧ Oi w6 b4 (.slice (some ⟨gg, 0, none⟩) l.length cap) l ∧ BL < b4 from ⟨H6.out.1.setV W6, own_gb H6.out.2.1 W6.gb (fun k e e2 => by have := (owb H6.out.2.1 e).1; have := Option.some.inj e2; have := H6.out.1.ne; have := H6.out.2.2; omega), H6.out.2.2⟩)
            refine hK.out _ _ (fun h => absurd rfl h) ?_
            clear hK K W6 H6
            refine wpAnyL_done (by kernel_rfl) ?_ _
            refine ⟨(fun c hc => by cases hc), ?_⟩
            go_upto_block 2 with fail
            have HAD : Hid (0 < l.length - 1 → (if cap = 1 then (some ⟨gg, 0, none⟩ : Option Addr) else some ⟨gg, 1, none⟩) = some ⟨gg, 1, none⟩) := fun h => by rw [if_neg (by omega)]
            have HL1 := hyd (show l.length - 1 + 1 = l.length by have := HL0.out; omega)
            have HM0 : Hid (Mw f g (p + 1) (l.take (0 + 1)) z0) := by
              show Mw _ _ _ _ _
              rw [Nat.zero_add, HT1.out]
              exact Mw.one HLS.out
            generalize (if cap = 1 then (some ⟨gg, 0, none⟩ : Option Addr) else some ⟨gg, 1, none⟩) = ad at *
            have hL1b : l.length - 1 ≤ 100000 := by omega
            generalize l.length - 1 = L1 at *
            go_wp2
            go_loopw [47] (fun i wr => ∃ (k : Nat) (z : Int), k ≤ L1 ∧ i = .int .i64 k ∧ (Js w f BL BV (updI (jnF f g (p + 1)) p z) wr ∧ Oi wr b4 (.slice (some ⟨gg, 0, none⟩) l.length cap) l) ∧ Mw f g (p + 1) (l.take (k + 1)) z) (fun i _ => L1 - (intOf i).toNat)
            case atStart => exact ⟨0, z0, Nat.zero_le _, rfl, ⟨H7.out.1, H7.out.2.1⟩, HM0.out⟩
            case round =>
              have HBL := hyd H7.out.2.2
              clear H7 HM0 HT1 HLS
              obtain ⟨k, z, hk, rfl, hS, hM⟩ := hrel
              have HS := hyd hS
              have HM := hyd hM
              clear hS hM
              by_cases hlt : k < L1
              · as_aux_lemma =>
                have ik : (k : Int) < L1 := by omega
                have hkl : k + 1 < l.length := by have := HL1.out; omega
                have cz := HZG.out wr HS.out.2 (k + 1) hkl
                rw [Nat.add_comm k 1] at cz
                have HWB := hyd (HWK.out (l.getD (1 + k) 0) (by rw [List.getD_eq_getElem?_getD, List.getElem?_eq_getElem (by omega)]; exact List.getElem_mem _))
                have HTK : Hid (l.take (k + 1 + 1) = l.take (k + 1) ++ [l.getD (1 + k) 0]) := by
                  show _ = _
                  rw [take_more hkl, Nat.add_comm 1 k]
                rw [HAD.out (by omega)]
                generalize l.getD (1 + k) 0 = b at *
                go_upto_region 12 with fail
                clear cz
                have cV := HS.out.1.bV.cell p (nvL_get (updI (jnF f g (p + 1)) p z) hp)
                rw [show updI (jnF f g (p + 1)) p z p = z by unfold updI; rw [if_pos rfl]] at cV
                have HJK := hyd (jnF_known f g p z)
                have HUU := hyd (fun z' => updI_upd (jnF f g (p + 1)) p z z')
                have HJP : Hid (updI (jnF f g (p + 1)) p z p = z) := by show _ = _; unfold updI; rw [if_pos rfl]
                generalize updI (jnF f g (p + 1)) p z = J at *
                have DW := (Below.refl wr.heap.size wr).drew
                have HS5 := hyd (show Blk wr.drew BL [.slice (some ⟨BV, 0, none⟩) f.cd.len f.cd.len] 36 ∧ wr.drew.cell? ⟨BV, p, none⟩ = some (.int .i64 z) from ⟨HS.out.1.bL.kept DW, cV⟩)
                have H6 := hyd (show Js w f BL BV J wr.drew ∧ Oi wr.drew b4 (.slice (some ⟨gg, 0, none⟩) l.length cap) l from ⟨HS.out.1.kept DW, HS.out.2.kept DW⟩)
                have x1 : ∀ x : Wd (fun q => Blk q BL [.slice (some ⟨BV, 0, none⟩) f.cd.len f.cd.len] 36 ∧ q.cell? ⟨BV, p, none⟩ = some (.int .i64 z)), x.w.cell? ⟨BL, 0, none⟩ = some (.slice (some ⟨BV, 0, none⟩) f.cd.len f.cd.len) := fun x => x.2.1.cell 0 rfl
                have x2 : ∀ x : Wd (fun q => Blk q BL [.slice (some ⟨BV, 0, none⟩) f.cd.len f.cd.len] 36 ∧ q.cell? ⟨BV, p, none⟩ = some (.int .i64 z)), x.w.cell? ⟨BV, p, none⟩ = some (.int .i64 z) := fun x => x.2.2
                have hNE : Nonempty (Wd (fun q => Blk q BL [.slice (some ⟨BV, 0, none⟩) f.cd.len f.cd.len] 36 ∧ q.cell? ⟨BV, p, none⟩ = some (.int .i64 z))) := ⟨⟨_, HS5.out⟩⟩
                have i1 : (p : Int) < f.cd.len := by omega
                refine wp_region_readsL (fun q => Blk q BL [.slice (some ⟨BV, 0, none⟩) f.cd.len f.cd.len] 36 ∧ q.cell? ⟨BV, p, none⟩ = some (.int .i64 z)) 10 [0, 1, 2, 3, 4, 5, 6, 7] 3 (by kernel_rfl) rfl (by kernel_rfl) HS5.out ?_
                simp only [List.filterMap, List.getElem?_cons_zero, List.getElem?_cons_succ]
                iterate 8 go_big_quiet_step (fail)
                refine wpQuiet_nil ?_
                clear x1 x2 hNE DW cV HS5
                have hge := hyd (show Oi wr b4 (.slice (some ⟨gg, 0, none⟩) l.length cap) l from HS.out.2)
                clear HS hge
                generalize wr.drew = y0 at *
                refine wpAnyL_ready (rs := [8]) (by kernel_rfl) (by simp) ?_
                refine AllReadyL.cons rfl (fun K hK => ?_) AllReadyL.nil
                rw [if_pos (by rfl)]
                go_simp
                refine (joinsMeet_any f g (p + 1) BL BV J z b y0 HD.out.2 HJK.out H6.out.1.bL H6.out.1.bV HM.out.inz (Or.inr HWB.out)).mono ?_
                rintro _ y1 ⟨z', rfl, hz', hb⟩
                have HZ := hyd (HM.out.more hz')
                have H7 := hyd (show Js w f BL BV J y1 ∧ Oi y1 b4 (.slice (some ⟨gg, 0, none⟩) l.length cap) l from ⟨H6.out.1.kept hb, H6.out.2.kept hb⟩)
                have H7c : Hid (y1.cell? ⟨BV, p, none⟩ = some (.int .i64 z)) := by
                  have := H7.out.1.bV.cell p (nvL_get J hp)
                  rw [HJP.out] at this
                  exact this
                clear hz' hb H6 HM
                refine hK.out _ _ (fun _ => ⟨H7.out.1.bL, H7c.out⟩) ?_
                clear hK K
                refine wpAnyL_ready (rs := [9]) (by kernel_rfl) (by simp) ?_
                refine AllReadyL.cons rfl (fun K hK => ?_) AllReadyL.nil
                rw [if_pos (by rfl)]
                go_simp
                refine hK.out _ _ (fun _ => ⟨H7.out.1.bL, H7c.out⟩) ?_
                clear hK K
                refine wpAnyL_ready (rs := [10]) (by kernel_rfl) (by simp) ?_
                refine AllReadyL.cons rfl (fun K hK => ?_) AllReadyL.nil
                rw [if_pos (by rfl)]
                refine wp_store1 3 (.tmp 60) (.tmp 59) rfl rfl BV p (.int .i64 z') _ _ (by kernel_rfl) (by kernel_rfl) (store_one _ _ (by kernel_rfl) rfl rfl _ _) H7.out.1.bV (by rw [nvL_len]; omega) ?_
                intro w8 W8
                have H8 := hyd (show Js w f BL BV (updI (jnF f g (p + 1)) p z') w8 ∧ Oi w8 b4 (.slice (some ⟨gg, 0, none⟩) l.length cap) l from ⟨by rw [← HUU.out]; exact H7.out.1.setV W8, own_gb H7.out.2 W8.gb (fun k e e2 => by have := (owb H7.out.2 e).1; have := Option.some.inj e2; have := H7.out.1.ne; have := HBL.out; omega)⟩)
                have HM8 : Hid (Mw f g (p + 1) (l.take (k + 1 + 1)) z') := by
                  show Mw _ _ _ _ _
                  rw [HTK.out]
                  exact HZ.out
                refine hK.out _ _ (fun h => absurd rfl h) ?_
                clear hK K W8 H7 H7c HZ HTK HUU HJP HJK
                refine wpAnyL_done (by kernel_rfl) ?_ _
                refine ⟨(fun c hc => by cases hc), ?_⟩
                go_wp2
                go_roundw
                case rel => exact ⟨k + 1, z', by omega, by go_num, H8.out, HM8.out⟩
                case measure => simp [intOf]; omega
              · have ik : ¬ (k : Int) < L1 := by omega
                have HE : Hid (f.jn g p = z) := by
                  have h1 := HM.out
                  rw [List.take_of_length_le (by have := HL1.out; omega)] at h1
                  exact HDN.out z (by simp) HL0.out h1
                have H8 := hyd HS.out.1
                clear HS HM HAD HL1 HZG HG HWK HDN
                go_wp2
                go_roundw
                case rel => exact ⟨p, by have := HPN.out; omega, rfl, H8.out.to (jnF_up HE.out)⟩
                case measure => (simp [intOf] <;> omega)
          · have HE := hyd (HDD.out (Or.inl rfl))
            clear HDD HDN HWK
            go_wp2
            go_roundw
            case rel => exact ⟨p, by have := HPN.out; omega, rfl, H5.out.1.to (jnF_same HE.out)⟩
            case measure => (simp [intOf] <;> omega)
  case rest =>
  have H4 := hyd hcut.out
  clear hcut H3 c14 e0
  have c5 := H4.out.bL.cell 0 rfl
  go_wp2
  go_ret
  exact ⟨BV, rfl, H4.out.ne.1, H4.out.bV, H4.out.bl⟩
end Go.Proofs.Ytibhcbdofadamaa

/- Layer 16: a function with those handlers alone that take something: the mathematics. -/
namespace Go.Proofs.Ytibhcbdofadamaa
open Go Go.RowKit

/-- It has the same code, and the same handlers of what raises. -/
structure Ln (f : Cf) (g : Rw Bool) (l : Cf) : Prop where
  cd : l.cd = f.cd
  han : ∀ p : Nat, p < f.cd.len → f.rs g p = true → l.han p = f.han p
theorem Ln.rs {f l : Cf} {g : Rw Bool} (h : Ln f g l) (p : Nat) : l.rs g p = f.rs g p := by unfold Cf.rs; rw [h.cd]
theorem Ln.br {f l : Cf} {g : Rw Bool} (h : Ln f g l) (p : Nat) : l.br g p = f.br g p := by unfold Cf.br; rw [h.cd, h.rs]
theorem Ln.lv {f l : Cf} {g : Rw Bool} (h : Ln f g l) {p : Nat} (hp : p < f.cd.len) : l.lv g p = f.lv g p := by
  unfold Cf.lv
  rw [h.cd, h.rs]
  cases e : f.rs g p
  · rfl
  · rw [h.han p hp e]
theorem Ln.way {f l : Cf} {g : Rw Bool} (h : Ln f g l) {p : Nat} (hp : p < f.cd.len) : l.way g p = f.way g p := by
  funext q; apply propext
  unfold Cf.way Cf.wayH
  rw [h.cd, h.rs]
  cases e : f.rs g p
  · simp
  · rw [h.han p hp e]
theorem Ln.ws {f l : Cf} {g : Rw Bool} (h : Ln f g l) {p : Nat} (hp : p < f.cd.len) : l.ws g p = f.ws g p := by
  have e : l.wayH g (l.han p) p = f.wayH g (f.han p) p := h.way hp
  unfold Cf.ws Cf.wsH
  rw [e, h.cd]
theorem Ln.wy {f l : Cf} {g : Rw Bool} (h : Ln f g l) : l.wy g = f.wy g := by
  funext p q; apply propext
  unfold Cf.wy
  rw [h.cd]
  constructor
  · rintro ⟨h1, h2⟩; exact ⟨h1, by rw [← h.way h1]; exact h2⟩
  · rintro ⟨h1, h2⟩; exact ⟨h1, by rw [h.way h1]; exact h2⟩
theorem Ln.up {f l : Cf} {g : Rw Bool} (h : Ln f g l) (hA : Up f g) : Up l g := by unfold Up; rw [h.cd, h.wy]; exact hA
theorem Ln.rch {f l : Cf} {g : Rw Bool} {r : Rw Int} {s : Int} (h : Ln f g l) : l.rch g r s = f.rch g r s := by
  unfold Cf.rch
  rw [h.cd]
  congr 1
  apply Fl.lst_congr
  intro q _
  rw [rch_wy (f := f) (fun _ h => h.2), ← h.wy, ← rch_wy (f := l) (fun p hp => by rw [h.cd]; exact hp.2)]
theorem Ln.alive {f l : Cf} {g : Rw Bool} (h : Ln f g l) (p : Nat) : Fl.Alive (l.wy g) (l.lvP g) p ↔ Fl.Alive (f.wy g) (f.lvP g) p := by
  unfold Fl.Alive Cf.lvP
  rw [h.wy]
  constructor
  · rintro ⟨h1, q, h2⟩; exact ⟨by rw [← h.lv h2.1]; exact h1, q, h2⟩
  · rintro ⟨h1, q, h2⟩; exact ⟨by rw [h.lv h2.1]; exact h1, q, h2⟩
theorem Ln.jp {f l : Cf} {g : Rw Bool} (h : Ln f g l) (a j : Nat) : l.Jp g a j ↔ f.Jp g a j := by
  unfold Cf.Jp Fl.Jn
  have e := h.wy
  constructor
  · rintro ⟨h1, h2⟩; exact ⟨(h.alive a).1 h1, fun p hp => (h.alive p).1 (h2 p (by rw [e]; exact hp))⟩
  · rintro ⟨h1, h2⟩; exact ⟨(h.alive a).2 h1, fun p hp => (h.alive p).2 (h2 p (by rw [e] at hp; exact hp))⟩
theorem Ln.jn {f l : Cf} {g : Rw Bool} (h : Ln f g l) (a : Nat) : l.jn g a = f.jn g a := by
  rcases Cf.jn_cases f g a with ⟨e, h1⟩ | ⟨j, e, h1⟩
  · rw [e, Cf.jn_none (fun j hj => h1 j ((h.jp a j).1 hj))]
  · rw [e]
    exact Cf.jn_of ⟨(h.jp a j).2 h1.1, fun i hi => h1.2 i ((h.jp a i).1 hi)⟩
theorem Ln.pl {f l : Cf} {g : Rw Bool} (h : Ln f g l) (a : Int) : l.pl a = f.pl a := by unfold Cf.pl; rw [h.cd]
theorem Ln.wsI {f l : Cf} {g : Rw Bool} (h : Ln f g l) (a : Int) : l.wsI g a = f.wsI g a := by
  unfold Cf.wsI
  rw [h.pl]
  by_cases e : f.pl a = true
  · rw [if_pos e, if_pos e, h.ws (by have := Cf.pl_iff.1 e; omega)]
  · rw [if_neg e, if_neg e]
theorem Ln.lvI {f l : Cf} {g : Rw Bool} (h : Ln f g l) (a : Int) : l.lvI g a = f.lvI g a := by
  unfold Cf.lvI
  rw [h.pl]
  cases e : f.pl a
  · rfl
  · rw [h.lv (by have := Cf.pl_iff.1 e; omega)]

/-! Which handlers are kept. -/
def hitH (h : Hn) (p : Int) : Bool := decide (h.fr ≤ p) && decide (p < h.to)
def fndH (F : Nat → Hn) (m : Nat) (p : Int) : Option Int := ((List.range m).find? fun i => hitH (F i) p).map fun i => (F i).at_
theorem fndH_zero (F : Nat → Hn) (p : Int) : fndH F 0 p = none := rfl
theorem fndH_succ (F : Nat → Hn) (m : Nat) (p : Int) : fndH F (m + 1) p = match fndH F m p with | some a => some a | none => if hitH (F m) p = true then some (F m).at_ else none := by
  unfold fndH
  rw [List.range_succ, List.find?_append]
  cases (List.range m).find? fun i => hitH (F i) p with
  | some i => rfl
  | none =>
    simp only [Option.none_or, Option.map_none]
    cases hh : hitH (F m) p <;> simp [hh]
theorem han_fnd (f : Cf) (p : Int) : f.han p = (fndH f.hd.x f.hd.len p).getD (-1) := by
  unfold Cf.han fndH
  show (match (List.range f.hd.len).find? (fun i => hitH (f.hd.x i) p) with | some i => (f.hd.x i).at_ | none => -1) = _
  cases (List.range f.hd.len).find? (fun i => hitH (f.hd.x i) p) <;> rfl
def updH (F : Nat → Hn) (m : Nat) (h : Hn) : Nat → Hn := fun i => if i < m then F i else h
theorem fndH_upd (F : Nat → Hn) (m : Nat) (h : Hn) (p : Int) : ∀ k, k ≤ m → fndH (updH F m h) k p = fndH F k p
  | 0, _ => rfl
  | k + 1, hk => by
    rw [fndH_succ, fndH_succ, fndH_upd F m h p k (by omega)]
    have : updH F m h k = F k := by unfold updH; rw [if_pos (by omega)]
    rw [this]
/-- Of the first i handlers those m are kept. -/
def LnI (f : Cf) (g : Rw Bool) (i m : Nat) (F : Nat → Hn) : Prop := ∀ p : Nat, p < f.cd.len → f.rs g p = true → fndH F m p = fndH f.hd.x i p
theorem LnI.start (f : Cf) (g : Rw Bool) (F : Nat → Hn) : LnI f g 0 0 F := fun _ _ _ => rfl
theorem LnI.keep {f : Cf} {g : Rw Bool} {i m : Nat} {F : Nat → Hn} (h : LnI f g i m F) : LnI f g (i + 1) (m + 1) (updH F m (f.hd.x i)) := fun p hp hr => by
  rw [fndH_succ, fndH_succ, fndH_upd F m _ _ m (Nat.le_refl _), h p hp hr]
  have : updH F m (f.hd.x i) m = f.hd.x i := by unfold updH; rw [if_neg (by omega)]
  rw [this]
/-- The places that raise and have none of the first i handlers. -/
def Cf.opn (f : Cf) (g : Rw Bool) (i : Nat) (p : Nat) : Bool := f.rs g p && (fndH f.hd.x i p).isNone
theorem opn_zero (f : Cf) (g : Rw Bool) : f.opn g 0 = f.rs g := by funext p; unfold Cf.opn; rw [fndH_zero]; simp
theorem opn_succ (f : Cf) (g : Rw Bool) (i p : Nat) : f.opn g (i + 1) p = (f.opn g i p && !hitH (f.hd.x i) p) := by
  unfold Cf.opn
  rw [fndH_succ]
  cases fndH f.hd.x i p with
  | some a => simp
  | none => cases hitH (f.hd.x i) p <;> simp
theorem LnI.skip {f : Cf} {g : Rw Bool} {i m : Nat} {F : Nat → Hn} (h : LnI f g i m F) (hn : ∀ p : Nat, p < f.cd.len → f.opn g i p = true → hitH (f.hd.x i) p = false) : LnI f g (i + 1) m F := fun p hp hr => by
  rw [h p hp hr, fndH_succ]
  cases e : fndH f.hd.x i p with
  | some a => rfl
  | none =>
    have := hn p hp (by unfold Cf.opn; rw [hr, e]; rfl)
    simp [this]
theorem LnI.done {f l : Cf} {g : Rw Bool} {m : Nat} {F : Nat → Hn} (h : LnI f g f.hd.len m F) (hcd : l.cd = f.cd) (hm : l.hd.len = m) (hx : l.hd.x = F) : Ln f g l := ⟨hcd, fun p hp hr => by rw [han_fnd, han_fnd, hm, hx, h p hp hr]⟩

/-! Rising lists, searched. -/
theorem take_cnt (x : Int) : ∀ l : List Int, l.Pairwise (· < ·) → l.take (l.countP fun a => decide (a < x)) = l.filter fun a => decide (a < x)
  | [], _ => rfl
  | a :: l, h => by
    rw [List.pairwise_cons] at h
    by_cases c : a < x
    · rw [List.countP_cons_of_pos (by simpa using c), List.take_succ_cons, take_cnt x l h.2, List.filter_cons_of_pos (by simpa using c)]
    · have h0 : l.countP (fun a => decide (a < x)) = 0 := by
        rw [List.countP_eq_zero]
        intro b hb
        have := h.1 b hb
        simp; omega
      have h1 : l.filter (fun a => decide (a < x)) = [] := by
        rw [List.filter_eq_nil_iff]
        intro b hb
        have := h.1 b hb
        simp; omega
      rw [List.countP_cons_of_neg (by simpa using c), h0, List.filter_cons_of_neg (by simpa using c), h1]
      rfl
theorem drop_cnt (x : Int) : ∀ l : List Int, l.Pairwise (· < ·) → l.drop (l.countP fun a => decide (a < x)) = l.filter fun a => decide (x ≤ a)
  | [], _ => rfl
  | a :: l, h => by
    rw [List.pairwise_cons] at h
    by_cases c : a < x
    · rw [List.countP_cons_of_pos (by simpa using c), List.drop_succ_cons, drop_cnt x l h.2, List.filter_cons_of_neg (by simp; omega)]
    · have h0 : l.countP (fun a => decide (a < x)) = 0 := by
        rw [List.countP_eq_zero]
        intro b hb
        have := h.1 b hb
        simp; omega
      have h1 : (a :: l).filter (fun a => decide (x ≤ a)) = a :: l := by
        rw [List.filter_eq_self]
        intro b hb
        rcases List.mem_cons.1 hb with e | e
        · simp; omega
        · have := h.1 b e; simp; omega
      rw [List.countP_cons_of_neg (by simpa using c), h0, h1]
      rfl
theorem cut_list {x y : Int} (hxy : x ≤ y) : ∀ l : List Int, l.Pairwise (· < ·) → (l.filter fun a => decide (a < x)) ++ (l.filter fun a => decide (y ≤ a)) = l.filter fun a => !(decide (x ≤ a) && decide (a < y))
  | [], _ => rfl
  | a :: l, h => by
    rw [List.pairwise_cons] at h
    have ih := cut_list hxy l h.2
    by_cases c : a < x
    · rw [List.filter_cons_of_pos (by simpa using c), List.filter_cons_of_neg (by simp; omega), List.filter_cons_of_pos (by simp; omega), ← ih]
      rfl
    · have h1 : l.filter (fun a => decide (a < x)) = [] := by
        rw [List.filter_eq_nil_iff]
        intro b hb
        have := h.1 b hb
        simp; omega
      rw [h1, List.nil_append] at ih
      rw [List.filter_cons_of_neg (by simpa using c), h1, List.nil_append]
      by_cases d : a < y
      · rw [List.filter_cons_of_neg (by simp; omega), List.filter_cons_of_neg (by simp; omega), ih]
      · rw [List.filter_cons_of_pos (by simp; omega), List.filter_cons_of_pos (by simp; omega), ih]
theorem cnt_mono {x y : Int} (hxy : x ≤ y) (l : List Int) : (l.countP fun a => decide (a < x)) ≤ l.countP fun a => decide (a < y) := List.countP_mono_left (fun a _ h => by simp at h ⊢; omega)
theorem cnt_hit {x y : Int} : ∀ l : List Int, ¬ (l.countP fun a => decide (a < x)) < (l.countP fun a => decide (a < y)) → ∀ a ∈ l, (decide (x ≤ a) && decide (a < y)) = false
  | [], _, _, h => by cases h
  | b :: l, hn, a, ha => by
    rcases Int.lt_or_le x y with hxy | hxy
    · have hm := cnt_mono (Int.le_of_lt hxy) l
      by_cases c : b < x
      · rw [List.countP_cons_of_pos (by simpa using c), List.countP_cons_of_pos (by simp; omega)] at hn
        rcases List.mem_cons.1 ha with e | e
        · subst e; simp; omega
        · exact cnt_hit l (by omega) a e
      · rw [List.countP_cons_of_neg (by simpa using c)] at hn
        by_cases d : b < y
        · rw [List.countP_cons_of_pos (by simpa using d)] at hn
          omega
        · rw [List.countP_cons_of_neg (by simpa using d)] at hn
          rcases List.mem_cons.1 ha with e | e
          · subst e; simp; omega
          · exact cnt_hit l hn a e
    · simp; omega
theorem cnt_lt {x y : Int} {l : List Int} (h : (l.countP fun a => decide (a < x)) < (l.countP fun a => decide (a < y))) : x ≤ y := by
  rcases Int.lt_or_le y x with e | e
  · have := cnt_mono (Int.le_of_lt e) l
    omega
  · exact e
theorem trM_rising (m : Nat → Bool) (n : Nat) : (trM m n).Pairwise (· < ·) := by
  unfold trM
  rw [List.pairwise_map]
  exact (List.Pairwise.filter _ List.pairwise_lt_range).imp (by intro a b h; omega)
theorem trM_filter (m : Nat → Bool) (n : Nat) (q : Int → Bool) : (trM m n).filter q = trM (fun p => m p && q p) n := by
  unfold trM
  rw [List.filter_map, List.filter_filter]
  congr 1
  apply List.filter_congr
  intro p _
  simp [Bool.and_comm]
theorem trM_mem {m : Nat → Bool} {n : Nat} {a : Int} : a ∈ trM m n ↔ ∃ p : Nat, a = p ∧ p < n ∧ m p = true := by
  unfold trM
  rw [List.mem_map]
  constructor
  · rintro ⟨p, hp, rfl⟩
    rw [List.mem_filter, List.mem_range] at hp
    exact ⟨p, rfl, hp⟩
  · rintro ⟨p, rfl, h1, h2⟩
    exact ⟨p, List.mem_filter.2 ⟨List.mem_range.2 h1, h2⟩, rfl⟩
/-- The list, cut. -/
theorem opn_cut {f : Cf} {g : Rw Bool} {i : Nat} (h : ((trM (f.opn g i) f.cd.len).countP fun a => decide (a < (f.hd.x i).fr)) < ((trM (f.opn g i) f.cd.len).countP fun a => decide (a < (f.hd.x i).to))) :
    (trM (f.opn g i) f.cd.len).take ((trM (f.opn g i) f.cd.len).countP fun a => decide (a < (f.hd.x i).fr)) ++ (trM (f.opn g i) f.cd.len).drop ((trM (f.opn g i) f.cd.len).countP fun a => decide (a < (f.hd.x i).to)) = trM (f.opn g (i + 1)) f.cd.len := by
  rw [take_cnt _ _ (trM_rising _ _), drop_cnt _ _ (trM_rising _ _), cut_list (cnt_lt h) _ (trM_rising _ _), trM_filter]
  congr 1
  funext p
  rw [opn_succ]
  rfl
theorem opn_skip {f : Cf} {g : Rw Bool} {i : Nat} (h : ¬ ((trM (f.opn g i) f.cd.len).countP fun a => decide (a < (f.hd.x i).fr)) < ((trM (f.opn g i) f.cd.len).countP fun a => decide (a < (f.hd.x i).to))) :
    (∀ p : Nat, p < f.cd.len → f.opn g i p = true → hitH (f.hd.x i) p = false) ∧ trM (f.opn g (i + 1)) f.cd.len = trM (f.opn g i) f.cd.len := by
  have key : ∀ p : Nat, p < f.cd.len → f.opn g i p = true → hitH (f.hd.x i) p = false := fun p hp ho => cnt_hit _ h p (trM_mem.2 ⟨p, rfl, hp, ho⟩)
  refine ⟨key, ?_⟩
  unfold trM
  congr 1
  apply List.filter_congr
  intro p hp
  rw [opn_succ]
  cases e : f.opn g i p
  · rfl
  · rw [key p (List.mem_range.1 hp) e]; rfl
end Go.Proofs.Ytibhcbdofadamaa
