/- Layer 16: Holds. -/
import Derived.Test.YtibhcbdofadamaaP20
import Derived.Test.YtibhcbdofadamaaP15
import Derived.Test.YtibhcbdofadamaaP12
namespace Go.Proofs.Ytibhcbdofadamaa
open Go Go.RowKit

/-- It is none of the function's. -/
def badB (f : Cf) (x : Rn) : Bool := !f.pl x.at_ || (decide (x.join ≠ -1) && !f.pl x.join)
def hldB (x : Rn) (p : Nat) : Bool := decide ((p : Int) ∈ x.ps.ls)
theorem sty_iff {f : Cf} {g : Rw Bool} {x : Rn} {p : Nat} (hp : p < f.cd.len) : styB f g x.join (hldB x) p = true ↔ f.wit g x p := by
  unfold styB
  rw [decide_eq_true_iff, wit_place hp]
  constructor
  · intro h q hq
    rcases h q (ws_mem.2 ⟨q, rfl, hq.2⟩) with h1 | h1
    · right; unfold hldB at h1; simpa using h1
    · exact Or.inl h1
  · intro h b hb
    obtain ⟨q, rfl, hq⟩ := ws_mem.1 hb
    rcases h q ⟨hp, hq⟩ with h1 | h1
    · exact Or.inr h1
    · left; unfold hldB; simpa using h1
theorem pl_nat {f : Cf} {a : Int} (h : f.pl a = true) : ∃ p : Nat, a = p ∧ p < f.cd.len := by
  have := Cf.pl_iff.1 h
  exact ⟨a.toNat, by omega, by omega⟩
theorem wit_no {f : Cf} {g : Rw Bool} {x : Rn} {a : Int} (h : f.pl a = false) : f.wit g x a := by
  unfold Cf.wit Cf.wsI
  rw [if_neg (by rw [h]; simp)]
  intro b hb; cases hb
theorem eh_sty {f : Cf} {g : Rw Bool} {x : Rn} : ehB (hldB x) (styB f g x.join (hldB x)) f.cd.len = true ↔ ¬ ∃ i, i < x.ps.len ∧ ¬ f.wit g x (x.ps.x i) := by
  unfold ehB
  rw [decide_eq_true_iff]
  constructor
  · rintro h ⟨i, hi, hw⟩
    cases e : f.pl (x.ps.x i)
    · exact hw (wit_no e)
    · obtain ⟨p, e1, hp⟩ := pl_nat e
      rw [e1] at hw
      refine hw ((sty_iff hp).1 (h p hp ?_))
      unfold hldB
      rw [decide_eq_true_iff, ← e1]
      exact Rw.mem_ls.2 ⟨i, hi, rfl⟩
  · intro h p hp hm
    unfold hldB at hm
    rw [decide_eq_true_iff] at hm
    obtain ⟨i, hi, e⟩ := Rw.mem_ls.1 hm
    rw [sty_iff hp]
    by_cases c : f.wit g x p
    · exact c
    · exact absurd ⟨i, hi, by rw [e]; exact c⟩ h
theorem eh_rem {f : Cf} {g : Rw Bool} {x : Rn} (hj : x.join ≠ -1) : ehB (hldB x) (remB f g x.join) f.cd.len = true ↔ ¬ ∃ i, i < x.ps.len ∧ f.lvI g (x.ps.x i) = true := by
  unfold ehB
  rw [decide_eq_true_iff]
  have hr : ∀ p, remB f g x.join p = !f.lv g p := fun p => by unfold remB; rw [decide_eq_false hj]; rfl
  constructor
  · rintro h ⟨i, hi, hw⟩
    cases e : f.pl (x.ps.x i)
    · unfold Cf.lvI at hw; rw [e] at hw; cases hw
    · obtain ⟨p, e1, hp⟩ := pl_nat e
      rw [e1, lvI_place hp] at hw
      have h2 := h p hp (by unfold hldB; rw [decide_eq_true_iff, ← e1]; exact Rw.mem_ls.2 ⟨i, hi, rfl⟩)
      rw [hr, hw] at h2; cases h2
  · intro h p hp hm
    unfold hldB at hm
    rw [decide_eq_true_iff] at hm
    obtain ⟨i, hi, e⟩ := Rw.mem_ls.1 hm
    rw [hr]
    cases c : f.lv g p
    · rfl
    · exact absurd ⟨i, hi, by rw [e, lvI_place hp]; exact c⟩ h
theorem eh_none {f : Cf} {g : Rw Bool} {x : Rn} {p : Nat} (hj : x.join = -1) : remB f g x.join p = true ∧ ehB (hldB x) (remB f g x.join) f.cd.len = true := by
  have hr : ∀ p, remB f g x.join p = true := fun p => by unfold remB; rw [decide_eq_true hj]; rfl
  refine ⟨hr p, ?_⟩
  unfold ehB
  rw [decide_eq_true_iff]
  exact fun p _ _ => hr p
theorem bad_iff {f : Cf} {x : Rn} : badB f x = true ↔ f.pl x.at_ = false ∨ (x.join ≠ -1 ∧ f.pl x.join = false) := by
  unfold badB
  simp
/-- What Holds asks, one behind the other. -/
theorem hold_bad {f : Cf} {g : Rw Bool} {x : Rn} (h : badB f x = true) : f.hold g x = -1 := by
  unfold Cf.hold
  rw [if_pos (bad_iff.1 h)]
theorem hold_one {f : Cf} {g : Rw Bool} {x : Rn} {p : Nat} (h : badB f x = false) (ha : x.at_ = p) (hp : p < f.cd.len) (h1 : styB f g x.join (hldB x) p = false) : f.hold g x = 1 := by
  unfold Cf.hold
  rw [if_neg (fun k => by rw [bad_iff.2 k] at h; cases h), if_pos (fun k => by rw [ha] at k; rw [(sty_iff hp).2 k] at h1; cases h1)]
theorem hold_two {f : Cf} {g : Rw Bool} {x : Rn} {p : Nat} (h : badB f x = false) (ha : x.at_ = p) (hp : p < f.cd.len) (h1 : styB f g x.join (hldB x) p = true) (h2 : ehB (hldB x) (styB f g x.join (hldB x)) f.cd.len = false) : f.hold g x = 2 := by
  unfold Cf.hold
  rw [if_neg (fun k => by rw [bad_iff.2 k] at h; cases h), if_neg (fun k => k (by rw [ha]; exact (sty_iff hp).1 h1)), if_pos]
  by_cases c : ∃ i, i < x.ps.len ∧ ¬ f.wit g x (x.ps.x i)
  · exact c
  · rw [eh_sty.2 c] at h2; cases h2
theorem hold_end {f : Cf} {g : Rw Bool} {x : Rn} {p : Nat} (h : badB f x = false) (ha : x.at_ = p) (hp : p < f.cd.len) (h1 : styB f g x.join (hldB x) p = true) (h2 : ehB (hldB x) (styB f g x.join (hldB x)) f.cd.len = true) :
    (remB f g x.join p = true → ehB (hldB x) (remB f g x.join) f.cd.len = true → f.hold g x = 0) ∧ (remB f g x.join p = false ∨ ehB (hldB x) (remB f g x.join) f.cd.len = false → f.hold g x = 3) := by
  unfold Cf.hold
  rw [if_neg (fun k => by rw [bad_iff.2 k] at h; cases h), if_neg (fun k => k (by rw [ha]; exact (sty_iff hp).1 h1)), if_neg (eh_sty.1 h2)]
  by_cases hj : x.join = -1
  · rw [if_pos hj]
    have := eh_none (f := f) (g := g) (p := p) hj
    refine ⟨fun _ _ => rfl, ?_⟩
    rintro (k | k)
    · rw [this.1] at k; cases k
    · rw [this.2] at k; cases k
  · rw [if_neg hj]
    have hr : remB f g x.join p = !f.lv g p := by unfold remB; rw [decide_eq_false hj]; rfl
    have hl : f.lvI g x.at_ = f.lv g p := by rw [ha, lvI_place hp]
    rw [hr, hl]
    constructor
    · intro k1 k2
      rw [if_neg]
      rintro (k | k)
      · rw [k] at k1; cases k1
      · exact (eh_rem hj).1 k2 k
    · rintro (k | k)
      · rw [if_pos]
        left
        cases c : f.lv g p
        · rw [c] at k; cases k
        · rfl
      · rw [if_pos]
        right
        by_cases c : ∃ i, i < x.ps.len ∧ f.lvI g (x.ps.x i) = true
        · exact c
        · rw [(eh_rem hj).2 c] at k; cases k
theorem Ln.hold {f l : Cf} {g : Rw Bool} (h : Ln f g l) (x : Rn) : l.hold g x = f.hold g x := by
  have hw : l.wit g x = f.wit g x := by funext a; unfold Cf.wit; rw [h.wsI]
  unfold Cf.hold
  rw [hw]
  simp only [h.pl, h.lvI]
end Go.Proofs.Ytibhcbdofadamaa

/- Layer 16: Holds, walked. -/
namespace Go.Proofs.Ytibhcbdofadamaa
open Go Go.RowKit

/-- The three boxes. -/
structure Hq (w0 : World) (f : Cf) (g : Rw Bool) (x : Rn) (u : World) : Prop where
  bl : Below w0.heap.size w0 u
  bF : Blk u w0.heap.size f.vs 30
  bG : Blk u (w0.heap.size + 1) [.slice g.ao g.len g.cap] 31
  bX : Blk u (w0.heap.size + 2) x.vs 38
theorem Hq.kept {w0 : World} {f : Cf} {g : Rw Bool} {x : Rn} {u u' : World} (h : Hq w0 f g x u) (hb : Below u.heap.size u u') : Hq w0 f g x u' := ⟨Below.next h.bl hb, h.bF.kept hb, h.bG.kept hb, h.bX.kept hb⟩
theorem Ln.sty {f l : Cf} {g : Rw Bool} (h : Ln f g l) {j : Int} {m : Nat → Bool} {p : Nat} (hp : p < f.cd.len) : styB l g j m p = styB f g j m p := by unfold styB; rw [h.ws hp]
theorem Ln.rem {f l : Cf} {g : Rw Bool} (h : Ln f g l) {j : Int} {p : Nat} (hp : p < f.cd.len) : remB l g j p = remB f g j p := by unfold remB; rw [h.lv hp]
theorem eh_congr {m A A' : Nat → Bool} {n : Nat} (h : ∀ p, p < n → A p = A' p) : ehB m A n = ehB m A' n := by
  unfold ehB
  apply decide_eq_decide.2
  constructor
  · intro k p hp hm; rw [← h p hp]; exact k p hp hm
  · intro k p hp hm; rw [h p hp]; exact k p hp hm
theorem Ln.ehs {f l : Cf} {g : Rw Bool} (h : Ln f g l) {j : Int} {m : Nat → Bool} : ehB m (styB l g j m) l.cd.len = ehB m (styB f g j m) f.cd.len := by rw [h.cd]; exact eh_congr fun p hp => h.sty hp
theorem Ln.ehr {f l : Cf} {g : Rw Bool} (h : Ln f g l) {j : Int} {m : Nat → Bool} : ehB m (remB l g j) l.cd.len = ehB m (remB f g j) f.cd.len := by rw [h.cd]; exact eh_congr fun p hp => h.rem hp

set_option maxRecDepth 100000 in
set_option maxHeartbeats 32000000 in
theorem holds16_any (f : Cf) (g : Rw Bool) (x : Rn) (w : World) (hf : f.At w) (hg : BlAt w g) (hx : x.At w) (hA : Agd f) (hh : f.hd.len ≤ 100000) : Calls Try.prog 12 #[.agg f.vs.toArray, .slice g.ao g.len g.cap, .agg x.vs.toArray] w fun e w' => e = .returned (.int .i64 (f.hold g x)) ∧ Below w.heap.size w w' := by
  have hn : f.cd.len ≤ 100000 := by have := hA.few; omega
  have A0 := allocs_below [.cells f.vs.toArray 30, .cells #[.slice g.ao g.len g.cap] 31, .cells x.vs.toArray 38] w
  have A1 := allocs_heap [.cells f.vs.toArray 30, .cells #[.slice g.ao g.len g.cap] 31, .cells x.vs.toArray 38] w
  simp only [List.foldl] at A0 A1
  have H1 : Hid (Hq w f g x _) := ⟨A0, A1 0 (by simp), A1 1 (by simp), A1 2 (by simp)⟩
  have hmf : ∀ (fn : Fn) (first cap : Array Value) (w : World), (Instr.makeFunc fn first cap).run Try.prog w = .ok (.func fn first cap) w := fun _ _ _ _ => rfl
  have HD := hyd (show ((f.At w ∧ BlAt w g) ∧ x.At w) ∧ Agd f from ⟨⟨⟨hf, hg⟩, hx⟩, hA⟩)
  have HB1 := hyd (fun h => hold_bad (f := f) (g := g) (x := x) h)
  have HB2 := hyd (fun p h ha hp h1 => hold_one (f := f) (g := g) (x := x) (p := p) h ha hp h1)
  have HB3 := hyd (fun p h ha hp h1 h2 => hold_two (f := f) (g := g) (x := x) (p := p) h ha hp h1 h2)
  have HB4 := hyd (fun p h ha hp h1 h2 => hold_end (f := f) (g := g) (x := x) (p := p) h ha hp h1 h2)
  generalize f.hold g x = R at *
  clear A0 A1 hf hg hx hA
  generalize hw : ((w.alloc (.cells f.vs.toArray 30)).alloc (.cells #[.slice g.ao g.len g.cap] 31)).alloc (.cells x.vs.toArray 38) = u1 at *
  go_enter Try.func12, Try.ntmps12
  go_upto_region 1 with fail
  clear hw
  have rF := H1.out.bF.range
  have h0 := goesAhead_yes f u1 (Cf.At.kept H1.out.bl HD.out.1.1.1) HD.out.2
  go_wp2_with (refine wpList_load_mid rfl 30 (.tmp 3) rfl w.heap.size 0 (by kernel_rfl) f.vs _ rF Try.underlying30 rfl (by kernel_rfl) ?_)
  refine h0.mono ?_
  rintro _ u2 ⟨rfl, hb⟩
  have H2 := hyd (H1.out.kept hb)
  clear h0 hb H1 rF
  go_upto_region 3 with fail
  go_cut [29] (fun c wx => ∃ bb : Bool, c = .bool bb ∧ Hid (bb = badB f x ∧ Hq w f g x wx))
  case first =>
    have HBB : Hid (badB f x = (!f.pl x.at_ || (decide (x.join ≠ -1) && !f.pl x.join))) := rfl
    generalize badB f x = bx at *
    have rF := H2.out.bF.range
    have cX := H2.out.bX.cell 0 rfl
    have h0 := gplace_any f x.at_ u2
    generalize f.pl x.at_ = pa at *
    go_wp2_with (refine wpList_load_mid rfl 30 (.tmp 3) rfl w.heap.size 0 (by kernel_rfl) f.vs _ rF Try.underlying30 rfl (by kernel_rfl) ?_)
    refine h0.mono ?_
    rintro _ u3 ⟨rfl, hb⟩
    have H3 := hyd (H2.out.kept hb)
    clear h0 hb H2 rF cX
    cases pa
    · have HE : Hid (bx = true) := HBB.out
      clear HBB
      go_wp2
      go_meet
      case rel => exact ⟨true, rfl, HE.out.symm, H3.out⟩
    · have HB2 : Hid (bx = (decide (x.join ≠ -1) && !f.pl x.join)) := HBB.out
      clear HBB
      have cX := H3.out.bX.cell 1 rfl
      have rF := H3.out.bF.range
      have h0 := gplace_any f x.join u3
      generalize f.pl x.join = pj at *
      generalize x.join = xj at *
      by_cases ej : xj = -1
      · have e1 : (xj != -1) = false := by simpa using ej
        have HE : Hid (bx = false) := by show _ = _; rw [HB2.out, ej]; rfl
        clear ej h0 HB2
        go_wp2
        go_meet
        case rel => exact ⟨false, rfl, HE.out.symm, H3.out⟩
      · have e1 : (xj != -1) = true := by simpa using ej
        have HE : Hid (bx = !pj) := by show _ = _; rw [HB2.out, decide_eq_true ej]; rfl
        clear ej HB2
        go_wp2_with (refine wpList_loadW (by kernel_rfl) 30 (.tmp 3) rfl w.heap.size 0 (by kernel_rfl) f.vs _ rF Try.underlying30 rfl (by kernel_rfl) ?_)
        refine h0.mono ?_
        rintro _ u4 ⟨rfl, hb⟩
        have H4 := hyd (H3.out.kept hb)
        clear h0 hb H3 rF cX
        cases pj
        · have HE2 : Hid (bx = true) := HE.out
          clear HE
          go_wp2
          go_meet
          case rel => exact ⟨true, rfl, HE2.out.symm, H4.out⟩
        · have HE2 : Hid (bx = false) := HE.out
          clear HE
          go_wp2
          go_meet
          case rel => exact ⟨false, rfl, HE2.out.symm, H4.out⟩
  case rest =>
  clear H2
  obtain ⟨bb, rfl, hc⟩ := hcut
  have H2 := hyd hc.out.2
  have HBE := hyd hc.out.1
  clear hc
  cases bb
  case true =>
    have HE : Hid (R = -1) := HB1.out HBE.out.symm
    go_wp2
    go_ret
    exact ⟨ret_num HE.out.symm, H2.out.bl⟩
  clear HB1
  obtain ⟨p, hpa, hp⟩ : ∃ p : Nat, x.at_ = p ∧ p < f.cd.len := pl_nat (by
    have := HBE.out.symm
    unfold badB at this
    cases c : f.pl x.at_
    · rw [c] at this; cases this
    · rfl)
  have HBF : Hid (badB f x = false) := HBE.out.symm
  clear HBE
  have HPA := hyd hpa
  clear hpa
  have rF := H2.out.bF.range
  have cG := H2.out.bG.cell 0 rfl
  have h0 := lean_any f g wc (Cf.At.kept H2.out.bl HD.out.1.1.1) (BlAt.kept HD.out.1.1.2 H2.out.bl) hn hh
  go_wp2_with (refine wpList_load_mid rfl 30 (.tmp 3) rfl w.heap.size 0 (by kernel_rfl) f.vs _ rF Try.underlying30 rfl (by kernel_rfl) ?_)
  refine h0.mono ?_
  rintro _ u4 ⟨l0, rfl, hlO, hb⟩
  have H4 := hyd (show Hq w f g x u4 ∧ LnO f g wc.heap.size l0 u4 from ⟨H2.out.kept hb, hlO⟩)
  clear h0 hlO hb H2 rF cG
  go_upto_region 6 with (refine wpList_store_blk rfl rfl 30 (.tmp 3) (.tmp 32) rfl w.heap.size l0.vs rfl rfl l0.vs_one H4.out.1.bF rfl (by kernel_rfl) ?_; intro w5 W5; have H50 : Hid (Hq w l0 g x w5) := ⟨gb_bel H4.out.1.bl W5.gb (fun k e => by have := Option.some.inj e; omega), W5.blk, H4.out.1.bG.gb W5.gb (fun e => by have := Option.some.inj e; omega), H4.out.1.bX.gb W5.gb (fun e => by have := Option.some.inj e; omega)⟩; have HG5 := hyd (H4.out.2.gb W5.gb H4.out.1.bF (Cf.At.kept H50.out.bl HD.out.1.1.1)); clear W5 H4)
  obtain ⟨l, hlv, hlO⟩ := HG5.out
  have H5 : Hid (Hq w l g x w5) := ⟨H50.out.bl, by rw [hlv]; exact H50.out.bF, H50.out.bG, H50.out.bX⟩
  rw [← hlv]
  have HO := hyd hlO
  clear H50 HG5 hlv hlO
  have rF := H5.out.bF.range
  have cX := H5.out.bX.cell 2 rfl
  have h0 := heldBy_any l x.ps w5 (HD.out.1.2.ps.kept H5.out.bl) (by rw [HO.out.ln.cd]; exact hn)
  have HLC := hyd HO.out.ln.cd
  go_wp2_with (refine wpList_load_mid rfl 30 (.tmp 3) rfl w.heap.size 0 (by kernel_rfl) l.vs _ rF Try.underlying30 rfl (by kernel_rfl) ?_)
  refine h0.mono ?_
  rintro _ u6 ⟨BH, rfl, hBHn, hBH, hb⟩
  have H6 := hyd (show (Hq w l g x u6 ∧ l.At u6) ∧ Blk u6 BH (bvL (hldB x) l.cd.len) 4 ∧ w.heap.size + 2 < BH from ⟨⟨H5.out.kept hb, Cf.At.kept hb HO.out.lat⟩, hBH, by have := H5.out.bX.lt; omega⟩)
  have HLN := hyd HO.out.ln
  clear h0 hBHn hBH hb H5 HO rF cX
  go_upto_region 7 with (refine wpList_store1 rfl 31 (.tmp 7) (.tmp 36) rfl rfl u6.heap.size 0 (.slice (some ⟨BH, 0, none⟩) l.cd.len l.cd.len) _ _ (by kernel_rfl) (by kernel_rfl) (store_one _ _ (by kernel_rfl) rfl rfl _ _) (Blk.new u6 [.slice none 0 0] 31) (by simp) ?_; intro w7 W7)
  have B6 := below_alloc u6 (.cells #[.slice none 0 0] 31)
  have hs6 := H6.out.1.1.bX.lt
  have hs7 := H6.out.2.1.lt
  have bF6 := ((H6.out.1.1.bF.kept B6).gb W7.gb (fun e => by have := Option.some.inj e; omega))
  have bG6 := ((H6.out.1.1.bG.kept B6).gb W7.gb (fun e => by have := Option.some.inj e; omega))
  have bX6 := ((H6.out.1.1.bX.kept B6).gb W7.gb (fun e => by have := Option.some.inj e; omega))
  have bH6 := ((H6.out.2.1.kept B6).gb W7.gb (fun e => by have := Option.some.inj e; omega))
  have bl7 : Below w.heap.size w w7 := gb_bel (Below.next H6.out.1.1.bl B6) W7.gb (fun k e => by have := Option.some.inj e; omega)
  have H70 := hyd (show (Blk w7 w.heap.size l.vs 30 ∧ Blk w7 (w.heap.size + 1) [.slice g.ao g.len g.cap] 31) ∧ (Blk w7 (w.heap.size + 2) x.vs 38 ∧ Blk w7 u6.heap.size [.slice (some ⟨BH, 0, none⟩) l.cd.len l.cd.len] 31) ∧ Blk w7 BH (bvL (hldB x) l.cd.len) 4 ∧ Below w.heap.size w w7 ∧ Below u6.heap.size u6 w7 from ⟨⟨bF6, bG6⟩, ⟨bX6, W7.blk⟩, bH6, bl7, gb_bel B6 W7.gb (fun k e => by have := Option.some.inj e; omega)⟩)
  have H7 : Hid (Hz w.heap.size (w.heap.size + 1) (w.heap.size + 2) u6.heap.size BH l g x (hldB x) w7 ∧ Below w.heap.size w w7) := ⟨⟨H70.out.1.1, H70.out.1.2, H70.out.2.1.1, H70.out.2.1.2, H70.out.2.2.1, Cf.At.kept H70.out.2.2.2.2 H6.out.1.2, BlAt.kept HD.out.1.1.2 bl7⟩, bl7⟩
  clear B6 hs6 hs7 bF6 bG6 bX6 bH6 bl7 H70 W7 H6
  generalize u6.heap.size = B7 at *
  have hpl : p < l.cd.len := by rw [HLC.out]; exact hp
  have hnl : l.cd.len ≤ 100000 := by rw [HLC.out]; exact hn
  have HC1 : Hid (styB l g x.join (hldB x) p = false → R = 1) := fun h => HB2.out p HBF.out HPA.out hp (by rw [← HLN.out.sty hp]; exact h)
  have HC2 : Hid (styB l g x.join (hldB x) p = true → ehB (hldB x) (styB l g x.join (hldB x)) l.cd.len = false → R = 2) := fun h h2 => HB3.out p HBF.out HPA.out hp (by rw [← HLN.out.sty hp]; exact h) (by rw [← HLN.out.ehs]; exact h2)
  have HC3 : Hid (styB l g x.join (hldB x) p = true → ehB (hldB x) (styB l g x.join (hldB x)) l.cd.len = true → (remB l g x.join p = true → ehB (hldB x) (remB l g x.join) l.cd.len = true → R = 0) ∧ (remB l g x.join p = false ∨ ehB (hldB x) (remB l g x.join) l.cd.len = false → R = 3)) := fun h h2 => by
    have := HB4.out p HBF.out HPA.out hp (by rw [← HLN.out.sty hp]; exact h) (by rw [← HLN.out.ehs]; exact h2)
    rw [← HLN.out.rem hp, ← HLN.out.ehr (j := x.join) (m := hldB x)] at this
    exact this
  clear HB2 HB3 HB4 HBF
  have h1 := stays_any w.heap.size (w.heap.size + 1) (w.heap.size + 2) B7 BH l g x (hldB x) p w7 H7.out.1 hpl hnl
  have HH2 : Hid (∀ u, Hz w.heap.size (w.heap.size + 1) (w.heap.size + 2) B7 BH l g x (hldB x) u → Calls Try.prog 29 #[.slice (some ⟨BH, 0, none⟩) l.cd.len l.cd.len, .func (.func 27) #[] #[.pointer (some ⟨w.heap.size, 0, none⟩), .pointer (some ⟨w.heap.size + 1, 0, none⟩), .pointer (some ⟨B7, 0, none⟩), .pointer (some ⟨w.heap.size + 2, 0, none⟩)]] u fun e u' => e = .returned (.bool (ehB (hldB x) (styB l g x.join (hldB x)) l.cd.len)) ∧ Below u.heap.size u u') := fun u hu => eachHeld1_any w.heap.size (w.heap.size + 1) (w.heap.size + 2) B7 BH l g x (hldB x) u hu hnl
  have HH3 : Hid (∀ u, Hz w.heap.size (w.heap.size + 1) (w.heap.size + 2) B7 BH l g x (hldB x) u → Calls Try.prog 28 #[.int .i64 p, .pointer (some ⟨w.heap.size + 2, 0, none⟩), .pointer (some ⟨w.heap.size, 0, none⟩), .pointer (some ⟨w.heap.size + 1, 0, none⟩)] u fun e u' => e = .returned (.bool (remB l g x.join p)) ∧ Below u.heap.size u u') := fun u hu => remains_any w.heap.size (w.heap.size + 1) (w.heap.size + 2) B7 BH l g x (hldB x) p u hu hpl
  have HH4 : Hid (∀ u, Hz w.heap.size (w.heap.size + 1) (w.heap.size + 2) B7 BH l g x (hldB x) u → Calls Try.prog 29 #[.slice (some ⟨BH, 0, none⟩) l.cd.len l.cd.len, .func (.func 28) #[] #[.pointer (some ⟨w.heap.size + 2, 0, none⟩), .pointer (some ⟨w.heap.size, 0, none⟩), .pointer (some ⟨w.heap.size + 1, 0, none⟩)]] u fun e u' => e = .returned (.bool (ehB (hldB x) (remB l g x.join) l.cd.len)) ∧ Below u.heap.size u u') := fun u hu => eachHeld2_any w.heap.size (w.heap.size + 1) (w.heap.size + 2) B7 BH l g x (hldB x) u hu hnl
  generalize ehB (hldB x) (styB l g x.join (hldB x)) l.cd.len = s2 at *
  generalize styB l g x.join (hldB x) p = s1 at *
  generalize ehB (hldB x) (remB l g x.join) l.cd.len = s4 at *
  generalize remB l g x.join p = s3 at *
  go_upto_region 9 with fail
  have cX := H7.out.1.bX.cell 0 rfl
  rw [HPA.out] at cX
  go_wp2_with fail
  refine h1.mono ?_
  rintro _ u8 ⟨rfl, hb⟩
  have H8 := hyd (show Hz w.heap.size (w.heap.size + 1) (w.heap.size + 2) B7 BH l g x (hldB x) u8 ∧ Below w.heap.size w u8 from ⟨H7.out.1.kept hb, Below.next H7.out.2 hb⟩)
  clear h1 hb H7 cX
  cases s1
  · have HE : Hid (R = 1) := HC1.out rfl
    go_wp2
    go_ret
    exact ⟨ret_num HE.out.symm, H8.out.2⟩
  clear HC1
  have c7 := H8.out.1.b7.cell 0 rfl
  have h1 := HH2.out u8 H8.out.1
  go_wp2_with fail
  refine h1.mono ?_
  rintro _ u9 ⟨rfl, hb⟩
  have H9 := hyd (show Hz w.heap.size (w.heap.size + 1) (w.heap.size + 2) B7 BH l g x (hldB x) u9 ∧ Below w.heap.size w u9 from ⟨H8.out.1.kept hb, Below.next H8.out.2 hb⟩)
  clear h1 hb H8 c7 HH2
  cases s2
  · have HE : Hid (R = 2) := HC2.out (by simp) rfl
    go_wp2
    go_ret
    exact ⟨ret_num HE.out.symm, H9.out.2⟩
  clear HC2
  have HC4 := hyd (HC3.out (by simp) (by simp))
  clear HC3
  have cX := H9.out.1.bX.cell 0 rfl
  rw [HPA.out] at cX
  have h1 := HH3.out u9 H9.out.1
  go_wp2_with fail
  refine h1.mono ?_
  rintro _ w10 ⟨rfl, hb⟩
  have H10 := hyd (show Hz w.heap.size (w.heap.size + 1) (w.heap.size + 2) B7 BH l g x (hldB x) w10 ∧ Below w.heap.size w w10 from ⟨H9.out.1.kept hb, Below.next H9.out.2 hb⟩)
  clear h1 hb H9 cX HH3
  cases s3
  · have HE : Hid (R = 3) := HC4.out.2 (Or.inl rfl)
    go_wp2
    go_ret
    exact ⟨ret_num HE.out.symm, H10.out.2⟩
  have c7 := H10.out.1.b7.cell 0 rfl
  have h1 := HH4.out w10 H10.out.1
  go_wp2_with fail
  refine h1.mono ?_
  rintro _ w11 ⟨rfl, hb⟩
  have H11 := hyd (Below.next H10.out.2 hb)
  clear h1 hb H10 c7 HH4
  cases s4
  · have HE : Hid (R = 3) := HC4.out.2 (Or.inr rfl)
    go_wp2
    go_ret
    exact ⟨ret_num HE.out.symm, H11.out⟩
  · have HE : Hid (R = 0) := HC4.out.1 (by simp) rfl
    go_wp2
    go_ret
    exact ⟨ret_num HE.out.symm, H11.out⟩
end Go.Proofs.Ytibhcbdofadamaa

/- Layer 16: awake: the fork. -/
namespace Go.Proofs.Ytibhcbdofadamaa
open Go Go.RowKit

def kIn (i : Nat) : In := if i = 0 then ⟨25, 3, leafT 0 0⟩ else if i = 1 then ⟨1, 0, leafT 0 0⟩ else if i = 2 then ⟨24, 4, leafT 0 0⟩ else if i = 3 then ⟨1, 0, leafT 0 0⟩ else ⟨27, 0, leafT 0 0⟩
def kCf (b : Nat) : Cf := ⟨leafT 0 0, leafT 0 0, leafT 0 0, 0, 0, 0, ⟨some ⟨b, 0, none⟩, b, 0, 5, 5, kIn⟩, nilRw ⟨0, 0, 0⟩, nilRw ⟨.dm, .dm, 0⟩, nilRw ⟨0, 0, nilRw 0⟩⟩
def kI (op a : Int) : List Value := [.int .i64 op, .int .i64 a, .int .i64 0, .int .i64 0, .slice none 0 0, .int .i64 0, .int .i64 0]
def kCd : List Value := [.int .i64 25, .int .i64 3, .int .i64 0, .int .i64 0, .slice none 0 0, .int .i64 0, .int .i64 0, .int .i64 1, .int .i64 0, .int .i64 0, .int .i64 0, .slice none 0 0, .int .i64 0, .int .i64 0, .int .i64 24, .int .i64 4, .int .i64 0, .int .i64 0, .slice none 0 0, .int .i64 0, .int .i64 0, .int .i64 1, .int .i64 0, .int .i64 0, .int .i64 0, .slice none 0 0, .int .i64 0, .int .i64 0, .int .i64 27, .int .i64 0, .int .i64 0, .int .i64 0, .slice none 0 0, .int .i64 0, .int .i64 0]
theorem kCf_vs (b : Nat) : (kCf b).vs = mdV (kCf b) (.slice none 0 0) := rfl
theorem kCd_at : ∀ i, i < 5 → ∀ j, j < 7 → kCd[i * 7 + j]? = (kIn i).vs[j]? := by
  intro i hi j hj
  have : i = 0 ∨ i = 1 ∨ i = 2 ∨ i = 3 ∨ i = 4 := by omega
  have : j = 0 ∨ j = 1 ∨ j = 2 ∨ j = 3 ∨ j = 4 ∨ j = 5 ∨ j = 6 := by omega
  rcases ‹i = 0 ∨ i = 1 ∨ i = 2 ∨ i = 3 ∨ i = 4› with rfl | rfl | rfl | rfl | rfl <;> rcases ‹j = 0 ∨ j = 1 ∨ j = 2 ∨ j = 3 ∨ j = 4 ∨ j = 5 ∨ j = 6› with rfl | rfl | rfl | rfl | rfl | rfl | rfl <;> rfl
theorem kCf_at {b : Nat} {w : World} (h : Blk w b kCd 50) : (kCf b).At w := by
  refine ⟨leaf_at _ _ _, leaf_at _ _ _, leaf_at _ _ _, i64_zero, i64_zero, i64_zero, ⟨fun _ => rfl, by show 5 ≤ _; omega, fun i hi => ?_, fun i hi => ?_⟩, nilRw_at _ _ _ _ _, nilRw_at _ _ _ _ _, nilRw_at _ _ _ _ _⟩
  · have hi5 : i < 5 := hi
    show w.rangeAt b (0 + i * 7) (kIn i).vs
    intro j v hv
    have hj : j < 7 := (List.getElem?_eq_some_iff.1 hv).1
    rw [Nat.zero_add]
    exact h.cell _ ((kCd_at i hi5 j hj).trans hv)
  · show (kIn i).At w
    have k : ∀ n : Int, 0 ≤ n → n ≤ 30 → I64 n := fun n h1 h2 => ⟨by omega, by omega⟩
    unfold kIn
    split
    · exact ⟨k 25 (by omega) (by omega), k 3 (by omega) (by omega), leaf_at _ _ _⟩
    split
    · exact ⟨k 1 (by omega) (by omega), k 0 (by omega) (by omega), leaf_at _ _ _⟩
    split
    · exact ⟨k 24 (by omega) (by omega), k 4 (by omega) (by omega), leaf_at _ _ _⟩
    split
    · exact ⟨k 1 (by omega) (by omega), k 0 (by omega) (by omega), leaf_at _ _ _⟩
    · exact ⟨k 27 (by omega) (by omega), k 0 (by omega) (by omega), leaf_at _ _ _⟩
theorem k_five {p : Nat} (h : p < 5) : p = 0 ∨ p = 1 ∨ p = 2 ∨ p = 3 ∨ p = 4 := by omega
theorem kCf_agd (b : Nat) : Agd (kCf b) := by
  refine ⟨fun i hi h => ?_, fun i hi => absurd hi (Nat.not_lt_zero _), by show 5 ≤ 2000; omega⟩
  rcases k_five (show i < 5 from hi) with rfl | rfl | rfl | rfl | rfl
  · show (0 : Int) < 3; omega
  · exact absurd h (by show ¬ ((1 : Int) = 24 ∨ (1 : Int) = 25); omega)
  · show (2 : Int) < 4; omega
  · exact absurd h (by show ¬ ((1 : Int) = 24 ∨ (1 : Int) = 25); omega)
  · exact absurd h (by show ¬ ((27 : Int) = 24 ∨ (27 : Int) = 25); omega)
theorem kCf_rs (b : Nat) {p : Nat} (hp : p < 5) : (kCf b).rs nG p = false := by
  rcases k_five hp with rfl | rfl | rfl | rfl | rfl <;> rfl
theorem kCf_lv (b : Nat) {p : Nat} (hp : p < 5) : (kCf b).lv nG p = decide (p = 4) := by
  rcases k_five hp with rfl | rfl | rfl | rfl | rfl <;> rfl
def kW (p q : Nat) : Prop := (p = 0 ∧ (q = 1 ∨ q = 3)) ∨ (p = 1 ∧ q = 2) ∨ (p = 2 ∧ q = 4) ∨ (p = 3 ∧ q = 4)
theorem kCf_wy (b p q : Nat) : (kCf b).wy nG p q ↔ kW p q := by
  unfold Cf.wy Cf.way Cf.wayH kW
  show (p < 5 ∧ q < 5 ∧ ((q = p + 1 ∧ nxO (kIn p).op = true) ∨ (((kIn p).op = 24 ∨ (kIn p).op = 25) ∧ (kIn p).a = q) ∨ ((kCf b).rs nG p = true ∧ (kCf b).han p = q))) ↔ _
  constructor
  · rintro ⟨hp, hq, h⟩
    rw [kCf_rs b hp] at h
    rcases k_five hp with rfl | rfl | rfl | rfl | rfl <;> simp [kIn, nxO] at h <;> omega
  · intro h
    rcases h with ⟨rfl, rfl | rfl⟩ | ⟨rfl, rfl⟩ | ⟨rfl, rfl⟩ | ⟨rfl, rfl⟩
    · exact ⟨by omega, by omega, Or.inl ⟨rfl, rfl⟩⟩
    · exact ⟨by omega, by omega, Or.inr (Or.inl ⟨Or.inr rfl, rfl⟩)⟩
    · exact ⟨by omega, by omega, Or.inl ⟨rfl, rfl⟩⟩
    · exact ⟨by omega, by omega, Or.inr (Or.inl ⟨Or.inl rfl, rfl⟩)⟩
    · exact ⟨by omega, by omega, Or.inl ⟨rfl, rfl⟩⟩
theorem kCf_alive (b p : Nat) : Fl.Alive ((kCf b).wy nG) ((kCf b).lvP nG) p ↔ p < 4 := by
  unfold Fl.Alive Cf.lvP
  constructor
  · rintro ⟨_, q, h⟩
    have := (kCf_wy b p q).1 h
    unfold kW at this
    omega
  · intro h
    refine ⟨by rw [kCf_lv b (by omega)]; simp; omega, ?_⟩
    have : p = 0 ∨ p = 1 ∨ p = 2 ∨ p = 3 := by omega
    rcases this with rfl | rfl | rfl | rfl
    · exact ⟨1, (kCf_wy b _ _).2 (Or.inl ⟨rfl, Or.inl rfl⟩)⟩
    · exact ⟨2, (kCf_wy b _ _).2 (Or.inr (Or.inl ⟨rfl, rfl⟩))⟩
    · exact ⟨4, (kCf_wy b _ _).2 (Or.inr (Or.inr (Or.inl ⟨rfl, rfl⟩)))⟩
    · exact ⟨4, (kCf_wy b _ _).2 (Or.inr (Or.inr (Or.inr ⟨rfl, rfl⟩)))⟩
theorem kCf_rch (b p : Nat) : Fl.Rch ((kCf b).wy nG) ((kCf b).wy nG 0) 4 p ↔ p = 1 ∨ p = 2 ∨ p = 3 := by
  constructor
  · intro h
    refine h.all (R := fun p => p = 1 ∨ p = 2 ∨ p = 3) (fun q h1 h2 => ?_) (fun p q h1 h2 h3 => ?_)
    · have := (kCf_wy b _ _).1 h1; unfold kW at this; omega
    · have := (kCf_wy b _ _).1 h2; unfold kW at this; omega
  · have r1 : Fl.Rch ((kCf b).wy nG) ((kCf b).wy nG 0) 4 1 := .base ((kCf_wy b _ _).2 (Or.inl ⟨rfl, Or.inl rfl⟩)) (by omega)
    rintro (rfl | rfl | rfl)
    · exact r1
    · exact .step r1 ((kCf_wy b _ _).2 (Or.inr (Or.inl ⟨rfl, rfl⟩))) (by omega)
    · exact .base ((kCf_wy b _ _).2 (Or.inl ⟨rfl, Or.inr rfl⟩)) (by omega)
theorem kCf_jn (b : Nat) : (kCf b).jn nG 0 = 4 := by
  refine Cf.jn_of (j := 4) ⟨⟨(kCf_alive b 0).2 (by omega), fun p hp => (kCf_alive b p).2 (by have := (kCf_rch b p).1 hp; omega)⟩, fun i hi => ?_⟩
  rcases Nat.lt_or_ge i 4 with h | h
  · exfalso
    have w03 : (kCf b).wy nG 0 3 := (kCf_wy b _ _).2 (Or.inl ⟨rfl, Or.inr rfl⟩)
    have w01 : (kCf b).wy nG 0 1 := (kCf_wy b _ _).2 (Or.inl ⟨rfl, Or.inl rfl⟩)
    have w12 : (kCf b).wy nG 1 2 := (kCf_wy b _ _).2 (Or.inr (Or.inl ⟨rfl, rfl⟩))
    have w24 : (kCf b).wy nG 2 4 := (kCf_wy b _ _).2 (Or.inr (Or.inr (Or.inl ⟨rfl, rfl⟩)))
    have w34 : (kCf b).wy nG 3 4 := (kCf_wy b _ _).2 (Or.inr (Or.inr (Or.inr ⟨rfl, rfl⟩)))
    have h4 : Fl.Rch ((kCf b).wy nG) ((kCf b).wy nG 0) i 4 := by
      by_cases e : i = 3
      · subst e
        exact .step (.step (.base w01 (by omega)) w12 (by omega)) w24 (by omega)
      · exact .step (.base w03 (by omega)) w34 (by omega)
    have := (kCf_alive b 4).1 (hi.2 4 h4)
    omega
  · exact h
theorem kCf_md {b : Nat} {x : Rn} (h : Md (kCf b) nG 0 x) : x.join = 4 ∧ x.ps.len = 3 := by
  refine ⟨by rw [h.join, kCf_jn], ?_⟩
  have h1 := h.ps
  rw [kCf_jn] at h1
  have e : Fl.lst (kCf b).cd.len (Fl.Rch ((kCf b).wy nG) ((kCf b).wy nG 0) 4) = [1, 2, 3] := by
    refine (Fl.lst_of (by simp) (fun p => ?_)).symm
    rw [kCf_rch]
    show _ ↔ p < 5 ∧ _
    simp
    omega
  rw [e] at h1
  have := x.ps.ls_len
  rw [h1] at this
  simpa using this.symm
def kRn : Rn := ⟨0, 4, nilRw 0⟩
theorem kRn_at (w : World) : kRn.At w := ⟨i64_zero, ⟨by show (-9223372036854775808 : Int) ≤ 4; omega, by show (4 : Int) ≤ 9223372036854775807; omega⟩, nilRw_at _ _ _ _ _⟩
theorem kCf_hold (b : Nat) : (kCf b).hold nG kRn = 1 := by
  refine hold_one (p := 0) rfl rfl (by show 0 < 5; omega) ?_
  unfold styB
  rw [decide_eq_false_iff_not]
  intro h
  have h1 := h 1 (ws_mem.2 ⟨1, rfl, ((kCf_wy b 0 1).2 (Or.inl ⟨rfl, Or.inl rfl⟩)).2⟩)
  rcases h1 with h1 | h1
  · exact absurd h1 (by unfold hldB kRn nilRw Rw.ls; simp)
  · exact absurd h1 (by show ¬ (1 : Int) = 4; omega)
end Go.Proofs.Ytibhcbdofadamaa

/- Layer 16: awake, walked. -/
namespace Go.Proofs.Ytibhcbdofadamaa
open Go Go.RowKit

def ForkP (w : World) : Ending → World → Prop := fun e w' => ∃ b : Nat, e = .returned (.agg (kCf b).vs.toArray) ∧ Blk w' b kCd 50 ∧ Below w.heap.size w w'
set_option maxRecDepth 100000 in
set_option maxHeartbeats 8000000 in
theorem fork_any (w : World) : Calls Try.prog 20 #[] w (ForkP w) := by
  have A0 := allocs_below [.cells z_fn.toArray 30, .cells kCd.toArray 50] w
  have A1 := allocs_heap [.cells z_fn.toArray 30, .cells kCd.toArray 50] w
  simp only [List.foldl] at A0 A1
  unfold z_fn kCd at A0 A1
  have H1 := hyd (show Below w.heap.size w _ ∧ Blk _ w.heap.size z_fn 30 ∧ Blk _ (w.heap.size + 1) kCd 50 from ⟨A0, A1 0 (by simp), A1 1 (by simp)⟩)
  clear A0 A1
  go_enter Try.func20, Try.ntmps20
  go_wp2_with (refine wpList_store_blk rfl rfl 30 (.tmp 0) (.tmp 7) rfl w.heap.size (mdV (kCf (w.heap.size + 1)) (.slice none 0 0)) (by kernel_rfl) (by kernel_rfl) rfl H1.out.2.1 rfl (by kernel_rfl) ?_; intro w3 W3)
  have rB := W3.blk.range
  have H3 := hyd (show ForkP w (.returned (.agg (mdV (kCf (w.heap.size + 1)) (.slice none 0 0)).toArray)) w3 from ⟨w.heap.size + 1, by rw [kCf_vs], H1.out.2.2.gb W3.gb (fun e => by have := Option.some.inj e; omega), gb_bel H1.out.1 W3.gb (fun k e => by have := Option.some.inj e; omega)⟩)
  clear W3 H1
  exact bodyPost_ret (v := .agg (mdV (kCf (w.heap.size + 1)) (.slice none 0 0)).toArray) (results_rowG (vs := mdV (kCf (w.heap.size + 1)) (.slice none 0 0)) Try.underlying30 rfl (by kernel_rfl) Try.results20 rfl rB) rfl H3.out

set_option maxRecDepth 100000 in
set_option maxHeartbeats 8000000 in
theorem awake16_any (w : World) : Calls Try.prog 7 #[] w fun e w' => e = .returned (.bool true) ∧ Below w.heap.size w w' := by
  have h0 := fork_any w
  go_enter Try.func7, Try.ntmps7
  go_wp2_with fail
  refine h0.mono ?_
  rintro _ u1 ⟨b, rfl, hB, hb⟩
  have H1 := hyd hb
  have h1 : Calls Try.prog 11 #[.agg (kCf b).vs.toArray, .slice none 0 0, .int .i64 0] u1 (OfP (kCf b) nG 0 u1) := of_any (kCf b) nG 0 u1 (kCf_at hB) (nG_at _) (kCf_agd b) (by show 0 < 5; omega) (by show 0 ≤ 100000; omega)
  clear h0 hB hb
  generalize (kCf b).vs.toArray = V at *
  go_wp2_with fail
  refine h1.mono ?_
  rintro _ u2 ⟨x, rfl, hx, hm, hO, hb⟩
  have HM := hyd (kCf_md hm)
  have H2 := hyd (Below.next H1.out hb)
  clear h1 hx hm hO hb H1
  go_upto_region 2 with (refine wpList_new_mid rfl rfl 38 rfl (.tmp 1) (.tmp 3) rfl z_rn (alloc_rn _) rfl x.vs.toArray (by kernel_rfl) (by kernel_rfl) rfl (by kernel_rfl) (by simpa using x.vs_one) ?_)
  have B3 := below_alloc u2 (.cells x.vs.toArray 38)
  have H3 := hyd (show Below w.heap.size w _ ∧ Blk _ u2.heap.size x.vs 38 from ⟨Below.next H2.out B3, Blk.new u2 x.vs 38⟩)
  clear B3 H2
  generalize u2.alloc (.cells x.vs.toArray 38) = u3 at *
  generalize u2.heap.size = BX at *
  have c1 := H3.out.2.cell 1 rfl
  have c2 := H3.out.2.cell 2 rfl
  rw [HM.out.1] at c1
  rw [HM.out.2] at c2
  have h0 := fork_any u3
  go_wp2_with fail
  refine h0.mono ?_
  rintro _ u4 ⟨b4, rfl, hB, hb⟩
  have H4 := hyd (Below.next H3.out.1 hb)
  have h1 : Calls Try.prog 12 #[.agg (kCf b4).vs.toArray, .slice none 0 0, .agg #[.int .i64 0, .int .i64 4, .slice none 0 0]] u4 fun e w' => e = .returned (.int .i64 1) ∧ Below u4.heap.size u4 w' := by
    have := holds16_any (kCf b4) nG kRn u4 (kCf_at hB) (nG_at _) (kRn_at _) (kCf_agd b4) (by show 0 ≤ 100000; omega)
    rw [kCf_hold] at this
    exact this
  clear h0 hB hb H3 c1 c2
  generalize (kCf b4).vs.toArray = V4 at *
  go_wp2_with fail
  refine h1.mono ?_
  rintro _ u5 ⟨rfl, hb⟩
  have H5 := hyd (Below.next H4.out hb)
  clear h1 hb H4
  go_wp2
  go_ret
  exact ⟨rfl, H5.out⟩
end Go.Proofs.Ytibhcbdofadamaa

/- Layer 15: Branches. -/
namespace Go.Proofs.Ytibhcbdofadamaa
open Go Go.RowKit

set_option maxRecDepth 100000 in
set_option maxHeartbeats 8000000 in
theorem branches_any (f : Cf) (g : Rw Bool) (p : Nat) (w : World) (hf : f.At w) (hg : BlAt w g) (hp : p < f.cd.len) : Calls Try.prog 14 #[.agg f.vs.toArray, .slice g.ao g.len g.cap, .int .i64 p] w fun e w' => e = .returned (.bool (f.br g p)) ∧ Below w.heap.size w w' := by
  have HWS : Hid (f.br g p = (decide ((f.cd.x p).op = 25) || (((decide ((f.cd.x p).op = 9) || decide ((f.cd.x p).op = 10)) || decide ((f.cd.x p).op = 19)) && f.rs g p))) := rfl
  generalize f.br g p = R at *
  have H1 := hyd (Fb.new w f)
  have hpl : f.pl p = true := Cf.pl_iff.2 ⟨by omega, by omega⟩
  have HD := hyd (show f.At w ∧ BlAt w g ∧ p < f.cd.len from ⟨hf, hg, hp⟩)
  have hbd := hf.cd.bound
  have ip : (p : Int) < f.cd.len := by omega
  have HN14 := hyd (hf.cd.nil (by omega))
  clear hf hg hp
  have h0 := fplace_any f p (w.alloc (.cells f.vs.toArray 30))
  rw [hpl] at h0
  have rF := H1.out.b.range
  generalize hw : w.alloc (.cells f.vs.toArray 30) = u1 at *
  go_enter Try.func14, Try.ntmps14
  go_wp2_with (refine wpList_load_mid rfl 30 (.tmp 3) rfl w.heap.size 0 (by kernel_rfl) f.vs _ rF Try.underlying30 rfl (by kernel_rfl) ?_)
  refine h0.mono ?_
  rintro _ u2 ⟨rfl, hb⟩
  have H2 := hyd (H1.out.kept hb)
  clear h0 hb H1 rF hpl hw
  have c14 := H2.out.b.cell 14 rfl
  rw [HN14.out] at c14
  have r0 := (Cf.At.kept H2.out.bl HD.out.1).cd.row p HD.out.2.2 0 _ rfl
  simp only [Nat.add_zero] at r0
  have hr := raises_any f g p u2 (Cf.At.kept H2.out.bl HD.out.1) (BlAt.kept HD.out.2.1 H2.out.bl) HD.out.2.2
  generalize (f.cd.x p).op = op at *
  generalize f.rs g p = rb at *
  have rF := H2.out.b.range
  by_cases o25 : op = 25
  · subst o25
    have HE : Hid (R = true) := HWS.out
    go_wp2
    go_ret
    exact ⟨ret_bool HE.out.symm, H2.out.bl⟩
  have n25 : (op == 25) = false := by simpa using o25
  by_cases o9 : op = 9
  · subst o9
    have HE : Hid (R = rb) := HWS.out
    go_wp2_with (refine wpList_load_mid rfl 30 (.tmp 3) rfl w.heap.size 0 (by kernel_rfl) f.vs _ rF Try.underlying30 rfl (by kernel_rfl) ?_)
    refine hr.mono ?_
    rintro _ u3 ⟨rfl, hb⟩
    have H3 := hyd (H2.out.kept hb)
    clear hr hb H2 rF r0 c14
    go_wp2
    go_ret
    exact ⟨ret_bool HE.out.symm, H3.out.bl⟩
  have n9 : (op == 9) = false := by simpa using o9
  by_cases o10 : op = 10
  · subst o10
    have HE : Hid (R = rb) := HWS.out
    go_wp2_with (refine wpList_load_mid rfl 30 (.tmp 3) rfl w.heap.size 0 (by kernel_rfl) f.vs _ rF Try.underlying30 rfl (by kernel_rfl) ?_)
    refine hr.mono ?_
    rintro _ u3 ⟨rfl, hb⟩
    have H3 := hyd (H2.out.kept hb)
    clear hr hb H2 rF r0 c14
    go_wp2
    go_ret
    exact ⟨ret_bool HE.out.symm, H3.out.bl⟩
  have n10 : (op == 10) = false := by simpa using o10
  by_cases o19 : op = 19
  · subst o19
    have HE : Hid (R = rb) := HWS.out
    go_wp2_with (refine wpList_load_mid rfl 30 (.tmp 3) rfl w.heap.size 0 (by kernel_rfl) f.vs _ rF Try.underlying30 rfl (by kernel_rfl) ?_)
    refine hr.mono ?_
    rintro _ u3 ⟨rfl, hb⟩
    have H3 := hyd (H2.out.kept hb)
    clear hr hb H2 rF r0 c14
    go_wp2
    go_ret
    exact ⟨ret_bool HE.out.symm, H3.out.bl⟩
  have n19 : (op == 19) = false := by simpa using o19
  have HE : Hid (R = false) := by show _ = _; rw [HWS.out, decide_eq_false o25, decide_eq_false o9, decide_eq_false o10, decide_eq_false o19]; rfl
  clear o25 o9 o10 o19 HWS
  go_wp2
  go_ret
  exact ⟨ret_bool HE.out.symm, H2.out.bl⟩
end Go.Proofs.Ytibhcbdofadamaa
