/- Layer 16: a region up to a join; Join, Of. -/
import Derived.Test.YtibhcbdofadamaaP18
import Derived.Test.YtibhcbdofadamaaP19
namespace Go.Proofs.Ytibhcbdofadamaa
open Go Go.RowKit

theorem wp_store_wroteR {o : Oper} {a : Act} {w : World} {K : Act → World → Prop} {Q : Exit → Act → World → Prop} (t : TypeId) (p x : Operand) (ho : o.op = .store t p x) (hdst : o.dst = none) (B : Nat) (vs c : List Value) (hp : a.eval p = .pointer (some ⟨B, 0, none⟩)) (hx : a.eval x = .agg vs.toArray) (h1 : vs.all (·.oneCell') = true)
    (hb : Blk w B c t) (hl : c.length = vs.length) (hi : (Try.prog.info? t).map (·.size) = some vs.toArray.size) (h : ∀ w', WroteB w w' B vs t → K a w') : o.wp Try.prog a w K Q := by
  refine wp_store_mid t p x ho B 0 vs.toArray hp hx ?_ hi (by simpa using h1) ?_
  · have := hb.there; rw [hl] at this; simpa using this
  · rw [hdst]
    exact h _ (wrote_setCells hb vs hl)
theorem Agd.ag {f : Cf} (h : Agd f) : Ag f := ⟨h.jmp, h.han⟩
theorem Agd.up {f : Cf} (h : Agd f) (g : Rw Bool) : Up f g := h.ag.ahd g
/-- A region that was made, of a place and a join. -/
structure Rg1 (f : Cf) (g : Rw Bool) (p : Nat) (j : Int) (x : Rn) : Prop where
  at_ : x.at_ = p
  join : x.join = j
  ps : x.ps.ls = (Fl.lst f.cd.len (Fl.Rch (f.wy g) (f.wy g p) j)).map fun q : Nat => (q : Int)
def RgP (f : Cf) (g : Rw Bool) (p : Nat) (j : Int) (w : World) : Ending → World → Prop := fun e w' => ∃ x : Rn, e = .returned (.agg x.vs.toArray) ∧ x.At w' ∧ Rg1 f g p j x ∧ Oi w' w.heap.size (.slice x.ps.ao x.ps.len x.ps.cap) x.ps.ls ∧ Below w.heap.size w w'

set_option maxRecDepth 100000 in
set_option maxHeartbeats 16000000 in
theorem region_any (f : Cf) (g : Rw Bool) (p : Nat) (j : Int) (w : World) (hf : f.At w) (hg : BlAt w g) (hp : p < f.cd.len) (hj : I64 j) (hn : f.cd.len ≤ 100000) : Calls Try.prog 24 #[.agg f.vs.toArray, .slice g.ao g.len g.cap, .int .i64 p, .int .i64 j] w (RgP f g p j w) := by
  have A0 := allocs_below [.cells f.vs.toArray 30, .cells z_rn.toArray 38] w
  have A1 := allocs_heap [.cells f.vs.toArray 30, .cells z_rn.toArray 38] w
  simp only [List.foldl] at A0 A1
  unfold z_rn at A0 A1
  have H1 := hyd (show Below w.heap.size w _ ∧ Blk _ w.heap.size f.vs 30 ∧ Blk _ (w.heap.size + 1) z_rn 38 from ⟨A0, A1 0 (by simp), A1 1 (by simp)⟩)
  have HD := hyd (show (f.At w ∧ BlAt w g) ∧ I64 j from ⟨⟨hf, hg⟩, hj⟩)
  have HPI : Hid (I64 (p : Int)) := ⟨by omega, by omega⟩
  clear A0 A1 hf hg hj
  go_enter Try.func24, Try.ntmps24
  go_upto_region 1 with fail
  generalize (w.alloc (.cells f.vs.toArray 30)).alloc (.cells [.int .i64 0, .int .i64 0, .slice none 0 0].toArray 38) = u1 at *
  have D1 := (Below.refl u1.heap.size u1).drew
  have H2 := hyd (show Below w.heap.size w u1.drew ∧ Blk u1.drew w.heap.size f.vs 30 ∧ Blk u1.drew (w.heap.size + 1) z_rn 38 from ⟨Below.next H1.out.1 D1, H1.out.2.1.kept D1, H1.out.2.2.kept D1⟩)
  have hCF : ∀ q, (∃ x : Wd (fun q => Blk q w.heap.size f.vs 30), q = x.w) → q.rangeAt w.heap.size 0 f.vs := by rintro _ ⟨x, rfl⟩; exact x.2.range
  have hNE : Nonempty (Wd (fun q => Blk q w.heap.size f.vs 30)) := ⟨⟨_, H2.out.2.1⟩⟩
  refine wp_region_readsL (fun q => Blk q w.heap.size f.vs 30) 11 [0, 1, 2, 3, 4, 5, 6, 8] 4 (by kernel_rfl) rfl (by kernel_rfl) H2.out.2.1 ?_
  simp only [List.filterMap, List.getElem?_cons_zero, List.getElem?_cons_succ]
  iterate 2 go_big_quiet_step (fail)
  go_big_quiet_want
  refine quiet_load_rowF 30 (.tmp 4) rfl w.heap.size 0 (by kernel_rfl) f.vs _ hCF Try.underlying30 rfl (by kernel_rfl) ?_
  simp only [Act.put, List.setIfInBounds_toArray, List.set_cons_succ, List.set_cons_zero]
  go_big_quiet_on
  go_big_quiet_step (fail)
  go_big_quiet_want
  refine quiet_load_rowF 30 (.tmp 4) rfl w.heap.size 0 (by kernel_rfl) f.vs _ hCF Try.underlying30 rfl (by kernel_rfl) ?_
  simp only [Act.put, List.setIfInBounds_toArray, List.set_cons_succ, List.set_cons_zero]
  go_big_quiet_on
  iterate 3 go_big_quiet_step (fail)
  refine wpQuiet_nil ?_
  clear hCF hNE D1 H1
  generalize u1.drew = y0 at *
  refine wpAnyL_ready (rs := [7]) (by kernel_rfl) (by simp) ?_
  refine AllReadyL.cons rfl (fun K hK => ?_) AllReadyL.nil
  rw [if_pos (by rfl)]
  go_simp
  refine (ways_any f g p y0 (Cf.At.kept H2.out.1 HD.out.1.1) (BlAt.kept HD.out.1.2 H2.out.1) hp).mono ?_
  rintro _ y1 ⟨v1, rfl, hO, hb⟩
  obtain ⟨rw1, rfl, hrw, hrwl⟩ := hO.readW hn
  have H3 := hyd (show (Below w.heap.size w y1 ∧ Blk y1 w.heap.size f.vs 30 ∧ Blk y1 (w.heap.size + 1) z_rn 38) ∧ NmAt y1 rw1 from ⟨⟨Below.next H2.out.1 hb, H2.out.2.1.kept hb, H2.out.2.2.kept hb⟩, hrw⟩)
  have HE : Hid (f.rch g rw1 j = (Fl.lst f.cd.len (Fl.Rch (f.wy g) (f.wy g p) j)).map fun q : Nat => (q : Int)) := Cf.rch_ways hp hrwl
  clear hO hrw hrwl hb H2
  refine hK.out _ _ (fun _ => H3.out.1.2.1) ?_
  clear hK K
  refine wpAnyL_ready (rs := [9]) (by kernel_rfl) (by simp) ?_
  refine AllReadyL.cons rfl (fun K hK => ?_) AllReadyL.nil
  rw [if_pos (by rfl)]
  go_simp
  refine (reach_any f g rw1 j y1 (Cf.At.kept H3.out.1.1 HD.out.1.1) (BlAt.kept HD.out.1.2 H3.out.1.1) H3.out.2 hn).mono ?_
  rintro _ y2 ⟨v2, rfl, hO, hb⟩
  have hO' := hO
  obtain ⟨rr, rfl, hrr, hrrl⟩ := hO.readR hn
  have H4 := hyd (show (Below w.heap.size w y2 ∧ Blk y2 w.heap.size f.vs 30 ∧ Blk y2 (w.heap.size + 1) z_rn 38) ∧ NmAt y2 rr ∧ Oi y2 (w.heap.size + 2) (.slice rr.ao rr.len rr.cap) rr.ls from ⟨⟨Below.next H3.out.1.1 hb, H3.out.1.2.1.kept hb, H3.out.1.2.2.kept hb⟩, hrr, by rw [hrrl]; exact own_mono hO' (by have := H3.out.1.2.2.lt; omega)⟩)
  have HRL := hyd hrrl
  clear hO hO' hrr hrrl hb H3
  refine hK.out _ _ (fun _ => H4.out.1.2.1) ?_
  clear hK K
  refine wpAnyL_ready (rs := [10]) (by kernel_rfl) (by simp) ?_
  refine AllReadyL.cons rfl (fun K hK => ?_) AllReadyL.nil
  rw [if_pos (by rfl)]
  go_simp
  refine hK.out _ _ (fun _ => H4.out.1.2.1) ?_
  clear hK K
  refine wpAnyL_ready (rs := [11]) (by kernel_rfl) (by simp) ?_
  refine AllReadyL.cons rfl (fun K hK => ?_) AllReadyL.nil
  rw [if_pos (by rfl)]
  refine wp_store_wroteR 38 (.tmp 8) (.tmp 19) rfl rfl (w.heap.size + 1) [.int .i64 p, .int .i64 j, .slice rr.ao rr.len rr.cap] z_rn (by kernel_rfl) (by kernel_rfl) rfl H4.out.1.2.2 rfl (by kernel_rfl) ?_
  intro y3 W3
  have rB := W3.blk.range
  have HI3 := own_gb H4.out.2.2 W3.gb (fun k e e2 => by have := (owb H4.out.2.2 e).1; have := Option.some.inj e2; omega)
  have hB3 := gb_bel H4.out.1.1 W3.gb (fun k e => by have := Option.some.inj e; omega)
  have hs := lstm_small (n := f.cd.len) (P := Fl.Rch (f.wy g) (f.wy g p) j) hn
  rw [← HE.out, ← HRL.out] at hs
  obtain ⟨r5, h51, h52, h53, _, _⟩ := (show Oi y3 (w.heap.size + 2) (.slice rr.ao rr.len rr.cap) rr.ls from HI3).rw hs.1 hs.2
  have H5 := hyd (show RgP f g p j w (.returned (.agg #[.int .i64 p, .int .i64 j, .slice rr.ao rr.len rr.cap])) y3 from ⟨⟨p, j, r5⟩, by rw [h51]; rfl, ⟨HPI.out, HD.out.2, h52⟩, ⟨rfl, rfl, by rw [← HE.out, ← HRL.out, ← h53]⟩, own_mono (by rw [← h51, h53]; exact HI3) (by omega), hB3⟩)
  refine hK.out _ _ (fun h => absurd rfl h) ?_
  clear hK K W3 H4 HI3 hB3 hs h51 h52 h53
  refine wpAnyL_done (by kernel_rfl) ?_ _
  refine ⟨(fun c hc => by cases hc), ?_⟩
  go_wp2
  exact bodyPost_ret (v := .agg #[.int .i64 p, .int .i64 j, .slice rr.ao rr.len rr.cap]) (results_rowG (vs := [.int .i64 p, .int .i64 j, .slice rr.ao rr.len rr.cap]) Try.underlying38 rfl (by kernel_rfl) Try.results24 rfl rB) rfl H5.out
end Go.Proofs.Ytibhcbdofadamaa

/- Layer 16: which places a region holds; what each of them is asked. -/
namespace Go.Proofs.Ytibhcbdofadamaa
open Go Go.RowKit

/-- The places that stand in a list. -/
def hldM (r : Rw Int) (k p : Nat) : Bool := decide ((p : Int) ∈ r.ls.take k)
theorem hldM_all (r : Rw Int) (p : Nat) : hldM r r.len p = decide ((p : Int) ∈ r.ls) := by
  unfold hldM
  rw [List.take_of_length_le (by rw [r.ls_len]; exact Nat.le_refl _)]
theorem ls_take_succ {r : Rw Int} {k : Nat} (h : k < r.len) : r.ls.take (k + 1) = r.ls.take k ++ [r.x k] := by
  rw [List.take_succ_eq_append_getElem (by rw [r.ls_len]; exact h)]
  have := r.ls_get k h
  rw [List.getElem?_eq_getElem (by rw [r.ls_len]; exact h)] at this
  rw [Option.some.inj this]
theorem hld_yes {r : Rw Int} {k q n : Nat} (h : k < r.len) (hq : r.x k = q) : bvL (updB (hldM r k) q) n = bvL (hldM r (k + 1)) n := by
  unfold bvL
  apply List.map_congr_left
  intro i _
  congr 1
  unfold updB hldM
  rw [ls_take_succ h, hq]
  by_cases e : i = q
  · subst e; simp
  · rw [if_neg e]
    have : ¬ (i : Int) = q := by omega
    simp [this]
theorem hld_no {r : Rw Int} {k n : Nat} (h : k < r.len) (hq : ¬ (0 ≤ r.x k ∧ r.x k < n)) : bvL (hldM r k) n = bvL (hldM r (k + 1)) n := by
  unfold bvL
  apply List.map_congr_left
  intro i hi
  congr 1
  unfold hldM
  rw [ls_take_succ h]
  have hi := List.mem_range.1 hi
  have : ¬ (i : Int) = r.x k := by omega
  simp [this]
theorem hld_zero (r : Rw Int) (n : Nat) : bvL (hldM r 0) n = bvL (fun _ => false) n := by
  unfold bvL
  apply List.map_congr_left
  intro i _
  congr 1
structure Hb (w0 : World) (f : Cf) (r : Rw Int) (BH k : Nat) (u : World) : Prop where
  bl : Below w0.heap.size w0 u
  bF : Blk u w0.heap.size f.vs 30
  bH : Blk u BH (bvL (hldM r k) f.cd.len) 4
  ne : w0.heap.size < BH
theorem Hb.kept {w0 : World} {f : Cf} {r : Rw Int} {BH k : Nat} {u u' : World} (h : Hb w0 f r BH k u) (hb : Below u.heap.size u u') : Hb w0 f r BH k u' := ⟨Below.next h.bl hb, h.bF.kept hb, h.bH.kept hb, h.ne⟩

set_option maxRecDepth 100000 in
set_option maxHeartbeats 8000000 in
theorem heldBy_any (f : Cf) (r : Rw Int) (w : World) (hr : NmAt w r) (hn : f.cd.len ≤ 100000) : Calls Try.prog 26 #[.agg f.vs.toArray, .slice r.ao r.len r.cap] w fun e w' => ∃ BH : Nat, e = .returned (.slice (some ⟨BH, 0, none⟩) f.cd.len f.cd.len) ∧ w.heap.size < BH ∧ Blk w' BH (bvL (fun p => decide ((p : Int) ∈ r.ls)) f.cd.len) 4 ∧ Below w.heap.size w w' := by
  have HFIN : Hid (∀ u BH, Hb w f r BH r.len u → Blk u BH (bvL (fun p => decide ((p : Int) ∈ r.ls)) f.cd.len) 4) := fun u BH h => by
    have := h.bH
    rw [show hldM r r.len = fun p : Nat => decide ((p : Int) ∈ r.ls) from funext (hldM_all r)] at this
    exact this
  have H1 := hyd (Fb.new w f)
  have HD := hyd hr
  have hbr := hr.bound
  have HNR := hyd hr.nil
  clear hr
  generalize hw : w.alloc (.cells f.vs.toArray 30) = u1 at *
  go_enter Try.func26, Try.ntmps26
  go_upto_region 1 with fail
  clear hw
  have c14 := H1.out.b.cell 14 rfl
  go_upto_region 2 with (refine wpList_make_blk rfl _ _ _ rfl 4 (.bool false) 1 Try.underlying31 (by kernel_rfl) rfl f.cd.len rfl rfl (by omega) (by omega) ?_; intro w1 hb1 hl1; have H2 : Hid (Hb w f r u1.heap.size 0 w1) := ⟨Below.next H1.out.bl hl1, H1.out.b.kept hl1, by rw [hld_zero, ← rpl_bvL]; exact hb1, H1.out.b.lt⟩; clear hb1 hl1 H1 c14)
  generalize u1.heap.size = BH at *
  go_wp2
  go_loopw [14] (fun i wr => ∃ (k : Nat), k ≤ r.len ∧ i = .int .i64 k ∧ Hb w f r BH k wr) (fun i _ => r.len - (intOf i).toNat)
  case atStart => exact ⟨0, Nat.zero_le _, rfl, H2.out⟩
  case round =>
    clear H2
    obtain ⟨k, hk, rfl, hB⟩ := hrel
    have HB := hyd hB
    clear hB
    by_cases hlt : k < r.len
    · have ik : (k : Int) < r.len := by omega
      have r0 := (HD.out.kept HB.out.bl).row k hlt 0 _ rfl
      simp only [Nat.add_zero, Nat.mul_one] at r0
      have HY := hyd (fun q h => hld_yes (q := q) (n := f.cd.len) hlt h)
      have HN := hyd (fun h => hld_no (n := f.cd.len) hlt h)
      have rF := HB.out.bF.range
      have h0 := gplace_any f (r.x k) wr
      have HPL := hyd (Cf.pl_iff (f := f) (a := r.x k))
      rw [HNR.out (by omega)]
      generalize r.x k = z at *
      generalize f.pl z = pb at *
      go_wp2_with (refine wpList_load_mid rfl 30 (.tmp 2) rfl w.heap.size 0 (by kernel_rfl) f.vs _ rF Try.underlying30 rfl (by kernel_rfl) ?_)
      refine h0.mono ?_
      rintro _ u3 ⟨rfl, hb⟩
      have H3 := hyd (HB.out.kept hb)
      clear h0 hb HB rF r0
      cases pb
      · have HE : Hid (bvL (hldM r k) f.cd.len = bvL (hldM r (k + 1)) f.cd.len) := HN.out (fun h => by have := HPL.out.2 h; cases this)
        clear HY HN HPL
        go_wp2
        go_roundw
        case rel => exact ⟨k + 1, by omega, by go_num, ⟨H3.out.bl, H3.out.bF, by rw [← HE.out]; exact H3.out.bH, H3.out.ne⟩⟩
        case measure => simp [intOf]; omega
      · have hz := HPL.out.1 rfl
        obtain ⟨q, rfl⟩ : ∃ q : Nat, z = q := ⟨z.toNat, by omega⟩
        have HE := hyd (HY.out q rfl)
        have iq : (q : Int) < f.cd.len := hz.2
        clear HY HN HPL hz
        go_wp2_with (refine wpList_store1 rfl 4 (.tmp 23) (.const (.bool true)) rfl rfl BH q (.bool true) _ _ (by kernel_rfl) (by kernel_rfl) (store_one _ _ (by kernel_rfl) rfl rfl _ _) H3.out.bH (by rw [bvL_len]; omega) ?_; intro w5 W5; have H5 : Hid (Hb w f r BH (k + 1) w5) := ⟨gb_bel H3.out.bl W5.gb (fun k e => by have := Option.some.inj e; have := H3.out.ne; omega), H3.out.bF.gb W5.gb (fun e => by have := Option.some.inj e; have := H3.out.ne; omega), by rw [← HE.out, ← bvL_set]; exact W5.blk, H3.out.ne⟩; clear W5 H3)
        go_roundw
        case rel => exact ⟨k + 1, by omega, by go_num, H5.out⟩
        case measure => simp [intOf]; omega
    · have ik : ¬ (k : Int) < r.len := by omega
      have hke : k = r.len := by omega
      subst hke
      have HE := hyd (HFIN.out _ _ HB.out)
      go_wp2
      go_ret
      exact ⟨BH, rfl, HB.out.ne, HE.out, HB.out.bl⟩
end Go.Proofs.Ytibhcbdofadamaa

/- Layer 16: Join, Of. -/
namespace Go.Proofs.Ytibhcbdofadamaa
open Go Go.RowKit

/-- A region behind a store into another block. -/
theorem rn_gb {x : Rn} {u u' : World} {B base : Nat} (ho : Oi u base (.slice x.ps.ao x.ps.len x.ps.cap) x.ps.ls) (hx : x.At u) (hg : u.grownBy u' (some B)) (hB : B < base) : ∃ x' : Rn, x'.vs = x.vs ∧ x'.At u' ∧ x'.at_ = x.at_ ∧ x'.join = x.join ∧ x'.ps.ls = x.ps.ls ∧ Oi u' base (.slice x'.ps.ao x'.ps.len x'.ps.cap) x'.ps.ls := by
  have h1 := own_gb ho hg (fun k e e2 => by have := (owb ho e).1; have := Option.some.inj e2; omega)
  obtain ⟨r, h2, h3, h4, _, _⟩ := (show Oi u' base (.slice x.ps.ao x.ps.len x.ps.cap) x.ps.ls from h1).rw (fun a ha => by
    obtain ⟨i, hi, rfl⟩ := Rw.mem_ls.1 ha
    exact hx.ps.each i hi) (by rw [Rw.ls_len]; exact hx.ps.bound)
  exact ⟨⟨x.at_, x.join, r⟩, by show [Value.int .i64 x.at_, Value.int .i64 x.join, Value.slice r.ao r.len r.cap] = _; rw [← h2]; rfl, ⟨hx.at_, hx.join, h3⟩, rfl, rfl, h4, by rw [← h2, h4]; exact h1⟩
/-- What lean makes, with the joins. -/
theorem Ln.region {f l : Cf} {g : Rw Bool} (h : Ln f g l) {p : Nat} {j : Int} {x : Rn} (hx : Rg1 l g p j x) : Rg1 f g p j x := ⟨hx.at_, hx.join, by rw [hx.ps, h.cd, h.wy]⟩
theorem Rg1.md {f : Cf} {g : Rw Bool} {p : Nat} {x : Rn} (h : Rg1 f g p (f.jn g p) x) : Md f g p x := ⟨h.at_, h.join, h.ps⟩
theorem jn_i64 {f : Cf} {g : Rw Bool} (hA : Up f g) {p : Nat} (hp : p < f.cd.len) (hn : f.cd.len ≤ 100000) : I64 (f.jn g p) := by
  rcases hA.jn_in hp with h | h
  · rw [h]; exact ⟨by omega, by omega⟩
  · exact ⟨by omega, by omega⟩

set_option maxRecDepth 100000 in
set_option maxHeartbeats 16000000 in
theorem gjoin_any (f : Cf) (g : Rw Bool) (p : Nat) (w : World) (hf : f.At w) (hg : BlAt w g) (hA : Agd f) (hp : p < f.cd.len) (hh : f.hd.len ≤ 100000) : Calls Try.prog 17 #[.agg f.vs.toArray, .slice g.ao g.len g.cap, .int .i64 p] w fun e w' => e = .returned (.int .i64 (f.jn g p)) ∧ Below w.heap.size w w' := by
  have hn : f.cd.len ≤ 100000 := by have := hA.few; omega
  obtain ⟨z, hz⟩ : ∃ z, f.jn g p = z := ⟨_, rfl⟩
  rw [hz]
  have HZ := hyd hz
  clear hz
  have H1 := hyd (Fb.new w f)
  have HD := hyd (show (f.At w ∧ BlAt w g) ∧ Agd f ∧ p < f.cd.len from ⟨⟨hf, hg⟩, hA, hp⟩)
  have hpl : f.pl p = true := Cf.pl_iff.2 ⟨by omega, by omega⟩
  have HP := hyd hpl
  clear hf hg hA hpl
  generalize hw : w.alloc (.cells f.vs.toArray 30) = u1 at *
  go_enter Try.func17, Try.ntmps17
  go_upto_region 1 with fail
  clear hw
  have rF := H1.out.b.range
  have h0 := goesAhead_yes f u1 (Cf.At.kept H1.out.bl HD.out.1.1) HD.out.2.1
  go_wp2_with (refine wpList_load_mid rfl 30 (.tmp 3) rfl w.heap.size 0 (by kernel_rfl) f.vs _ rF Try.underlying30 rfl (by kernel_rfl) ?_)
  refine h0.mono ?_
  rintro _ u2 ⟨rfl, hb⟩
  have H2 := hyd (H1.out.kept hb)
  clear h0 hb H1 rF
  have rF := H2.out.b.range
  have h0 := gplace_any f p u2
  rw [HP.out] at h0
  go_wp2_with (refine wpList_loadW (by kernel_rfl) 30 (.tmp 3) rfl w.heap.size 0 (by kernel_rfl) f.vs _ rF Try.underlying30 rfl (by kernel_rfl) ?_)
  refine h0.mono ?_
  rintro _ u3 ⟨rfl, hb⟩
  have H3 := hyd (H2.out.kept hb)
  clear h0 hb H2 rF
  have rF := H3.out.b.range
  have h0 := lean_any f g u3 (Cf.At.kept H3.out.bl HD.out.1.1) (BlAt.kept HD.out.1.2 H3.out.bl) hn hh
  go_wp2_with (refine wpList_load_mid rfl 30 (.tmp 3) rfl w.heap.size 0 (by kernel_rfl) f.vs _ rF Try.underlying30 rfl (by kernel_rfl) ?_)
  refine h0.mono ?_
  rintro _ u4 ⟨l, rfl, hlO, hb⟩
  have H4 := hyd (Below.next H3.out.bl hb)
  have hl := hlO.lat
  have hL := hlO.ln
  have HL := hyd hL
  have h1 := joins_any l g u4 hl (BlAt.kept HD.out.1.2 H4.out) (hL.up (HD.out.2.1.up g)) (by rw [hL.cd]; exact hn)
  have HLL := hyd hL.cd
  clear h0 hl hL hlO hb H3 rF
  generalize l.vs.toArray = V at *
  go_wp2_with fail
  refine h1.mono ?_
  rintro _ u5 ⟨B, rfl, _, hB, hb⟩
  have H5 := hyd (Below.next H4.out hb)
  have cB := hB.cell p (nvL_get (l.jn g) (by rw [HLL.out]; exact hp))
  rw [HL.out.jn, HZ.out] at cB
  rw [HLL.out]
  have ip : (p : Int) < f.cd.len := by omega
  clear h1 hB hb H4
  go_wp2
  go_ret
  exact ⟨rfl, H5.out⟩
def OfP (f : Cf) (g : Rw Bool) (p : Nat) (w : World) : Ending → World → Prop := fun e w' => ∃ x : Rn, e = .returned (.agg x.vs.toArray) ∧ x.At w' ∧ Md f g p x ∧ Oi w' w.heap.size (.slice x.ps.ao x.ps.len x.ps.cap) x.ps.ls ∧ Below w.heap.size w w'

set_option maxRecDepth 100000 in
set_option maxHeartbeats 16000000 in
theorem of_any (f : Cf) (g : Rw Bool) (p : Nat) (w : World) (hf : f.At w) (hg : BlAt w g) (hA : Agd f) (hp : p < f.cd.len) (hh : f.hd.len ≤ 100000) : Calls Try.prog 11 #[.agg f.vs.toArray, .slice g.ao g.len g.cap, .int .i64 p] w (OfP f g p w) := by
  have hn : f.cd.len ≤ 100000 := by have := hA.few; omega
  have A0 := allocs_below [.cells f.vs.toArray 30, .cells z_rn.toArray 38] w
  have A1 := allocs_heap [.cells f.vs.toArray 30, .cells z_rn.toArray 38] w
  simp only [List.foldl] at A0 A1
  unfold z_rn at A0 A1
  have H1 := hyd (show Below w.heap.size w _ ∧ Blk _ w.heap.size f.vs 30 ∧ Blk _ (w.heap.size + 1) z_rn 38 from ⟨A0, A1 0 (by simp), A1 1 (by simp)⟩)
  have HD := hyd (show (f.At w ∧ BlAt w g) ∧ Agd f ∧ p < f.cd.len from ⟨⟨hf, hg⟩, hA, hp⟩)
  have HJI := hyd (jn_i64 (hA.up g) hp hn)
  have hpl : f.pl p = true := Cf.pl_iff.2 ⟨by omega, by omega⟩
  have HP := hyd hpl
  clear A0 A1 hf hg hA hpl
  go_enter Try.func11, Try.ntmps11
  go_upto_region 1 with fail
  generalize (w.alloc (.cells f.vs.toArray 30)).alloc (.cells [.int .i64 0, .int .i64 0, .slice none 0 0].toArray 38) = u1 at *
  have rF := H1.out.2.1.range
  have h0 := goesAhead_yes f u1 (Cf.At.kept H1.out.1 HD.out.1.1) HD.out.2.1
  go_wp2_with (refine wpList_load_mid rfl 30 (.tmp 3) rfl w.heap.size 0 (by kernel_rfl) f.vs _ rF Try.underlying30 rfl (by kernel_rfl) ?_)
  refine h0.mono ?_
  rintro _ u2 ⟨rfl, hb⟩
  have H2 := hyd (show Below w.heap.size w u2 ∧ Blk u2 w.heap.size f.vs 30 ∧ Blk u2 (w.heap.size + 1) z_rn 38 from ⟨Below.next H1.out.1 hb, H1.out.2.1.kept hb, H1.out.2.2.kept hb⟩)
  clear h0 hb H1 rF
  have rF := H2.out.2.1.range
  have h0 := gplace_any f p u2
  rw [HP.out] at h0
  go_wp2_with (refine wpList_loadW (by kernel_rfl) 30 (.tmp 3) rfl w.heap.size 0 (by kernel_rfl) f.vs _ rF Try.underlying30 rfl (by kernel_rfl) ?_)
  refine h0.mono ?_
  rintro _ u3 ⟨rfl, hb⟩
  have H3 := hyd (show Below w.heap.size w u3 ∧ Blk u3 w.heap.size f.vs 30 ∧ Blk u3 (w.heap.size + 1) z_rn 38 from ⟨Below.next H2.out.1 hb, H2.out.2.1.kept hb, H2.out.2.2.kept hb⟩)
  clear h0 hb H2 rF
  have rF := H3.out.2.1.range
  have h0 := lean_any f g u3 (Cf.At.kept H3.out.1 HD.out.1.1) (BlAt.kept HD.out.1.2 H3.out.1) hn hh
  go_wp2_with (refine wpList_load_mid rfl 30 (.tmp 3) rfl w.heap.size 0 (by kernel_rfl) f.vs _ rF Try.underlying30 rfl (by kernel_rfl) ?_)
  refine h0.mono ?_
  rintro _ u4 ⟨l0, rfl, hlO, hb⟩
  have H4 := hyd (show (Below w.heap.size w u4 ∧ Blk u4 w.heap.size f.vs 30 ∧ Blk u4 (w.heap.size + 1) z_rn 38) ∧ LnO f g u3.heap.size l0 u4 from ⟨⟨Below.next H3.out.1 hb, H3.out.2.1.kept hb, H3.out.2.2.kept hb⟩, hlO⟩)
  clear h0 hlO hb H3 rF
  go_upto_region 4 with (refine wpList_store_blk rfl rfl 30 (.tmp 3) (.tmp 19) rfl w.heap.size l0.vs rfl rfl l0.vs_one H4.out.1.2.1 rfl (by kernel_rfl) ?_; intro w5 W5; have H50 := hyd (show (Below w.heap.size w w5 ∧ Blk w5 w.heap.size l0.vs 30 ∧ Blk w5 (w.heap.size + 1) z_rn 38) ∧ w5.heap.size = u4.heap.size from ⟨⟨gb_bel H4.out.1.1 W5.gb (fun k e => by have := Option.some.inj e; omega), W5.blk, H4.out.1.2.2.gb W5.gb (fun e => by have := Option.some.inj e; omega)⟩, W5.size⟩); have HG5 := hyd (H4.out.2.gb W5.gb H4.out.1.2.1 (Cf.At.kept H50.out.1.1 HD.out.1.1)); clear W5 H4)
  obtain ⟨l, hlv, hlO⟩ := HG5.out
  rw [← hlv] at H50 ⊢
  have H5 := hyd H50.out.1
  have HO := hyd hlO
  clear H50 HG5 hlv hlO
  have D5 := (Below.refl w5.heap.size w5).drew
  have H6 := hyd (show (Below w.heap.size w w5.drew ∧ Blk w5.drew w.heap.size l.vs 30 ∧ Blk w5.drew (w.heap.size + 1) z_rn 38) ∧ l.At w5.drew from ⟨⟨Below.next H5.out.1 D5, H5.out.2.1.kept D5, H5.out.2.2.kept D5⟩, Cf.At.kept D5 HO.out.lat⟩)
  have HLN := hyd HO.out.ln
  clear HO H5
  have hCF : ∀ q, (∃ x : Wd (fun q => Blk q w.heap.size l.vs 30), q = x.w) → q.rangeAt w.heap.size 0 l.vs := by rintro _ ⟨x, rfl⟩; exact x.2.range
  have hNE : Nonempty (Wd (fun q => Blk q w.heap.size l.vs 30)) := ⟨⟨_, H6.out.1.2.1⟩⟩
  have hl2 : l0.vs.toArray = l0.vs.toArray := rfl
  clear hl2
  refine wp_region_readsL (fun q => Blk q w.heap.size l.vs 30) 10 [0, 1, 2, 3, 4, 6] 5 (by kernel_rfl) rfl (by kernel_rfl) H6.out.1.2.1 ?_
  simp only [List.filterMap, List.getElem?_cons_zero, List.getElem?_cons_succ]
  go_big_quiet_want
  refine quiet_load_rowF 30 (.tmp 3) rfl w.heap.size 0 (by kernel_rfl) l.vs _ hCF Try.underlying30 rfl (by kernel_rfl) ?_
  simp only [Act.put, List.setIfInBounds_toArray, List.set_cons_succ, List.set_cons_zero]
  go_big_quiet_on
  iterate 2 go_big_quiet_step (fail)
  go_big_quiet_want
  refine quiet_load_rowF 30 (.tmp 3) rfl w.heap.size 0 (by kernel_rfl) l.vs _ hCF Try.underlying30 rfl (by kernel_rfl) ?_
  simp only [Act.put, List.setIfInBounds_toArray, List.set_cons_succ, List.set_cons_zero]
  go_big_quiet_on
  iterate 2 go_big_quiet_step (fail)
  refine wpQuiet_nil ?_
  clear hCF hNE D5
  generalize w5.drew = y0 at *
  refine wpAnyL_ready (rs := [5]) (by kernel_rfl) (by simp) ?_
  refine AllReadyL.cons rfl (fun K hK => ?_) AllReadyL.nil
  rw [if_pos (by rfl)]
  go_simp
  refine (joins_any l g y0 H6.out.2 (BlAt.kept HD.out.1.2 H6.out.1.1) (HLN.out.up (HD.out.2.1.up g)) (by rw [HLN.out.cd]; exact hn)).mono ?_
  rintro _ y1 ⟨B, rfl, hBs, hB, hb⟩
  have H7 := hyd (show ((Below w.heap.size w y1 ∧ Blk y1 w.heap.size l.vs 30 ∧ Blk y1 (w.heap.size + 1) z_rn 38) ∧ l.At y1) ∧ Blk y1 B (nvL (l.jn g) l.cd.len) 3 from ⟨⟨⟨Below.next H6.out.1.1 hb, H6.out.1.2.1.kept hb, H6.out.1.2.2.kept hb⟩, Cf.At.kept hb H6.out.2⟩, hB⟩)
  clear hBs hB hb H6
  refine hK.out _ _ (fun _ => H7.out.1.1.2.1) ?_
  clear hK K
  have ip : (p : Int) < l.cd.len := by rw [HLN.out.cd]; omega
  have HCP : Hid (y1.cell? ⟨B, p, none⟩ = some (.int .i64 (f.jn g p))) := by
    have := H7.out.2.cell p (nvL_get (l.jn g) (by omega))
    rw [HLN.out.jn] at this
    exact this
  refine wpAnyL_ready (rs := [7]) (by kernel_rfl) (by simp) ?_
  refine AllReadyL.cons rfl (fun K hK => ?_) AllReadyL.nil
  rw [if_pos (by rfl)]
  go_simp
  refine hK.out _ _ (fun _ => H7.out.1.1.2.1) ?_
  clear hK K
  refine wpAnyL_ready (rs := [8]) (by kernel_rfl) (by simp) ?_
  refine AllReadyL.cons rfl (fun K hK => ?_) AllReadyL.nil
  rw [if_pos (by rfl)]
  have cP := HCP.out
  go_simp
  clear cP
  refine hK.out _ _ (fun _ => H7.out.1.1.2.1) ?_
  clear hK K
  refine wpAnyL_ready (rs := [9]) (by kernel_rfl) (by simp) ?_
  refine AllReadyL.cons rfl (fun K hK => ?_) AllReadyL.nil
  rw [if_pos (by rfl)]
  go_simp
  refine (region_any l g p (f.jn g p) y1 H7.out.1.2 (BlAt.kept HD.out.1.2 H7.out.1.1.1) (by omega) HJI.out (by rw [HLN.out.cd]; exact hn)).mono ?_
  rintro _ y2 ⟨x, rfl, hx, hR, hO, hb⟩
  have H8 := hyd (show (Below w.heap.size w y2 ∧ Blk y2 w.heap.size l.vs 30 ∧ Blk y2 (w.heap.size + 1) z_rn 38) ∧ x.At y2 ∧ Oi y2 (w.heap.size + 2) (.slice x.ps.ao x.ps.len x.ps.cap) x.ps.ls from ⟨⟨Below.next H7.out.1.1.1 hb, H7.out.1.1.2.1.kept hb, H7.out.1.1.2.2.kept hb⟩, hx, own_mono hO (by have := H7.out.1.1.2.2.lt; omega)⟩)
  have HMD := hyd ((HLN.out.region hR).md)
  clear hx hR hO hb H7 HCP
  refine hK.out _ _ (fun _ => H8.out.1.2.1) ?_
  clear hK K
  refine wpAnyL_ready (rs := [10]) (by kernel_rfl) (by simp) ?_
  refine AllReadyL.cons rfl (fun K hK => ?_) AllReadyL.nil
  rw [if_pos (by rfl)]
  refine wp_store_wroteR 38 (.tmp 6) (.tmp 29) rfl rfl (w.heap.size + 1) x.vs z_rn (by kernel_rfl) (by kernel_rfl) x.vs_one H8.out.1.2.2 rfl (by kernel_rfl) ?_
  intro y3 W3
  have rB := W3.blk.range
  have hB3 := gb_bel H8.out.1.1 W3.gb (fun k e => by have := Option.some.inj e; omega)
  obtain ⟨x', e1, e2, e3, e4, e5, e6⟩ := rn_gb H8.out.2.2 H8.out.2.1 W3.gb (by omega)
  have H9 := hyd (show OfP f g p w (.returned (.agg x.vs.toArray)) y3 from ⟨x', by rw [e1], e2, ⟨by rw [e3]; exact HMD.out.at_, by rw [e4]; exact HMD.out.join, by rw [e5]; exact HMD.out.ps⟩, own_mono e6 (by omega), hB3⟩)
  refine hK.out _ _ (fun h => absurd rfl h) ?_
  clear hK K W3 H8 hB3 e1 e2 e3 e4 e5 e6
  refine wpAnyL_done (by kernel_rfl) ?_ _
  refine ⟨(fun c hc => by cases hc), ?_⟩
  go_wp2
  exact bodyPost_ret (v := .agg x.vs.toArray) (results_rowG (vs := x.vs) Try.underlying38 rfl (by kernel_rfl) Try.results11 rfl rB) rfl H9.out
end Go.Proofs.Ytibhcbdofadamaa

/- Layer 16: what each place that a region holds is asked. -/
namespace Go.Proofs.Ytibhcbdofadamaa
open Go Go.RowKit

/-- The function, RAISES, the region, the places held, in their boxes. -/
structure Hz (BF BG BX B7 BH : Nat) (l : Cf) (g : Rw Bool) (x : Rn) (m : Nat → Bool) (u : World) : Prop where
  bF : Blk u BF l.vs 30
  bG : Blk u BG [.slice g.ao g.len g.cap] 31
  bX : Blk u BX x.vs 38
  b7 : Blk u B7 [.slice (some ⟨BH, 0, none⟩) l.cd.len l.cd.len] 31
  bH : Blk u BH (bvL m l.cd.len) 4
  lat : l.At u
  gat : BlAt u g
theorem Hz.kept {BF BG BX B7 BH : Nat} {l : Cf} {g : Rw Bool} {x : Rn} {m : Nat → Bool} {u u' : World} (h : Hz BF BG BX B7 BH l g x m u) (hb : Below u.heap.size u u') : Hz BF BG BX B7 BH l g x m u' := ⟨h.bF.kept hb, h.bG.kept hb, h.bX.kept hb, h.b7.kept hb, h.bH.kept hb, Cf.At.kept hb h.lat, h.gat.kept hb⟩
/-- It stays in the region, or goes to the join. -/
noncomputable def styB (l : Cf) (g : Rw Bool) (j : Int) (m : Nat → Bool) (p : Nat) : Bool := open Classical in decide (∀ b ∈ l.ws g p, m b.toNat = true ∨ b = j)
def remB (l : Cf) (g : Rw Bool) (j : Int) (p : Nat) : Bool := decide (j = -1) || !l.lv g p
noncomputable def ehB (m : Nat → Bool) (A : Nat → Bool) (n : Nat) : Bool := open Classical in decide (∀ p, p < n → m p = true → A p = true)

set_option maxRecDepth 100000 in
set_option maxHeartbeats 8000000 in
theorem stays_any (BF BG BX B7 BH : Nat) (l : Cf) (g : Rw Bool) (x : Rn) (m : Nat → Bool) (p : Nat) (w : World) (h : Hz BF BG BX B7 BH l g x m w) (hp : p < l.cd.len) (hn : l.cd.len ≤ 100000) : Calls Try.prog 27 #[.int .i64 p, .pointer (some ⟨BF, 0, none⟩), .pointer (some ⟨BG, 0, none⟩), .pointer (some ⟨B7, 0, none⟩), .pointer (some ⟨BX, 0, none⟩)] w fun e w' => e = .returned (.bool (styB l g x.join m p)) ∧ Below w.heap.size w w' := by
  have HY : Hid ((∀ b ∈ l.ws g p, m b.toNat = true ∨ b = x.join) → styB l g x.join m p = true) := fun h => by unfold styB; simpa using h
  have HN : Hid (∀ b ∈ l.ws g p, ¬ (m b.toNat = true ∨ b = x.join) → styB l g x.join m p = false) := fun b hb h => by
    unfold styB
    rw [decide_eq_false_iff_not]
    exact fun k => h (k b hb)
  have H1 := hyd h
  generalize styB l g x.join m p = R at *
  have h0 := ways_any l g p w h.lat h.gat hp
  have rF := h.bF.range
  have cG := h.bG.cell 0 rfl
  clear h
  go_enter Try.func27, Try.ntmps27
  go_wp2_with (refine wpList_load_mid rfl 30 (.tmp 1) rfl BF 0 (by kernel_rfl) l.vs _ rF Try.underlying30 rfl (by kernel_rfl) ?_)
  refine h0.mono ?_
  rintro _ u2 ⟨v, rfl, hO, hb⟩
  obtain ⟨rw1, rfl, hrw, hrwl⟩ := hO.readW hn
  have H2 := hyd (show (Hz BF BG BX B7 BH l g x m u2 ∧ NmAt u2 rw1) ∧ Below w.heap.size w u2 from ⟨⟨H1.out.kept hb, hrw⟩, hb⟩)
  have HWS : Hid (∀ k, k < rw1.len → ∃ q : Nat, rw1.x k = q ∧ q < l.cd.len) := fun k hk => by
    have h1 : rw1.x k ∈ rw1.ls := Rw.mem_ls.2 ⟨k, hk, rfl⟩
    rw [hrwl] at h1
    obtain ⟨q, e, hq⟩ := ws_mem.1 h1
    exact ⟨q, e, hq.1⟩
  have HWI : Hid (∀ k, k < rw1.len → rw1.x k ∈ l.ws g p) := fun k hk => by rw [← hrwl]; exact Rw.mem_ls.2 ⟨k, hk, rfl⟩
  have HWA : Hid ((∀ k, k < rw1.len → m (rw1.x k).toNat = true ∨ rw1.x k = x.join) → R = true) := fun h => HY.out (fun b hb => by
    rw [← hrwl] at hb
    obtain ⟨k, hk, rfl⟩ := Rw.mem_ls.1 hb
    exact h k hk)
  have hbr := hrw.bound
  have HNR := hyd hrw.nil
  clear h0 hO hrw hrwl hb H1 rF cG HY
  go_wp2
  go_loopw [14] (fun i wr => ∃ (k : Nat), k ≤ rw1.len ∧ i = .int .i64 k ∧ ((Hz BF BG BX B7 BH l g x m wr ∧ NmAt wr rw1) ∧ Below w.heap.size w wr) ∧ ∀ j, j < k → m (rw1.x j).toNat = true ∨ rw1.x j = x.join) (fun i _ => rw1.len - (intOf i).toNat)
  case atStart => exact ⟨0, Nat.zero_le _, rfl, H2.out, fun j hj => absurd hj (Nat.not_lt_zero _)⟩
  case round =>
    clear H2
    obtain ⟨k, hk, rfl, hB, hall⟩ := hrel
    have HB := hyd hB
    have HL := hyd hall
    clear hB hall
    by_cases hlt : k < rw1.len
    · have ik : (k : Int) < rw1.len := by omega
      have r0 := HB.out.1.2.row k hlt 0 _ rfl
      simp only [Nat.add_zero, Nat.mul_one] at r0
      obtain ⟨q, hq, hql⟩ := HWS.out k hlt
      have HN2 := hyd (HN.out _ (HWI.out k hlt))
      have HL2 : Hid (m (rw1.x k).toNat = true ∨ rw1.x k = x.join → ∀ j, j < k + 1 → m (rw1.x j).toNat = true ∨ rw1.x j = x.join) := fun h j hj => by
        by_cases e : j = k
        · rw [e]; exact h
        · exact HL.out j (by omega)
      rw [hq] at r0 HN2 HL2
      rw [Int.toNat_natCast] at HN2 HL2
      rw [HNR.out (by omega)]
      have c7 := HB.out.1.1.b7.cell 0 rfl
      have cH := HB.out.1.1.bH.cell q (bvL_get m hql)
      have cX := HB.out.1.1.bX.cell 1 rfl
      have iq : (q : Int) < l.cd.len := by omega
      have HB1 := hyd HB.out
      clear HB HL hq
      generalize x.join = xj at *
      cases hm : m q
      · rw [hm] at cH HN2 HL2
        by_cases ej : (q : Int) = xj
        · have e1 : ((q : Int) != xj) = false := by simpa using ej
          have HE := hyd (HL2.out (Or.inr ej))
          clear HN2 HL2 hm ej
          go_wp2
          go_roundw
          case rel => exact ⟨k + 1, by omega, by go_num, HB1.out, HE.out⟩
          case measure => simp [intOf]; omega
        · have e1 : ((q : Int) != xj) = true := by simpa using ej
          have HE : Hid (R = false) := HN2.out (fun h => by
            rcases h with h | h
            · cases h
            · exact ej h)
          clear HN2 HL2 hm ej
          go_wp2
          go_ret
          exact ⟨ret_bool HE.out.symm, HB1.out.2⟩
      · rw [hm] at cH HL2
        have HE := hyd (HL2.out (Or.inl rfl))
        clear HN2 HL2 hm
        go_wp2
        go_roundw
        case rel => exact ⟨k + 1, by omega, by go_num, HB1.out, HE.out⟩
        case measure => simp [intOf]; omega
    · have ik : ¬ (k : Int) < rw1.len := by omega
      have HE : Hid (R = true) := HWA.out (fun j hj => HL.out j (by omega))
      go_wp2
      go_ret
      exact ⟨ret_bool HE.out.symm, HB.out.2⟩

set_option maxRecDepth 100000 in
set_option maxHeartbeats 8000000 in
theorem remains_any (BF BG BX B7 BH : Nat) (l : Cf) (g : Rw Bool) (x : Rn) (m : Nat → Bool) (p : Nat) (w : World) (h : Hz BF BG BX B7 BH l g x m w) (hp : p < l.cd.len) : Calls Try.prog 28 #[.int .i64 p, .pointer (some ⟨BX, 0, none⟩), .pointer (some ⟨BF, 0, none⟩), .pointer (some ⟨BG, 0, none⟩)] w fun e w' => e = .returned (.bool (remB l g x.join p)) ∧ Below w.heap.size w w' := by
  have HR : Hid (remB l g x.join p = (decide (x.join = -1) || !l.lv g p)) := rfl
  generalize remB l g x.join p = R at *
  have h0 := leaves_any l g p w h.lat h.gat hp
  have rF := h.bF.range
  have cG := h.bG.cell 0 rfl
  have cX := h.bX.cell 1 rfl
  clear h
  generalize x.join = xj at *
  generalize l.lv g p = lb at *
  by_cases ej : xj = -1
  · subst ej
    have HE : Hid (R = true) := HR.out
    clear h0 HR
    go_enter Try.func28, Try.ntmps28
    go_wp2
    go_ret
    exact ⟨ret_bool HE.out.symm, Below.refl _ _⟩
  · have e1 : (xj == -1) = false := by simpa using ej
    have HE : Hid (R = !lb) := by show _ = _; rw [HR.out, decide_eq_false ej]; rfl
    clear ej HR
    go_enter Try.func28, Try.ntmps28
    go_wp2_with (refine wpList_loadW (by kernel_rfl) 30 (.tmp 2) rfl BF 0 (by kernel_rfl) l.vs _ rF Try.underlying30 rfl (by kernel_rfl) ?_)
    refine h0.mono ?_
    rintro _ u2 ⟨rfl, hb⟩
    have H2 := hyd hb
    clear h0 hb rF cG cX
    cases lb
    · have HE2 : Hid (R = true) := HE.out
      clear HE
      go_wp2
      go_ret
      exact ⟨ret_bool HE2.out.symm, H2.out⟩
    · have HE2 : Hid (R = false) := HE.out
      clear HE
      go_wp2
      go_ret
      exact ⟨ret_bool HE2.out.symm, H2.out⟩

set_option maxRecDepth 100000 in
set_option maxHeartbeats 8000000 in
theorem eachHeld1_any (BF BG BX B7 BH : Nat) (l : Cf) (g : Rw Bool) (x : Rn) (m : Nat → Bool) (w : World) (h : Hz BF BG BX B7 BH l g x m w) (hn : l.cd.len ≤ 100000) : Calls Try.prog 29 #[.slice (some ⟨BH, 0, none⟩) l.cd.len l.cd.len, .func (.func 27) #[] #[.pointer (some ⟨BF, 0, none⟩), .pointer (some ⟨BG, 0, none⟩), .pointer (some ⟨B7, 0, none⟩), .pointer (some ⟨BX, 0, none⟩)]] w fun e w' => e = .returned (.bool (ehB m (styB l g x.join m) l.cd.len)) ∧ Below w.heap.size w w' := by
  have HY : Hid ((∀ p, p < l.cd.len → m p = true → styB l g x.join m p = true) → ehB m (styB l g x.join m) l.cd.len = true) := fun h => by unfold ehB; simpa using h
  have HN : Hid (∀ p, p < l.cd.len → m p = true → styB l g x.join m p = false → ehB m (styB l g x.join m) l.cd.len = false) := fun p hp h1 h2 => by
    unfold ehB
    rw [decide_eq_false_iff_not]
    intro k
    have := k p hp h1
    rw [h2] at this; cases this
  have H1 := hyd h
  have HC : Hid (∀ p u, p < l.cd.len → Hz BF BG BX B7 BH l g x m u → Calls Try.prog 27 #[.int .i64 (p : Nat), .pointer (some ⟨BF, 0, none⟩), .pointer (some ⟨BG, 0, none⟩), .pointer (some ⟨B7, 0, none⟩), .pointer (some ⟨BX, 0, none⟩)] u fun e u' => e = .returned (.bool (styB l g x.join m p)) ∧ Below u.heap.size u u') := fun p u hp hu => stays_any BF BG BX B7 BH l g x m p u hu hp hn
  generalize ehB m (styB l g x.join m) l.cd.len = R at *
  generalize styB l g x.join m = AA at *
  clear h
  go_enter Try.func29, Try.ntmps29
  go_wp2
  go_loopw [9] (fun i wr => ∃ (k : Nat), k ≤ l.cd.len ∧ i = .int .i64 k ∧ (Hz BF BG BX B7 BH l g x m wr ∧ Below w.heap.size w wr) ∧ ∀ p, p < k → m p = true → AA p = true) (fun i _ => l.cd.len - (intOf i).toNat)
  case atStart => exact ⟨0, Nat.zero_le _, rfl, ⟨H1.out, Below.refl _ _⟩, fun j hj => absurd hj (Nat.not_lt_zero _)⟩
  case round =>
    clear H1
    obtain ⟨k, hk, rfl, hB, hall⟩ := hrel
    have HB := hyd hB
    have HL := hyd hall
    clear hB hall
    by_cases hlt : k < l.cd.len
    · have ik : (k : Int) < l.cd.len := by omega
      have cH := HB.out.1.bH.cell k (bvL_get m hlt)
      have HL2 : Hid ((m k = true → AA k = true) → ∀ j, j < k + 1 → m j = true → AA j = true) := fun h j hj => by
        by_cases e : j = k
        · rw [e]; exact h
        · exact HL.out j (by omega)
      have HN2 := hyd (HN.out k hlt)
      have h0 := HC.out k wr hlt HB.out.1
      generalize AA k = ab at *
      cases hm : m k
      · rw [hm] at cH HL2
        have HE := hyd (HL2.out (fun h => by cases h))
        have HB1 := hyd HB.out
        clear HL2 HN2 HL HB hm h0
        go_wp2
        go_roundw
        case rel => exact ⟨k + 1, by omega, by go_num, HB1.out, HE.out⟩
        case measure => simp [intOf]; omega
      · rw [hm] at cH HL2 HN2
        clear HL hm
        go_wp2_with fail
        refine h0.mono ?_
        rintro _ u3 ⟨rfl, hb⟩
        have HB1 := hyd (show Hz BF BG BX B7 BH l g x m u3 ∧ Below w.heap.size w u3 from ⟨HB.out.1.kept hb, Below.next HB.out.2 hb⟩)
        clear h0 hb HB cH
        cases ab
        · have HE := hyd (HN2.out (by simp) (by simp))
          clear HL2 HN2
          go_wp2
          go_ret
          exact ⟨ret_bool HE.out.symm, HB1.out.2⟩
        · have HE := hyd (HL2.out (fun _ => rfl))
          clear HL2 HN2
          go_wp2
          go_roundw
          case rel => exact ⟨k + 1, by omega, by go_num, HB1.out, HE.out⟩
          case measure => simp [intOf]; omega
    · have ik : ¬ (k : Int) < l.cd.len := by omega
      have HE : Hid (R = true) := HY.out (fun j hj => HL.out j (by omega))
      go_wp2
      go_ret
      exact ⟨ret_bool HE.out.symm, HB.out.2⟩

set_option maxRecDepth 100000 in
set_option maxHeartbeats 8000000 in
theorem eachHeld2_any (BF BG BX B7 BH : Nat) (l : Cf) (g : Rw Bool) (x : Rn) (m : Nat → Bool) (w : World) (h : Hz BF BG BX B7 BH l g x m w) (hn : l.cd.len ≤ 100000) : Calls Try.prog 29 #[.slice (some ⟨BH, 0, none⟩) l.cd.len l.cd.len, .func (.func 28) #[] #[.pointer (some ⟨BX, 0, none⟩), .pointer (some ⟨BF, 0, none⟩), .pointer (some ⟨BG, 0, none⟩)]] w fun e w' => e = .returned (.bool (ehB m (remB l g x.join) l.cd.len)) ∧ Below w.heap.size w w' := by
  have HY : Hid ((∀ p, p < l.cd.len → m p = true → remB l g x.join p = true) → ehB m (remB l g x.join) l.cd.len = true) := fun h => by unfold ehB; simpa using h
  have HN : Hid (∀ p, p < l.cd.len → m p = true → remB l g x.join p = false → ehB m (remB l g x.join) l.cd.len = false) := fun p hp h1 h2 => by
    unfold ehB
    rw [decide_eq_false_iff_not]
    intro k
    have := k p hp h1
    rw [h2] at this; cases this
  have H1 := hyd h
  have HC : Hid (∀ p u, p < l.cd.len → Hz BF BG BX B7 BH l g x m u → Calls Try.prog 28 #[.int .i64 (p : Nat), .pointer (some ⟨BX, 0, none⟩), .pointer (some ⟨BF, 0, none⟩), .pointer (some ⟨BG, 0, none⟩)] u fun e u' => e = .returned (.bool (remB l g x.join p)) ∧ Below u.heap.size u u') := fun p u hp hu => remains_any BF BG BX B7 BH l g x m p u hu hp
  generalize ehB m (remB l g x.join) l.cd.len = R at *
  generalize remB l g x.join = AA at *
  clear h
  go_enter Try.func29, Try.ntmps29
  go_wp2
  go_loopw [9] (fun i wr => ∃ (k : Nat), k ≤ l.cd.len ∧ i = .int .i64 k ∧ (Hz BF BG BX B7 BH l g x m wr ∧ Below w.heap.size w wr) ∧ ∀ p, p < k → m p = true → AA p = true) (fun i _ => l.cd.len - (intOf i).toNat)
  case atStart => exact ⟨0, Nat.zero_le _, rfl, ⟨H1.out, Below.refl _ _⟩, fun j hj => absurd hj (Nat.not_lt_zero _)⟩
  case round =>
    clear H1
    obtain ⟨k, hk, rfl, hB, hall⟩ := hrel
    have HB := hyd hB
    have HL := hyd hall
    clear hB hall
    by_cases hlt : k < l.cd.len
    · have ik : (k : Int) < l.cd.len := by omega
      have cH := HB.out.1.bH.cell k (bvL_get m hlt)
      have HL2 : Hid ((m k = true → AA k = true) → ∀ j, j < k + 1 → m j = true → AA j = true) := fun h j hj => by
        by_cases e : j = k
        · rw [e]; exact h
        · exact HL.out j (by omega)
      have HN2 := hyd (HN.out k hlt)
      have h0 := HC.out k wr hlt HB.out.1
      generalize AA k = ab at *
      cases hm : m k
      · rw [hm] at cH HL2
        have HE := hyd (HL2.out (fun h => by cases h))
        have HB1 := hyd HB.out
        clear HL2 HN2 HL HB hm h0
        go_wp2
        go_roundw
        case rel => exact ⟨k + 1, by omega, by go_num, HB1.out, HE.out⟩
        case measure => simp [intOf]; omega
      · rw [hm] at cH HL2 HN2
        clear HL hm
        go_wp2_with fail
        refine h0.mono ?_
        rintro _ u3 ⟨rfl, hb⟩
        have HB1 := hyd (show Hz BF BG BX B7 BH l g x m u3 ∧ Below w.heap.size w u3 from ⟨HB.out.1.kept hb, Below.next HB.out.2 hb⟩)
        clear h0 hb HB cH
        cases ab
        · have HE := hyd (HN2.out (by simp) (by simp))
          clear HL2 HN2
          go_wp2
          go_ret
          exact ⟨ret_bool HE.out.symm, HB1.out.2⟩
        · have HE := hyd (HL2.out (fun _ => rfl))
          clear HL2 HN2
          go_wp2
          go_roundw
          case rel => exact ⟨k + 1, by omega, by go_num, HB1.out, HE.out⟩
          case measure => simp [intOf]; omega
    · have ik : ¬ (k : Int) < l.cd.len := by omega
      have HE : Hid (R = true) := HY.out (fun j hj => HL.out j (by omega))
      go_wp2
      go_ret
      exact ⟨ret_bool HE.out.symm, HB.out.2⟩
end Go.Proofs.Ytibhcbdofadamaa
