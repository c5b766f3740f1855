/- Layer 15: Reach. -/
import Derived.Test.YtibhcbdofadamaaP14
import Derived.Test.YtibhcbdofadamaaP4
import Derived.Test.YtibhcbdofadamaaP9
import Derived.Test.YtibhcbdofadamaaP6
namespace Go.Proofs.Ytibhcbdofadamaa
open Go Go.RowKit

/-- The numbers of what is true. -/
def trM (m : Nat → Bool) (n : Nat) : List Int := ((List.range n).filter m).map fun q : Nat => (q : Int)
theorem trM_succ (m : Nat → Bool) (n : Nat) : trM m (n + 1) = trM m n ++ (if m n = true then [(n : Int)] else []) := by
  unfold trM
  rw [List.range_succ, List.filter_append, List.map_append]
  cases h : m n <;> simp [h]
theorem trM_len (m : Nat → Bool) (n : Nat) : (trM m n).length ≤ n := by
  unfold trM
  rw [List.length_map]
  exact Nat.le_trans (List.length_filter_le _ _) (by simp)
theorem trM_eq {m : Nat → Bool} {n : Nat} {P : Nat → Prop} (h : ∀ q, q < n → (m q = true ↔ P q)) : trM m n = (Fl.lst n P).map fun q : Nat => (q : Int) := by
  unfold trM
  congr 1
  apply Fl.lst_of
  · exact List.Pairwise.filter _ List.pairwise_lt_range
  · intro p
    rw [List.mem_filter, List.mem_range]
    exact ⟨fun k => ⟨k.1, (h p k.1).1 k.2⟩, fun k => ⟨k.1, (h p k.1).2 k.2⟩⟩

set_option maxRecDepth 100000 in
set_option maxHeartbeats 8000000 in
theorem placesOf_any (m : Nat → Bool) (n V : Nat) (w : World) (hV : Blk w V (bvL m n) 4) (hn : n ≤ 100000) : Calls Try.prog 37 #[.slice (some ⟨V, 0, none⟩) n n] w fun e w' => ∃ v, e = .returned v ∧ Oi w' w.heap.size v (trM m n) ∧ Below w.heap.size w w' := by
  have HV := hyd hV
  clear hV
  go_enter Try.func37, Try.ntmps37
  go_wp2
  go_loopw [3, 8] (fun v i wr => ∃ (j : Nat), j ≤ n ∧ i = .int .i64 j ∧ Oi wr w.heap.size v (trM m j) ∧ Below w.heap.size w wr) (fun _ i _ => n - (intOf i).toNat)
  case atStart => exact ⟨0, Nat.zero_le _, rfl, Oi.nil _ _, Below.refl _ _⟩
  case round =>
    obtain ⟨j, hj, rfl, hO, hB⟩ := hrel
    have HO := hyd (show Oi wr w.heap.size u3 (trM m j) ∧ Below w.heap.size w wr from ⟨hO, hB⟩)
    clear hO hB
    by_cases hlt : j < n
    · have ij : (j : Int) < n := by omega
      have c0 := (HV.out.kept HO.out.2).cell j (bvL_get m hlt)
      have hlen := hyd (trM_len m j)
      have HT := hyd (trM_succ m j)
      cases hm : m j
      · rw [hm] at c0
        have HE : Hid (trM m (j + 1) = trM m j) := by show _ = _; rw [HT.out, hm]; simp
        clear hm HT
        go_wp2
        go_roundw
        case rel => exact ⟨j + 1, by omega, by go_num, by rw [HE.out]; exact HO.out.1, HO.out.2⟩
        case measure => simp [intOf]; omega
      · rw [hm] at c0
        have HE : Hid (trM m (j + 1) = trM m j ++ [(j : Int)]) := by show _ = _; rw [HT.out, hm]; simp
        clear hm HT
        go_wp2_with (at_builtin; refine wpList_app1 rfl _ _ rfl w.heap.size u3 (trM m j) (j : Int) rfl HO.out.1 rfl (by have := hlen.out; omega) HO.out.2.size ?_; intro v6 w6 h6 g6; have HO2 := hyd (show Oi w6 w.heap.size v6 (trM m (j + 1)) ∧ Below w.heap.size w w6 from ⟨by rw [HE.out]; exact h6, gb_bel HO.out.2 g6 (fun k hk => (owb HO.out.1 hk).1)⟩); clear h6 g6 HO c0)
        go_roundw
        case rel => exact ⟨j + 1, by omega, by go_num, HO2.out.1, HO2.out.2⟩
        case measure => simp [intOf]; omega
    · have ij : ¬ (j : Int) < n := by omega
      have HE : Hid (trM m j = trM m n) := by show _ = _; rw [show j = n by omega]
      go_wp2
      go_ret
      exact ⟨_, rfl, by rw [← HE.out]; exact HO.out.1, HO.out.2⟩

theorem Oi.pop {w : World} {base : Nat} {g cap : Nat} {l : List Int} {a : Int} (h : Oi w base (.slice (some ⟨g, 0, none⟩) (l.length + 1) cap) (l ++ [a])) : Oi w base (.slice (some ⟨g, 0, none⟩) l.length cap) l := by
  obtain ⟨_, ⟨h1, _⟩ | ⟨g', cap', cur, h1, h2, h3, h4, h5, h6, h7⟩⟩ := h
  · cases h1
  · injection h1 with e1 _ e3
    injection e1 with e1
    injection e1 with e1
    subst e1; subst e3
    rw [List.length_append, List.length_singleton] at h4 h7
    refine ⟨by rw [ivL_len]; omega, Or.inr ⟨g, cap, cur, rfl, h2, h3, by omega, h5, h6, ?_⟩⟩
    have := congrArg (List.take (l.length * 1)) h7
    rw [List.take_take, show min (l.length * 1) ((l.length + 1) * 1) = l.length * 1 by omega] at this
    rw [this, ivL, List.map_append, List.take_left' (by simp)]
    rfl
theorem Oi.last {w : World} {base : Nat} {v : Value} {l : List Int} {a : Int} (h : Oi w base v (l ++ [a])) : ∃ g cap, v = .slice (some ⟨g, 0, none⟩) (l.length + 1) cap ∧ w.cell? ⟨g, l.length, none⟩ = some (.int .i64 a) ∧ l.length + 1 ≤ cap := by
  have h' := h
  obtain ⟨_, ⟨h1, h0⟩ | ⟨g, cap, cur, h1, h2, h3, h4, h5, h6, h7⟩⟩ := h
  · simp at h0
  · rw [List.length_append, List.length_singleton] at h1 h4
    subst h1
    refine ⟨g, cap, rfl, ?_, h4⟩
    have := World.ownsRow.cells h' (g := g) rfl l.length (.int .i64 a) (by simp [ivL])
    rw [adp, Nat.zero_add] at this
    exact this

/-- What is come to. -/
noncomputable def Cf.rch (f : Cf) (g : Rw Bool) (r : Rw Int) (stop : Int) : List Int := (Fl.lst f.cd.len (Fl.Rch (f.way g) (fun q => (q : Int) ∈ r.ls ∧ q < f.cd.len) stop)).map fun q : Nat => (q : Int)
theorem lst_len (n : Nat) (P : Nat → Prop) : (Fl.lst n P).length ≤ n := by
  unfold Fl.lst
  exact Nat.le_trans (List.length_filter_le _ _) (by simp)
theorem lstm_small {n : Nat} {P : Nat → Prop} (hn : n ≤ 100000) : (∀ a ∈ (Fl.lst n P).map (fun q : Nat => (q : Int)), I64 a) ∧ ((Fl.lst n P).map (fun q : Nat => (q : Int))).length ≤ 9223372036854775807 := by
  refine ⟨fun a ha => ?_, ?_⟩
  · obtain ⟨q, rfl, hq, _⟩ := mem_lstm.1 ha
    exact ⟨by omega, by omega⟩
  · rw [List.length_map]; have := lst_len n P; omega

set_option maxRecDepth 100000 in
set_option maxHeartbeats 16000000 in
theorem reach_any (f : Cf) (g : Rw Bool) (r : Rw Int) (stop : Int) (w : World) (hf : f.At w) (hg : BlAt w g) (hr : NmAt w r) (hn : f.cd.len ≤ 100000) : Calls Try.prog 18 #[.agg f.vs.toArray, .slice g.ao g.len g.cap, .slice r.ao r.len r.cap, .int .i64 stop] w fun e w' => ∃ v, e = .returned v ∧ Oi w' w.heap.size v (f.rch g r stop) ∧ Below w.heap.size w w' := by
  have hmf : ∀ (fn : Fn) (first cap : Array Value) (w : World), (Instr.makeFunc fn first cap).run Try.prog w = .ok (.func fn first cap) w := fun _ _ _ _ => rfl
  have A0 := allocs_below [.cells f.vs.toArray 30, .cells #[.int .i64 stop] 3] w
  have A1 := allocs_heap [.cells f.vs.toArray 30, .cells #[.int .i64 stop] 3] w
  simp only [List.foldl] at A0 A1
  have H1 := hyd (show Below w.heap.size w _ ∧ Blk _ w.heap.size f.vs 30 ∧ Blk _ (w.heap.size + 1) [.int .i64 stop] 3 from ⟨A0, A1 0 (by simp), A1 1 (by simp)⟩)
  have HD := hyd (show f.At w ∧ BlAt w g ∧ NmAt w r from ⟨hf, hg, hr⟩)
  have HW : Hid (f.rch g r stop = (Fl.lst f.cd.len (Fl.Rch (f.way g) (fun q => (q : Int) ∈ r.ls ∧ q < f.cd.len) stop)).map fun q : Nat => (q : Int)) := rfl
  generalize f.rch g r stop = R at *
  clear A0 A1 hf hg hr
  go_enter Try.func18, Try.ntmps18
  go_upto_region 1 with fail
  generalize (w.alloc (.cells f.vs.toArray 30)).alloc (.cells #[.int .i64 stop] 3) = u1 at *
  have c14 := H1.out.2.1.cell 14 rfl
  go_upto_region 2 with (first
    | (refine wpList_make_blk rfl _ _ _ rfl 4 (.bool false) 1 Try.underlying31 (by kernel_rfl) rfl f.cd.len rfl rfl (by omega) (by omega) ?_; intro w1 hb1 hl1; have H2 := hyd (show (Below w.heap.size w w1 ∧ Blk w1 w.heap.size f.vs 30 ∧ Blk w1 (w.heap.size + 1) [.int .i64 stop] 3) ∧ Blk w1 u1.heap.size (bvL (fun _ => false) f.cd.len) 4 ∧ w.heap.size + 1 < u1.heap.size from ⟨⟨Below.next H1.out.1 hl1, H1.out.2.1.kept hl1, H1.out.2.2.kept hl1⟩, by rw [← rpl_bvL]; exact hb1, H1.out.2.2.lt⟩); clear hb1 hl1 H1 c14)
    | (refine wpList_store1 rfl 31 (.tmp 9) (.tmp 17) rfl rfl w1.heap.size 0 (.slice (some ⟨u1.heap.size, 0, none⟩) f.cd.len f.cd.len) _ _ (by kernel_rfl) (by kernel_rfl) (store_one _ _ (by kernel_rfl) rfl rfl _ _) (Blk.new w1 [.slice none 0 0] 31) (by simp) ?_; intro w2 W2; have H3 := hyd (show (Below w.heap.size w w2 ∧ Blk w2 w.heap.size f.vs 30 ∧ Blk w2 (w.heap.size + 1) [.int .i64 stop] 3) ∧ (Blk w2 u1.heap.size (bvL (fun _ => false) f.cd.len) 4 ∧ Blk w2 w1.heap.size [.slice (some ⟨u1.heap.size, 0, none⟩) f.cd.len f.cd.len] 31) ∧ (w.heap.size + 1 < u1.heap.size ∧ u1.heap.size < w1.heap.size) from by
        have B := below_alloc w1 (.cells #[.slice none 0 0] 31)
        have l1 := H2.out.2.1.lt
        have l2 := H2.out.2.2
        refine ⟨⟨gb_bel (Below.next H2.out.1.1 B) W2.gb (fun k hk => by have := Option.some.inj hk; omega), (H2.out.1.2.1.kept B).gb W2.gb (fun e => by have := Option.some.inj e; omega), (H2.out.1.2.2.kept B).gb W2.gb (fun e => by have := Option.some.inj e; omega)⟩, ⟨(H2.out.2.1.kept B).gb W2.gb (fun e => by have := Option.some.inj e; omega), W2.blk⟩, l2, l1⟩); clear W2 H2))
  generalize u1.heap.size = BV at *
  generalize w1.heap.size = BM at *
  have rF := H3.out.1.2.1.range
  have h0 := allHandlers_any f w2 (Cf.At.kept H3.out.1.1 HD.out.1) hn
  go_upto_region 3 with (refine wpList_load_mid rfl 30 (.tmp 4) rfl w.heap.size 0 (by kernel_rfl) f.vs _ rF Try.underlying30 rfl (by kernel_rfl) ?_)
  refine h0.mono ?_
  rintro _ u4 ⟨BH, rfl, hBH, hbH, hb4⟩
  have H4 := hyd (show ((Below w.heap.size w u4 ∧ Blk u4 w.heap.size f.vs 30 ∧ Blk u4 (w.heap.size + 1) [.int .i64 stop] 3) ∧ (Blk u4 BV (bvL (fun _ => false) f.cd.len) 4 ∧ Blk u4 BM [.slice (some ⟨BV, 0, none⟩) f.cd.len f.cd.len] 31 ∧ Blk u4 BH (nvL (fun p => f.han p) f.cd.len) 3)) ∧ ((w.heap.size + 1 < BV ∧ BV < BM) ∧ BM < BH) from by
    have l1 := H3.out.2.1.2.lt
    exact ⟨⟨⟨Below.next H3.out.1.1 hb4, H3.out.1.2.1.kept hb4, H3.out.1.2.2.kept hb4⟩, H3.out.2.1.1.kept hb4, H3.out.2.1.2.kept hb4, hbH⟩, H3.out.2.2, by omega⟩)
  clear h0 hBH hbH hb4 H3 rF
  go_upto_region 5 with fail
  have B5 := below_alloc u4 (.cells #[.slice none 0 0] 36)
  have H5 : Hid (Mr w f stop ⟨w.heap.size, w.heap.size + 1, BV, BM, BH, u4.heap.size⟩ (fun _ => false) (.slice none 0 0) [] (u4.alloc (.cells #[.slice none 0 0] 36))) :=
    ⟨Below.next H4.out.1.1.1 B5, H4.out.1.1.2.1.kept B5, H4.out.1.1.2.2.kept B5, H4.out.1.2.1.kept B5, H4.out.1.2.2.1.kept B5, H4.out.1.2.2.2.kept B5, Blk.new u4 [.slice none 0 0] 36, Oi.nil _ _, by have := H4.out.2; have := H4.out.1.2.2.2.lt; show (w.heap.size ≤ w.heap.size ∧ w.heap.size < w.heap.size + 1) ∧ (w.heap.size + 1 < BV ∧ BV < BM) ∧ (BM < BH ∧ BH < u4.heap.size); omega⟩
  clear B5 H4
  generalize u4.alloc (.cells #[.slice none 0 0] 36) = u5 at *
  generalize u4.heap.size = BO at *
  have hap : Apt w ⟨w.heap.size, w.heap.size + 1, BV, BM, BH, BO⟩ r (.slice none 0 0) := by
    by_cases e : r.len = 0
    · exact Or.inl e
    · refine Or.inr ⟨Or.inl ?_, fun k hk => by cases hk⟩
      exact World.block_lt_of_cell? w _ (HD.out.2.2.row 0 (by omega) 0 _ rfl)
  have h0 := reachMeet_any w f stop ⟨w.heap.size, w.heap.size + 1, BV, BM, BH, BO⟩ (fun _ => false) (.slice none 0 0) [] r u5 H5.out HD.out.1 (HD.out.2.2.kept H5.out.bl) hap (by have := fls_le (fun _ => false) f.cd.len; simpa using this) hn
  dsimp only at h0
  clear hap
  go_wp2_with fail
  refine h0.mono ?_
  rintro _ u6 ⟨rfl, ov, hM⟩
  have HR : Hid (Rs (f.way g) (fun q => (q : Int) ∈ r.ls ∧ q < f.cd.len) f.cd.len stop (mtL f.cd.len stop r.ls (fun _ => false, []))) := Rs.start
  have H6 := hyd hM
  clear h0 hM H5
  generalize mtL f.cd.len stop r.ls (fun _ => false, []) = s at *
  obtain ⟨m, o⟩ := s
  go_upto_block 0 with fail
  go_cut [13] (fun _ wx => ∃ m : Nat → Bool, Hid (Blk wx BV (bvL m f.cd.len) 4 ∧ Blk wx BM [.slice (some ⟨BV, 0, none⟩) f.cd.len f.cd.len] 31 ∧ Below w.heap.size w wx) ∧ Hid (trM m f.cd.len = R))
  case first =>
    go_wp2_with fail
    go_loopg [13] (o.length + 2 * fls m f.cd.len) (fun k _ wr => ∃ (m : Nat → Bool) (ov : Value) (o : List Int), Mr w f stop ⟨w.heap.size, w.heap.size + 1, BV, BM, BH, BO⟩ m ov o wr ∧ Rs (f.way g) (fun q => (q : Int) ∈ r.ls ∧ q < f.cd.len) f.cd.len stop (m, o) ∧ o.length + 2 * fls m f.cd.len ≤ k)
    case atStart => exact ⟨m, ov, o, H6.out, HR.out, Nat.le_refl _⟩
    case round =>
      clear H6 HR
      obtain ⟨m, ov, o, hM, hR, hk⟩ := hrel
      have HM := hyd hM
      have HR := hyd hR
      have HK := hyd hk
      clear hM hR hk
      rcases List.eq_nil_or_concat o with rfl | ⟨o1, z, rfl⟩
      · obtain ⟨ao, cap, rfl⟩ := owform HM.out.oi
        have cO := HM.out.bO.cell 0 rfl
        have HE : Hid (trM m f.cd.len = R) := by
          show _ = _
          rw [HW.out]
          exact trM_eq (fun q _ => HR.out.done q)
        have HF := hyd (show Blk wr BV (bvL m f.cd.len) 4 ∧ Blk wr BM [.slice (some ⟨BV, 0, none⟩) f.cd.len f.cd.len] 31 ∧ Below w.heap.size w wr from ⟨HM.out.bV, HM.out.bM, HM.out.bl⟩)
        clear HM HR HK
        go_wp2
        go_meet
        case rel => exact ⟨m, HF.out, HE.out⟩
      · as_aux_lemma =>
        rw [List.concat_eq_append] at HM HR HK
        obtain ⟨p, rfl, hp, _⟩ := HR.out.places z (by simp)
        obtain ⟨gg, cap, rfl, hc, hcap⟩ := HM.out.oi.last
        obtain ⟨L, hL⟩ : ∃ L, L = o1.length + 1 := ⟨_, rfl⟩
        have HL := hyd hL
        have cO := HM.out.bO.cell 0 rfl
        rw [← hL] at cO hcap
        rw [show o1.length = L - 1 by omega] at hc
        have hLs : L ≤ f.cd.len := by have := HR.out.cnt; simp only [List.length_append, List.length_singleton] at this; omega
        clear hL
        have iL : (0 : Int) < L := by have := HL.out; omega
        have iC : (L : Int) - 1 ≤ cap := by omega
        have ip : (p : Int) < f.cd.len := by omega
        go_upto_region 9 with (refine wpList_store1 rfl 36 (.tmp 11) (.tmp 37) rfl rfl BO 0 (.slice (some ⟨gg, 0, none⟩) (L - 1) cap) _ _ (by kernel_rfl) (by kernel_rfl) (store_one _ _ (by kernel_rfl) rfl rfl _ _) HM.out.bO (by simp) ?_; intro w3 W3)
        have HM2 : Hid (Mr w f stop ⟨w.heap.size, w.heap.size + 1, BV, BM, BH, BO⟩ m (.slice (some ⟨gg, 0, none⟩) (L - 1) cap) o1 w3) := by
          have e : L - 1 = o1.length := by have := HL.out; omega
          have e2 : L = o1.length + 1 := HL.out
          refine Mr.setO (ov := .slice (some ⟨gg, 0, none⟩) (o1.length + 1) cap) ⟨⟨HM.out.bl, HM.out.bF, HM.out.bS, HM.out.bV⟩, HM.out.bM, HM.out.bH, HM.out.bO⟩ HM.out.ne ?_ W3
          rw [e]
          exact HM.out.oi.pop
        clear HM W3 cO hc
        have HVC : Hid (∀ u : World, Blk u BH (nvL (fun p => f.han p) f.cd.len) 3 → u.cell? ⟨BH, p, none⟩ = some (.int .i64 (f.han p))) := fun u hu => hu.cell p (nvL_get (fun p => f.han p) hp)
        have rF := HM2.out.bF.range
        have cH := HM2.out.bH.cell p (nvL_get (fun p => f.han p) hp)
        have HWS : Hid (f.wsH g (f.han p) p = f.ws g p) := rfl
        have HWW := hyd (fun w1 h1 h2 => waysWith_any f g p (f.han p) w1 h1 h2 hp)
        generalize f.han p = hv at *
        have hNE : Nonempty (Wd (fun u : World => u.rangeAt w.heap.size 0 f.vs ∧ u.cell? ⟨BH, p, none⟩ = some (.int .i64 hv))) := ⟨⟨w3.drew, rF, cH⟩⟩
        have fH : ∀ x : Wd (fun u : World => u.rangeAt w.heap.size 0 f.vs ∧ u.cell? ⟨BH, p, none⟩ = some (.int .i64 hv)), x.w.cell? ⟨BH, p, none⟩ = some (.int .i64 hv) := fun x => x.2.2
        refine wp_region_readsQN (fun u : World => u.rangeAt w.heap.size 0 f.vs ∧ u.cell? ⟨BH, p, none⟩ = some (.int .i64 hv)) [0, 1, 2, 3, 4, 5, 6, 7] 2 (by kernel_rfl) rfl (by kernel_rfl) (hj_ofQ (by kernel_rfl)) ⟨rF, cH⟩ ?_
        simp only [List.filterMap, List.getElem?_cons_zero, List.getElem?_cons_succ]
        go_big_quiet_step (fail)
        go_big_quiet_want
        refine quiet_load_rowF 30 (.tmp 4) rfl w.heap.size 0 (by kernel_rfl) f.vs _ (fun _ hC => by obtain ⟨x, rfl⟩ := hC; exact x.2.1) Try.underlying30 rfl (by kernel_rfl) ?_
        simp only [Act.put, List.setIfInBounds_toArray, List.set_cons_succ, List.set_cons_zero]
        go_big_quiet_on
        iterate 6 go_big_quiet_step (fail)
        refine wpQuiet_nil ?_
        clear fH hNE rF cH
        have HM3 := hyd (HM2.out.kept (Below.refl _ _).drew)
        clear HM2
        generalize w3.drew = w4 at *
        refine wpAnyH_ready (rs := [8]) (by kernel_rfl) (by simp) ?_
        refine AllReadyH.cons rfl (fun K hK => ?_) AllReadyH.nil
        rw [if_pos (by rfl)]
        go_simp
        refine (HWW.out w4 (Cf.At.kept HM3.out.bl HD.out.1) (BlAt.kept HD.out.2.1 HM3.out.bl)).mono ?_
        rintro _ w5 ⟨v, rfl, hO, hb⟩
        rw [HWS.out] at hO
        have hsm := lstm_small (n := f.cd.len) (P := f.way g p) hn
        obtain ⟨ra, rfl, hra, hral, _, hrab⟩ := hO.rw hsm.1 hsm.2
        have HM4 := hyd (HM3.out.kept hb)
        have HA := hyd (show NmAt w5 ra ∧ Apt w ⟨w.heap.size, w.heap.size + 1, BV, BM, BH, BO⟩ ra (.slice (some ⟨gg, 0, none⟩) (L - 1) cap) ∧ ra.ls = f.ws g p from ⟨hra, Or.inr ⟨Or.inr (by have : BO < w4.heap.size := HM3.out.bO.lt; show BO < ra.b; omega), fun k hk => by have := (owb HM3.out.oi hk).2; omega⟩, hral⟩)
        clear hO hsm hra hral hrab hb HM3 HWW
        refine hK.out _ _ ⟨HM4.out.bF.range, HVC.out _ HM4.out.bH⟩ (fun _ => ?_)
        clear hK K
        refine wpAnyH_ready (rs := [9]) (by kernel_rfl) (by simp) ?_
        refine AllReadyH.cons rfl (fun K hK => ?_) AllReadyH.nil
        rw [if_pos (by rfl)]
        go_simp
        have hcnt : o1.length + fls m f.cd.len ≤ f.cd.len := by have := HR.out.cnt; simp only [List.length_append, List.length_singleton] at this; omega
        have h0 := reachMeet_any w f stop ⟨w.heap.size, w.heap.size + 1, BV, BM, BH, BO⟩ m (.slice (some ⟨gg, 0, none⟩) (L - 1) cap) o1 ra w5 HM4.out HD.out.1 HA.out.1 HA.out.2.1 hcnt hn
        dsimp only at h0
        refine h0.mono ?_
        rintro _ w6 ⟨rfl, ov6, hM6⟩
        obtain ⟨hR6, hlt6⟩ := HR.out.step (l := ra.ls) (fun a => by rw [HA.out.2.2]; exact mem_lstm) (fun q hq => hq.1)
        have HM6 := hyd hM6
        have HR6 := hyd hR6
        have HK6 : Hid ((mtL f.cd.len stop ra.ls (m, o1)).2.length + 2 * fls (mtL f.cd.len stop ra.ls (m, o1)).1 f.cd.len < gk) := by show _ < _; have := HK.out; omega
        clear h0 hM6 hR6 hlt6
        generalize mtL f.cd.len stop ra.ls (m, o1) = s6 at *
        obtain ⟨m6, o6⟩ := s6
        refine hK.out _ _ ⟨HM6.out.bF.range, HVC.out _ HM6.out.bH⟩ (fun _ => ?_)
        clear hK K
        refine wpAnyH_done (by kernel_rfl) ?_ _
        refine ⟨(fun c hc => by cases hc), ?_⟩
        go_wp2
        go_roundg (o6.length + 2 * fls m6 f.cd.len)
        case measure => exact HK6.out
        case rel => exact ⟨m6, ov6, o6, HM6.out, HR6.out, Nat.le_refl _⟩
  case rest =>
  obtain ⟨m', hB, hE⟩ := hcut
  have HB := hyd hB.out
  have HE := hyd hE.out
  clear hB hE H6 HR
  have cM := HB.out.2.1.cell 0 rfl
  have h0 := placesOf_any m' f.cd.len BV wc HB.out.1 hn
  go_wp2_with fail
  refine h0.mono ?_
  rintro _ u7 ⟨v, rfl, hO, hb⟩
  have H7 := hyd (show Oi u7 w.heap.size v R ∧ Below w.heap.size w u7 from ⟨by rw [← HE.out]; exact own_mono hO HB.out.2.2.size, Below.next HB.out.2.2 hb⟩)
  clear h0 hO hb cM
  go_wp2
  go_ret
  exact ⟨_, rfl, H7.out.1, H7.out.2⟩
end Go.Proofs.Ytibhcbdofadamaa

/- Layers 13 to 15: the lattice of one label, as the statements make it. -/
namespace Go.Proofs.Ytibhcbdofadamaa
open Go Go.RowKit

def litS : Nat → ByteArray := fun _ => ⟨#[108, 111, 119]⟩
def litN (b : Nat) : Strs := ⟨some ⟨b, 0, none⟩, b, 0, 1, 1, litS⟩
def litP : Prs := ⟨none, 0, 0, 0, 0, fun _ => 0, fun _ => 0⟩
theorem lit_e (b : Nat) : makeE (litN b) litP = 0 := by kernel_rfl
def litW (w : World) : World := w.alloc (.cells #[.string ⟨#[108, 111, 119]⟩] 9)
theorem litW_below (w : World) : Below w.heap.size w (litW w) := below_alloc _ _
theorem litN_at (w : World) : (litN w.heap.size).At (litW w) := by
  refine ⟨Nat.le_refl _, fun _ => rfl, by show (1 : Nat) ≤ _; omega, fun i hi => ?_, fun i hi => ?_⟩
  · match i, hi with
    | 0, _ => simp [litW, litN, litS]
  · show (3 : Nat) ≤ _; omega
theorem litP_at (w : World) : litP.At w := ⟨Nat.le_refl _, fun h => absurd h (Nat.lt_irrefl _), Nat.zero_le _, fun _ h => absurd h (Nat.not_lt_zero _), fun _ h => absurd h (Nat.not_lt_zero _)⟩
/-- The lattice of one. -/
structure Lt1 (n : Strs) (g : Grid) (w : World) : Prop where
  nat : n.At w
  gat : g.At w
  fd : formedB n g = true
  one : n.len = 1
  nm : n.s 0 = ⟨#[108, 111, 119]⟩
  le : g.B 0 0 = true
  rows : ∀ r, r < g.len → g.A r ≠ none
def nilRw {α : Type} (x : α) : Rw α := ⟨none, 0, 0, 0, 0, fun _ => x⟩
theorem nilRw_at {α : Type} (x : α) (z : Nat) (vs : α → List Value) (A : World → α → Prop) (w : World) : Rw.At z vs A w (nilRw x) := ⟨fun h => absurd h (Nat.lt_irrefl _), Nat.zero_le _, fun _ h => absurd h (Nat.not_lt_zero _), fun _ h => absurd h (Nat.not_lt_zero _)⟩
end Go.Proofs.Ytibhcbdofadamaa

/- Layer 15: awake and few of the statements. -/
namespace Go.Proofs.Ytibhcbdofadamaa
open Go Go.RowKit

def aIn (i : Nat) : In := if i = 0 then ⟨25, 1, leafT 0 0⟩ else ⟨27, 0, leafT 0 0⟩
def aCf (b : Nat) : Cf := ⟨leafT 0 0, leafT 0 0, leafT 0 0, 0, 0, 0, ⟨some ⟨b, 0, none⟩, b, 0, 2, 2, aIn⟩, nilRw ⟨0, 0, 0⟩, nilRw ⟨.dm, .dm, 0⟩, nilRw ⟨0, 0, nilRw 0⟩⟩
def aCd : List Value := [.int .i64 25, .int .i64 1, .int .i64 0, .int .i64 0, .slice none 0 0, .int .i64 0, .int .i64 0, .int .i64 27, .int .i64 0, .int .i64 0, .int .i64 0, .slice none 0 0, .int .i64 0, .int .i64 0]
def aFv (b : Nat) : List Value := [.int .i64 0, .int .i64 0, .slice none 0 0, .int .i64 0, .int .i64 0, .int .i64 0, .int .i64 0, .slice none 0 0, .int .i64 0, .int .i64 0, .slice none 0 0, .int .i64 0, .int .i64 0, .int .i64 0, .slice (some ⟨b, 0, none⟩) 2 2, .slice none 0 0, .slice none 0 0, .slice none 0 0]
theorem aCf_vs (b : Nat) : (aCf b).vs = aFv b := rfl
theorem i64_zero : I64 0 := ⟨by omega, by omega⟩
theorem aCf_at {b : Nat} {w : World} (h : Blk w b aCd 50) : (aCf b).At w := by
  refine ⟨leaf_at _ _ _, leaf_at _ _ _, leaf_at _ _ _, i64_zero, i64_zero, i64_zero, ⟨fun _ => rfl, by show 2 ≤ _; omega, fun i hi => ?_, fun i hi => ?_⟩, nilRw_at _ _ _ _ _, nilRw_at _ _ _ _ _, nilRw_at _ _ _ _ _⟩
  · have hi2 : i < 2 := hi
    show w.rangeAt b (0 + i * 7) (aIn i).vs
    intro j v hv
    have key : ∀ k, (aIn i).vs[j]? = some v → aCd[k]? = (aIn i).vs[j]? → w.cell? ⟨b, k, none⟩ = some v := fun k h1 h2 => h.cell k (h2.trans h1)
    have hj : j < 7 := (List.getElem?_eq_some_iff.1 hv).1
    refine (show w.cell? ⟨b, i * 7 + j, none⟩ = some v → w.cell? ⟨b, 0 + i * 7 + j, none⟩ = some v by rw [Nat.zero_add]; exact id) (key _ hv ?_)
    match i, hi2, j, hj with
    | 0, _, 0, _ => rfl
    | 0, _, 1, _ => rfl
    | 0, _, 2, _ => rfl
    | 0, _, 3, _ => rfl
    | 0, _, 4, _ => rfl
    | 0, _, 5, _ => rfl
    | 0, _, 6, _ => rfl
    | 1, _, 0, _ => rfl
    | 1, _, 1, _ => rfl
    | 1, _, 2, _ => rfl
    | 1, _, 3, _ => rfl
    | 1, _, 4, _ => rfl
    | 1, _, 5, _ => rfl
    | 1, _, 6, _ => rfl
  · show (aIn i).At w
    unfold aIn
    split
    · exact ⟨(show (-9223372036854775808 : Int) ≤ 25 ∧ (25 : Int) ≤ 9223372036854775807 by omega), (show (-9223372036854775808 : Int) ≤ 1 ∧ (1 : Int) ≤ 9223372036854775807 by omega), leaf_at _ _ _⟩
    · exact ⟨(show (-9223372036854775808 : Int) ≤ 27 ∧ (27 : Int) ≤ 9223372036854775807 by omega), i64_zero, leaf_at _ _ _⟩
def nG : Rw Bool := ⟨none, 0, 0, 0, 0, fun _ => false⟩
theorem nG_at (w : World) : BlAt w nG := ⟨fun h => absurd h (Nat.lt_irrefl 0), Nat.zero_le _, fun _ h => absurd h (Nat.not_lt_zero _), fun _ h => absurd h (Nat.not_lt_zero _)⟩
theorem aCf_ws (b : Nat) : (aCf b).ws nG 0 = [1] := by
  refine (lst_map_of (l := [1]) (by simp) (fun a => ?_)).symm
  have hop : ((aCf b).cd.x 0).op = 25 := rfl
  have ha : ((aCf b).cd.x 0).a = 1 := rfl
  have hrs : (aCf b).rs nG 0 = false := rfl
  constructor
  · intro h
    have : a = 1 := by simpa using h
    subst this
    exact ⟨1, rfl, by show 1 < 2; omega, by show 1 < 2; omega, Or.inl ⟨rfl, rfl⟩⟩
  · rintro ⟨q, rfl, _, _, h | h | h⟩
    · simp [h.1]
    · have := h.2; rw [ha] at this; simp [← this]
    · rw [hrs] at h; cases h.1
theorem aCf_lv (b : Nat) : (aCf b).lv nG 1 = true := rfl

def Cf.fewB (f : Cf) (g : Rw Bool) : Bool := (decide (f.cd.len ≤ 60) && decide (f.hd.len ≤ 60)) && decide (g.len ≤ 1000)
end Go.Proofs.Ytibhcbdofadamaa

/- Layer 14: what a function that breaks no rule has. -/
namespace Go.Proofs.Ytibhcbdofadamaa
open Go Go.RowKit

/-- What a function that breaks no rule has. -/
structure Wf (f : Cf) : Prop where
  pos : 0 < f.cd.len
  pts : f.pt.len = f.cd.len
  jmp : ∀ i, i < f.cd.len → (f.cd.x i).op = 24 ∨ (f.cd.x i).op = 25 → (i : Int) < (f.cd.x i).a ∧ (f.cd.x i).a < f.cd.len
  han : ∀ i, i < f.hd.len → (f.hd.x i).to ≤ (f.hd.x i).at_ ∧ (f.hd.x i).at_ < f.cd.len
  last : (f.cd.x (f.cd.len - 1)).op = 27 ∨ (f.cd.x (f.cd.len - 1)).op = 26
theorem Cf.wf {nf nl : Nat} {f : Cf} (h : f.brk nf nl = 0) : Wf f := by
  obtain ⟨⟨⟨h1, h2⟩, h3⟩, _⟩ := Cf.brk_zero h
  unfold Cf.cntB at h1
  unfold Cf.codB Cf.codA lastB at h2
  unfold Cf.hanB at h3
  simp only [Bool.and_eq_true, Bool.or_eq_true, decide_eq_true_eq] at h1 h2 h3
  refine ⟨h1.1.1, h1.1.2, fun i hi ho => ?_, fun i hi => ?_, h2.2⟩
  · have := h2.1 i hi
    unfold In.nhB at this
    rw [if_neg (by omega), if_neg (by omega), if_neg (by omega), if_pos ho] at this
    unfold btw at this
    simp only [Bool.and_eq_true, decide_eq_true_eq] at this
    omega
  · have := h3 i hi
    unfold Hn.hold at this
    simp only [Bool.and_eq_true, decide_eq_true_eq] at this
    exact ⟨this.1.2, this.2⟩
end Go.Proofs.Ytibhcbdofadamaa

/- Layer 15: ways of a well formed function go ahead: the mathematics. -/
namespace Go.Proofs.Ytibhcbdofadamaa
open Go Go.RowKit

/-- Well formed, and no Op is 0. -/
structure Wg (f : Cf) : Prop where
  wf : Wf f
  op : ∀ i, i < f.cd.len → 1 ≤ (f.cd.x i).op
theorem Wg.han {f : Cf} (h : Wg f) (p : Nat) : f.han p = -1 ∨ ((p : Int) < f.han p ∧ f.han p < f.cd.len) := by
  rcases first_hit (f.hit p) f.hd.len with h1 | ⟨j, h1, h2, h3⟩
  · exact Or.inl (Cf.han_miss h1)
  · rw [Cf.han_hit h1 h2 h3]
    have := h.wf.han j h1
    unfold Cf.hit at h2
    simp only [Bool.and_eq_true, decide_eq_true_eq] at h2
    exact Or.inr ⟨by omega, by omega⟩
theorem Wg.up {f : Cf} {g : Rw Bool} (h : Wg f) {p q : Nat} (hp : p < f.cd.len) (hw : f.way g p q) : p < q := by
  rcases hw.2 with h1 | h1 | h1
  · omega
  · have := h.wf.jmp p hp h1.1; omega
  · rcases h.han p with h2 | h2 <;> omega
theorem rsO_jmp {op : Int} (h : op = 24 ∨ op = 25) : rsO op = false := by rcases h with rfl | rfl <;> rfl
/-- A place that has no way leaves. -/
theorem Wg.on {f : Cf} {g : Rw Bool} (h : Wg f) {p : Nat} (hp : p < f.cd.len) (hn : ∀ q, ¬ f.way g p q) : f.lv g p = true := by
  by_cases h27 : (f.cd.x p).op = 27
  · unfold Cf.lv; rw [decide_eq_true h27]; rfl
  by_cases h26 : (f.cd.x p).op = 26
  · have hrs : f.rs g p = true := by unfold Cf.rs rsO; rw [h26]; rfl
    have hh : f.han p = -1 := by
      rcases h.han p with h1 | h1
      · exact h1
      · exact absurd ⟨by omega, Or.inr (Or.inr ⟨hrs, by omega⟩)⟩ (hn (f.han p).toNat)
    unfold Cf.lv
    rw [hrs, decide_eq_true hh]
    simp
  exfalso
  have hl : p + 1 < f.cd.len := by
    by_cases e : p = f.cd.len - 1
    · have := h.wf.last; rw [← e] at this; rcases this with k | k
      · exact absurd k h27
      · exact absurd k h26
    · omega
  have h1 := h.op p hp
  by_cases h24 : (f.cd.x p).op = 24
  · have := h.wf.jmp p hp (Or.inl h24)
    exact hn (f.cd.x p).a.toNat ⟨by omega, Or.inr (Or.inl ⟨Or.inl h24, by omega⟩)⟩
  · have hx : nxO (f.cd.x p).op = true := by unfold nxO; simp [h24, h26, h27]; omega
    exact hn (p + 1) ⟨hl, Or.inl ⟨rfl, hx⟩⟩
theorem Wg.br {f : Cf} {g : Rw Bool} (h : Wg f) {p : Nat} (hp : p < f.cd.len) (hb : f.br g p = true) : ∃ q, f.way g p q := by
  unfold Cf.br at hb
  simp only [Bool.or_eq_true, Bool.and_eq_true, decide_eq_true_eq] at hb
  rcases hb with h25 | ⟨hop, _⟩
  · have := h.wf.jmp p hp (Or.inr h25)
    exact ⟨(f.cd.x p).a.toNat, by omega, Or.inr (Or.inl ⟨Or.inr h25, by omega⟩)⟩
  · have hl : p + 1 < f.cd.len := by
      by_cases e : p = f.cd.len - 1
      · have := h.wf.last; rw [← e] at this; omega
      · omega
    refine ⟨p + 1, hl, Or.inl ⟨rfl, ?_⟩⟩
    unfold nxO
    rcases hop with (k | k) | k <;> rw [k] <;> rfl
theorem len_two {l : List Nat} (hr : l.Pairwise (· < ·)) {x y : Nat} (h : ∀ a ∈ l, a = x ∨ a = y) : l.length ≤ 2 := by
  match l, hr, h with
  | [], _, _ => simp
  | [_], _, _ => simp
  | [_, _], _, _ => simp
  | a :: b :: c :: t, hr, h =>
    exfalso
    have h1 := h a (by simp)
    have h2 := h b (by simp)
    have h3 := h c (by simp)
    rw [List.pairwise_cons, List.pairwise_cons] at hr
    have k1 := hr.1 b (by simp)
    have k2 := hr.1 c (by simp)
    have k3 := hr.2.1 c (by simp)
    omega
theorem ws_two (f : Cf) (g : Rw Bool) (p : Nat) : (f.ws g p).length ≤ 2 := by
  unfold Cf.ws Cf.wsH
  rw [List.length_map]
  by_cases hj : (f.cd.x p).op = 24 ∨ (f.cd.x p).op = 25
  · have hrs : f.rs g p = false := by
      unfold Cf.rs
      rw [rsO_jmp hj, decide_eq_false (by omega)]; rfl
    refine len_two (Fl.lst_rising _ _) (x := p + 1) (y := (f.cd.x p).a.toNat) (fun a ha => ?_)
    rcases (Fl.mem_lst.1 ha).2.2 with k | k | k
    · exact Or.inl k.1
    · exact Or.inr (by omega)
    · rw [hrs] at k; cases k.1
  · refine len_two (Fl.lst_rising _ _) (x := p + 1) (y := (f.han p).toNat) (fun a ha => ?_)
    rcases (Fl.mem_lst.1 ha).2.2 with k | k | k
    · exact Or.inl k.1
    · exact absurd k.1 hj
    · exact Or.inr (by omega)
theorem ws_mem {f : Cf} {g : Rw Bool} {p : Nat} {a : Int} : a ∈ f.ws g p ↔ ∃ q : Nat, a = q ∧ f.way g p q := by
  unfold Cf.ws Cf.wsH
  rw [mem_lstm]
  constructor
  · rintro ⟨q, e, _, k⟩; exact ⟨q, e, k⟩
  · rintro ⟨q, e, k⟩; exact ⟨q, e, k.1, k⟩
theorem Wg.reach {f : Cf} {g : Rw Bool} (h : Wg f) {p : Nat} (hp : p < f.cd.len) {r : Rw Int} (hr : r.ls = f.ws g p) {a : Int} (ha : a ∈ f.rch g r (-1)) : (p : Int) < a := by
  unfold Cf.rch at ha
  obtain ⟨q, rfl, hq, hR⟩ := mem_lstm.1 ha
  have key : p < q ∧ q < f.cd.len := by
    refine hR.all (R := fun q => p < q ∧ q < f.cd.len) (fun q h1 _ => ?_) (fun a b h1 h2 _ => ⟨?_, h2.1⟩)
    · rw [hr] at h1
      obtain ⟨q', e, k⟩ := ws_mem.1 h1.1
      have : q = q' := by omega
      subst this
      exact ⟨h.up hp k, h1.2⟩
    · have := h.up h1.2 h2; omega
  omega
theorem Kl.wg {c : Kl} (h : c.fm = true) (hb : ∀ i, i < c.fs.len → c.brk i = 0) {k : Nat} (hk : k < c.fs.len) : Wg (c.fs.x k) ∧ (c.fs.x k).cd.len ≤ 2000 := by
  unfold Kl.fm at h
  simp only [Bool.and_eq_true, decide_eq_true_eq] at h
  have hf := h.2.2 k hk
  unfold Cf.fm Cf.few at hf
  simp only [Bool.and_eq_true, decide_eq_true_eq] at hf
  refine ⟨⟨Cf.wf (hb k hk), fun i hi => ?_⟩, hf.1.2.2.1⟩
  have := hf.2.2.2.1 i hi
  unfold In.fm at this
  simp only [Bool.and_eq_true, decide_eq_true_eq] at this
  exact this.1.1
end Go.Proofs.Ytibhcbdofadamaa

/- Layer 16: joins and regions as data, over layer 15's ways. -/
namespace Go.Proofs.Ytibhcbdofadamaa
open Go Go.RowKit

/-- All jumps and handlers go ahead. -/
structure Ag (f : Cf) : Prop where
  jmp : ∀ i, i < f.cd.len → (f.cd.x i).op = 24 ∨ (f.cd.x i).op = 25 → (i : Int) < (f.cd.x i).a
  han : ∀ i, i < f.hd.len → (f.hd.x i).to ≤ (f.hd.x i).at_
/-- A way from a place. -/
def Cf.wy (f : Cf) (g : Rw Bool) (p q : Nat) : Prop := p < f.cd.len ∧ f.way g p q
def Cf.lvP (f : Cf) (g : Rw Bool) (p : Nat) : Prop := f.lv g p = true
theorem Ag.up {f : Cf} {g : Rw Bool} (h : Ag f) {p q : Nat} (hw : f.wy g p q) : p < q := by
  rcases hw.2.2 with h1 | h1 | h1
  · omega
  · have := h.jmp p hw.1 h1.1; omega
  · rcases first_hit (f.hit p) f.hd.len with k | ⟨j, k1, k2, k3⟩
    · have := Cf.han_miss k; omega
    · have e := Cf.han_hit k1 k2 k3
      have := h.han j k1
      unfold Cf.hit at k2
      simp only [Bool.and_eq_true, decide_eq_true_eq] at k2
      omega
theorem Ag.ahd {f : Cf} (h : Ag f) (g : Rw Bool) : Fl.Ahd f.cd.len (f.wy g) := ⟨fun hw => hw.2.1, fun hw => h.up hw⟩
/-- What is come to from places is come to by ways from places. -/
theorem rch_wy {f : Cf} {g : Rw Bool} {F : Nat → Prop} {s : Int} (hF : ∀ p, F p → p < f.cd.len) (q : Nat) : Fl.Rch (f.way g) F s q ↔ Fl.Rch (f.wy g) F s q := by
  constructor
  · intro h
    induction h with
    | base h1 h2 => exact .base h1 h2
    | @step p q h1 h2 h3 ih => exact .step ih ⟨Fl.Rch.lt hF (fun _ _ h => h.1) h1, h2⟩ h3
  · intro h
    induction h with
    | base h1 h2 => exact .base h1 h2
    | step _ h2 h3 ih => exact .step ih h2.2 h3
/-- Reach from the ways of a place. -/
theorem Cf.rch_ways {f : Cf} {g : Rw Bool} {r : Rw Int} {p : Nat} {s : Int} (hp : p < f.cd.len) (hr : r.ls = f.ws g p) : f.rch g r s = (Fl.lst f.cd.len (Fl.Rch (f.wy g) (f.wy g p) s)).map fun q : Nat => (q : Int) := by
  unfold Cf.rch
  congr 1
  apply Fl.lst_congr
  intro q _
  rw [rch_wy (fun _ h => h.2)]
  have key : ∀ x : Nat, ((x : Int) ∈ r.ls ∧ x < f.cd.len) ↔ f.wy g p x := fun x => by
    rw [hr, ws_mem]
    constructor
    · rintro ⟨⟨y, e, k⟩, _⟩
      have : x = y := by omega
      subst this; exact ⟨hp, k⟩
    · intro k; exact ⟨⟨x, rfl, k.2⟩, k.2.1⟩
  exact ⟨Fl.Rch.mono (fun x k => (key x).1 k), Fl.Rch.mono (fun x k => (key x).2 k)⟩
/-- It doesn't leave, and has a way. -/
theorem alive_iff {f : Cf} {g : Rw Bool} {p : Nat} (hp : p < f.cd.len) : Fl.Alive (f.wy g) (f.lvP g) p ↔ f.lv g p = false ∧ (f.ws g p).length ≠ 0 := by
  unfold Fl.Alive Cf.lvP
  constructor
  · rintro ⟨h1, q, h2⟩
    refine ⟨by simpa using h1, fun h3 => ?_⟩
    have h4 : (q : Int) ∈ f.ws g p := ws_mem.2 ⟨q, rfl, h2.2⟩
    rw [List.eq_nil_of_length_eq_zero h3] at h4
    cases h4
  · rintro ⟨h1, h2⟩
    refine ⟨by simp [h1], ?_⟩
    cases hl : f.ws g p with
    | nil => rw [hl] at h2; simp at h2
    | cons a l =>
      have : a ∈ f.ws g p := by rw [hl]; simp
      obtain ⟨q, _, k⟩ := ws_mem.1 this
      exact ⟨q, hp, k⟩
def Cf.Jp (f : Cf) (g : Rw Bool) (a j : Nat) : Prop := Fl.Jn (f.wy g) (f.lvP g) a j
/-- The join; -1, if there is none. -/
noncomputable def Cf.jn (f : Cf) (g : Rw Bool) (a : Nat) : Int := open Classical in if h : ∃ j, Fl.IsJ (f.wy g) (f.lvP g) a j then ((Classical.choose h : Nat) : Int) else -1
theorem Cf.jn_of {f : Cf} {g : Rw Bool} {a j : Nat} (h : Fl.IsJ (f.wy g) (f.lvP g) a j) : f.jn g a = j := by
  unfold Cf.jn
  rw [dif_pos ⟨j, h⟩]
  have := (Classical.choose_spec (⟨j, h⟩ : ∃ j, Fl.IsJ (f.wy g) (f.lvP g) a j)).uniq h
  rw [this]
theorem Cf.jn_none {f : Cf} {g : Rw Bool} {a : Nat} (h : ∀ j, ¬ f.Jp g a j) : f.jn g a = -1 := by
  unfold Cf.jn
  rw [dif_neg]
  rintro ⟨j, k⟩
  exact h j k.1
theorem Cf.jn_cases (f : Cf) (g : Rw Bool) (a : Nat) : (f.jn g a = -1 ∧ ∀ j, ¬ f.Jp g a j) ∨ ∃ j : Nat, f.jn g a = j ∧ Fl.IsJ (f.wy g) (f.lvP g) a j := by
  by_cases h : ∃ k, f.Jp g a k
  · obtain ⟨k, hk⟩ := h
    obtain ⟨j, hj, _⟩ := Fl.exists_isJ hk
    exact Or.inr ⟨j, Cf.jn_of hj, hj⟩
  · exact Or.inl ⟨Cf.jn_none (fun j k => h ⟨j, k⟩), fun j k => h ⟨j, k⟩⟩
theorem Ag.jn_place {f : Cf} {g : Rw Bool} (h : Ag f) {a j : Nat} (ha : a < f.cd.len) (hj : f.Jp g a j) : a < j ∧ j < f.cd.len := ⟨Fl.Jn.lt (h.ahd g) hj, Fl.Jn.place (h.ahd g) ha hj⟩
/-- A search for the least join from a + 1 on finds it. -/
theorem Ag.jn_found {f : Cf} {g : Rw Bool} (h : Ag f) {a j : Nat} (hj : f.Jp g a j) (hn : ∀ i, a < i → i < j → ¬ f.Jp g a i) : f.jn g a = j := by
  refine Cf.jn_of ⟨hj, fun i hi => ?_⟩
  have h1 := Fl.Jn.lt (h.ahd g) hi
  rcases Nat.lt_or_ge i j with h2 | h2
  · exact absurd hi (hn i h1 h2)
  · exact h2
theorem Ag.jn_missed {f : Cf} {g : Rw Bool} (h : Ag f) {a : Nat} (ha : a < f.cd.len) (hn : ∀ i, a < i → i < f.cd.len → ¬ f.Jp g a i) : f.jn g a = -1 :=
  Cf.jn_none (fun j hj => hn j (h.jn_place ha hj).1 (h.jn_place ha hj).2 hj)
/-- What 'joins' asks. -/
theorem jp_iff {f : Cf} {g : Rw Bool} {a j : Nat} {r s : Rw Int} (ha : a < f.cd.len) (hr : r.ls = f.ws g a) (hs : s.ls = f.rch g r j) : f.Jp g a j ↔ (f.lv g a = false ∧ (f.ws g a).length ≠ 0) ∧ ∀ i, i < s.len → f.lv g (s.x i).toNat = false ∧ (f.ws g (s.x i).toNat).length ≠ 0 := by
  rw [← alive_iff ha]
  unfold Cf.Jp Fl.Jn
  rw [Cf.rch_ways ha hr] at hs
  have hlt : ∀ q, Fl.Rch (f.wy g) (f.wy g a) j q → q < f.cd.len := fun q h => Fl.Rch.lt (fun _ h => h.2.1) (fun _ _ h => h.2.1) h
  constructor
  · rintro ⟨h1, h2⟩
    refine ⟨h1, fun i hi => ?_⟩
    have : s.x i ∈ s.ls := Rw.mem_ls.2 ⟨i, hi, rfl⟩
    rw [hs] at this
    obtain ⟨q, e, hq, hR⟩ := mem_lstm.1 this
    rw [e, Int.toNat_natCast]
    exact (alive_iff hq).1 (h2 q hR)
  · rintro ⟨h1, h2⟩
    refine ⟨h1, fun q hq => ?_⟩
    have : (q : Int) ∈ s.ls := by rw [hs]; exact mem_lstm.2 ⟨q, rfl, hlt q hq, hq⟩
    obtain ⟨i, hi, e⟩ := Rw.mem_ls.1 this
    have := h2 i hi
    rw [e, Int.toNat_natCast] at this
    exact (alive_iff (hlt q hq)).2 this

/-! The conditions. -/
/-- A region's numbers as flow sees them: of a number that is no place there are no ways, and it doesn't leave. -/
noncomputable def Cf.wsI (f : Cf) (g : Rw Bool) (a : Int) : List Int := if f.pl a = true then f.ws g a.toNat else []
def Cf.lvI (f : Cf) (g : Rw Bool) (a : Int) : Bool := f.pl a && f.lv g a.toNat
def Cf.wit (f : Cf) (g : Rw Bool) (x : Rn) (a : Int) : Prop := ∀ b ∈ f.wsI g a, b = x.join ∨ b ∈ x.ps.ls
/-- What Holds tells, of a function that goes ahead. -/
noncomputable def Cf.hold (f : Cf) (g : Rw Bool) (x : Rn) : Int := open Classical in
  if f.pl x.at_ = false ∨ (x.join ≠ -1 ∧ f.pl x.join = false) then -1
  else if ¬ f.wit g x x.at_ then 1
  else if ∃ i, i < x.ps.len ∧ ¬ f.wit g x (x.ps.x i) then 2
  else if x.join = -1 then 0
  else if f.lvI g x.at_ = true ∨ ∃ i, i < x.ps.len ∧ f.lvI g (x.ps.x i) = true then 3 else 0
end Go.Proofs.Ytibhcbdofadamaa
