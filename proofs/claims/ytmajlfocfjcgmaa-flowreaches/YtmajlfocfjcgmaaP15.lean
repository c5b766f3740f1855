/- Layer 15: Reach. -/
import Derived.Test.YtmajlfocfjcgmaaP14
import Derived.Test.YtmajlfocfjcgmaaP4
import Derived.Test.YtmajlfocfjcgmaaP9
import Derived.Test.YtmajlfocfjcgmaaP6
import Derived.Test.YtmajlfocfjcgmaaP7
namespace Go.Proofs.Ytmajlfocfjcgmaa
open Go Go.RowKit

/-- The numbers of what is true. -/
def trM (m : Nat → Bool) (n : Nat) : List Int := ((List.range n).filter m).map fun q : Nat => (q : Int)
theorem trM_succ (m : Nat → Bool) (n : Nat) : trM m (n + 1) = trM m n ++ (if m n = true then [(n : Int)] else []) := by
  unfold trM
  rw [List.range_succ, List.filter_append, List.map_append]
  cases h : m n <;> simp [h]
theorem trM_len (m : Nat → Bool) (n : Nat) : (trM m n).length ≤ n := by
  unfold trM
  rw [List.length_map]
  exact Nat.le_trans (List.length_filter_le _ _) (by simp)
theorem trM_eq {m : Nat → Bool} {n : Nat} {P : Nat → Prop} (h : ∀ q, q < n → (m q = true ↔ P q)) : trM m n = (Fl.lst n P).map fun q : Nat => (q : Int) := by
  unfold trM
  congr 1
  apply Fl.lst_of
  · exact List.Pairwise.filter _ List.pairwise_lt_range
  · intro p
    rw [List.mem_filter, List.mem_range]
    exact ⟨fun k => ⟨k.1, (h p k.1).1 k.2⟩, fun k => ⟨k.1, (h p k.1).2 k.2⟩⟩

set_option maxRecDepth 100000 in
set_option maxHeartbeats 8000000 in
theorem placesOf_any (m : Nat → Bool) (n V : Nat) (w : World) (hV : Blk w V (bvL m n) 4) (hn : n ≤ 100000) : Calls Try.prog 19 #[.slice (some ⟨V, 0, none⟩) n n] w fun e w' => ∃ v, e = .returned v ∧ Oi w' w.heap.size v (trM m n) ∧ Below w.heap.size w w' := by
  have HV := hyd hV
  clear hV
  go_enter Try.func19, Try.ntmps19
  go_wp2
  go_loopw [3, 8] (fun v i wr => ∃ (j : Nat), j ≤ n ∧ i = .int .i64 j ∧ Oi wr w.heap.size v (trM m j) ∧ Below w.heap.size w wr) (fun _ i _ => n - (intOf i).toNat)
  case atStart => exact ⟨0, Nat.zero_le _, rfl, Oi.nil _ _, Below.refl _ _⟩
  case round =>
    obtain ⟨j, hj, rfl, hO, hB⟩ := hrel
    have HO := hyd (show Oi wr w.heap.size u3 (trM m j) ∧ Below w.heap.size w wr from ⟨hO, hB⟩)
    clear hO hB
    by_cases hlt : j < n
    · have ij : (j : Int) < n := by omega
      have c0 := (HV.out.kept HO.out.2).cell j (bvL_get m hlt)
      have hlen := hyd (trM_len m j)
      have HT := hyd (trM_succ m j)
      cases hm : m j
      · rw [hm] at c0
        have HE : Hid (trM m (j + 1) = trM m j) := by show _ = _; rw [HT.out, hm]; simp
        clear hm HT
        go_wp2
        go_roundw
        case rel => exact ⟨j + 1, by omega, by go_num, by rw [HE.out]; exact HO.out.1, HO.out.2⟩
        case measure => simp [intOf]; omega
      · rw [hm] at c0
        have HE : Hid (trM m (j + 1) = trM m j ++ [(j : Int)]) := by show _ = _; rw [HT.out, hm]; simp
        clear hm HT
        go_wp2_with (at_builtin; refine wpList_app1 rfl _ _ rfl w.heap.size u3 (trM m j) (j : Int) rfl HO.out.1 rfl (by have := hlen.out; omega) HO.out.2.size ?_; intro v6 w6 h6 g6; have HO2 := hyd (show Oi w6 w.heap.size v6 (trM m (j + 1)) ∧ Below w.heap.size w w6 from ⟨by rw [HE.out]; exact h6, gb_bel HO.out.2 g6 (fun k hk => (owb HO.out.1 hk).1)⟩); clear h6 g6 HO c0)
        go_roundw
        case rel => exact ⟨j + 1, by omega, by go_num, HO2.out.1, HO2.out.2⟩
        case measure => simp [intOf]; omega
    · have ij : ¬ (j : Int) < n := by omega
      have HE : Hid (trM m j = trM m n) := by show _ = _; rw [show j = n by omega]
      go_wp2
      go_ret
      exact ⟨_, rfl, by rw [← HE.out]; exact HO.out.1, HO.out.2⟩

theorem Oi.pop {w : World} {base : Nat} {g cap : Nat} {l : List Int} {a : Int} (h : Oi w base (.slice (some ⟨g, 0, none⟩) (l.length + 1) cap) (l ++ [a])) : Oi w base (.slice (some ⟨g, 0, none⟩) l.length cap) l := by
  obtain ⟨_, ⟨h1, _⟩ | ⟨g', cap', cur, h1, h2, h3, h4, h5, h6, h7⟩⟩ := h
  · cases h1
  · injection h1 with e1 _ e3
    injection e1 with e1
    injection e1 with e1
    subst e1; subst e3
    rw [List.length_append, List.length_singleton] at h4 h7
    refine ⟨by rw [ivL_len]; omega, Or.inr ⟨g, cap, cur, rfl, h2, h3, by omega, h5, h6, ?_⟩⟩
    have := congrArg (List.take (l.length * 1)) h7
    rw [List.take_take, show min (l.length * 1) ((l.length + 1) * 1) = l.length * 1 by omega] at this
    rw [this, ivL, List.map_append, List.take_left' (by simp)]
    rfl
theorem Oi.last {w : World} {base : Nat} {v : Value} {l : List Int} {a : Int} (h : Oi w base v (l ++ [a])) : ∃ g cap, v = .slice (some ⟨g, 0, none⟩) (l.length + 1) cap ∧ w.cell? ⟨g, l.length, none⟩ = some (.int .i64 a) ∧ l.length + 1 ≤ cap := by
  have h' := h
  obtain ⟨_, ⟨h1, h0⟩ | ⟨g, cap, cur, h1, h2, h3, h4, h5, h6, h7⟩⟩ := h
  · simp at h0
  · rw [List.length_append, List.length_singleton] at h1 h4
    subst h1
    refine ⟨g, cap, rfl, ?_, h4⟩
    have := World.ownsRow.cells h' (g := g) rfl l.length (.int .i64 a) (by simp [ivL])
    rw [adp, Nat.zero_add] at this
    exact this

/-- What is come to. -/
noncomputable def Cf.rch (f : Cf) (g : Rw Bool) (r : Rw Int) (stop : Int) : List Int := (Fl.lst f.cd.len (Fl.Rch (f.way g) (fun q => (q : Int) ∈ r.ls ∧ q < f.cd.len) stop)).map fun q : Nat => (q : Int)
theorem lst_len (n : Nat) (P : Nat → Prop) : (Fl.lst n P).length ≤ n := by
  unfold Fl.lst
  exact Nat.le_trans (List.length_filter_le _ _) (by simp)
theorem lstm_small {n : Nat} {P : Nat → Prop} (hn : n ≤ 100000) : (∀ a ∈ (Fl.lst n P).map (fun q : Nat => (q : Int)), I64 a) ∧ ((Fl.lst n P).map (fun q : Nat => (q : Int))).length ≤ 9223372036854775807 := by
  refine ⟨fun a ha => ?_, ?_⟩
  · obtain ⟨q, rfl, hq, _⟩ := mem_lstm.1 ha
    exact ⟨by omega, by omega⟩
  · rw [List.length_map]; have := lst_len n P; omega

set_option maxRecDepth 100000 in
set_option maxHeartbeats 16000000 in
theorem reach_any (f : Cf) (g : Rw Bool) (r : Rw Int) (stop : Int) (w : World) (hf : f.At w) (hg : BlAt w g) (hr : NmAt w r) (hn : f.cd.len ≤ 100000) : Calls Try.prog 10 #[.agg f.vs.toArray, .slice g.ao g.len g.cap, .slice r.ao r.len r.cap, .int .i64 stop] w fun e w' => ∃ v, e = .returned v ∧ Oi w' w.heap.size v (f.rch g r stop) ∧ Below w.heap.size w w' := by
  have hmf : ∀ (fn : Fn) (first cap : Array Value) (w : World), (Instr.makeFunc fn first cap).run Try.prog w = .ok (.func fn first cap) w := fun _ _ _ _ => rfl
  have A0 := allocs_below [.cells f.vs.toArray 30, .cells #[.int .i64 stop] 3] w
  have A1 := allocs_heap [.cells f.vs.toArray 30, .cells #[.int .i64 stop] 3] w
  simp only [List.foldl] at A0 A1
  have H1 := hyd (show Below w.heap.size w _ ∧ Blk _ w.heap.size f.vs 30 ∧ Blk _ (w.heap.size + 1) [.int .i64 stop] 3 from ⟨A0, A1 0 (by simp), A1 1 (by simp)⟩)
  have HD := hyd (show f.At w ∧ BlAt w g ∧ NmAt w r from ⟨hf, hg, hr⟩)
  have HW : Hid (f.rch g r stop = (Fl.lst f.cd.len (Fl.Rch (f.way g) (fun q => (q : Int) ∈ r.ls ∧ q < f.cd.len) stop)).map fun q : Nat => (q : Int)) := rfl
  generalize f.rch g r stop = R at *
  clear A0 A1 hf hg hr
  go_enter Try.func10, Try.ntmps10
  go_upto_region 1 with fail
  generalize (w.alloc (.cells f.vs.toArray 30)).alloc (.cells #[.int .i64 stop] 3) = u1 at *
  have c14 := H1.out.2.1.cell 14 rfl
  go_upto_region 2 with (first
    | (refine wpList_make_blk rfl _ _ _ rfl 4 (.bool false) 1 Try.underlying31 (by kernel_rfl) rfl f.cd.len rfl rfl (by omega) (by omega) ?_; intro w1 hb1 hl1; have H2 := hyd (show (Below w.heap.size w w1 ∧ Blk w1 w.heap.size f.vs 30 ∧ Blk w1 (w.heap.size + 1) [.int .i64 stop] 3) ∧ Blk w1 u1.heap.size (bvL (fun _ => false) f.cd.len) 4 ∧ w.heap.size + 1 < u1.heap.size from ⟨⟨Below.next H1.out.1 hl1, H1.out.2.1.kept hl1, H1.out.2.2.kept hl1⟩, by rw [← rpl_bvL]; exact hb1, H1.out.2.2.lt⟩); clear hb1 hl1 H1 c14)
    | (refine wpList_store1 rfl 31 (.tmp 9) (.tmp 17) rfl rfl w1.heap.size 0 (.slice (some ⟨u1.heap.size, 0, none⟩) f.cd.len f.cd.len) _ _ (by kernel_rfl) (by kernel_rfl) (store_one _ _ (by kernel_rfl) rfl rfl _ _) (Blk.new w1 [.slice none 0 0] 31) (by simp) ?_; intro w2 W2; have H3 := hyd (show (Below w.heap.size w w2 ∧ Blk w2 w.heap.size f.vs 30 ∧ Blk w2 (w.heap.size + 1) [.int .i64 stop] 3) ∧ (Blk w2 u1.heap.size (bvL (fun _ => false) f.cd.len) 4 ∧ Blk w2 w1.heap.size [.slice (some ⟨u1.heap.size, 0, none⟩) f.cd.len f.cd.len] 31) ∧ (w.heap.size + 1 < u1.heap.size ∧ u1.heap.size < w1.heap.size) from by
        have B := below_alloc w1 (.cells #[.slice none 0 0] 31)
        have l1 := H2.out.2.1.lt
        have l2 := H2.out.2.2
        refine ⟨⟨gb_bel (Below.next H2.out.1.1 B) W2.gb (fun k hk => by have := Option.some.inj hk; omega), (H2.out.1.2.1.kept B).gb W2.gb (fun e => by have := Option.some.inj e; omega), (H2.out.1.2.2.kept B).gb W2.gb (fun e => by have := Option.some.inj e; omega)⟩, ⟨(H2.out.2.1.kept B).gb W2.gb (fun e => by have := Option.some.inj e; omega), W2.blk⟩, l2, l1⟩); clear W2 H2))
  generalize u1.heap.size = BV at *
  generalize w1.heap.size = BM at *
  have rF := H3.out.1.2.1.range
  have h0 := allHandlers_any f w2 (Cf.At.kept H3.out.1.1 HD.out.1) hn
  go_upto_region 3 with (refine wpList_load_mid rfl 30 (.tmp 4) rfl w.heap.size 0 (by kernel_rfl) f.vs _ rF Try.underlying30 rfl (by kernel_rfl) ?_)
  refine h0.mono ?_
  rintro _ u4 ⟨BH, rfl, hBH, hbH, hb4⟩
  have H4 := hyd (show ((Below w.heap.size w u4 ∧ Blk u4 w.heap.size f.vs 30 ∧ Blk u4 (w.heap.size + 1) [.int .i64 stop] 3) ∧ (Blk u4 BV (bvL (fun _ => false) f.cd.len) 4 ∧ Blk u4 BM [.slice (some ⟨BV, 0, none⟩) f.cd.len f.cd.len] 31 ∧ Blk u4 BH (nvL (fun p => f.han p) f.cd.len) 3)) ∧ ((w.heap.size + 1 < BV ∧ BV < BM) ∧ BM < BH) from by
    have l1 := H3.out.2.1.2.lt
    exact ⟨⟨⟨Below.next H3.out.1.1 hb4, H3.out.1.2.1.kept hb4, H3.out.1.2.2.kept hb4⟩, H3.out.2.1.1.kept hb4, H3.out.2.1.2.kept hb4, hbH⟩, H3.out.2.2, by omega⟩)
  clear h0 hBH hbH hb4 H3 rF
  go_upto_region 5 with fail
  have B5 := below_alloc u4 (.cells #[.slice none 0 0] 32)
  have H5 : Hid (Mr w f stop ⟨w.heap.size, w.heap.size + 1, BV, BM, BH, u4.heap.size⟩ (fun _ => false) (.slice none 0 0) [] (u4.alloc (.cells #[.slice none 0 0] 32))) :=
    ⟨Below.next H4.out.1.1.1 B5, H4.out.1.1.2.1.kept B5, H4.out.1.1.2.2.kept B5, H4.out.1.2.1.kept B5, H4.out.1.2.2.1.kept B5, H4.out.1.2.2.2.kept B5, Blk.new u4 [.slice none 0 0] 32, Oi.nil _ _, by have := H4.out.2; have := H4.out.1.2.2.2.lt; show (w.heap.size ≤ w.heap.size ∧ w.heap.size < w.heap.size + 1) ∧ (w.heap.size + 1 < BV ∧ BV < BM) ∧ (BM < BH ∧ BH < u4.heap.size); omega⟩
  clear B5 H4
  generalize u4.alloc (.cells #[.slice none 0 0] 32) = u5 at *
  generalize u4.heap.size = BO at *
  have hap : Apt w ⟨w.heap.size, w.heap.size + 1, BV, BM, BH, BO⟩ r (.slice none 0 0) := by
    by_cases e : r.len = 0
    · exact Or.inl e
    · refine Or.inr ⟨Or.inl ?_, fun k hk => by cases hk⟩
      exact World.block_lt_of_cell? w _ (HD.out.2.2.row 0 (by omega) 0 _ rfl)
  have h0 := reachMeet_any w f stop ⟨w.heap.size, w.heap.size + 1, BV, BM, BH, BO⟩ (fun _ => false) (.slice none 0 0) [] r u5 H5.out HD.out.1 (HD.out.2.2.kept H5.out.bl) hap (by have := fls_le (fun _ => false) f.cd.len; simpa using this) hn
  dsimp only at h0
  clear hap
  go_wp2_with fail
  refine h0.mono ?_
  rintro _ u6 ⟨rfl, ov, hM⟩
  have HR : Hid (Rs (f.way g) (fun q => (q : Int) ∈ r.ls ∧ q < f.cd.len) f.cd.len stop (mtL f.cd.len stop r.ls (fun _ => false, []))) := Rs.start
  have H6 := hyd hM
  clear h0 hM H5
  generalize mtL f.cd.len stop r.ls (fun _ => false, []) = s at *
  obtain ⟨m, o⟩ := s
  go_upto_block 0 with fail
  go_cut [13] (fun _ wx => ∃ m : Nat → Bool, Hid (Blk wx BV (bvL m f.cd.len) 4 ∧ Blk wx BM [.slice (some ⟨BV, 0, none⟩) f.cd.len f.cd.len] 31 ∧ Below w.heap.size w wx) ∧ Hid (trM m f.cd.len = R))
  case first =>
    go_wp2_with fail
    go_loopg [13] (o.length + 2 * fls m f.cd.len) (fun k _ wr => ∃ (m : Nat → Bool) (ov : Value) (o : List Int), Mr w f stop ⟨w.heap.size, w.heap.size + 1, BV, BM, BH, BO⟩ m ov o wr ∧ Rs (f.way g) (fun q => (q : Int) ∈ r.ls ∧ q < f.cd.len) f.cd.len stop (m, o) ∧ o.length + 2 * fls m f.cd.len ≤ k)
    case atStart => exact ⟨m, ov, o, H6.out, HR.out, Nat.le_refl _⟩
    case round =>
      clear H6 HR
      obtain ⟨m, ov, o, hM, hR, hk⟩ := hrel
      have HM := hyd hM
      have HR := hyd hR
      have HK := hyd hk
      clear hM hR hk
      rcases List.eq_nil_or_concat o with rfl | ⟨o1, z, rfl⟩
      · obtain ⟨ao, cap, rfl⟩ := owform HM.out.oi
        have cO := HM.out.bO.cell 0 rfl
        have HE : Hid (trM m f.cd.len = R) := by
          show _ = _
          rw [HW.out]
          exact trM_eq (fun q _ => HR.out.done q)
        have HF := hyd (show Blk wr BV (bvL m f.cd.len) 4 ∧ Blk wr BM [.slice (some ⟨BV, 0, none⟩) f.cd.len f.cd.len] 31 ∧ Below w.heap.size w wr from ⟨HM.out.bV, HM.out.bM, HM.out.bl⟩)
        clear HM HR HK
        go_wp2
        go_meet
        case rel => exact ⟨m, HF.out, HE.out⟩
      · as_aux_lemma =>
        rw [List.concat_eq_append] at HM HR HK
        obtain ⟨p, rfl, hp, _⟩ := HR.out.places z (by simp)
        obtain ⟨gg, cap, rfl, hc, hcap⟩ := HM.out.oi.last
        obtain ⟨L, hL⟩ : ∃ L, L = o1.length + 1 := ⟨_, rfl⟩
        have HL := hyd hL
        have cO := HM.out.bO.cell 0 rfl
        rw [← hL] at cO hcap
        rw [show o1.length = L - 1 by omega] at hc
        have hLs : L ≤ f.cd.len := by have := HR.out.cnt; simp only [List.length_append, List.length_singleton] at this; omega
        clear hL
        have iL : (0 : Int) < L := by have := HL.out; omega
        have iC : (L : Int) - 1 ≤ cap := by omega
        have ip : (p : Int) < f.cd.len := by omega
        go_upto_region 9 with (refine wpList_store1 rfl 32 (.tmp 11) (.tmp 37) rfl rfl BO 0 (.slice (some ⟨gg, 0, none⟩) (L - 1) cap) _ _ (by kernel_rfl) (by kernel_rfl) (store_one _ _ (by kernel_rfl) rfl rfl _ _) HM.out.bO (by simp) ?_; intro w3 W3)
        have HM2 : Hid (Mr w f stop ⟨w.heap.size, w.heap.size + 1, BV, BM, BH, BO⟩ m (.slice (some ⟨gg, 0, none⟩) (L - 1) cap) o1 w3) := by
          have e : L - 1 = o1.length := by have := HL.out; omega
          have e2 : L = o1.length + 1 := HL.out
          refine Mr.setO (ov := .slice (some ⟨gg, 0, none⟩) (o1.length + 1) cap) ⟨⟨HM.out.bl, HM.out.bF, HM.out.bS, HM.out.bV⟩, HM.out.bM, HM.out.bH, HM.out.bO⟩ HM.out.ne ?_ W3
          rw [e]
          exact HM.out.oi.pop
        clear HM W3 cO hc
        have HVC : Hid (∀ u : World, Blk u BH (nvL (fun p => f.han p) f.cd.len) 3 → u.cell? ⟨BH, p, none⟩ = some (.int .i64 (f.han p))) := fun u hu => hu.cell p (nvL_get (fun p => f.han p) hp)
        have rF := HM2.out.bF.range
        have cH := HM2.out.bH.cell p (nvL_get (fun p => f.han p) hp)
        have HWS : Hid (f.wsH g (f.han p) p = f.ws g p) := rfl
        have HWW := hyd (fun w1 h1 h2 => waysWith_any f g p (f.han p) w1 h1 h2 hp)
        generalize f.han p = hv at *
        have hNE : Nonempty (Wd (fun u : World => u.rangeAt w.heap.size 0 f.vs ∧ u.cell? ⟨BH, p, none⟩ = some (.int .i64 hv))) := ⟨⟨w3.drew, rF, cH⟩⟩
        have fH : ∀ x : Wd (fun u : World => u.rangeAt w.heap.size 0 f.vs ∧ u.cell? ⟨BH, p, none⟩ = some (.int .i64 hv)), x.w.cell? ⟨BH, p, none⟩ = some (.int .i64 hv) := fun x => x.2.2
        refine wp_region_readsQN (fun u : World => u.rangeAt w.heap.size 0 f.vs ∧ u.cell? ⟨BH, p, none⟩ = some (.int .i64 hv)) [0, 1, 2, 3, 4, 5, 6, 7] 2 (by kernel_rfl) rfl (by kernel_rfl) (hj_ofQ (by kernel_rfl)) ⟨rF, cH⟩ ?_
        simp only [List.filterMap, List.getElem?_cons_zero, List.getElem?_cons_succ]
        go_big_quiet_step (fail)
        go_big_quiet_want
        refine quiet_load_rowF 30 (.tmp 4) rfl w.heap.size 0 (by kernel_rfl) f.vs _ (fun _ hC => by obtain ⟨x, rfl⟩ := hC; exact x.2.1) Try.underlying30 rfl (by kernel_rfl) ?_
        simp only [Act.put, List.setIfInBounds_toArray, List.set_cons_succ, List.set_cons_zero]
        go_big_quiet_on
        iterate 6 go_big_quiet_step (fail)
        refine wpQuiet_nil ?_
        clear fH hNE rF cH
        have HM3 := hyd (HM2.out.kept (Below.refl _ _).drew)
        clear HM2
        generalize w3.drew = w4 at *
        refine wpAnyH_ready (rs := [8]) (by kernel_rfl) (by simp) ?_
        refine AllReadyH.cons rfl (fun K hK => ?_) AllReadyH.nil
        rw [if_pos (by rfl)]
        go_simp
        refine (HWW.out w4 (Cf.At.kept HM3.out.bl HD.out.1) (BlAt.kept HD.out.2.1 HM3.out.bl)).mono ?_
        rintro _ w5 ⟨v, rfl, hO, hb⟩
        rw [HWS.out] at hO
        have hsm := lstm_small (n := f.cd.len) (P := f.way g p) hn
        obtain ⟨ra, rfl, hra, hral, _, hrab⟩ := hO.rw hsm.1 hsm.2
        have HM4 := hyd (HM3.out.kept hb)
        have HA := hyd (show NmAt w5 ra ∧ Apt w ⟨w.heap.size, w.heap.size + 1, BV, BM, BH, BO⟩ ra (.slice (some ⟨gg, 0, none⟩) (L - 1) cap) ∧ ra.ls = f.ws g p from ⟨hra, Or.inr ⟨Or.inr (by have : BO < w4.heap.size := HM3.out.bO.lt; show BO < ra.b; omega), fun k hk => by have := (owb HM3.out.oi hk).2; omega⟩, hral⟩)
        clear hO hsm hra hral hrab hb HM3 HWW
        refine hK.out _ _ ⟨HM4.out.bF.range, HVC.out _ HM4.out.bH⟩ (fun _ => ?_)
        clear hK K
        refine wpAnyH_ready (rs := [9]) (by kernel_rfl) (by simp) ?_
        refine AllReadyH.cons rfl (fun K hK => ?_) AllReadyH.nil
        rw [if_pos (by rfl)]
        go_simp
        have hcnt : o1.length + fls m f.cd.len ≤ f.cd.len := by have := HR.out.cnt; simp only [List.length_append, List.length_singleton] at this; omega
        have h0 := reachMeet_any w f stop ⟨w.heap.size, w.heap.size + 1, BV, BM, BH, BO⟩ m (.slice (some ⟨gg, 0, none⟩) (L - 1) cap) o1 ra w5 HM4.out HD.out.1 HA.out.1 HA.out.2.1 hcnt hn
        dsimp only at h0
        refine h0.mono ?_
        rintro _ w6 ⟨rfl, ov6, hM6⟩
        obtain ⟨hR6, hlt6⟩ := HR.out.step (l := ra.ls) (fun a => by rw [HA.out.2.2]; exact mem_lstm) (fun q hq => hq.1)
        have HM6 := hyd hM6
        have HR6 := hyd hR6
        have HK6 : Hid ((mtL f.cd.len stop ra.ls (m, o1)).2.length + 2 * fls (mtL f.cd.len stop ra.ls (m, o1)).1 f.cd.len < gk) := by show _ < _; have := HK.out; omega
        clear h0 hM6 hR6 hlt6
        generalize mtL f.cd.len stop ra.ls (m, o1) = s6 at *
        obtain ⟨m6, o6⟩ := s6
        refine hK.out _ _ ⟨HM6.out.bF.range, HVC.out _ HM6.out.bH⟩ (fun _ => ?_)
        clear hK K
        refine wpAnyH_done (by kernel_rfl) ?_ _
        refine ⟨(fun c hc => by cases hc), ?_⟩
        go_wp2
        go_roundg (o6.length + 2 * fls m6 f.cd.len)
        case measure => exact HK6.out
        case rel => exact ⟨m6, ov6, o6, HM6.out, HR6.out, Nat.le_refl _⟩
  case rest =>
  obtain ⟨m', hB, hE⟩ := hcut
  have HB := hyd hB.out
  have HE := hyd hE.out
  clear hB hE H6 HR
  have cM := HB.out.2.1.cell 0 rfl
  have h0 := placesOf_any m' f.cd.len BV wc HB.out.1 hn
  go_wp2_with fail
  refine h0.mono ?_
  rintro _ u7 ⟨v, rfl, hO, hb⟩
  have H7 := hyd (show Oi u7 w.heap.size v R ∧ Below w.heap.size w u7 from ⟨by rw [← HE.out]; exact own_mono hO HB.out.2.2.size, Below.next HB.out.2.2 hb⟩)
  clear h0 hO hb cM
  go_wp2
  go_ret
  exact ⟨_, rfl, H7.out.1, H7.out.2⟩
end Go.Proofs.Ytmajlfocfjcgmaa

/- Layers 13 to 15: the lattice of one label, as the statements make it. -/
namespace Go.Proofs.Ytmajlfocfjcgmaa
open Go Go.RowKit

def litS : Nat → ByteArray := fun _ => ⟨#[108, 111, 119]⟩
def litN (b : Nat) : Strs := ⟨some ⟨b, 0, none⟩, b, 0, 1, 1, litS⟩
def litP : Prs := ⟨none, 0, 0, 0, 0, fun _ => 0, fun _ => 0⟩
theorem lit_e (b : Nat) : makeE (litN b) litP = 0 := by kernel_rfl
def litW (w : World) : World := w.alloc (.cells #[.string ⟨#[108, 111, 119]⟩] 9)
theorem litW_below (w : World) : Below w.heap.size w (litW w) := below_alloc _ _
theorem litN_at (w : World) : (litN w.heap.size).At (litW w) := by
  refine ⟨Nat.le_refl _, fun _ => rfl, by show (1 : Nat) ≤ _; omega, fun i hi => ?_, fun i hi => ?_⟩
  · match i, hi with
    | 0, _ => simp [litW, litN, litS]
  · show (3 : Nat) ≤ _; omega
theorem litP_at (w : World) : litP.At w := ⟨Nat.le_refl _, fun h => absurd h (Nat.lt_irrefl _), Nat.zero_le _, fun _ h => absurd h (Nat.not_lt_zero _), fun _ h => absurd h (Nat.not_lt_zero _)⟩
/-- The lattice of one. -/
structure Lt1 (n : Strs) (g : Grid) (w : World) : Prop where
  nat : n.At w
  gat : g.At w
  fd : formedB n g = true
  one : n.len = 1
  nm : n.s 0 = ⟨#[108, 111, 119]⟩
  le : g.B 0 0 = true
  rows : ∀ r, r < g.len → g.A r ≠ none
def nilRw {α : Type} (x : α) : Rw α := ⟨none, 0, 0, 0, 0, fun _ => x⟩
theorem nilRw_at {α : Type} (x : α) (z : Nat) (vs : α → List Value) (A : World → α → Prop) (w : World) : Rw.At z vs A w (nilRw x) := ⟨fun h => absurd h (Nat.lt_irrefl _), Nat.zero_le _, fun _ h => absurd h (Nat.not_lt_zero _), fun _ h => absurd h (Nat.not_lt_zero _)⟩
end Go.Proofs.Ytmajlfocfjcgmaa

/- Layer 15: awake and few of the statements. -/
namespace Go.Proofs.Ytmajlfocfjcgmaa
open Go Go.RowKit

def aIn (i : Nat) : In := if i = 0 then ⟨25, 1, leafT 0 0⟩ else ⟨27, 0, leafT 0 0⟩
def aCf (b : Nat) : Cf := ⟨leafT 0 0, leafT 0 0, leafT 0 0, 0, 0, 0, ⟨some ⟨b, 0, none⟩, b, 0, 2, 2, aIn⟩, nilRw ⟨0, 0, 0⟩, nilRw ⟨.dm, .dm, 0⟩, nilRw ⟨0, 0, nilRw 0⟩⟩
def aCd : List Value := [.int .i64 25, .int .i64 1, .int .i64 0, .int .i64 0, .slice none 0 0, .int .i64 0, .int .i64 0, .int .i64 27, .int .i64 0, .int .i64 0, .int .i64 0, .slice none 0 0, .int .i64 0, .int .i64 0]
def aFv (b : Nat) : List Value := [.int .i64 0, .int .i64 0, .slice none 0 0, .int .i64 0, .int .i64 0, .int .i64 0, .int .i64 0, .slice none 0 0, .int .i64 0, .int .i64 0, .slice none 0 0, .int .i64 0, .int .i64 0, .int .i64 0, .slice (some ⟨b, 0, none⟩) 2 2, .slice none 0 0, .slice none 0 0, .slice none 0 0]
theorem aCf_vs (b : Nat) : (aCf b).vs = aFv b := rfl
theorem i64_zero : I64 0 := ⟨by omega, by omega⟩
theorem aCf_at {b : Nat} {w : World} (h : Blk w b aCd 44) : (aCf b).At w := by
  refine ⟨leaf_at _ _ _, leaf_at _ _ _, leaf_at _ _ _, i64_zero, i64_zero, i64_zero, ⟨fun _ => rfl, by show 2 ≤ _; omega, fun i hi => ?_, fun i hi => ?_⟩, nilRw_at _ _ _ _ _, nilRw_at _ _ _ _ _, nilRw_at _ _ _ _ _⟩
  · have hi2 : i < 2 := hi
    show w.rangeAt b (0 + i * 7) (aIn i).vs
    intro j v hv
    have key : ∀ k, (aIn i).vs[j]? = some v → aCd[k]? = (aIn i).vs[j]? → w.cell? ⟨b, k, none⟩ = some v := fun k h1 h2 => h.cell k (h2.trans h1)
    have hj : j < 7 := (List.getElem?_eq_some_iff.1 hv).1
    refine (show w.cell? ⟨b, i * 7 + j, none⟩ = some v → w.cell? ⟨b, 0 + i * 7 + j, none⟩ = some v by rw [Nat.zero_add]; exact id) (key _ hv ?_)
    match i, hi2, j, hj with
    | 0, _, 0, _ => rfl
    | 0, _, 1, _ => rfl
    | 0, _, 2, _ => rfl
    | 0, _, 3, _ => rfl
    | 0, _, 4, _ => rfl
    | 0, _, 5, _ => rfl
    | 0, _, 6, _ => rfl
    | 1, _, 0, _ => rfl
    | 1, _, 1, _ => rfl
    | 1, _, 2, _ => rfl
    | 1, _, 3, _ => rfl
    | 1, _, 4, _ => rfl
    | 1, _, 5, _ => rfl
    | 1, _, 6, _ => rfl
  · show (aIn i).At w
    unfold aIn
    split
    · exact ⟨(show (-9223372036854775808 : Int) ≤ 25 ∧ (25 : Int) ≤ 9223372036854775807 by omega), (show (-9223372036854775808 : Int) ≤ 1 ∧ (1 : Int) ≤ 9223372036854775807 by omega), leaf_at _ _ _⟩
    · exact ⟨(show (-9223372036854775808 : Int) ≤ 27 ∧ (27 : Int) ≤ 9223372036854775807 by omega), i64_zero, leaf_at _ _ _⟩
def nG : Rw Bool := ⟨none, 0, 0, 0, 0, fun _ => false⟩
theorem nG_at (w : World) : BlAt w nG := ⟨fun h => absurd h (Nat.lt_irrefl 0), Nat.zero_le _, fun _ h => absurd h (Nat.not_lt_zero _), fun _ h => absurd h (Nat.not_lt_zero _)⟩
theorem aCf_ws (b : Nat) : (aCf b).ws nG 0 = [1] := by
  refine (lst_map_of (l := [1]) (by simp) (fun a => ?_)).symm
  have hop : ((aCf b).cd.x 0).op = 25 := rfl
  have ha : ((aCf b).cd.x 0).a = 1 := rfl
  have hrs : (aCf b).rs nG 0 = false := rfl
  constructor
  · intro h
    have : a = 1 := by simpa using h
    subst this
    exact ⟨1, rfl, by show 1 < 2; omega, by show 1 < 2; omega, Or.inl ⟨rfl, rfl⟩⟩
  · rintro ⟨q, rfl, _, _, h | h | h⟩
    · simp [h.1]
    · have := h.2; rw [ha] at this; simp [← this]
    · rw [hrs] at h; cases h.1
theorem aCf_lv (b : Nat) : (aCf b).lv nG 1 = true := rfl

set_option maxRecDepth 100000 in
set_option maxHeartbeats 8000000 in
theorem awake15_any (w : World) : Calls Try.prog 7 #[] w fun e w' => e = .returned (.bool true) ∧ Below w.heap.size w w' := by
  have B1 := below_alloc w (.cells aCd.toArray 44)
  have b1 := Blk.new w aCd 44
  have B2 := below_alloc (w.alloc (.cells aCd.toArray 44)) (.cells (aFv w.heap.size).toArray 30)
  have b2 := Blk.new (w.alloc (.cells aCd.toArray 44)) (aFv w.heap.size) 30
  have H1 := hyd (show Below w.heap.size w _ ∧ Blk _ w.heap.size aCd 44 ∧ Blk _ (w.alloc (.cells aCd.toArray 44)).heap.size (aFv w.heap.size) 30 from ⟨Below.next B1 B2, b1.kept B2, b2⟩)
  rw [alloc_size] at H1
  clear B1 b1 B2 b2
  go_enter Try.func7, Try.ntmps7
  go_upto_region 2 with (refine wpList_new_mid rfl rfl 30 rfl (.tmp 1) (.tmp 6) rfl z_fn (alloc_fn _) rfl (aFv w.heap.size).toArray (by kernel_rfl) (by kernel_rfl) rfl (by kernel_rfl) (by simp [aFv, Value.oneCell']) ?_)
  simp only [Act.put, List.setIfInBounds_toArray, List.set_cons_succ, List.set_cons_zero]
  rw [show (#[Value.int .i64 25, Value.int .i64 1, Value.int .i64 0, Value.int .i64 0, Value.slice none 0 0, Value.int .i64 0, Value.int .i64 0, Value.int .i64 27, Value.int .i64 0, Value.int .i64 0, Value.int .i64 0, Value.slice none 0 0, Value.int .i64 0, Value.int .i64 0] : Array Value) = aCd.toArray from rfl]
  have hs := alloc_size w (.cells aCd.toArray 44)
  simp only [hs]
  clear hs
  generalize (w.alloc (.cells aCd.toArray 44)).alloc (.cells (aFv w.heap.size).toArray 30) = u1 at *
  have rF := H1.out.2.2.range
  rw [← aCf_vs] at rF
  have h0 := ways_any (aCf w.heap.size) nG 0 u1 (aCf_at H1.out.2.1) (nG_at _) (by show 0 < 2; omega)
  rw [aCf_ws] at h0
  have h9 : Hid (∀ u : World, Blk u w.heap.size aCd 44 → Calls Try.prog 14 #[.agg (aCf w.heap.size).vs.toArray, .slice nG.ao nG.len nG.cap, .int .i64 (1 : Nat)] u fun e w' => e = .returned (.bool true) ∧ Below u.heap.size u w') := fun u hu => by
    have := leaves_any (aCf w.heap.size) nG 1 u (aCf_at hu) (nG_at _) (by show 1 < 2; omega)
    rw [aCf_lv] at this
    exact this
  go_upto_region 3 with (refine wpList_load_mid rfl 30 (.tmp 1) rfl (w.heap.size + 1) 0 (by kernel_rfl) (aCf w.heap.size).vs _ rF Try.underlying30 rfl (by kernel_rfl) ?_)
  refine h0.mono ?_
  rintro _ u2 ⟨v, rfl, hO, hb⟩
  obtain ⟨r, rfl, hr, hrl, _, _⟩ := hO.rw (fun a ha => by have : a = 1 := by { simpa using ha }; subst this; exact ⟨by omega, by omega⟩) (by simp)
  have H2 := hyd (show Below w.heap.size w u2 ∧ Blk u2 w.heap.size aCd 44 ∧ Blk u2 (w.heap.size + 1) (aFv w.heap.size) 30 from ⟨Below.next H1.out.1 hb, H1.out.2.1.kept hb, H1.out.2.2.kept hb⟩)
  have hlen : r.len = 1 := by have := r.ls_len; rw [hrl] at this; simpa using this.symm
  have hx : r.x 0 = 1 := by have := r.ls_get 0 (by omega); rw [hrl] at this; simpa using this.symm
  have c0 := hr.row 0 (by omega) 0 _ rfl
  rw [hx] at c0
  simp only [Nat.zero_mul, Nat.add_zero] at c0
  rw [hlen, hr.nil (by omega)]
  clear h0 hO hb H1 rF hr hrl hlen hx
  have rF := H2.out.2.2.range
  rw [← aCf_vs] at rF
  have h0 := h9.out u2 H2.out.2.1
  clear h9
  go_wp2_with (refine wpList_loadW (by kernel_rfl) 30 (.tmp 1) rfl (w.heap.size + 1) 0 (by kernel_rfl) (aCf w.heap.size).vs _ rF Try.underlying30 rfl (by kernel_rfl) ?_)
  refine h0.mono ?_
  rintro _ u3 ⟨rfl, hb⟩
  have H3 := hyd (Below.next H2.out.1 hb)
  clear h0 hb c0 rF
  go_wp2
  go_ret
  exact ⟨rfl, H3.out⟩

def Cf.fewB (f : Cf) (g : Rw Bool) : Bool := (decide (f.cd.len ≤ 60) && decide (f.hd.len ≤ 60)) && decide (g.len ≤ 1000)
set_option maxHeartbeats 4000000 in
theorem few15_any (f : Cf) (g : Rw Bool) (w : World) : Calls Try.prog 8 #[.agg f.vs.toArray, .slice g.ao g.len g.cap] w fun e w' => e = .returned (.bool (f.fewB g)) ∧ Below w.heap.size w w' := by
  have B0 := hyd (below_alloc w (.cells f.vs.toArray 30))
  have b := Blk.new w f.vs 30
  have c14 := b.cell 14 rfl
  have c15 := b.cell 15 rfl
  have HF : Hid (f.fewB g = ((decide (f.cd.len ≤ 60) && decide (f.hd.len ≤ 60)) && decide (g.len ≤ 1000))) := rfl
  generalize f.fewB g = F at *
  generalize f.vs.toArray = V at *
  clear b
  by_cases h1 : f.cd.len ≤ 60
  · have i1 : (f.cd.len : Int) ≤ 60 := by omega
    by_cases h2 : f.hd.len ≤ 60
    · have i2 : (f.hd.len : Int) ≤ 60 := by omega
      by_cases h3 : g.len ≤ 1000
      · have i3 : (g.len : Int) ≤ 1000 := by omega
        have HG : Hid (F = true) := by show _ = _; rw [HF.out, decide_eq_true h1, decide_eq_true h2, decide_eq_true h3]; rfl
        clear h1 h2 h3
        go_enter Try.func8, Try.ntmps8
        go_wp2
        go_ret
        exact ⟨ret_bool HG.out.symm, B0.out⟩
      · have i3 : ¬ (g.len : Int) ≤ 1000 := by omega
        have HG : Hid (F = false) := by show _ = _; rw [HF.out, decide_eq_true h1, decide_eq_true h2, decide_eq_false h3]; rfl
        clear h1 h2 h3
        go_enter Try.func8, Try.ntmps8
        go_wp2
        go_ret
        exact ⟨ret_bool HG.out.symm, B0.out⟩
    · have i2 : ¬ (f.hd.len : Int) ≤ 60 := by omega
      have HG : Hid (F = false) := by show _ = _; rw [HF.out, decide_eq_true h1, decide_eq_false h2]; rfl
      clear h1 h2
      go_enter Try.func8, Try.ntmps8
      go_wp2
      go_ret
      exact ⟨ret_bool HG.out.symm, B0.out⟩
  · have i1 : ¬ (f.cd.len : Int) ≤ 60 := by omega
    have HG : Hid (F = false) := by show _ = _; rw [HF.out, decide_eq_false h1]; rfl
    clear h1
    go_enter Try.func8, Try.ntmps8
    go_wp2
    go_ret
    exact ⟨ret_bool HG.out.symm, B0.out⟩
end Go.Proofs.Ytmajlfocfjcgmaa

/- Layer 15: what the statements say of what is come to: the mathematics; rows of numbers appended. -/
namespace Go.Proofs.Ytmajlfocfjcgmaa
open Go Go.RowKit

def Cf.Rq (f : Cf) (g : Rw Bool) (L : List Int) (stop : Int) (q : Nat) : Prop := Fl.Rch (f.way g) (fun q => (q : Int) ∈ L ∧ q < f.cd.len) stop q
theorem Cf.Rq.lt {f : Cf} {g : Rw Bool} {L : List Int} {stop : Int} {q : Nat} (h : f.Rq g L stop q) : q < f.cd.len := Fl.Rch.lt (fun _ h => h.2) (fun _ _ h => h.1) h
theorem Cf.mem_rch {f : Cf} {g : Rw Bool} {r : Rw Int} {stop a : Int} : a ∈ f.rch g r stop ↔ ∃ q : Nat, a = q ∧ f.Rq g r.ls stop q := by
  unfold Cf.rch
  rw [mem_lstm]
  constructor
  · rintro ⟨q, e, _, h⟩; exact ⟨q, e, h⟩
  · rintro ⟨q, e, h⟩; exact ⟨q, e, Cf.Rq.lt h, h⟩
theorem Cf.rch_more {f : Cf} {g : Rw Bool} {r s : Rw Int} {stop a : Int} (h : ∀ a ∈ r.ls, a ∈ s.ls) (ha : a ∈ f.rch g r stop) : a ∈ f.rch g s stop := by
  obtain ⟨q, e, hq⟩ := Cf.mem_rch.1 ha
  exact Cf.mem_rch.2 ⟨q, e, Fl.Rch.mono (fun p hp => ⟨h _ hp.1, hp.2⟩) hq⟩
theorem Cf.rch_free {f : Cf} {g : Rw Bool} {r : Rw Int} {stop a : Int} (ha : a ∈ f.rch g r stop) : a ∈ f.rch g r (-1) := by
  obtain ⟨q, e, hq⟩ := Cf.mem_rch.1 ha
  exact Cf.mem_rch.2 ⟨q, e, Fl.Rch.free hq⟩
theorem Cf.rch_stop {f : Cf} {g : Rw Bool} {r : Rw Int} {stop : Int} (h : stop ∉ f.rch g r (-1)) : f.rch g r stop = f.rch g r (-1) := by
  unfold Cf.rch
  congr 1
  apply Fl.lst_congr
  intro p _
  exact ⟨Fl.Rch.free, Fl.Rch.unfree (fun q e hq => h (Cf.mem_rch.2 ⟨q, e.symm, hq⟩))⟩
theorem Cf.rch_union {f : Cf} {g : Rw Bool} {r s t : Rw Int} {stop a : Int} (h : t.ls = r.ls ++ s.ls) : a ∈ f.rch g t stop ↔ a ∈ f.rch g r stop ∨ a ∈ f.rch g s stop := by
  have key : ∀ q, f.Rq g t.ls stop q ↔ f.Rq g r.ls stop q ∨ f.Rq g s.ls stop q := fun q => by
    unfold Cf.Rq
    rw [← Fl.Rch.union, h]
    constructor
    · exact Fl.Rch.mono (fun p hp => (List.mem_append.1 hp.1).imp (fun h => ⟨h, hp.2⟩) (fun h => ⟨h, hp.2⟩))
    · exact Fl.Rch.mono (fun p hp => hp.elim (fun h => ⟨List.mem_append.2 (Or.inl h.1), h.2⟩) (fun h => ⟨List.mem_append.2 (Or.inr h.1), h.2⟩))
  rw [Cf.mem_rch, Cf.mem_rch, Cf.mem_rch]
  constructor
  · rintro ⟨q, e, hq⟩
    exact ((key q).1 hq).imp (fun h => ⟨q, e, h⟩) (fun h => ⟨q, e, h⟩)
  · rintro (⟨q, e, hq⟩ | ⟨q, e, hq⟩)
    · exact ⟨q, e, (key q).2 (Or.inl hq)⟩
    · exact ⟨q, e, (key q).2 (Or.inr hq)⟩
theorem Cf.rch_union_len {f : Cf} {g : Rw Bool} {r s t : Rw Int} {stop : Int} (h : t.ls = r.ls ++ s.ls) : (f.rch g t stop).length ≤ (f.rch g r stop).length + (f.rch g s stop).length := by
  unfold Cf.rch
  rw [List.length_map, List.length_map, List.length_map]
  refine Fl.lst_union_len (fun p hp => ?_)
  have := (Cf.rch_union (f := f) (g := g) (stop := stop) (a := (p : Int)) h).1 (Cf.mem_rch.2 ⟨p, rfl, hp⟩)
  rw [Cf.mem_rch, Cf.mem_rch] at this
  rcases this with ⟨q, e, hq⟩ | ⟨q, e, hq⟩
  · have : p = q := by omega
    subst this; exact Or.inl hq
  · have : p = q := by omega
    subst this; exact Or.inr hq
theorem Cf.rch_from {f : Cf} {g : Rw Bool} {r : Rw Int} {stop : Int} {q : Nat} (h1 : (q : Int) ∈ r.ls) (h2 : q < f.cd.len) (h3 : (q : Int) ≠ stop) : (q : Int) ∈ f.rch g r stop := Cf.mem_rch.2 ⟨q, rfl, .base ⟨h1, h2⟩ h3⟩
theorem Cf.rch_way {f : Cf} {g : Rw Bool} {r : Rw Int} {stop : Int} {p : Nat} {a : Int} (h1 : (p : Int) ∈ f.rch g r stop) (h2 : a ∈ f.ws g p) (h3 : a ≠ stop) : a ∈ f.rch g r stop := by
  obtain ⟨p', e, hp⟩ := Cf.mem_rch.1 h1
  have : p = p' := by omega
  subst this
  obtain ⟨q, rfl, _, hq⟩ := mem_lstm.1 h2
  exact Cf.mem_rch.2 ⟨q, rfl, .step hp hq h3⟩
theorem Cf.rch_come {f : Cf} {g : Rw Bool} {r : Rw Int} {stop a : Int} (h : a ∈ f.rch g r stop) : a ∈ r.ls ∨ ∃ p : Nat, (p : Int) ∈ f.rch g r stop ∧ a ∈ f.ws g p := by
  obtain ⟨q, rfl, hq⟩ := Cf.mem_rch.1 h
  rcases Fl.Rch.come hq with h1 | ⟨p, h1, h2⟩
  · exact Or.inl h1.1
  · exact Or.inr ⟨p, Cf.mem_rch.2 ⟨p, rfl, h1⟩, mem_lstm.2 ⟨q, rfl, h2.1, h2⟩⟩
theorem Cf.rch_ne {f : Cf} {g : Rw Bool} {r : Rw Int} {stop a : Int} (h : a ∈ f.rch g r stop) : a ≠ stop := by
  obtain ⟨q, rfl, hq⟩ := Cf.mem_rch.1 h
  exact Fl.Rch.ne hq
theorem Cf.rch_len (f : Cf) (g : Rw Bool) (r : Rw Int) (stop : Int) : (f.rch g r stop).length ≤ f.cd.len := by
  unfold Cf.rch; rw [List.length_map]; exact lst_len _ _
theorem Rw.rising {r : Rw Int} {n : Nat} {P : Nat → Prop} (h : r.ls = (Fl.lst n P).map fun q : Nat => (q : Int)) {i : Nat} (hi : i + 1 < r.len) : r.x i < r.x (i + 1) := by
  have hp := lstm_rising n P
  rw [← h] at hp
  have := List.pairwise_iff_getElem.1 hp i (i + 1) (by rw [r.ls_len]; omega) (by rw [r.ls_len]; omega) (by omega)
  have e1 := r.ls_get i (by omega)
  have e2 := r.ls_get (i + 1) hi
  rw [List.getElem?_eq_getElem (by rw [r.ls_len]; omega)] at e1 e2
  rw [Option.some.inj e1, Option.some.inj e2] at this
  exact this
theorem Rw.has_true {r : Rw Int} {a : Int} (h : a ∈ r.ls) : r.has a = true := decide_eq_true h
/-- A result's list, read. -/
theorem Oi.read {w : World} {base n : Nat} {v : Value} {P : Nat → Prop} (h : Oi w base v ((Fl.lst n P).map fun q : Nat => (q : Int))) (hn : n ≤ 100000) : ∃ r : Rw Int, v = .slice r.ao r.len r.cap ∧ NmAt w r ∧ r.ls = (Fl.lst n P).map (fun q : Nat => (q : Int)) ∧ base ≤ r.b := by
  have hs := lstm_small (n := n) (P := P) hn
  obtain ⟨r, h1, h2, h3, _, h5⟩ := h.rw hs.1 hs.2
  exact ⟨r, h1, h2, h3, h5⟩

theorem Oi.readR {w : World} {base : Nat} {v : Value} {f : Cf} {g : Rw Bool} {r : Rw Int} {stop : Int} (h : Oi w base v (f.rch g r stop)) (hn : f.cd.len ≤ 100000) : ∃ s : Rw Int, v = .slice s.ao s.len s.cap ∧ NmAt w s ∧ s.ls = f.rch g r stop := by
  unfold Cf.rch at *
  obtain ⟨s, h1, h2, h3, _⟩ := h.read hn
  exact ⟨s, h1, h2, h3⟩
theorem Oi.readW {w : World} {base : Nat} {v : Value} {f : Cf} {g : Rw Bool} {p : Nat} (h : Oi w base v (f.ws g p)) (hn : f.cd.len ≤ 100000) : ∃ s : Rw Int, v = .slice s.ao s.len s.cap ∧ NmAt w s ∧ s.ls = f.ws g p := by
  unfold Cf.ws Cf.wsH at *
  obtain ⟨s, h1, h2, h3, _⟩ := h.read hn
  exact ⟨s, h1, h2, h3⟩
/-- Nil is empty. -/
def Nn {α : Type} (r : Rw α) : Prop := r.ao = none → r.len = 0 ∧ r.cap = 0
theorem ivL_ls_cell {w : World} {r : Rw Int} (h : NmAt w r) : ∀ a, r.ao = some a → ∀ j u, (ivL r.ls)[j]? = some u → w.cell? (a.add j) = some u := by
  intro a ha j u hj
  have hlt : j < r.len := by have := (List.getElem?_eq_some_iff.1 hj).1; rwa [ivL_len, r.ls_len] at this
  have e := h.nil (by omega)
  rw [ha] at e
  cases e
  have hu : u = .int .i64 (r.x j) := by
    have := r.ls_get j hlt
    unfold ivL at hj
    rw [List.getElem?_map, this] at hj
    exact (Option.some.inj hj).symm
  subst hu
  rw [adp]
  have := h.row j hlt 0 _ rfl
  simpa using this
/-- A list put behind. -/
theorem wpList_appR {w : World} {ops : Array Oper} {rest : List Oper} {o : Oper} {a : Act} {Q : Exit → Act → World → Prop} (hgd : o.guard = none) (s x : Operand)
    (hop : o.op = .call { callee := .builtin .append, args := #[s, x], argTypes := #[32, 32] }) (base : Nat) (v : Value) (l : List Int) (r : Rw Int) (hs : a.eval s = v) (ho : Oi w base v l) (hx : a.eval x = .slice r.ao r.len r.cap) (hr : NmAt w r) (hn : Nn r) (hl : l.length + r.len ≤ 1000000) (hb : base ≤ w.heap.size)
    (h : ∀ v' w', Oi w' base v' (l ++ r.ls) → w.grownBy w' v.ownBlock → wpList Try.prog ops Q rest (a.put o.dst v') w') : wpList Try.prog ops Q (o :: rest) a w := by
  refine wpList_append_any Try.underlying32 Try.infoI rfl (by decide) hgd s x hop base v l.length (ivL l) hs ho r.ao r.len r.cap (ivL r.ls) hx hn (by rw [ivL_len, r.ls_len]; omega) (ivL_ls_cell hr) (ivL_one _) (by unfold maxLen; omega) (by omega) hb ?_
  intro v' w' h1 h2
  refine h v' w' ?_ h2
  unfold Oi
  rw [List.length_append, ivL, List.map_append, r.ls_len]
  exact h1
/-- The boxes of a statement's f and x. -/
def axV (g : Rw Bool) (r : Rw Int) (stop : Int) : List Value := [.slice g.ao g.len g.cap, .slice r.ao r.len r.cap, .int .i64 stop]
structure Lk15 (w : World) (f : Cf) (g : Rw Bool) (r : Rw Int) (stop : Int) (u : World) : Prop where
  bl : Below w.heap.size w u
  bF : Blk u w.heap.size f.vs 30
  bX : Blk u (w.heap.size + 1) (axV g r stop) 34
theorem Lk15.kept {w : World} {f : Cf} {g : Rw Bool} {r : Rw Int} {stop : Int} {u u' : World} (h : Lk15 w f g r stop u) (hb : Below u.heap.size u u') : Lk15 w f g r stop u' := ⟨Below.next h.bl hb, h.bF.kept hb, h.bX.kept hb⟩
theorem Lk15.grown {w : World} {f : Cf} {g : Rw Bool} {r : Rw Int} {stop : Int} {u u' : World} {k : Option Nat} (h : Lk15 w f g r stop u) (hg : u.grownBy u' k) (hk : ∀ b, k = some b → w.heap.size + 2 ≤ b) : Lk15 w f g r stop u' :=
  ⟨gb_bel h.bl hg (fun b hb => by have := hk b hb; omega), h.bF.gb hg (fun e => by have := hk _ e.symm; omega), h.bX.gb hg (fun e => by have := hk _ e.symm; omega)⟩
theorem Lk15.new (w : World) (f : Cf) (g : Rw Bool) (r : Rw Int) (stop : Int) : Lk15 w f g r stop ((w.alloc (.cells f.vs.toArray 30)).alloc (.cells (axV g r stop).toArray 34)) := by
  have A0 := allocs_below [.cells f.vs.toArray 30, .cells (axV g r stop).toArray 34] w
  have A1 := allocs_heap [.cells f.vs.toArray 30, .cells (axV g r stop).toArray 34] w
  simp only [List.foldl] at A0 A1
  exact ⟨A0, A1 0 (by simp), A1 1 (by simp)⟩
end Go.Proofs.Ytmajlfocfjcgmaa

/- What comes into the Flow statements, opened: truths, numbers, what is asked. -/
namespace Go.Proofs.Ytmajlfocfjcgmaa
open Go.ChangeShapes Go.WideShapes Go.ChangeAt Go.RowKit Go.Deep Go.Joins

theorem Try.kBool : Try.prog.cellsOf 4 = 1 := by kernel_rfl
theorem Try.kBools : Try.prog.cellsOf 31 = 1 := by kernel_rfl
theorem Try.kAsk : Try.prog.cellsOf 34 = 3 := by kernel_rfl
section
variable {H : Type} {enc : TypeId × Value → H} {W : World} {base : Nat}
theorem kopen_bl (fuel : Nat) (cs : List Value) (x : DataW H × List MemPlace) (h : DataW.trod enc Try.prog W base (fun _ => true) true fuel 4 cs = some x) : ∃ a : Bool, cs = blV a ∧ True := by
  obtain ⟨a, q0, _⟩ := DataW.trod_bool Try.underlying4 h
  exact ⟨a, q0, trivial⟩
theorem kopen_bls {fuel : Nat} {v : Value} {x : DataW H × List MemPlace} (h : DataW.trod enc Try.prog W base (fun _ => true) true fuel 31 [v] = some x) : ∃ r : Rw Bool, v = .slice r.ao r.len r.cap ∧ BlAt W r :=
  kopen Try.underlying31 Try.kBool (by decide) blV (fun _ _ => True) false (fun _ => rfl) kopen_bl h
theorem kopen_nms {fuel : Nat} {v : Value} {x : DataW H × List MemPlace} (h : DataW.trod enc Try.prog W base (fun _ => true) true fuel 32 [v] = some x) : ∃ r : Rw Int, v = .slice r.ao r.len r.cap ∧ NmAt W r ∧ Nn r := by
  obtain ⟨r, rfl, hr⟩ := kopen Try.underlying32 Try.cellsInt' (by decide) numV (fun _ a => I64 a) 0 (fun _ => rfl) kopen_num h
  refine ⟨r, rfl, hr, fun hn => ?_⟩
  rcases kslice Try.underlying32 Try.cellsInt' h with e | ⟨a, len, cap, e, _⟩
  · injection e with _ e2 e3; exact ⟨e2, e3⟩
  · injection e with e1; rw [hn] at e1; cases e1
set_option maxRecDepth 100000 in
theorem kopen_ask (fuel : Nat) (cs : List Value) (x : DataW H × List MemPlace) (h : DataW.trod enc Try.prog W base (fun _ => true) true fuel 34 cs = some x) : ∃ (g : Rw Bool) (r : Rw Int) (stop : Int), cs = [.slice g.ao g.len g.cap, .slice r.ao r.len r.cap, .int .i64 stop] ∧ BlAt W g ∧ (NmAt W r ∧ Nn r) ∧ I64 stop := by
  obtain ⟨n, hl, hf⟩ := kfields Try.underlying34 h
  rw [Try.kAsk] at hl
  match cs, hl with
  | [c0, c1, c2], _ =>
    obtain ⟨z0, g0⟩ := hf 0 _ rfl
    obtain ⟨z1, g1⟩ := hf 1 _ rfl
    obtain ⟨z2, g2⟩ := hf 2 _ rfl
    have f0 : DataW.trod enc Try.prog W base (fun _ => true) true n 31 [c0] = some z0 := by simpa [Try.kBools] using g0
    have f1 : DataW.trod enc Try.prog W base (fun _ => true) true n 32 [c1] = some z1 := by simpa [Try.kInts] using g1
    have f2 : DataW.trod enc Try.prog W base (fun _ => true) true n 3 [c2] = some z2 := by simpa [Try.cellsInt'] using g2
    obtain ⟨g, rfl, hg⟩ := kopen_bls f0
    obtain ⟨r, rfl, hr⟩ := kopen_nms f1
    obtain ⟨c, q2, _, w2⟩ := DataW.trod_int Try.underlying3 f2
    simp only [List.cons.injEq, and_true] at q2
    subst q2
    exact ⟨g, r, c, rfl, hg, hr, i64_wf w2⟩
set_option maxRecDepth 100000 in
theorem open_ask {v : Value} {d : DataW H} {p : List MemPlace} {b0 : Nat} (hv : Value.okWide Try.prog W .any b0 34 v) (h : DataW.Trod enc Try.prog W base (fun _ => true) true 34 v d p) :
    ∃ (g : Rw Bool) (r : Rw Int) (stop : Int), v = .agg #[.slice g.ao g.len g.cap, .slice r.ao r.len r.cap, .int .i64 stop] ∧ BlAt W g ∧ (NmAt W r ∧ Nn r) ∧ I64 stop := by
  obtain ⟨cs, rfl, _⟩ := okWide_struct Try.underlying34 hv
  obtain ⟨fuel, hf⟩ := h
  obtain ⟨g, r, c, hc, hg, hr, hs⟩ := kopen_ask fuel _ _ hf
  refine ⟨g, r, c, ?_, hg, hr, hs⟩
  have : cs.toList = [.slice g.ao g.len g.cap, .slice r.ao r.len r.cap, .int .i64 c] := by simpa [Value.cells] using hc
  obtain ⟨l⟩ := cs
  have e : l = _ := this
  rw [e]
theorem open_nms {v : Value} {d : DataW H} {p : List MemPlace} {b0 : Nat} (hv : Value.okWide Try.prog W .any b0 32 v) (h : DataW.Trod enc Try.prog W base (fun _ => true) true 32 v d p) : ∃ r : Rw Int, v = .slice r.ao r.len r.cap ∧ NmAt W r ∧ Nn r := by
  obtain ⟨a0, len0, cap0, rfl⟩ := okWide_slice Try.underlying32 hv
  obtain ⟨fuel, hf⟩ := h
  exact kopen_nms (by simpa [Value.cells] using hf)
theorem open_bls {v : Value} {d : DataW H} {p : List MemPlace} {b0 : Nat} (hv : Value.okWide Try.prog W .any b0 31 v) (h : DataW.Trod enc Try.prog W base (fun _ => true) true 31 v d p) : ∃ r : Rw Bool, v = .slice r.ao r.len r.cap ∧ BlAt W r := by
  obtain ⟨a0, len0, cap0, rfl⟩ := okWide_slice Try.underlying31 hv
  obtain ⟨fuel, hf⟩ := h
  exact kopen_bls (by simpa [Value.cells] using hf)
end
end Go.Proofs.Ytmajlfocfjcgmaa
