/- Layer 5: the walk of the reference's Next. -/
import Derived.Test.YtgpaeilnpeflaaaDoorP11
import Derived.Deep.RegionHeld3
import Derived.Deep.DeepCutAuto
import Derived.Test.YtgpaeilnpeflaaaDoorP8
import Derived.Test.YtgpaeilnpeflaaaDoorP10
import Derived.Test.YtgpaeilnpeflaaaDoorRows
import Derived.Stop.LaidErr
import Derived.Stop.Joined
import Derived.Lib.LaidTab
import Derived.LaidMore
import Derived.OpenShut
namespace Go.Proofs.YtgpaeilnpeflaaaDoor
open Go.RowKit

theorem kw_nameB : ∀ x ∈ kws, nameB (str x) = true := by decide +kernel
theorem kw_name {t : ByteArray} (h : kw (bs t) = true) : nameB t = true := by
  have hm : bs t ∈ kws := by simpa [kw] using h
  have := kw_nameB _ hm
  rwa [str_bs] at this
theorem piece_eq (s : ByteArray) (i m : Nat) : (s.extract i s.size).extract 0 m = s.extract i (i + m) := by
  rw [← str_bs ((s.extract i s.size).extract 0 m), bs_take, bs_rest, ← bs_piece, str_bs]
/-- What Next answers of a place. -/
def NxP (s : ByteArray) (i : Nat) (e : Ending) : Prop := ∃ k t n ok, e = .returned (.tuple #[tkV k t n i, .bool ok]) ∧ FP ((bs s).drop i) k t n ok
theorem nx_name (s : ByteArray) (i : Nat) (h : 0 < lsz ((bs s).drop i)) : FP ((bs s).drop i) (if kw (bs (s.extract i (i + nmLen ((bs s).drop i)))) then 2 else 1) (s.extract i (i + nmLen ((bs s).drop i))) 0 (nameB (s.extract i (i + nmLen ((bs s).drop i)))) := by
  have := fp_name (s.extract i s.size) (by rw [bs_rest]; exact h)
  rw [bs_rest, piece_eq] at this
  have e : (kw (bs (s.extract i (i + nmLen ((bs s).drop i)))) || nameB (s.extract i (i + nmLen ((bs s).drop i)))) = nameB (s.extract i (i + nmLen ((bs s).drop i))) := by
    cases hk : kw (bs (s.extract i (i + nmLen ((bs s).drop i))))
    · rfl
    · rw [kw_name hk]; rfl
  rw [e] at this
  exact this

theorem B4.set0 {w : World} {B : Nat} {v0 v1 v2 v3 : Value} (h : B4 w B v0 v1 v2 v3) (v : Value) : B4 (w.setCell ⟨B, 0, none⟩ v) B v v1 v2 v3 :=
  ⟨World.cell?_setCell_same _ _ _ h.c0, by rw [World.cell?_setCell_other _ _ _ _ (by simp)]; exact h.c1, by rw [World.cell?_setCell_other _ _ _ _ (by simp)]; exact h.c2, by rw [World.cell?_setCell_other _ _ _ _ (by simp)]; exact h.c3, by rw [World.frozen?_setCell]; exact h.f0, by rw [World.frozen?_setCell]; exact h.f1, by rw [World.frozen?_setCell]; exact h.f2, by rw [World.frozen?_setCell]; exact h.f3⟩
set_option maxRecDepth 100000 in
set_option maxHeartbeats 8000000 in
theorem next_name (s : ByteArray) (i : Nat) (w : World) (hs : s.size ≤ 20000) (hi : i < s.size) (hl : 0 < lsz ((bs s).drop i)) :
    Calls Tryd.prog 14 #[.string s, .int .i64 i] w fun e w' => NxP s i e ∧ Below w.heap.size w w' := by
  have HL := rletterAt_any s i
  have HE := rnameEnd_any s i
  have i0 : (0 : Int) ≤ i := by omega
  have m1 : ((i + nmLen ((bs s).drop i) : Nat) : Int) ≤ s.size := by have := nm_le ((bs s).drop i); rw [List.length_drop, bs_len] at this; omega
  have m0 : (i : Int) ≤ ((i + nmLen ((bs s).drop i) : Nat) : Int) := by omega
  have HF : Hid (FP ((bs s).drop i) (if kw (bs (s.extract i (i + nmLen ((bs s).drop i)))) then 2 else 1) (s.extract i (i + nmLen ((bs s).drop i))) 0 (nameB (s.extract i (i + nmLen ((bs s).drop i))))) := nx_name s i hl
  generalize i + nmLen ((bs s).drop i) = e2 at HE m1 m0 HF
  have lz : (0 : Int) < (lsz ((bs s).drop i) : Nat) := by omega
  go_enter Tryd.func14, Tryd.ntmps14
  go_wp2_with fail
  refine (HL _ hs (by omega)).mono ?_
  rintro e w' ⟨rfl, rfl⟩
  go_wp2_with fail
  refine (HE _ hs (by omega)).mono ?_
  rintro e w' ⟨rfl, rfl⟩
  go_wp2_with fail
  generalize htx : s.extract i e2 = tx at HF ⊢
  refine (rkeyword_any _ _).mono ?_
  rintro e w1 ⟨rfl, hb⟩
  have b0 : Below w.heap.size w ((w.alloc (.cells #[.int .i64 0, .string ⟨#[]⟩, .int .i64 0, .int .i64 0] 40)).alloc (.cells #[.int .i64 1, .string tx, .int .i64 0, .int .i64 (i : Nat)] 40)) := nxt (below_alloc _ _) (below_alloc _ _)
  have b1 := nxt b0 hb
  have BT : B4 w1 (w.heap.size + 1) (.int .i64 1) (.string tx) (.int .i64 0) (.int .i64 (i : Nat)) := by
    have h := (B4.new (w.alloc (.cells #[.int .i64 0, .string ⟨#[]⟩, .int .i64 0, .int .i64 0] 40)) (.int .i64 1) (.string tx) (.int .i64 0) (.int .i64 (i : Nat)) 40).kept hb
    rw [alloc_size] at h; exact h
  have BR : B4 w1 w.heap.size (.int .i64 0) (.string ⟨#[]⟩) (.int .i64 0) (.int .i64 0) := ((B4.new w _ _ _ _ 40).kept (below_alloc _ _)).kept hb
  have ts : tx.size ≤ 9223372036854775807 := by rw [← htx, sz_bs, bs_ext, List.length_drop, List.length_take, bs_len]; omega
  clear hb b0 HL HE htx
  have HNM : ∀ u : World, Calls Tryd.prog 24 #[.string tx] u fun e w' => e = .returned (.bool (nameB tx)) ∧ Below u.heap.size u w' := fun u => (rname_any tx u ts).mono fun _ _ ⟨h1, h2⟩ => ⟨h1, h2 ▸ Below.refl _ _⟩
  clear ts
  generalize kw (bs tx) = kb at HF ⊢
  cases kb
  · obtain ⟨c0, c1, c2, c3, f0, f1, f2, f3⟩ := BT
    have BT : B4 w1 (w.heap.size + 1) (.int .i64 1) (.string tx) (.int .i64 0) (.int .i64 (i : Nat)) := ⟨c0, c1, c2, c3, f0, f1, f2, f3⟩
    go_upto_region 7 with fail
    clear c0 c1 c2 c3 f0 f1 f2 f3
    obtain ⟨c0, c1, c2, c3, f0, f1, f2, f3⟩ := BT
    have p0 := fun x => Gr.cell x c0
    have p1 := fun x => Gr.cell x c1
    have p2 := fun x => Gr.cell x c2
    have p3 := fun x => Gr.cell x c3
    have hNE : Nonempty (Gr w1) := ⟨⟨_, Below.refl _ _⟩⟩
    refine wp_region_gr_tail 4 (by kernel_rfl) (by kernel_rfl) ?_
    simp only [List.take, List.drop]
    repeat (first | go_big_quiet_step ((go_at_call 24; exact Calls.gr _ (HNM _))))
    refine wpQuiet_nil ?_
    rintro w4 ⟨x4, rfl⟩
    have B5 := x4.bl
    generalize x4.w = w4 at B5 ⊢
    have b4 := nxt b1 B5
    obtain ⟨r0, r1, r2, r3, g0, g1, g2, g3⟩ := BR.kept B5
    clear x4 p0 p1 p2 p3 hNE B5 b1 HNM BR c0 c1 c2 c3 f0 f1 f2 f3
    go_wp2
    refine bodyPost_ret (v := .tuple #[tkV 1 tx 0 (i : Nat), .bool (nameB tx)]) (by simp [results, Tryd.results14, go_sem, tkV, r0, r1, r2, r3]) rfl ⟨⟨_, _, _, _, rfl, HF.out⟩, put4_below (Nat.le_refl _) b4 _ _ _ _⟩
  · obtain ⟨c0, c1, c2, c3, f0, f1, f2, f3⟩ := BT
    have BT : B4 w1 (w.heap.size + 1) (.int .i64 1) (.string tx) (.int .i64 0) (.int .i64 (i : Nat)) := ⟨c0, c1, c2, c3, f0, f1, f2, f3⟩
    go_upto_region 7 with fail
    clear c0 c1 c2 c3 f0 f1 f2 f3
    replace BT := BT.set0 (.int .i64 2)
    replace BR := BR.of_block (Below.heap_setCell w1 ⟨w.heap.size + 1, 0, none⟩ (.int .i64 2) w.heap.size (by show w.heap.size ≠ w.heap.size + 1; omega))
    replace b1 := b1.setCell (p := ⟨w.heap.size + 1, 0, none⟩) (by show w.heap.size ≤ w.heap.size + 1; omega) (.int .i64 2)
    generalize w1.setCell ⟨w.heap.size + 1, 0, none⟩ (.int .i64 2) = w2 at *
    obtain ⟨c0, c1, c2, c3, f0, f1, f2, f3⟩ := BT
    have p0 := fun x => Gr.cell x c0
    have p1 := fun x => Gr.cell x c1
    have p2 := fun x => Gr.cell x c2
    have p3 := fun x => Gr.cell x c3
    have hNE : Nonempty (Gr w2) := ⟨⟨_, Below.refl _ _⟩⟩
    refine wp_region_gr_tail 4 (by kernel_rfl) (by kernel_rfl) ?_
    simp only [List.take, List.drop]
    repeat (first | go_big_quiet_step ((go_at_call 24; exact Calls.gr _ (HNM _))))
    refine wpQuiet_nil ?_
    rintro w4 ⟨x4, rfl⟩
    have B5 := x4.bl
    generalize x4.w = w4 at B5 ⊢
    have b4 := nxt b1 B5
    obtain ⟨r0, r1, r2, r3, g0, g1, g2, g3⟩ := BR.kept B5
    clear x4 p0 p1 p2 p3 hNE B5 b1 HNM BR c0 c1 c2 c3 f0 f1 f2 f3
    go_wp2
    refine bodyPost_ret (v := .tuple #[tkV 2 tx 0 (i : Nat), .bool (nameB tx)]) (by simp [results, Tryd.results14, go_sem, tkV, r0, r1, r2, r3]) rfl ⟨⟨_, _, _, _, rfl, HF.out⟩, put4_below (Nat.le_refl _) b4 _ _ _ _⟩

theorem dg_take (l : List UInt8) : dgLen (l.take (dgLen l)) = dgLen l := by
  have h : (l.take (dgLen l)) ++ (l.drop (dgLen l)) = l := List.take_append_drop _ _
  have hl : (l.take (dgLen l)).length = dgLen l := by rw [List.length_take]; have := dg_le l; omega
  have := (dg_app' (l.take (dgLen l)) (l.drop (dgLen l)) (by rw [h, hl])).1
  rw [this, hl]
theorem nx_num {s : ByteArray} {i : Nat} {n : Int} {ok : Bool} (h : ¬ 0 < lsz ((bs s).drop i)) (hd : 0 < dgLen ((bs s).drop i)) (hok : ok = true ↔ numV (bs (s.extract i (i + dgLen ((bs s).drop i)))) ≤ 9223372036854775807 ∧ ((s.extract i (i + dgLen ((bs s).drop i))).size = 1 ∨ (bs (s.extract i (i + dgLen ((bs s).drop i)))).head? ≠ some 48))
    (hn : ok = true → n = (numV (bs (s.extract i (i + dgLen ((bs s).drop i)))) : Nat)) : FP ((bs s).drop i) 3 (s.extract i (i + dgLen ((bs s).drop i))) n ok := by
  have e1 := bs_piece s i (dgLen ((bs s).drop i))
  have e2 : (s.extract i (i + dgLen ((bs s).drop i))).size = dgLen ((bs s).drop i) := by rw [sz_bs, e1, List.length_take]; have := dg_le ((bs s).drop i); omega
  have e3 : (((bs s).drop i).take (dgLen ((bs s).drop i))).head? = ((bs s).drop i).head? := by
    generalize (bs s).drop i = l at hd ⊢
    cases l with
    | nil => rfl
    | cons c r =>
      obtain ⟨m, hm⟩ : ∃ m, dgLen (c :: r) = m + 1 := ⟨dgLen (c :: r) - 1, by omega⟩
      rw [hm]; rfl
  rw [e1, e2, e3] at hok
  rw [e1] at hn
  have := fp_num (s := s.extract i s.size) (n := n) (ok := ok)
  rw [bs_rest] at this
  have := this h hd hok hn
  rwa [piece_eq] at this
theorem nx_sign {s : ByteArray} {i : Nat} (h : ¬ 0 < lsz ((bs s).drop i)) (hd : ¬ 0 < dgLen ((bs s).drop i)) : FP ((bs s).drop i) 4 (s.extract i (i + sgLen ((bs s).drop i))) 0 (decide (0 < sgLen ((bs s).drop i))) := by
  have e1 : s.extract i (i + sgLen ((bs s).drop i)) = str (((bs s).drop i).take (sgLen ((bs s).drop i))) := by rw [← bs_piece, str_bs]
  rw [e1]
  unfold FP nextW
  rw [if_neg h, if_neg hd]
  by_cases hs : 0 < sgLen ((bs s).drop i)
  · rw [if_pos hs]
    exact ⟨decide_eq_true hs, rfl, rfl, rfl⟩
  · rw [if_neg hs]
    exact decide_eq_false hs

set_option maxRecDepth 100000 in
set_option maxHeartbeats 8000000 in
theorem next_sign (s : ByteArray) (i : Nat) (w : World) (hs : s.size ≤ 20000) (hi : i < s.size) (hl : ¬ 0 < lsz ((bs s).drop i)) (hd : ¬ 0 < dgLen ((bs s).drop i)) :
    Calls Tryd.prog 14 #[.string s, .int .i64 i] w fun e w' => NxP s i e ∧ Below w.heap.size w w' := by
  have HL := rletterAt_any s i
  have hz : lsz ((bs s).drop i) = 0 := by omega
  rw [hz] at HL
  have HD := rdigit_any s i
  have hdb : dgB s i = false := decide_eq_false hd
  rw [hdb] at HD
  have HG := rsign_any s i
  have i0 : (0 : Int) ≤ i := by omega
  have is : (s.size : Int) ≤ 20000 := by omega
  have hle := sg_le ((bs s).drop i)
  rw [List.length_drop, bs_len] at hle
  have HF : Hid (FP ((bs s).drop i) 4 (s.extract i (i + sgLen ((bs s).drop i))) 0 (decide (0 < sgLen ((bs s).drop i)))) := nx_sign hl hd
  generalize sgLen ((bs s).drop i) = k at HG HF hle
  have k1 : (i : Int) + (k : Nat) ≤ s.size := by omega
  have k0 : (i : Int) ≤ (i : Int) + (k : Nat) := by omega
  clear hl hd hz hdb hle
  go_enter Tryd.func14, Tryd.ntmps14
  go_wp2_with fail
  refine (HL _ hs (by omega)).mono ?_
  rintro e w' ⟨rfl, rfl⟩
  go_wp2_with fail
  refine (HD _).mono ?_
  rintro e w' ⟨rfl, rfl⟩
  go_wp2_with fail
  refine (HG _ hs hi).mono ?_
  rintro e w1 ⟨rfl, hb1⟩
  have b0 : Below w.heap.size w ((w.alloc (.cells #[.int .i64 0, .string ⟨#[]⟩, .int .i64 0, .int .i64 0] 40)).alloc (.cells #[.int .i64 0, .string ⟨#[]⟩, .int .i64 0, .int .i64 (i : Nat)] 40)) := nxt (below_alloc _ _) (below_alloc _ _)
  have b1 := nxt b0 hb1
  have BT : B4 w1 (w.heap.size + 1) (.int .i64 0) (.string ⟨#[]⟩) (.int .i64 0) (.int .i64 (i : Nat)) := by
    have h := (B4.new (w.alloc (.cells #[.int .i64 0, .string ⟨#[]⟩, .int .i64 0, .int .i64 0] 40)) (.int .i64 0) (.string ⟨#[]⟩) (.int .i64 0) (.int .i64 (i : Nat)) 40).kept hb1
    rw [alloc_size] at h; exact h
  have BR : B4 w1 w.heap.size (.int .i64 0) (.string ⟨#[]⟩) (.int .i64 0) (.int .i64 0) := ((B4.new w _ _ _ _ 40).kept (below_alloc _ _)).kept hb1
  obtain ⟨c0, c1, c2, c3, f0, f1, f2, f3⟩ := BT
  obtain ⟨r0, r1, r2, r3, g0, g1, g2, g3⟩ := BR
  clear hb1 b0 HL HD HG
  go_wp2
  refine bodyPost_ret (v := .tuple #[tkV 4 (s.extract i (i + k)) 0 (i : Nat), .bool (decide (0 < k))]) (by simp [results, Tryd.results14, go_sem, tkV, r0, r1, r2, r3]) rfl ⟨⟨_, _, _, _, rfl, HF.out⟩, ?_⟩
  exact put4_below (Nat.le_refl _) ((b1.setCell (by show w.heap.size ≤ w.heap.size + 1; omega) _).setCell (by show w.heap.size ≤ w.heap.size + 1; omega) _) _ _ _ _

set_option maxRecDepth 100000 in
set_option maxHeartbeats 8000000 in
theorem next_num (s : ByteArray) (i : Nat) (w : World) (hs : s.size ≤ 20000) (hi : i < s.size) (hl : ¬ 0 < lsz ((bs s).drop i)) (hd : 0 < dgLen ((bs s).drop i)) :
    Calls Tryd.prog 14 #[.string s, .int .i64 i] w fun e w' => NxP s i e ∧ Below w.heap.size w w' := by
  have HL := rletterAt_any s i
  have hz : lsz ((bs s).drop i) = 0 := by omega
  rw [hz] at HL
  have HD := rdigit_any s
  have hdb : dgB s i = true := decide_eq_true hd
  have i0 : (0 : Int) ≤ i := by omega
  have is : (s.size : Int) ≤ 20000 := by omega
  have hle := dg_le ((bs s).drop i)
  rw [List.length_drop, bs_len] at hle
  have e1 := bs_piece s i (dgLen ((bs s).drop i))
  have e2 : (s.extract i (i + dgLen ((bs s).drop i))).size = dgLen ((bs s).drop i) := by rw [sz_bs, e1, List.length_take, List.length_drop, bs_len]; omega
  have HN := fun u => rnumber_any (s.extract i (i + dgLen ((bs s).drop i))) u (by rw [e2]; exact hd) (by rw [e2]; omega) (by rw [e2, e1, dg_take])
  have HF : Hid (∀ (n : Int) (ok : Bool), (ok = true ↔ numV (bs (s.extract i (i + dgLen ((bs s).drop i)))) ≤ 9223372036854775807 ∧ ((s.extract i (i + dgLen ((bs s).drop i))).size = 1 ∨ (bs (s.extract i (i + dgLen ((bs s).drop i)))).head? ≠ some 48)) → (ok = true → n = (numV (bs (s.extract i (i + dgLen ((bs s).drop i)))) : Nat)) → FP ((bs s).drop i) 3 (s.extract i (i + dgLen ((bs s).drop i))) n ok) := fun n ok h1 h2 => nx_num hl hd h1 h2
  have HK : Hid (∀ e, i + dgLen ((bs s).drop i) = e + dgLen ((bs s).drop e) → (dgB s e = true → e < s.size ∧ i + dgLen ((bs s).drop i) = (e + 1) + dgLen ((bs s).drop (e + 1))) ∧ (dgB s e = false → e = i + dgLen ((bs s).drop i))) := fun e he => by
    by_cases h : e < s.size
    · rw [dgB_at h]
      rw [bs_drop s e h, dg1] at he
      cases hc : dig (s[e]'h)
      · rw [hc] at he
        exact ⟨fun h => Bool.noConfusion h, fun _ => by simpa using he.symm⟩
      · rw [hc] at he
        refine ⟨fun _ => ⟨h, ?_⟩, fun h => Bool.noConfusion h⟩
        simp only [if_true] at he
        omega
    · rw [dgB_end h]
      rw [bs_end s e h] at he
      exact ⟨fun h => Bool.noConfusion h, fun _ => he.symm⟩
  have m0 : (i : Int) ≤ ((i + dgLen ((bs s).drop i) : Nat) : Int) := by omega
  have m1 : ((i + dgLen ((bs s).drop i) : Nat) : Int) ≤ s.size := by omega
  have HS : Hid (i + dgLen ((bs s).drop i) = i + dgLen ((bs s).drop i)) := rfl
  generalize hg : i + dgLen ((bs s).drop i) = e3 at HN HF HK e2 e1 m0 m1
  have HG : Hid (e3 = i + dgLen ((bs s).drop i)) := hg.symm
  clear hz hl hd hle e1 e2 hg HS
  go_enter Tryd.func14, Tryd.ntmps14
  go_wp2_with fail
  refine (HL _ hs (by omega)).mono ?_
  rintro e w' ⟨rfl, rfl⟩
  go_wp2_with fail
  refine (HD i _).mono ?_
  rintro e w' ⟨rfl, rfl⟩
  rw [hdb]
  go_wp2
  go_loop [7] (fun ev => ∃ e : Nat, ev = .int .i64 e ∧ e ≤ s.size ∧ Hid (e3 = e + dgLen ((bs s).drop e))) (fun ev => s.size - (intOf ev).toNat)
  case atStart => exact ⟨i, rfl, by omega, HG.out⟩
  case round =>
    obtain ⟨e, rfl, he, HE⟩ := hrel
    go_wp2_with fail
    refine (HD e _).mono ?_
    rintro r w' ⟨rfl, rfl⟩
    cases hc : dgB s e
    · have e4 : e = e3 := (HK.out e HE.out).2 hc
      subst e4
      clear hc HE HK HG HD HL
      go_wp2_with fail
      refine (HN _).mono ?_
      rintro r w1 ⟨⟨n, ok, rfl, hok, hn⟩, hb1⟩
      have HF2 : Hid (FP ((bs s).drop i) 3 (s.extract i e) n ok) := HF.out n ok hok hn
      have b0 : Below w.heap.size w ((w.alloc (.cells #[.int .i64 0, .string ⟨#[]⟩, .int .i64 0, .int .i64 0] 40)).alloc (.cells #[.int .i64 0, .string ⟨#[]⟩, .int .i64 0, .int .i64 (i : Nat)] 40)) := nxt (below_alloc _ _) (below_alloc _ _)
      have b1 := nxt b0 hb1
      have BT : B4 w1 (w.heap.size + 1) (.int .i64 0) (.string ⟨#[]⟩) (.int .i64 0) (.int .i64 (i : Nat)) := by
        have h := (B4.new (w.alloc (.cells #[.int .i64 0, .string ⟨#[]⟩, .int .i64 0, .int .i64 0] 40)) (.int .i64 0) (.string ⟨#[]⟩) (.int .i64 0) (.int .i64 (i : Nat)) 40).kept hb1
        rw [alloc_size] at h; exact h
      have BR : B4 w1 w.heap.size (.int .i64 0) (.string ⟨#[]⟩) (.int .i64 0) (.int .i64 0) := ((B4.new w _ _ _ _ 40).kept (below_alloc _ _)).kept hb1
      obtain ⟨c0, c1, c2, c3, f0, f1, f2, f3⟩ := BT
      obtain ⟨r0, r1, r2, r3, g0, g1, g2, g3⟩ := BR
      clear hb1 b0 HN HF hok hn
      go_wp2
      refine bodyPost_ret (v := .tuple #[tkV 3 (s.extract i e) n (i : Nat), .bool ok]) (by simp [results, Tryd.results14, go_sem, tkV, r0, r1, r2, r3]) rfl ⟨⟨_, _, _, _, rfl, HF2.out⟩, ?_⟩
      exact put4_below (Nat.le_refl _) (((b1.setCell (by show w.heap.size ≤ w.heap.size + 1; omega) _).setCell (by show w.heap.size ≤ w.heap.size + 1; omega) _).setCell (by show w.heap.size ≤ w.heap.size + 1; omega) _) _ _ _ _
    · obtain ⟨e5, e6⟩ := (HK.out e HE.out).1 hc
      have HE2 : Hid (e3 = e + 1 + dgLen ((bs s).drop (e + 1))) := e6
      clear hc e6 HE
      go_wp2
      go_round
      case rel => exact ⟨e + 1, by go_num, by omega, HE2.out⟩
      case measure => simp [intOf]; omega

theorem next_any (s : ByteArray) (i : Nat) (w : World) (hs : s.size ≤ 20000) (hi : i < s.size) :
    Calls Tryd.prog 14 #[.string s, .int .i64 i] w fun e w' => NxP s i e ∧ Below w.heap.size w w' := by
  by_cases hl : 0 < lsz ((bs s).drop i)
  · exact next_name s i w hs hi hl
  · by_cases hd : 0 < dgLen ((bs s).drop i)
    · exact next_num s i w hs hi hl hd
    · exact next_sign s i w hs hi hl hd
end Go.Proofs.YtgpaeilnpeflaaaDoor

/- Layer 5: the walk of the reference's Read. -/
namespace Go.Proofs.YtgpaeilnpeflaaaDoor
open Go.RowKit

theorem blank_byte (c : UInt8) : blankR (c.toNat : Int) = bl c := by
  rw [Bool.eq_iff_iff, bl_iff]
  unfold blankR
  simp only [Bool.or_eq_true, beq_iff_eq]
  omega
/-- Within the loop: what was there, the row. -/
structure WJ (w : World) (ty : TypeId) (wr : World) (v : Value) (ts : List Tk) : Prop where
  bl : Below w.heap.size w wr
  own : wr.ownsRow w.heap.size ty 4 v ts.length (flat ts)
theorem WJ.kept {w : World} {ty : TypeId} {wr w' : World} {v : Value} {ts : List Tk} (h : WJ w ty wr v ts) (hb : Below wr.heap.size wr w') : WJ w ty w' v ts :=
  ⟨h.bl.trans (hb.mono h.bl.size), ow_kept h.own hb⟩
theorem WJ.grow {w : World} {ty : TypeId} {wr w' : World} {v v' : Value} {ts : List Tk} {t : Tk} (h : WJ w ty wr v ts) (hg : wr.grownBy w' v.ownBlock) (ho : w'.ownsRow w.heap.size ty 4 v' (ts.length + 1) (flat ts ++ tv t)) : WJ w ty w' v' (ts ++ [t]) := by
  refine ⟨?_, ?_⟩
  · have := h.bl.size
    refine ⟨hg.os.trans h.bl.os, hg.tape.trans h.bl.tape, hg.output.trans h.bl.output, Nat.le_trans h.bl.size hg.size, fun b hb => ?_⟩
    rw [hg.block b (by omega) (fun e => by have := (ow_ge h.own e.symm).1; omega)]
    exact h.bl.block b hb
  · have e : flat (ts ++ [t]) = flat ts ++ tv t := by rw [flat_app]; show flat ts ++ (tv t ++ []) = _; rw [List.append_nil]
    rw [e, List.length_append]; exact ho
/-- The loop's relation. -/
structure RJ (w : World) (ty : TypeId) (s : ByteArray) (wr : World) (pos : Nat) (v : Value) (ts : List Tk) : Prop where
  wi : WJ w ty wr v ts
  len : ts.length ≤ 2000
  ps : pos ≤ s.size
  eq : readV (bs s) = R ((bs s).drop pos) pos ts

set_option maxRecDepth 100000 in
set_option maxHeartbeats 8000000 in
theorem rread_any (s : ByteArray) (w : World) (hz : s.size ≤ 20000) :
    Calls Tryd.prog 6 #[.string s] w fun e w' => RsP w' (readV (bs s)) e ∧ Below w.heap.size w w' := by
  by_cases hs : s.size ≤ 8192
  · have hs' : (s.size : Int) ≤ 8192 := by omega
    have hr0 : Hid (readV (bs s) = R (bs s) 0 []) := by show readV (bs s) = _; unfold readV; rw [if_neg (by rw [bs_len]; omega)]
    go_enter Tryd.func6, Tryd.ntmps6
    go_wp2
    go_loopw [5, 6] (fun v b wr => ∃ (pos : Nat) (ts : List Tk), b = .int .i64 pos ∧ RJ w 40 s wr pos v ts) (fun _ b _ => s.size - (intOf b).toNat)
    case atStart => exact ⟨0, [], rfl, ⟨Below.refl _ _, World.ownsRow_nil _ _ _ _⟩, by simp, by omega, by rw [hr0.out]; rfl⟩
    case round =>
      obtain ⟨pos, ts, rfl, hI⟩ := hrel
      have HI : Hid (RJ w 40 s wr pos _ ts) := hI
      clear hI
      by_cases hlt : pos < s.size
      · have p1 : (pos : Int) < s.size := by omega
        have p0 : (0 : Int) ≤ pos := by omega
        have HE : Hid (readV (bs s) = R ((s[pos]'hlt) :: (bs s).drop (pos + 1)) pos ts) := by
          show readV (bs s) = _
          rw [HI.out.eq, bs_drop s pos hlt]
        have W1 := HI.out.wi
        have HT : Hid (ts.length ≤ 2000) := HI.out.len
        have HBL := blank_byte (s[pos]'hlt)
        clear HI
        go_wp2_with fail
        refine (rblank_any _ _).mono ?_
        rintro e w1 ⟨rfl, hw1⟩
        subst hw1
        rw [HBL]
        clear HBL
        cases hb : bl (s[pos]'hlt)
        · by_cases h35 : (s[pos]'hlt).toNat = 35
          · have q35 : (((s[pos]'hlt).toNat : Int) == 35) = true := by rw [beq_iff_eq]; omega
            have HM : Hid (pos + remLen ((bs s).drop pos) ≤ s.size ∧ 1 ≤ remLen ((bs s).drop pos) ∧ readV (bs s) = R ((bs s).drop (pos + remLen ((bs s).drop pos))) (pos + remLen ((bs s).drop pos)) ts) := by
              refine ⟨?_, ?_, ?_⟩
              · have := rem_le ((bs s).drop pos)
                rw [List.length_drop, bs_len] at this; omega
              · rw [bs_drop s pos hlt]; exact rem_pos _ _ (beq_iff_eq.2 h35)
              · rw [HE.out, R_rem _ _ _ h35, ← bs_drop s pos hlt, List.drop_drop]
            clear HE hb h35
            go_wp2
            go_loop [6] (fun av => ∃ q : Nat, av = .int .i64 q ∧ q ≤ s.size ∧ Hid (pos + remLen ((bs s).drop pos) = q + remLen ((bs s).drop q))) (fun av => s.size - (intOf av).toNat)
            case atStart => exact ⟨pos, rfl, by omega, rfl⟩
            case round =>
              obtain ⟨q, rfl, hq, HR⟩ := hrel
              by_cases hql : q < s.size
              · have q1 : (q : Int) < s.size := by omega
                have q0 : (0 : Int) ≤ q := by omega
                have HRR : Hid (remLen ((bs s).drop q) = if (s[q]'hql).toNat == 10 then 0 else remLen ((bs s).drop (q + 1)) + 1) := by
                  show remLen ((bs s).drop q) = _
                  rw [bs_drop s q hql]
                  conv => lhs; unfold remLen
                by_cases h10 : (s[q]'hql).toNat = 10
                · have d10 : (((s[q]'hql).toNat : Int) != 10) = false := by rw [bne_eq_false_iff_eq]; omega
                  have e : pos + remLen ((bs s).drop pos) = q := by rw [HR.out, HRR.out, h10]; rfl
                  clear HRR h10 HR
                  go_wp2
                  go_roundw
                  case rel => exact ⟨q, ts, rfl, W1, HT.out, hq, by rw [HM.out.2.2, e]⟩
                  case measure => have := HM.out.2.1; simp [intOf]; omega
                · have d10 : (((s[q]'hql).toNat : Int) != 10) = true := by rw [bne_iff_ne]; omega
                  have HN : Hid (pos + remLen ((bs s).drop pos) = q + 1 + remLen ((bs s).drop (q + 1))) := by
                    show _ = _
                    rw [HR.out, HRR.out, if_neg (by simpa using h10)]; omega
                  clear HRR h10 HR
                  go_wp2
                  go_round
                  case rel => exact ⟨q + 1, by go_num, by omega, HN.out⟩
                  case measure => simp [intOf]; omega
              · have e0 : q = s.size := by omega
                have e : pos + remLen ((bs s).drop pos) = q := by rw [HR.out, bs_end s q hql]; rfl
                have q1 : ¬ (q : Int) < s.size := by omega
                clear HR
                go_wp2
                go_roundw
                case rel => exact ⟨q, ts, rfl, W1, HT.out, hq, by rw [HM.out.2.2, e]⟩
                case measure => have := HM.out.2.1; simp [intOf]; omega
          · have q35 : (((s[pos]'hlt).toNat : Int) == 35) = false := by rw [beq_eq_false_iff_ne]; omega
            have hC := next_any s pos w1 hz hlt
            obtain ⟨ao, cap, hvf⟩ := ow_form W1.own
            subst hvf
            go_wp2_with fail
            refine hC.mono ?_
            rintro e w2 ⟨⟨k, tx, n, ok, rfl, hF⟩, hb2⟩
            have W2 := W1.kept hb2
            have HF : Hid (FP ((bs s).drop pos) k tx n ok) := hF
            clear hF hC W1 hb2
            unfold tkV
            cases ok
            · have HB : Hid (readV (bs s) = .bad pos 2) := by
                show readV (bs s) = _
                have := fp_none HF.out
                rw [bs_drop s pos hlt] at this
                rw [HE.out, R_none _ _ _ hb h35 this]
              have hbl := W2.bl
              go_wp2
              refine bodyPost_ret (v := .tuple #[.slice none 0 0, .int .i64 pos, .int .i64 2]) (by simp [results, Tryd.results6, go_sem]) rfl ⟨?_, hbl.alloc hbl.size _⟩
              rw [HB.out]
              rfl
            · obtain ⟨k', m, n', hnw, rfl, rfl, rfl⟩ := fp_some HF.out
              clear HF
              by_cases h2 : ts.length = 2000
              · have HB : Hid (readV (bs s) = .bad pos 7) := by
                  show readV (bs s) = _
                  rw [bs_drop s pos hlt] at hnw
                  rw [HE.out, R_full _ _ _ hb h35 hnw (by omega)]
                have hbl := W2.bl
                have e2 : decide ((2000 : Int) ≤ ts.length) = true := decide_eq_true (by omega)
                clear hnw
                go_wp2
                refine bodyPost_ret (v := .tuple #[.slice none 0 0, .int .i64 pos, .int .i64 7]) (by simp [results, Tryd.results6, go_sem]) rfl ⟨?_, hbl.alloc hbl.size _⟩
                rw [HB.out]
                rfl
              · have e2 : decide ((2000 : Int) ≤ ts.length) = false := decide_eq_false (by have := HT.out; omega)
                have hle := nextW_le hnw
                rw [List.length_drop, bs_len] at hle
                have HB : Hid (readV (bs s) = R ((bs s).drop (pos + m)) (pos + m) (ts ++ [⟨k', ((bs s).drop pos).take m, n', pos⟩])) := by
                  show _ = _
                  rw [bs_drop s pos hlt] at hnw ⊢
                  rw [HE.out, R_word _ _ _ hb h35 hnw (by have := HT.out; omega), ← bs_drop s pos hlt, List.drop_drop]
                have tl : (str (((bs s).drop pos).take m)).size = m := by rw [sz_bs, bs_str, List.length_take, List.length_drop, bs_len]; omega
                clear hnw
                generalize ht : str (((bs s).drop pos).take m) = tx at tl ⊢
                have W3 := (W2.kept (below_alloc w2 (.cells #[.int .i64 (k' : Nat), .string tx, .int .i64 (n' : Nat), .int .i64 (pos : Nat)] 40))).kept (below_alloc _ (.cells #[.int .i64 (k' : Nat), .string tx, .int .i64 (n' : Nat), .int .i64 (pos : Nat)] 40))
                have hownA := W3.own
                have HW : Hid (WJ w 40 ((w2.alloc (.cells #[.int .i64 (k' : Nat), .string tx, .int .i64 (n' : Nat), .int .i64 (pos : Nat)] 40)).alloc (.cells #[.int .i64 (k' : Nat), .string tx, .int .i64 (n' : Nat), .int .i64 (pos : Nat)] 40)) (.slice ao ts.length cap) ts) := W3
                have HO : Hid (∀ b, (Value.slice ao ts.length cap).ownBlock = some b → b < w2.heap.size) := fun b hb => (ow_ge W2.own hb).2
                have sw : w.heap.size ≤ w2.heap.size := W2.bl.size
                have ez : (w2.alloc (.cells #[.int .i64 (k' : Nat), .string tx, .int .i64 (n' : Nat), .int .i64 (pos : Nat)] 40)).heap.size = w2.heap.size + 1 := alloc_size _ _
                have hnew := heap_alloc_new (w2.alloc (.cells #[.int .i64 (k' : Nat), .string tx, .int .i64 (n' : Nat), .int .i64 (pos : Nat)] 40)) (.cells #[.int .i64 (k' : Nat), .string tx, .int .i64 (n' : Nat), .int .i64 (pos : Nat)] 40)
                rw [ez] at hnew
                have ez2 : ((w2.alloc (.cells #[.int .i64 (k' : Nat), .string tx, .int .i64 (n' : Nat), .int .i64 (pos : Nat)] 40)).alloc (.cells #[.int .i64 (k' : Nat), .string tx, .int .i64 (n' : Nat), .int .i64 (pos : Nat)] 40)).heap.size = w2.heap.size + 2 := by rw [alloc_size, ez]
                obtain ⟨i0, hi, hz0, hz1, hz2⟩ := info_parts Tryd.infoRTok
                have HX : Hid (str (((bs s).drop pos).take m) = tx) := ht
                have tlen : ts.length < 2000 := by have := HT.out; omega
                clear W2 W3 ht ez
                go_wp2_with ((at_builtin; refine wpList_append_lies _ rfl _ _ 27 rfl w.heap.size 40 i0 _ 4 40 Tryd.underlying27 hi hz0 hz1 hz2 rfl (by decide) (.slice ao ts.length cap) ts.length (flat ts) rfl hownA ⟨w2.heap.size + 1, 0, none⟩ 1 1 [.int .i64 (k' : Nat), .string tx, .int .i64 (n' : Nat), .int .i64 (pos : Nat)] rfl rfl (World.news_of_block (cs := #[.int .i64 (k' : Nat), .string tx, .int .i64 (n' : Nat), .int .i64 (pos : Nat)]) (t := 40) (fr := (0, 0)) hnew) (by intro x hx; simp at hx; rcases hx with rfl | rfl | rfl | rfl <;> rfl) (by omega) (by unfold maxLen; omega) (by omega) (by omega) (w2.heap.size + 2) ez2 ?_; intro gg cap3 w4 hown4 hgrow hat hltg; have HN : Hid (WJ w 40 w4 (.slice (some ⟨gg, 0, none⟩) (ts.length + 1) cap3) (ts ++ [⟨k', ((bs s).drop pos).take m, n', pos⟩])) := HW.out.grow hgrow (by unfold tv; simp only; rw [HX.out]; exact hown4); have c1 : w4.cell? ⟨w2.heap.size, 1, none⟩ = some (.string tx) := (World.cell?_of_block (w := ((w2.alloc (.cells #[.int .i64 (k' : Nat), .string tx, .int .i64 (n' : Nat), .int .i64 (pos : Nat)] 40)).alloc (.cells #[.int .i64 (k' : Nat), .string tx, .int .i64 (n' : Nat), .int .i64 (pos : Nat)] 40))) (a := ⟨w2.heap.size, 1, none⟩) (hgrow.block w2.heap.size (by omega) (fun e => by have := HO.out _ e.symm; omega))).trans (by simp); clear hown4 hgrow hat hltg))
                go_roundw
                case rel => exact ⟨pos + m, _, by go_num, HN.out, by simp; omega, by omega, HB.out⟩
                case measure => simp [intOf]; omega
        · have HB : Hid (readV (bs s) = R ((bs s).drop (pos + 1)) (pos + 1) ts) := by show _ = _; rw [HE.out, R_bl _ _ _ hb]
          clear HE hb
          go_wp2
          go_roundw
          case rel => exact ⟨pos + 1, ts, by go_num, W1, HT.out, by omega, HB.out⟩
          case measure => simp [intOf]; omega
      · have p1 : ¬ (pos : Int) < s.size := by omega
        have HE : Hid (readV (bs s) = .ok ts) := by
          show readV (bs s) = .ok ts
          rw [HI.out.eq, bs_end s _ hlt]; rfl
        go_wp2
        refine bodyPost_ret (v := .tuple #[u5, .int .i64 0, .int .i64 0]) (by simp [results, Tryd.results6, go_sem]) rfl ⟨?_, HI.out.wi.bl⟩
        rw [HE.out]
        exact ⟨_, rfl, KAt.of_own HI.out.wi.own⟩
  · have hs' : (8192 : Int) < s.size := by omega
    have HR : Hid (readV (bs s) = .bad 0 1) := by show readV (bs s) = _; unfold readV; rw [if_pos (by rw [bs_len]; omega)]
    go_enter Tryd.func6, Tryd.ntmps6
    go_wp2
    refine bodyPost_ret (v := .tuple #[.slice none 0 0, .int .i64 0, .int .i64 1]) (by simp [results, Tryd.results6, go_sem]) rfl ⟨?_, Below.refl _ _⟩
    rw [HR.out]
    rfl
end Go.Proofs.YtgpaeilnpeflaaaDoor

/- Layer 5: the walk of the statement LexReads. -/
namespace Go.Proofs.YtgpaeilnpeflaaaDoor
open Go.RowKit

theorem KAt.none (w : World) : KAt w (.slice none 0 0) [] := ⟨_, 0, 0, rfl, Nat.le_refl _, fun h => absurd h (Nat.not_lt_zero _), fun _ h => absurd h (Nat.not_lt_zero _)⟩
theorem R_len2 : ∀ (f : Nat) (l : List UInt8) (a : Nat) (acc ts : List Tk), acc.length ≤ 2000 → rd f l a acc = .ok ts → ts.length ≤ 2000
  | 0, _, _, acc, ts, h, e => by
    unfold rd at e
    cases e; exact h
  | f + 1, [], _, acc, ts, h, e => by
    unfold rd at e
    cases e; exact h
  | f + 1, c :: r, a, acc, ts, h, e => by
    unfold rd at e
    split at e
    · exact R_len2 f _ _ _ _ h e
    · split at e
      · exact R_len2 f _ _ _ _ h e
      · split at e
        · cases e
        · split at e
          · cases e
          · exact R_len2 f _ _ _ _ (by rw [List.length_append]; show acc.length + 1 ≤ 2000; omega) e

set_option maxRecDepth 100000 in
set_option maxHeartbeats 8000000 in
theorem lexReads_any (s : ByteArray) (w : World) (hv : Vs w) (hs0 : s.size ≤ 9223372036854775807) :
    Calls Tryd.prog 3 #[.string s] w fun e w' => e = .returned (.bool true) ∧ Below w.heap.size w w' := by
  go_enter Tryd.func3, Tryd.ntmps3
  go_wp2_with fail
  refine (lawake_any _ hv).mono ?_
  rintro e w1 ⟨rfl, b1⟩
  have V1 := hv.kept b1
  by_cases hs : s.size ≤ 20000
  · have hs' : (s.size : Int) ≤ 20000 := by omega
    go_wp2_with fail
    refine (read_any s _ V1).mono ?_
    rintro e w2 ⟨hR, hb⟩
    have b2 := nxt b1 hb
    clear hb V1 b1
    have hQ := rread_any s w2 hs
    cases hq : readV (bs s) with
    | bad a c =>
      rw [hq] at hR hQ
      have hR' : e = .returned (.tuple #[.slice none 0 0, .int .i64 a, .int .i64 c]) := hR
      subst hR'
      clear hq hR
      go_wp2_with fail
      refine hQ.mono ?_
      rintro e w3 ⟨hR, hb⟩
      have hR' : e = .returned (.tuple #[.slice none 0 0, .int .i64 a, .int .i64 c]) := hR
      subst hR'
      have b3 := nxt b2 hb
      clear hb hQ hR b2
      go_wp2_with fail
      refine (plain_any (.slice none 0 0) [] _ (KAt.none _) (Nat.zero_le _)).mono ?_
      rintro e w4 ⟨⟨u, rfl, hK⟩, hb⟩
      have b4 := nxt b3 hb
      clear hb b3
      go_wp2_with fail
      refine (same_yes u (.slice none 0 0) [] [] false _ hK (KAt.none _) (Alike.refl _ _) (Nat.zero_le _)).mono ?_
      rintro e w5 ⟨rfl, hb⟩
      go_wp2
      go_ret
      exact ⟨rfl, nxt b4 hb⟩
    | ok ts =>
      rw [hq] at hR hQ
      obtain ⟨v, rfl, hK⟩ := hR
      have hl : ts.length ≤ 2000 := by
        unfold readV at hq
        split at hq
        · cases hq
        · exact R_len2 _ _ _ _ _ (Nat.zero_le _) hq
      clear hq
      obtain ⟨ao, cap, hvf⟩ : ∃ ao cap, v = .slice ao ts.length cap := by
        obtain ⟨ao, b, cap, rfl, _⟩ := hK
        exact ⟨ao, cap, rfl⟩
      subst hvf
      go_wp2_with fail
      refine hQ.mono ?_
      rintro e w3 ⟨⟨v2, rfl, hK2⟩, hb⟩
      obtain ⟨co, cap2, hvf⟩ : ∃ ao cap, v2 = .slice ao ts.length cap := by
        obtain ⟨ao, b, cap, rfl, _⟩ := hK2
        exact ⟨ao, cap, rfl⟩
      subst hvf
      have b3 := nxt b2 hb
      have hK3 := hK.kept hb
      clear hb hQ hK b2
      go_wp2_with fail
      refine (plain_any _ ts _ hK3 hl).mono ?_
      rintro e w4 ⟨⟨u, rfl, hK4⟩, hb⟩
      have b4 := nxt b3 hb
      have hK5 := hK2.kept hb
      clear hb b3 hK2 hK3
      go_wp2_with fail
      refine (same_yes u _ ts ts false _ hK4 hK5 (Alike.refl _ _) hl).mono ?_
      rintro e w5 ⟨rfl, hb⟩
      go_wp2
      go_ret
      exact ⟨rfl, nxt b4 hb⟩
  · have hs' : (20000 : Int) < s.size := by omega
    go_wp2_with fail
    refine (lawake_any _ V1).mono ?_
    rintro e w2 ⟨rfl, hb⟩
    go_wp2
    go_ret
    exact ⟨rfl, nxt b1 hb⟩
end Go.Proofs.YtgpaeilnpeflaaaDoor

/- Layer 5: what the row says of the variables, as the walks want it. -/
namespace Go.Proofs.YtgpaeilnpeflaaaDoor
open Go.RowKit

theorem strs_of_tab {H : Type} {enc : TypeId × Value → H} {P : Program} {w : World} {base : Nat} {sp : Nat → Bool} {held : Bool} {fuel : Nat} {t e : TypeId} {n : Nat} {cs : List Value} {zs : List (List UInt8)} {p : List MemPlace}
    (ht : P.underlying t = some (.array n e)) (he : P.underlying e = some .string) (hce : P.cellsOf e = 1) (hct : P.cellsOf t = n)
    (h : DataW.trod enc P w base sp held fuel t cs = some (.agg (zs.map fun z => .lit (.string z)), p)) : cs = zs.map fun z => Value.string (str z) := by
  cases fuel with
  | zero => simp [DataW.trod] at h
  | succ fuel =>
    simp only [DataW.trod, ht, hce, hct, Nat.mul_one] at h
    split at h
    · rename_i hl
      obtain ⟨xs, hm, hx⟩ := Option.map_eq_some_iff.1 h
      have hxs : xs.map (·.1) = zs.map fun z => (DataW.lit (.string z) : DataW H) := by
        have := congrArg Prod.fst hx
        simpa using this
      have hxl : xs.length = n := by simpa using Lib.mapM_length hm
      have hzl : zs.length = n := by
        have := congrArg List.length hxs
        simp at this
        omega
      apply List.ext_getElem?
      intro i
      by_cases hi : i < n
      · obtain ⟨b, hb, hf⟩ := Lib.mapM_at hm i i (by simp [hi])
        obtain ⟨z, hc, rfl, _⟩ := DataW.trod_string he hf
        have h1 : cs[i]? = some (.string z) := by
          have := congrArg (·[0]?) hc
          simpa [List.getElem?_take, List.getElem?_drop] using this
        have h2 : (xs.map (·.1))[i]? = some (DataW.lit (.string z.data.toList) : DataW H) := by simp [hb]
        rw [hxs] at h2
        simp only [List.getElem?_map, Option.map_eq_some_iff, DataW.lit.injEq, Lit.string.injEq] at h2
        obtain ⟨z', hz', rfl⟩ := h2
        have : str z.data.toList = z := str_bs z
        simp [h1, hz', this]
      · rw [List.getElem?_eq_none (by omega), List.getElem?_eq_none (by simp; omega)]
    · cases h

theorem Tryd.starE : "*" ++ "errors.errorString" = "*errors.errorString" := by decide
theorem Tryd.rowE (u : TypeId) (h : Tryd.prog.typeName? 3 u = some "*errors.errorString") : u = 76 :=
  typeName_ptr_named (nm := "errors.errorString") (by rw [Tryd.starE]; kernel_rfl) (by kernel_rfl) (by decide) u (by rw [Tryd.starE]; exact h)
theorem Tryd.gETy : (Tryd.prog.globals[2]?).map (·.type) = some 49 := by kernel_rfl
theorem Tryd.gLN : Tryd.prog.globalNamed "palisade/lex.longSigns" = some 0 := by kernel_rfl
theorem Tryd.gLTy : (Tryd.prog.globals[0]?).map (·.type) = some 52 := by kernel_rfl
theorem sign_data : (Rows.laid_palisade_lex_longSigns : DataW Unit) = .agg ([[61, 61], [61, 62], [45, 62], [58, 61]].map fun z => .lit (.string z)) := rfl

theorem vs_of_laid {W : World} (h0 : laidMetH Tryd.prog Rows.lexReadsRow.laid W) : Vs W := by
  rw [MakeChecks.laidMetH_plain _ _ _ (by kernel_rfl)] at h0
  have h : laidMet Tryd.prog [("math/bits.deBruijn32tab", Rows.laid_math_bits_deBruijn32tab), ("math/bits.deBruijn64tab", Rows.laid_math_bits_deBruijn64tab), ("internal/strconv.uint64pow10", Rows.laid_internal_strconv_uint64pow10), ("strconv.ErrRange", Rows.laid_strconv_ErrRange), ("strconv.ErrSyntax", Rows.laid_strconv_ErrSyntax), ("palisade/lex.longSigns", Rows.laid_palisade_lex_longSigns)] W := h0
  have h3 := h.tail.tail.tail
  obtain ⟨a1, s1, hv1, -, -, -⟩ := laid_sentinel (n := "strconv.ErrRange") h3 Tryd.errNamed Tryd.gETy Tryd.underlying49 Tryd.rowE Tryd.underlying76 Tryd.underlying78 rfl rfl Tryd.underlying9 (by kernel_rfl) (by kernel_rfl)
  have h5 := h3.tail.tail
  obtain ⟨ps, ⟨g0, t0, cs0, f0, p0, q0, hg0, ht0, hv0, hd0, _, _⟩, _⟩ := h5
  obtain rfl := Option.some.inj (Tryd.gLN.symm.trans hg0)
  obtain rfl := Option.some.inj (Tryd.gLTy.symm.trans ht0)
  rw [sign_data] at hd0
  have hcs := strs_of_tab Tryd.underlying52 Tryd.underlying9 (by kernel_rfl) (by kernel_rfl) hd0
  have hcell : ∀ j, W.cell? ⟨0, j, none⟩ = cs0[j]? := fun j => World.var?_cell Tryd.gLN hv0 j
  have hget : ∀ j, cs0[j]? = ([[61, 61], [61, 62], [45, 62], [58, 61]].map fun z => Value.string (str z))[j]? := fun j => by
    rw [← hcs, Array.getElem?_toList]
  exact ⟨⟨_, _, hv1⟩, (hcell 0).trans (hget 0), (hcell 1).trans (hget 1), (hcell 2).trans (hget 2), (hcell 3).trans (hget 3)⟩
end Go.Proofs.YtgpaeilnpeflaaaDoor
