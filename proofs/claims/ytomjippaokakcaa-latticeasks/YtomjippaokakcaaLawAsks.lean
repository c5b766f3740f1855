/- The walk of the statement LatticeAsks. -/
import Derived.Test.YtomjippaokakcaaRefEnds
import Derived.Test.YtomjippaokakcaaPrefix
import Derived.Deep.RegionHeld
namespace Go.Proofs.Ytomjippaokakcaa
open Go.RowKit

theorem wp_region_cls_to {P : Program} {w0 : World} {u v : Value} {id : Nat} {Q : Exit → Act → World → Prop} {a : Act} {w : World} {l : List Oper} (k : Nat) (hb : Box2 w0 w u v) (hm : P.follows .mixedOrders = true) (hk : decide (k ≤ l.length) = true) (hB : prefixB (l.take k) (l.drop k) = true)
    (h : wpQuiet P l.toArray (fun w' => ∃ x : Cls w0 u v, w' = x.w) (fun a' => ∀ w', (∃ x : Cls w0 u v, w' = x.w) → wpAny P .any l.toArray Q (l.length - k) (listedTo k 0 (Array.replicate l.length false)) a' w') (l.take k) a) : (Code.region id l.toArray true).wp P Q a w := by
  have hk' := of_decide_eq_true hk
  have e1 : (l.take k).length = k := by simp; omega
  have e2 : (l.drop k).length = l.length - k := by simp
  refine wp_region_prefix (C := fun w' => ∃ x : Cls w0 u v, w' = x.w) (List.take_append_drop k l).symm hm hB ⟨⟨_, hb.step ((Below.refl _ _).drew)⟩, rfl⟩ ?_
  rw [e1, e2, show k + (l.length - k) = l.length by omega]
  exact h

set_option maxRecDepth 100000 in
set_option maxHeartbeats 0 in
theorem latticeAsks_any (n : Strs) (g : Grid) (a b : Int) (w : World) (hn : n.At w) (hg : g.At w) :
    Calls Try.prog 4 #[.agg #[.slice n.ao n.len n.cap, .slice g.ao g.len g.cap], .int .i64 a, .int .i64 b] w fun e w' => e = .returned (.bool true) ∧ Below w.heap.size w w' := by
  have B0 := Box2.start w (.slice n.ao n.len n.cap) (.slice g.ao g.len g.cap) 25
  go_enter Try.func4, Try.ntmps4
  go_wp2_with fail
  refine (awake_any _).mono ?_
  rintro e w1 ⟨rfl, hb1⟩
  have B1 := B0.step hb1
  clear hb1 B0
  have c0 := B1.c0
  have c1 := B1.c1
  go_wp2_with fail
  refine (small_any n g _ (hn.kept B1.bl) (hg.kept B1.bl)).mono ?_
  rintro e w2 ⟨rfl, hb2⟩
  have B2 := B1.step hb2
  clear hb2 c0 c1 B1
  cases hsm : smallB n g
  · go_wp2_with fail
    refine (awake_any _).mono ?_
    rintro e w3 ⟨rfl, hb3⟩
    go_wp2
    go_ret
    exact ⟨rfl, (B2.step hb3).bl⟩
  clear hsm
  have hbx := B2
  have hNE : Nonempty (Cls w (.slice n.ao n.len n.cap) (.slice g.ao g.len g.cap)) := ⟨⟨_, B2⟩⟩
  have d0 := fun x : Cls w (.slice n.ao n.len n.cap) (.slice g.ao g.len g.cap) => x.box.c0
  have d1 := fun x : Cls w (.slice n.ao n.len n.cap) (.slice g.ao g.len g.cap) => x.box.c1
  go_wp2
  refine wp_region_cls_to 57 hbx (by kernel_rfl) (by kernel_rfl) (by kernel_rfl) ?_
  simp only [List.append, List.take]
  repeat (first | go_big_quiet_step ((first
    | (go_at_call 15; exact Calls.cls _ (leq_any n g a b _ (hn.kept (Cls.box _).bl) (hg.kept (Cls.box _).bl)))
    | (go_at_call 16; exact Calls.cls _ (rleq_any n g a b _ (hn.kept (Cls.box _).bl) (hg.kept (Cls.box _).bl)))
    | (go_at_call 17; exact Calls.cls _ (Join_any n g a b _ (hn.kept (Cls.box _).bl) (hg.kept (Cls.box _).bl)))
    | (go_at_call 18; exact Calls.cls _ (rJoin_any n g a b _ (hn.kept (Cls.box _).bl) (hg.kept (Cls.box _).bl)))
    | (go_at_call 19; exact Calls.cls _ (Meet_any n g a b _ (hn.kept (Cls.box _).bl) (hg.kept (Cls.box _).bl)))
    | (go_at_call 20; exact Calls.cls _ (rMeet_any n g a b _ (hn.kept (Cls.box _).bl) (hg.kept (Cls.box _).bl)))
    | (go_at_call 21; exact Calls.cls _ (Both_any n g a b _ (hn.kept (Cls.box _).bl) (hg.kept (Cls.box _).bl)))
    | (go_at_call 22; exact Calls.cls _ (rBoth_any n g a b _ (hn.kept (Cls.box _).bl) (hg.kept (Cls.box _).bl)))
    | (go_at_call 23; exact Calls.cls _ (Bottom_any n g _ (hn.kept (Cls.box _).bl) (hg.kept (Cls.box _).bl)))
    | (go_at_call 24; exact Calls.cls _ (rBottom_any n g _ (hn.kept (Cls.box _).bl) (hg.kept (Cls.box _).bl)))
    | (go_at_call 25; exact Calls.cls _ (Top_any n g _ (hn.kept (Cls.box _).bl) (hg.kept (Cls.box _).bl)))
    | (go_at_call 26; exact Calls.cls _ (rTop_any n g _ (hn.kept (Cls.box _).bl) (hg.kept (Cls.box _).bl))))))
  refine wpQuiet_nil ?_
  rintro w4 ⟨x4, rfl⟩
  have B4 := x4.box
  generalize x4.w = w4 at B4 ⊢
  clear x4 d0 d1 hNE
  have hS : w4.cell? ⟨w.heap.size, 0, none⟩ = some (.slice n.ao n.len n.cap) ∧ w4.cell? ⟨w.heap.size, 1, none⟩ = some (.slice g.ao g.len g.cap) := ⟨B4.c0, B4.c1⟩
  refine wpAny_of_held (S := fun u => u.cell? ⟨w.heap.size, 0, none⟩ = some (.slice n.ao n.len n.cap) ∧ u.cell? ⟨w.heap.size, 1, none⟩ = some (.slice g.ao g.len g.cap)) _ _ _ _ ?_
  refine wpAnyH_take (i := 57) (v := .agg #[.slice n.ao n.len n.cap, .slice g.ao g.len g.cap]) rfl (by kernel_rfl) (by kernel_rfl) (by kernel_rfl) (fun _ _ _ h => h) (Or.inl ⟨by rfl, ?_⟩) hS ?_
  · intro u hSu
    obtain ⟨q0, q1⟩ := hSu
    go_simp
  refine wpAnyH_take (i := 58) (v := .int .i64 a) rfl (by kernel_rfl) (by kernel_rfl) (by kernel_rfl) (fun _ _ _ h => h) (Or.inl ⟨by rfl, ?_⟩) hS ?_
  · intro u hSu
    obtain ⟨q0, q1⟩ := hSu
    go_simp
  refine wpAnyH_take (i := 60) (v := .agg #[.slice n.ao n.len n.cap, .slice g.ao g.len g.cap]) rfl (by kernel_rfl) (by kernel_rfl) (by kernel_rfl) (fun _ _ _ h => h) (Or.inl ⟨by rfl, ?_⟩) hS ?_
  · intro u hSu
    obtain ⟨q0, q1⟩ := hSu
    go_simp
  refine wpAnyH_take (i := 61) (v := .int .i64 a) rfl (by kernel_rfl) (by kernel_rfl) (by kernel_rfl) (fun _ _ _ h => h) (Or.inl ⟨by rfl, ?_⟩) hS ?_
  · intro u hSu
    obtain ⟨q0, q1⟩ := hSu
    go_simp
  try simp only [Act.put, List.setIfInBounds_toArray]
  refine wpAnyH_ready (rs := [59]) (by kernel_rfl) (by simp) ?_
  refine AllReadyH.cons rfl (fun K hK => ?_) AllReadyH.nil
  go_simp
  refine (Below_any n g a _ (hn.kept B4.bl) (hg.kept B4.bl)).mono ?_
  rintro e w5 ⟨q1, rfl, hq1, hl1, hx1, hb5⟩
  have B5 := B4.step hb5
  have H1 : Hid (q1.len = (belL n g a).length ∧ ∀ i, q1.x i = ((belL n g a).getD i 0 : Nat)) := ⟨hl1, hx1⟩
  clear hl1 hx1
  go_wp2_with fail
  refine hK.out _ _ ⟨B5.c0, B5.c1⟩ (fun hS5 => ?_)
  clear hK K
  try simp only [Act.put, List.setIfInBounds_toArray]
  refine wpAnyH_ready (rs := [62]) (by kernel_rfl) (by simp) ?_
  refine AllReadyH.cons rfl (fun K hK => ?_) AllReadyH.nil
  go_simp
  refine (rBelow_any n g a _ (hn.kept B5.bl) (hg.kept B5.bl)).mono ?_
  rintro e w6 ⟨q2, rfl, hq2, hl2, hx2, hb6⟩
  have B6 := B5.step hb6
  have H2 : Hid (q2.len = (belL n g a).length ∧ ∀ i, q2.x i = ((belL n g a).getD i 0 : Nat)) := ⟨hl2, hx2⟩
  clear hl2 hx2
  go_wp2_with fail
  refine hK.out _ _ ⟨B6.c0, B6.c1⟩ (fun hS6 => ?_)
  clear hK K
  try simp only [Act.put, List.setIfInBounds_toArray]
  refine wpAnyH_ready (rs := [63]) (by kernel_rfl) (by simp) ?_
  refine AllReadyH.cons rfl (fun K hK => ?_) AllReadyH.nil
  go_simp
  refine (sameInts_yes q1 q2 _ (hq1.kept hb6) hq2 (H1.out.1.trans H2.out.1.symm) (fun i _ => (H1.out.2 i).trans (H2.out.2 i).symm)).mono ?_
  rintro e w7 ⟨rfl, hd7⟩
  have B7 := B6.step (hd7.below _)
  go_wp2_with fail
  refine hK.out _ _ ⟨B7.c0, B7.c1⟩ (fun hS7 => ?_)
  clear hK K
  try simp only [Act.put, List.setIfInBounds_toArray]
  refine wpAnyH_take (i := 64) (v := .bool true) rfl (by kernel_rfl) (by kernel_rfl) (by kernel_rfl) (fun _ _ _ h => h) (Or.inl ⟨by rfl, ?_⟩) hS7 ?_
  · intro u hSu
    go_simp
  try simp only [Act.put, List.setIfInBounds_toArray]
  refine wpAnyH_ready (rs := [65]) (by kernel_rfl) (by simp) ?_
  refine AllReadyH.cons rfl (fun K hK => ?_) AllReadyH.nil
  go_simp
  refine hK.out _ _ hS7 (fun hS8 => ?_)
  clear hK K
  try simp only [Act.put, List.setIfInBounds_toArray]
  refine wpAnyH_done (by kernel_rfl) ?_ _
  go_wp2
  go_ret
  exact ⟨rfl, B7.bl⟩
end Go.Proofs.Ytomjippaokakcaa
