/- Layer 13: a writer's place, slot. -/
import Derived.Test.YtjfijpiadfkmfaaGreatDoorP24
import Derived.Test.YtjfijpiadfkmfaaGreatDoorP17
namespace Go.Proofs.YtjfijpiadfkmfaaGreatDoor
open Go Go.RowKit

theorem plc_ge (Q : List (List Int)) : ∀ (t : Ty) (d : Nat), -1 ≤ plc Q t d
  | .dm, _ => by show (-1 : Int) ≤ -1; omega
  | .mk k l h e _ _ _ len _ ps, d => by
    rw [plc]
    repeat' split
    all_goals first | omega | exact fnd_ge _ _
theorem fnd_lt {Q : List (List Int)} {n : List Int} (h : fnd Q n ≠ -1) : fnd Q n < Q.length := by
  obtain ⟨i, h1, h2⟩ := fnd_get h
  have := (List.getElem?_eq_some_iff.1 h2).1
  omega
theorem plc_lt (Q : List (List Int)) : ∀ (t : Ty) (d : Nat), plc Q t d ≤ Q.length
  | .dm, _ => by show (-1 : Int) ≤ _; omega
  | .mk k l h e _ _ _ len _ ps, d => by
    rw [plc]
    repeat' split
    all_goals first
      | omega
      | (apply Classical.byContradiction; intro hh; have h1 := fnd_lt (Q := Q) (n := _) (fun z => hh (by rw [z]; omega)); omega)
/-- The writer and a type's variable. -/
structure Wx (wE : World) (p q : Nat) (S : Nat → Prop) (st : Option (List Nat)) (A : Nat) (tv : List Value) (u : World) : Prop where
  wl : Wl wE p q S st u
  bA : Blk u A tv 36
theorem Wx.kept {wE : World} {p q : Nat} {S : Nat → Prop} {st : Option (List Nat)} {A : Nat} {tv : List Value} {u u' : World} (h : Wx wE p q S st A tv u) (hb : Below u.heap.size u u') : Wx wE p q S st A tv u' := ⟨h.wl.kept hb, h.bA.kept hb⟩
theorem Wx.c0 {wE : World} {p q : Nat} {S : Nat → Prop} {st : Option (List Nat)} {A : Nat} {tv : List Value} {u : World} (h : Wx wE p q S st A tv u) : u.cell? ⟨q, 0, none⟩ = some (.pointer (some ⟨p, 0, none⟩)) := by
  obtain ⟨v, lg, l, hW, _⟩ := h.wl
  exact hW.blk.cell 0 rfl

set_option maxRecDepth 100000 in
set_option maxHeartbeats 4000000 in
theorem wplace_any {w0 wE w : World} {n : Strs} {g : Grid} {p q m : Nat} {v : Value} {es : Array MapEntry} {c : Nat} {Q : List (List Int)} {R : List Ty} {S : Nat → Prop} {st : Option (List Nat)} (hP : Pw w0 n g p m v es c Q R wE) (h : Wl wE p q S st w) (t : Ty) (ht : t.At wE) :
    Calls Tryz.prog 60 #[.pointer (some ⟨q, 0, none⟩), .agg #[.int .i64 t.k, .int .i64 t.l, .slice t.ao t.len t.cap, .int .i64 t.h, .int .i64 t.e]] w fun r w' => WR wE p q S w (wSh (plc Q t 1) st) r w' := by
  have B0 := below_alloc w (.cells #[.int .i64 t.k, .int .i64 t.l, .slice t.ao t.len t.cap, .int .i64 t.h, .int .i64 t.e] 36)
  have bA := Blk.new w [.int .i64 t.k, .int .i64 t.l, .slice t.ao t.len t.cap, .int .i64 t.h, .int .i64 t.e] 36
  have HB := hyd B0
  have HX := hyd (show Wx wE p q S st w.heap.size [.int .i64 t.k, .int .i64 t.l, .slice t.ao t.len t.cap, .int .i64 t.h, .int .i64 t.e] (w.alloc (.cells #[.int .i64 t.k, .int .i64 t.l, .slice t.ao t.len t.cap, .int .i64 t.h, .int .i64 t.e] 36)) from ⟨h.kept B0, bA⟩)
  have HP := hyd hP
  have HT := hyd ht
  have hpl := fun (z : World) (hz : Below wE.heap.size wE z) => place_any t z (HT.out.kept hz) (HP.out.kept hz)
  clear B0 bA h hP ht
  generalize plc Q t 1 = F at *
  go_enter Tryz.func60, Tryz.ntmps60
  go_upto_region 1 with fail
  generalize w.alloc (.cells #[.int .i64 t.k, .int .i64 t.l, .slice t.ao t.len t.cap, .int .i64 t.h, .int .i64 t.e] 36) = u at *
  have HXd := hyd (HX.out.kept ((Below.refl _ _).drew))
  have HBd := hyd (Below.next HB.out ((Below.refl _ _).drew))
  have q0 : ∀ x1 : Wd (Wx wE p q S st w.heap.size [.int .i64 t.k, .int .i64 t.l, .slice t.ao t.len t.cap, .int .i64 t.h, .int .i64 t.e]), x1.w.cell? ⟨q, 0, none⟩ = some (.pointer (some ⟨p, 0, none⟩)) := fun x1 => x1.2.c0
  have hCA : ∀ u', (∃ x1 : Wd (Wx wE p q S st w.heap.size [.int .i64 t.k, .int .i64 t.l, .slice t.ao t.len t.cap, .int .i64 t.h, .int .i64 t.e]), u' = x1.w) → u'.rangeAt w.heap.size 0 [.int .i64 t.k, .int .i64 t.l, .slice t.ao t.len t.cap, .int .i64 t.h, .int .i64 t.e] := by rintro _ ⟨x1, rfl⟩; exact x1.2.bA.range
  have hNE : Nonempty (Wd (Wx wE p q S st w.heap.size [.int .i64 t.k, .int .i64 t.l, .slice t.ao t.len t.cap, .int .i64 t.h, .int .i64 t.e])) := ⟨⟨_, HX.out⟩⟩
  refine wp_region_readsG (Wx wE p q S st w.heap.size [.int .i64 t.k, .int .i64 t.l, .slice t.ao t.len t.cap, .int .i64 t.h, .int .i64 t.e]) 7 [0, 1, 2, 3, 4, 5] 2 (by kernel_rfl) rfl (by kernel_rfl) HXd.out ?_
  simp only [List.filterMap, List.getElem?_cons_zero, List.getElem?_cons_succ]
  iterate 5 go_big_quiet_step (fail)
  go_big_quiet_want
  refine quiet_row 36 (.tmp 3) rfl w.heap.size 0 (by kernel_rfl) [.int .i64 t.k, .int .i64 t.l, .slice t.ao t.len t.cap, .int .i64 t.h, .int .i64 t.e] _ hCA Tryz.underlying36 rfl (by kernel_rfl) ?_
  simp only [Act.put, List.setIfInBounds_toArray, List.set_cons_succ, List.set_cons_zero]
  go_big_quiet_on
  refine wpQuiet_nil ?_
  clear q0 hCA hNE HX
  generalize u.drew = z0 at *
  refine wpAnyG_ready (rs := [6]) (by kernel_rfl) (by simp) ?_
  refine AllReadyG.cons rfl (fun K hK => ?_) AllReadyG.nil
  rw [if_pos (by rfl)]
  go_simp
  refine Calls.mono (hpl z0 HXd.out.wl.bl) ?_
  rintro _ z1 ⟨rfl, hb1⟩
  have HX1 := hyd (HXd.out.kept hb1)
  have HB1 := hyd (Below.next HBd.out hb1)
  refine hK.out _ _ (fun _ => HX1.out) ?_
  clear hK K hb1 HXd HBd
  refine wpAnyG_ready (rs := [7]) (by kernel_rfl) (by simp) ?_
  refine AllReadyG.cons rfl (fun K hK => ?_) AllReadyG.nil
  rw [if_pos (by rfl)]
  go_simp
  refine Calls.mono (wshort_any HX1.out.wl F) ?_
  rintro _ z2 ⟨rfl, S', hg⟩
  have HG := hyd (Wg.ahead HB1.out hg)
  refine hK.out _ _ (fun h => absurd h (by omega)) ?_
  clear hK K hg
  refine wpAnyG_done (by kernel_rfl) ?_ _
  refine ⟨fun c => by simp, ?_⟩
  go_wp2
  go_end0
  exact ⟨rfl, S', HG.out⟩
set_option maxRecDepth 100000 in
set_option maxHeartbeats 4000000 in
theorem wslot_any {w0 wE w : World} {n : Strs} {g : Grid} {p q m : Nat} {v : Value} {es : Array MapEntry} {c : Nat} {Q : List (List Int)} {R : List Ty} {S : Nat → Prop} {st : Option (List Nat)} (hP : Pw w0 n g p m v es c Q R wE) (h : Wl wE p q S st w) (t : Ty) (ht : t.At wE) (hR : R.length ≤ 2000000000) :
    Calls Tryz.prog 99 #[.pointer (some ⟨q, 0, none⟩), .agg #[.int .i64 t.k, .int .i64 t.l, .slice t.ao t.len t.cap, .int .i64 t.h, .int .i64 t.e]] w fun r w' => WR wE p q S w (wSh (plc Q t 1 + 1) st) r w' := by
  have B0 := below_alloc w (.cells #[.int .i64 t.k, .int .i64 t.l, .slice t.ao t.len t.cap, .int .i64 t.h, .int .i64 t.e] 36)
  have bA := Blk.new w [.int .i64 t.k, .int .i64 t.l, .slice t.ao t.len t.cap, .int .i64 t.h, .int .i64 t.e] 36
  have HB := hyd B0
  have HX := hyd (show Wx wE p q S st w.heap.size [.int .i64 t.k, .int .i64 t.l, .slice t.ao t.len t.cap, .int .i64 t.h, .int .i64 t.e] (w.alloc (.cells #[.int .i64 t.k, .int .i64 t.l, .slice t.ao t.len t.cap, .int .i64 t.h, .int .i64 t.e] 36)) from ⟨h.kept B0, bA⟩)
  have HP := hyd hP
  have HT := hyd ht
  have hpl := fun (z : World) (hz : Below wE.heap.size wE z) => place_any t z (HT.out.kept hz) (HP.out.kept hz)
  have hge := plc_ge Q t 1
  have hle : plc Q t 1 ≤ 9223372036854775806 := by have h1 := plc_lt Q t 1; have h2 := hP.good.len; omega
  clear B0 bA h hP ht
  generalize plc Q t 1 = F at *
  go_enter Tryz.func99, Tryz.ntmps99
  go_upto_region 1 with fail
  generalize w.alloc (.cells #[.int .i64 t.k, .int .i64 t.l, .slice t.ao t.len t.cap, .int .i64 t.h, .int .i64 t.e] 36) = u at *
  have HXd := hyd (HX.out.kept ((Below.refl _ _).drew))
  have HBd := hyd (Below.next HB.out ((Below.refl _ _).drew))
  have q0 : ∀ x1 : Wd (Wx wE p q S st w.heap.size [.int .i64 t.k, .int .i64 t.l, .slice t.ao t.len t.cap, .int .i64 t.h, .int .i64 t.e]), x1.w.cell? ⟨q, 0, none⟩ = some (.pointer (some ⟨p, 0, none⟩)) := fun x1 => x1.2.c0
  have hCA : ∀ u', (∃ x1 : Wd (Wx wE p q S st w.heap.size [.int .i64 t.k, .int .i64 t.l, .slice t.ao t.len t.cap, .int .i64 t.h, .int .i64 t.e]), u' = x1.w) → u'.rangeAt w.heap.size 0 [.int .i64 t.k, .int .i64 t.l, .slice t.ao t.len t.cap, .int .i64 t.h, .int .i64 t.e] := by rintro _ ⟨x1, rfl⟩; exact x1.2.bA.range
  have hNE : Nonempty (Wd (Wx wE p q S st w.heap.size [.int .i64 t.k, .int .i64 t.l, .slice t.ao t.len t.cap, .int .i64 t.h, .int .i64 t.e])) := ⟨⟨_, HX.out⟩⟩
  refine wp_region_readsG (Wx wE p q S st w.heap.size [.int .i64 t.k, .int .i64 t.l, .slice t.ao t.len t.cap, .int .i64 t.h, .int .i64 t.e]) 7 [0, 1, 2, 3, 4, 5] 2 (by kernel_rfl) rfl (by kernel_rfl) HXd.out ?_
  simp only [List.filterMap, List.getElem?_cons_zero, List.getElem?_cons_succ]
  iterate 5 go_big_quiet_step (fail)
  go_big_quiet_want
  refine quiet_row 36 (.tmp 3) rfl w.heap.size 0 (by kernel_rfl) [.int .i64 t.k, .int .i64 t.l, .slice t.ao t.len t.cap, .int .i64 t.h, .int .i64 t.e] _ hCA Tryz.underlying36 rfl (by kernel_rfl) ?_
  simp only [Act.put, List.setIfInBounds_toArray, List.set_cons_succ, List.set_cons_zero]
  go_big_quiet_on
  refine wpQuiet_nil ?_
  clear q0 hCA hNE HX
  generalize u.drew = z0 at *
  refine wpAnyG_ready (rs := [6]) (by kernel_rfl) (by simp) ?_
  refine AllReadyG.cons rfl (fun K hK => ?_) AllReadyG.nil
  rw [if_pos (by rfl)]
  go_simp
  refine Calls.mono (hpl z0 HXd.out.wl.bl) ?_
  rintro _ z1 ⟨rfl, hb1⟩
  have HX1 := hyd (HXd.out.kept hb1)
  have HB1 := hyd (Below.next HBd.out hb1)
  refine hK.out _ _ (fun _ => HX1.out) ?_
  clear hK K hb1 HXd HBd
  refine wpAnyG_ready (rs := [7]) (by kernel_rfl) (by simp) ?_
  refine AllReadyG.cons rfl (fun K hK => ?_) AllReadyG.nil
  rw [if_pos (by rfl)]
  go_simp
  refine Calls.mono (worNone_any HX1.out.wl F hge hle) ?_
  rintro _ z2 ⟨rfl, S', hg⟩
  have HG := hyd (Wg.ahead HB1.out hg)
  refine hK.out _ _ (fun h => absurd h (by omega)) ?_
  clear hK K hg
  refine wpAnyG_done (by kernel_rfl) ?_ _
  refine ⟨fun c => by simp, ?_⟩
  go_wp2
  go_end0
  exact ⟨rfl, S', HG.out⟩
end Go.Proofs.YtjfijpiadfkmfaaGreatDoor
