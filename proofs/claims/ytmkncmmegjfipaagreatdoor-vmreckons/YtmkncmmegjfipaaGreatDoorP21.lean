/- Layer 18: what an Op needs, taken off the stack. (By tools/mkvmtake.py.) -/
import Derived.Test.YtmkncmmegjfipaaGreatDoorP20
namespace Go.Proofs.YtmkncmmegjfipaaGreatDoor
open Go Go.RowKit

def zV3 : List Value := [.int .i64 0, .int .i64 0, .slice none 0 0]
/-- Two variables of a call, of role 5, and what is needed. -/
structure V2 (ρ : Nat → Nat) (X Y : Nat) (a b : List Value) (Z : Nat) (z : List Value) (w : World) : Prop where
  x : Blk w X a 31
  y : Blk w Y b 31
  z : Blk w Z z 100
  rx : ρ X = 5
  ry : ρ Y = 5
  rz : ρ Z = 5
  ne : X ≠ Y
  nz : X ≠ Z ∧ Y ≠ Z
theorem V2.ch {R : Nat → Prop} {ρ ρ' : Nat → Nat} {X Y : Nat} {a b : List Value} {Z : Nat} {z : List Value} {w w' : World} (h : V2 ρ X Y a b Z z w) (k : Ch R ρ ρ' w w') (hr : ¬ R 5) : V2 ρ' X Y a b Z z w' :=
  ⟨k.blk h.x (by rw [h.rx]; exact hr), k.blk h.y (by rw [h.ry]; exact hr), k.blk h.z (by rw [h.rz]; exact hr), k.rl h.x h.rx, k.rl h.y h.ry, k.rl h.z h.rz, h.ne, h.nz⟩
theorem V2.wx {ρ : Nat → Nat} {X Y : Nat} {a b c : List Value} {Z : Nat} {z : List Value} {w w' : World} (h : V2 ρ X Y a b Z z w) (W : WroteB w w' X c 31) : V2 ρ X Y c b Z z w' := ⟨W.blk, W.keep h.y (fun e => h.ne e.symm), W.keep h.z (fun e => h.nz.1 e.symm), h.rx, h.ry, h.rz, h.ne, h.nz⟩
theorem V2.wy {ρ : Nat → Nat} {X Y : Nat} {a b c : List Value} {Z : Nat} {z : List Value} {w w' : World} (h : V2 ρ X Y a b Z z w) (W : WroteB w w' Y c 31) : V2 ρ X Y a c Z z w' := ⟨W.keep h.x h.ne, W.blk, W.keep h.z (fun e => h.nz.2 e.symm), h.rx, h.ry, h.rz, h.ne, h.nz⟩
theorem seg_all (c V : List Value) (h : c.length = V.length) : c.take 0 ++ V ++ c.drop (0 + V.length) = V := by
  rw [Nat.zero_add, ← h, List.drop_length]; simp
/-- The state of take: the frame that runs, its two variables. -/
structure Tk (cl : Kl) (w0 : World) (B : Nat) (ρ0 : Nat → Nat) (w : World) (m : Mc) (r : List Fr) (f : Fr) (g : Nat) (X Y : Nat) (a b : List Value) (Z : Nat) (z : List Value) (u : World) : Prop where
  ex : ∃ ρ', Tp cl w0 B ρ' m r f g u ∧ Ch (fun x => x = 2) ρ0 ρ' w u ∧ V2 ρ' X Y a b Z z u
  hX : w.heap.size ≤ X
  hY : w.heap.size ≤ Y
theorem Tk.kept {cl : Kl} {w0 : World} {B : Nat} {ρ0 : Nat → Nat} {w : World} {m : Mc} {r : List Fr} {f : Fr} {g : Nat} {X Y : Nat} {a b : List Value} {Z : Nat} {z : List Value} {u u' : World} (h : Tk cl w0 B ρ0 w m r f g X Y a b Z z u) (hb : Below u.heap.size u u') : Tk cl w0 B ρ0 w m r f g X Y a b Z z u' := by
  obtain ⟨ρ', h1, h2, h3⟩ := h.ex
  exact ⟨⟨ρ', h1.kept hb, h2.trans (Ch.of_below hb), h3.ch (Ch.of_below (R := fun _ => False) hb) (fun x => x)⟩, h.hX, h.hY⟩
theorem Tk.bx {cl : Kl} {w0 : World} {B : Nat} {ρ0 : Nat → Nat} {w : World} {m : Mc} {r : List Fr} {f : Fr} {g : Nat} {X Y : Nat} {a b : List Value} {Z : Nat} {z : List Value} {u : World} (h : Tk cl w0 B ρ0 w m r f g X Y a b Z z u) : Blk u X a 31 ∧ Blk u Y b 31 := by obtain ⟨_, _, _, h3⟩ := h.ex; exact ⟨h3.x, h3.y⟩
theorem Tk.bz {cl : Kl} {w0 : World} {B : Nat} {ρ0 : Nat → Nat} {w : World} {m : Mc} {r : List Fr} {f : Fr} {g : Nat} {X Y : Nat} {a b : List Value} {Z : Nat} {z : List Value} {u : World} (h : Tk cl w0 B ρ0 w m r f g X Y a b Z z u) : Blk u Z z 100 := by obtain ⟨_, _, _, h3⟩ := h.ex; exact h3.z
theorem Tk.wx {cl : Kl} {w0 : World} {B : Nat} {ρ0 : Nat → Nat} {w : World} {m : Mc} {r : List Fr} {f : Fr} {g : Nat} {X Y : Nat} {a b c : List Value} {Z : Nat} {z : List Value} {u u' : World} (h : Tk cl w0 B ρ0 w m r f g X Y a b Z z u) (W : WroteB u u' X c 31) : Tk cl w0 B ρ0 w m r f g X Y c b Z z u' := by
  obtain ⟨ρ', h1, h2, h3⟩ := h.ex
  exact ⟨⟨ρ', h1.keep (Ch.wrote W h3.rx), h2.loc W h.hX, h3.wx W⟩, h.hX, h.hY⟩
theorem Tk.wy {cl : Kl} {w0 : World} {B : Nat} {ρ0 : Nat → Nat} {w : World} {m : Mc} {r : List Fr} {f : Fr} {g : Nat} {X Y : Nat} {a b c : List Value} {Z : Nat} {z : List Value} {u u' : World} (h : Tk cl w0 B ρ0 w m r f g X Y a b Z z u) (W : WroteB u u' Y c 31) : Tk cl w0 B ρ0 w m r f g X Y a c Z z u' := by
  obtain ⟨ρ', h1, h2, h3⟩ := h.ex
  exact ⟨⟨ρ', h1.keep (Ch.wrote W h3.ry), h2.loc W h.hY, h3.wy W⟩, h.hX, h.hY⟩
/-- One more call, that turns the frame. -/
theorem Tk.call {cl : Kl} {w0 : World} {B : Nat} {ρ0 : Nat → Nat} {w : World} {m : Mc} {r : List Fr} {f : Fr} {g : Nat} {X Y : Nat} {a b : List Value} {Z : Nat} {z : List Value} {u : World} (h : Tk cl w0 B ρ0 w m r f g X Y a b Z z u) (kd : Int) (l : List Vl) (v : Vl) (hst : f.st = l ++ [v]) (hl : l.length ≤ 10) : Calls Tryz.prog 146 #[.pointer (some ⟨g, r.length * 7, none⟩), .int .i64 kd] u fun e u' => e = .returned (.tuple #[.agg v.vs.toArray, .bool (decide (kd = -1) || decide (v.k = kd))]) ∧ ∃ sv', Tk cl w0 B ρ0 w (m.top r (f.sk l sv')) r (f.sk l sv') g X Y a b Z z u' := by
  obtain ⟨ρ', h1, h2, h3⟩ := h.ex
  refine (pop_any kd l v h1 hst hl).mono ?_
  rintro _ u' ⟨rfl, sv', ρ2, h4, h5⟩
  exact ⟨rfl, sv', ⟨ρ2, h4, h2.trans h5, h3.ch h5 (by omega)⟩, h.hX, h.hY⟩
theorem Tk.new {cl : Kl} {w0 : World} {B : Nat} {ρ : Nat → Nat} {w : World} {m : Mc} {r : List Fr} {f : Fr} {g : Nat} (h : Tp cl w0 B ρ m r f g w) (k0 k1 : Int) : Tk cl w0 B ρ w m r f g (w.heap.size + 1) (w.heap.size + 1 + 1) zV3 zV3 w.heap.size [.int .i64 k0, .int .i64 k1] (((w.alloc (.cells #[.int .i64 k0, .int .i64 k1] 100)).alloc (.cells zV3.toArray 31)).alloc (.cells zV3.toArray 31)) ∧ Blk (((w.alloc (.cells #[.int .i64 k0, .int .i64 k1] 100)).alloc (.cells zV3.toArray 31)).alloc (.cells zV3.toArray 31)) w.heap.size [.int .i64 k0, .int .i64 k1] 100 := by
  have b1 := below_alloc w (.cells #[.int .i64 k0, .int .i64 k1] 100)
  have s1 : (w.alloc (.cells #[.int .i64 k0, .int .i64 k1] 100)).heap.size = w.heap.size + 1 := by simp
  have B1 := Blk.new w [.int .i64 k0, .int .i64 k1] 100
  generalize w.alloc (.cells #[.int .i64 k0, .int .i64 k1] 100) = u1 at *
  have B1' : Blk u1 w.heap.size [.int .i64 k0, .int .i64 k1] 100 := B1
  have b2 := below_alloc u1 (.cells zV3.toArray 31)
  have s2 : (u1.alloc (.cells zV3.toArray 31)).heap.size = w.heap.size + 1 + 1 := by simp [s1]
  have B2 := Blk.new u1 zV3 31
  rw [s1] at B2
  have B1'' := B1'.kept b2
  generalize u1.alloc (.cells zV3.toArray 31) = u2 at *
  have b3 := below_alloc u2 (.cells zV3.toArray 31)
  have B3 := Blk.new u2 zV3 31
  rw [s2] at B3
  have k1 := Ch.fresh (R := fun x => x = 5) (ρ := ρ) 5 b1
  have k2 := Ch.fresh (R := fun x => x = 5) (ρ := upd ρ w.heap.size 5) 5 b2
  have k3 := Ch.fresh (R := fun x => x = 5) (ρ := upd (upd ρ w.heap.size 5) u1.heap.size 5) 5 b3
  have c1 := Ch.fresh (R := fun x => x = 2) (ρ := ρ) 5 b1
  have c2 := Ch.fresh (R := fun x => x = 2) (ρ := upd ρ w.heap.size 5) 5 b2
  have c3 := Ch.fresh (R := fun x => x = 2) (ρ := upd (upd ρ w.heap.size 5) u1.heap.size 5) 5 b3
  refine ⟨⟨⟨_, h.keep ((k1.trans k2).trans k3), (c1.trans c2).trans c3, ⟨B2.kept b3, B3, B1''.kept b3, ?_, ?_, ?_, by omega, by omega, by omega⟩⟩, by omega, by omega⟩, B1''.kept b3⟩
  · rw [s1, s2, upd_ne (by omega), upd_at]
  · rw [s2, upd_at]
  · rw [s1, s2, upd_ne (by omega), upd_ne (by omega), upd_at]
set_option maxRecDepth 100000 in
set_option maxHeartbeats 4000000 in
theorem take_none {cl : Kl} {w0 : World} {B : Nat} {ρ : Nat → Nat} {m : Mc} {r : List Fr} {f : Fr} {g : Nat} {w : World} (p : Value) (h : Tp cl w0 B ρ m r f g w) : Calls Tryz.prog 108 #[p, .agg #[.int .i64 0, .int .i64 0]] w fun e w' => e = .returned (.tuple #[.agg zV3.toArray, .agg zV3.toArray, .bool true]) ∧ ∃ ρ', Tp cl w0 B ρ' m r f g w' ∧ Ch (fun x => x = 2) ρ ρ' w w' := by
  have HK := hyd (Tk.new h 0 0).1
  have HL := hyd (show zV3.length = 3 from rfl)
  have O_HL := hyd (show zV3.all (·.oneCell') = true from rfl)
  have HZ : Hid (zV3 = [.int .i64 0, .int .i64 0, .slice none 0 0]) := rfl
  clear h
  go_enter Tryz.func108, Tryz.ntmps108
  go_upto_region 6 with fail
  unfold zV3 at HK
  generalize (((w.alloc (.cells #[.int .i64 0, .int .i64 0] 100)).alloc (.cells #[.int .i64 0, .int .i64 0, .slice none 0 0] 31)).alloc (.cells #[.int .i64 0, .int .i64 0, .slice none 0 0] 31)) = u3 at *
  generalize hX : w.heap.size + 1 + 1 = Y at *
  generalize hX : w.heap.size + 1 = X at *
  rw [← HZ.out] at HK
  generalize hZZ : zV3 = Z at *
  have D1 := (Below.refl u3.heap.size u3).drew
  have rA : ∀ u, (∃ x : Wd (fun q => Blk q X Z 31 ∧ Blk q Y Z 31), u = x.w) → u.rangeAt X 0 Z := fun _ hC => by obtain ⟨x, rfl⟩ := hC; exact Blk.range x.2.1
  have rB : ∀ u, (∃ x : Wd (fun q => Blk q X Z 31 ∧ Blk q Y Z 31), u = x.w) → u.rangeAt Y 0 Z := fun _ hC => by obtain ⟨x, rfl⟩ := hC; exact Blk.range x.2.2
  have HK4 := hyd (HK.out.kept D1)
  have hNE : Nonempty (Wd (fun q => Blk q X Z 31 ∧ Blk q Y Z 31)) := ⟨⟨_, HK.out.bx⟩⟩
  clear HK D1
  refine wp_region_readsV (fun q => Blk q X Z 31 ∧ Blk q Y Z 31) (fun _ => true) [0, 1, 2] 3 (by kernel_rfl) rfl (by kernel_rfl) HK4.out.bx ?_
  simp only [List.filterMap, List.getElem?_cons_zero, List.getElem?_cons_succ]
  go_big_quiet_want
  refine quiet_load_rowV 31 (.tmp 4) rfl X 0 (by kernel_rfl) Z _ rA Tryz.underlying31 rfl (by rw [HL.out]; kernel_rfl) ?_
  simp only [Act.put, List.setIfInBounds_toArray, List.set_cons_succ, List.set_cons_zero]
  go_big_quiet_on
  go_big_quiet_want
  refine quiet_load_rowV 31 (.tmp 5) rfl Y 0 (by kernel_rfl) Z _ rB Tryz.underlying31 rfl (by rw [HL.out]; kernel_rfl) ?_
  simp only [Act.put, List.setIfInBounds_toArray, List.set_cons_succ, List.set_cons_zero]
  go_big_quiet_on
  go_big_quiet_step (fail)
  refine wpQuiet_nil ?_
  clear rA rB hNE
  generalize u3.drew = u4 at *
  refine wpAnyX_ready (rs := [3]) (by kernel_rfl) (by simp) ?_
  refine AllReadyX.cons rfl (fun K hK => ?_) AllReadyX.nil
  rw [if_pos (by rfl)]
  refine wp_store_seg 31 (.tmp 4) (.tmp 30) rfl rfl X 0 Z (by kernel_rfl) rfl (O_HL.out) HK4.out.bx.1 (by omega) (by show _ = some Z.length; rw [HL.out]; kernel_rfl) ?_
  intro u5 W5
  rw [seg_all _ _ rfl] at W5
  have HK5 := hyd (HK4.out.wx W5)
  refine hK.out _ _ (fun _ => HK5.out.bx) ?_
  clear hK K W5 HK4
  refine wpAnyX_ready (rs := [4]) (by kernel_rfl) (by simp) ?_
  refine AllReadyX.cons rfl (fun K hK => ?_) AllReadyX.nil
  rw [if_pos (by rfl)]
  refine wp_store_seg 31 (.tmp 5) (.tmp 31) rfl rfl Y 0 Z (by kernel_rfl) rfl (O_HL.out) HK5.out.bx.2 (by omega) (by show _ = some Z.length; rw [HL.out]; kernel_rfl) ?_
  intro u6 W6
  rw [seg_all _ _ rfl] at W6
  have HK6 := hyd (HK5.out.wy W6)
  refine hK.out _ _ (fun _ => HK6.out.bx) ?_
  clear hK K W6 HK5
  refine wpAnyX_ready (rs := [5]) (by kernel_rfl) (by simp) ?_
  refine AllReadyX.cons rfl (fun K hK => ?_) AllReadyX.nil
  rw [if_pos (by rfl)]
  go_simp
  refine hK.out _ _ (fun _ => HK6.out.bx) ?_
  clear hK K
  refine wpAnyX_done (by kernel_rfl) ?_ _
  refine ⟨(fun c hc => by cases hc), ?_⟩
  go_wp2
  exact bodyPost_ret (v := .tuple #[.agg Z.toArray, .agg Z.toArray, .bool true]) (results_row3V (vs := Z) (vs2 := Z) Tryz.underlying31 rfl (by rw [HL.out]; kernel_rfl) (by rw [HL.out]; kernel_rfl) Tryz.results108 rfl rfl rfl HK6.out.bx.1.range HK6.out.bx.2.range) rfl ⟨by rw [hZZ], by obtain ⟨ρ', h1, h2, _⟩ := HK6.out.ex; exact ⟨ρ', h1, h2⟩⟩
set_option maxRecDepth 100000 in
set_option maxHeartbeats 4000000 in
theorem take_one {cl : Kl} {w0 : World} {B : Nat} {ρ : Nat → Nat} {m : Mc} {r : List Fr} {f : Fr} {g : Nat} {w : World} (k0 : Int) (l : List Vl) (v : Vl) (h : Tp cl w0 B ρ m r f g w) (hst : f.st = l ++ [v]) (hl : l.length ≤ 10) (h0 : k0 ≠ 0) (hk : k0 = -1 ∨ v.k = k0) : Calls Tryz.prog 108 #[.pointer (some ⟨g, r.length * 7, none⟩), .agg #[.int .i64 k0, .int .i64 0]] w fun e w' => e = .returned (.tuple #[.agg v.vs.toArray, .agg zV3.toArray, .bool true]) ∧ ∃ sv' ρ', Tp cl w0 B ρ' (m.top r (f.sk l sv')) r (f.sk l sv') g w' ∧ Ch (fun x => x = 2) ρ ρ' w w' := by
  obtain ⟨hk1, hk2⟩ := Tk.new h k0 0
  have q0 := hk2.cell 0 rfl
  have q1 := hk2.cell 1 rfl
  have HK := hyd hk1
  clear hk1 hk2
  have HC := hyd (fun u X Y a b Z z (hh : Tk cl w0 B ρ w m r f g X Y a b Z z u) => hh.call k0 l v hst hl)
  have HL := hyd (show zV3.length = 3 from rfl)
  have O_HL := hyd (show zV3.all (·.oneCell') = true from rfl)
  have HA := hyd (show v.vs.length = 3 from rfl)
  have O_HA := hyd v.vs_one
  have HKD : Hid ((decide (k0 = -1) || decide (v.k = k0)) = true) := by show _ = _; rcases hk with e | e <;> simp [e]
  have HZ : Hid (zV3 = [.int .i64 0, .int .i64 0, .slice none 0 0]) := rfl
  have hne : (k0 != 0) = true := by simpa using h0
  clear h hst hl h0 hk
  generalize r.length * 7 = o at *
  go_enter Tryz.func108, Tryz.ntmps108
  go_upto_region 2 with fail
  unfold zV3 at HK q0 q1
  generalize (((w.alloc (.cells #[.int .i64 k0, .int .i64 0] 100)).alloc (.cells #[.int .i64 0, .int .i64 0, .slice none 0 0] 31)).alloc (.cells #[.int .i64 0, .int .i64 0, .slice none 0 0] 31)) = u0 at *
  generalize hY : w.heap.size + 1 + 1 = Y at *
  generalize hX : w.heap.size + 1 = X at *
  generalize w.heap.size = BK at *
  rw [← HZ.out] at HK
  go_wp2_with fail
  refine (HC.out _ _ _ _ _ _ _ HK.out).mono ?_
  rintro _ u1 ⟨rfl, sv', hk1⟩
  have HK1 := hyd hk1
  clear hk1 HK HC q0 q1
  rw [HKD.out]
  generalize hZZ : zV3 = Z at *
  generalize hVV : v.vs = V at *
  go_upto_region 6 with (refine wpList_store_seg rfl rfl 31 (.tmp 4) (.tmp 28) rfl X 0 V (by kernel_rfl) rfl O_HA.out HK1.out.bx.1 (by rw [HA.out, HL.out]; omega) (by show _ = some V.length; rw [HA.out]; kernel_rfl) ?_; intro u2 W2; rw [seg_all _ _ (by rw [HA.out, HL.out])] at W2; have HK2 := hyd (HK1.out.wx W2); clear W2 HK1)
  have HK := hyd HK2.out
  clear HK2
  generalize u2 = u3 at *
  have D1 := (Below.refl u3.heap.size u3).drew
  have rA : ∀ u, (∃ x : Wd (fun q => Blk q X V 31 ∧ Blk q Y Z 31), u = x.w) → u.rangeAt X 0 V := fun _ hC => by obtain ⟨x, rfl⟩ := hC; exact Blk.range x.2.1
  have rB : ∀ u, (∃ x : Wd (fun q => Blk q X V 31 ∧ Blk q Y Z 31), u = x.w) → u.rangeAt Y 0 Z := fun _ hC => by obtain ⟨x, rfl⟩ := hC; exact Blk.range x.2.2
  have HK4 := hyd (HK.out.kept D1)
  have hNE : Nonempty (Wd (fun q => Blk q X V 31 ∧ Blk q Y Z 31)) := ⟨⟨_, HK.out.bx⟩⟩
  clear HK D1
  refine wp_region_readsV (fun q => Blk q X V 31 ∧ Blk q Y Z 31) (fun _ => true) [0, 1, 2] 3 (by kernel_rfl) rfl (by kernel_rfl) HK4.out.bx ?_
  simp only [List.filterMap, List.getElem?_cons_zero, List.getElem?_cons_succ]
  go_big_quiet_want
  refine quiet_load_rowV 31 (.tmp 4) rfl X 0 (by kernel_rfl) V _ rA Tryz.underlying31 rfl (by rw [HA.out]; kernel_rfl) ?_
  simp only [Act.put, List.setIfInBounds_toArray, List.set_cons_succ, List.set_cons_zero]
  go_big_quiet_on
  go_big_quiet_want
  refine quiet_load_rowV 31 (.tmp 5) rfl Y 0 (by kernel_rfl) Z _ rB Tryz.underlying31 rfl (by rw [HL.out]; kernel_rfl) ?_
  simp only [Act.put, List.setIfInBounds_toArray, List.set_cons_succ, List.set_cons_zero]
  go_big_quiet_on
  go_big_quiet_step (fail)
  refine wpQuiet_nil ?_
  clear rA rB hNE
  generalize u3.drew = u4 at *
  refine wpAnyX_ready (rs := [3]) (by kernel_rfl) (by simp) ?_
  refine AllReadyX.cons rfl (fun K hK => ?_) AllReadyX.nil
  rw [if_pos (by rfl)]
  refine wp_store_seg 31 (.tmp 4) (.tmp 30) rfl rfl X 0 V (by kernel_rfl) rfl (O_HA.out) HK4.out.bx.1 (by omega) (by show _ = some V.length; rw [HA.out]; kernel_rfl) ?_
  intro u5 W5
  rw [seg_all _ _ rfl] at W5
  have HK5 := hyd (HK4.out.wx W5)
  refine hK.out _ _ (fun _ => HK5.out.bx) ?_
  clear hK K W5 HK4
  refine wpAnyX_ready (rs := [4]) (by kernel_rfl) (by simp) ?_
  refine AllReadyX.cons rfl (fun K hK => ?_) AllReadyX.nil
  rw [if_pos (by rfl)]
  refine wp_store_seg 31 (.tmp 5) (.tmp 31) rfl rfl Y 0 Z (by kernel_rfl) rfl (O_HL.out) HK5.out.bx.2 (by omega) (by show _ = some Z.length; rw [HL.out]; kernel_rfl) ?_
  intro u6 W6
  rw [seg_all _ _ rfl] at W6
  have HK6 := hyd (HK5.out.wy W6)
  refine hK.out _ _ (fun _ => HK6.out.bx) ?_
  clear hK K W6 HK5
  refine wpAnyX_ready (rs := [5]) (by kernel_rfl) (by simp) ?_
  refine AllReadyX.cons rfl (fun K hK => ?_) AllReadyX.nil
  rw [if_pos (by rfl)]
  go_simp
  refine hK.out _ _ (fun _ => HK6.out.bx) ?_
  clear hK K
  refine wpAnyX_done (by kernel_rfl) ?_ _
  refine ⟨(fun c hc => by cases hc), ?_⟩
  go_wp2
  exact bodyPost_ret (v := .tuple #[.agg V.toArray, .agg Z.toArray, .bool true]) (results_row3V (vs := V) (vs2 := Z) Tryz.underlying31 rfl (by rw [HA.out]; kernel_rfl) (by rw [HL.out]; kernel_rfl) Tryz.results108 rfl rfl rfl HK6.out.bx.1.range HK6.out.bx.2.range) rfl ⟨by rw [hZZ, hVV], by obtain ⟨ρ', h1, h2, _⟩ := HK6.out.ex; exact ⟨_, ρ', h1, h2⟩⟩
set_option maxRecDepth 100000 in
set_option maxHeartbeats 4000000 in
theorem take_two {cl : Kl} {w0 : World} {B : Nat} {ρ : Nat → Nat} {m : Mc} {r : List Fr} {f : Fr} {g : Nat} {w : World} (k0 k1 : Int) (l : List Vl) (v x : Vl) (h : Tp cl w0 B ρ m r f g w) (hst : f.st = l ++ [v, x]) (hl : l.length ≤ 8) (h0 : k0 ≠ 0) (h1 : k1 ≠ 0) (hk : k0 = -1 ∨ v.k = k0) (hk1 : k1 = -1 ∨ x.k = k1) : Calls Tryz.prog 108 #[.pointer (some ⟨g, r.length * 7, none⟩), .agg #[.int .i64 k0, .int .i64 k1]] w fun e w' => e = .returned (.tuple #[.agg v.vs.toArray, .agg x.vs.toArray, .bool true]) ∧ ∃ sv' ρ', Tp cl w0 B ρ' (m.top r (f.sk l sv')) r (f.sk l sv') g w' ∧ Ch (fun x => x = 2) ρ ρ' w w' := by
  obtain ⟨ht1, ht2⟩ := Tk.new h k0 k1
  have q0 := ht2.cell 0 rfl
  have q1 := ht2.cell 1 rfl
  have HK := hyd ht1
  clear ht1 ht2
  have HC := hyd (fun u X Y a b Z z (hh : Tk cl w0 B ρ w m r f g X Y a b Z z u) => hh.call k1 (l ++ [v]) x (by rw [hst]; simp) (by simp; omega))
  have HC2 := hyd (fun u X Y a b Z z sv' (hh : Tk cl w0 B ρ w (m.top r (f.sk (l ++ [v]) sv')) r (f.sk (l ++ [v]) sv') g X Y a b Z z u) => hh.call k0 l v rfl (by omega))
  have HL := hyd (show zV3.length = 3 from rfl)
  have O_HL := hyd (show zV3.all (·.oneCell') = true from rfl)
  have HA := hyd (show v.vs.length = 3 from rfl)
  have O_HA := hyd v.vs_one
  have HX := hyd (show x.vs.length = 3 from rfl)
  have O_HX := hyd x.vs_one
  have HKD : Hid ((decide (k0 = -1) || decide (v.k = k0)) = true) := by show _ = _; rcases hk with e | e <;> simp [e]
  have HKD1 : Hid ((decide (k1 = -1) || decide (x.k = k1)) = true) := by show _ = _; rcases hk1 with e | e <;> simp [e]
  have HZ : Hid (zV3 = [.int .i64 0, .int .i64 0, .slice none 0 0]) := rfl
  have hne : (k0 != 0) = true := by simpa using h0
  have hne1 : (k1 != 0) = true := by simpa using h1
  clear h hst hl h0 hk h1 hk1
  generalize r.length * 7 = o at *
  go_enter Tryz.func108, Tryz.ntmps108
  go_upto_region 2 with fail
  unfold zV3 at HK q0 q1
  generalize (((w.alloc (.cells #[.int .i64 k0, .int .i64 k1] 100)).alloc (.cells #[.int .i64 0, .int .i64 0, .slice none 0 0] 31)).alloc (.cells #[.int .i64 0, .int .i64 0, .slice none 0 0] 31)) = u0 at *
  generalize hY : w.heap.size + 1 + 1 = Y at *
  generalize hX : w.heap.size + 1 = X at *
  have HBK := hyd (show w.heap.size < X ∧ w.heap.size < Y from ⟨by omega, by omega⟩)
  generalize hBK : w.heap.size = BK at *
  have HBK2 := hyd hBK
  clear hBK hX hY
  rw [← HZ.out] at HK
  have HB0 := hyd (show ∃ ρ0 : Nat → Nat, True from ⟨ρ, trivial⟩)
  go_wp2_with fail
  refine (HC.out _ _ _ _ _ _ _ HK.out).mono ?_
  rintro _ u1 ⟨rfl, sv', hk1⟩
  have HK1 := hyd hk1
  clear hk1 HK HC q0 q1
  rw [HKD1.out]
  generalize hZZ : zV3 = Z at *
  generalize hVV : v.vs = V at *
  generalize hXX : x.vs = U at *
  go_upto_region 4 with (refine wpList_store_seg rfl rfl 31 (.tmp 5) (.tmp 15) rfl Y 0 U (by kernel_rfl) rfl O_HX.out HK1.out.bx.2 (by rw [HX.out, HL.out]; omega) (by show _ = some U.length; rw [HX.out]; kernel_rfl) ?_; intro u2 W2; rw [seg_all _ _ (by rw [HX.out, HL.out])] at W2; have HK2 := hyd (HK1.out.wy W2); clear W2 HK1)
  have q0 := HK2.out.bz.cell 0 rfl
  go_wp2_with fail
  refine (HC2.out _ _ _ _ _ _ _ _ HK2.out).mono ?_
  rintro _ u4 ⟨rfl, sv2, hk1⟩
  have HK1 := hyd hk1
  clear hk1 HK2 HC2 q0
  rw [HKD.out]
  go_upto_region 6 with (refine wpList_store_seg rfl rfl 31 (.tmp 4) (.tmp 28) rfl X 0 V (by kernel_rfl) rfl O_HA.out HK1.out.bx.1 (by rw [HA.out, HL.out]; omega) (by show _ = some V.length; rw [HA.out]; kernel_rfl) ?_; intro u2 W2; rw [seg_all _ _ (by rw [HA.out, HL.out])] at W2; have HK2 := hyd (HK1.out.wx W2); clear W2 HK1)
  have HK := hyd HK2.out
  clear HK2
  generalize u2 = u3 at *
  have D1 := (Below.refl u3.heap.size u3).drew
  have rA : ∀ u, (∃ x : Wd (fun q => Blk q X V 31 ∧ Blk q Y U 31), u = x.w) → u.rangeAt X 0 V := fun _ hC => by obtain ⟨x, rfl⟩ := hC; exact Blk.range x.2.1
  have rB : ∀ u, (∃ x : Wd (fun q => Blk q X V 31 ∧ Blk q Y U 31), u = x.w) → u.rangeAt Y 0 U := fun _ hC => by obtain ⟨x, rfl⟩ := hC; exact Blk.range x.2.2
  have HK4 := hyd (HK.out.kept D1)
  have hNE : Nonempty (Wd (fun q => Blk q X V 31 ∧ Blk q Y U 31)) := ⟨⟨_, HK.out.bx⟩⟩
  clear HK D1
  refine wp_region_readsV (fun q => Blk q X V 31 ∧ Blk q Y U 31) (fun _ => true) [0, 1, 2] 3 (by kernel_rfl) rfl (by kernel_rfl) HK4.out.bx ?_
  simp only [List.filterMap, List.getElem?_cons_zero, List.getElem?_cons_succ]
  go_big_quiet_want
  refine quiet_load_rowV 31 (.tmp 4) rfl X 0 (by kernel_rfl) V _ rA Tryz.underlying31 rfl (by rw [HA.out]; kernel_rfl) ?_
  simp only [Act.put, List.setIfInBounds_toArray, List.set_cons_succ, List.set_cons_zero]
  go_big_quiet_on
  go_big_quiet_want
  refine quiet_load_rowV 31 (.tmp 5) rfl Y 0 (by kernel_rfl) U _ rB Tryz.underlying31 rfl (by rw [HX.out]; kernel_rfl) ?_
  simp only [Act.put, List.setIfInBounds_toArray, List.set_cons_succ, List.set_cons_zero]
  go_big_quiet_on
  go_big_quiet_step (fail)
  refine wpQuiet_nil ?_
  clear rA rB hNE
  generalize u3.drew = u4 at *
  refine wpAnyX_ready (rs := [3]) (by kernel_rfl) (by simp) ?_
  refine AllReadyX.cons rfl (fun K hK => ?_) AllReadyX.nil
  rw [if_pos (by rfl)]
  refine wp_store_seg 31 (.tmp 4) (.tmp 30) rfl rfl X 0 V (by kernel_rfl) rfl (O_HA.out) HK4.out.bx.1 (by omega) (by show _ = some V.length; rw [HA.out]; kernel_rfl) ?_
  intro u5 W5
  rw [seg_all _ _ rfl] at W5
  have HK5 := hyd (HK4.out.wx W5)
  refine hK.out _ _ (fun _ => HK5.out.bx) ?_
  clear hK K W5 HK4
  refine wpAnyX_ready (rs := [4]) (by kernel_rfl) (by simp) ?_
  refine AllReadyX.cons rfl (fun K hK => ?_) AllReadyX.nil
  rw [if_pos (by rfl)]
  refine wp_store_seg 31 (.tmp 5) (.tmp 31) rfl rfl Y 0 U (by kernel_rfl) rfl (O_HX.out) HK5.out.bx.2 (by omega) (by show _ = some U.length; rw [HX.out]; kernel_rfl) ?_
  intro u6 W6
  rw [seg_all _ _ rfl] at W6
  have HK6 := hyd (HK5.out.wy W6)
  refine hK.out _ _ (fun _ => HK6.out.bx) ?_
  clear hK K W6 HK5
  refine wpAnyX_ready (rs := [5]) (by kernel_rfl) (by simp) ?_
  refine AllReadyX.cons rfl (fun K hK => ?_) AllReadyX.nil
  rw [if_pos (by rfl)]
  go_simp
  refine hK.out _ _ (fun _ => HK6.out.bx) ?_
  clear hK K
  refine wpAnyX_done (by kernel_rfl) ?_ _
  refine ⟨(fun c hc => by cases hc), ?_⟩
  go_wp2
  exact bodyPost_ret (v := .tuple #[.agg V.toArray, .agg U.toArray, .bool true]) (results_row3V (vs := V) (vs2 := U) Tryz.underlying31 rfl (by rw [HA.out]; kernel_rfl) (by rw [HX.out]; kernel_rfl) Tryz.results108 rfl rfl rfl HK6.out.bx.1.range HK6.out.bx.2.range) rfl ⟨by rw [hVV, hXX], by obtain ⟨ρ', h1, h2, _⟩ := HK6.out.ex; exact ⟨_, ρ', h1, h2⟩⟩
end Go.Proofs.YtmkncmmegjfipaaGreatDoor

/- Layer 18: what a slot has, loaded. -/
namespace Go.Proofs.YtmkncmmegjfipaaGreatDoor
open Go Go.RowKit

set_option maxRecDepth 100000 in
set_option maxHeartbeats 4000000 in
theorem fload_ok {cl : Kl} {w0 : World} {B : Nat} {ρ : Nat → Nat} {m : Mc} {r : List Fr} {f : Fr} {g : Nat} {w : World} (i : Nat) (v : Vl) (h : Tp cl w0 B ρ m r f g w) (hi : f.sl[i]? = some v) (hk : v.k ≠ 0) (hl : f.sl.length ≤ 250) : Calls Tryz.prog 147 #[.pointer (some ⟨g, r.length * 7, none⟩), .int .i64 i] w fun e w' => e = .returned (.tuple #[.agg v.vs.toArray, .bool true]) ∧ Below w.heap.size w w' := by
  have hil : i < f.sl.length := (List.getElem?_eq_some_iff.1 hi).1
  obtain ⟨gs, cap, ys, es, hgs, hbs, hcap⟩ := h.fr.l.blk (by omega)
  have cS := h.cell 6 (v := .slice (some ⟨gs, 0, none⟩) f.sl.length cap) (by rw [← es]; rfl)
  have hy : ∀ j, j < 3 → ∀ u, v.vs[j]? = some u → w.cell? ⟨gs, i * 3 + j, none⟩ = some u := fun j hj u hu => hbs.cell _ (by rw [List.getElem?_append_left (by rw [vls_len]; omega), vls_get hi j hj]; exact hu)
  have y0 := hy 0 (by omega) _ rfl
  have y1 := hy 1 (by omega) _ rfl
  have y2 := hy 2 (by omega) _ rfl
  rw [Nat.add_zero] at y0
  have B0 := below_alloc w (.cells #[.int .i64 0, .int .i64 0, .slice none 0 0] 31)
  have HK := hyd (Blk.new w [.int .i64 0, .int .i64 0, .slice none 0 0] 31)
  have HB := hyd B0
  have HG := hyd (show g < w.heap.size ∧ gs < w.heap.size from ⟨by obtain ⟨_, hg, _⟩ := h.there; exact hg.lt, hbs.lt⟩)
  have cS1 := up B0 cS
  have z0 := up B0 y0
  have z1 := up B0 y1
  have z2 := up B0 y2
  have hne : (v.k != 0) = true := by simpa using hk
  have hn1 : ((i : Int) < f.sl.length) := by omega
  clear h es hgs hbs hcap cS hy y0 y1 y2 B0 hi
  generalize r.length * 7 = o at *
  generalize f.sl.length = n at *
  have hd : decide ((n : Int) ≤ i) = false := by simp; omega
  go_enter Tryz.func147, Tryz.ntmps147
  go_upto_region 1 with fail
  generalize w.alloc (.cells #[.int .i64 0, .int .i64 0, .slice none 0 0] 31) = u1 at *
  generalize hBZ : w.heap.size = BZ at *
  have HBZ := hyd hBZ
  clear hBZ
  go_upto_region 3 with fail
  have D1 := (Below.refl u1.heap.size u1).drew
  have HK2 := hyd (HK.out.kept D1)
  have HB2 := hyd (HB.out.drew)
  have HS := hyd (show (u1.drew).cell? ⟨g, o + 6, none⟩ = some (.slice (some ⟨gs, 0, none⟩) n cap) ∧ (u1.drew).rangeAt gs (i * 3) v.vs from ⟨up D1 cS1, fun j u hj => by
    match j with
    | 0 => simp [Vl.vs] at hj; subst hj; rw [Nat.add_zero]; exact up D1 z0
    | 1 => simp [Vl.vs] at hj; subst hj; exact up D1 z1
    | 2 => simp [Vl.vs] at hj; subst hj; exact up D1 z2
    | j + 3 => simp [Vl.vs] at hj⟩)
  have H1 := hyd v.vs_one
  have HL := hyd (show v.vs.length = 3 from rfl)
  have HV0 := hyd (show v.vs[0]? = some (.int .i64 v.k) from rfl)
  clear D1 cS1 z0 z1 z2 HK HB
  have hNE : Nonempty (Wd (fun q => q.cell? ⟨g, o + 6, none⟩ = some (.slice (some ⟨gs, 0, none⟩) n cap) ∧ q.rangeAt gs (i * 3) v.vs)) := ⟨⟨_, HS.out⟩⟩
  have p6 : ∀ x : Wd (fun q => q.cell? ⟨g, o + 6, none⟩ = some (.slice (some ⟨gs, 0, none⟩) n cap) ∧ q.rangeAt gs (i * 3) v.vs), x.w.cell? ⟨g, o + 6, none⟩ = some (.slice (some ⟨gs, 0, none⟩) n cap) := fun x => x.2.1
  have p0 : ∀ x : Wd (fun q => q.cell? ⟨g, o + 6, none⟩ = some (.slice (some ⟨gs, 0, none⟩) n cap) ∧ q.rangeAt gs (i * 3) v.vs), x.w.cell? ⟨gs, i * 3, none⟩ = some (.int .i64 v.k) := fun x => x.2.2 0 _ HV0.out
  have rT : ∀ u, (∃ x : Wd (fun q => q.cell? ⟨g, o + 6, none⟩ = some (.slice (some ⟨gs, 0, none⟩) n cap) ∧ q.rangeAt gs (i * 3) v.vs), u = x.w) → u.rangeAt gs (i * 3) v.vs := fun _ hC => by obtain ⟨x, rfl⟩ := hC; exact x.2.2
  generalize hV : v.vs = V at *
  refine wp_region_readsV (fun q => q.cell? ⟨g, o + 6, none⟩ = some (.slice (some ⟨gs, 0, none⟩) n cap) ∧ q.rangeAt gs (i * 3) V) (fun _ => true) [0, 1, 2, 3, 4, 5, 6, 7, 8, 9, 10, 11, 12, 13, 14, 15] 2 (by kernel_rfl) rfl (by kernel_rfl) HS.out ?_
  simp only [List.filterMap, List.getElem?_cons_zero, List.getElem?_cons_succ]
  iterate 6 go_big_quiet_step (fail)
  go_big_quiet_want
  refine quiet_load_rowV 31 (.tmp 19) rfl gs (i * 3) (by kernel_rfl) V _ rT Tryz.underlying31 rfl (by rw [HL.out]; kernel_rfl) ?_
  simp only [Act.put, List.setIfInBounds_toArray, List.set_cons_succ, List.set_cons_zero]
  go_big_quiet_on
  iterate 9 go_big_quiet_step (fail)
  refine wpQuiet_nil ?_
  clear rT p6 p0 hNE
  generalize u1.drew = u2 at *
  refine wpAnyX_ready (rs := [16]) (by kernel_rfl) (by simp) ?_
  refine AllReadyX.cons rfl (fun K hK => ?_) AllReadyX.nil
  rw [if_pos (by rfl)]
  refine wp_store_seg 31 (.tmp 4) (.tmp 20) rfl rfl BZ 0 V (by kernel_rfl) rfl H1.out HK2.out (by rw [HL.out]; show 0 + 3 ≤ 3; omega) (by show _ = some V.length; rw [HL.out]; kernel_rfl) ?_
  intro u3 W3
  rw [seg_all _ _ (by rw [HL.out]; rfl)] at W3
  have HR := hyd W3.blk
  have HB3 := hyd (W3.below (Nat.le_refl _) HB2.out)
  have HS3 := hyd (show u3.cell? ⟨g, o + 6, none⟩ = some (.slice (some ⟨gs, 0, none⟩) n cap) ∧ u3.rangeAt gs (i * 3) V from ⟨(World.cell?_of_block (a := ⟨g, o + 6, none⟩) (W3.other g (by have := HG.out.1; show g ≠ BZ; omega))).trans HS.out.1, fun j u hu => (World.cell?_of_block (a := ⟨gs, i * 3 + j, none⟩) (W3.other gs (by have := HG.out.2; show gs ≠ BZ; omega))).trans (HS.out.2 j u hu)⟩)
  refine hK.out _ _ (fun _ => HS3.out) ?_
  clear hK K W3 HB2 HS HK2
  refine wpAnyX_ready (rs := [17]) (by kernel_rfl) (by simp) ?_
  refine AllReadyX.cons rfl (fun K hK => ?_) AllReadyX.nil
  rw [if_pos (by rfl)]
  go_simp
  refine hK.out _ _ (fun _ => HS3.out) ?_
  clear hK K
  refine wpAnyX_done (by kernel_rfl) ?_ _
  refine ⟨(fun c hc => by cases hc), ?_⟩
  go_wp2
  exact bodyPost_ret (v := .tuple #[.agg V.toArray, .bool true]) (results_row2V (vs := V) Tryz.underlying31 rfl (by rw [HL.out]; kernel_rfl) Tryz.results147 rfl rfl HR.out.range) rfl ⟨by rw [hV], by rw [HBZ.out]; exact HB3.out⟩
set_option maxRecDepth 100000 in
set_option maxHeartbeats 4000000 in
theorem mload_ok {cl : Kl} {w0 : World} {B : Nat} {ρ : Nat → Nat} {m : Mc} {r : List Fr} {f : Fr} {g : Nat} {w : World} (i : Nat) (v : Vl) (h : Tp cl w0 B ρ m r f g w) (hi : f.sl[i]? = some v) (hk : v.k ≠ 0) (hl : f.sl.length ≤ 250) (hs : f.st.length < 8) : Calls Tryz.prog 110 #[.pointer (some ⟨B, 0, none⟩), .pointer (some ⟨g, r.length * 7, none⟩), .int .i64 i] w fun e w' => e = .returned (.tuple #[]) ∧ ∃ sv' ρ', Tp cl w0 B ρ' (m.top r (f.sk (f.st ++ [v]) sv')) r (f.sk (f.st ++ [v]) sv') g w' ∧ Ch (fun x => x = 2 ∨ x = 6 + 2 * r.length) ρ ρ' w w' := by
  have hL := fload_ok i v h hi hk hl
  have HT := hyd (show Tp cl w0 B ρ m r f g w ∧ VOk ρ w v from ⟨h, h.fr.vl v (List.mem_of_getElem? hi)⟩)
  have HP := hyd (fun ρ1 u (h1 : Tp cl w0 B ρ1 m r f g u) (h2 : VOk ρ1 u v) => mput_any v h1 h2 hs)
  clear h hi hk hl hs
  have HV0 := hyd (show v.vs = [.int .i64 v.k, .int .i64 v.m, .slice v.ao v.len v.cap] from rfl)
  go_enter Tryz.func110, Tryz.ntmps110
  go_wp2_with fail
  refine hL.mono ?_
  rintro _ u1 ⟨rfl, hb⟩
  have HT1 := hyd (show Tp cl w0 B ρ m r f g u1 ∧ VOk ρ u1 v ∧ Below w.heap.size w u1 from ⟨HT.out.1.kept hb, HT.out.2.kept (Ch.of_below (R := fun _ => False) hb) (fun x => x), hb⟩)
  clear hL hb HT
  rw [HV0.out]
  have y0 := (Blk.new u1 [.int .i64 v.k, .int .i64 v.m, .slice v.ao v.len v.cap] 31).cell 0 rfl
  have y1 := (Blk.new u1 [.int .i64 v.k, .int .i64 v.m, .slice v.ao v.len v.cap] 31).cell 1 rfl
  have y2 := (Blk.new u1 [.int .i64 v.k, .int .i64 v.m, .slice v.ao v.len v.cap] 31).cell 2 rfl
  go_wp2_with fail
  have HB := hyd (below_alloc u1 (.cells #[.int .i64 v.k, .int .i64 v.m, .slice v.ao v.len v.cap] 31))
  generalize u1.alloc (.cells #[.int .i64 v.k, .int .i64 v.m, .slice v.ao v.len v.cap] 31) = u2 at *
  have HT2 := hyd (show Tp cl w0 B ρ m r f g u2 ∧ VOk ρ u2 v ∧ Below w.heap.size w u2 from ⟨HT1.out.1.kept HB.out, HT1.out.2.1.kept (Ch.of_below (R := fun _ => False) HB.out) (fun x => x), Below.next HT1.out.2.2 HB.out⟩)
  clear HT1 HB y0 y1 y2
  refine (HP.out _ _ HT2.out.1 HT2.out.2.1).mono ?_
  rintro _ u3 ⟨rfl, sv', ρ', h1, h2⟩
  have HR := hyd (show ∃ sv' ρ', Tp cl w0 B ρ' (m.top r (f.sk (f.st ++ [v]) sv')) r (f.sk (f.st ++ [v]) sv') g u3 ∧ Ch (fun x => x = 2 ∨ x = 6 + 2 * r.length) ρ ρ' w u3 from ⟨sv', ρ', h1, (Ch.of_below HT2.out.2.2).trans h2⟩)
  clear h1 h2 HP HT2
  go_wp2
  go_end0
  exact ⟨rfl, HR.out⟩
end Go.Proofs.YtmkncmmegjfipaaGreatDoor
