/- Layer 3: whether a function's value fits. -/
import Derived.Test.YtnkipiegjpjfbaaGreatDoorP14
import Derived.Deep.RegionHeld3
import Derived.Deep.DeepCutAuto
namespace Go.Proofs.YtnkipiegjpjfbaaGreatDoor
open Go.RowKit

/-- The call's variables: a type and a value. -/
structure FBox (w z : World) (X : Nat) (n : Strs) (g : Grid) (fs : Fs) (cs : Cs) (t : Ty) (v : Vl) : Prop where
  bl : Below w.heap.size w z
  sz : w.heap.size + 2 ≤ z.heap.size
  x : Bx z w.heap.size t
  y : Bv z (w.heap.size + 1) v
  env : Env z X n g fs cs
  ht : t.At z
  hv : v.At z
theorem FBox.step {w x x' : World} {X : Nat} {n : Strs} {g : Grid} {fs : Fs} {cs : Cs} {t : Ty} {v : Vl} (h : FBox w x X n g fs cs t v) (hb : Below x.heap.size x x') : FBox w x' X n g fs cs t v :=
  ⟨Below.next h.bl hb, Nat.le_trans h.sz hb.size, h.x.kept hb, h.y.kept hb, h.env.kept hb, h.ht.kept hb, h.hv.kept hb⟩
theorem fbox_new {w : World} {X : Nat} {n : Strs} {g : Grid} {fs : Fs} {cs : Cs} {t : Ty} {v : Vl} (he : Env w X n g fs cs) (ht : t.At w) (hv : v.At w) : FBox w ((w.alloc (tyO t)).alloc (vlO v)) X n g fs cs t v := by
  have b1 := below_alloc w (tyO t)
  have b2 := below_alloc (w.alloc (tyO t)) (vlO v)
  have bb := Below.next b1 b2
  have e1 : (w.alloc (tyO t)).heap.size = w.heap.size + 1 := alloc_size _ _
  refine ⟨bb, by rw [alloc_size, e1]; omega, (Bx.new w t).kept b2, ?_, he.kept bb, ht.kept bb, hv.kept bb⟩
  rw [← e1]
  exact Bv.new _ v

set_option maxRecDepth 100000 in
set_option maxHeartbeats 8000000 in
theorem funFits_any (n : Strs) (g : Grid) (fs : Fs) (cs : Cs) (k : Int) (q : Nat) (ao : Option Addr) (b o len cap : Nat) (ps : Nat → Vl) (hP : ∀ j, j < len → FC n g fs cs (ps j)) (hfm : ∀ j, j < len → (ps j).fm = true) (t : Ty) (w : World) (X : Nat) (he : Env w X n g fs cs) (ht : t.At w) (hv : Vl.At w (.mk k (q : Int) ao b o len cap ps)) :
    Calls Tryz.prog 44 #[.pointer (some ⟨X, 0, none⟩), .agg #[.int .i64 t.k, .int .i64 t.l, .slice t.ao t.len t.cap, .int .i64 t.h, .int .i64 t.e], .agg #[.int .i64 k, .int .i64 (q : Int), .slice ao len cap]] w fun e w' => e = .returned (.bool (funB n g fs cs (q : Int) len ps t)) ∧ Below w.heap.size w w' := by
  have K0 := fbox_new he ht hv
  have b1 : len ≤ 9223372036854775807 := hv.bound
  have b2 := he.hf.bound
  have n1 : 0 < len → ao = some ⟨b, o, none⟩ := hv.nil
  have n2 := he.hf.nil
  have HP : Hid ((∀ j, j < len → FC n g fs cs (ps j)) ∧ (∀ j, j < len → (ps j).fm = true)) := ⟨hP, hfm⟩
  clear he ht hv hP hfm
  unfold tyO vlO at K0
  simp only [Vl.k, Vl.m, Vl.ao, Vl.len, Vl.cap] at K0
  generalize hV : funB n g fs cs (q : Int) len ps t = RV
  have HV : Hid (funB n g fs cs (q : Int) len ps t = RV) := hV
  clear hV
  have HQ : Hid (((q : Int)).toNat = q) := Int.toNat_natCast q
  go_enter Tryz.func44, Tryz.ntmps44
  go_upto_region 1 with fail
  generalize (w.alloc (.cells #[.int .i64 t.k, .int .i64 t.l, .slice t.ao t.len t.cap, .int .i64 t.h, .int .i64 t.e] 32)).alloc (.cells #[.int .i64 k, .int .i64 (q : Int), .slice ao len cap] 35) = W0 at K0 ⊢
  have y1 := fun z => Gr.cell z K0.y.c1
  have s2 := fun z => Gr.cell z K0.env.c2
  simp only [Vl.m] at y1
  have hNE : Nonempty (Gr W0) := ⟨⟨_, Below.refl _ _⟩⟩
  by_cases hm : q < fs.len
  · have dm : decide ((q : Int) ≥ fs.len) = false := decide_eq_false (by omega)
    have iq : (q : Int) < fs.len := by omega
    have i0 : (0 : Int) ≤ q := by omega
    refine wp_region_gr (by kernel_rfl) (by kernel_rfl) ?_
    repeat (first | go_big_quiet_step (fail))
    refine wpQuiet_nil ?_
    rintro w1 ⟨q1, rfl⟩
    have B1 := q1.bl
    generalize q1.w = w1 at B1 ⊢
    clear q1 y1 s2 hNE
    have K1 := K0.step B1
    clear K0 B1
    have a2 := n2 (by omega)
    go_upto_region 3 with fail
    go_cut [7] (fun p wx => ∃ FB : Nat, p = .pointer (some ⟨FB, 0, none⟩) ∧ FBox w wx X n g fs cs t (.mk k (q : Int) ao b o len cap ps) ∧ Bf wx FB (fs.f q))
    case first =>
      have D1 : Below w1.heap.size w1 w1.drew := (Below.refl _ _).drew
      have key := fun u (hu : Below w1.heap.size w1 u) => (⟨by rw [← a2]; exact (K1.step hu).env.c2, (K1.step hu).y.c1, ((K1.step hu).env.hf.cells q hm).range⟩ : (fun q0 : World => q0.cell? ⟨X, 2, none⟩ = some (.slice (some ⟨fs.b, fs.o, none⟩) fs.len fs.cap) ∧ q0.cell? ⟨w.heap.size + 1, 1, none⟩ = some (.int .i64 (q : Int)) ∧ q0.rangeAt fs.b (fs.o + q * 18) (fs.f q).vs) u)
      have hS := key _ D1
      refine wp_region_held_drew (S := (fun q0 : World => q0.cell? ⟨X, 2, none⟩ = some (.slice (some ⟨fs.b, fs.o, none⟩) fs.len fs.cap) ∧ q0.cell? ⟨w.heap.size + 1, 1, none⟩ = some (.int .i64 (q : Int)) ∧ q0.rangeAt fs.b (fs.o + q * 18) (fs.f q).vs)) (by kernel_rfl) hS (fun _ => ?_)
      refine wpAnyH_take (i := 0) (v := .pointer (some ⟨X, 0, none⟩)) rfl (by kernel_rfl) (by kernel_rfl) (by kernel_rfl) (fun _ _ _ h => h) (Or.inl ⟨by kernel_rfl, ?_⟩) hS ?_
      · intro u hSu
        obtain ⟨r0, r1, _⟩ := hSu
        go_simp
      refine wpAnyH_take (i := 1) (v := .pointer (some ⟨X, 0, none⟩)) rfl (by kernel_rfl) (by kernel_rfl) (by kernel_rfl) (fun _ _ _ h => h) (Or.inl ⟨by kernel_rfl, ?_⟩) hS ?_
      · intro u hSu
        obtain ⟨r0, r1, _⟩ := hSu
        go_simp
      refine wpAnyH_take (i := 2) (v := .pointer (some ⟨X, 2, none⟩)) rfl (by kernel_rfl) (by kernel_rfl) (by kernel_rfl) (fun _ _ _ h => h) (Or.inl ⟨by kernel_rfl, ?_⟩) hS ?_
      · intro u hSu
        obtain ⟨r0, r1, _⟩ := hSu
        go_simp
      refine wpAnyH_take (i := 3) (v := .slice (some ⟨fs.b, fs.o, none⟩) fs.len fs.cap) rfl (by kernel_rfl) (by kernel_rfl) (by kernel_rfl) (fun _ _ _ h => h) (Or.inl ⟨by kernel_rfl, ?_⟩) hS ?_
      · intro u hSu
        obtain ⟨r0, r1, _⟩ := hSu
        go_simp
      refine wpAnyH_take (i := 4) (v := .pointer (some ⟨w.heap.size + 1, 1, none⟩)) rfl (by kernel_rfl) (by kernel_rfl) (by kernel_rfl) (fun _ _ _ h => h) (Or.inl ⟨by kernel_rfl, ?_⟩) hS ?_
      · intro u hSu
        obtain ⟨r0, r1, _⟩ := hSu
        go_simp
      refine wpAnyH_take (i := 5) (v := .int .i64 (q : Int)) rfl (by kernel_rfl) (by kernel_rfl) (by kernel_rfl) (fun _ _ _ h => h) (Or.inl ⟨by kernel_rfl, ?_⟩) hS ?_
      · intro u hSu
        obtain ⟨r0, r1, _⟩ := hSu
        go_simp
      refine wpAnyH_take (i := 6) (v := .pointer (some ⟨fs.b, fs.o + q * 18, none⟩)) rfl (by kernel_rfl) (by kernel_rfl) (by kernel_rfl) (fun _ _ _ h => h) (Or.inl ⟨by kernel_rfl, ?_⟩) hS ?_
      · intro u hSu
        obtain ⟨r0, r1, _⟩ := hSu
        go_simp
      refine wpAnyH_take (i := 7) (v := .agg (fs.f q).vs.toArray) rfl (by kernel_rfl) (by kernel_rfl) (by kernel_rfl) (fun _ _ _ h => h) (yieldsIf_load_mid (by kernel_rfl) 45 _ rfl fs.b (fs.o + q * 18) rfl (fs.f q).vs _ (fun _ h => h.2.2) Tryz.underlying45 rfl (by kernel_rfl)) hS ?_
      try simp only [Act.put]
      refine wpAnyH_ready (rs := [8]) (by kernel_rfl) (by simp) ?_
      refine AllReadyH.cons rfl (fun K hK => ?_) AllReadyH.nil
      go_simp
      have D3 : Below w1.heap.size w1 (w1.alloc (.cells #[.int .i64 0, .int .i64 0, .slice none 0 0, .int .i64 0, .int .i64 0, .int .i64 0, .int .i64 0, .slice none 0 0, .int .i64 0, .int .i64 0, .slice none 0 0, .int .i64 0, .int .i64 0, .int .i64 0, .slice none 0 0, .slice none 0 0, .slice none 0 0, .slice none 0 0] 45)).drew := ((Below.refl _ _).alloc (Nat.le_refl _) _).drew
      refine hK.out _ _ (key _ D3) (fun hS2 => ?_)
      clear hK K
      try simp only [Act.put]
      refine wpAnyH_ready (rs := [9]) (by kernel_rfl) (by simp) ?_
      refine AllReadyH.cons rfl (fun K hK => ?_) AllReadyH.nil
      rw [if_pos (by rfl)]
      have D4 : Below w1.heap.size w1 ((w1.alloc (.cells #[.int .i64 0, .int .i64 0, .slice none 0 0, .int .i64 0, .int .i64 0, .int .i64 0, .int .i64 0, .slice none 0 0, .int .i64 0, .int .i64 0, .slice none 0 0, .int .i64 0, .int .i64 0, .int .i64 0, .slice none 0 0, .slice none 0 0, .slice none 0 0, .slice none 0 0] 45)).drew.setCells w1.heap.size 0 (fs.f q).vs) := Below.setCells (Nat.le_refl _) _ _ _ D3
      have N4 : Bf ((w1.alloc (.cells #[.int .i64 0, .int .i64 0, .slice none 0 0, .int .i64 0, .int .i64 0, .int .i64 0, .int .i64 0, .slice none 0 0, .int .i64 0, .int .i64 0, .slice none 0 0, .int .i64 0, .int .i64 0, .int .i64 0, .slice none 0 0, .slice none 0 0, .slice none 0 0, .slice none 0 0] 45)).drew.setCells w1.heap.size 0 (fs.f q).vs) w1.heap.size (fs.f q) := Bf.of_range (World.rangeAt_setCells_same _ _ _ _ (there_new _ _ _ _ rfl))
      refine wp_store_mid 45 _ _ rfl w1.heap.size 0 (fs.f q).vs.toArray rfl rfl (there_new _ _ _ _ rfl) (by kernel_rfl) (vs_one _) ?_
      refine hK.out _ _ (key _ D4) (fun hS3 => ?_)
      clear hK K
      try simp only [Act.put]
      refine wpAnyH_done (by kernel_rfl) ?_ _
      go_wp2
      go_meet
      case rel => exact ⟨w1.heap.size, rfl, K1.step D4, N4⟩
    case rest =>
      obtain ⟨FB, hp, K3, F3⟩ := hcut
      subst hp
      clear K1 a2
      rename World => w3
      go_upto_region 4 with fail
      go_cut [47] (fun c wx => c = .bool (!((len == (fs.f q).c.len) && belB n g (typeT n g (fs.f q)) t)) ∧ FBox w wx X n g fs cs t (.mk k (q : Int) ao b o len cap ps) ∧ Bf wx FB (fs.f q))
      case first =>
        cases hl : (len == (fs.f q).c.len)
        · have dl : ((len : Int) != (fs.f q).c.len) = true := by
            have : len ≠ (fs.f q).c.len := by simpa using hl
            simp; omega
          have HL : Hid (((len == (fs.f q).c.len) && belB n g (typeT n g (fs.f q)) t) = false) := by show ((len == (fs.f q).c.len) && belB n g (typeT n g (fs.f q)) t) = false; rw [hl]; rfl
          have v2 := fun z => Gr.cell z K3.y.c2
          have f10 := fun z => Gr.cell z F3.c10
          simp only [Vl.ao, Vl.len, Vl.cap] at v2
          have hNE : Nonempty (Gr w3) := ⟨⟨_, Below.refl _ _⟩⟩
          clear hl
          refine wp_region_gr (by kernel_rfl) (by kernel_rfl) ?_
          repeat (first | go_big_quiet_step (fail))
          refine wpQuiet_nil ?_
          rintro w4 ⟨q4, rfl⟩
          have B4 := q4.bl
          generalize q4.w = w4 at B4 ⊢
          clear q4 v2 f10 hNE
          go_wp2
          go_meet
          case rel => exact ⟨by rw [HL.out]; rfl, K3.step B4, F3.kept B4⟩
        · have dl : ((len : Int) != (fs.f q).c.len) = false := by
            have : len = (fs.f q).c.len := by simpa using hl
            simp; omega
          have HL : Hid (((len == (fs.f q).c.len) && belB n g (typeT n g (fs.f q)) t) = belB n g (typeT n g (fs.f q)) t) := by show ((len == (fs.f q).c.len) && belB n g (typeT n g (fs.f q)) t) = _; rw [hl]; rfl
          clear hl
          have D1 : Below w3.heap.size w3 w3.drew := (Below.refl _ _).drew
          have key := fun u (hu : Below w3.heap.size w3 u) => (⟨(K3.step hu).env.c0, (K3.step hu).env.c1, (K3.step hu).y.c2, (F3.kept hu).c10, (F3.kept hu).range, (K3.step hu).x.c0, (K3.step hu).x.c1, (K3.step hu).x.c2, (K3.step hu).x.c3, (K3.step hu).x.c4⟩ : (fun q0 : World => q0.cell? ⟨X, 0, none⟩ = some (.slice n.ao n.len n.cap) ∧ q0.cell? ⟨X, 1, none⟩ = some (.slice g.ao g.len g.cap) ∧ q0.cell? ⟨w.heap.size + 1, 2, none⟩ = some (.slice ao len cap) ∧ q0.cell? ⟨FB, 10, none⟩ = some (.slice (fs.f q).c.ao (fs.f q).c.len (fs.f q).c.cap) ∧ q0.rangeAt FB 0 (fs.f q).vs ∧ q0.cell? ⟨w.heap.size, 0, none⟩ = some (.int .i64 t.k) ∧ q0.cell? ⟨w.heap.size, 1, none⟩ = some (.int .i64 t.l) ∧ q0.cell? ⟨w.heap.size, 2, none⟩ = some (.slice t.ao t.len t.cap) ∧ q0.cell? ⟨w.heap.size, 3, none⟩ = some (.int .i64 t.h) ∧ q0.cell? ⟨w.heap.size, 4, none⟩ = some (.int .i64 t.e)) u)
          have hS := key _ D1
          have H1 : ∀ u, Below w3.heap.size w3 u → Calls Tryz.prog 7 #[.agg #[.slice n.ao n.len n.cap, .slice g.ao g.len g.cap], .agg (fs.f q).vs.toArray] u fun e w' => TP u (typeT n g (fs.f q)) e w' := fun u hu => TypeOf_any n g (fs.f q) u (K3.step hu).env.hn (K3.step hu).env.hg ((K3.step hu).env.hf.part q hm)
          have H2 : ∀ (y : Ty) u, Below w3.heap.size w3 u → y.At u → y.same (typeT n g (fs.f q)) = true → Calls Tryz.prog 68 #[.agg #[.slice n.ao n.len n.cap, .slice g.ao g.len g.cap], .agg #[.int .i64 y.k, .int .i64 y.l, .slice y.ao y.len y.cap, .int .i64 y.h, .int .i64 y.e], .agg #[.int .i64 t.k, .int .i64 t.l, .slice t.ao t.len t.cap, .int .i64 t.h, .int .i64 t.e]] u fun e w' => e = .returned (.bool (belB n g (typeT n g (fs.f q)) t)) ∧ Below u.heap.size u w' := fun y u hu yA yS => by
            have := Below_any2 n g y t u (K3.step hu).env.hn (K3.step hu).env.hg yA (K3.step hu).ht
            rwa [bel_same yA.nd (type_nd ((K3.step hu).env.hf.part q hm)) yS] at this
          have HK3 : Hid (FBox w w3 X n g fs cs t (.mk k (q : Int) ao b o len cap ps) ∧ Bf w3 FB (fs.f q)) := ⟨K3, F3⟩
          clear K3 F3
          refine wp_region_held_drew (S := (fun q0 : World => q0.cell? ⟨X, 0, none⟩ = some (.slice n.ao n.len n.cap) ∧ q0.cell? ⟨X, 1, none⟩ = some (.slice g.ao g.len g.cap) ∧ q0.cell? ⟨w.heap.size + 1, 2, none⟩ = some (.slice ao len cap) ∧ q0.cell? ⟨FB, 10, none⟩ = some (.slice (fs.f q).c.ao (fs.f q).c.len (fs.f q).c.cap) ∧ q0.rangeAt FB 0 (fs.f q).vs ∧ q0.cell? ⟨w.heap.size, 0, none⟩ = some (.int .i64 t.k) ∧ q0.cell? ⟨w.heap.size, 1, none⟩ = some (.int .i64 t.l) ∧ q0.cell? ⟨w.heap.size, 2, none⟩ = some (.slice t.ao t.len t.cap) ∧ q0.cell? ⟨w.heap.size, 3, none⟩ = some (.int .i64 t.h) ∧ q0.cell? ⟨w.heap.size, 4, none⟩ = some (.int .i64 t.e))) (by kernel_rfl) hS (fun _ => ?_)
          refine wpAnyH_take (i := 0) (v := .pointer (some ⟨w.heap.size + 1, 2, none⟩)) rfl (by kernel_rfl) (by kernel_rfl) (by kernel_rfl) (fun _ _ _ h => h) (Or.inl ⟨by kernel_rfl, ?_⟩) hS ?_
          · intro u hSu
            obtain ⟨r0, r1, r2, r3, _, r4, r5, r6, r7, r8⟩ := hSu
            go_simp
          try simp only [Act.put]
          refine wpAnyH_take (i := 1) (v := .slice ao len cap) rfl (by kernel_rfl) (by kernel_rfl) (by kernel_rfl) (fun _ _ _ h => h) (Or.inl ⟨by kernel_rfl, ?_⟩) hS ?_
          · intro u hSu
            obtain ⟨r0, r1, r2, r3, _, r4, r5, r6, r7, r8⟩ := hSu
            go_simp
          try simp only [Act.put]
          refine wpAnyH_take (i := 2) (v := .int .i64 len) rfl (by kernel_rfl) (by kernel_rfl) (by kernel_rfl) (fun _ _ _ h => h) (Or.inl ⟨by kernel_rfl, ?_⟩) hS ?_
          · intro u hSu
            obtain ⟨r0, r1, r2, r3, _, r4, r5, r6, r7, r8⟩ := hSu
            go_simp
          try simp only [Act.put]
          refine wpAnyH_take (i := 3) (v := .pointer (some ⟨FB, 10, none⟩)) rfl (by kernel_rfl) (by kernel_rfl) (by kernel_rfl) (fun _ _ _ h => h) (Or.inl ⟨by kernel_rfl, ?_⟩) hS ?_
          · intro u hSu
            obtain ⟨r0, r1, r2, r3, _, r4, r5, r6, r7, r8⟩ := hSu
            go_simp
          try simp only [Act.put]
          refine wpAnyH_take (i := 4) (v := .slice (fs.f q).c.ao (fs.f q).c.len (fs.f q).c.cap) rfl (by kernel_rfl) (by kernel_rfl) (by kernel_rfl) (fun _ _ _ h => h) (Or.inl ⟨by kernel_rfl, ?_⟩) hS ?_
          · intro u hSu
            obtain ⟨r0, r1, r2, r3, _, r4, r5, r6, r7, r8⟩ := hSu
            go_simp
          try simp only [Act.put]
          refine wpAnyH_take (i := 5) (v := .int .i64 (fs.f q).c.len) rfl (by kernel_rfl) (by kernel_rfl) (by kernel_rfl) (fun _ _ _ h => h) (Or.inl ⟨by kernel_rfl, ?_⟩) hS ?_
          · intro u hSu
            obtain ⟨r0, r1, r2, r3, _, r4, r5, r6, r7, r8⟩ := hSu
            go_simp
          try simp only [Act.put]
          refine wpAnyH_take (i := 6) (v := .bool false) rfl (by kernel_rfl) (by kernel_rfl) (by kernel_rfl) (fun _ _ _ h => h) (Or.inl ⟨by kernel_rfl, ?_⟩) hS ?_
          · intro u hSu
            obtain ⟨r0, r1, r2, r3, _, r4, r5, r6, r7, r8⟩ := hSu
            go_simp
          try simp only [Act.put]
          refine wpAnyH_take (i := 7) (v := .bool false) rfl (by kernel_rfl) (by kernel_rfl) (by kernel_rfl) (fun _ _ _ h => h) (Or.inl ⟨by kernel_rfl, ?_⟩) hS ?_
          · intro u hSu
            obtain ⟨r0, r1, r2, r3, _, r4, r5, r6, r7, r8⟩ := hSu
            go_simp
          try simp only [Act.put]
          refine wpAnyH_take (i := 8) (v := .pointer (some ⟨X, 0, none⟩)) rfl (by kernel_rfl) (by kernel_rfl) (by kernel_rfl) (fun _ _ _ h => h) (Or.inl ⟨by kernel_rfl, ?_⟩) hS ?_
          · intro u hSu
            obtain ⟨r0, r1, r2, r3, _, r4, r5, r6, r7, r8⟩ := hSu
            go_simp
          try simp only [Act.put]
          refine wpAnyH_take (i := 9) (v := .pointer (some ⟨X, 0, none⟩)) rfl (by kernel_rfl) (by kernel_rfl) (by kernel_rfl) (fun _ _ _ h => h) (Or.inl ⟨by kernel_rfl, ?_⟩) hS ?_
          · intro u hSu
            obtain ⟨r0, r1, r2, r3, _, r4, r5, r6, r7, r8⟩ := hSu
            go_simp
          try simp only [Act.put]
          refine wpAnyH_take (i := 10) (v := .pointer (some ⟨X, 0, none⟩)) rfl (by kernel_rfl) (by kernel_rfl) (by kernel_rfl) (fun _ _ _ h => h) (Or.inl ⟨by kernel_rfl, ?_⟩) hS ?_
          · intro u hSu
            obtain ⟨r0, r1, r2, r3, _, r4, r5, r6, r7, r8⟩ := hSu
            go_simp
          try simp only [Act.put]
          refine wpAnyH_take (i := 11) (v := .agg #[.slice n.ao n.len n.cap, .slice g.ao g.len g.cap]) rfl (by kernel_rfl) (by kernel_rfl) (by kernel_rfl) (fun _ _ _ h => h) (Or.inl ⟨by kernel_rfl, ?_⟩) hS ?_
          · intro u hSu
            obtain ⟨r0, r1, r2, r3, _, r4, r5, r6, r7, r8⟩ := hSu
            go_simp
          try simp only [Act.put]
          refine wpAnyH_take (i := 12) (v := .pointer (some ⟨X, 0, none⟩)) rfl (by kernel_rfl) (by kernel_rfl) (by kernel_rfl) (fun _ _ _ h => h) (Or.inl ⟨by kernel_rfl, ?_⟩) hS ?_
          · intro u hSu
            obtain ⟨r0, r1, r2, r3, _, r4, r5, r6, r7, r8⟩ := hSu
            go_simp
          try simp only [Act.put]
          refine wpAnyH_take (i := 13) (v := .pointer (some ⟨X, 0, none⟩)) rfl (by kernel_rfl) (by kernel_rfl) (by kernel_rfl) (fun _ _ _ h => h) (Or.inl ⟨by kernel_rfl, ?_⟩) hS ?_
          · intro u hSu
            obtain ⟨r0, r1, r2, r3, _, r4, r5, r6, r7, r8⟩ := hSu
            go_simp
          try simp only [Act.put]
          refine wpAnyH_take (i := 14) (v := .pointer (some ⟨X, 0, none⟩)) rfl (by kernel_rfl) (by kernel_rfl) (by kernel_rfl) (fun _ _ _ h => h) (Or.inl ⟨by kernel_rfl, ?_⟩) hS ?_
          · intro u hSu
            obtain ⟨r0, r1, r2, r3, _, r4, r5, r6, r7, r8⟩ := hSu
            go_simp
          try simp only [Act.put]
          refine wpAnyH_take (i := 15) (v := .agg #[.slice n.ao n.len n.cap, .slice g.ao g.len g.cap]) rfl (by kernel_rfl) (by kernel_rfl) (by kernel_rfl) (fun _ _ _ h => h) (Or.inl ⟨by kernel_rfl, ?_⟩) hS ?_
          · intro u hSu
            obtain ⟨r0, r1, r2, r3, _, r4, r5, r6, r7, r8⟩ := hSu
            go_simp
          try simp only [Act.put]
          refine wpAnyH_take (i := 16) (v := .agg (fs.f q).vs.toArray) rfl (by kernel_rfl) (by kernel_rfl) (by kernel_rfl) (fun _ _ _ h => h) (yieldsIf_load_mid (by kernel_rfl) 45 (.tmp 7) rfl FB 0 (by kernel_rfl) (fs.f q).vs _ (fun _ h => h.2.2.2.2.1) Tryz.underlying45 rfl (by kernel_rfl)) hS ?_
          refine wpAnyH_take (i := 18) (v := .agg #[.int .i64 t.k, .int .i64 t.l, .slice t.ao t.len t.cap, .int .i64 t.h, .int .i64 t.e]) rfl (by kernel_rfl) (by kernel_rfl) (by kernel_rfl) (fun _ _ _ h => h) (Or.inl ⟨by kernel_rfl, ?_⟩) hS ?_
          · intro u hSu
            obtain ⟨r0, r1, r2, r3, _, r4, r5, r6, r7, r8⟩ := hSu
            go_simp
          try simp only [Act.put]
          try simp only [Act.put]
          refine wpAnyH_ready (rs := [17]) (by kernel_rfl) (by simp) ?_
          refine AllReadyH.cons rfl (fun K hK => ?_) AllReadyH.nil
          go_simp
          refine (H1 _ D1).mono ?_
          intro e w5 hTP
          obtain ⟨y, rfl, yA, yS, hb5⟩ := hTP
          have C5 := Below.next D1 hb5
          have HY : Hid (y.same (typeT n g (fs.f q)) = true) := yS
          clear yS
          go_wp2_with fail
          refine hK.out _ _ (key _ C5) (fun hS5 => ?_)
          clear hK K
          try simp only [Act.put]
          refine wpAnyH_ready (rs := [19]) (by kernel_rfl) (by simp) ?_
          refine AllReadyH.cons rfl (fun K hK => ?_) AllReadyH.nil
          go_simp
          refine (H2 y _ C5 yA HY.out).mono ?_
          rintro e w6 ⟨rfl, hb6⟩
          have C6 := Below.next C5 hb6
          go_wp2_with fail
          refine hK.out _ _ (key _ C6) (fun hS6 => ?_)
          clear hK K
          try simp only [Act.put]
          refine wpAnyH_ready (rs := [20]) (by kernel_rfl) (by simp) ?_
          refine AllReadyH.cons rfl (fun K hK => ?_) AllReadyH.nil
          go_simp
          refine hK.out _ _ (key _ C6) (fun hS20 => ?_)
          clear hK K
          try simp only [Act.put]
          refine wpAnyH_ready (rs := [21]) (by kernel_rfl) (by simp) ?_
          refine AllReadyH.cons rfl (fun K hK => ?_) AllReadyH.nil
          go_simp
          refine hK.out _ _ (key _ C6) (fun hS21 => ?_)
          clear hK K
          try simp only [Act.put]
          refine wpAnyH_done (by kernel_rfl) ?_ _
          go_wp2
          go_meet
          case rel => exact ⟨by rw [HL.out], HK3.out.1.step C6, HK3.out.2.kept C6⟩
      case rest =>
        obtain ⟨hc, K5, F5⟩ := hcut
        clear K3 F3
        cases hN : ((len == (fs.f q).c.len) && belB n g (typeT n g (fs.f q)) t)
        · rw [hN] at hc
          subst hc
          have HR : Hid (RV = false) := by
            show RV = false
            rw [← HV.out]
            unfold funB
            rw [HQ.out, hN, Bool.and_false]
            rfl
          clear hN
          go_wp2
          go_ret
          exact ⟨ret_bool HR.out.symm, K5.bl⟩
        · rw [hN] at hc
          subst hc
          have HR : Hid (RV = decide (∀ i, i < len → (okB n g ((fs.f q).c.ps i) && Vl.fit n g fs cs (ps i) ((fs.f q).c.ps i)) = true)) := by
            show RV = _
            rw [← HV.out]
            unfold funB
            rw [HQ.out, hN, decide_eq_true (show (q : Int) < fs.len by omega)]
            rfl
          have HLE : Hid (len = (fs.f q).c.len) := by
            rw [Bool.and_eq_true] at hN
            show len = (fs.f q).c.len
            simpa using hN.1
          clear hN
          have K5y : _ = some (Value.slice ao len cap) := K5.y.c2
          go_wp2
          go_loopw [51] (fun i wr => ∃ j : Nat, j ≤ len ∧ i = .int .i64 j ∧ Hid ((∀ i, i < j → (okB n g ((fs.f q).c.ps i) && Vl.fit n g fs cs (ps i) ((fs.f q).c.ps i)) = true) ∧ FBox w wr X n g fs cs t (.mk k (q : Int) ao b o len cap ps) ∧ Bf wr FB (fs.f q))) (fun i _ => len - (intOf i).toNat)
          case atStart => exact ⟨0, Nat.zero_le _, rfl, fun _ h => absurd h (Nat.not_lt_zero _), K5, F5⟩
          case round =>
            obtain ⟨j, hj, rfl, HW⟩ := hrel
            by_cases hlt : j < len
            · have ij : (j : Int) < len := by omega
              have j0 : (0 : Int) ≤ j := by omega
              have a1 := n1 (by omega)
              subst a1
              have C : C3 wr b (o + j * 3) (ps j) := HW.out.2.1.hv.cells hlt
              have y0 := C.c0
              have y1 := C.c1
              have y2 := C.c2
              have BN := below_alloc wr (vlO (ps j))
              have HK7 : Hid (FBox w (wr.alloc (vlO (ps j))) X n g fs cs t (.mk k (q : Int) (some ⟨b, o, none⟩) b o len cap ps) ∧ Bf (wr.alloc (vlO (ps j))) FB (fs.f q) ∧ Bv (wr.alloc (vlO (ps j))) wr.heap.size (ps j) ∧ (ps j).At (wr.alloc (vlO (ps j)))) := ⟨HW.out.2.1.step BN, HW.out.2.2.kept BN, Bv.new wr (ps j), (HW.out.2.1.hv.part hlt).kept BN⟩
              clear C BN
              unfold vlO at HK7
              go_upto_region 9 with fail
              clear y0 y1 y2
              generalize hwv : wr.alloc (.cells #[.int .i64 (ps j).k, .int .i64 (ps j).m, .slice (ps j).ao (ps j).len (ps j).cap] 35) = wv at HK7 ⊢
              clear hwv
              have hjc : j < (fs.f q).c.len := by rw [← HLE.out]; exact hlt
              have HF : Hid ((fs.f q).At wv) := HK7.out.1.env.hf.part q hm
              have CC : C5 wv (fs.f q).c.b ((fs.f q).c.o + j * 5) ((fs.f q).c.ps j) := HF.out.c.cells hjc
              have HTA : Hid (((fs.f q).c.ps j).At wv) := HF.out.c.part hjc
              have ac := HF.out.c.nil (by omega)
              have c10 : wv.cell? ⟨FB, 10, none⟩ = some (.slice (some ⟨(fs.f q).c.b, (fs.f q).c.o, none⟩) len (fs.f q).c.cap) := by
                rw [HK7.out.2.1.c10, ac, ← HLE.out]
              have g10 := fun x => Gr.cell x c10
              have l0 := fun x => Gr.cell x HK7.out.1.env.c0
              have l1 := fun x => Gr.cell x HK7.out.1.env.c1
              have z0 := fun x => Gr.cell x CC.c0
              have z1 := fun x => Gr.cell x CC.c1
              have z2 := fun x => Gr.cell x CC.c2
              have z3 := fun x => Gr.cell x CC.c3
              have z4 := fun x => Gr.cell x CC.c4
              have v0 := fun x => Gr.cell x HK7.out.2.2.1.c0
              have v1 := fun x => Gr.cell x HK7.out.2.2.1.c1
              have v2 := fun x => Gr.cell x HK7.out.2.2.1.c2
              have hNE : Nonempty (Gr wv) := ⟨⟨_, Below.refl _ _⟩⟩
              have H1 := fun u (hu : Below wv.heap.size wv u) => Formed2_any n g ((fs.f q).c.ps j) u (HK7.out.1.env.hn.kept hu) (HK7.out.1.env.hg.kept hu) (HTA.out.kept hu)
              clear CC ac c10
              cases hk : okB n g ((fs.f q).c.ps j)
              · rw [hk] at H1
                have HE : Hid (RV = false) := by
                  show RV = false
                  rw [HR.out]
                  exact decide_eq_false (fun hh => by have := hh j hlt; rw [hk] at this; cases this)
                clear hk
                refine wp_region_gr (by kernel_rfl) (by kernel_rfl) ?_
                repeat (first | go_big_quiet_step ((go_at_call 23; exact Calls.gr _ (H1 _ (Gr.bl _)))))
                refine wpQuiet_nil ?_
                rintro w8 ⟨q8, rfl⟩
                have B8 := q8.bl
                generalize q8.w = w8 at B8 ⊢
                clear q8 hNE g10 l0 l1 z0 z1 z2 z3 z4 v0 v1 v2 H1
                go_wp2
                go_ret
                exact ⟨ret_bool HE.out.symm, (HK7.out.1.step B8).bl⟩
              · rw [hk] at H1
                have hfd : ∃ d, ((fs.f q).c.ps j).fm n.len d = true := by
                  have h2 : ((fs.f q).c.ps j).ok n.len = true := by
                    unfold okB at hk
                    rw [Bool.and_eq_true] at hk
                    exact hk.2
                  exact ⟨1, (ok_parts h2).1⟩
                have H2 := fun u (hu : Below wv.heap.size wv u) => (HP.out.1 j hlt) ((fs.f q).c.ps j) u X (HK7.out.1.env.kept hu) hfd (HP.out.2 j hlt) (HTA.out.kept hu) (HK7.out.2.2.2.kept hu)
                cases hv2 : Vl.fit n g fs cs (ps j) ((fs.f q).c.ps j)
                · rw [hv2] at H2
                  have HE : Hid (RV = false) := by
                    show RV = false
                    rw [HR.out]
                    exact decide_eq_false (fun hh => by have := hh j hlt; rw [hk, hv2] at this; cases this)
                  clear hk hv2 hfd
                  refine wp_region_gr (by kernel_rfl) (by kernel_rfl) ?_
                  repeat (first | go_big_quiet_step ((first | (go_at_call 23; exact Calls.gr _ (H1 _ (Gr.bl _))) | (go_at_call 25; exact Calls.gr _ (H2 _ (Gr.bl _))))))
                  refine wpQuiet_nil ?_
                  rintro w8 ⟨q8, rfl⟩
                  have B8 := q8.bl
                  generalize q8.w = w8 at B8 ⊢
                  clear q8 hNE g10 l0 l1 z0 z1 z2 z3 z4 v0 v1 v2 H1 H2
                  go_wp2
                  go_ret
                  exact ⟨ret_bool HE.out.symm, (HK7.out.1.step B8).bl⟩
                · rw [hv2] at H2
                  have HE : Hid ((okB n g ((fs.f q).c.ps j) && Vl.fit n g fs cs (ps j) ((fs.f q).c.ps j)) = true) := by show _ = true; rw [hk, hv2]; rfl
                  clear hk hv2 hfd
                  refine wp_region_gr (by kernel_rfl) (by kernel_rfl) ?_
                  repeat (first | go_big_quiet_step ((first | (go_at_call 23; exact Calls.gr _ (H1 _ (Gr.bl _))) | (go_at_call 25; exact Calls.gr _ (H2 _ (Gr.bl _))))))
                  refine wpQuiet_nil ?_
                  rintro w8 ⟨q8, rfl⟩
                  have B8 := q8.bl
                  generalize q8.w = w8 at B8 ⊢
                  clear q8 hNE g10 l0 l1 z0 z1 z2 z3 z4 v0 v1 v2 H1 H2
                  have HK8 : Hid (FBox w w8 X n g fs cs t (.mk k (q : Int) (some ⟨b, o, none⟩) b o len cap ps) ∧ Bf w8 FB (fs.f q)) := ⟨HK7.out.1.step B8, HK7.out.2.1.kept B8⟩
                  clear B8 HTA HF HK7
                  go_wp2
                  go_roundw
                  case rel => exact ⟨j + 1, by omega, by go_num, fun i hi => (by
                      by_cases e : i = j
                      · subst e; exact HE.out
                      · exact HW.out.1 i (by omega)), HK8.out.1, HK8.out.2⟩
                  case measure => simp [intOf]; omega
            · have e : len = j := by omega
              subst e
              have dl : ¬ (len : Int) < len := by omega
              have HE : Hid (RV = true) := by show RV = true; rw [HR.out]; exact decide_eq_true HW.out.1
              go_wp2
              go_ret
              exact ⟨ret_bool HE.out.symm, HW.out.2.1.bl⟩

  · have dm : decide ((q : Int) ≥ fs.len) = true := decide_eq_true (by omega)
    have HR : Hid (RV = false) := by
      show RV = false
      rw [← HV.out]
      unfold funB
      rw [decide_eq_false (show ¬ (q : Int) < fs.len by omega)]
      rfl
    refine wp_region_gr (by kernel_rfl) (by kernel_rfl) ?_
    repeat (first | go_big_quiet_step (fail))
    refine wpQuiet_nil ?_
    rintro w1 ⟨q1, rfl⟩
    have B1 := q1.bl
    generalize q1.w = w1 at B1 ⊢
    clear q1 y1 s2 hNE
    go_wp2
    go_ret
    exact ⟨ret_bool HR.out.symm, (K0.step B1).bl⟩
end Go.Proofs.YtnkipiegjpjfbaaGreatDoor
