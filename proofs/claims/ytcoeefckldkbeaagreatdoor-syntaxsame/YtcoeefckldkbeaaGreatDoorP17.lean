/- Layer 6: the number of a sign. -/
import Derived.Test.YtcoeefckldkbeaaGreatDoorP16
import Derived.Deep.AppendLies
namespace Go.Proofs.YtcoeefckldkbeaaGreatDoor
open Go Go.RowKit

/-- The signs, as the program's text lays them. -/
structure Sg (w : World) : Prop where
  s0 : w.cell? ⟨4, 0, none⟩ = some (.string ⟨#[43]⟩)
  s1 : w.cell? ⟨4, 1, none⟩ = some (.string ⟨#[45]⟩)
  s2 : w.cell? ⟨4, 2, none⟩ = some (.string ⟨#[42]⟩)
  s3 : w.cell? ⟨4, 3, none⟩ = some (.string ⟨#[47]⟩)
  s4 : w.cell? ⟨4, 4, none⟩ = some (.string ⟨#[37]⟩)
  s5 : w.cell? ⟨4, 5, none⟩ = some (.string ⟨#[60]⟩)
  s6 : w.cell? ⟨4, 6, none⟩ = some (.string ⟨#[61, 61]⟩)
theorem Sg.kept {w w' : World} (h : Sg w) (hb : Below w.heap.size w w') : Sg w' := ⟨up hb h.s0, up hb h.s1, up hb h.s2, up hb h.s3, up hb h.s4, up hb h.s5, up hb h.s6⟩
theorem sg0 : ((⟨#[43]⟩ : ByteArray).toList == (⟨#[43]⟩ : ByteArray).toList) = true := by decide +kernel
theorem sgq1 : ((⟨#[45]⟩ : ByteArray).toList == (⟨#[43]⟩ : ByteArray).toList) = false := by decide +kernel
theorem sgq2 : ((⟨#[42]⟩ : ByteArray).toList == (⟨#[43]⟩ : ByteArray).toList) = false := by decide +kernel
theorem sg3 : ((⟨#[47]⟩ : ByteArray).toList == (⟨#[43]⟩ : ByteArray).toList) = false := by decide +kernel
theorem sg4 : ((⟨#[37]⟩ : ByteArray).toList == (⟨#[43]⟩ : ByteArray).toList) = false := by decide +kernel
theorem sg5 : ((⟨#[60]⟩ : ByteArray).toList == (⟨#[43]⟩ : ByteArray).toList) = false := by decide +kernel
theorem sg6 : ((⟨#[61, 61]⟩ : ByteArray).toList == (⟨#[43]⟩ : ByteArray).toList) = false := by decide +kernel

theorem wpList_indexS {ops : Array Oper} {rest : List Oper} {o : Oper} {a : Act} {w : World} {Q : Exit → Act → World → Prop} (hgd : o.guard = none) (t : TypeId) (x y : Operand) (_ : o.op = .index t x y) (v : Value) (hr : (execOp a.eval o).run Tryz.prog w = .ok (.value v) w) (h : wpList Tryz.prog ops Q rest (a.put o.dst v) w) : wpList Tryz.prog ops Q (o :: rest) a w := by
  refine wpList_plain hgd fun _ hK => ?_
  unfold Oper.wp
  rw [hr]
  exact hK _ _ h
set_option maxRecDepth 100000 in
set_option maxHeartbeats 4000000 in
theorem opOf_add (w : World) (h : Sg w) : Calls Tryz.prog 118 #[.string ⟨#[43]⟩] w fun e w' => e = .returned (.int .i64 6) ∧ Below w.heap.size w w' := by
  obtain ⟨s0, s1, s2, s3, s4, s5, s6⟩ := h
  have e0 := sg0
  have e1 := sgq1
  have e2 := sgq2
  have e3 := sg3
  have e4 := sg4
  have e5 := sg5
  have e6 := sg6
  go_enter Tryz.func118, Tryz.ntmps118
  go_wp2
  clear s0 s1 s2 s3 s4 s5 s6
  go_loopw [3, 7] (fun op i wr => ∃ (j : Nat), j ≤ 7 ∧ i = .int .i64 j ∧ op = .int .i64 6 ∧ w = wr) (fun _ i _ => 7 - (intOf i).toNat)
  case atStart => exact ⟨0, by omega, rfl, rfl, rfl⟩
  case round =>
    obtain ⟨j, hj, rfl, rfl, hw⟩ := hrel
    subst hw
    match j, hj with
    | 0, _ =>
      go_wp2_with (refine wpList_indexS rfl 183 (.tmp 6) (.tmp 7) rfl (.string ⟨#[43]⟩) (by kernel_rfl) ?_)
      go_roundw
      case rel => exact ⟨1, by omega, by go_num, by go_num, trivial⟩
      case measure => simp [intOf]
    | 1, _ =>
      go_wp2_with (refine wpList_indexS rfl 183 (.tmp 6) (.tmp 7) rfl (.string ⟨#[45]⟩) (by kernel_rfl) ?_)
      go_roundw
      case rel => exact ⟨2, by omega, by go_num, by go_num, trivial⟩
      case measure => simp [intOf]
    | 2, _ =>
      go_wp2_with (refine wpList_indexS rfl 183 (.tmp 6) (.tmp 7) rfl (.string ⟨#[42]⟩) (by kernel_rfl) ?_)
      go_roundw
      case rel => exact ⟨3, by omega, by go_num, by go_num, trivial⟩
      case measure => simp [intOf]
    | 3, _ =>
      go_wp2_with (refine wpList_indexS rfl 183 (.tmp 6) (.tmp 7) rfl (.string ⟨#[47]⟩) (by kernel_rfl) ?_)
      go_roundw
      case rel => exact ⟨4, by omega, by go_num, by go_num, trivial⟩
      case measure => simp [intOf]
    | 4, _ =>
      go_wp2_with (refine wpList_indexS rfl 183 (.tmp 6) (.tmp 7) rfl (.string ⟨#[37]⟩) (by kernel_rfl) ?_)
      go_roundw
      case rel => exact ⟨5, by omega, by go_num, by go_num, trivial⟩
      case measure => simp [intOf]
    | 5, _ =>
      go_wp2_with (refine wpList_indexS rfl 183 (.tmp 6) (.tmp 7) rfl (.string ⟨#[60]⟩) (by kernel_rfl) ?_)
      go_roundw
      case rel => exact ⟨6, by omega, by go_num, by go_num, trivial⟩
      case measure => simp [intOf]
    | 6, _ =>
      go_wp2_with (refine wpList_indexS rfl 183 (.tmp 6) (.tmp 7) rfl (.string ⟨#[61, 61]⟩) (by kernel_rfl) ?_)
      go_roundw
      case rel => exact ⟨7, by omega, by go_num, by go_num, trivial⟩
      case measure => simp [intOf]
    | 7, _ =>
      go_wp2
      go_ret
      exact ⟨rfl, Below.refl _ _⟩
end Go.Proofs.YtcoeefckldkbeaaGreatDoor

/- Layer 6: the reader's bin: a sum of two atoms. -/
namespace Go.Proofs.YtcoeefckldkbeaaGreatDoor
open Go Go.RowKit

theorem quiet_load_exS {C : World → Prop} {K : Act → Prop} {a : Act} {o : Oper} (x : Operand) (ho : o.op = .load 27 x) (b oo : Nat) (hx : a.eval x = .pointer (some ⟨b, oo, none⟩)) (e : Ex) (hc : ∀ w, C w → C17 w b oo e)
    (h : K (a.put o.dst (.agg e.va))) : o.quiet Tryz.prog a C K := by
  refine ⟨.agg e.va, fun w hC => ?_, h⟩
  unfold Oper.quietAt execOp
  simp only [ho, hx, Sem.run_bind, load_exV (hc w hC), Result.andThen_ok, Sem.run_pure]
  exact ⟨rfl, rfl⟩
theorem wp_alloc_ex {o : Oper} {a : Act} {w : World} {K : Act → World → Prop} {Q : Exit → Act → World → Prop} (ho : o.op = .alloc 27) (h : ∀ w', Blk w' w.heap.size zExE 27 → Below w.heap.size w w' → K (a.put o.dst (.pointer (some ⟨w.heap.size, 0, none⟩))) w') : o.wp Tryz.prog a w K Q := by
  unfold Oper.wp execOp
  simp only [ho, Sem.run_bind, alloc_ex, Result.andThen_ok, Sem.run_pure]
  exact h _ (Blk.new _ _ _) (below_alloc _ _)
def bnE (B : Nat) (f s : Ex) : Ex := .mk 18 6 0 ⟨#[]⟩ ⟨#[]⟩ zTS zTS (some ⟨B, 0, none⟩) B 0 2 2 (fun i => match i with | 0 => f | _ => s) f.pl
theorem Sg.gb {w w' : World} {p : Nat} (h : Sg w) (k : w.grownBy w' (some p)) (hne : 4 ≠ p) : Sg w' := by
  have e : ∀ (i : Nat) (v : Value), w.cell? ⟨4, i, none⟩ = some v → w'.cell? ⟨4, i, none⟩ = some v := fun i v hc => by
    rw [World.cell?_of_block (a := ⟨4, i, none⟩) (k.block _ (World.block_lt_of_cell? w _ hc) (fun e => hne (by simpa using e)))]
    exact hc
  exact ⟨e _ _ h.s0, e _ _ h.s1, e _ _ h.s2, e _ _ h.s3, e _ _ h.s4, e _ _ h.s5, e _ _ h.s6⟩
/-- Where bin stands. -/
structure Bn (w wr : World) (p : Nat) (ts : List Tq) (L : Int) (x y : Value) (f : Ex) : Prop where
  r : Rp wr p ts L x y
  gb : w.grownBy wr (some p)
  hp : p < w.heap.size
  b4 : Blk wr w.heap.size f.vs 27
  b6 : Blk wr (w.heap.size + 1) zExE 27
theorem Bn.kept {w wr w' : World} {p : Nat} {ts : List Tq} {L : Int} {x y : Value} {f : Ex} (h : Bn w wr p ts L x y f) (hb : Below wr.heap.size wr w') : Bn w w' p ts L x y f :=
  ⟨h.r.kept hb, gb_next h.gb hb, h.hp, h.b4.kept hb, h.b6.kept hb⟩
theorem Bn.move {w wr w' : World} {p : Nat} {ts us : List Tq} {L : Int} {x y : Value} {f : Ex} (h : Bn w wr p ts L x y f) (hr : Rp w' p us L x y) (hg : wr.grownBy w' (some p)) : Bn w w' p us L x y f :=
  ⟨hr, gb_trans h.gb hg, h.hp, h.b4.gb hg (by have := h.hp; omega), h.b6.gb hg (by have := h.hp; omega)⟩
theorem Bn.wrote {w wr w' : World} {p Z : Nat} {ts : List Tq} {L : Int} {x y : Value} {f : Ex} {c : List Value} {t : TypeId} (h : Bn w wr p ts L x y f) (k : WroteB wr w' Z c t) (hz : w.heap.size + 1 < Z) : Bn w w' p ts L x y f := by
  have bw : Below w.heap.size wr w' := k.below (by omega) (Below.refl _ _)
  exact ⟨h.r.below h.hp bw, gb_below h.gb bw, h.hp, k.keep h.b4 (by omega), k.keep h.b6 (by omega)⟩
set_option maxRecDepth 100000 in
set_option maxHeartbeats 8000000 in
theorem rBin_add (t u : Tq) (ts : List Tq) (L : Int) (x y : Value) (p : Nat) (w : World) (f s : Ex) (h : Rp w p (t :: u :: ts) L x y) (ht : t.s = ⟨#[43]⟩) (hsg : Sg w) (hne : 4 ≠ p) (ok : List Tq → Int → Prop) (hok : ok ts L) (hP : RdE 117 u s ok) :
    Calls Tryz.prog 105 #[.pointer (some ⟨p, 0, none⟩), .agg f.va, (.func (.func 117) #[.pointer (some ⟨p, 0, none⟩)] #[])] w fun r w' => ∃ B, r = .returned (.agg (bnE B f s).va) ∧ Blk w' B (f.vs ++ s.vs) 27 ∧ w.heap.size ≤ B ∧ Rp w' p ts L x y ∧ w.grownBy w' (some p) := by
  have H := allocs_heap [.cells f.va 27, .cells zExE.toArray 27] w
  have B0 := allocs_below [.cells f.va 27, .cells zExE.toArray 27] w
  simp only [List.foldl] at H B0
  have HI : Hid (Bn w _ p (t :: u :: ts) L x y f ∧ Sg _) := ⟨⟨h.kept B0, gb_of _ B0, h.lt, H 0 (by simp), H 1 (by simp)⟩, hsg.kept B0⟩
  clear H B0 h hsg
  unfold zExE at HI
  go_enter Tryz.func105, Tryz.ntmps105
  go_upto_region 1 with fail
  generalize (w.alloc (.cells f.va 27)).alloc (.cells [.int .i64 0, .int .i64 0, .int .i64 0, .string ⟨#[]⟩, .string ⟨#[]⟩, .int .i64 0, .int .i64 0, .slice none 0 0, .int .i64 0, .int .i64 0, .int .i64 0, .int .i64 0, .slice none 0 0, .int .i64 0, .int .i64 0, .slice none 0 0, .int .i64 0].toArray 27) = w1 at *
  have hT := rTake_any t (u :: ts) L x y p w1 HI.out.1.r
  unfold Tq.v at hT
  have hf1 := fld1 t.k t.n t.a t.s
  rw [ht] at hT hf1
  go_wp2_with fail
  refine hT.mono ?_
  rintro _ w2 ⟨rfl, hR, hg⟩
  have HI2 : Hid (Bn w w2 p (u :: ts) L x y f ∧ Sg w2) := ⟨HI.out.1.move hR hg, HI.out.2.gb hg hne⟩
  clear hT hR hg HI
  have hO := opOf_add w2 HI2.out.2
  go_wp2_with fail
  refine hO.mono ?_
  rintro _ w3 ⟨rfl, hb⟩
  have HI3 : Hid (Bn w w3 p (u :: ts) L x y f) := HI2.out.1.kept hb
  clear hO hb HI2 hf1
  go_upto_region 2 with fail
  have HI4 : Hid (Bn w w3.drew p (u :: ts) L x y f) := HI3.out.kept (Below.refl _ _).drew
  clear HI3
  refine wp_region_readsMN (fun q : World => Blk q w.heap.size f.vs 27) [0, 1] 4 (by kernel_rfl) rfl (by kernel_rfl) (fun j hj => ?_) HI4.out.b4 ?_
  · have hj2 : j < 2 := hj
    match j, hj2 with
    | 0, _ => exact ⟨_, rfl, rfl⟩
    | 1, _ => exact ⟨_, rfl, rfl⟩
  have hNE : Nonempty (Wd (fun q : World => Blk q w.heap.size f.vs 27)) := ⟨⟨w3.drew, HI4.out.b4⟩⟩
  have hC4 : ∀ q, (∃ z : Wd (fun q : World => Blk q w.heap.size f.vs 27), q = z.w) → C17 q w.heap.size 0 f := by
    rintro _ ⟨z, rfl⟩
    exact C17.of_range (Blk.range z.2)
  generalize w3.drew = w4 at *
  simp only [List.filterMap, List.getElem?_cons_zero, List.getElem?_cons_succ]
  go_big_quiet_want
  refine quiet_load_exS (.tmp 4) rfl _ _ (by kernel_rfl) f hC4 ?_
  simp only [Act.put, List.setIfInBounds_toArray, List.set_cons_succ, List.set_cons_zero]
  go_big_quiet_on
  go_big_quiet_step (fail)
  refine wpQuiet_nil ?_
  clear hNE hC4
  refine wpAnyH_ready (rs := [2, 4]) (by kernel_rfl) (by simp) ?_
  refine AllReadyH.cons rfl (fun K hK => ?_) (AllReadyH.cons rfl (fun K hK => ?_) AllReadyH.nil)
  · rw [if_pos (by rfl)]
    have hC := hP ts L x y p w4 HI4.out.r hok
    go_simp
    refine hC.mono ?_
    rintro _ v1 ⟨rfl, hR, hg⟩
    have HB1 : Hid (Bn w v1 p ts L x y f) := HI4.out.move hR hg
    refine hK.out _ _ HB1.out.b4 (fun _ => ?_)
    clear hK K hC hR hg HI4
    refine wpAnyH_ready (rs := [3, 4]) (by kernel_rfl) (by simp) ?_
    refine AllReadyH.cons rfl (fun K hK => ?_) (AllReadyH.cons rfl (fun K hK => ?_) AllReadyH.nil)
    · rw [if_pos (by rfl)]
      have hC := joined_any 18 f s v1
      go_simp
      refine hC.mono ?_
      rintro _ v2 ⟨B, rfl, hB, hBle, hg⟩
      have HB2 : Hid (Bn w v2 p ts L x y f) := HB1.out.kept hg
      have pb2 : Hid (Blk v2 B (f.vs ++ s.vs) 27 ∧ w.heap.size + 1 < B) := ⟨hB, by have := HB1.out.b6.lt; omega⟩
      refine hK.out _ _ HB2.out.b4 (fun _ => ?_)
      clear hK K hC hB hBle hg HB1
      refine wpAnyH_ready (rs := [4]) (by kernel_rfl) (by simp) ?_
      refine AllReadyH.cons rfl (fun K hK => ?_) AllReadyH.nil
      rw [if_pos (by rfl)]
      refine wp_alloc_ex rfl ?_
      intro v3 kz bz
      have HB3 : Hid (Bn w v3 p ts L x y f) := HB2.out.kept bz
      have hZ : w.heap.size + 1 < v2.heap.size := HB2.out.b6.lt
      have pb3 : Hid (Blk v3 B (f.vs ++ s.vs) 27 ∧ w.heap.size + 1 < B) := ⟨pb2.out.1.kept bz, pb2.out.2⟩
      have zb3 : Hid (Blk v3 v2.heap.size zExE 27 ∧ w.heap.size + 1 < v2.heap.size ∧ v2.heap.size ≠ B) := ⟨kz, hZ, by have := pb2.out.1.lt; omega⟩
      refine hK.out _ _ HB3.out.b4 (fun _ => ?_)
      clear hK K kz bz hZ HB2 pb2
      generalize v2.heap.size = Z at *
      simp only [Act.put, List.setIfInBounds_toArray]
      refine wpAnyH_ready (rs := [5]) (by kernel_rfl) (by simp) ?_
      refine AllReadyH.cons rfl (fun K hK => ?_) AllReadyH.nil
      rw [if_pos (by rfl)]
      refine wp_store_wroteS 27 (.tmp 8) (.tmp 16) rfl rfl Z (jnE 18 B f s).vs _ (by kernel_rfl) (by kernel_rfl) (exS_one _) zb3.out.1 rfl (by kernel_rfl) (fun u1 W1 => ?_)
      have HT : Hid (Bn w u1 p ts L x y f ∧ Blk u1 Z (jnE 18 B f s).vs 27 ∧ Blk u1 B (f.vs ++ s.vs) 27 ∧ w.heap.size + 1 < Z ∧ w.heap.size + 1 < B ∧ Z ≠ B) := ⟨HB3.out.wrote W1 zb3.out.2.1, W1.blk, W1.keep pb3.out.1 (fun e => zb3.out.2.2 e.symm), zb3.out.2.1, pb3.out.2, zb3.out.2.2⟩
      refine hK.out _ _ HT.out.1.b4 (fun _ => ?_)
      clear hK K W1 HB3 zb3 pb3
      refine wpAnyH_done (by kernel_rfl) ?_ _
      refine ⟨(fun c hc => by cases hc), ?_⟩
      have c1 := HT.out.2.1.cell 1 (v := .int .i64 0) rfl
      have f1 := HT.out.2.1.frozen 1
      have HV : Hid (Bn w (u1.setCell ⟨Z, 1, none⟩ (.int .i64 6)) p ts L x y f ∧ Blk (u1.setCell ⟨Z, 1, none⟩ (.int .i64 6)) Z (bnE B f s).vs 27 ∧ Blk (u1.setCell ⟨Z, 1, none⟩ (.int .i64 6)) B (f.vs ++ s.vs) 27 ∧ w.heap.size + 1 < B) := by
        have bw : Below w.heap.size u1 (u1.setCell ⟨Z, 1, none⟩ (.int .i64 6)) := (Below.refl _ _).setCell (show w.heap.size ≤ Z by have := HT.out.2.2.2.1; omega) _
        have e : ∀ {b : Nat} {d : List Value} {ty : TypeId}, b ≠ Z → Blk u1 b d ty → Blk (u1.setCell ⟨Z, 1, none⟩ (.int .i64 6)) b d ty := fun hn hk => by
          unfold Blk
          rw [Below.heap_setCell _ _ _ _ hn]
          exact hk
        have hz := HT.out.2.2.2.1
        exact ⟨⟨HT.out.1.r.below HT.out.1.hp bw, gb_below HT.out.1.gb bw, HT.out.1.hp, e (by omega) HT.out.1.b4, e (by omega) HT.out.1.b6⟩, HT.out.2.1.set 1 _, e (fun q => HT.out.2.2.2.2.2 q.symm) HT.out.2.2.1, HT.out.2.2.2.2.1⟩
      clear HT
      go_upto_region 4 with fail
      generalize u1.setCell ⟨Z, 1, none⟩ (.int .i64 6) = u2 at *
      clear c1 f1
      go_wp2_with (first | (refine wpList_load_ex rfl (.tmp 8) rfl Z 0 (by kernel_rfl) (bnE B f s) (C17.of_range HV.out.2.1.range) ?_) | (refine wpList_store_blk rfl rfl 27 (.tmp 6) (.tmp 19) rfl (w.heap.size + 1) (bnE B f s).vs (by kernel_rfl) (by kernel_rfl) (exS_one _) HV.out.1.b6 rfl (by kernel_rfl) ?_; intro u3 W3))
      have bw : Below w.heap.size u2 u3 := W3.below (by omega) (Below.refl _ _)
      exact bodyPost_ret (v := .agg (bnE B f s).va) (results_ex Tryz.results105 rfl (C17.of_range W3.blk.range)) rfl ⟨B, rfl, W3.keep HV.out.2.2.1 (by have := HV.out.2.2.2; omega), by have := HV.out.2.2.2; omega, HV.out.1.r.below HV.out.1.hp bw, gb_below HV.out.1.gb bw⟩
    · rw [if_pos (by rfl)]
      refine wp_alloc_ex rfl ?_
      intro v2 kz bz
      have HB2 : Hid (Bn w v2 p ts L x y f) := HB1.out.kept bz
      have hZ : w.heap.size + 1 < v1.heap.size := HB1.out.b6.lt
      have zb2 : Hid (Blk v2 v1.heap.size zExE 27 ∧ w.heap.size + 1 < v1.heap.size) := ⟨kz, hZ⟩
      refine hK.out _ _ HB2.out.b4 (fun _ => ?_)
      clear hK K kz bz hZ HB1
      generalize v1.heap.size = Z at *
      simp only [Act.put, List.setIfInBounds_toArray]
      refine wpAnyH_ready (rs := [3]) (by kernel_rfl) (by simp) ?_
      refine AllReadyH.cons rfl (fun K hK => ?_) AllReadyH.nil
      rw [if_pos (by rfl)]
      have hC := joined_any 18 f s v2
      go_simp
      refine hC.mono ?_
      rintro _ v3 ⟨B, rfl, hB, hBle, hg⟩
      have HB3 : Hid (Bn w v3 p ts L x y f) := HB2.out.kept hg
      have pb3 : Hid (Blk v3 B (f.vs ++ s.vs) 27 ∧ w.heap.size + 1 < B) := ⟨hB, by have := HB2.out.b6.lt; omega⟩
      have zb3 : Hid (Blk v3 Z zExE 27 ∧ w.heap.size + 1 < Z ∧ Z ≠ B) := ⟨zb2.out.1.kept hg, zb2.out.2, by have := zb2.out.1.lt; omega⟩
      refine hK.out _ _ HB3.out.b4 (fun _ => ?_)
      clear hK K hC hB hBle hg HB2 zb2
      refine wpAnyH_ready (rs := [5]) (by kernel_rfl) (by simp) ?_
      refine AllReadyH.cons rfl (fun K hK => ?_) AllReadyH.nil
      rw [if_pos (by rfl)]
      refine wp_store_wroteS 27 (.tmp 8) (.tmp 16) rfl rfl Z (jnE 18 B f s).vs _ (by kernel_rfl) (by kernel_rfl) (exS_one _) zb3.out.1 rfl (by kernel_rfl) (fun u1 W1 => ?_)
      have HT : Hid (Bn w u1 p ts L x y f ∧ Blk u1 Z (jnE 18 B f s).vs 27 ∧ Blk u1 B (f.vs ++ s.vs) 27 ∧ w.heap.size + 1 < Z ∧ w.heap.size + 1 < B ∧ Z ≠ B) := ⟨HB3.out.wrote W1 zb3.out.2.1, W1.blk, W1.keep pb3.out.1 (fun e => zb3.out.2.2 e.symm), zb3.out.2.1, pb3.out.2, zb3.out.2.2⟩
      refine hK.out _ _ HT.out.1.b4 (fun _ => ?_)
      clear hK K W1 HB3 zb3 pb3
      refine wpAnyH_done (by kernel_rfl) ?_ _
      refine ⟨(fun c hc => by cases hc), ?_⟩
      have c1 := HT.out.2.1.cell 1 (v := .int .i64 0) rfl
      have f1 := HT.out.2.1.frozen 1
      have HV : Hid (Bn w (u1.setCell ⟨Z, 1, none⟩ (.int .i64 6)) p ts L x y f ∧ Blk (u1.setCell ⟨Z, 1, none⟩ (.int .i64 6)) Z (bnE B f s).vs 27 ∧ Blk (u1.setCell ⟨Z, 1, none⟩ (.int .i64 6)) B (f.vs ++ s.vs) 27 ∧ w.heap.size + 1 < B) := by
        have bw : Below w.heap.size u1 (u1.setCell ⟨Z, 1, none⟩ (.int .i64 6)) := (Below.refl _ _).setCell (show w.heap.size ≤ Z by have := HT.out.2.2.2.1; omega) _
        have e : ∀ {b : Nat} {d : List Value} {ty : TypeId}, b ≠ Z → Blk u1 b d ty → Blk (u1.setCell ⟨Z, 1, none⟩ (.int .i64 6)) b d ty := fun hn hk => by
          unfold Blk
          rw [Below.heap_setCell _ _ _ _ hn]
          exact hk
        have hz := HT.out.2.2.2.1
        exact ⟨⟨HT.out.1.r.below HT.out.1.hp bw, gb_below HT.out.1.gb bw, HT.out.1.hp, e (by omega) HT.out.1.b4, e (by omega) HT.out.1.b6⟩, HT.out.2.1.set 1 _, e (fun q => HT.out.2.2.2.2.2 q.symm) HT.out.2.2.1, HT.out.2.2.2.2.1⟩
      clear HT
      go_upto_region 4 with fail
      generalize u1.setCell ⟨Z, 1, none⟩ (.int .i64 6) = u2 at *
      clear c1 f1
      go_wp2_with (first | (refine wpList_load_ex rfl (.tmp 8) rfl Z 0 (by kernel_rfl) (bnE B f s) (C17.of_range HV.out.2.1.range) ?_) | (refine wpList_store_blk rfl rfl 27 (.tmp 6) (.tmp 19) rfl (w.heap.size + 1) (bnE B f s).vs (by kernel_rfl) (by kernel_rfl) (exS_one _) HV.out.1.b6 rfl (by kernel_rfl) ?_; intro u3 W3))
      have bw : Below w.heap.size u2 u3 := W3.below (by omega) (Below.refl _ _)
      exact bodyPost_ret (v := .agg (bnE B f s).va) (results_ex Tryz.results105 rfl (C17.of_range W3.blk.range)) rfl ⟨B, rfl, W3.keep HV.out.2.2.1 (by have := HV.out.2.2.2; omega), by have := HV.out.2.2.2; omega, HV.out.1.r.below HV.out.1.hp bw, gb_below HV.out.1.gb bw⟩
  · rw [if_pos (by rfl)]
    refine wp_alloc_ex rfl ?_
    intro v1 kz bz
    have HB1 : Hid (Bn w v1 p (u :: ts) L x y f) := HI4.out.kept bz
    have hZ : w.heap.size + 1 < w4.heap.size := HI4.out.b6.lt
    have zb1 : Hid (Blk v1 w4.heap.size zExE 27 ∧ w.heap.size + 1 < w4.heap.size) := ⟨kz, hZ⟩
    refine hK.out _ _ HB1.out.b4 (fun _ => ?_)
    clear hK K kz bz hZ HI4
    generalize w4.heap.size = Z at *
    simp only [Act.put, List.setIfInBounds_toArray]
    refine wpAnyH_ready (rs := [2]) (by kernel_rfl) (by simp) ?_
    refine AllReadyH.cons rfl (fun K hK => ?_) AllReadyH.nil
    rw [if_pos (by rfl)]
    have hC := hP ts L x y p v1 HB1.out.r hok
    go_simp
    refine hC.mono ?_
    rintro _ v2 ⟨rfl, hR, hg⟩
    have HB2 : Hid (Bn w v2 p ts L x y f) := HB1.out.move hR hg
    have zb2 : Hid (Blk v2 Z zExE 27 ∧ w.heap.size + 1 < Z) := ⟨zb1.out.1.gb hg (by have := HB1.out.hp; have := zb1.out.2; omega), zb1.out.2⟩
    refine hK.out _ _ HB2.out.b4 (fun _ => ?_)
    clear hK K hC hR hg HB1 zb1
    refine wpAnyH_ready (rs := [3]) (by kernel_rfl) (by simp) ?_
    refine AllReadyH.cons rfl (fun K hK => ?_) AllReadyH.nil
    rw [if_pos (by rfl)]
    have hC := joined_any 18 f s v2
    go_simp
    refine hC.mono ?_
    rintro _ v3 ⟨B, rfl, hB, hBle, hg⟩
    have HB3 : Hid (Bn w v3 p ts L x y f) := HB2.out.kept hg
    have pb3 : Hid (Blk v3 B (f.vs ++ s.vs) 27 ∧ w.heap.size + 1 < B) := ⟨hB, by have := HB2.out.b6.lt; omega⟩
    have zb3 : Hid (Blk v3 Z zExE 27 ∧ w.heap.size + 1 < Z ∧ Z ≠ B) := ⟨zb2.out.1.kept hg, zb2.out.2, by have := zb2.out.1.lt; omega⟩
    refine hK.out _ _ HB3.out.b4 (fun _ => ?_)
    clear hK K hC hB hBle hg HB2 zb2
    refine wpAnyH_ready (rs := [5]) (by kernel_rfl) (by simp) ?_
    refine AllReadyH.cons rfl (fun K hK => ?_) AllReadyH.nil
    rw [if_pos (by rfl)]
    refine wp_store_wroteS 27 (.tmp 8) (.tmp 16) rfl rfl Z (jnE 18 B f s).vs _ (by kernel_rfl) (by kernel_rfl) (exS_one _) zb3.out.1 rfl (by kernel_rfl) (fun u1 W1 => ?_)
    have HT : Hid (Bn w u1 p ts L x y f ∧ Blk u1 Z (jnE 18 B f s).vs 27 ∧ Blk u1 B (f.vs ++ s.vs) 27 ∧ w.heap.size + 1 < Z ∧ w.heap.size + 1 < B ∧ Z ≠ B) := ⟨HB3.out.wrote W1 zb3.out.2.1, W1.blk, W1.keep pb3.out.1 (fun e => zb3.out.2.2 e.symm), zb3.out.2.1, pb3.out.2, zb3.out.2.2⟩
    refine hK.out _ _ HT.out.1.b4 (fun _ => ?_)
    clear hK K W1 HB3 zb3 pb3
    refine wpAnyH_done (by kernel_rfl) ?_ _
    refine ⟨(fun c hc => by cases hc), ?_⟩
    have c1 := HT.out.2.1.cell 1 (v := .int .i64 0) rfl
    have f1 := HT.out.2.1.frozen 1
    have HV : Hid (Bn w (u1.setCell ⟨Z, 1, none⟩ (.int .i64 6)) p ts L x y f ∧ Blk (u1.setCell ⟨Z, 1, none⟩ (.int .i64 6)) Z (bnE B f s).vs 27 ∧ Blk (u1.setCell ⟨Z, 1, none⟩ (.int .i64 6)) B (f.vs ++ s.vs) 27 ∧ w.heap.size + 1 < B) := by
      have bw : Below w.heap.size u1 (u1.setCell ⟨Z, 1, none⟩ (.int .i64 6)) := (Below.refl _ _).setCell (show w.heap.size ≤ Z by have := HT.out.2.2.2.1; omega) _
      have e : ∀ {b : Nat} {d : List Value} {ty : TypeId}, b ≠ Z → Blk u1 b d ty → Blk (u1.setCell ⟨Z, 1, none⟩ (.int .i64 6)) b d ty := fun hn hk => by
        unfold Blk
        rw [Below.heap_setCell _ _ _ _ hn]
        exact hk
      have hz := HT.out.2.2.2.1
      exact ⟨⟨HT.out.1.r.below HT.out.1.hp bw, gb_below HT.out.1.gb bw, HT.out.1.hp, e (by omega) HT.out.1.b4, e (by omega) HT.out.1.b6⟩, HT.out.2.1.set 1 _, e (fun q => HT.out.2.2.2.2.2 q.symm) HT.out.2.2.1, HT.out.2.2.2.2.1⟩
    clear HT
    go_upto_region 4 with fail
    generalize u1.setCell ⟨Z, 1, none⟩ (.int .i64 6) = u2 at *
    clear c1 f1
    go_wp2_with (first | (refine wpList_load_ex rfl (.tmp 8) rfl Z 0 (by kernel_rfl) (bnE B f s) (C17.of_range HV.out.2.1.range) ?_) | (refine wpList_store_blk rfl rfl 27 (.tmp 6) (.tmp 19) rfl (w.heap.size + 1) (bnE B f s).vs (by kernel_rfl) (by kernel_rfl) (exS_one _) HV.out.1.b6 rfl (by kernel_rfl) ?_; intro u3 W3))
    have bw : Below w.heap.size u2 u3 := W3.below (by omega) (Below.refl _ _)
    exact bodyPost_ret (v := .agg (bnE B f s).va) (results_ex Tryz.results105 rfl (C17.of_range W3.blk.range)) rfl ⟨B, rfl, W3.keep HV.out.2.2.1 (by have := HV.out.2.2.2; omega), by have := HV.out.2.2.2; omega, HV.out.1.r.below HV.out.1.hp bw, gb_below HV.out.1.gb bw⟩
end Go.Proofs.YtcoeefckldkbeaaGreatDoor

/- Layer 6: the reader's order: names and pairs that were read. -/
namespace Go.Proofs.YtcoeefckldkbeaaGreatDoor
open Go Go.RowKit

theorem Tryz.infoStS : (Tryz.prog.info? 9).map (fun i => (i.zero, i.size, i.bytes)) = some (some (.string ⟨#[]⟩), 1, 16) := by kernel_rfl
set_option maxRecDepth 100000 in
set_option maxHeartbeats 2000000 in
theorem sIndex_hit (l : List ByteArray) (v : Value) (s x : ByteArray) (i : Nat) (w : World) (hL : SAt w v l) (hx : l[i]? = some x) (hm : (s.toList == x.toList) = true) (hb : ∀ k y, k < i → l[k]? = some y → (s.toList == y.toList) = false) : Calls Tryz.prog 87 #[v, .string s] w fun e w' => e = .returned (.int .i64 i) ∧ Below w.heap.size w w' := by
  obtain ⟨ao, b, o, cap, rfl, hnil, _, hlen, hc⟩ := hL
  have HC : Hid (∀ i s, l[i]? = some s → w.cell? ⟨b, o + i, none⟩ = some (.string s)) := hc
  have hil : i < l.length := by
    rcases Nat.lt_or_ge i l.length with q | q
    · exact q
    · rw [List.getElem?_eq_none q] at hx; cases hx
  have HX : Hid (l[i]? = some x ∧ (s.toList == x.toList) = true ∧ ∀ k y, k < i → l[k]? = some y → (s.toList == y.toList) = false) := ⟨hx, hm, hb⟩
  clear hc hx hm hb
  generalize hle : l.length = len at *
  have HL : Hid (l.length = len) := hle
  clear hle
  have a0 := hnil (by omega)
  subst a0
  go_enter Tryz.func87, Tryz.ntmps87
  go_wp2
  go_loopw [8] (fun k wr => ∃ (j : Nat), j ≤ i ∧ k = .int .i64 j ∧ w = wr) (fun k _ => len - (intOf k).toNat)
  case atStart => exact ⟨0, Nat.zero_le _, rfl, rfl⟩
  case round =>
    obtain ⟨j, hj, rfl, hw⟩ := hrel
    subst hw
    have ij : (j : Int) < len := by omega
    obtain ⟨y, hy⟩ : ∃ y, l[j]? = some y := ⟨_, List.getElem?_eq_getElem (by rw [HL.out]; omega)⟩
    have c := HC.out j y hy
    by_cases e : j = i
    · subst e
      have exy : y = x := Option.some.inj (hy.symm.trans HX.out.1)
      subst exy
      have hm := HX.out.2.1
      clear hy
      go_wp2
      go_ret
      exact ⟨rfl, Below.refl _ _⟩
    · have hm := HX.out.2.2 j y (by omega) hy
      clear hy
      go_wp2
      go_roundw
      case rel => exact ⟨j + 1, by omega, by go_num, trivial⟩
      case measure => simp [intOf]; omega
theorem sIndex_miss (l : List ByteArray) (v : Value) (s : ByteArray) (w : World) (hL : SAt w v l) (hm : inL s l = false) : Calls Tryz.prog 87 #[v, .string s] w fun e w' => ∃ r : Int, e = .returned (.int .i64 r) ∧ r < 0 ∧ Below w.heap.size w w' :=
  (sIndex_any l v s w hL).mono fun e w' ⟨r, h1, h2, h3⟩ => ⟨r, h1, (by
    by_cases q : r < 0
    · exact q
    · have := h2.1 (by omega)
      rw [hm] at this
      cases this), h3⟩
/-- What is read into: the variable in block q, its names and pairs. -/
structure Od (w wr : World) (p q : Nat) (ts : List Tq) (L : Int) (x y : Value) (ns : List ByteArray) (ps : List (Int × Int)) (nv pv : Value) : Prop where
  r : Rp wr p ts L x y
  gb : w.grownBy wr (some p)
  hp : p < w.heap.size
  hq : w.heap.size ≤ q
  o : Blk wr q [nv, pv] 108
  no : wr.ownsRow (q + 1) 9 1 nv ns.length (ns.map .string)
  po : wr.ownsRow (q + 1) 124 2 pv ps.length (ps.flatMap fun z => [.int .i64 z.1, .int .i64 z.2])
theorem so_ge {w : World} {base : Nat} {e : TypeId} {size : Nat} {v : Value} {n : Nat} {xs : List Value} (h : w.ownsRow base e size v n xs) {b : Nat} (hb : v.ownBlock = some b) : base ≤ b ∧ b < w.heap.size ∧ ∃ cur, w.heap[b]? = some (.cells cur e (0, 0)) := by
  obtain ⟨_, ⟨rfl, _⟩ | ⟨g, cap, cur, rfl, hg, hh, _⟩⟩ := h
  · cases hb
  · have : g = b := by simpa [Value.ownBlock] using hb
    subst this
    exact ⟨hg, (Array.getElem?_eq_some_iff.1 hh).1, cur, hh⟩
theorem so_blk {w w' : World} {base : Nat} {e : TypeId} {size : Nat} {v : Value} {n : Nat} {xs : List Value} (h : w.ownsRow base e size v n xs) (hb : ∀ b, v.ownBlock = some b → w'.heap[b]? = w.heap[b]?) : w'.ownsRow base e size v n xs := by
  obtain ⟨hl, h⟩ := h
  refine ⟨hl, ?_⟩
  rcases h with ⟨rfl, hn⟩ | ⟨g, cap, cur, rfl, hg, hh, hr⟩
  · exact Or.inl ⟨rfl, hn⟩
  · exact Or.inr ⟨g, cap, cur, rfl, hg, by rw [hb g rfl]; exact hh, hr⟩
theorem so_kept {w w' : World} {base : Nat} {e : TypeId} {size : Nat} {v : Value} {n : Nat} {xs : List Value} (h : w.ownsRow base e size v n xs) (hb : Below w.heap.size w w') : w'.ownsRow base e size v n xs := so_blk h fun b e => hb.block b (so_ge h e).2.1
theorem so_sat {w : World} {base : Nat} {v : Value} {n : Nat} {l : List ByteArray} (h : w.ownsRow base 9 1 v n (l.map .string)) (hn : n ≤ 1000000) : SAt w v l := by
  obtain ⟨hl, h⟩ := h
  have hl' : l.length = n := by simpa using hl
  rcases h with ⟨rfl, hn0⟩ | ⟨g, cap, cur, rfl, hg, hh, h1, h2, h3, ht⟩
  · have : l = [] := List.eq_nil_of_length_eq_zero (by omega)
    subst this
    exact SAt.nil w
  · subst hl'
    refine ⟨_, g, 0, cap, rfl, fun _ => rfl, (fun h => by cases h), hn, fun i s hs => ?_⟩
    have hi : i < l.length := by
      rcases Nat.lt_or_ge i l.length with h | h
      · exact h
      · rw [List.getElem?_eq_none h] at hs; cases hs
    have h4 : (cur.toList.take (l.length * 1))[i]? = some (.string s) := by rw [ht, List.getElem?_map, hs]; rfl
    rw [List.getElem?_take, if_pos (by omega)] at h4
    have h5 : cur[i]? = some (.string s) := by simpa using h4
    simp [World.cell?, hh, h5]
theorem Od.kept {w wr w' : World} {p q : Nat} {ts : List Tq} {L : Int} {x y : Value} {ns : List ByteArray} {ps : List (Int × Int)} {nv pv : Value} (h : Od w wr p q ts L x y ns ps nv pv) (hb : Below wr.heap.size wr w') : Od w w' p q ts L x y ns ps nv pv :=
  ⟨h.r.kept hb, gb_next h.gb hb, h.hp, h.hq, h.o.kept hb, so_kept h.no hb, so_kept h.po hb⟩
theorem Od.move {w wr w' : World} {p q : Nat} {ts us : List Tq} {L : Int} {x y : Value} {ns : List ByteArray} {ps : List (Int × Int)} {nv pv : Value} (h : Od w wr p q ts L x y ns ps nv pv) (hr : Rp w' p us L x y) (hg : wr.grownBy w' (some p)) : Od w w' p q us L x y ns ps nv pv := by
  have e : ∀ {v : Value} {t : TypeId} {s k : Nat} {xs : List Value}, wr.ownsRow (q + 1) t s v k xs → w'.ownsRow (q + 1) t s v k xs := fun ho => so_blk ho fun b hb => hg.block b (so_ge ho hb).2.1 (fun e => by
    have := (so_ge ho hb).1
    have : b = p := by simpa using e
    have := h.hp
    have := h.hq
    omega)
  exact ⟨hr, gb_trans h.gb hg, h.hp, h.hq, h.o.gb hg (by have := h.hp; have := h.hq; omega), e h.no, e h.po⟩
set_option maxRecDepth 100000 in
set_option maxHeartbeats 2000000 in
theorem oLabel_old {w wr : World} {p q : Nat} {ts : List Tq} {L : Int} {x y : Value} {ns : List ByteArray} {ps : List (Int × Int)} {nv pv : Value} (h : Od w wr p q ts L x y ns ps nv pv) (hn : ns.length ≤ 1000) (s z : ByteArray) (i : Nat) (hz : ns[i]? = some z) (hm : (s.toList == z.toList) = true) (hb : ∀ k y, k < i → ns[k]? = some y → (s.toList == y.toList) = false) :
    Calls Tryz.prog 70 #[.pointer (some ⟨q, 0, none⟩), .string s] wr fun e w' => e = .returned (.int .i64 i) ∧ Od w w' p q ts L x y ns ps nv pv := by
  have c0 := h.o.cell 0 rfl
  have hI := sIndex_hit ns nv s z i wr (so_sat h.no (by omega)) hz hm hb
  have HO : Hid (Od w wr p q ts L x y ns ps nv pv) := h
  clear h hz hm hb
  go_enter Tryz.func70, Tryz.ntmps70
  go_wp2_with fail
  refine hI.mono ?_
  rintro _ w1 ⟨rfl, hb⟩
  have i0 : (0 : Int) ≤ i := by omega
  have HP : Hid (Od w w1 p q ts L x y ns ps nv pv) := HO.out.kept hb
  clear hI c0 HO hb
  go_wp2
  go_ret
  exact ⟨rfl, HP.out⟩
theorem so_form {w : World} {base : Nat} {e : TypeId} {size : Nat} {v : Value} {n : Nat} {xs : List Value} (h : w.ownsRow base e size v n xs) : ∃ ao cap, v = .slice ao n cap := by
  obtain ⟨_, ⟨rfl, rfl⟩ | ⟨g, cap, cur, rfl, _⟩⟩ := h
  · exact ⟨none, 0, rfl⟩
  · exact ⟨_, cap, rfl⟩
theorem so_apart {w : World} {base : Nat} {e e' : TypeId} {size size' : Nat} {v v' : Value} {n n' : Nat} {xs xs' : List Value} (h : w.ownsRow base e size v n xs) (h' : w.ownsRow base e' size' v' n' xs') (hne : e ≠ e') {b : Nat} (hb : v.ownBlock = some b) : some b ≠ v'.ownBlock := fun hb' => by
  obtain ⟨_, _, c, h1⟩ := so_ge h hb
  obtain ⟨_, _, c', h2⟩ := so_ge h' hb'.symm
  rw [h1] at h2
  simp only [Option.some.injEq, Obj.cells.injEq] at h2
  exact hne h2.2.1
set_option maxRecDepth 100000 in
set_option maxHeartbeats 4000000 in
theorem oLabel_new {w wr : World} {p q : Nat} {ts : List Tq} {L : Int} {x y : Value} {ns : List ByteArray} {ps : List (Int × Int)} {nv pv : Value} (h : Od w wr p q ts L x y ns ps nv pv) (hn : ns.length ≤ 1000) (s : ByteArray) (hm : inL s ns = false) :
    Calls Tryz.prog 70 #[.pointer (some ⟨q, 0, none⟩), .string s] wr fun e w' => e = .returned (.int .i64 ns.length) ∧ ∃ nv', Od w w' p q ts L x y (ns ++ [s]) ps nv' pv := by
  have c0 := h.o.cell 0 rfl
  have hI := sIndex_miss ns nv s wr (so_sat h.no (by omega)) hm
  have HO : Hid (Od w wr p q ts L x y ns ps nv pv) := h
  clear h hm
  go_enter Tryz.func70, Tryz.ntmps70
  go_wp2_with fail
  refine hI.mono ?_
  rintro _ w1 ⟨r, rfl, hr, hb⟩
  have i0 : ¬ (0 : Int) ≤ r := by omega
  have b2 := below_alloc w1 (.cells #[.string s] 9)
  have HP : Hid (Od w w1 p q ts L x y ns ps nv pv) := HO.out.kept hb
  have HP2 : Hid (Od w (w1.alloc (.cells #[.string s] 9)) p q ts L x y ns ps nv pv) := HP.out.kept b2
  have d0 := HP.out.o.cell 0 rfl
  have hnew := heap_alloc_new w1 (.cells #[.string s] 9)
  have ez : (w1.alloc (.cells #[.string s] 9)).heap.size = w1.heap.size + 1 := alloc_size _ _
  obtain ⟨i1, hi1, hz0, hz1, hz2⟩ := info_parts Tryz.infoStS
  have ho := HP2.out.no
  have hbb : q + 1 ≤ (w1.alloc (.cells #[.string s] 9)).heap.size := by have := HP2.out.o.lt; omega
  clear hI c0 HO hb b2
  go_wp2_with (at_builtin; (refine wpList_append_lies _ rfl (.tmp 19) (.tmp 21) 32 rfl (q + 1) 9 i1 _ 1 16 Tryz.underlying32 hi1 hz0 hz1 hz2 rfl (by decide) nv ns.length (ns.map .string) rfl ho ⟨w1.heap.size, 0, none⟩ 1 1 [.string s] rfl rfl (World.news_of_block (cs := #[.string s]) (t := 9) (fr := (0, 0)) hnew) (by intro x hx; simp at hx; rcases hx with rfl; rfl) (by omega) (by unfold maxLen; omega) (by omega) hbb (w1.heap.size + 1) ez ?_); intro gg cap3 w6 hown6 hgrow hat hltg; refine StopH.go ?_)
  refine StopH.mk ?_
  have hqk : w6.heap[q]? = (w1.alloc (.cells #[.string s] 9)).heap[q]? := hgrow.block q HP2.out.o.lt (fun e => by have := (so_ge ho e.symm).1; omega)
  have hlow : Below (q + 1) (w1.alloc (.cells #[.string s] 9)) w6 := ⟨hgrow.os, hgrow.tape, hgrow.output, hgrow.size, fun k hk => hgrow.block k (by have := HP2.out.o.lt; omega) (fun e => by have := (so_ge ho e.symm).1; omega)⟩
  have o6 : Blk w6 q [nv, pv] 108 := by unfold Blk; rw [hqk]; exact HP2.out.o
  have d6 := o6.cell 0 rfl
  have f6 := o6.frozen 0
  have HQ : Hid (∃ nv', Od w (w6.setCell ⟨q, 0, none⟩ (.slice (some ⟨gg, 0, none⟩) (ns.length + 1) cap3)) p q ts L x y (ns ++ [s]) ps nv' pv ∧ nv' = .slice (some ⟨gg, 0, none⟩) (ns.length + 1) cap3) := by
    refine ⟨_, ⟨?_, ?_, HP2.out.hp, HP2.out.hq, o6.set 0 _, ?_, ?_⟩, rfl⟩
    · have k1 : Below w.heap.size (w1.alloc (.cells #[.string s] 9)) (w6.setCell ⟨q, 0, none⟩ (.slice (some ⟨gg, 0, none⟩) (ns.length + 1) cap3)) := (hlow.mono (by have := HP2.out.hq; omega)).setCell HP2.out.hq _
      exact HP2.out.r.below HP2.out.hp k1
    · have k1 : Below w.heap.size (w1.alloc (.cells #[.string s] 9)) (w6.setCell ⟨q, 0, none⟩ (.slice (some ⟨gg, 0, none⟩) (ns.length + 1) cap3)) := (hlow.mono (by have := HP2.out.hq; omega)).setCell HP2.out.hq _
      exact gb_below HP2.out.gb k1
    · have : w6.ownsRow (q + 1) 9 1 (.slice (some ⟨gg, 0, none⟩) (ns.length + 1) cap3) (ns ++ [s]).length ((ns ++ [s]).map .string) := by simpa using hown6
      exact so_blk this fun b hb => Below.heap_setCell _ _ _ _ (by have := (so_ge this hb).1; show b ≠ q; omega)
    · have hpo := HP2.out.po
      have hp6 : w6.ownsRow (q + 1) 124 2 pv ps.length (ps.flatMap fun z => [.int .i64 z.1, .int .i64 z.2]) := so_blk hpo fun b hb => hgrow.block b (so_ge hpo hb).2.1 (so_apart hpo ho (by decide) hb)
      exact so_blk hp6 fun b hb => Below.heap_setCell _ _ _ _ (by have := (so_ge hp6 hb).1; show b ≠ q; omega)
  clear hown6 hgrow hat hltg hqk hlow HP HP2 d0 hnew ho hbb o6
  go_wp2
  go_ret
  obtain ⟨nv', h, _⟩ := HQ.out
  exact ⟨rfl, nv', h⟩
set_option maxRecDepth 100000 in
set_option maxHeartbeats 2000000 in
theorem rItem_new {w wr : World} {p q : Nat} {t : Tq} {ts : List Tq} {L : Int} {x y : Value} {ns : List ByteArray} {ps : List (Int × Int)} {nv pv : Value} (h : Od w wr p q (t :: ts) L x y ns ps nv pv) (hn : ns.length ≤ 1000) (hk : t.k = 1) (hm : inL t.s ns = false) (hl : ((hd ts L).s.toList == (⟨#[60]⟩ : ByteArray).toList) = false) :
    Calls Tryz.prog 52 #[.pointer (some ⟨p, 0, none⟩), .pointer (some ⟨q, 0, none⟩)] wr fun e w' => e = .returned (.tuple #[]) ∧ ∃ nv', Od w w' p q ts L x y (ns ++ [t.s]) ps nv' pv := by
  have hN := rName_any t ts L x y p wr h.r hk
  go_enter Tryz.func52, Tryz.ntmps52
  go_wp2_with fail
  refine hN.mono ?_
  rintro _ w1 ⟨rfl, hR, hg⟩
  have hB := oLabel_new (h.move hR hg) hn t.s hm
  clear hN hR hg h
  go_wp2_with fail
  refine hB.mono ?_
  rintro _ w2 ⟨rfl, nv', h2⟩
  have hS := rSkip_no ⟨#[60]⟩ ts L x y p w2 h2.r hl
  have HO : Hid (Od w w2 p q ts L x y (ns ++ [t.s]) ps nv' pv) := h2
  clear hB h2
  go_wp2_with fail
  refine hS.mono ?_
  rintro _ w3 ⟨rfl, hb⟩
  have HO3 : Hid (Od w w3 p q ts L x y (ns ++ [t.s]) ps nv' pv) := HO.out.kept hb
  clear hS HO hb
  go_wp2
  go_end0
  exact ⟨rfl, nv', HO3.out⟩
end Go.Proofs.YtcoeefckldkbeaaGreatDoor
