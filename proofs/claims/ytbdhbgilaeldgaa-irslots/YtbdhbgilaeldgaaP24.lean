/- Layer 10: setByBoth. -/
import Derived.Test.YtbdhbgilaeldgaaP23
namespace Go.Proofs.Ytbdhbgilaeldgaa
open Go Go.RowKit

/-- Which slots are set, as values. -/
def setV (f : Nat → Bool) : List Value := (List.range 250).map fun i => Value.bool (f i)
theorem setV_len (f : Nat → Bool) : (setV f).length = 250 := by simp [setV]
theorem setV_one (f : Nat → Bool) : (setV f).all (·.oneCell') = true := by simp [setV, Value.oneCell']
theorem setV_get (f : Nat → Bool) {i : Nat} (h : i < 250) : (setV f)[i]? = some (.bool (f i)) := by simp [setV, h]
theorem setV_congr {f g : Nat → Bool} (h : ∀ i, i < 250 → f i = g i) : setV f = setV g := by
  unfold setV
  exact List.map_congr_left fun i hi => by rw [h i (by simpa using hi)]
theorem Sta.vs_set (s : Sta) : s.vs = .int .i64 s.at_ :: .int .i64 s.x :: (setV s.set ++ [.bool s.gone]) := rfl
theorem Sta.row {w : World} {B : Nat} {s : Sta} {t : TypeId} (h : Blk w B s.vs t) : w.rangeAt B 2 (setV s.set) := fun j v hv => by
  have hj : j < 250 := by
    rcases Nat.lt_or_ge j 250 with h1 | h1
    · exact h1
    · rw [List.getElem?_eq_none (by rw [setV_len]; exact h1)] at hv; cases hv
  have e : v = .bool (s.set j) := by rw [setV_get _ hj] at hv; exact (Option.some.inj hv).symm
  rw [e]
  exact h.cell (2 + j) (s.v2 hj)
theorem alloc_set (w : World) : (Instr.alloc 73 true (.tuple #[])).run Try.prog w = .ok (.pointer (some ⟨w.heap.size, 0, none⟩)) (w.alloc (.cells (setV fun _ => false).toArray 73)) := by
  have hz : (Try.prog.info? 73).map (·.zero) = some (some (.agg (setV fun _ => false).toArray)) := by kernel_rfl
  cases hq : Try.prog.info? 73 with
  | none => rw [hq] at hz; simp at hz
  | some i =>
    rw [hq] at hz
    simp at hz
    simp [Instr.alloc, newVar, newRow, zeroValue, typeInfo, hq, hz, Value.cells]
theorem wpList_alloc_set {ops : Array Oper} {rest : List Oper} {o : Oper} {a : Act} {w : World} {Q : Exit → Act → World → Prop} (hgd : o.guard = none) (ho : o.op = .alloc 73)
    (h : wpList Try.prog ops Q rest (a.put o.dst (.pointer (some ⟨w.heap.size, 0, none⟩))) (w.alloc (.cells (setV fun _ => false).toArray 73))) : wpList Try.prog ops Q (o :: rest) a w := by
  refine wpList_plain hgd fun _ hK => ?_
  unfold Oper.wp execOp
  simp only [ho, Sem.run_bind, alloc_set, Result.andThen_ok, Sem.run_pure]
  exact hK _ _ h
theorem run_index_set (f : Nat → Bool) {k : Nat} (hk : k < 250) (w : World) : (Instr.index 73 (.agg (setV f).toArray) (.int .i64 k)).run Try.prog w = .ok (.bool (f k)) w := by
  have h1 : (0 : Int) ≤ k ∧ (k : Int) < 250 := by omega
  have h2 := setV_get f hk
  simp [Instr.index, run_underlying Try.underlying73, asIntOf, part, go_sem, h1, h2]
  intro h; omega
theorem wpList_index_set {ops : Array Oper} {rest : List Oper} {o : Oper} {a : Act} {w : World} {Q : Exit → Act → World → Prop} (hgd : o.guard = none) (x i : Operand) (ho : o.op = .index 73 x i) (f : Nat → Bool) (k : Nat) (hx : a.eval x = .agg (setV f).toArray) (hi : a.eval i = .int .i64 k) (hk : k < 250)
    (h : wpList Try.prog ops Q rest (a.put o.dst (.bool (f k))) w) : wpList Try.prog ops Q (o :: rest) a w := by
  refine wpList_plain hgd fun _ hK => ?_
  unfold Oper.wp execOp
  simp only [ho, hx, hi, Sem.run_bind, run_index_set f hk, Result.andThen_ok, Sem.run_pure]
  exact hK _ _ h
theorem results_set {fn : Func} {tmps : Array Value} {k B : Nat} {f : Nat → Bool} {w : World} (hf : fn.results = #[.cell k 73]) (ht : tmps.getD k undef = .pointer (some ⟨B, 0, none⟩)) (C : w.rangeAt B 0 (setV f)) : (results fn tmps).run Try.prog w = .ok (.agg (setV f).toArray) w := by
  have h := loadVar_row (ty := 73) C Try.underlying73 rfl (by rw [setV_len]; kernel_rfl)
  generalize (setV f).toArray = va at h ⊢
  have ha : (asAddr (tmps[k]?.getD undef)).run Try.prog w = .ok ⟨B, 0, none⟩ w := by rw [show tmps[k]?.getD undef = .pointer (some ⟨B, 0, none⟩) by simpa using ht]; rfl
  unfold results
  rw [hf]
  simp [ha, h]
structure Sb (w : World) (a b : Sta) (u : World) : Prop where
  bl : Below w.heap.size w u
  A : Blk u w.heap.size a.vs 75
  B : Blk u (w.heap.size + 1) b.vs 75
  Z : Blk u (w.heap.size + 2) (setV fun _ => false) 73
theorem sb_new (w : World) (a b : Sta) : Sb w a b (((w.alloc (.cells a.va 75)).alloc (.cells b.va 75)).alloc (.cells (setV fun _ => false).toArray 73)) := by
  have H := allocs_heap [.cells a.va 75, .cells b.va 75, .cells (setV fun _ => false).toArray 73] w
  have B0 := allocs_below [.cells a.va 75, .cells b.va 75, .cells (setV fun _ => false).toArray 73] w
  simp only [List.foldl] at H B0
  exact ⟨B0, H 0 (by simp), H 1 (by simp), H 2 (by simp)⟩
def mixS (a b : Sta) (k : Nat) : Sta := { a with set := fun i => if i < k then a.set i && b.set i else a.set i }
theorem Sta.putB (s : Sta) {i : Nat} (h : i < 250) (v : Bool) : s.vs.set (2 + i) (.bool v) = ({ s with set := fun j => if j = i then v else s.set j } : Sta).vs := by
  rw [Nat.add_comm 2 i]
  show Value.int .i64 s.at_ :: Value.int .i64 s.x :: (((List.range 250).map (fun i => Value.bool (s.set i)) ++ [Value.bool s.gone]).set i (Value.bool v)) = _
  unfold Sta.vs
  congr 2
  apply List.ext_getElem?
  intro j
  rw [List.getElem?_set]
  by_cases hj : j < 250
  · rw [List.getElem?_append_left (by simpa using hj), List.getElem?_append_left (by simpa using hj)]
    by_cases e : i = j
    · subst e; simp [hj]; omega
    · have : j ≠ i := fun h => e h.symm
      simp [e, hj, this]
  · have e : i ≠ j := by omega
    rw [if_neg e, List.getElem?_append_right (by simp; omega), List.getElem?_append_right (by simp; omega)]
    simp
theorem mixS_put (a b : Sta) {k : Nat} (h : k < 250) : (mixS a b k).vs.set (2 + k) (.bool (a.set k && b.set k)) = (mixS a b (k + 1)).vs := by
  rw [Sta.putB _ h]
  unfold mixS
  congr 2
  funext j
  by_cases e : j = k
  · subst e; simp
  · rcases Nat.lt_or_ge j k with h1 | h1
    · simp [e, h1, Nat.lt_succ_of_lt h1]
    · have h2 : ¬ j < k := by omega
      have h3 : ¬ j < k + 1 := by omega
      simp [e, h2, h3]
set_option maxRecDepth 100000 in
set_option maxHeartbeats 8000000 in
theorem setByBoth_any (a b : Sta) (w : World) : Calls Try.prog 103 #[.agg a.va, .agg b.va] w fun e w' => e = .returned (.agg (setV (setBoth a b)).toArray) ∧ Below w.heap.size w w' := by
  have HI := hid (sb_new w a b)
  cases ha : a.gone
  · cases hb : b.gone
    · have HG : Hid (setBoth a b = fun i => a.set i && b.set i) := by show _ = _; unfold setBoth; rw [ha, hb]; rfl
      have HA := hid (show a.gone = false ∧ b.gone = false from ⟨ha, hb⟩)
      clear ha hb
      go_enter Try.func103, Try.ntmps103
      go_upto_region 1 with (refine wpList_alloc_set rfl rfl ?_)
      generalize (((w.alloc (.cells a.va 75)).alloc (.cells b.va 75)).alloc (.cells (setV fun _ => false).toArray 73)) = w1 at *
      have a3 : w1.cell? ⟨w.heap.size, 252, none⟩ = some (.bool false) := HI.out.A.cell 252 (by rw [a.v252, HA.out.1])
      have b3 : w1.cell? ⟨w.heap.size + 1, 252, none⟩ = some (.bool false) := HI.out.B.cell 252 (by rw [b.v252, HA.out.2])
      have rB := Sta.row HI.out.B
      go_wp2_with (refine wpList_load_mid rfl 73 (.tmp 15) rfl (w.heap.size + 1) 2 (by kernel_rfl) (setV b.set) _ rB Try.underlying73 rfl (by rw [setV_len]; kernel_rfl) ?_)
      clear a3 b3 rB
      go_loopw [17] (fun i wr => ∃ (k : Nat), k ≤ 250 ∧ i = .int .i64 k ∧ Sb w (mixS a b k) b wr) (fun i _ => 250 - (intOf i).toNat)
      case atStart => exact ⟨0, by omega, rfl, by
        have e : mixS a b 0 = a := by unfold mixS; simp
        rw [e]; exact HI.out⟩
      case round =>
        clear HI
        obtain ⟨k, hk, rfl, hB⟩ := hrel
        have HI := hid hB
        clear hB
        by_cases hlt : k < 250
        · have ij : (k : Int) < 250 := by omega
          have d2 := HI.out.A.cell (2 + k) (Sta.v2 (mixS a b k) hlt)
          have g2 := HI.out.A.frozen (2 + k)
          have e2 : (mixS a b k).set k = a.set k := by unfold mixS; simp
          rw [e2] at d2
          have W1 := wrote_setCell (i := 2 + k) HI.out.A (.bool (a.set k && b.set k))
          rw [mixS_put a b hlt] at W1
          have HB := hid (show Sb w (mixS a b (k + 1)) b (wr.setCell ⟨w.heap.size, 2 + k, none⟩ (.bool (a.set k && b.set k))) from ⟨W1.below (by omega) HI.out.bl, W1.blk, W1.keep HI.out.B (by omega), W1.keep HI.out.Z (by omega)⟩)
          clear HI W1 e2
          cases hx : a.set k
          · rw [hx] at d2 HB
            go_upto_region 9 with (refine wpList_index_set rfl (.tmp 16) (.tmp 17) rfl b.set k rfl rfl hlt ?_)
            simp only [Bool.false_and] at HB
            generalize wr.setCell ⟨w.heap.size, 2 + k, none⟩ (.bool false) = w2 at *
            clear d2 g2 hx
            go_wp2
            go_roundw
            case rel => exact ⟨k + 1, by omega, by go_num, HB.out⟩
            case measure => simp [intOf]; omega
          · rw [hx] at d2 HB
            go_upto_region 9 with (refine wpList_index_set rfl (.tmp 16) (.tmp 17) rfl b.set k rfl rfl hlt ?_)
            simp only [Bool.true_and] at HB
            generalize wr.setCell ⟨w.heap.size, 2 + k, none⟩ (.bool (b.set k)) = w2 at *
            clear d2 g2 hx
            go_wp2
            go_roundw
            case rel => exact ⟨k + 1, by omega, by go_num, HB.out⟩
            case measure => simp [intOf]; omega
        · have e2 : k = 250 := by omega
          subst e2
          have HE : Hid (setV (mixS a b 250).set = setV (setBoth a b)) := by
            show _ = _
            rw [HG.out]
            refine setV_congr fun i hi => ?_
            unfold mixS
            simp [hi]
          have rA := Sta.row HI.out.A
          rw [HE.out] at rA
          have bZ := HI.out.Z
          go_wp2_with (first | (refine wpList_load_mid rfl 73 (.tmp 32) rfl w.heap.size 2 (by kernel_rfl) (setV (setBoth a b)) _ rA Try.underlying73 rfl (by rw [setV_len]; kernel_rfl) ?_) | (refine wpList_store_blk rfl rfl 73 (.tmp 4) (.tmp 33) rfl (w.heap.size + 2) (setV (setBoth a b)) (by kernel_rfl) (by kernel_rfl) (setV_one _) bZ (by rw [setV_len, setV_len]) (by simp only [List.size_toArray, setV_len]; kernel_rfl) ?_; intro w2 W2))
          exact bodyPost_ret (v := .agg (setV (setBoth a b)).toArray) (results_set Try.results103 rfl W2.blk.range) rfl ⟨rfl, W2.below (by omega) HI.out.bl⟩
    · have HG : Hid (setBoth a b = a.set) := by show _ = _; unfold setBoth; rw [ha, hb]; rfl
      have HA := hid (show a.gone = false ∧ b.gone = true from ⟨ha, hb⟩)
      clear ha hb
      rw [HG.out]
      go_enter Try.func103, Try.ntmps103
      go_upto_region 1 with (refine wpList_alloc_set rfl rfl ?_)
      generalize (((w.alloc (.cells a.va 75)).alloc (.cells b.va 75)).alloc (.cells (setV fun _ => false).toArray 73)) = w1 at *
      have a3 : w1.cell? ⟨w.heap.size, 252, none⟩ = some (.bool false) := HI.out.A.cell 252 (by rw [a.v252, HA.out.1])
      have b3 : w1.cell? ⟨w.heap.size + 1, 252, none⟩ = some (.bool true) := HI.out.B.cell 252 (by rw [b.v252, HA.out.2])
      have rA := Sta.row HI.out.A
      have bZ := HI.out.Z
      go_wp2_with (first | (refine wpList_load_mid rfl 73 (.tmp 13) rfl w.heap.size 2 (by kernel_rfl) (setV a.set) _ rA Try.underlying73 rfl (by rw [setV_len]; kernel_rfl) ?_) | (refine wpList_store_blk rfl rfl 73 (.tmp 4) (.tmp 14) rfl (w.heap.size + 2) (setV a.set) (by kernel_rfl) (by kernel_rfl) (setV_one _) bZ (by rw [setV_len, setV_len]) (by simp only [List.size_toArray, setV_len]; kernel_rfl) ?_; intro w2 W2))
      exact bodyPost_ret (v := .agg (setV a.set).toArray) (results_set Try.results103 rfl W2.blk.range) rfl ⟨rfl, W2.below (by omega) HI.out.bl⟩
  · have HG : Hid (setBoth a b = b.set) := by show _ = _; unfold setBoth; rw [ha]; rfl
    have HA := hid (show a.gone = true from ha)
    clear ha
    rw [HG.out]
    go_enter Try.func103, Try.ntmps103
    go_upto_region 1 with (refine wpList_alloc_set rfl rfl ?_)
    generalize (((w.alloc (.cells a.va 75)).alloc (.cells b.va 75)).alloc (.cells (setV fun _ => false).toArray 73)) = w1 at *
    have a3 : w1.cell? ⟨w.heap.size, 252, none⟩ = some (.bool true) := HI.out.A.cell 252 (by rw [a.v252, HA.out])
    have rB := Sta.row HI.out.B
    have bZ := HI.out.Z
    go_wp2_with (first | (refine wpList_load_mid rfl 73 (.tmp 9) rfl (w.heap.size + 1) 2 (by kernel_rfl) (setV b.set) _ rB Try.underlying73 rfl (by rw [setV_len]; kernel_rfl) ?_) | (refine wpList_store_blk rfl rfl 73 (.tmp 4) (.tmp 10) rfl (w.heap.size + 2) (setV b.set) (by kernel_rfl) (by kernel_rfl) (setV_one _) bZ (by rw [setV_len, setV_len]) (by simp only [List.size_toArray, setV_len]; kernel_rfl) ?_; intro w2 W2))
    exact bodyPost_ret (v := .agg (setV b.set).toArray) (results_set Try.results103 rfl W2.blk.range) rfl ⟨rfl, W2.below (by omega) HI.out.bl⟩
end Go.Proofs.Ytbdhbgilaeldgaa

/- Layer 10: junction. -/
namespace Go.Proofs.Ytbdhbgilaeldgaa
open Go Go.RowKit

theorem run_build_st4 (a x : Int) (f : Nat → Bool) (g : Bool) (w : World) : (Instr.build 75 #[(0, .int .i64 a), (1, .int .i64 x), (2, .agg (setV f).toArray), (3, .bool g)]).run Try.prog w = .ok (.agg (⟨a, x, f, g⟩ : Sta).vs.toArray) w := by kernel_rfl
theorem run_build_st3 (a x : Int) (f : Nat → Bool) (w : World) : (Instr.build 75 #[(0, .int .i64 a), (1, .int .i64 x), (2, .agg (setV f).toArray)]).run Try.prog w = .ok (.agg (⟨a, x, f, false⟩ : Sta).vs.toArray) w := by kernel_rfl
theorem wp_buildI {o : Oper} {a : Act} {w w' : World} {v : Value} {K : Act → World → Prop} {Q : Exit → Act → World → Prop} (t : TypeId) (parts : Array (Nat × Operand)) (ho : o.op = .build t parts) (vals : Array (Nat × Value)) (hv : (parts.map fun (i, x) => (i, a.eval x)) = vals)
    (hs : (Instr.build t vals).run Try.prog w = .ok v w') (h : K (a.put o.dst v) w') : o.wp Try.prog a w K Q := by
  subst hv
  unfold Oper.wp execOp
  simp only [ho, Sem.run_bind, hs, Result.andThen_ok, Sem.run_pure]
  exact h
theorem results_st1 {fn : Func} {tmps : Array Value} {k B : Nat} {s : Sta} {w : World} (hf : fn.results = #[.cell k 75]) (ht : tmps.getD k undef = .pointer (some ⟨B, 0, none⟩)) (C : w.rangeAt B 0 s.vs) : (results fn tmps).run Try.prog w = .ok (.agg s.vs.toArray) w := by
  have h := loadVar_row (ty := 75) C Try.underlying75 rfl (by rw [s.len]; kernel_rfl)
  generalize s.vs.toArray = va at h ⊢
  have ha : (asAddr (tmps[k]?.getD undef)).run Try.prog w = .ok ⟨B, 0, none⟩ w := by rw [show tmps[k]?.getD undef = .pointer (some ⟨B, 0, none⟩) by simpa using ht]; rfl
  unfold results
  rw [hf]
  simp [ha, h]
def Sj (w : World) (j : Jd) (s a b : Sta) (q : World) : Prop := Below w.heap.size w q ∧ Blk q w.heap.size j.vs 57 ∧ Blk q (w.heap.size + 1) s.vs 75 ∧ Blk q (w.heap.size + 2) a.vs 75 ∧ Blk q (w.heap.size + 3) b.vs 75
structure Jnc (w : World) (j : Jd) (s a b : Sta) (u : World) : Prop where
  S : Sj w j s a b u
  Z : Blk u (w.heap.size + 4) Sta.zero.vs 75
theorem Jnc.kept {w : World} {j : Jd} {s a b : Sta} {u u' : World} (h : Jnc w j s a b u) (hb : Below u.heap.size u u') : Jnc w j s a b u' :=
  ⟨⟨Below.next h.S.1 hb, h.S.2.1.kept hb, h.S.2.2.1.kept hb, h.S.2.2.2.1.kept hb, h.S.2.2.2.2.kept hb⟩, h.Z.kept hb⟩
theorem jnc_new (w : World) (j : Jd) (s a b : Sta) : Jnc w j s a b (((((w.alloc (.cells j.va 57)).alloc (.cells s.va 75)).alloc (.cells a.va 75)).alloc (.cells b.va 75)).alloc (.cells Sta.zero.va 75)) := by
  have H := allocs_heap [.cells j.va 57, .cells s.va 75, .cells a.va 75, .cells b.va 75, .cells Sta.zero.va 75] w
  have B0 := allocs_below [.cells j.va 57, .cells s.va 75, .cells a.va 75, .cells b.va 75, .cells Sta.zero.va 75] w
  simp only [List.foldl] at H B0
  exact ⟨⟨B0, H 0 (by simp), H 1 (by simp), H 2 (by simp), H 3 (by simp)⟩, H 4 (by simp)⟩
set_option maxRecDepth 100000 in
set_option maxHeartbeats 16000000 in
theorem junction_any (j : Jd) (s a b : Sta) (x : Int) (w : World) (hn : j.n.At w) (hg : j.g.At w) : Calls Try.prog 88 #[.agg j.va, .agg s.va, .agg a.va, .agg b.va, .int .i64 x] w fun e w' => e = .returned (.agg (j.junc s a b x).vs.toArray) ∧ Below w.heap.size w w' := by
  have HI := hid (jnc_new w j s a b)
  have HH := hid (show j.n.At w ∧ j.g.At w from ⟨hn, hg⟩)
  have HG : Hid (j.junc s a b x = ⟨bothI j.n j.g s.at_ x, bothI j.n j.g s.x x, setBoth a b, a.gone && b.gone⟩) := by show _ = _; rfl
  clear hn hg
  go_enter Try.func88, Try.ntmps88
  go_upto_region 1 with (refine wpList_alloc_st rfl rfl ?_)
  generalize (((((w.alloc (.cells j.va 57)).alloc (.cells s.va 75)).alloc (.cells a.va 75)).alloc (.cells b.va 75)).alloc (.cells Sta.zero.va 75)) = w1 at *
  simp only [Act.put, alloc_size, List.setIfInBounds_toArray, List.set_cons_succ, List.set_cons_zero]
  have hS : ∀ q, (∃ x : Wd (Sj w j s a b), q = x.w) → Sj w j s a b q := by rintro _ ⟨x, rfl⟩; exact x.2
  have p0 : ∀ x : Wd (Sj w j s a b), x.w.cell? ⟨w.heap.size + 1, 0, none⟩ = some (.int .i64 s.at_) := fun x => x.2.2.2.1.cell 0 s.v0
  have p1 : ∀ x : Wd (Sj w j s a b), x.w.cell? ⟨w.heap.size + 1, 1, none⟩ = some (.int .i64 s.x) := fun x => x.2.2.2.1.cell 1 s.v1
  have pb : ∀ x : Wd (Sj w j s a b), x.w.cell? ⟨w.heap.size + 3, 252, none⟩ = some (.bool b.gone) := fun x => x.2.2.2.2.2.cell 252 b.v252
  have HV0 := hid (HI.out.kept (Below.refl w1.heap.size w1).drew)
  have hNE : Nonempty (Wd (Sj w j s a b)) := ⟨⟨_, HV0.out.S⟩⟩
  cases hga : a.gone
  · have pa : ∀ x : Wd (Sj w j s a b), x.w.cell? ⟨w.heap.size + 2, 252, none⟩ = some (.bool false) := fun x => x.2.2.2.2.1.cell 252 (by rw [a.v252, hga])
    have HGA := hid (show a.gone = false from hga)
    clear hga
    refine wp_region_readsMN (Sj w j s a b) [0, 1, 2, 3, 5, 6, 7, 8, 10, 11, 13, 14] 9 (by kernel_rfl) rfl (by kernel_rfl) (hj_of (by kernel_rfl)) HV0.out.S ?_
    simp only [List.filterMap, List.getElem?_cons_zero, List.getElem?_cons_succ]
    generalize w1.drew = v0 at *
    go_big_quiet_want
    refine quiet_load_row 57 (.tmp 5) rfl _ 0 (by kernel_rfl) j.vs _ (fun q hq => (hS q hq).2.1.range) Try.underlying57 rfl (by kernel_rfl) ?_
    simp only [Act.put, List.setIfInBounds_toArray, List.set_cons_succ, List.set_cons_zero]
    go_big_quiet_on
    iterate 3 go_big_quiet_step (fail)
    go_big_quiet_want
    refine quiet_load_row 57 (.tmp 5) rfl _ 0 (by kernel_rfl) j.vs _ (fun q hq => (hS q hq).2.1.range) Try.underlying57 rfl (by kernel_rfl) ?_
    simp only [Act.put, List.setIfInBounds_toArray, List.set_cons_succ, List.set_cons_zero]
    go_big_quiet_on
    iterate 3 go_big_quiet_step (fail)
    go_big_quiet_want
    refine quiet_load_row 75 (.tmp 7) rfl _ 0 (by kernel_rfl) a.vs _ (fun q hq => (hS q hq).2.2.2.1.range) Try.underlying75 rfl (by rw [Sta.len]; kernel_rfl) ?_
    simp only [Act.put, List.setIfInBounds_toArray, List.set_cons_succ, List.set_cons_zero]
    go_big_quiet_on
    go_big_quiet_want
    refine quiet_load_row 75 (.tmp 8) rfl _ 0 (by kernel_rfl) b.vs _ (fun q hq => (hS q hq).2.2.2.2.range) Try.underlying75 rfl (by rw [Sta.len]; kernel_rfl) ?_
    simp only [Act.put, List.setIfInBounds_toArray, List.set_cons_succ, List.set_cons_zero]
    go_big_quiet_on
    iterate 2 go_big_quiet_step (fail)
    refine wpQuiet_nil ?_
    clear hS p0 p1 pa HI
    refine wpAnyH_ready (rs := [4]) (by kernel_rfl) (by simp) ?_
    refine AllReadyH.cons rfl (fun K hK => ?_) AllReadyH.nil
    rw [if_pos (by rfl)]
    go_simp
    refine (both_any j s.at_ x v0 (HH.out.1.kept HV0.out.S.1) (HH.out.2.kept HV0.out.S.1)).mono ?_
    rintro _ v1 ⟨rfl, hb9⟩
    have HV1 := hid (HV0.out.kept hb9)
    refine hK.out _ _ HV1.out.S (fun _ => ?_)
    clear hK K hb9 HV0
    generalize bothI j.n j.g s.at_ x = y1 at *
    refine wpAnyH_ready (rs := [9]) (by kernel_rfl) (by simp) ?_
    refine AllReadyH.cons rfl (fun K hK => ?_) AllReadyH.nil
    rw [if_pos (by rfl)]
    go_simp
    refine (both_any j s.x x v1 (HH.out.1.kept HV1.out.S.1) (HH.out.2.kept HV1.out.S.1)).mono ?_
    rintro _ v2 ⟨rfl, hb9⟩
    have HV2 := hid (HV1.out.kept hb9)
    refine hK.out _ _ HV2.out.S (fun _ => ?_)
    clear hK K hb9 HV1
    generalize bothI j.n j.g s.x x = y2 at *
    refine wpAnyH_ready (rs := [12]) (by kernel_rfl) (by simp) ?_
    refine AllReadyH.cons rfl (fun K hK => ?_) AllReadyH.nil
    rw [if_pos (by rfl)]
    go_simp
    refine (setByBoth_any a b v2).mono ?_
    rintro _ v3 ⟨rfl, hb9⟩
    have HV3 := hid (HV2.out.kept hb9)
    refine hK.out _ _ HV3.out.S (fun _ => ?_)
    clear hK K hb9 HV2
    generalize setBoth a b = sb at *
    refine wpAnyH_readsN [15, 16, 17] (rest := 3) rfl (by kernel_rfl) (by kernel_rfl) HV3.out.S ?_
    simp only [List.filterMap, List.getElem?_cons_zero, List.getElem?_cons_succ]
    iterate 3 go_big_quiet_step (fail)
    refine wpQuiet_nil ?_
    clear pb hNE
    refine wpAnyH_ready (rs := [18]) (by kernel_rfl) (by simp) ?_
    refine AllReadyH.cons rfl (fun K hK => ?_) AllReadyH.nil
    rw [if_pos (by rfl)]
    go_simp
    refine hK.out _ _ HV3.out.S (fun _ => ?_)
    clear hK K
    refine wpAnyH_ready (rs := [19]) (by kernel_rfl) (by simp) ?_
    refine AllReadyH.cons rfl (fun K hK => ?_) AllReadyH.nil
    rw [if_pos (by rfl)]
    refine wp_buildI 75 #[(0, .tmp 15), (1, .tmp 20), (2, .tmp 23), (3, .tmp 29)] rfl #[(0, .int .i64 y1), (1, .int .i64 y2), (2, .agg (setV sb).toArray), (3, .bool false)] (by kernel_rfl) (run_build_st4 y1 y2 sb (false) v3) ?_
    refine hK.out _ _ HV3.out.S (fun _ => ?_)
    clear hK K
    refine wpAnyH_ready (rs := [20]) (by kernel_rfl) (by simp) ?_
    refine AllReadyH.cons rfl (fun K hK => ?_) AllReadyH.nil
    rw [if_pos (by rfl)]
    refine wp_store_wrote' 75 (.tmp 10) (.tmp 30) rfl rfl (w.heap.size + 4) (⟨y1, y2, sb, false⟩ : Sta).vs Sta.zero.vs (by kernel_rfl) (by kernel_rfl) (Sta.va_one _) HV3.out.Z (by rw [Sta.len, Sta.len]) (by simp only [List.size_toArray, Sta.len]; kernel_rfl) ?_
    intro w6 W2
    have HV4 := hid (show Sj w j s a b w6 from ⟨W2.below (by omega) HV3.out.S.1, W2.keep HV3.out.S.2.1 (by omega), W2.keep HV3.out.S.2.2.1 (by omega), W2.keep HV3.out.S.2.2.2.1 (by omega), W2.keep HV3.out.S.2.2.2.2 (by omega)⟩)
    refine hK.out _ _ HV4.out (fun _ => ?_)
    clear hK K
    refine wpAnyH_done (by kernel_rfl) ?_ _
    refine ⟨(fun c hc => by cases hc), ?_⟩
    go_wp2
    refine bodyPost_ret (v := .agg (⟨y1, y2, sb, false⟩ : Sta).vs.toArray) (results_st1 Try.results88 rfl W2.blk.range) rfl ⟨?_, HV4.out.1⟩
    rw [HG.out, HGA.out]
    first | rfl | simp
  · have pa : ∀ x : Wd (Sj w j s a b), x.w.cell? ⟨w.heap.size + 2, 252, none⟩ = some (.bool true) := fun x => x.2.2.2.2.1.cell 252 (by rw [a.v252, hga])
    have HGA := hid (show a.gone = true from hga)
    clear hga
    refine wp_region_readsMN (Sj w j s a b) [0, 1, 2, 3, 5, 6, 7, 8, 10, 11, 13, 14] 9 (by kernel_rfl) rfl (by kernel_rfl) (hj_of (by kernel_rfl)) HV0.out.S ?_
    simp only [List.filterMap, List.getElem?_cons_zero, List.getElem?_cons_succ]
    generalize w1.drew = v0 at *
    go_big_quiet_want
    refine quiet_load_row 57 (.tmp 5) rfl _ 0 (by kernel_rfl) j.vs _ (fun q hq => (hS q hq).2.1.range) Try.underlying57 rfl (by kernel_rfl) ?_
    simp only [Act.put, List.setIfInBounds_toArray, List.set_cons_succ, List.set_cons_zero]
    go_big_quiet_on
    iterate 3 go_big_quiet_step (fail)
    go_big_quiet_want
    refine quiet_load_row 57 (.tmp 5) rfl _ 0 (by kernel_rfl) j.vs _ (fun q hq => (hS q hq).2.1.range) Try.underlying57 rfl (by kernel_rfl) ?_
    simp only [Act.put, List.setIfInBounds_toArray, List.set_cons_succ, List.set_cons_zero]
    go_big_quiet_on
    iterate 3 go_big_quiet_step (fail)
    go_big_quiet_want
    refine quiet_load_row 75 (.tmp 7) rfl _ 0 (by kernel_rfl) a.vs _ (fun q hq => (hS q hq).2.2.2.1.range) Try.underlying75 rfl (by rw [Sta.len]; kernel_rfl) ?_
    simp only [Act.put, List.setIfInBounds_toArray, List.set_cons_succ, List.set_cons_zero]
    go_big_quiet_on
    go_big_quiet_want
    refine quiet_load_row 75 (.tmp 8) rfl _ 0 (by kernel_rfl) b.vs _ (fun q hq => (hS q hq).2.2.2.2.range) Try.underlying75 rfl (by rw [Sta.len]; kernel_rfl) ?_
    simp only [Act.put, List.setIfInBounds_toArray, List.set_cons_succ, List.set_cons_zero]
    go_big_quiet_on
    iterate 2 go_big_quiet_step (fail)
    refine wpQuiet_nil ?_
    clear hS p0 p1 pa HI
    refine wpAnyH_ready (rs := [4]) (by kernel_rfl) (by simp) ?_
    refine AllReadyH.cons rfl (fun K hK => ?_) AllReadyH.nil
    rw [if_pos (by rfl)]
    go_simp
    refine (both_any j s.at_ x v0 (HH.out.1.kept HV0.out.S.1) (HH.out.2.kept HV0.out.S.1)).mono ?_
    rintro _ v1 ⟨rfl, hb9⟩
    have HV1 := hid (HV0.out.kept hb9)
    refine hK.out _ _ HV1.out.S (fun _ => ?_)
    clear hK K hb9 HV0
    generalize bothI j.n j.g s.at_ x = y1 at *
    refine wpAnyH_ready (rs := [9]) (by kernel_rfl) (by simp) ?_
    refine AllReadyH.cons rfl (fun K hK => ?_) AllReadyH.nil
    rw [if_pos (by rfl)]
    go_simp
    refine (both_any j s.x x v1 (HH.out.1.kept HV1.out.S.1) (HH.out.2.kept HV1.out.S.1)).mono ?_
    rintro _ v2 ⟨rfl, hb9⟩
    have HV2 := hid (HV1.out.kept hb9)
    refine hK.out _ _ HV2.out.S (fun _ => ?_)
    clear hK K hb9 HV1
    generalize bothI j.n j.g s.x x = y2 at *
    refine wpAnyH_ready (rs := [12]) (by kernel_rfl) (by simp) ?_
    refine AllReadyH.cons rfl (fun K hK => ?_) AllReadyH.nil
    rw [if_pos (by rfl)]
    go_simp
    refine (setByBoth_any a b v2).mono ?_
    rintro _ v3 ⟨rfl, hb9⟩
    have HV3 := hid (HV2.out.kept hb9)
    refine hK.out _ _ HV3.out.S (fun _ => ?_)
    clear hK K hb9 HV2
    generalize setBoth a b = sb at *
    refine wpAnyH_readsN [15, 16, 17] (rest := 3) rfl (by kernel_rfl) (by kernel_rfl) HV3.out.S ?_
    simp only [List.filterMap, List.getElem?_cons_zero, List.getElem?_cons_succ]
    iterate 3 go_big_quiet_step (fail)
    refine wpQuiet_nil ?_
    clear pb hNE
    refine wpAnyH_ready (rs := [18]) (by kernel_rfl) (by simp) ?_
    refine AllReadyH.cons rfl (fun K hK => ?_) AllReadyH.nil
    rw [if_pos (by rfl)]
    go_simp
    refine hK.out _ _ HV3.out.S (fun _ => ?_)
    clear hK K
    refine wpAnyH_ready (rs := [19]) (by kernel_rfl) (by simp) ?_
    refine AllReadyH.cons rfl (fun K hK => ?_) AllReadyH.nil
    rw [if_pos (by rfl)]
    refine wp_buildI 75 #[(0, .tmp 15), (1, .tmp 20), (2, .tmp 23), (3, .tmp 29)] rfl #[(0, .int .i64 y1), (1, .int .i64 y2), (2, .agg (setV sb).toArray), (3, .bool b.gone)] (by kernel_rfl) (run_build_st4 y1 y2 sb (b.gone) v3) ?_
    refine hK.out _ _ HV3.out.S (fun _ => ?_)
    clear hK K
    refine wpAnyH_ready (rs := [20]) (by kernel_rfl) (by simp) ?_
    refine AllReadyH.cons rfl (fun K hK => ?_) AllReadyH.nil
    rw [if_pos (by rfl)]
    refine wp_store_wrote' 75 (.tmp 10) (.tmp 30) rfl rfl (w.heap.size + 4) (⟨y1, y2, sb, b.gone⟩ : Sta).vs Sta.zero.vs (by kernel_rfl) (by kernel_rfl) (Sta.va_one _) HV3.out.Z (by rw [Sta.len, Sta.len]) (by simp only [List.size_toArray, Sta.len]; kernel_rfl) ?_
    intro w6 W2
    have HV4 := hid (show Sj w j s a b w6 from ⟨W2.below (by omega) HV3.out.S.1, W2.keep HV3.out.S.2.1 (by omega), W2.keep HV3.out.S.2.2.1 (by omega), W2.keep HV3.out.S.2.2.2.1 (by omega), W2.keep HV3.out.S.2.2.2.2 (by omega)⟩)
    refine hK.out _ _ HV4.out (fun _ => ?_)
    clear hK K
    refine wpAnyH_done (by kernel_rfl) ?_ _
    refine ⟨(fun c hc => by cases hc), ?_⟩
    go_wp2
    refine bodyPost_ret (v := .agg (⟨y1, y2, sb, b.gone⟩ : Sta).vs.toArray) (results_st1 Try.results88 rfl W2.blk.range) rfl ⟨?_, HV4.out.1⟩
    rw [HG.out, HGA.out]
    first | rfl | simp
end Go.Proofs.Ytbdhbgilaeldgaa
