/- Layer 10: slots and bodies as the statements lay them. -/
import Derived.Test.YtcnepnhbfleegaaP24
import Derived.Test.YtcnepnhbfleegaaP13
namespace Go.Proofs.Ytcnepnhbfleegaa
open Go Go.RowKit

theorem flatI_get {α : Type} (v : α → List Value) (k : Nat) (hv : ∀ x, (v x).length = k) : ∀ (l : List α) (i j : Nat), j < k → (l.flatMap v)[i * k + j]? = l[i]?.bind (fun x => (v x)[j]?)
  | [], i, j, _ => by simp
  | x :: l, 0, j, h => by
    rw [List.flatMap_cons, Nat.zero_mul, Nat.zero_add, List.getElem?_append_left (by rw [hv]; exact h)]
    rfl
  | x :: l, i + 1, j, h => by
    rw [List.flatMap_cons, List.getElem?_append_right (by rw [hv, Nat.succ_mul]; omega), hv, show (i + 1) * k + j - k = i * k + j by rw [Nat.succ_mul]; omega, flatI_get v k hv l i j h]
    rfl
theorem flatI_len {α : Type} (v : α → List Value) (k : Nat) (hv : ∀ x, (v x).length = k) : ∀ l : List α, (l.flatMap v).length = l.length * k
  | [] => by simp
  | x :: l => by rw [List.flatMap_cons, List.length_append, hv, flatI_len v k hv l, List.length_cons, Nat.succ_mul]; omega
/-- Slots of Ints of these labels. -/
def slT (B : Nat) (ls : List Nat) : Ty := .mk 0 0 0 0 (some ⟨B, 0, none⟩) B 0 ls.length ls.length (fun i => leafT 1 (ls[i]?.getD 0 : Nat))
def slV (ls : List Nat) : List Value := ls.flatMap fun l => (leafT 1 (l : Nat)).vs
theorem slT_at {w : World} {B : Nat} {ls : List Nat} (h : Blk w B (slV ls) 39) (hl : ls.length ≤ 1000) : (slT B ls).At w := by
  refine ⟨fun _ => rfl, by omega, fun i hi => ⟨range_C5 (fun j v hv => ?_), leaf_at _ _ _⟩⟩
  have hj : j < 5 := by
    rcases Nat.lt_or_ge j 5 with h1 | h1
    · exact h1
    · rw [List.getElem?_eq_none (by simpa [Ty.vs] using h1)] at hv; cases hv
  have := h.cell (i * 5 + j) (v := v) (by
    show (slV ls)[i * 5 + j]? = some v
    unfold slV
    rw [flatI_get _ 5 (fun x => by simp [Ty.vs]) ls i j hj, List.getElem?_eq_getElem hi]
    show (leafT 1 (ls[i] : Nat)).vs[j]? = some v
    replace hv : (leafT 1 (ls[i]?.getD 0 : Nat)).vs[j]? = some v := hv
    rw [List.getElem?_eq_getElem hi] at hv
    exact hv)
  rw [Nat.zero_add]
  exact this
/-- These nodes, from a block's beginning on. -/
def bdN (B cap : Nat) (hs : List Nd) : Ns := ⟨some ⟨B, 0, none⟩, B, 0, hs.length, cap, fun i => hs[i]?.getD .dm⟩
def bdV (hs : List Nd) : List Value := hs.flatMap Nd.vs
theorem bdV_len (hs : List Nd) : (bdV hs).length = hs.length * 14 := flatI_len _ 14 (fun _ => rfl) hs
theorem bdV_one (hs : List Nd) : ∀ u ∈ bdV hs, u.oneCell' = true := by
  intro u hu
  unfold bdV at hu
  rw [List.mem_flatMap] at hu
  obtain ⟨nd, _, hn⟩ := hu
  have := nd.va_one
  rw [List.all_eq_true] at this
  exact this u hn
theorem bdN_at {w : World} {base B cap : Nat} {hs : List Nd} (h : w.ownsRow base 46 14 (.slice (some ⟨B, 0, none⟩) hs.length cap) hs.length (bdV hs)) (hl : hs.length ≤ 1000) (hA : ∀ nd ∈ hs, nd.At w) : (bdN B cap hs).At w := by
  refine ⟨fun _ => rfl, by show hs.length ≤ _; omega, fun i hi j v hv => ?_, fun i hi => ?_⟩
  · have hi' : i < hs.length := hi
    have hv' : (hs[i]?.getD .dm).vs[j]? = some v := hv
    rw [List.getElem?_eq_getElem hi'] at hv'
    have hj : j < 14 := by
      rcases Nat.lt_or_ge j 14 with h1 | h1
      · exact h1
      · rw [List.getElem?_eq_none (by simpa [Nd.vs] using h1)] at hv'; cases hv'
    have := h.cells (g := B) rfl (i * 14 + j) v (by
      unfold bdV
      rw [flatI_get _ 14 (fun _ => rfl) hs i j hj, List.getElem?_eq_getElem hi']
      exact hv')
    show w.cell? ⟨B, 0 + i * 14 + j, none⟩ = some v
    rw [Nat.zero_add]
    have e : (⟨B, 0, none⟩ : Addr).add (i * 14 + j) = ⟨B, i * 14 + j, none⟩ := by simp [Addr.add]; omega
    rw [e] at this
    exact this
  · have hi' : i < hs.length := hi
    show (hs[i]?.getD .dm).At w
    rw [List.getElem?_eq_getElem hi']
    exact hA _ (List.getElem_mem hi')
theorem Try.infoNd : (Try.prog.info? 46).map (fun i => (i.zero, i.size, i.bytes)) = some (some (.agg zNv.toArray), 14, 176) := by kernel_rfl
theorem fill1_nd (r : Nd) : Instr.fill (fun i => some (i * 14, 14)) (Array.map (fun x => zNv[x % zNv.length]?.getD default) (Array.range 14)) [(0, Value.agg r.vs.toArray)] = some (bdV [r]).toArray := by kernel_rfl
theorem fill2_nd (r s : Nd) : Instr.fill (fun i => some (i * 14, 14)) (Array.map (fun x => zNv[x % zNv.length]?.getD default) (Array.range 28)) [(0, Value.agg r.vs.toArray), (1, Value.agg s.vs.toArray)] = some (bdV [r, s]).toArray := by kernel_rfl
theorem fill4_nd (r s t u : Nd) : Instr.fill (fun i => some (i * 14, 14)) (Array.map (fun x => zNv[x % zNv.length]?.getD default) (Array.range 56)) [(0, Value.agg r.vs.toArray), (1, Value.agg s.vs.toArray), (2, Value.agg t.vs.toArray), (3, Value.agg u.vs.toArray)] = some (bdV [r, s, t, u]).toArray := by kernel_rfl
theorem run_slice1_nd (r : Nd) (w : World) : (Instr.buildSlice 41 1 #[(0, .agg r.vs.toArray)]).run Try.prog w = .ok (.slice (some ⟨w.heap.size, 0, none⟩) 1 1) (w.alloc (.cells (bdV [r]).toArray 46)) := by
  obtain ⟨i0, hi, hz0, hz1, hz2⟩ := info_parts Try.infoNd
  simp [Instr.buildSlice, run_underlying Try.underlying41, sizeOf, typeInfo, hi, hz0, hz1, zeroValue, newRow, Value.cells, fill1_nd]
theorem run_slice2_nd (r s : Nd) (w : World) : (Instr.buildSlice 41 2 #[(0, .agg r.vs.toArray), (1, .agg s.vs.toArray)]).run Try.prog w = .ok (.slice (some ⟨w.heap.size, 0, none⟩) 2 2) (w.alloc (.cells (bdV [r, s]).toArray 46)) := by
  obtain ⟨i0, hi, hz0, hz1, hz2⟩ := info_parts Try.infoNd
  simp [Instr.buildSlice, run_underlying Try.underlying41, sizeOf, typeInfo, hi, hz0, hz1, zeroValue, newRow, Value.cells, fill2_nd]
theorem run_slice4_nd (r s t u : Nd) (w : World) : (Instr.buildSlice 41 4 #[(0, .agg r.vs.toArray), (1, .agg s.vs.toArray), (2, .agg t.vs.toArray), (3, .agg u.vs.toArray)]).run Try.prog w = .ok (.slice (some ⟨w.heap.size, 0, none⟩) 4 4) (w.alloc (.cells (bdV [r, s, t, u]).toArray 46)) := by
  obtain ⟨i0, hi, hz0, hz1, hz2⟩ := info_parts Try.infoNd
  simp [Instr.buildSlice, run_underlying Try.underlying41, sizeOf, typeInfo, hi, hz0, hz1, zeroValue, newRow, Value.cells, fill4_nd]
theorem fill3_ty (r s t : Nat) : Instr.fill (fun i => some (i * 5, 5)) (Array.map (fun x => zTv[x % zTv.length]?.getD default) (Array.range 15)) [(0, Value.agg (leafT 1 (r : Nat)).vs.toArray), (1, Value.agg (leafT 1 (s : Nat)).vs.toArray), (2, Value.agg (leafT 1 (t : Nat)).vs.toArray)] = some (slV [r, s, t]).toArray := by kernel_rfl
theorem fill4_ty (r s t u : Nat) : Instr.fill (fun i => some (i * 5, 5)) (Array.map (fun x => zTv[x % zTv.length]?.getD default) (Array.range 20)) [(0, Value.agg (leafT 1 (r : Nat)).vs.toArray), (1, Value.agg (leafT 1 (s : Nat)).vs.toArray), (2, Value.agg (leafT 1 (t : Nat)).vs.toArray), (3, Value.agg (leafT 1 (u : Nat)).vs.toArray)] = some (slV [r, s, t, u]).toArray := by kernel_rfl
theorem run_slice3_tl (r s t : Nat) (w : World) : (Instr.buildSlice 37 3 #[(0, .agg (leafT 1 (r : Nat)).vs.toArray), (1, .agg (leafT 1 (s : Nat)).vs.toArray), (2, .agg (leafT 1 (t : Nat)).vs.toArray)]).run Try.prog w = .ok (.slice (some ⟨w.heap.size, 0, none⟩) 3 3) (w.alloc (.cells (slV [r, s, t]).toArray 39)) := by
  obtain ⟨i0, hi, hz0, hz1, hz2⟩ := info_parts Try.infoTyI
  simp [Instr.buildSlice, run_underlying Try.underlying37, sizeOf, typeInfo, hi, hz0, hz1, zeroValue, newRow, Value.cells, fill3_ty]
theorem run_slice4_tl (r s t u : Nat) (w : World) : (Instr.buildSlice 37 4 #[(0, .agg (leafT 1 (r : Nat)).vs.toArray), (1, .agg (leafT 1 (s : Nat)).vs.toArray), (2, .agg (leafT 1 (t : Nat)).vs.toArray), (3, .agg (leafT 1 (u : Nat)).vs.toArray)]).run Try.prog w = .ok (.slice (some ⟨w.heap.size, 0, none⟩) 4 4) (w.alloc (.cells (slV [r, s, t, u]).toArray 39)) := by
  obtain ⟨i0, hi, hz0, hz1, hz2⟩ := info_parts Try.infoTyI
  simp [Instr.buildSlice, run_underlying Try.underlying37, sizeOf, typeInfo, hi, hz0, hz1, zeroValue, newRow, Value.cells, fill4_ty]
set_option maxHeartbeats 2000000 in
theorem number_any (l : Nat) (w : World) : Calls Try.prog 15 #[.int .i64 l] w fun e w' => e = .returned (.agg (leafT 1 (l : Nat)).vs.toArray) ∧ Below w.heap.size w w' := by
  have B0 := below_alloc w (.cells #[.int .i64 0, .int .i64 0, .slice none 0 0, .int .i64 0, .int .i64 0] 39)
  have bZ : Blk (w.alloc (.cells #[.int .i64 0, .int .i64 0, .slice none 0 0, .int .i64 0, .int .i64 0] 39)) w.heap.size zTv 39 := Blk.new w _ _
  go_enter Try.func15, Try.ntmps15
  go_wp2_with (refine wpList_store_blk rfl rfl 39 (.tmp 2) (.tmp 4) rfl w.heap.size (leafT 1 (l : Nat)).vs (by kernel_rfl) (by kernel_rfl) rfl bZ rfl (by kernel_rfl) ?_; intro w2 W2)
  have z0 := W2.blk.cell 0 rfl
  have z1 := W2.blk.cell 1 rfl
  have z2 := W2.blk.cell 2 rfl
  have z3 := W2.blk.cell 3 rfl
  have z4 := W2.blk.cell 4 rfl
  exact bodyPost_ret (v := .agg (leafT 1 (l : Nat)).vs.toArray) (by simp [results, Try.results15, go_sem, z0, z1, z2, z3, z4, Ty.vs]) rfl ⟨rfl, W2.below (Nat.le_refl _) B0⟩
/-- A straight function as the statements lay it. -/
def fnH (p r h : Nat) (e : Int) (BS : Nat) (ls : List Nat) (body : Ns) (out : Int) : Fc := ⟨leafT 1 (p : Nat), leafT 1 (r : Nat), leafT 0 0, h, e, slT BS ls, body, out⟩
theorem fnH_at {w : World} {p r h : Nat} {e : Int} {BS : Nat} {ls : List Nat} {body : Ns} {out : Int} (hb : Blk w BS (slV ls) 39) (hl : ls.length ≤ 1000) (hB : body.At w) : (fnH p r h e BS ls body out).At w :=
  ⟨leaf_at _ _ _, leaf_at _ _ _, leaf_at _ _ _, slT_at hb hl, hB, Nat.le_refl _⟩
end Go.Proofs.Ytcnepnhbfleegaa

/- Layer 10: what the functions of IrEnv come to. -/
namespace Go.Proofs.Ytcnepnhbfleegaa
open Go Go.RowKit

/-- Nodes of a list gone through. -/
def runL (j : Jd) (hs : List Nd) (s : Sta) : Option Sta := hs.foldl (fun o nd => o.bind (nd.run j)) (some s)
theorem runTo_take (j : Jd) (hs : List Nd) (s : Sta) : ∀ k, k ≤ hs.length → runTo (fun i => (hs[i]?.getD .dm).run j) k s = runL j (hs.take k) s
  | 0, _ => by unfold runL; simp [runTo]
  | k + 1, h => by
    show (runTo (fun i => (hs[i]?.getD .dm).run j) k s).bind ((hs[k]?.getD .dm).run j) = _
    rw [runTo_take j hs s k (by omega), List.take_add_one, List.getElem?_eq_getElem (by omega)]
    unfold runL
    rw [List.foldl_append]
    rfl
theorem list_bd (j : Jd) (B c : Nat) (hs : List Nd) (s : Sta) : j.list (bdN B c hs) s = runL j hs s := by
  show runTo (fun i => (hs[i]?.getD .dm).run j) hs.length s = _
  rw [runTo_take j hs s hs.length (Nat.le_refl _), List.take_length]
def eN (tp o : Nat) : Nd := sN 4 (1 + (o / 64 % 2 : Nat)) 0 1 (6 + (o % 5 : Nat)) tp
def eb (tp : Nat) (os : List Nat) : List Nd := sN 3 1 0 0 0 tp :: os.map (eN tp)
def dvB (os : List Nat) : Bool := os.any fun o => decide (9 ≤ 6 + o % 5)
structure En (n : Strs) (g : Grid) (bt tp : Nat) : Prop where
  F : formedB n g = true
  hbt : botI n g = (bt : Int)
  ltb : bt < n.len
  low : ∀ c, c < n.len → g.B bt c = true
  ltt : tp < n.len
  high : ∀ c, c < n.len → g.B c tp = true
variable {n : Strs} {g : Grid} {bt tp : Nat}
theorem tp3 (tp i : Nat) (hi : i < 3) : [tp, tp, tp][i]?.getD 0 = tp := by
  match i, hi with
  | 0, _ => rfl
  | 1, _ => rfl
  | 2, _ => rfl
theorem En.sf (h : En n g bt tp) (BS B c : Nat) (hs : List Nd) (hl : hs.length ≤ 100) (hb : ∀ nd ∈ hs, ∃ op dst a b nn env, nd = sN op dst a b nn env ∧ (sN op dst a b nn env).shp n g 1 3 = true) : Sf n g (fnH tp tp bt tp BS [tp, tp, tp] (bdN B c hs) 1) (fun i => [tp, tp, tp][i]?.getD 0) := by
  refine ⟨h.F, ?_, rfl, by show 1 ≤ 3; decide, by show 3 ≤ 250; decide, fun _ _ => rfl, fun i hi => ?_, rfl, by show hs.length ≤ 4096; omega, fun i hi => ?_⟩
  · rw [h.hbt]; exact fun_okB h.F h.ltt h.ltt h.ltb h.ltt h.ltb
  · have hi' : i < 3 := hi
    rw [tp3 tp i hi']; exact h.ltt
  · have hi' : i < hs.length := hi
    obtain ⟨op, dst, a, b, nn, env, e, hsh⟩ := hb hs[i] (List.getElem_mem hi')
    exact ⟨op, dst, a, b, nn, env, by show hs[i]?.getD .dm = _; rw [List.getElem?_eq_getElem hi']; exact e, hsh⟩
theorem En.eb_shp (h : En n g bt tp) (os : List Nat) : ∀ nd ∈ eb tp os, ∃ op dst a b nn env, nd = sN op dst a b nn env ∧ (sN op dst a b nn env).shp n g 1 3 = true := by
  intro nd hnd
  have ht := h.ltt
  unfold eb at hnd
  rw [List.mem_cons, List.mem_map] at hnd
  rcases hnd with rfl | ⟨o, _, rfl⟩
  · exact ⟨_, _, _, _, _, _, rfl, shp3 (by omega) (by omega) (by decide) (by decide) (by decide) (by decide)⟩
  · have h1 : o / 64 % 2 < 2 := Nat.mod_lt _ (by decide)
    have h2 : o % 5 < 5 := Nat.mod_lt _ (by decide)
    exact ⟨_, _, _, _, _, _, rfl, shp4 (by omega) (by omega) (by omega) (by omega) (by decide) (by decide) (by decide) (by decide) (by omega) (by omega)⟩
/-- The state behind all. -/
theorem En.run (h : En n g bt tp) {j : Jd} {L : Nat → Nat} (hl : Lf j L bt) (hn : j.n = n) (hg : j.g = g) (h3 : j.f.slots.len = 3) (hL : ∀ i, i < 3 → L i = tp) (S : Nat → Bool) (S0 : S 0 = true) (os : List Nat) :
    ∃ T : Nat → Bool, T 0 = true ∧ T 1 = true ∧ runL j (eb tp os) ⟨bt, -1, S, false⟩ = some ⟨(if dvB os = true then tp else bt : Nat), (if dvB os = true then (tp : Int) else -1), T, false⟩ := by
  subst hn hg
  have rr : ∀ c, c < j.n.len → j.g.B c c = true := fun c hc => lq_refl h.F hc
  have jtt : Jn j.g tp tp = tp := jn_self h.F h.ltt
  have e1 := hl.run3 (sN_at 3 1 0 0 0 tp default) (a := 0) (d := 1) (e := tp) (t := bt) (x := -1) (S := S) rfl (by omega) (by omega) h.ltt h.ltb (Or.inl rfl) rfl rfl rfl (h.high bt h.ltb) S0 (by rw [hL 0 (by decide), hL 1 (by decide), jtt]; exact rr tp h.ltt)
  have key : ∀ (os : List Nat) (dv : Bool) (T : Nat → Bool), T 0 = true → T 1 = true → ∃ T' : Nat → Bool, T' 0 = true ∧ T' 1 = true ∧ (os.map (eN tp)).foldl (fun o nd => o.bind (nd.run j)) (some (⟨(if dv = true then tp else bt : Nat), (if dv = true then (tp : Int) else -1), T, false⟩ : Sta)) = some ⟨(if (dv || dvB os) = true then tp else bt : Nat), (if (dv || dvB os) = true then (tp : Int) else -1), T', false⟩ := by
    intro os
    induction os with
    | nil => intro dv T h0 h1; exact ⟨T, h0, h1, by simp [dvB]⟩
    | cons o os ih =>
      intro dv T h0 h1
      have k1 : o / 64 % 2 < 2 := Nat.mod_lt _ (by decide)
      have k2 : o % 5 < 5 := Nat.mod_lt _ (by decide)
      have u0 : ∀ d, (upd T d) 0 = true := fun d => by show (if 0 = d then true else T 0) = true; split; rfl; exact h0
      have u1 : ∀ d, (upd T d) 1 = true := fun d => by show (if 1 = d then true else T 1) = true; split; rfl; exact h1
      have htl : (if dv = true then tp else bt : Nat) < j.n.len := by split; exact h.ltt; exact h.ltb
      have hhi := h.high _ htl
      have hd : 1 + o / 64 % 2 < 3 := by omega
      show ∃ T' : Nat → Bool, T' 0 = true ∧ T' 1 = true ∧ (os.map (eN tp)).foldl (fun o nd => o.bind (nd.run j)) ((eN tp o).run j ⟨(if dv = true then tp else bt : Nat), (if dv = true then (tp : Int) else -1), T, false⟩) = _
      by_cases h9 : 9 ≤ 6 + o % 5
      · have e2 := hl.run4d (sN_at 4 (1 + (o / 64 % 2 : Nat)) 0 1 (6 + (o % 5 : Nat)) tp default) (a := 0) (b := 1) (d := 1 + o / 64 % 2) (e := tp) (t := (if dv = true then tp else bt : Nat)) (x := (if dv = true then (tp : Int) else -1)) (x' := (tp : Int)) (nn := 6 + (o % 5 : Nat)) (S := T) rfl (by omega) (by omega) (by omega) h.ltt htl rfl rfl rfl rfl rfl (by omega) hhi h0 h1 (by
          rw [hL 1 (by decide), jtt]
          cases dv
          · exact bothI_none' h.F h.ltt
          · show bothI j.n j.g (tp : Int) tp = tp
            rw [bothI_nat h.F h.ltt h.ltt, jtt]) (by rw [hL 0 (by decide), hL 1 (by decide), hL _ hd, jtt, jtt, jtt]; exact rr tp h.ltt)
        have e3 : Jn j.g (if dv = true then tp else bt : Nat) (Jn j.g (L 1) tp) = tp := by rw [hL 1 (by decide), jtt]; exact jn_le h.F htl h.ltt hhi
        rw [e3] at e2
        have e4 : (eN tp o).run j ⟨(if dv = true then tp else bt : Nat), (if dv = true then (tp : Int) else -1), T, false⟩ = some ⟨tp, tp, upd T (1 + o / 64 % 2), false⟩ := e2
        rw [e4]
        obtain ⟨T', t0, t1, e5⟩ := ih true (upd T (1 + o / 64 % 2)) (u0 _) (u1 _)
        refine ⟨T', t0, t1, ?_⟩
        have e6 : (dv || dvB (o :: os)) = true := by unfold dvB; simp [h9]
        rw [e6]
        exact e5
      · have e2 := hl.run4n (sN_at 4 (1 + (o / 64 % 2 : Nat)) 0 1 (6 + (o % 5 : Nat)) tp default) (a := 0) (b := 1) (d := 1 + o / 64 % 2) (e := tp) (t := (if dv = true then tp else bt : Nat)) (x := (if dv = true then (tp : Int) else -1)) (nn := 6 + (o % 5 : Nat)) (S := T) rfl (by omega) (by omega) (by omega) h.ltt htl (by
          cases dv
          · exact Or.inl rfl
          · exact Or.inr ⟨tp, rfl, h.ltt⟩) rfl rfl rfl rfl rfl (by omega) hhi h0 h1 (by rw [hL 0 (by decide), hL 1 (by decide), hL _ hd, jtt, jtt, jtt]; exact rr tp h.ltt)
        have e4 : (eN tp o).run j ⟨(if dv = true then tp else bt : Nat), (if dv = true then (tp : Int) else -1), T, false⟩ = some ⟨(if dv = true then tp else bt : Nat), (if dv = true then (tp : Int) else -1), upd T (1 + o / 64 % 2), false⟩ := e2
        rw [e4]
        obtain ⟨T', t0, t1, e5⟩ := ih dv (upd T (1 + o / 64 % 2)) (u0 _) (u1 _)
        refine ⟨T', t0, t1, ?_⟩
        have e6 : dvB (o :: os) = dvB os := by unfold dvB; simp only [List.any_cons, decide_eq_false h9, Bool.false_or]
        rw [e6]
        exact e5
  obtain ⟨T', t0, t1, e5⟩ := key os false (upd S 1) (by show (if 0 = 1 then true else S 0) = true; rw [if_neg (by decide)]; exact S0) rfl
  refine ⟨T', t0, t1, ?_⟩
  unfold runL eb
  show (os.map (eN tp)).foldl (fun o nd => o.bind (nd.run j)) ((sN 3 1 0 0 0 tp).run j ⟨bt, -1, S, false⟩) = _
  rw [e1]
  simpa using e5
theorem En.fin (h : En n g bt tp) {j : Jd} {L : Nat → Nat} (hl : Lf j L bt) (hn : j.n = n) (hg : j.g = g) (h3 : j.f.slots.len = 3) (hL : ∀ i, i < 3 → L i = tp) (hres : j.f.result = leafT 1 (tp : Nat)) (hout : j.f.out = 1) (hexc : j.f.exc = (tp : Int)) {t : Nat} {dv : Bool} {T : Nat → Bool} (ht : t < n.len) (T1 : T 1 = true) : j.ends ⟨t, (if dv = true then (tp : Int) else -1), T, false⟩ = true := by
  subst hn hg
  rw [hl.ends (o := 1) (rs := tp) ht (by omega) h.ltt hres hout (by
    cases dv
    · exact Or.inl rfl
    · exact Or.inr ⟨tp, tp, rfl, h.ltt, hexc, h.ltt, lq_refl h.F h.ltt⟩) T1, hL 1 (by decide), jn_ge h.F h.ltt ht (h.high t ht)]
  exact lq_refl h.F h.ltt
theorem En.yes (h : En n g bt tp) {BS B c BF : Nat} {x y : Int} {os : List Nat} (ho : os.length ≤ 60) (hR : ChkR n g (fl1 BF (fnH tp tp bt tp BS [tp, tp, tp] (bdN B c (eb tp os)) 1)) x y) : y = 0 := by
  have hs := h.sf BS B c (eb tp os) (by unfold eb; simp; omega) (h.eb_shp os)
  have hl := hs.lf h.hbt h.ltb h.low BF
  refine ((chk1 hR (by rw [hs.hld]; rfl)).1 ?_).2
  obtain ⟨T, t0, t1, e⟩ := h.run hl rfl rfl rfl (tp3 tp) (fun i => decide (i < 1 + 0)) rfl os
  unfold Jd.right
  rw [show (jdg n g (fl1 BF (fnH tp tp bt tp BS [tp, tp, tp] (bdN B c (eb tp os)) 1)) 0).f.body = bdN B c (eb tp os) from rfl, list_bd, show (jdg n g (fl1 BF (fnH tp tp bt tp BS [tp, tp, tp] (bdN B c (eb tp os)) 1)) 0).start = ⟨(bt : Int), -1, fun i => decide (i < 1 + 0), false⟩ from by rw [← h.hbt]; rfl, e]
  exact h.fin hl rfl rfl rfl (tp3 tp) rfl rfl rfl (by split; exact h.ltt; exact h.ltb) t1
theorem En.two (h : En n g bt tp) {BS B c BF : Nat} {x y : Int} {os : List Nat} (ho : os.length ≤ 60) (hR : ChkR n g (fl1 BF (fnH tp tp bt tp BS [tp, tp, tp] (bdN B c (eb tp os ++ [sN 1 1 0 0 0 bt])) 1)) x y) : x = 0 ∧ (y == 0) = (!(dvB os) || ((bt : Int) == tp)) := by
  have hs := h.sf BS B c (eb tp os ++ [sN 1 1 0 0 0 bt]) (by unfold eb; simp; omega) (by
    intro nd hnd
    rw [List.mem_append, List.mem_singleton] at hnd
    rcases hnd with hnd | rfl
    · exact h.eb_shp os nd hnd
    · exact ⟨_, _, _, _, _, _, rfl, shp1 (by omega) (by have := h.ltb; omega) (by decide) (by decide)⟩)
  have hl := hs.lf h.hbt h.ltb h.low BF
  have hk := chk1 hR (by rw [hs.hld]; rfl)
  obtain ⟨T, t0, t1, e⟩ := h.run hl rfl rfl rfl (tp3 tp) (fun i => decide (i < 1 + 0)) rfl os
  have e2 : (jdg n g (fl1 BF (fnH tp tp bt tp BS [tp, tp, tp] (bdN B c (eb tp os ++ [sN 1 1 0 0 0 bt])) 1)) 0).list (jdg n g (fl1 BF (fnH tp tp bt tp BS [tp, tp, tp] (bdN B c (eb tp os ++ [sN 1 1 0 0 0 bt])) 1)) 0).f.body (jdg n g (fl1 BF (fnH tp tp bt tp BS [tp, tp, tp] (bdN B c (eb tp os ++ [sN 1 1 0 0 0 bt])) 1)) 0).start = (sN 1 1 0 0 0 bt).run (jdg n g (fl1 BF (fnH tp tp bt tp BS [tp, tp, tp] (bdN B c (eb tp os ++ [sN 1 1 0 0 0 bt])) 1)) 0) ⟨(if dvB os = true then tp else bt : Nat), (if dvB os = true then (tp : Int) else -1), T, false⟩ := by
    rw [show (jdg n g (fl1 BF (fnH tp tp bt tp BS [tp, tp, tp] (bdN B c (eb tp os ++ [sN 1 1 0 0 0 bt])) 1)) 0).f.body = bdN B c (eb tp os ++ [sN 1 1 0 0 0 bt]) from rfl, list_bd, show (jdg n g (fl1 BF (fnH tp tp bt tp BS [tp, tp, tp] (bdN B c (eb tp os ++ [sN 1 1 0 0 0 bt])) 1)) 0).start = ⟨(bt : Int), -1, fun i => decide (i < 1 + 0), false⟩ from by rw [← h.hbt]; rfl]
    unfold runL at e ⊢
    rw [List.foldl_append, e]
    rfl
  have htl : (if dvB os = true then tp else bt : Nat) < n.len := by split; exact h.ltt; exact h.ltb
  have key : g.B (if dvB os = true then tp else bt : Nat) bt = (!(dvB os) || ((bt : Int) == tp)) := by
    cases dvB os
    · exact lq_refl h.F h.ltb
    · show g.B tp bt = ((bt : Int) == tp)
      rw [Bool.eq_iff_iff]
      constructor
      · intro hb
        have := lq_anti h.F h.ltb h.ltt (h.low tp h.ltt) hb
        rw [this]; simp
      · intro hb
        have : bt = tp := by have h1 := beq_iff_eq.1 hb; omega
        rw [this]; exact lq_refl h.F h.ltt
  rw [← key]
  cases hq : g.B (if dvB os = true then tp else bt : Nat) bt
  · have : (jdg n g (fl1 BF (fnH tp tp bt tp BS [tp, tp, tp] (bdN B c (eb tp os ++ [sN 1 1 0 0 0 bt])) 1)) 0).right = false := by
      unfold Jd.right
      rw [e2, hl.run1_no (sN_at 1 1 0 0 0 bt default) rfl h.ltb htl rfl hq]
    exact ⟨(hk.2 this).1, by rw [(hk.2 this).2]; rfl⟩
  · have : (jdg n g (fl1 BF (fnH tp tp bt tp BS [tp, tp, tp] (bdN B c (eb tp os ++ [sN 1 1 0 0 0 bt])) 1)) 0).right = true := by
      unfold Jd.right
      rw [e2, hl.run1 (sN_at 1 1 0 0 0 bt default) (d := 1) rfl (by show 1 < 3; decide) h.ltb htl (by cases dvB os; exact Or.inl rfl; exact Or.inr ⟨tp, rfl, h.ltt⟩) rfl rfl hq (h.low _ (hl.ll 1 (by show 1 < 3; decide)))]
      exact h.fin hl rfl rfl rfl (tp3 tp) rfl rfl rfl htl rfl
    exact ⟨(hk.1 this).1, by rw [(hk.1 this).2]; rfl⟩
theorem eb_mem {w : World} {tp : Nat} {os : List Nat} : ∀ nd ∈ eb tp os, nd.At w := by
  intro nd h
  unfold eb at h
  rw [List.mem_cons, List.mem_map] at h
  rcases h with rfl | ⟨o, _, rfl⟩ <;> exact sN_at _ _ _ _ _ _ _
end Go.Proofs.Ytcnepnhbfleegaa

/- Layer 10: what the two functions of IrHigh come to. -/
namespace Go.Proofs.Ytcnepnhbfleegaa
open Go Go.RowKit

def hb1 (bt tp env : Nat) (op : Int) : List Nd := [sN 1 2 0 0 7 bt, sN 4 1 0 0 op bt, sN 1 2 0 0 1 env, sN 15 0 2 0 tp env]
def hb2 (bt tp env b : Nat) (op : Int) : List Nd := [sN 1 2 0 0 7 bt, sN 4 1 0 0 op bt, sN 1 2 0 0 1 env, sN 15 0 2 0 tp env, sN 1 3 0 0 1 env, sN 15 0 3 0 b env]
/-- What IrHigh has. -/
structure Hi (n : Strs) (g : Grid) (a b bt tp env : Nat) (op : Int) : Prop where
  F : formedB n g = true
  hbt : botI n g = (bt : Int)
  ltb : bt < n.len
  low : ∀ c, c < n.len → g.B bt c = true
  ltt : tp < n.len
  high : ∀ c, c < n.len → g.B c tp = true
  lta : a < n.len
  ltb' : b < n.len
  par : (op = 6 ∧ env = bt) ∨ (op = 10 ∧ env = a)
variable {n : Strs} {g : Grid} {a b bt tp env : Nat} {op : Int}
theorem Hi.lte (h : Hi n g a b bt tp env op) : env < n.len := by
  rcases h.par with ⟨_, e⟩ | ⟨_, e⟩
  · rw [e]; exact h.ltb
  · rw [e]; exact h.lta
theorem Hi.sf1 (h : Hi n g a b bt tp env op) (BS B c : Nat) : Sf n g (fnH a tp bt tp BS [a, a, tp] (bdN B c (hb1 bt tp env op)) 2) (fun i => [a, a, tp][i]?.getD 0) := by
  have he := h.lte
  have hop : 6 ≤ op ∧ op ≤ 12 := by have := h.par; omega
  have hb := h.ltb
  have ht := h.ltt
  have ha := h.lta
  refine ⟨h.F, ?_, rfl, by show 1 ≤ 3; decide, by show 3 ≤ 250; decide, fun _ _ => rfl, fun i hi => ?_, rfl, by show 4 ≤ 4096; decide, fun i hi => ?_⟩
  · rw [h.hbt]; exact fun_okB h.F h.lta h.ltt h.ltb h.ltt h.ltb
  · have hi' : i < 3 := hi
    match i, hi' with
    | 0, _ => exact h.lta
    | 1, _ => exact h.lta
    | 2, _ => exact h.ltt
  · have hi' : i < 4 := hi
    match i, hi' with
    | 0, _ => exact ⟨_, _, _, _, _, _, rfl, shp1 (by omega) (by omega) (by decide) (by show (2 : Int) < 3; decide)⟩
    | 1, _ => exact ⟨_, _, _, _, _, _, rfl, shp4 (by omega) (by omega) (by decide) (by show (1 : Int) < 3; decide) (by decide) (by show (0 : Int) < 3; decide) (by decide) (by show (0 : Int) < 3; decide) hop.1 hop.2⟩
    | 2, _ => exact ⟨_, _, _, _, _, _, rfl, shp1 (by omega) (by omega) (by decide) (by show (2 : Int) < 3; decide)⟩
    | 3, _ => exact ⟨_, _, _, _, _, _, rfl, shp15 (by omega) (by omega) (by decide) (by show (2 : Int) < 3; decide) (by omega) (by omega)⟩
theorem Hi.sf2 (h : Hi n g a b bt tp env op) (BS B c : Nat) : Sf n g (fnH a tp bt tp BS [a, a, tp, env] (bdN B c (hb2 bt tp env b op)) 2) (fun i => [a, a, tp, env][i]?.getD 0) := by
  have he := h.lte
  have hop : 6 ≤ op ∧ op ≤ 12 := by have := h.par; omega
  have hb := h.ltb
  have ht := h.ltt
  have ha := h.lta
  have hb' := h.ltb'
  refine ⟨h.F, ?_, rfl, by show 1 ≤ 4; decide, by show 4 ≤ 250; decide, fun _ _ => rfl, fun i hi => ?_, rfl, by show 6 ≤ 4096; decide, fun i hi => ?_⟩
  · rw [h.hbt]; exact fun_okB h.F h.lta h.ltt h.ltb h.ltt h.ltb
  · have hi' : i < 4 := hi
    match i, hi' with
    | 0, _ => exact h.lta
    | 1, _ => exact h.lta
    | 2, _ => exact h.ltt
    | 3, _ => exact he
  · have hi' : i < 6 := hi
    match i, hi' with
    | 0, _ => exact ⟨_, _, _, _, _, _, rfl, shp1 (by omega) (by omega) (by decide) (by show (2 : Int) < 4; decide)⟩
    | 1, _ => exact ⟨_, _, _, _, _, _, rfl, shp4 (by omega) (by omega) (by decide) (by show (1 : Int) < 4; decide) (by decide) (by show (0 : Int) < 4; decide) (by decide) (by show (0 : Int) < 4; decide) hop.1 hop.2⟩
    | 2, _ => exact ⟨_, _, _, _, _, _, rfl, shp1 (by omega) (by omega) (by decide) (by show (2 : Int) < 4; decide)⟩
    | 3, _ => exact ⟨_, _, _, _, _, _, rfl, shp15 (by omega) (by omega) (by decide) (by show (2 : Int) < 4; decide) (by omega) (by omega)⟩
    | 4, _ => exact ⟨_, _, _, _, _, _, rfl, shp1 (by omega) (by omega) (by decide) (by show (3 : Int) < 4; decide)⟩
    | 5, _ => exact ⟨_, _, _, _, _, _, rfl, shp15 (by omega) (by omega) (by decide) (by show (3 : Int) < 4; decide) (by omega) (by omega)⟩
/-- The first four nodes, over either function. -/
theorem Hi.four (h : Hi n g a b bt tp env op) {j : Jd} {L : Nat → Nat} (hl : Lf j L bt) (hn : j.n = n) (hg : j.g = g) (hh : j.f.heap = (bt : Int)) (h3 : 3 ≤ j.f.slots.len) (L0 : L 0 = a) (L1 : L 1 = a) (L2 : L 2 = tp) (S : Nat → Bool) (S0 : S 0 = true) :
    ∃ (x : Int) (T : Nat → Bool), (x = -1 ∨ (x = a ∧ a < n.len)) ∧ T 2 = true ∧ ((((sN 1 2 0 0 7 bt).run j ⟨bt, -1, S, false⟩).bind ((sN 4 1 0 0 op bt).run j)).bind ((sN 1 2 0 0 1 env).run j)).bind ((sN 15 0 2 0 tp env).run j) = some ⟨env, x, T, false⟩ := by
  subst hn hg
  have he := h.lte
  have rr : ∀ c, c < j.n.len → j.g.B c c = true := fun c hc => lq_refl h.F hc
  have e1 := hl.run1 (sN_at 1 2 0 0 7 bt default) (d := 2) (e := bt) (t := bt) (x := -1) (S := S) rfl (by omega) h.ltb h.ltb (Or.inl rfl) rfl rfl (rr bt h.ltb) (h.low _ (hl.ll 2 (by omega)))
  rw [e1]
  have ja : Jn j.g a bt = a := jn_ge h.F h.lta h.ltb (h.low a h.lta)
  have jaa : Jn j.g a a = a := jn_self h.F h.lta
  have jba : Jn j.g bt a = a := jn_le h.F h.ltb h.lta (h.low a h.lta)
  have jt : Jn j.g tp env = tp := jn_ge h.F h.ltt he (h.high env he)
  have fin : ∀ (x : Int) (T : Nat → Bool), (x = -1 ∨ (x = a ∧ a < j.n.len)) → ((some (⟨env, x, T, false⟩ : Sta)).bind ((sN 1 2 0 0 1 env).run j)).bind ((sN 15 0 2 0 tp env).run j) = some ⟨env, x, upd T 2, false⟩ := by
    intro x T hx
    have hx' : x = -1 ∨ ∃ m : Nat, x = m ∧ m < j.n.len := hx.imp (fun h => h) (fun h => ⟨a, h⟩)
    have e3 := hl.run1 (sN_at 1 2 0 0 1 env default) (d := 2) (e := env) (t := env) (x := x) (S := T) rfl (by omega) he he hx' rfl rfl (rr env he) (by rw [L2]; exact h.high env he)
    have e4 := hl.run15 (sN_at 15 0 2 0 tp env default) (a := 2) (e := env) (t := env) (p := tp) (q := bt) (x := x) (S := upd T 2) rfl (by omega) he he h.ltt h.ltb rfl rfl rfl hh (rr env he) rfl
    rw [Option.bind_some, e3, Option.bind_some, e4, L2, jt, rr tp h.ltt, h.low tp h.ltt]
    rfl
  have s0 : (upd S 2) 0 = true := by show (if 0 = 2 then true else S 0) = true; rw [if_neg (by decide)]; exact S0
  rcases h.par with ⟨ho, hev⟩ | ⟨ho, hev⟩
  · have e2 := hl.run4n (sN_at 4 1 0 0 op bt default) (a := 0) (b := 0) (d := 1) (e := bt) (t := bt) (x := -1) (nn := op) (S := upd S 2) rfl (by omega) (by omega) (by omega) h.ltb h.ltb (Or.inl rfl) rfl rfl rfl rfl rfl (by omega) (rr bt h.ltb) s0 s0 (by rw [L0, L1, ja, jaa, ja]; exact rr a h.lta)
    refine ⟨-1, upd (upd (upd S 2) 1) 2, Or.inl rfl, rfl, ?_⟩
    rw [Option.bind_some, e2]
    have := fin (-1) (upd (upd S 2) 1) (Or.inl rfl)
    rw [hev] at this ⊢
    exact this
  · have e2 := hl.run4d (sN_at 4 1 0 0 op bt default) (a := 0) (b := 0) (d := 1) (e := bt) (t := bt) (x := -1) (x' := a) (nn := op) (S := upd S 2) rfl (by omega) (by omega) (by omega) h.ltb h.ltb rfl rfl rfl rfl rfl (Or.inr ho) (rr bt h.ltb) s0 s0 (by rw [L0, ja]; exact bothI_none' h.F h.lta) (by rw [L0, L1, ja, jaa, jba, jaa]; exact rr a h.lta)
    refine ⟨a, upd (upd (upd S 2) 1) 2, Or.inr ⟨rfl, h.lta⟩, rfl, ?_⟩
    rw [Option.bind_some, e2, L0, ja, jba]
    have := fin a (upd (upd S 2) 1) (Or.inr ⟨rfl, h.lta⟩)
    rw [hev] at this ⊢
    exact this
theorem Hi.yes (h : Hi n g a b bt tp env op) {BS B c BF : Nat} {x y : Int} (hR : ChkR n g (fl1 BF (fnH a tp bt tp BS [a, a, tp] (bdN B c (hb1 bt tp env op)) 2)) x y) : y = 0 := by
  have hs := h.sf1 BS B c
  have hl := hs.lf h.hbt h.ltb h.low BF
  refine ((chk1 hR (by rw [hs.hld]; rfl)).1 ?_).2
  obtain ⟨x1, T, hx, hT, e⟩ := h.four hl rfl rfl rfl (by show 3 ≤ 3; decide) rfl rfl rfl (fun i => decide (i < 1 + 0)) rfl
  unfold Jd.right
  have e2 : (jdg n g (fl1 BF (fnH a tp bt tp BS [a, a, tp] (bdN B c (hb1 bt tp env op)) 2)) 0).list (jdg n g (fl1 BF (fnH a tp bt tp BS [a, a, tp] (bdN B c (hb1 bt tp env op)) 2)) 0).f.body (jdg n g (fl1 BF (fnH a tp bt tp BS [a, a, tp] (bdN B c (hb1 bt tp env op)) 2)) 0).start = some ⟨env, x1, T, false⟩ := by
    rw [← e]
    show ((((some (⟨botI n g, -1, fun i => decide (i < 1 + 0), false⟩ : Sta)).bind _).bind _).bind _).bind _ = _
    rw [h.hbt]
    rfl
  rw [e2]
  show (jdg n g (fl1 BF (fnH a tp bt tp BS [a, a, tp] (bdN B c (hb1 bt tp env op)) 2)) 0).ends ⟨env, x1, T, false⟩ = true
  rw [hl.ends (o := 2) (rs := tp) h.lte (by show 2 < 3; decide) h.ltt rfl rfl (hx.imp (fun h => h) (fun hx => ⟨a, tp, hx.1, hx.2, rfl, h.ltt, h.high a hx.2⟩)) hT]
  show g.B (Jn g tp env) tp = true
  rw [jn_ge h.F h.ltt h.lte (h.high env h.lte)]
  exact lq_refl h.F h.ltt
theorem Hi.two (h : Hi n g a b bt tp env op) {BS B c BF : Nat} {x y : Int} (hR : ChkR n g (fl1 BF (fnH a tp bt tp BS [a, a, tp, env] (bdN B c (hb2 bt tp env b op)) 2)) x y) : (y == 0) = g.B env b := by
  have hs := h.sf2 BS B c
  have hl := hs.lf h.hbt h.ltb h.low BF
  have hk := chk1 hR (by rw [hs.hld]; rfl)
  obtain ⟨x1, T, hx, hT, e⟩ := h.four hl rfl rfl rfl (by show 3 ≤ 4; decide) rfl rfl rfl (fun i => decide (i < 1 + 0)) rfl
  have he := h.lte
  have rr : ∀ c, c < n.len → g.B c c = true := fun c hc => lq_refl h.F hc
  have hx' : x1 = -1 ∨ ∃ m : Nat, x1 = m ∧ m < n.len := hx.imp (fun h => h) (fun h => ⟨a, h⟩)
  have e5 := hl.run1 (sN_at 1 3 0 0 1 env default) (d := 3) (e := env) (t := env) (x := x1) (S := T) rfl (by show 3 < 4; decide) he he hx' rfl rfl (rr env he) (rr env he)
  have e6 := hl.run15 (sN_at 15 0 3 0 b env default) (a := 3) (e := env) (t := env) (p := b) (q := bt) (x := x1) (S := upd T 3) rfl (by show 3 < 4; decide) he he h.ltb' h.ltb rfl rfl rfl rfl (rr env he) rfl
  have e7 : (jdg n g (fl1 BF (fnH a tp bt tp BS [a, a, tp, env] (bdN B c (hb2 bt tp env b op)) 2)) 0).list (jdg n g (fl1 BF (fnH a tp bt tp BS [a, a, tp, env] (bdN B c (hb2 bt tp env b op)) 2)) 0).f.body (jdg n g (fl1 BF (fnH a tp bt tp BS [a, a, tp, env] (bdN B c (hb2 bt tp env b op)) 2)) 0).start = if g.B env b = true then some ⟨env, x1, upd T 3, false⟩ else none := by
    have e8 : (g.B (Jn g env env) b && g.B bt b) = g.B env b := by rw [jn_self h.F he, h.low b h.ltb', Bool.and_true]
    have e9 : (if g.B env b = true then some (⟨env, x1, upd T 3, false⟩ : Sta) else none) = ((((((sN 1 2 0 0 7 bt).run (jdg n g (fl1 BF (fnH a tp bt tp BS [a, a, tp, env] (bdN B c (hb2 bt tp env b op)) 2)) 0) ⟨bt, -1, fun i => decide (i < 1 + 0), false⟩).bind ((sN 4 1 0 0 op bt).run (jdg n g (fl1 BF (fnH a tp bt tp BS [a, a, tp, env] (bdN B c (hb2 bt tp env b op)) 2)) 0))).bind ((sN 1 2 0 0 1 env).run (jdg n g (fl1 BF (fnH a tp bt tp BS [a, a, tp, env] (bdN B c (hb2 bt tp env b op)) 2)) 0))).bind ((sN 15 0 2 0 tp env).run (jdg n g (fl1 BF (fnH a tp bt tp BS [a, a, tp, env] (bdN B c (hb2 bt tp env b op)) 2)) 0))).bind ((sN 1 3 0 0 1 env).run (jdg n g (fl1 BF (fnH a tp bt tp BS [a, a, tp, env] (bdN B c (hb2 bt tp env b op)) 2)) 0))).bind ((sN 15 0 3 0 b env).run (jdg n g (fl1 BF (fnH a tp bt tp BS [a, a, tp, env] (bdN B c (hb2 bt tp env b op)) 2)) 0)) := by
      rw [e, Option.bind_some, e5, Option.bind_some, e6]
      show _ = if (g.B (Jn g env env) b && g.B bt b) = true then _ else _
      rw [e8]
    rw [e9]
    show ((((((some (⟨botI n g, -1, fun i => decide (i < 1 + 0), false⟩ : Sta)).bind _).bind _).bind _).bind _).bind _).bind _ = _
    rw [h.hbt]
    rfl
  cases hq : g.B env b
  · have : (jdg n g (fl1 BF (fnH a tp bt tp BS [a, a, tp, env] (bdN B c (hb2 bt tp env b op)) 2)) 0).right = false := by
      unfold Jd.right; rw [e7, hq]; rfl
    rw [(hk.2 this).2]; rfl
  · have : (jdg n g (fl1 BF (fnH a tp bt tp BS [a, a, tp, env] (bdN B c (hb2 bt tp env b op)) 2)) 0).right = true := by
      unfold Jd.right
      rw [e7, hq]
      show (jdg n g (fl1 BF (fnH a tp bt tp BS [a, a, tp, env] (bdN B c (hb2 bt tp env b op)) 2)) 0).ends ⟨env, x1, upd T 3, false⟩ = true
      rw [hl.ends (o := 2) (rs := tp) h.lte (by show 2 < 4; decide) h.ltt rfl rfl (hx.imp (fun h => h) (fun hx => ⟨a, tp, hx.1, hx.2, rfl, h.ltt, h.high a hx.2⟩)) (by show (if 2 = 3 then true else T 2) = true; rw [if_neg (by decide)]; exact hT)]
      show g.B (Jn g tp env) tp = true
      rw [jn_ge h.F h.ltt h.lte (h.high env h.lte)]
      exact lq_refl h.F h.ltt
    rw [(hk.1 this).2]; rfl
end Go.Proofs.Ytcnepnhbfleegaa
