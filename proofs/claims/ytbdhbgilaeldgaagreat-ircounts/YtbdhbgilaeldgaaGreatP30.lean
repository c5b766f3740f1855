/- A region that draws its order: all that reads, moves or reckons comes first, wherever it stands; what is left is one behind the other. -/
import Derived.Test.YtbdhbgilaeldgaaGreatP16
import Derived.Test.YtbdhbgilaeldgaaGreatP22
import Derived.Test.YtbdhbgilaeldgaaGreatP23
import Derived.Test.YtbdhbgilaeldgaaGreatP28
import Derived.Test.YtbdhbgilaeldgaaGreatP29
namespace Go.Proofs.YtbdhbgilaeldgaaGreat
open Go Go.RowKit

section
variable {P : Program} {ops : Array Oper} {Q : Exit → Act → World → Prop}
def isReadP (o : Oper) : Bool := match o.op with
  | .load .. | .fieldAddr .. | .indexAddr .. | .extract .. | .move .. | .binOp .. | .convert .. | .build .. | .slice .. => true
  | _ => false
theorem readP_value {o : Oper} (h : isReadP o = true) (ρ : Operand → Value) (w w' : World) (n : Next) (hr : (execOp ρ o).run P w = .ok n w') : ∃ u, n = .value u := by
  cases ho : o.op
  case load => unfold execOp at hr; rw [ho] at hr; exact run_val hr
  case fieldAddr => unfold execOp at hr; rw [ho] at hr; exact run_val hr
  case indexAddr => unfold execOp at hr; rw [ho] at hr; exact run_val hr
  case extract => unfold execOp at hr; rw [ho] at hr; exact run_val hr
  case move => unfold execOp at hr; rw [ho] at hr; exact ⟨_, (Result.ok.inj hr).1.symm⟩
  case binOp => unfold execOp at hr; rw [ho] at hr; exact run_val hr
  case convert => unfold execOp at hr; rw [ho] at hr; exact run_val hr
  case build => unfold execOp at hr; rw [ho] at hr; exact run_val hr
  case slice => unfold execOp at hr; rw [ho] at hr; exact run_val hr
  all_goals (unfold isReadP at h; rw [ho] at h; cases h)
theorem yieldsIf_of_quietP {S : World → Prop} {o : Oper} {a : Act} {K : Act → Prop} (hr : isReadP o = true) (h : if Region.wanted o (yielded ops a.tmps) then o.quiet P a S K else K (a.put o.dst undef)) : ∃ v, YieldsIf P ops S o v a ∧ K (a.put o.dst v) := by
  by_cases hw : Region.wanted o (yielded ops a.tmps) = true
  · rw [if_pos hw] at h
    obtain ⟨v, h1, h2⟩ := h
    refine ⟨v, Or.inl ⟨hw, fun w hS => ?_⟩, h2⟩
    have h3 := h1 w hS
    unfold Oper.quietAt at h3
    cases hq : (execOp a.eval o).run P w with
    | ok n w' =>
      obtain ⟨u, rfl⟩ := readP_value hr _ _ _ _ hq
      rw [hq] at h3
      simp only [Oper.quietUpon] at h3
      rw [h3.1, h3.2]
    | halt x w' => rw [hq] at h3; simp only [Oper.quietUpon] at h3
  · rw [if_neg hw] at h
    exact ⟨undef, Or.inr ⟨by simpa using hw, rfl⟩, h⟩
def lexP (ops : Array Oper) : List Nat → List Oper → Array Bool → Bool
  | [], [], _ => true
  | i :: js, o :: l, listed => isReadP o && (Region.ready .any ops listed).contains i && Region.free .any ops listed i && lexP ops js l (listed.setIfInBounds i true)
  | _, _, _ => false
theorem wpAnyH_readsP {S : World → Prop} {K : Act → Prop} {rest : Nat} {w : World} (hs : Region.noSelect ops = true) (hQ : ∀ c a d v w, Q (.panic c) (Act.put a d v) w → Q (.panic c) a w) (hS : S w) : ∀ (js : List Nat) (l : List Oper) (listed : Array Bool) (a : Act), (∀ j, j < l.length → ∃ i, js[j]? = some i ∧ ops[i]? = l[j]?) →
    lexP ops js l listed = true → wpQuiet P ops S K l a → (∀ a', K a' → wpAnyH P .any ops Q S rest (listedI js listed) a' w) → wpAnyH P .any ops Q S (js.length + rest) listed a w
  | [], [], _, _, _, _, h, hK => by simpa [listedI] using hK _ h
  | [], _ :: _, _, _, _, hB, _, _ => by simp [lexP] at hB
  | _ :: _, [], _, _, _, hB, _, _ => by simp [lexP] at hB
  | i :: js, o :: l, listed, a, hl, hB, h, hK => by
    have h0 : ops[i]? = some o := by
      obtain ⟨i', h1, h2⟩ := hl 0 (by simp)
      have : i = i' := by simpa using h1
      subst this
      simpa using h2
    simp only [lexP, Bool.and_eq_true] at hB
    obtain ⟨⟨⟨hr, hc⟩, hf⟩, hB'⟩ := hB
    have h' : if Region.wanted o (yielded ops a.tmps) then o.quiet P a S (wpQuiet P ops S K l) else wpQuiet P ops S K l (a.put o.dst undef) := h
    obtain ⟨v, hy, hk⟩ := yieldsIf_of_quietP (ops := ops) hr h'
    rw [show (i :: js).length + rest = (js.length + rest) + 1 by simp; omega]
    exact wpAnyH_take h0 hs hf hc (fun c a w => hQ c a _ _ w) hy hS (wpAnyH_readsP hs hQ hS js l _ _ (fun j hj => by
      obtain ⟨i', h1, h2⟩ := hl (j + 1) (by simp; omega)
      exact ⟨i', by simpa using h1, by simpa using h2⟩) hB' hk hK)
/-- A region that draws: first all that only reads. -/
theorem wp_region_readsP {id : Nat} {a : Act} {w : World} {l : List Oper} (S : World → Prop) (js : List Nat) (rest : Nat) (hm : P.follows .mixedOrders = true) (hlen : l.length = js.length + rest) (hB : (Region.noSelect l.toArray && lexP l.toArray js (js.filterMap (l[·]?)) (Array.replicate l.length false)) = true) (hj : ∀ j, j < (js.filterMap (l[·]?)).length → ∃ i, js[j]? = some i ∧ l.toArray[i]? = (js.filterMap (l[·]?))[j]?)
    (hQ : ∀ c a d v w, Q (.panic c) (Act.put a d v) w → Q (.panic c) a w) (hS : S w.drew)
    (h : wpQuiet P l.toArray (fun u => ∃ x : Wd S, u = x.w) (fun a' => wpAnyH P .any l.toArray Q S rest (listedI js (Array.replicate l.length false)) a' w.drew) (js.filterMap (l[·]?)) a) : (Code.region id l.toArray true).wp P Q a w := by
  simp only [Bool.and_eq_true] at hB
  refine wp_region_held_drew (S := S) hm hS fun hS => ?_
  have e3 : Array.replicate l.toArray.size false = Array.replicate l.length false := by simp
  have e2 : l.toArray.size = js.length + rest := by simpa using hlen
  have eS : (fun u : World => ∃ x : Wd S, u = x.w) = S := by
    funext u; apply propext
    exact ⟨fun ⟨x, hx⟩ => hx ▸ x.2, fun h => ⟨⟨u, h⟩, rfl⟩⟩
  rw [eS] at h
  rw [e3, e2]
  exact wpAnyH_readsP hB.1 hQ hS js _ _ a hj hB.2 h (fun a' h => h)
end
theorem wp_region_readsPN {P : Program} {Q : Exit → Act → World → Prop} {id : Nat} {a : Act} {w : World} {l : List Oper} (S : World → Prop) (js : List Nat) (rest : Nat) (hm : P.follows .mixedOrders = true) (hlen : l.length = js.length + rest) (hB : (Region.noSelect l.toArray && lexP l.toArray js (js.filterMap (l[·]?)) (Array.replicate l.length false)) = true) (hj : ∀ j, j < (js.filterMap (l[·]?)).length → ∃ i, js[j]? = some i ∧ l.toArray[i]? = (js.filterMap (l[·]?))[j]?)
    (hS : S w.drew)
    (h : wpQuiet P l.toArray (fun u => ∃ x : Wd S, u = x.w) (fun a' => wpAnyH P .any l.toArray (NoPanM Q) S rest (listedI js (Array.replicate l.length false)) a' w.drew) (js.filterMap (l[·]?)) a) : (Code.region id l.toArray true).wp P Q a w :=
  Code.wp_mono (fun _ _ _ h => h.2) (wp_region_readsP S js rest hm hlen hB hj (fun c _ _ _ _ h => absurd rfl (h.1 c)) hS h)
end Go.Proofs.YtbdhbgilaeldgaaGreat

/- The statement IrCounts walked. -/
namespace Go.Proofs.YtbdhbgilaeldgaaGreat
open Go Go.RowKit

theorem wpList_slOp {ops : Array Oper} {rest : List Oper} {o : Oper} {a : Act} {w : World} {v : Value} {Q : Exit → Act → World → Prop} (hgd : o.guard = none) (t : TypeId) (x : Operand) (lo hi mx : Option Operand) (ho : o.op = .slice t x lo hi mx) (xv : Value) (lv hv mv : Option Value) (hx : a.eval x = xv) (hl : lo.map a.eval = lv) (hh : hi.map a.eval = hv) (hm : mx.map a.eval = mv)
    (hs : (Instr.sliceAt t xv lv hv mv).run Tryz.prog w = .ok v w) (h : wpList Tryz.prog ops Q rest (a.put o.dst v) w) : wpList Tryz.prog ops Q (o :: rest) a w := by
  refine wpList_plain hgd fun _ hK => ?_
  unfold Oper.wp execOp
  simp only [ho, hx, hl, hh, hm, Sem.run_bind, hs, Result.andThen_ok, Sem.run_pure]
  exact hK _ _ h
theorem quiet_slOp {C : World → Prop} {K : Act → Prop} {a : Act} {o : Oper} {v : Value} (t : TypeId) (x : Operand) (lo hi mx : Option Operand) (ho : o.op = .slice t x lo hi mx) (xv : Value) (lv hv mv : Option Value) (hx : a.eval x = xv) (hl : lo.map a.eval = lv) (hh : hi.map a.eval = hv) (hm : mx.map a.eval = mv)
    (hs : ∀ w, (Instr.sliceAt t xv lv hv mv).run Tryz.prog w = .ok v w) (h : K (a.put o.dst v)) : o.quiet Tryz.prog a C K := by
  refine ⟨v, fun w _ => ?_, h⟩
  unfold Oper.quietAt execOp
  simp only [ho, hx, hl, hh, hm, Sem.run_bind, hs, Result.andThen_ok, Sem.run_pure]
  exact ⟨rfl, rfl⟩
theorem adp0 (b off i : Nat) : (⟨b, off, none⟩ : Addr).add i = ⟨b, off + i, none⟩ := by unfold Addr.add; split <;> simp_all
theorem Tryz.szNd : (sizeOf 44 : Sem Nat).run Tryz.prog = fun w => .ok 14 w := by kernel_rfl
theorem Tryz.szFn : (sizeOf 41 : Sem Nat).run Tryz.prog = fun w => .ok 16 w := by kernel_rfl
theorem run_cut20 (B O len cap : Nat) (h : 20 ≤ cap) (w : World) : (Instr.sliceAt 39 (.slice (some ⟨B, O, none⟩) len cap) none (some (.int .i64 20)) none).run Tryz.prog w = .ok (.slice (some ⟨B, O, none⟩) 20 cap) w := by
  have h1 : Tryz.prog.elem 39 = 44 := by kernel_rfl
  rw [run_sliceAt_slice (h := by rw [h1]; exact Tryz.underlying39), run_slice_h (ht := by rw [h1]; exact Tryz.underlying39) (h0 := by decide) (h2 := by omega), h1, Tryz.szNd]
  show Result.ok (sliced _ _ _ _ _) w = _
  unfold sliced
  rw [if_neg (by omega)]
  show Result.ok (Value.slice (some ((⟨B, O, none⟩ : Addr).add (0 * 14))) _ _) w = _
  rw [adp0]
  rfl
theorem run_one (B O len cap k : Nat) (h : k + 1 ≤ cap) (w : World) : (Instr.sliceAt 26 (.slice (some ⟨B, O, none⟩) len cap) (some (.int .i64 k)) (some (.int .i64 (k + 1))) none).run Tryz.prog w = .ok (.slice (some ⟨B, O + k * 16, none⟩) 1 (cap - k)) w := by
  have h1 : Tryz.prog.elem 26 = 41 := by kernel_rfl
  rw [run_sliceAt_slice (h := by rw [h1]; exact Tryz.underlying26), run_slice_lh (ht := by rw [h1]; exact Tryz.underlying26) (h0 := by omega) (h1 := by omega) (h2 := by omega), h1, Tryz.szFn]
  show Result.ok (sliced _ _ _ _ _) w = _
  have e1 : (k : Int).toNat = k := by omega
  have e2 : ((k : Int) + 1).toNat = k + 1 := by omega
  unfold sliced
  rw [e1, e2, if_neg (by omega)]
  show Result.ok (Value.slice (some ((⟨B, O, none⟩ : Addr).add (k * 16))) _ _) w = _
  rw [adp0, show k + 1 - k = 1 by omega]
/-- Nodes around nodes. -/
def hdZ (op : Int) : Hd := ⟨op, 0, 0, 0, 0, 0, leafT 0 0, Is.nl⟩
def nd16 (B : Ns) : Nd := .mk (hdZ 16) B.ao B.b B.o B.len B.cap B.ps none 0 0 0 0 (fun _ => .dm)
def nd1 : Nd := .mk (hdZ 1) none 0 0 0 0 (fun _ => .dm) none 0 0 0 0 (fun _ => .dm)
theorem run_build_n16 (B : Ns) (w : World) : (Instr.build 44 #[(0, .int .i64 16), (8, .slice B.ao B.len B.cap)]).run Tryz.prog w = .ok (.agg (nd16 B).vs.toArray) w := by kernel_rfl
theorem run_build_n1 (w : World) : (Instr.build 44 #[(0, .int .i64 1)]).run Tryz.prog w = .ok (.agg nd1.vs.toArray) w := by kernel_rfl
theorem Tryz.infoNdI : (Tryz.prog.info? 44).map (fun i => (i.zero, i.size, i.bytes)) = some (some (.agg zNv.toArray), 14, 176) := by kernel_rfl
theorem fill2_nd (s t : Nd) : Instr.fill (fun i => some (i * 14, 14)) (Array.map (fun x => zNv[x % zNv.length]?.getD default) (Array.range 28)) [(0, Value.agg s.vs.toArray), (1, Value.agg t.vs.toArray)] = some (s.vs ++ t.vs).toArray := by kernel_rfl
theorem run_slice2_nd (s t : Nd) (w : World) : (Instr.buildSlice 39 2 #[(0, .agg s.vs.toArray), (1, .agg t.vs.toArray)]).run Tryz.prog w = .ok (.slice (some ⟨w.heap.size, 0, none⟩) 2 2) (w.alloc (.cells (s.vs ++ t.vs).toArray 44)) := by
  obtain ⟨i0, hi, hz0, hz1, hz2⟩ := info_parts Tryz.infoNdI
  simp [Instr.buildSlice, run_underlying Tryz.underlying39, sizeOf, typeInfo, hi, hz0, hz1, zeroValue, newRow, Value.cells, fill2_nd]
def nest (B : Ns) (g : Nat) : Ns := ⟨some ⟨g, 0, none⟩, g, 0, 2, 2, fun i => if i = 0 then nd16 B else nd1⟩
theorem nd1_at (w : World) : nd1.At w := ⟨⟨leaf_at _ _ _, Is.nl_at _⟩, ⟨fun h => absurd h (Nat.lt_irrefl _), Nat.zero_le _, fun _ h => absurd h (Nat.not_lt_zero _)⟩, ⟨fun h => absurd h (Nat.lt_irrefl _), Nat.zero_le _, fun _ h => absurd h (Nat.not_lt_zero _)⟩⟩
theorem nd16_at {w : World} {B : Ns} (h : B.At w) : (nd16 B).At w := ⟨⟨leaf_at _ _ _, Is.nl_at _⟩, ⟨h.nil, h.bound, fun i hi => ⟨h.cells i hi, h.part i hi⟩⟩, ⟨fun h => absurd h (Nat.lt_irrefl _), Nat.zero_le _, fun _ h => absurd h (Nat.not_lt_zero _)⟩⟩
theorem nest_at {w : World} {B : Ns} {g : Nat} (h : B.At w) (hb : Blk w g ((nd16 B).vs ++ nd1.vs) 44) : (nest B g).At w := by
  refine ⟨fun _ => rfl, by show 2 ≤ _; omega, fun i hi j v hv => ?_, fun i hi => ?_⟩
  · have hi' : i < 2 := hi
    match i, hi' with
    | 0, _ =>
      have hv' : (nd16 B).vs[j]? = some v := hv
      have hj : j < 14 := (List.getElem?_eq_some_iff.1 hv').1
      show w.cell? ⟨g, 0 + 0 * 14 + j, none⟩ = some v
      rw [show 0 + 0 * 14 + j = j by omega]
      exact hb.cell j (by rw [List.getElem?_append_left hj]; exact hv')
    | 1, _ =>
      have hv' : nd1.vs[j]? = some v := hv
      show w.cell? ⟨g, 0 + 1 * 14 + j, none⟩ = some v
      rw [show 0 + 1 * 14 + j = 14 + j by omega]
      exact hb.cell (14 + j) (by
        rw [List.getElem?_append_right (by show 14 ≤ 14 + j; omega)]
        show nd1.vs[14 + j - 14]? = _
        rw [show 14 + j - 14 = j by omega]; exact hv')
  · show (if i = 0 then nd16 B else nd1).At w
    split
    · exact nd16_at h
    · exact nd1_at w
theorem nest_szd {B : Ns} {g : Nat} (h : B.szd) : (nest B g).szd := by
  refine ⟨by show 2 ≤ 200; omega, fun i _ => ?_⟩
  show (if i = 0 then nd16 B else nd1).szd
  split
  · exact ⟨h, Nat.zero_le _, fun _ h => absurd h (Nat.not_lt_zero _)⟩
  · exact ⟨⟨Nat.zero_le _, fun _ h => absurd h (Nat.not_lt_zero _)⟩, Nat.zero_le _, fun _ h => absurd h (Nat.not_lt_zero _)⟩
theorem same_symm_of {u r : Ty} (h : u.same r = true) : r.same u = true := same_symm _ _ h
def Ns.cutN (b : Ns) (m : Nat) : Ns := ⟨b.ao, b.b, b.o, m, b.cap, b.ps⟩
theorem cutN_at {w : World} {b : Ns} {m : Nat} (h : b.At w) (hm : m ≤ b.len) : (b.cutN m).At w := ⟨fun hp => h.nil (Nat.lt_of_lt_of_le hp hm), Nat.le_trans hm h.bound, fun i hi => h.cells i (Nat.lt_of_lt_of_le hi hm), fun i hi => h.part i (Nat.lt_of_lt_of_le hi hm)⟩
theorem cutN_szd {b : Ns} {m : Nat} (h : b.szd) (hm : m ≤ b.len) : (b.cutN m).szd := ⟨Nat.le_trans hm h.1, fun i hi => h.2 i (Nat.lt_of_lt_of_le hi hm)⟩
/-- One function of them. -/
def oneF (l : Fl) (k : Nat) : Fl := ⟨some ⟨l.b, l.o + k * 16, none⟩, l.b, l.o + k * 16, 1, l.cap - k, fun i => l.ps (k + i)⟩
theorem oneF_at {w : World} {l : Fl} {k : Nat} (h : l.At w) (hk : k < l.len) : (oneF l k).At w := by
  refine ⟨fun _ => rfl, by show 1 ≤ _; omega, fun i hi => ?_, fun i hi => ?_⟩
  · have hi' : i < 1 := hi
    have e : i = 0 := by omega
    subst e
    have := h.cells k hk
    show w.rangeAt l.b (l.o + k * 16 + 0 * 16) (l.ps (k + 0)).vs
    rw [show l.o + k * 16 + 0 * 16 = l.o + k * 16 by omega]
    exact this
  · have hi' : i < 1 := hi
    have e : i = 0 := by omega
    subst e
    exact h.part k hk
/-- The lattice's variable, and what is handed in. -/
structure Ic (w : World) (n : Strs) (g : Grid) (l : Fl) (u : World) : Prop where
  bl : Below w.heap.size w u
  L : Blk u w.heap.size [.slice n.ao n.len n.cap, .slice g.ao g.len g.cap] 25
  hn : n.At u
  hg : g.At u
  hl : l.At u
theorem Ic.kept {w : World} {n : Strs} {g : Grid} {l : Fl} {u u' : World} (h : Ic w n g l u) (hb : Below u.heap.size u u') : Ic w n g l u' := ⟨Below.next h.bl hb, h.L.kept hb, h.hn.kept hb, h.hg.kept hb, h.hl.kept hb⟩
theorem ic_new {w : World} {n : Strs} {g : Grid} {l : Fl} (hn : n.At w) (hg : g.At w) (hl : l.At w) : Ic w n g l (w.alloc (.cells #[.slice n.ao n.len n.cap, .slice g.ao g.len g.cap] 25)) := by
  have b := below_alloc w (.cells #[.slice n.ao n.len n.cap, .slice g.ao g.len g.cap] 25)
  exact ⟨b, Blk.new w _ _, hn.kept b, hg.kept b, hl.kept b⟩
/-- The body that is counted. -/
structure Bo (w : World) (n : Strs) (g : Grid) (l : Fl) (B : Ns) (u : World) : Prop where
  ic : Ic w n g l u
  at_ : B.At u
  sz : B.szd
theorem Bo.kept {w : World} {n : Strs} {g : Grid} {l : Fl} {B : Ns} {u u' : World} (h : Bo w n g l B u) (hb : Below u.heap.size u u') : Bo w n g l B u' := ⟨h.ic.kept hb, h.at_.kept hb, h.sz⟩
set_option maxRecDepth 100000 in
set_option maxHeartbeats 16000000 in
theorem irCounts_any (n : Strs) (g : Grid) (l : Fl) (dp : Nat) (w : World) (hn : n.At w) (hg : g.At w) (hl : l.At w) (hlc : l.len ≤ l.cap) (hbc : ∀ i, i < l.len → (l.ps i).body.len ≤ (l.ps i).body.cap) (hdp : dp < 256) :
    Calls Tryz.prog 4 #[.agg #[.slice n.ao n.len n.cap, .slice g.ao g.len g.cap], .slice l.ao l.len l.cap, .int .u8 dp] w fun e w' => e = .returned (.bool true) ∧ Below w.heap.size w w' := by
  have HI := hid (ic_new hn hg hl)
  have HF := hid (show l.len ≤ l.cap ∧ (∀ i, i < l.len → (l.ps i).body.len ≤ (l.ps i).body.cap) ∧ dp < 256 from ⟨hlc, hbc, hdp⟩)
  have hnil : 0 < l.len → l.ao = some ⟨l.b, l.o, none⟩ := hl.nil
  have hbd : l.len ≤ 9223372036854775807 := hl.bound
  clear hn hg hl hlc hbc
  go_enter Tryz.func4, Tryz.ntmps4
  go_upto_region 1 with fail
  generalize (w.alloc (.cells #[.slice n.ao n.len n.cap, .slice g.ao g.len g.cap] 25)) = w1 at *
  go_cut [22] (fun c wx => ∃ r : Bool, c = .bool r ∧ Hid (r = false → (l.len ≤ 70 ∧ ∀ i, i < l.len → (l.ps i).caps.len ≤ 30 ∧ (l.ps i).body.szd) ∧ 0 < l.len) ∧ Hid (Ic w n g l wx))
  case first =>
    go_wp2_with fail
    refine Calls.mono (awake10_any w1) ?_
    rintro _ w2 ⟨rfl, hb2⟩
    have HI2 := hid (HI.out.kept hb2)
    clear hb2 HI
    have e0 := HI2.out.L.cell 0 rfl
    have e1 := HI2.out.L.cell 1 rfl
    go_wp2_with fail
    refine Calls.mono (few_anyS n g l w2 HI2.out.hn HI2.out.hg HI2.out.hl) ?_
    rintro _ w3 ⟨r1, rfl, hr1, hb3⟩
    have HI3 := hid (HI2.out.kept hb3)
    have HR1 := hid hr1
    clear hb3 HI2 hr1 e0 e1
    cases r1
    · go_wp2
      go_meet
      case rel => exact ⟨_, rfl, (fun h => by cases h), HI3.out⟩
    have HC := hid (HR1.out rfl)
    clear HR1
    cases d1 : ((l.len : Int) == 0)
    · have HP : Hid (0 < l.len) := by
        show _ < _
        have : ¬ (l.len : Int) = 0 := by simpa using d1
        omega
      go_wp2
      go_meet
      case rel => exact ⟨_, rfl, (fun _ => ⟨HC.out, HP.out⟩), HI3.out⟩
    · go_wp2
      go_meet
      case rel => exact ⟨_, rfl, (fun h => by cases h), HI3.out⟩
  case rest =>
    obtain ⟨r, rfl, hr, hI⟩ := hcut
    clear HI
    have HI := hid hI.out
    clear hI
    cases r
    · have HC := hid (hr.out rfl)
      clear hr
      have a0 := hnil HC.out.2
      have hpos : (0 : Int) < l.len := by have := HC.out.2; omega
      rw [a0]
      clear hnil
      have HAO := hid a0
      clear a0
      have c14 : wc.cell? ⟨l.b, l.o + 0 * 16 + 14, none⟩ = some (.slice (l.ps 0).body.ao (l.ps 0).body.len (l.ps 0).body.cap) := HI.out.hl.cells 0 HC.out.2 14 _ rfl
      have HB0 := hid (show Bo w n g l (l.ps 0).body wc ∧ (l.ps 0).body.len ≤ (l.ps 0).body.cap from ⟨⟨HI.out, (HI.out.hl.part 0 HC.out.2).body, (HC.out.1.2 0 HC.out.2).2⟩, HF.out.2.1 0 HC.out.2⟩)
      generalize (l.ps 0).body = b at *
      go_upto_region 4 with fail
      clear c14
      by_cases h20 : 20 < b.len
      · have d1 : decide ((20 : Int) < b.len) = true := by simp; omega
        have hbao := HB0.out.1.at_.nil (by omega)
        have hs20 := run_cut20 b.b b.o b.len b.cap (by have := HB0.out.2; omega)
        rw [hbao]
        have HBC := hid (show Bo w n g l (b.cutN 20) wc from ⟨HB0.out.1.ic, cutN_at HB0.out.1.at_ (by omega), cutN_szd HB0.out.1.sz (by omega)⟩)
        have hval : (.slice (some ⟨b.b, b.o, none⟩) 20 b.cap : Value) = .slice (b.cutN 20).ao (b.cutN 20).len (b.cutN 20).cap := by show _ = Value.slice b.ao 20 b.cap; rw [hbao]
        clear hbao
        go_upto_region 6 with (refine wpList_slOp rfl 39 (.tmp 31) none (some (.const (.int .i64 20))) none rfl _ none (some (.int .i64 20)) none rfl rfl rfl rfl (hs20 _) ?_)
        clear hval hs20 d1 h20 HB0
        generalize b.cutN 20 = B at *
        go_wp2
        go_loopw [7, 8] (fun bv i wr => ∃ (k : Nat) (B : Ns), k ≤ 80 ∧ i = .int .i64 k ∧ bv = .slice B.ao B.len B.cap ∧ Bo w n g l B wr) (fun _ i _ => 80 - (intOf i).toNat)
        case atStart => exact ⟨0, B, by omega, rfl, rfl, HBC.out⟩
        case round =>
          obtain ⟨k, B, hk, rfl, rfl, hB⟩ := hrel
          clear HBC
          have HBC := hid hB
          clear hB
          by_cases hlt : (k : Int) < (dp : Int) % 80
          · have hb16 := run_build_n16 B
            have hsl := run_slice2_nd (nd16 B) nd1 wr
            have hbn := below_alloc wr (.cells ((nd16 B).vs ++ nd1.vs).toArray 44)
            have HBN := hid (show Bo w n g l (nest B wr.heap.size) (wr.alloc (.cells ((nd16 B).vs ++ nd1.vs).toArray 44)) from ⟨HBC.out.ic.kept hbn, nest_at (HBC.out.at_.kept hbn) (Blk.new wr _ _), nest_szd HBC.out.sz⟩)
            clear hbn
            go_wp2_with (first | (refine wpList_buildI rfl 44 #[(0, .const (.int .i64 16)), (8, .tmp 40)] rfl _ (by kernel_rfl) (hb16 _) ?_) | (refine wpList_buildI rfl 44 #[(0, .const (.int .i64 1))] rfl _ (by kernel_rfl) (run_build_n1 _) ?_) | (refine wpList_slice rfl 39 2 #[(0, .tmp 41), (1, .tmp 42)] rfl #[(0, .agg (nd16 B).vs.toArray), (1, .agg nd1.vs.toArray)] (by kernel_rfl) hsl ?_))
            go_roundw
            case rel => exact ⟨k + 1, nest B wr.heap.size, by omega, by go_num, rfl, HBN.out⟩
            case measure => simp [intOf]; omega
          · go_wp2
            go_loopw [9] (fun i wr => ∃ (k : Nat), k ≤ l.len ∧ i = .int .i64 k ∧ Bo w n g l B wr) (fun i _ => l.len - (intOf i).toNat)
            case atStart => exact ⟨0, Nat.zero_le _, rfl, HBC.out⟩
            case round =>
              clear hlt hk
              clear HBC
              obtain ⟨k, hk, rfl, hB⟩ := hrel
              have HBC := hid hB
              clear hB
              by_cases hlt : k < l.len
              · have ij : (k : Int) < l.len := by omega
                have hk70 : k ≤ 70 := by have := HC.out.1.1; omega
                have HP := hid (show (l.ps k).At wr ∧ (l.ps k).body.szd ∧ wr.rangeAt l.b (l.o + k * 16) (l.ps k).vs from ⟨HBC.out.ic.hl.part k hlt, (HC.out.1.2 k hlt).2, HBC.out.ic.hl.cells k hlt⟩)
                have HCP : Hid (k + 1 ≤ l.cap) := by have := HF.out.1; show _ ≤ _; omega
                go_upto_region 13 with fail
                have rF : ∀ q, (∃ x : Wd (fun q => Below wr.heap.size wr q), q = x.w) → q.rangeAt l.b (l.o + k * 16) (l.ps k).vs := by rintro _ ⟨x, rfl⟩; exact rangeAt_kept HP.out.2.2 x.2
                have p0 : ∀ x : Wd (fun q => Below wr.heap.size wr q), x.w.cell? ⟨w.heap.size, 0, none⟩ = some (.slice n.ao n.len n.cap) := fun x => (HBC.out.ic.L.kept x.2).cell 0 rfl
                have p1 : ∀ x : Wd (fun q => Below wr.heap.size wr q), x.w.cell? ⟨w.heap.size, 1, none⟩ = some (.slice g.ao g.len g.cap) := fun x => (HBC.out.ic.L.kept x.2).cell 1 rfl
                have hNE : Nonempty (Wd (fun q => Below wr.heap.size wr q)) := ⟨⟨_, Below.refl _ _⟩⟩
                refine wp_region_readsPN (fun q => Below wr.heap.size wr q) [0, 1, 2, 3, 4, 6, 7, 8, 9, 10, 11] 7 (by kernel_rfl) rfl (by kernel_rfl) (hj_of (by kernel_rfl)) ((Below.refl _ _).drew) ?_
                simp only [List.filterMap, List.getElem?_cons_zero, List.getElem?_cons_succ]
                iterate 4 go_big_quiet_step (fail)
                go_big_quiet_want
                refine quiet_load_row 41 (.tmp 53) rfl l.b (l.o + k * 16) (by kernel_rfl) (l.ps k).vs _ rF Tryz.underlying41 rfl (by kernel_rfl) ?_
                simp only [Act.put, List.setIfInBounds_toArray, List.set_cons_succ, List.set_cons_zero]
                go_big_quiet_on
                iterate 5 go_big_quiet_step (fail)
                go_big_quiet_want
                refine quiet_slOp 26 (.tmp 57) (some (.tmp 58)) (some (.tmp 60)) none rfl (.slice (some ⟨l.b, l.o, none⟩) l.len l.cap) (some (.int .i64 k)) (some (.int .i64 (k + 1))) none (by kernel_rfl) (by kernel_rfl) (by kernel_rfl) rfl (run_one l.b l.o l.len l.cap k HCP.out) ?_
                simp only [Act.put, List.setIfInBounds_toArray, List.set_cons_succ, List.set_cons_zero]
                go_big_quiet_on
                refine wpQuiet_nil ?_
                clear rF p0 p1 hNE
                have HV0 := hid (show Below wr.heap.size wr wr.drew from (Below.refl _ _).drew)
                generalize wr.drew = v0 at *
                refine wpAnyH_ready (rs := [5]) (by kernel_rfl) (by simp) ?_
                refine AllReadyH.cons rfl (fun K hK => ?_) AllReadyH.nil
                rw [if_pos (by rfl)]
                go_simp
                refine (Sig_any 0 n g (l.ps k) v0 (HBC.out.ic.hn.kept HV0.out) (HBC.out.ic.hg.kept HV0.out) (HP.out.1.kept HV0.out) (Nat.zero_le _)).mono ?_
                rintro _ v1 ⟨u1, rfl, uA, uB, uS, hb1⟩
                have HV1 := hid (show Below wr.heap.size wr v1 ∧ u1.At v1 ∧ u1.same (sigT n g (l.ps k)) = true from ⟨Below.next HV0.out hb1, uA, uS⟩)
                refine hK.out _ _ HV1.out.1 (fun _ => ?_)
                clear hK K hb1 uA uB uS HV0
                refine wpAnyH_ready (rs := [12]) (by kernel_rfl) (by simp) ?_
                refine AllReadyH.cons rfl (fun K hK => ?_) AllReadyH.nil
                rw [if_pos (by rfl)]
                go_simp
                refine (plainF_any (oneF l k) v1 (oneF_at (HBC.out.ic.hl.kept HV1.out.1) hlt) (by show 1 ≤ 70; omega) (fun i hi => by
                  have hi' : i < 1 := hi
                  have e : i = 0 := by omega
                  subst e
                  exact HP.out.2.1)).mono ?_
                rintro _ v2 ⟨sf, rfl, hpl, hb2⟩
                have hsl1 : sf.len = 1 := hpl.len
                have hsn := hpl.nil (by omega)
                have HV2 := hid (show Below wr.heap.size wr v2 ∧ u1.At v2 ∧ v2.rangeAt sf.b (sf.o + 0 * 16) (sf.ps 0).vs ∧ FeV (l.ps k) (sf.ps 0) from ⟨Below.next HV1.out.1 hb2, HV1.out.2.1.kept hb2, hpl.cells 0 (by omega), hpl.eq 0 (by show 0 < 1; omega)⟩)
                rw [hsn]
                have hs0 : 0 < sf.len := by omega
                refine hK.out _ _ HV2.out.1 (fun _ => ?_)
                clear hK K hb2 hpl hsl1 hsn
                refine wpAnyH_ready (rs := [13]) (by kernel_rfl) (by simp) ?_
                refine AllReadyH.cons rfl (fun K hK => ?_) AllReadyH.nil
                rw [if_pos (by rfl)]
                go_simp
                try rw [if_pos hs0]
                try go_simp
                refine hK.out _ _ HV2.out.1 (fun _ => ?_)
                clear hK K
                refine wpAnyH_ready (rs := [14]) (by kernel_rfl) (by simp) ?_
                refine AllReadyH.cons rfl (fun K hK => ?_) AllReadyH.nil
                rw [if_pos (by rfl)]
                refine wp_load_mid 50 (.tmp 63) rfl sf.b (sf.o + 0 * 16) (by kernel_rfl) (sf.ps 0).vs _ HV2.out.2.2.1 Tryz.underlying50 rfl (by kernel_rfl) ?_
                refine hK.out _ _ HV2.out.1 (fun _ => ?_)
                clear hK K
                obtain ⟨s1, hs1, hq1⟩ := HV2.out.2.2.2
                have HE2 := hid (show (sf.ps 0).param = (l.ps k).param ∧ (sf.ps 0).result = (l.ps k).result ∧ sigT n g (sf.ps 0) = sigT n g (l.ps k) from by rw [hs1]; exact ⟨rfl, rfl, rfl⟩)
                clear hs1 hq1
                refine wpAnyH_ready (rs := [15]) (by kernel_rfl) (by simp) ?_
                refine AllReadyH.cons rfl (fun K hK => ?_) AllReadyH.nil
                rw [if_pos (by rfl)]
                go_simp
                refine (rSig_any n g (sf.ps 0) v2 (HBC.out.ic.hn.kept HV2.out.1) (HBC.out.ic.hg.kept HV2.out.1) (by rw [HE2.out.1]; exact HP.out.1.param.kept HV2.out.1) (by rw [HE2.out.2.1]; exact HP.out.1.result.kept HV2.out.1)).mono ?_
                rintro _ v3 ⟨u2, rfl, uA, uS, hb3⟩
                have HV3 := hid (show Below wr.heap.size wr v3 ∧ u1.At v3 ∧ u2.At v3 ∧ u1.same u2 = true from ⟨Below.next HV2.out.1 hb3, HV2.out.2.1.kept hb3, uA, same_trans _ _ _ HV1.out.2.2 (same_symm_of (by rw [HE2.out.2.2] at uS; exact uS))⟩)
                refine hK.out _ _ HV3.out.1 (fun _ => ?_)
                clear hK K hb3 uA uS
                refine wpAnyH_ready (rs := [16]) (by kernel_rfl) (by simp) ?_
                refine AllReadyH.cons rfl (fun K hK => ?_) AllReadyH.nil
                rw [if_pos (by rfl)]
                go_simp
                refine Calls.mono (rSame_any2 u1 u2 v3 HV3.out.2.1 HV3.out.2.2.1) ?_
                rintro _ v4 ⟨rfl, hb4⟩
                have HV4 := hid (Below.next HV3.out.1 hb4)
                rw [HV3.out.2.2.2]
                refine hK.out _ _ HV4.out (fun _ => ?_)
                clear hK K hb4
                refine wpAnyH_ready (rs := [17]) (by kernel_rfl) (by simp) ?_
                refine AllReadyH.cons rfl (fun K hK => ?_) AllReadyH.nil
                rw [if_pos (by rfl)]
                go_simp
                refine hK.out _ _ HV4.out (fun _ => ?_)
                clear hK K
                refine wpAnyH_done (by kernel_rfl) ?_ _
                refine ⟨(fun c hc => by cases hc), ?_⟩
                have HBD := hid (HBC.out.kept HV4.out)
                clear HBC HV1 HV2 HV3 HV4 HE2 HP
                go_wp2
                go_roundw
                case rel => exact ⟨k + 1, by omega, by go_num, HBD.out⟩
                case measure => simp [intOf]; omega
              · have e2 : k = l.len := by omega
                subst e2
                have dd : ¬ (l.len : Int) < l.len := by omega
                go_wp2_with fail
                refine Calls.mono (CountN_any B wr HBC.out.at_) ?_
                rintro _ v1 ⟨rfl, hb1⟩
                have HB1 := hid (HBC.out.kept hb1)
                have HCN := hid (cnt_rc HBC.out.at_)
                clear hb1 HBC
                go_wp2_with fail
                refine Calls.mono (plainB_any B v1 HB1.out.at_ HB1.out.sz) ?_
                rintro _ v2 ⟨sb, rfl, hq2, hb2, hr2⟩
                have HB2 := hid (show Bo w n g l B v2 ∧ sb.At v2 ∧ sb.rc 64 = B.rc 64 from ⟨HB1.out.kept hb2, ats_eqv hb2 HB1.out.at_ hq2 hr2, rc_eqv hq2 64⟩)
                clear hb2 hq2 hr2 HB1
                go_wp2_with fail
                refine Calls.mono (rCount_any sb v2 HB2.out.2.1) ?_
                rintro _ v3 ⟨rfl, hb3⟩
                have HB3 := hid (HB2.out.1.kept hb3)
                rw [HB2.out.2.2, HCN.out]
                clear hb3 HB2 HCN
                generalize B.rc 64 = cc at *
                have x1 : ((cc : Int) == cc) = true := by simp
                go_wp2
                go_ret
                exact ⟨rfl, HB3.out.ic.bl⟩
      · have d1 : decide ((20 : Int) < b.len) = false := by simp; omega
        have HBC := hid HB0.out.1
        clear HB0
        go_upto_region 6 with fail
        clear d1 h20
        generalize b = B at *
        go_wp2
        go_loopw [7, 8] (fun bv i wr => ∃ (k : Nat) (B : Ns), k ≤ 80 ∧ i = .int .i64 k ∧ bv = .slice B.ao B.len B.cap ∧ Bo w n g l B wr) (fun _ i _ => 80 - (intOf i).toNat)
        case atStart => exact ⟨0, B, by omega, rfl, rfl, HBC.out⟩
        case round =>
          obtain ⟨k, B, hk, rfl, rfl, hB⟩ := hrel
          clear HBC
          have HBC := hid hB
          clear hB
          by_cases hlt : (k : Int) < (dp : Int) % 80
          · have hb16 := run_build_n16 B
            have hsl := run_slice2_nd (nd16 B) nd1 wr
            have hbn := below_alloc wr (.cells ((nd16 B).vs ++ nd1.vs).toArray 44)
            have HBN := hid (show Bo w n g l (nest B wr.heap.size) (wr.alloc (.cells ((nd16 B).vs ++ nd1.vs).toArray 44)) from ⟨HBC.out.ic.kept hbn, nest_at (HBC.out.at_.kept hbn) (Blk.new wr _ _), nest_szd HBC.out.sz⟩)
            clear hbn
            go_wp2_with (first | (refine wpList_buildI rfl 44 #[(0, .const (.int .i64 16)), (8, .tmp 40)] rfl _ (by kernel_rfl) (hb16 _) ?_) | (refine wpList_buildI rfl 44 #[(0, .const (.int .i64 1))] rfl _ (by kernel_rfl) (run_build_n1 _) ?_) | (refine wpList_slice rfl 39 2 #[(0, .tmp 41), (1, .tmp 42)] rfl #[(0, .agg (nd16 B).vs.toArray), (1, .agg nd1.vs.toArray)] (by kernel_rfl) hsl ?_))
            go_roundw
            case rel => exact ⟨k + 1, nest B wr.heap.size, by omega, by go_num, rfl, HBN.out⟩
            case measure => simp [intOf]; omega
          · go_wp2
            go_loopw [9] (fun i wr => ∃ (k : Nat), k ≤ l.len ∧ i = .int .i64 k ∧ Bo w n g l B wr) (fun i _ => l.len - (intOf i).toNat)
            case atStart => exact ⟨0, Nat.zero_le _, rfl, HBC.out⟩
            case round =>
              clear hlt hk
              clear HBC
              obtain ⟨k, hk, rfl, hB⟩ := hrel
              have HBC := hid hB
              clear hB
              by_cases hlt : k < l.len
              · have ij : (k : Int) < l.len := by omega
                have hk70 : k ≤ 70 := by have := HC.out.1.1; omega
                have HP := hid (show (l.ps k).At wr ∧ (l.ps k).body.szd ∧ wr.rangeAt l.b (l.o + k * 16) (l.ps k).vs from ⟨HBC.out.ic.hl.part k hlt, (HC.out.1.2 k hlt).2, HBC.out.ic.hl.cells k hlt⟩)
                have HCP : Hid (k + 1 ≤ l.cap) := by have := HF.out.1; show _ ≤ _; omega
                go_upto_region 13 with fail
                have rF : ∀ q, (∃ x : Wd (fun q => Below wr.heap.size wr q), q = x.w) → q.rangeAt l.b (l.o + k * 16) (l.ps k).vs := by rintro _ ⟨x, rfl⟩; exact rangeAt_kept HP.out.2.2 x.2
                have p0 : ∀ x : Wd (fun q => Below wr.heap.size wr q), x.w.cell? ⟨w.heap.size, 0, none⟩ = some (.slice n.ao n.len n.cap) := fun x => (HBC.out.ic.L.kept x.2).cell 0 rfl
                have p1 : ∀ x : Wd (fun q => Below wr.heap.size wr q), x.w.cell? ⟨w.heap.size, 1, none⟩ = some (.slice g.ao g.len g.cap) := fun x => (HBC.out.ic.L.kept x.2).cell 1 rfl
                have hNE : Nonempty (Wd (fun q => Below wr.heap.size wr q)) := ⟨⟨_, Below.refl _ _⟩⟩
                refine wp_region_readsPN (fun q => Below wr.heap.size wr q) [0, 1, 2, 3, 4, 6, 7, 8, 9, 10, 11] 7 (by kernel_rfl) rfl (by kernel_rfl) (hj_of (by kernel_rfl)) ((Below.refl _ _).drew) ?_
                simp only [List.filterMap, List.getElem?_cons_zero, List.getElem?_cons_succ]
                iterate 4 go_big_quiet_step (fail)
                go_big_quiet_want
                refine quiet_load_row 41 (.tmp 53) rfl l.b (l.o + k * 16) (by kernel_rfl) (l.ps k).vs _ rF Tryz.underlying41 rfl (by kernel_rfl) ?_
                simp only [Act.put, List.setIfInBounds_toArray, List.set_cons_succ, List.set_cons_zero]
                go_big_quiet_on
                iterate 5 go_big_quiet_step (fail)
                go_big_quiet_want
                refine quiet_slOp 26 (.tmp 57) (some (.tmp 58)) (some (.tmp 60)) none rfl (.slice (some ⟨l.b, l.o, none⟩) l.len l.cap) (some (.int .i64 k)) (some (.int .i64 (k + 1))) none (by kernel_rfl) (by kernel_rfl) (by kernel_rfl) rfl (run_one l.b l.o l.len l.cap k HCP.out) ?_
                simp only [Act.put, List.setIfInBounds_toArray, List.set_cons_succ, List.set_cons_zero]
                go_big_quiet_on
                refine wpQuiet_nil ?_
                clear rF p0 p1 hNE
                have HV0 := hid (show Below wr.heap.size wr wr.drew from (Below.refl _ _).drew)
                generalize wr.drew = v0 at *
                refine wpAnyH_ready (rs := [5]) (by kernel_rfl) (by simp) ?_
                refine AllReadyH.cons rfl (fun K hK => ?_) AllReadyH.nil
                rw [if_pos (by rfl)]
                go_simp
                refine (Sig_any 0 n g (l.ps k) v0 (HBC.out.ic.hn.kept HV0.out) (HBC.out.ic.hg.kept HV0.out) (HP.out.1.kept HV0.out) (Nat.zero_le _)).mono ?_
                rintro _ v1 ⟨u1, rfl, uA, uB, uS, hb1⟩
                have HV1 := hid (show Below wr.heap.size wr v1 ∧ u1.At v1 ∧ u1.same (sigT n g (l.ps k)) = true from ⟨Below.next HV0.out hb1, uA, uS⟩)
                refine hK.out _ _ HV1.out.1 (fun _ => ?_)
                clear hK K hb1 uA uB uS HV0
                refine wpAnyH_ready (rs := [12]) (by kernel_rfl) (by simp) ?_
                refine AllReadyH.cons rfl (fun K hK => ?_) AllReadyH.nil
                rw [if_pos (by rfl)]
                go_simp
                refine (plainF_any (oneF l k) v1 (oneF_at (HBC.out.ic.hl.kept HV1.out.1) hlt) (by show 1 ≤ 70; omega) (fun i hi => by
                  have hi' : i < 1 := hi
                  have e : i = 0 := by omega
                  subst e
                  exact HP.out.2.1)).mono ?_
                rintro _ v2 ⟨sf, rfl, hpl, hb2⟩
                have hsl1 : sf.len = 1 := hpl.len
                have hsn := hpl.nil (by omega)
                have HV2 := hid (show Below wr.heap.size wr v2 ∧ u1.At v2 ∧ v2.rangeAt sf.b (sf.o + 0 * 16) (sf.ps 0).vs ∧ FeV (l.ps k) (sf.ps 0) from ⟨Below.next HV1.out.1 hb2, HV1.out.2.1.kept hb2, hpl.cells 0 (by omega), hpl.eq 0 (by show 0 < 1; omega)⟩)
                rw [hsn]
                have hs0 : 0 < sf.len := by omega
                refine hK.out _ _ HV2.out.1 (fun _ => ?_)
                clear hK K hb2 hpl hsl1 hsn
                refine wpAnyH_ready (rs := [13]) (by kernel_rfl) (by simp) ?_
                refine AllReadyH.cons rfl (fun K hK => ?_) AllReadyH.nil
                rw [if_pos (by rfl)]
                go_simp
                try rw [if_pos hs0]
                try go_simp
                refine hK.out _ _ HV2.out.1 (fun _ => ?_)
                clear hK K
                refine wpAnyH_ready (rs := [14]) (by kernel_rfl) (by simp) ?_
                refine AllReadyH.cons rfl (fun K hK => ?_) AllReadyH.nil
                rw [if_pos (by rfl)]
                refine wp_load_mid 50 (.tmp 63) rfl sf.b (sf.o + 0 * 16) (by kernel_rfl) (sf.ps 0).vs _ HV2.out.2.2.1 Tryz.underlying50 rfl (by kernel_rfl) ?_
                refine hK.out _ _ HV2.out.1 (fun _ => ?_)
                clear hK K
                obtain ⟨s1, hs1, hq1⟩ := HV2.out.2.2.2
                have HE2 := hid (show (sf.ps 0).param = (l.ps k).param ∧ (sf.ps 0).result = (l.ps k).result ∧ sigT n g (sf.ps 0) = sigT n g (l.ps k) from by rw [hs1]; exact ⟨rfl, rfl, rfl⟩)
                clear hs1 hq1
                refine wpAnyH_ready (rs := [15]) (by kernel_rfl) (by simp) ?_
                refine AllReadyH.cons rfl (fun K hK => ?_) AllReadyH.nil
                rw [if_pos (by rfl)]
                go_simp
                refine (rSig_any n g (sf.ps 0) v2 (HBC.out.ic.hn.kept HV2.out.1) (HBC.out.ic.hg.kept HV2.out.1) (by rw [HE2.out.1]; exact HP.out.1.param.kept HV2.out.1) (by rw [HE2.out.2.1]; exact HP.out.1.result.kept HV2.out.1)).mono ?_
                rintro _ v3 ⟨u2, rfl, uA, uS, hb3⟩
                have HV3 := hid (show Below wr.heap.size wr v3 ∧ u1.At v3 ∧ u2.At v3 ∧ u1.same u2 = true from ⟨Below.next HV2.out.1 hb3, HV2.out.2.1.kept hb3, uA, same_trans _ _ _ HV1.out.2.2 (same_symm_of (by rw [HE2.out.2.2] at uS; exact uS))⟩)
                refine hK.out _ _ HV3.out.1 (fun _ => ?_)
                clear hK K hb3 uA uS
                refine wpAnyH_ready (rs := [16]) (by kernel_rfl) (by simp) ?_
                refine AllReadyH.cons rfl (fun K hK => ?_) AllReadyH.nil
                rw [if_pos (by rfl)]
                go_simp
                refine Calls.mono (rSame_any2 u1 u2 v3 HV3.out.2.1 HV3.out.2.2.1) ?_
                rintro _ v4 ⟨rfl, hb4⟩
                have HV4 := hid (Below.next HV3.out.1 hb4)
                rw [HV3.out.2.2.2]
                refine hK.out _ _ HV4.out (fun _ => ?_)
                clear hK K hb4
                refine wpAnyH_ready (rs := [17]) (by kernel_rfl) (by simp) ?_
                refine AllReadyH.cons rfl (fun K hK => ?_) AllReadyH.nil
                rw [if_pos (by rfl)]
                go_simp
                refine hK.out _ _ HV4.out (fun _ => ?_)
                clear hK K
                refine wpAnyH_done (by kernel_rfl) ?_ _
                refine ⟨(fun c hc => by cases hc), ?_⟩
                have HBD := hid (HBC.out.kept HV4.out)
                clear HBC HV1 HV2 HV3 HV4 HE2 HP
                go_wp2
                go_roundw
                case rel => exact ⟨k + 1, by omega, by go_num, HBD.out⟩
                case measure => simp [intOf]; omega
              · have e2 : k = l.len := by omega
                subst e2
                have dd : ¬ (l.len : Int) < l.len := by omega
                go_wp2_with fail
                refine Calls.mono (CountN_any B wr HBC.out.at_) ?_
                rintro _ v1 ⟨rfl, hb1⟩
                have HB1 := hid (HBC.out.kept hb1)
                have HCN := hid (cnt_rc HBC.out.at_)
                clear hb1 HBC
                go_wp2_with fail
                refine Calls.mono (plainB_any B v1 HB1.out.at_ HB1.out.sz) ?_
                rintro _ v2 ⟨sb, rfl, hq2, hb2, hr2⟩
                have HB2 := hid (show Bo w n g l B v2 ∧ sb.At v2 ∧ sb.rc 64 = B.rc 64 from ⟨HB1.out.kept hb2, ats_eqv hb2 HB1.out.at_ hq2 hr2, rc_eqv hq2 64⟩)
                clear hb2 hq2 hr2 HB1
                go_wp2_with fail
                refine Calls.mono (rCount_any sb v2 HB2.out.2.1) ?_
                rintro _ v3 ⟨rfl, hb3⟩
                have HB3 := hid (HB2.out.1.kept hb3)
                rw [HB2.out.2.2, HCN.out]
                clear hb3 HB2 HCN
                generalize B.rc 64 = cc at *
                have x1 : ((cc : Int) == cc) = true := by simp
                go_wp2
                go_ret
                exact ⟨rfl, HB3.out.ic.bl⟩
    · clear hr
      go_wp2_with fail
      refine Calls.mono (awake10_any wc) ?_
      rintro _ w2 ⟨rfl, hb2⟩
      have HI2 := hid (HI.out.kept hb2)
      clear hb2 HI
      go_wp2
      go_ret
      exact ⟨rfl, HI2.out.bl⟩
end Go.Proofs.YtbdhbgilaeldgaaGreat
