/- The walks of the reference's Bottom, Top, Below, SameInts. -/
import Derived.Test.YtbdhbgilaeldgaaGreatP7
import Derived.Test.YtbdhbgilaeldgaaGreatP6
import Derived.Test.YtbdhbgilaeldgaaGreatP21
namespace Go.Proofs.YtbdhbgilaeldgaaGreat
open Go.RowKit

theorem own_below {w w' : World} {base : Nat} {e : TypeId} {size : Nat} {v : Value} {n : Nat} {xs : List Value} (h : w.ownsRow base e size v n xs) (hb : Below w.heap.size w w') : w'.ownsRow base e size v n xs := by
  obtain ⟨h1, h2⟩ := h
  refine ⟨h1, ?_⟩
  rcases h2 with h2 | ⟨gb, cap, cur, hv, hg, hh, r⟩
  · exact Or.inl h2
  · refine Or.inr ⟨gb, cap, cur, hv, hg, ?_, r⟩
    rw [hb.block gb (Array.getElem?_eq_some_iff.1 hh).1]; exact hh

def lowB (n : Strs) (g : Grid) (a : Nat) : Bool := decide (∀ b, b < n.len → g.B a b = true)
def highB (n : Strs) (g : Grid) (a : Nat) : Bool := decide (∀ b, b < n.len → g.B b a = true)
theorem rbot_eq {n : Strs} {g : Grid} (hF : formedB n g = true) : findI (lowB n g) n.len 0 = botI n g := by
  obtain ⟨m, h1, h2, h3⟩ := bot_is hF
  rw [h1]
  refine findI_one _ h2 (decide_eq_true h3) (fun i hi hp => ?_)
  unfold lowB at hp
  rw [decide_eq_true_eq] at hp
  exact lq_anti hF hi h2 (hp m h2) (h3 i hi)
theorem rtop_eq {n : Strs} {g : Grid} (hF : formedB n g = true) : findI (highB n g) n.len 0 = topI n g := by
  obtain ⟨m, h1, h2, h3⟩ := top_is hF
  rw [h1]
  refine findI_one _ h2 (decide_eq_true h3) (fun i hi hp => ?_)
  unfold highB at hp
  rw [decide_eq_true_eq] at hp
  exact lq_anti hF hi h2 (h3 i hi) (hp m h2)
theorem all_to (p : Nat → Bool) (k : Nat) : decide (∀ b, b < k + 1 → p b = true) = (decide (∀ b, b < k → p b = true) && p k) := by
  rw [Bool.eq_iff_iff, Bool.and_eq_true, decide_eq_true_eq, decide_eq_true_eq]
  constructor
  · intro h; exact ⟨fun b hb => h b (by omega), h k (by omega)⟩
  · rintro ⟨h1, h2⟩ b hb
    rcases Nat.lt_succ_iff_lt_or_eq.1 hb with h | h
    · exact h1 b h
    · subst h; exact h2

set_option maxRecDepth 100000 in
set_option maxHeartbeats 2000000 in
theorem rBottom_any (n : Strs) (g : Grid) (w : World) (hn : n.At w) (hg : g.At w) :
    Calls Tryz.prog 29 #[.agg #[.slice n.ao n.len n.cap, .slice g.ao g.len g.cap]] w fun e w' => e = .returned (.int .i64 (botI n g)) ∧ Below w.heap.size w w' := by
  have B0 := Box2.start w (.slice n.ao n.len n.cap) (.slice g.ao g.len g.cap) 25
  have hnb := hn.bound
  cases hF : formedB n g
  · have HE : Hid (botI n g = -1) := by show botI n g = _; unfold botI; rw [hF]; rfl
    go_enter Tryz.func29, Tryz.ntmps29
    go_wp2
    go_loopw [3] (fun i wr => i = .int .i64 0 ∧ Box2 w wr (.slice n.ao n.len n.cap) (.slice g.ao g.len g.cap)) (fun _ _ => 0)
    case atStart => exact ⟨rfl, B0⟩
    case round =>
      obtain ⟨rfl, hB⟩ := hrel
      clear B0
      have c0 := hB.c0
      have c1 := hB.c1
      by_cases h0 : 0 < n.len
      · have i0 : decide ((0 : Int) < n.len) = true := by simp; omega
        go_wp2_with fail
        refine (rformedB' hn hg hB false hF).mono ?_
        rintro e w1 ⟨rfl, B1⟩
        go_wp2
        go_ret
        exact ⟨ret_int HE.out.symm, B1.bl⟩
      · have i0 : decide ((0 : Int) < n.len) = false := by simp; omega
        go_wp2
        go_ret
        exact ⟨ret_int HE.out.symm, hB.bl⟩
  · have HE : Hid (botI n g = findI (lowB n g) n.len 0) := (rbot_eq hF).symm
    have hq := sqat_of hF hn hg
    have hrf := fun (wr : World) (hB : Box2 w wr (.slice n.ao n.len n.cap) (.slice g.ao g.len g.cap)) => rformedB' hn hg hB true hF
    rw [hq.ao, hq.len] at hrf B0 ⊢
    have HR : Hid (∀ (wr : World) (hB : Box2 w wr (.slice n.ao n.len n.cap) (.slice (some ⟨g.gb, g.go, none⟩) n.len g.cap)), Calls Tryz.prog 26 #[.agg #[.slice n.ao n.len n.cap, .slice (some ⟨g.gb, g.go, none⟩) n.len g.cap]] wr fun e w' => e = .returned (.bool true) ∧ Box2 w w' (.slice n.ao n.len n.cap) (.slice (some ⟨g.gb, g.go, none⟩) n.len g.cap)) := hrf
    have l8 := hq.le8
    clear hF hrf
    go_enter Tryz.func29, Tryz.ntmps29
    go_wp2
    go_loopw [3] (fun i wr => ∃ a : Nat, a ≤ n.len ∧ i = .int .i64 a ∧ findI (lowB n g) n.len 0 = findI (lowB n g) (n.len - a) a ∧ Box2 w wr (.slice n.ao n.len n.cap) (.slice (some ⟨g.gb, g.go, none⟩) n.len g.cap)) (fun i _ => n.len - (intOf i).toNat)
    case atStart => exact ⟨0, Nat.zero_le _, rfl, rfl, B0⟩
    case round =>
      obtain ⟨a, ha, rfl, hdone, hB⟩ := hrel
      clear B0
      have HD : Hid (findI (lowB n g) n.len 0 = findI (lowB n g) (n.len - a) a) := hdone
      clear hdone
      have c0 := hB.c0
      have c1 := hB.c1
      by_cases hlt : a < n.len
      · have ia : decide ((a : Int) < n.len) = true := by simp; omega
        go_wp2_with fail
        refine (HR.out _ hB).mono ?_
        rintro e w1 ⟨rfl, B1⟩
        clear c0 c1 hB
        have c0 := B1.c0
        have c1 := B1.c1
        have q1 := hq.kept B1.bl
        have ra := q1.row hlt
        clear ia
        go_wp2
        go_loop [4, 5] (fun t i => ∃ b : Nat, b ≤ n.len ∧ i = .int .i64 b ∧ t = .bool (decide (∀ x, x < b → g.B a x = true))) (fun _ i => n.len - (intOf i).toNat)
        case atStart => exact ⟨0, Nat.zero_le _, rfl, by simp⟩
        case round =>
          obtain ⟨b, hb, rfl, rfl⟩ := hrel
          by_cases hltb : b < n.len
          · have f1 := q1.cell hlt hltb
            have ia : (a : Int) < n.len := by omega
            have ib : (b : Int) < n.len := by omega
            have HA : Hid (decide (∀ x, x < b + 1 → g.B a x = true) = (decide (∀ x, x < b → g.B a x = true) && g.B a b)) := all_to (fun x => g.B a x) b
            generalize hv : decide (∀ x, x < b → g.B a x = true) = v at *
            cases v
            · go_wp2
              go_round
              case rel => exact ⟨b + 1, by omega, by go_num, by rw [HA.out]; rfl⟩
              case measure => simp [intOf]; omega
            · go_wp2
              go_round
              case rel => exact ⟨b + 1, by omega, by go_num, by rw [HA.out]; rfl⟩
              case measure => simp [intOf]; omega
          · have e : b = n.len := by omega
            subst e
            have HV : Hid (lowB n g a = decide (∀ x, x < n.len → g.B a x = true)) := rfl
            generalize hv : decide (∀ x, x < n.len → g.B a x = true) = v at *
            cases v
            · go_wp2
              go_roundw
              case rel => exact ⟨a + 1, by omega, by go_num, HD.out.trans (findI_miss hlt HV.out), B1⟩
              case measure => simp [intOf]; omega
            · go_wp2
              go_ret
              exact ⟨ret_int (HE.out.trans (HD.out.trans (findI_hit hlt HV.out))).symm, B1.bl⟩
      · have ia : decide ((a : Int) < n.len) = false := by simp; omega
        go_wp2
        go_ret
        exact ⟨ret_int (HE.out.trans (HD.out.trans (findI_end hlt))).symm, hB.bl⟩
theorem rbel_to (n : Strs) (g : Grid) (a : Int) : belL n g a = (List.range n.len).filter (fun (b : Nat) => leqB n g b a) := by
  unfold belL
  by_cases h : (labB n a && formedB n g) = true
  · rw [if_pos h]
    rw [Bool.and_eq_true] at h
    obtain ⟨x, rfl, hx⟩ := lab_nat h.1
    unfold belTo
    refine List.filter_congr fun b hb => ?_
    rw [leqB_nat h.2 (by simpa using hb) hx]; rfl
  · rw [if_neg h]
    symm
    rw [List.filter_eq_nil_iff]
    intro b _ hb
    unfold leqB at hb
    rw [Bool.and_eq_true, Bool.and_eq_true, Bool.and_eq_true] at hb
    exact h (by rw [hb.1.1.2, hb.1.2]; rfl)
theorem rbel_len (n : Strs) (g : Grid) (a : Int) (k : Nat) (hk : k ≤ n.len) : ((List.range k).filter (fun (b : Nat) => leqB n g b a)).length ≤ 8 := by
  by_cases h : formedB n g = true
  · have := formed_parts h
    have h2 := List.length_filter_le (fun (b : Nat) => leqB n g b a) (List.range k)
    simp at h2
    omega
  · have e : (List.range k).filter (fun (b : Nat) => leqB n g b a) = [] := by
      rw [List.filter_eq_nil_iff]
      intro b _ hb
      unfold leqB at hb
      rw [Bool.and_eq_true, Bool.and_eq_true] at hb
      exact h hb.1.2
    rw [e]; simp

end Go.Proofs.YtbdhbgilaeldgaaGreat

/- Layer 10: what a node needs, as data; needed. -/
namespace Go.Proofs.YtbdhbgilaeldgaaGreat
open Go Go.RowKit

/-- What an Op needs beside slots and Env; those within told by x, y. -/
def needB (n : Strs) (g : Grid) (many : Int) (h : Hd) (x y : Bool) : Bool :=
  if h.op = 2 then wthB h.n 2 else if h.op = 4 then (decide (6 ≤ h.n) && decide (h.n ≤ 12)) else if h.op = 9 then wthB h.n many else if h.op = 12 then okB n g h.t else if h.op = 15 then wthB h.n n.len
  else if h.op = 16 ∨ h.op = 17 then (x && y) else (decide (1 ≤ h.op) && decide (h.op ≤ 18))
def shpB (n : Strs) (g : Grid) (many : Int) (m : Nat) (h : Hd) (x y : Bool) : Bool := ((wthB h.env n.len && slotsB m h.rds) && (!h.wrs || slotsB m [h.dst])) && needB n g many h x y
/-- Is a node shaped? -/
def Nd.shp (n : Strs) (g : Grid) (many : Int) (m : Nat) : Nd → Bool
  | .dm => false
  | .mk h _ _ _ bl _ bp _ _ _ el _ ep => shpB n g many m h (decide (∀ i, i < bl → Nd.shp n g many m (bp i) = true)) (decide (∀ i, i < el → Nd.shp n g many m (ep i) = true))
def Ns.shp (n : Strs) (g : Grid) (many : Int) (m : Nat) (b : Ns) : Bool := decide (∀ i, i < b.len → (b.ps i).shp n g many m = true)
theorem Nd.shp_eq {w : World} {n : Strs} {g : Grid} {many : Int} {m : Nat} : ∀ {nd : Nd}, nd.At w → nd.shp n g many m = shpB n g many m nd.h (nd.bd.shp n g many m) (nd.el.shp n g many m)
  | .dm, h => h.elim
  | .mk _ _ _ _ _ _ _ _ _ _ _ _ _, _ => rfl
def NodesC (n : Strs) (g : Grid) (many : Int) (f : Fc) (b : Ns) : Prop := ∀ w : World, n.At w → g.At w → b.At w → Calls Tryz.prog 45 #[.agg (shV n g many f).toArray, .slice b.ao b.len b.cap] w fun e w' => e = .returned (.bool (b.shp n g many f.slots.len)) ∧ Below w.heap.size w w'
structure Dw (w : World) (n : Strs) (g : Grid) (many : Int) (f : Fc) (nd : Nd) (u : World) : Prop where
  bl : Below w.heap.size w u
  H : Blk u w.heap.size (shV n g many f) 64
  N : Blk u (w.heap.size + 1) nd.vs 44
theorem dw_new (w : World) (n : Strs) (g : Grid) (many : Int) (f : Fc) (nd : Nd) : Dw w n g many f nd ((w.alloc (.cells (shV n g many f).toArray 64)).alloc (.cells nd.va 44)) := by
  have H := allocs_heap [.cells (shV n g many f).toArray 64, .cells nd.va 44] w
  have B0 := allocs_below [.cells (shV n g many f).toArray 64, .cells nd.va 44] w
  simp only [List.foldl] at H B0
  exact ⟨B0, H 0 (by simp), H 1 (by simp)⟩
set_option maxRecDepth 100000 in
set_option maxHeartbeats 8000000 in
theorem needed_any (n : Strs) (g : Grid) (many : Int) (f : Fc) (nd : Nd) (w : World) (hn : n.At w) (hg : g.At w) (hd : nd.At w) (h1 : NodesC n g many f nd.bd) (h2 : NodesC n g many f nd.el) :
    Calls Tryz.prog 79 #[.agg (shV n g many f).toArray, .agg nd.va] w fun e w' => e = .returned (.bool (needB n g many nd.h (nd.bd.shp n g many f.slots.len) (nd.el.shp n g many f.slots.len))) ∧ Below w.heap.size w w' := by
  have HI := hid (dw_new w n g many f nd)
  have HH := hid (show n.At w ∧ g.At w ∧ nd.At w ∧ NodesC n g many f nd.bd ∧ NodesC n g many f nd.el from ⟨hn, hg, hd, h1, h2⟩)
  obtain ⟨R, hR⟩ : ∃ R, R = needB n g many nd.h (nd.bd.shp n g many f.slots.len) (nd.el.shp n g many f.slots.len) := ⟨_, rfl⟩
  rw [← hR]
  have HR := hid hR
  clear hn hg hd h1 h2 hR
  have c0 := HI.out.N.cell 0 (v := .int .i64 nd.h.op) rfl
  have c4 := HI.out.N.cell 4 (v := .int .i64 nd.h.n) rfl
  go_enter Tryz.func79, Tryz.ntmps79
  go_upto_region 1 with fail
  generalize ((w.alloc (.cells (shV n g many f).toArray 64)).alloc (.cells nd.va 44)) = w1 at *
  by_cases o2 : nd.h.op = 2
  · have HF : Hid (R = wthB nd.h.n 2) := by show _ = _; rw [HR.out]; unfold needB; rw [if_pos o2]
    rw [o2] at c0
    have hW := within_any nd.h.n 2 w1
    go_wp2_with fail
    refine hW.mono ?_
    rintro _ w2 ⟨rfl, hb⟩
    rw [← HF.out]
    go_wp2
    go_ret
    exact ⟨rfl, Below.next HI.out.bl hb⟩
  by_cases o4 : nd.h.op = 4
  · have HF : Hid (R = (decide (6 ≤ nd.h.n) && decide (nd.h.n ≤ 12))) := by show _ = _; rw [HR.out]; unfold needB; rw [if_neg o2, if_pos o4]
    rw [o4] at c0
    by_cases h6 : 6 ≤ nd.h.n
    · go_wp2
      go_ret
      exact ⟨ret_bool (by rw [HF.out, decide_eq_true h6]; rfl), HI.out.bl⟩
    · go_wp2
      go_ret
      exact ⟨ret_bool (by rw [HF.out, decide_eq_false (p := 6 ≤ nd.h.n) (by omega)]; rfl), HI.out.bl⟩
  by_cases o9 : nd.h.op = 9
  · have HF : Hid (R = wthB nd.h.n many) := by show _ = _; rw [HR.out]; unfold needB; rw [if_neg o2, if_neg o4, if_pos o9]
    rw [o9] at c0
    have d2 := HI.out.H.cell 2 (v := .int .i64 many) rfl
    have hW := within_any nd.h.n many w1
    go_wp2_with fail
    refine hW.mono ?_
    rintro _ w2 ⟨rfl, hb⟩
    rw [← HF.out]
    go_wp2
    go_ret
    exact ⟨rfl, Below.next HI.out.bl hb⟩
  by_cases o12 : nd.h.op = 12
  · have HF : Hid (R = okB n g nd.h.t) := by show _ = _; rw [HR.out]; unfold needB; rw [if_neg o2, if_neg o4, if_neg o9, if_pos o12]
    rw [o12] at c0
    have d0 := HI.out.H.cell 0 (v := .slice n.ao n.len n.cap) rfl
    have d1 := HI.out.H.cell 1 (v := .slice g.ao g.len g.cap) rfl
    have r6 : w1.rangeAt (w.heap.size + 1) 6 nd.h.t.vs := range_of5 HI.out.N 6 rfl rfl rfl rfl rfl
    have hW := Formed2_any n g nd.h.t w1 (HH.out.1.kept HI.out.bl) (HH.out.2.1.kept HI.out.bl) (HH.out.2.2.1.t.kept HI.out.bl)
    go_wp2_with (refine wpList_load_mid rfl 38 (.tmp 33) rfl (w.heap.size + 1) 6 (by kernel_rfl) nd.h.t.vs _ r6 Tryz.underlying38 rfl (by kernel_rfl) ?_)
    refine Calls.mono hW ?_
    rintro _ w2 ⟨rfl, hb⟩
    rw [← HF.out]
    go_wp2
    go_ret
    exact ⟨rfl, Below.next HI.out.bl hb⟩
  by_cases o15 : nd.h.op = 15
  · have HF : Hid (R = wthB nd.h.n n.len) := by show _ = _; rw [HR.out]; unfold needB; rw [if_neg o2, if_neg o4, if_neg o9, if_neg o12, if_pos o15]
    rw [o15] at c0
    have d0 := HI.out.H.cell 0 (v := .slice n.ao n.len n.cap) rfl
    have hW := within_any nd.h.n n.len w1
    go_wp2_with fail
    refine hW.mono ?_
    rintro _ w2 ⟨rfl, hb⟩
    rw [← HF.out]
    go_wp2
    go_ret
    exact ⟨rfl, Below.next HI.out.bl hb⟩
  by_cases o16 : nd.h.op = 16 ∨ nd.h.op = 17
  · have HF : Hid (R = (nd.bd.shp n g many f.slots.len && nd.el.shp n g many f.slots.len)) := by show _ = _; rw [HR.out]; unfold needB; rw [if_neg o2, if_neg o4, if_neg o9, if_neg o12, if_neg o15, if_pos o16]
    have c12 := HI.out.N.cell 12 (v := .slice nd.bd.ao nd.bd.len nd.bd.cap) rfl
    have bH := HI.out.H
    have hW := HH.out.2.2.2.1 w1 (HH.out.1.kept HI.out.bl) (HH.out.2.1.kept HI.out.bl) (HH.out.2.2.1.kept HI.out.bl).bd
    clear o2 o4 o9 o12 o15 c4
    generalize nd.h.op = op at *
    rcases o16 with rfl | rfl
    all_goals
      go_wp2_with (refine wpList_load_mid rfl 64 (.tmp 2) rfl w.heap.size 0 (by kernel_rfl) (shV n g many f) _ bH.range Tryz.underlying64 rfl (by kernel_rfl) ?_)
      refine Calls.mono hW ?_
      rintro _ w2 ⟨rfl, hb⟩
      have HB := hid (show Below w1.heap.size w1 w2 from hb)
      clear hW hb c0 c12 bH
      generalize nd.bd.shp n g many f.slots.len = x at *
      cases x
      · go_wp2
        go_ret
        exact ⟨ret_bool (by rw [HF.out]; rfl), Below.next HI.out.bl HB.out⟩
      · have c13 := (HI.out.N.kept HB.out).cell 13 (v := .slice nd.el.ao nd.el.len nd.el.cap) rfl
        have bH := HI.out.H.kept HB.out
        have hW := HH.out.2.2.2.2 w2 ((HH.out.1.kept HI.out.bl).kept HB.out) ((HH.out.2.1.kept HI.out.bl).kept HB.out) ((HH.out.2.2.1.kept HI.out.bl).kept HB.out).el
        go_wp2_with (refine wpList_load_W (by kernel_rfl) 64 (.tmp 2) rfl w.heap.size 0 (by kernel_rfl) (shV n g many f) _ bH.range Tryz.underlying64 rfl (by kernel_rfl) ?_)
        refine Calls.mono hW ?_
        rintro _ w3 ⟨rfl, hb⟩
        clear hW c13 bH
        rw [show nd.el.shp n g many f.slots.len = R by rw [HF.out]; rfl]
        go_wp2
        go_ret
        exact ⟨rfl, Below.next (Below.next HI.out.bl HB.out) hb⟩
  · have HF : Hid (R = (decide (1 ≤ nd.h.op) && decide (nd.h.op ≤ 18))) := by show _ = _; rw [HR.out]; unfold needB; rw [if_neg o2, if_neg o4, if_neg o9, if_neg o12, if_neg o15, if_neg o16]
    have e2 := beqI o2
    have e4 := beqI o4
    have e9 := beqI o9
    have e12 := beqI o12
    have e15 := beqI o15
    have e16 := beqI (fun e => o16 (Or.inl e))
    have e17 := beqI (fun e => o16 (Or.inr e))
    clear o2 o4 o9 o12 o15 o16
    by_cases h6 : 1 ≤ nd.h.op
    · go_wp2
      go_ret
      exact ⟨ret_bool (by rw [HF.out, decide_eq_true h6]; rfl), HI.out.bl⟩
    · go_wp2
      go_ret
      exact ⟨ret_bool (by rw [HF.out, decide_eq_false (p := 1 ≤ nd.h.op) (by omega)]; rfl), HI.out.bl⟩
end Go.Proofs.YtbdhbgilaeldgaaGreat
