/- Layer 13: what is asked of a function's bounds, and of regions. -/
import Derived.Test.YtmkncmmegjfipaaGreatDoorP26
import Derived.Deep.QuietTactic
namespace Go.Proofs.YtmkncmmegjfipaaGreatDoor
open Go Go.RowKit

set_option maxHeartbeats 1000000 in
theorem cLabel_any {w0 : World} {n : Strs} {g : Grid} {p : Nat} {S : Nat → Prop} {R : List Ty} (a : Int) (w : World) (hP : Pl w0 n g p S R w) :
    Calls Tryz.prog 136 #[.pointer (some ⟨p, 0, none⟩), .int .i64 a] w fun e w' => e = .returned (.bool (inR n.len a)) ∧ Below w.heap.size w w' := by
  obtain ⟨m, v, es, c, Q, hPw, _⟩ := hP
  have p0 := hPw.blk.cell 0 rfl
  have HB := hyd (Below.refl w.heap.size w)
  have HE : Hid (inR n.len a = (decide (0 ≤ a) && decide (a < n.len))) := rfl
  clear hPw
  generalize inR n.len a = r at *
  by_cases h0 : 0 ≤ a
  · have HE2 : Hid (r = decide (a < n.len)) := by show _ = _; rw [HE.out, decide_eq_true h0]; rfl
    go_enter Tryz.func136, Tryz.ntmps136
    go_wp2
    go_ret
    exact ⟨ret_bool HE2.out.symm, HB.out⟩
  · have HE2 : Hid (r = false) := by show _ = _; rw [HE.out, decide_eq_false h0]; rfl
    go_enter Tryz.func136, Tryz.ntmps136
    go_wp2
    go_ret
    exact ⟨ret_bool HE2.out.symm, HB.out⟩

theorem run_max2 (w : World) (a b : Int) : ∃ M, (Builtin.max2 (.int .i64 a) (.int .i64 b)).run Tryz.prog w = .ok (.int .i64 M) w ∧ (∀ k, M ≤ k ↔ a ≤ k ∧ b ≤ k) := by
  by_cases h : a < b
  · exact ⟨b, by simp [Builtin.max2]; omega, fun k => by omega⟩
  · exact ⟨a, by simp [Builtin.max2]; omega, fun k => by omega⟩
theorem run_max4 (ts : Array TypeId) (ty : TypeId) (w : World) (a b c d : Int) : ∃ M, (Builtin.max_ ts ty #[.int .i64 a, .int .i64 b, .int .i64 c, .int .i64 d]).run Tryz.prog w = .ok (.int .i64 M) w ∧ (M ≤ 2000 ↔ ((a ≤ 2000 ∧ b ≤ 2000) ∧ c ≤ 2000) ∧ d ≤ 2000) := by
  obtain ⟨M1, h1, k1⟩ := run_max2 w a b
  obtain ⟨M2, h2, k2⟩ := run_max2 w M1 c
  obtain ⟨M3, h3, k3⟩ := run_max2 w M2 d
  refine ⟨M3, ?_, by rw [k3, k2, k1]⟩
  unfold Builtin.max_
  simp [h1, h2, h3]
set_option maxHeartbeats 4000000 in
theorem fewEnough_any (f : Cf) (w : World) : Calls Tryz.prog 98 #[.agg f.vs.toArray] w fun e w' => e = .returned (.bool f.few) ∧ Below w.heap.size w w' := by
  have B0 := hyd (below_alloc w (.cells f.vs.toArray 66))
  have b := Blk.new w f.vs 66
  have c10 := b.cell 10 rfl
  have c14 := b.cell 14 rfl
  have c15 := b.cell 15 rfl
  have c16 := b.cell 16 rfl
  have c17 := b.cell 17 rfl
  have HF : Hid (f.few = (decide (f.c.len ≤ 16) && (decide (f.cd.len ≤ 2000) && (decide (f.hd.len ≤ 2000) && (decide (f.pt.len ≤ 2000) && decide (f.rg.len ≤ 2000)))))) := rfl
  generalize f.few = F at *
  generalize f.vs.toArray = V at *
  clear b
  by_cases h0 : f.c.len ≤ 16
  · have i0 : (f.c.len : Int) ≤ 16 := by omega
    obtain ⟨M, hmx, hM⟩ := run_max4 #[3, 3, 3, 3] 3 (w.alloc (.cells V 66)) f.cd.len f.hd.len f.pt.len f.rg.len
    have HE : Hid (F = decide (M ≤ 2000)) := by
      show _ = _
      rw [HF.out, decide_eq_true h0, Bool.true_and]
      by_cases h : M ≤ 2000
      · rw [decide_eq_true h]
        have := hM.1 h
        simp; omega
      · rw [decide_eq_false h]
        simp
        intro h1 h2 h3
        apply Classical.byContradiction
        intro h4
        exact h (hM.2 (by omega))
    clear hM
    go_enter Tryz.func98, Tryz.ntmps98
    go_wp2
    go_ret
    exact ⟨ret_bool HE.out.symm, B0.out⟩
  · have i0 : ¬ (f.c.len : Int) ≤ 16 := by omega
    have HE : Hid (F = false) := by show _ = _; rw [HF.out, decide_eq_false h0]; rfl
    go_enter Tryz.func98, Tryz.ntmps98
    go_wp2
    go_ret
    exact ⟨ret_bool HE.out.symm, B0.out⟩

set_option maxHeartbeats 4000000 in
theorem cBounds_any {w0 : World} {n : Strs} {g : Grid} {p : Nat} {S : Nat → Prop} {R : List Ty} (f : Cf) (w : World) (hP : Pl w0 n g p S R w) :
    Calls Tryz.prog 97 #[.pointer (some ⟨p, 0, none⟩), .agg f.vs.toArray] w fun e w' => e = .returned (.bool (f.bnds n.len)) ∧ Below w.heap.size w w' := by
  have B0 := below_alloc w (.cells f.vs.toArray 66)
  have b := Blk.new w f.vs 66
  have c11 := b.cell 11 rfl
  have c12 := b.cell 12 rfl
  have c13 := b.cell 13 rfl
  have HF : Hid (f.bnds n.len = (((inR n.len f.h && (decide (f.e = -1) || inR n.len f.e)) && decide (1 ≤ f.sl)) && decide (f.sl ≤ 250))) := rfl
  have HP := hyd (hP.kept B0)
  have h1 := cLabel_any f.h _ (hP.kept B0)
  have HB := hyd B0
  clear b hP B0
  generalize f.bnds n.len = F at *
  generalize f.vs.toArray = V at *
  generalize inR n.len f.h = r0 at *
  go_enter Tryz.func97, Tryz.ntmps97
  go_wp2_with fail
  refine h1.mono ?_
  rintro _ w1 ⟨rfl, hb1⟩
  have HP1 := hyd (HP.out.kept hb1)
  have HB1 := hyd (Below.next HB.out hb1)
  have d12 := up hb1 c12
  have d13 := up hb1 c13
  clear h1 hb1 c11 c12 c13 HP HB
  cases r0
  · have HE : Hid (F = false) := by show _ = _; rw [HF.out]; rfl
    go_wp2
    go_ret
    exact ⟨ret_bool HE.out.symm, HB1.out⟩
  · by_cases he : f.e = -1
    · have de : (f.e == -1) = true := by simpa using he
      have HE : Hid (F = (decide (1 ≤ f.sl) && decide (f.sl ≤ 250))) := by show _ = _; rw [HF.out, decide_eq_true he]; rfl
      clear he
      by_cases hs : 1 ≤ f.sl
      · have HE2 : Hid (F = decide (f.sl ≤ 250)) := by show _ = _; rw [HE.out, decide_eq_true hs]; rfl
        go_wp2
        go_ret
        exact ⟨ret_bool HE2.out.symm, HB1.out⟩
      · have HE2 : Hid (F = false) := by show _ = _; rw [HE.out, decide_eq_false hs]; rfl
        go_wp2
        go_ret
        exact ⟨ret_bool HE2.out.symm, HB1.out⟩
    · have de : (f.e == -1) = false := by simpa using he
      have HE : Hid (F = ((inR n.len f.e && decide (1 ≤ f.sl)) && decide (f.sl ≤ 250))) := by show _ = _; rw [HF.out, decide_eq_false he]; rfl
      have h2 := cLabel_any f.e w1 HP1.out
      clear he
      generalize inR n.len f.e = r1 at *
      go_wp2_with fail
      refine h2.mono ?_
      rintro _ w2 ⟨rfl, hb2⟩
      have HB2 := hyd (Below.next HB1.out hb2)
      have e13 := up hb2 d13
      clear h2 hb2 d12 d13 HP1
      cases r1
      · have HE2 : Hid (F = false) := by show _ = _; rw [HE.out]; rfl
        go_wp2
        go_ret
        exact ⟨ret_bool HE2.out.symm, HB2.out⟩
      · by_cases hs : 1 ≤ f.sl
        · have HE2 : Hid (F = decide (f.sl ≤ 250)) := by show _ = _; rw [HE.out, decide_eq_true hs]; rfl
          go_wp2
          go_ret
          exact ⟨ret_bool HE2.out.symm, HB2.out⟩
        · have HE2 : Hid (F = false) := by show _ = _; rw [HE.out, decide_eq_false hs]; rfl
          go_wp2
          go_ret
          exact ⟨ret_bool HE2.out.symm, HB2.out⟩

set_option maxHeartbeats 4000000 in
theorem regionFormed_any (r : Rn) (w : World) (hr : r.At w) : Calls Tryz.prog 107 #[.agg r.vs.toArray] w fun e w' => e = .returned (.bool r.fm) ∧ Below w.heap.size w w' := by
  show Calls Tryz.prog 107 #[.agg #[.int .i64 r.at_, .int .i64 r.join, .slice r.ps.ao r.ps.len r.ps.cap]] w fun e w' => e = .returned (.bool r.fm) ∧ Below w.heap.size w w'
  have B0 := below_alloc w (.cells #[.int .i64 r.at_, .int .i64 r.join, .slice r.ps.ao r.ps.len r.ps.cap] 110)
  have b := Blk.new w [.int .i64 r.at_, .int .i64 r.join, .slice r.ps.ao r.ps.len r.ps.cap] 110
  have c0 := b.cell 0 rfl
  have c1 := b.cell 1 rfl
  have c2 := b.cell 2 rfl
  have HF : Hid (r.fm = (((shB r.at_ && (decide (-1 ≤ r.join) && decide (r.join ≤ 65534))) && decide (r.ps.len ≤ 2000)) && decide (∀ i, i < r.ps.len → shB (r.ps.x i) = true))) := rfl
  have h0 := isShort_any r.at_ (w.alloc (.cells #[.int .i64 r.at_, .int .i64 r.join, .slice r.ps.ao r.ps.len r.ps.cap] 110))
  have HR := hyd (hr.kept B0)
  have HB := hyd B0
  clear b B0 hr
  generalize r.fm = F at *
  generalize shB r.at_ = b0 at *
  go_enter Tryz.func107, Tryz.ntmps107
  go_wp2_with fail
  refine h0.mono ?_
  rintro _ w1 ⟨rfl, hb1⟩
  have HB1 := hyd (Below.next HB.out hb1)
  have HR1 := hyd (Rn.At.kept hb1 HR.out)
  have d1 := up hb1 c1
  have d2 := up hb1 c2
  clear h0 c0 c1 c2 hb1 HR HB
  cases b0
  · have HE : Hid (F = false) := by show _ = _; rw [HF.out]; rfl
    go_wp2
    go_ret
    exact ⟨ret_bool HE.out.symm, HB1.out⟩
  · have HG := hyd HR1.out.join
    by_cases hj : r.join = 9223372036854775807
    · rw [hj] at d1
      have h2 := isShort_any (-9223372036854775808) w1
      have hs : shB (-9223372036854775808) = false := by decide
      have hw64 : wrap64 9223372036854775808 = -9223372036854775808 := by kernel_rfl
      rw [hs] at h2
      have HE : Hid (F = false) := by show _ = _; rw [HF.out, hj]; rfl
      clear hj hs
      go_wp2_with fail
      rw [hw64]
      refine h2.mono ?_
      rintro _ w2 ⟨rfl, hb2⟩
      have HB2 := hyd (Below.next HB1.out hb2)
      clear h2 hb2 d1 d2
      go_wp2
      go_ret
      exact ⟨ret_bool HE.out.symm, HB2.out⟩
    · have hg1 : -9223372036854775808 ≤ r.join + 1 := by have := HG.out.1; omega
      have hg2 : r.join + 1 ≤ 9223372036854775807 := by have := HG.out.2; omega
      have h2 := isShort_any (r.join + 1) w1
      have HS : Hid (shB (r.join + 1) = (decide (-1 ≤ r.join) && decide (r.join ≤ 65534))) := by
        show _ = _
        unfold shB
        congr 1
        · exact decide_eq_decide.2 (by omega)
        · exact decide_eq_decide.2 (by omega)
      rw [HS.out] at h2
      generalize (decide (-1 ≤ r.join) && decide (r.join ≤ 65534)) = b1 at *
      clear hj
      go_wp2_with fail
      refine h2.mono ?_
      rintro _ w2 ⟨rfl, hb2⟩
      have HB2 := hyd (Below.next HB1.out hb2)
      have HR2 := hyd (Rn.At.kept hb2 HR1.out)
      have e2 := up hb2 d2
      clear h2 hb2 d1 d2 HR1 hg1 hg2 HS
      cases b1
      · have HE : Hid (F = false) := by show _ = _; rw [HF.out]; rfl
        go_wp2
        go_ret
        exact ⟨ret_bool HE.out.symm, HB2.out⟩
      · by_cases hl : r.ps.len ≤ 2000
        · have il : (r.ps.len : Int) ≤ 2000 := by omega
          have h3 := all_int shB r.ps w2 HR2.out.ps isShort_any
          have HE : Hid (F = decide (∀ i, i < r.ps.len → shB (r.ps.x i) = true)) := by show _ = _; rw [HF.out, decide_eq_true hl]; rfl
          generalize decide (∀ i, i < r.ps.len → shB (r.ps.x i) = true) = b3 at *
          go_wp2_with fail
          refine h3.mono ?_
          rintro _ w3 ⟨rfl, hb3⟩
          have HB3 := hyd (Below.next HB2.out hb3)
          clear h3 hb3 e2
          go_wp2
          go_ret
          exact ⟨ret_bool HE.out.symm, HB3.out⟩
        · have il : ¬ (r.ps.len : Int) ≤ 2000 := by omega
          have HE : Hid (F = false) := by show _ = _; rw [HF.out, decide_eq_false hl]; rfl
          go_wp2
          go_ret
          exact ⟨ret_bool HE.out.symm, HB2.out⟩
end Go.Proofs.YtmkncmmegjfipaaGreatDoor

/- Layer 13: what is asked of lists of types and of instructions. -/
namespace Go.Proofs.YtmkncmmegjfipaaGreatDoor
open Go Go.RowKit

/-- What a question to a pool answers, and what it has then, by at most so many more. -/
structure BR (w0 : World) (n : Strs) (g : Grid) (p : Nat) (S : Nat → Prop) (w : World) (R : List Ty) (c : Nat) (ans : Bool) (R' : List Ty) (e : Ending) (w' : World) : Prop where
  ret : e = .returned (.bool ans)
  yes : ans = true → (∃ S', Pg w0 n g p S w S' R' w') ∧ R'.length ≤ R.length + c
  bl : Below w0.heap.size w0 w'
def takeL (f : Nat → Ty) : Nat → List Ty → List Ty
  | 0, R => R
  | k + 1, R => takeT (takeL f k R) (f k)

set_option maxHeartbeats 2000000 in
theorem takesAll_any {w0 : World} {n : Strs} {g : Grid} {p : Nat} (hF : formedB n g = true) (hn : n.At w0) (hg : g.At w0) (T : Ty) (S : Nat → Prop) (R : List Ty) (w : World) (hT : T.At w0) (hP : Pl w0 n g p S R w) (hR : R.length + 40 * T.len ≤ 2000000000) :
    Calls Tryz.prog 100 #[.pointer (some ⟨p, 0, none⟩), .slice T.ao T.len T.cap] w fun e w' => BR w0 n g p S w R (40 * T.len) (decide (∀ i, i < T.len → (T.ps i).ok n.len = true)) (takeL T.ps T.len R) e w' := by
  have hA := all_ty (.pointer (some ⟨p, 0, none⟩)) (fun i u => (∃ S', Pg w0 n g p S w S' (takeL T.ps i R) u) ∧ (takeL T.ps i R).length ≤ R.length + 40 * i) (fun u => Below w0.heap.size w0 u) (fun i => (T.ps i).ok n.len) T.ao T.b T.o T.len T.cap (fun i => (T.ps i).vs) w hT.nil hT.bound (fun _ _ => rfl) (fun i _ => tvs_one _)
    (fun i u hi h => by
      obtain ⟨⟨S', h1⟩, _⟩ := h
      exact c5row ((hT.kept h1.pl.bl).cells hi))
    (fun i u u' _ h hb => by
      obtain ⟨⟨S', h1⟩, h2⟩ := h
      exact ⟨⟨S', h1.kept hb⟩, h2⟩)
    (fun i u hi h => by
      obtain ⟨⟨S', h1⟩, h2⟩ := h
      refine (takes_any hF hn hg (T.ps i) S' (takeL T.ps i R) u (hT.part hi) h1.pl (by
        have : 40 * (i + 1) ≤ 40 * T.len := Nat.mul_le_mul_left _ hi
        omega)).mono ?_
      rintro e u' ⟨h3, S2, h4⟩
      refine ⟨h3, fun h5 => ?_, fun _ => h4.pl.bl⟩
      rw [if_pos h5] at h4
      refine ⟨⟨S2, h1.trans h4⟩, ?_⟩
      have h6 := takeT_len (takeL T.ps i R) (T.ps i)
      have h7 := (ok_fm h5).2
      show (takeT (takeL T.ps i R) (T.ps i)).length ≤ _
      omega)
    ⟨⟨S, Pg.of hP (Below.refl _ _)⟩, Nat.le_refl _⟩
  have HR : Hid (∀ e w', AllR (fun i u => (∃ S', Pg w0 n g p S w S' (takeL T.ps i R) u) ∧ (takeL T.ps i R).length ≤ R.length + 40 * i) (fun u => Below w0.heap.size w0 u) T.len (fun i => (T.ps i).ok n.len) e w' → BR w0 n g p S w R (40 * T.len) (decide (∀ i, i < T.len → (T.ps i).ok n.len = true)) (takeL T.ps T.len R) e w') := fun e w' h => by
    refine ⟨h.ret, fun h1 => h.yes (of_decide_eq_true h1), ?_⟩
    by_cases h1 : ∀ i, i < T.len → (T.ps i).ok n.len = true
    · obtain ⟨⟨S', h2⟩, _⟩ := h.yes h1
      exact h2.pl.bl
    · apply h.no
      apply Classical.byContradiction
      intro h2
      apply h1
      intro i hi
      cases h3 : (T.ps i).ok n.len
      · exact absurd ⟨i, hi, h3⟩ h2
      · rfl
  have hmf : ∀ (fn : Fn) (first cap : Array Value) (w : World), (Instr.makeFunc fn first cap).run Tryz.prog w = .ok (.func fn first cap) w := fun _ _ _ _ => rfl
  clear hP hR hT hF hn hg
  go_enter Tryz.func100, Tryz.ntmps100
  go_wp2_with fail
  refine Calls.mono hA ?_
  rintro e w1 h1
  have h2 := HR.out _ _ h1
  obtain rfl := h1.ret
  have H2 := hyd h2
  clear h1 h2 hA HR
  go_wp2
  go_ret
  exact H2.out

set_option maxHeartbeats 2000000 in
theorem numberFormed_any (has : Nat) (a : Int) (w : World) : Calls Tryz.prog 142 #[.int .i64 has, .int .i64 a] w fun e w' => e = .returned (.bool (nmB has a)) ∧ Below w.heap.size w w' := by
  have HB := hyd (Below.refl w.heap.size w)
  have HF : Hid (nmB has a = if has = 1 then true else if has = 2 then decide (a = 0) || decide (a = 1) else if has = 3 then shB a else decide (a = 0)) := rfl
  generalize nmB has a = F at *
  by_cases h1 : has = 1
  · subst h1
    have HE : Hid (F = true) := HF.out
    go_enter Tryz.func142, Tryz.ntmps142
    go_wp2
    go_ret
    exact ⟨ret_bool HE.out.symm, HB.out⟩
  · have i1 : ((has : Int) == 1) = false := by simp; omega
    by_cases h2 : has = 2
    · subst h2
      by_cases h0 : a = 0
      · subst h0
        have HE : Hid (F = true) := HF.out
        go_enter Tryz.func142, Tryz.ntmps142
        go_wp2
        go_ret
        exact ⟨ret_bool HE.out.symm, HB.out⟩
      · have j0 : (a == 0) = false := by simpa using h0
        have HE : Hid (F = (a == 1)) := by show _ = _; rw [HF.out]; simp [h0]; rfl
        clear h0
        go_enter Tryz.func142, Tryz.ntmps142
        go_wp2
        go_ret
        exact ⟨ret_bool HE.out.symm, HB.out⟩
    · have i2 : ((has : Int) == 2) = false := by simp; omega
      by_cases h3 : has = 3
      · subst h3
        by_cases h0 : 0 ≤ a
        · have HE : Hid (F = decide (a ≤ 65535)) := by show _ = _; rw [HF.out]; show shB a = _; unfold shB; rw [decide_eq_true h0]; rfl
          go_enter Tryz.func142, Tryz.ntmps142
          go_wp2
          go_ret
          exact ⟨ret_bool HE.out.symm, HB.out⟩
        · have HE : Hid (F = false) := by show _ = _; rw [HF.out]; show shB a = _; unfold shB; rw [decide_eq_false h0]; rfl
          go_enter Tryz.func142, Tryz.ntmps142
          go_wp2
          go_ret
          exact ⟨ret_bool HE.out.symm, HB.out⟩
      · have i3 : ((has : Int) == 3) = false := by simp; omega
        have HE : Hid (F = (a == 0)) := by show _ = _; rw [HF.out, if_neg h1, if_neg h2, if_neg h3]; rfl
        clear h1 h2 h3
        go_enter Tryz.func142, Tryz.ntmps142
        go_wp2
        go_ret
        exact ⟨ret_bool HE.out.symm, HB.out⟩
end Go.Proofs.YtmkncmmegjfipaaGreatDoor

/- Layer 13: what is asked of an instruction. -/
namespace Go.Proofs.YtmkncmmegjfipaaGreatDoor
open Go Go.RowKit

/-- The variable operands, as it was laid. -/
def Og (w : World) : Prop := ∀ i, i < 28 → w.cell? ⟨1, i, none⟩ = some (.int .i64 (opr i))
theorem Og.kept {w w' : World} (h : Og w) (hb : Below w.heap.size w w') : Og w' := fun i hi => up hb (h i hi)
def In.take (R : List Ty) (i : In) : List Ty := if i.op = 20 then takeT R i.t else R
theorem opr_le (a : Int) : opr a ≤ 4 := by
  unfold opr
  repeat' split
  all_goals omega
theorem BR.no {w0 : World} {n : Strs} {g : Grid} {p : Nat} {S : Nat → Prop} {w : World} {R : List Ty} {c : Nat} {ans : Bool} {R' : List Ty} {e : Ending} {w' : World} (h1 : e = .returned (.bool false)) (h2 : ans = false) (h3 : Below w0.heap.size w0 w') : BR w0 n g p S w R c ans R' e w' := by
  subst h2
  exact ⟨h1, fun h => (by cases h), h3⟩
theorem opr_ty {a : Int} : opr a = 4 ↔ a = 20 := by
  unfold opr
  repeat' split
  all_goals omega

set_option maxRecDepth 100000 in
set_option maxHeartbeats 4000000 in
theorem insFormed_any {w0 : World} {n : Strs} {g : Grid} {p : Nat} (hF : formedB n g = true) (hn : n.At w0) (hg : g.At w0) (hO : Og w0) (i : In) (S : Nat → Prop) (R : List Ty) (w : World) (hi : i.At w0) (hP : Pl w0 n g p S R w) (hR : R.length + 40 ≤ 2000000000) :
    Calls Tryz.prog 102 #[.pointer (some ⟨p, 0, none⟩), .agg i.vs.toArray] w fun e w' => BR w0 n g p S w R 40 (i.fm n.len) (i.take R) e w' := by
  show Calls Tryz.prog 102 #[.pointer (some ⟨p, 0, none⟩), .agg #[.int .i64 i.op, .int .i64 i.a, .int .i64 i.t.k, .int .i64 i.t.l, .slice i.t.ao i.t.len i.t.cap, .int .i64 i.t.h, .int .i64 i.t.e]] w fun e w' => BR w0 n g p S w R 40 (i.fm n.len) (i.take R) e w'
  have B0 := below_alloc w (.cells #[.int .i64 i.op, .int .i64 i.a, .int .i64 i.t.k, .int .i64 i.t.l, .slice i.t.ao i.t.len i.t.cap, .int .i64 i.t.h, .int .i64 i.t.e] 60)
  have b := Blk.new w [.int .i64 i.op, .int .i64 i.a, .int .i64 i.t.k, .int .i64 i.t.l, .slice i.t.ao i.t.len i.t.cap, .int .i64 i.t.h, .int .i64 i.t.e] 60
  have c0 := b.cell 0 rfl
  have c1 := b.cell 1 rfl
  have c2 := b.cell 2 rfl
  have c3 := b.cell 3 rfl
  have c4 := b.cell 4 rfl
  have c5 := b.cell 5 rfl
  have c6 := b.cell 6 rfl
  have HPG := hyd (Pg.of hP B0)
  have HD := hyd (show formedB n g = true ∧ n.At w0 ∧ g.At w0 ∧ i.t.At w0 ∧ R.length + 40 ≤ 2000000000 from ⟨hF, hn, hg, hi.t, hR⟩)
  have HOg := hyd (hO.kept (Below.next hP.bl B0))
  have HB0 := hyd B0
  have HF : Hid (i.fm n.len = ((decide (1 ≤ i.op) && decide (i.op ≤ 27)) && (if i.op = 20 then decide (i.a = 0) && i.t.ok n.len else i.t.zr && nmB (opr i.op) i.a))) := rfl
  have HT : Hid (i.take R = if i.op = 20 then takeT R i.t else R) := rfl
  clear b B0 hF hn hg hi hR hP hO
  generalize i.fm n.len = F at *
  generalize i.take R = R' at *
  generalize i.op = op at *
  by_cases h1 : op < 1
  · have HE : Hid (F = false) := by show _ = _; rw [HF.out, decide_eq_false (by omega)]; rfl
    go_enter Tryz.func102, Tryz.ntmps102
    go_wp2
    go_ret
    exact BR.no rfl HE.out HPG.out.pl.bl
  by_cases h2 : 27 < op
  · have HE : Hid (F = false) := by show _ = _; rw [HF.out, decide_eq_true (show 1 ≤ op by omega), decide_eq_false (by omega)]; rfl
    go_enter Tryz.func102, Tryz.ntmps102
    go_wp2
    go_ret
    exact BR.no rfl HE.out HPG.out.pl.bl
  have HF2 : Hid (F = if op = 20 then decide (i.a = 0) && i.t.ok n.len else i.t.zr && nmB (opr op) i.a) := by
    show _ = _
    rw [HF.out, decide_eq_true (show 1 ≤ op by omega), decide_eq_true (show op ≤ 27 by omega)]; rfl
  obtain ⟨k, rfl⟩ : ∃ k : Nat, op = k := ⟨op.toNat, by omega⟩
  have hk28 : (k : Int) < 28 := by omega
  have o0 := HOg.out k (by omega)
  have HO4 : Hid (opr (k : Int) = 4 ↔ (k : Int) = 20) := opr_ty
  have i1 : ¬ (k : Int) < 1 := h1
  have i2 : ¬ (27 : Int) < k := h2
  clear HF HOg h1 h2
  generalize opr (k : Int) = has at *
  by_cases h4 : has = 4
  · subst h4
    have hop : (k : Int) = 20 := HO4.out.1 rfl
    have HF3 : Hid (F = (decide (i.a = 0) && i.t.ok n.len)) := by show _ = _; rw [HF2.out, if_pos hop]
    have HT3 : Hid (R' = takeT R i.t) := by show _ = _; rw [HT.out, if_pos hop]
    clear hop
    by_cases ha : i.a = 0
    · have da : (i.a == 0) = true := by simpa using ha
      have HF4 : Hid (F = i.t.ok n.len) := by show _ = _; rw [HF3.out, decide_eq_true ha]; rfl
      have ht := takes_any HD.out.1 HD.out.2.1 HD.out.2.2.1 i.t S R _ HD.out.2.2.2.1 HPG.out.pl HD.out.2.2.2.2
      clear ha
      go_enter Tryz.func102, Tryz.ntmps102
      go_wp2_with fail
      refine Calls.mono ht ?_
      rintro e w1 ⟨h5, S', h6⟩
      subst h5
      have H6 := hyd h6
      have HW := hyd (show i.t.ok n.len = true → i.t.nodes ≤ 40 from fun h => (ok_fm h).2)
      clear ht h6
      generalize i.t.ok n.len = bb at *
      go_wp2
      go_ret
      refine ⟨ret_bool HF4.out.symm, fun h => ?_, H6.out.pl.bl⟩
      have hb : bb = true := HF4.out.symm.trans h
      have h7 := H6.out
      rw [if_pos hb] at h7
      rw [HT3.out]
      refine ⟨⟨S', Pg.ahead HB0.out h7⟩, ?_⟩
      have h8 := takeT_len R i.t
      have h9 := HW.out hb
      omega
    · have da : (i.a == 0) = false := by simpa using ha
      have HE : Hid (F = false) := by show _ = _; rw [HF3.out, decide_eq_false ha]; rfl
      clear ha
      go_enter Tryz.func102, Tryz.ntmps102
      go_wp2
      go_ret
      exact BR.no rfl HE.out HPG.out.pl.bl
  · have d4 : ((has : Int) == 4) = false := by simp; omega
    have hop : ¬ (k : Int) = 20 := fun h => h4 (HO4.out.2 h)
    have HF3 : Hid (F = (i.t.zr && nmB has i.a)) := by show _ = _; rw [HF2.out, if_neg hop]
    have HT3 : Hid (R' = R) := by show _ = _; rw [HT.out, if_neg hop]
    clear hop h4
    have hz := isZero_any i.t (w.alloc (.cells #[.int .i64 k, .int .i64 i.a, .int .i64 i.t.k, .int .i64 i.t.l, .slice i.t.ao i.t.len i.t.cap, .int .i64 i.t.h, .int .i64 i.t.e] 60))
    generalize i.t.zr = bz at *
    go_enter Tryz.func102, Tryz.ntmps102
    go_wp2_with fail
    refine Calls.mono hz ?_
    rintro _ w1 ⟨rfl, hb1⟩
    have H1 := hyd (HPG.out.kept hb1)
    have d1 := up hb1 c1
    clear hz hb1 c0 c1 c2 c3 c4 c5 c6 o0
    cases bz
    · have HE : Hid (F = false) := by show _ = _; rw [HF3.out]; rfl
      go_wp2
      go_ret
      exact BR.no rfl HE.out H1.out.pl.bl
    · have hm := numberFormed_any has i.a w1
      have HE : Hid (F = nmB has i.a) := by show _ = _; rw [HF3.out]; rfl
      generalize nmB has i.a = bm at *
      go_wp2_with fail
      refine Calls.mono hm ?_
      rintro _ w2 ⟨rfl, hb2⟩
      have H2 := hyd (H1.out.kept hb2)
      clear hm hb2 d1
      go_wp2
      go_ret
      exact ⟨ret_bool HE.out.symm, fun _ => ⟨⟨S, by rw [HT3.out]; exact H2.out⟩, by rw [HT3.out]; omega⟩, H2.out.pl.bl⟩
end Go.Proofs.YtmkncmmegjfipaaGreatDoor

/- Layer 13: whether two types are alike: alike. -/
namespace Go.Proofs.YtmkncmmegjfipaaGreatDoor
open Go Go.RowKit

theorem C5.draw {w : World} {b o : Nat} {t : Ty} (h : C5 w b o t) (n : Nat) : C5 (w.drewN n) b o t := ⟨h.c0, h.c1, h.c2, h.c3, h.c4⟩
theorem Ty.At.draw {w : World} {t : Ty} (h : t.At w) (n : Nat) : t.At (w.drewN n) := h.kept (below_drewN (Below.refl _ _) n)
set_option maxRecDepth 100000 in
set_option maxHeartbeats 8000000 in
theorem alike_any : ∀ (s t : Ty) (bs os bt ot : Nat) (w : World), C5 w bs os s → s.At w → C5 w bt ot t → t.At w →
    Calls Tryz.prog 171 #[.pointer (some ⟨bs, os, none⟩), .pointer (some ⟨bt, ot, none⟩)] w fun e w' => e = .returned (.bool (s.same t)) ∧ ∃ m, w' = w.drewN m := by
  intro s
  induction s with
  | dm => intro t bs os bt ot w _ hAt; exact hAt.elim
  | mk k l h e ao b o len cap ps ih =>
    intro t bs os bt ot w hs hsA ht htA
    have x0 := hs.c0
    have x1 := hs.c1
    have x2 := hs.c2
    have x3 := hs.c3
    have x4 := hs.c4
    simp only [Ty.k, Ty.l, Ty.h, Ty.e, Ty.ao, Ty.len, Ty.cap] at x0 x1 x2 x3 x4
    have y0 := ht.c0
    have y1 := ht.c1
    have y2 := ht.c2
    have y3 := ht.c3
    have y4 := ht.c4
    have HS : Hid ((Ty.mk k l h e ao b o len cap ps).same t = (((((k == t.k) && (l == t.l)) && ((h == t.h) && (e == t.e))) && (len == t.len)) && decide (∀ i, i < len → (ps i).same (t.ps i) = true))) := rfl
    generalize (Ty.mk k l h e ao b o len cap ps).same t = F at *
    have HC := hyd (show C5 w bs os (.mk k l h e ao b o len cap ps) ∧ Ty.At w (.mk k l h e ao b o len cap ps) ∧ C5 w bt ot t ∧ t.At w from ⟨hs, hsA, ht, htA⟩)
    have hb : len ≤ 9223372036854775807 := hsA.bound
    have hnil : 0 < len → ao = some ⟨b, o, none⟩ := hsA.nil
    have hnit : 0 < t.len → t.ao = some ⟨t.b, t.o, none⟩ := htA.nil
    clear hs hsA ht htA
    by_cases h0 : k = t.k
    · have d0 : (k != t.k) = false := by simpa using h0
      by_cases h1 : l = t.l
      · have d1 : (l != t.l) = false := by simpa using h1
        by_cases h2 : h = t.h
        · have d2 : (h != t.h) = false := by simpa using h2
          by_cases h3 : e = t.e
          · have d3 : (e != t.e) = false := by simpa using h3
            by_cases h4 : len = t.len
            · have d4 : ((len : Int) != (t.len : Int)) = false := by simp; omega
              have HE : Hid (F = decide (∀ i, i < len → (ps i).same (t.ps i) = true)) := by
                show _ = _
                rw [HS.out]; simp [h0, h1, h2, h3, h4]
              have HL := hyd h4
              have hlt2 : ∀ j : Nat, j < len → (j : Int) < (t.len : Int) := fun j hj => by omega
              clear h0 h1 h2 h3 h4 HS
              go_enter Tryz.func171, Tryz.ntmps171
              go_wp2
              go_quiet (fail)
              clear d0 d1 d2 d3 d4
              go_wp2
              go_loopw [66] (fun i wr => ∃ (j : Nat), j ≤ len ∧ i = .int .i64 j ∧ (∀ i, i < j → (ps i).same (t.ps i) = true) ∧ ∃ m, wr = w.drewN m) (fun i _ => len - (intOf i).toNat)
              case atStart => exact ⟨0, Nat.zero_le _, rfl, fun i hi => absurd hi (Nat.not_lt_zero _), _, rfl⟩
              case round =>
                obtain ⟨j, hj, rfl, hall, m, rfl⟩ := hrel
                have HA := hyd hall
                clear hall
                by_cases hlt : j < len
                · have ij : (j : Int) < len := by omega
                  have it := hlt2 j hlt
                  have a0 := hnil (by omega)
                  have b0 := hnit (by omega)
                  subst a0
                  rw [b0] at y2
                  have hcl : ∀ q, Calls Tryz.prog 171 #[.pointer (some ⟨b, o + j * 5, none⟩), .pointer (some ⟨t.b, t.o + j * 5, none⟩)] (w.drewN q) fun e w' => e = .returned (.bool ((ps j).same (t.ps j))) ∧ ∃ m, w' = (w.drewN q).drewN m := fun q => ih j (t.ps j) b (o + j * 5) t.b (t.o + j * 5) (w.drewN q) ((HC.out.2.1.cells hlt).draw q) ((HC.out.2.1.part hlt).draw q) ((HC.out.2.2.2.cells (by have := HL.out; omega)).draw q) ((HC.out.2.2.2.part (by have := HL.out; omega)).draw q)
                  have HAS : Hid (∀ b, (b = (ps j).same (t.ps j)) → (b = true → ∀ i, i < j + 1 → (ps i).same (t.ps i) = true) ∧ (b = false → F = false)) := by
                    intro b hb
                    refine ⟨fun h1 i hi => ?_, fun h1 => ?_⟩
                    · rcases Nat.lt_or_ge i j with h2 | h2
                      · exact HA.out i h2
                      · have : i = j := by omega
                        subst this; rw [← hb]; exact h1
                    · rw [HE.out, decide_eq_false_iff_not]
                      intro hh
                      have := hh j hlt
                      rw [← hb, h1] at this
                      cases this
                  clear hlt2 b0 hnil hnit HA
                  generalize (ps j).same (t.ps j) = bb at *
                  have H5 := hyd (HAS.out bb rfl)
                  clear HAS
                  have hcm : ∀ q, Calls Tryz.prog 171 #[.pointer (some ⟨b, o + j * 5, none⟩), .pointer (some ⟨t.b, t.o + j * 5, none⟩)] ((w.drewN m).drewN q) fun e w' => e = .returned (.bool bb) ∧ ∃ k, w' = ((w.drewN m).drewN q).drewN k := fun q => by rw [World.drewN_drewN]; exact hcl _
                  have HW : Hid (∀ q, ∃ m', (w.drewN m).drewN q = w.drewN m') := fun q => ⟨_, World.drewN_drewN _ _ _⟩
                  have x2m : (w.drewN m).cell? ⟨bs, os + 2, none⟩ = some (.slice (some ⟨b, o, none⟩) len cap) := x2
                  have y2m : (w.drewN m).cell? ⟨bt, ot + 2, none⟩ = some (.slice (some ⟨t.b, t.o, none⟩) t.len t.cap) := y2
                  clear hcl ih x0 x1 x2 x3 x4 y0 y1 y2 y3 y4 HC
                  generalize w.drewN m = W at *
                  go_wp2
                  go_quiet ((go_at_call 171; exact Calls.quiet_of (hcm _)))
                  cases bb
                  · go_wp2
                    go_ret
                    exact ⟨ret_bool (H5.out.2 (by simp)).symm, HW.out _⟩
                  · go_wp2
                    go_roundw
                    case rel => exact ⟨j + 1, by omega, by go_num, H5.out.1 (by simp), HW.out _⟩
                    case measure => simp [intOf]; omega
                · have e2 : j = len := by omega
                  subst e2
                  have dj : ¬ (j : Int) < j := by omega
                  go_wp2
                  go_ret
                  exact ⟨ret_bool (by rw [HE.out]; symm; rw [decide_eq_true_eq]; exact HA.out), _, rfl⟩
            · have d4 : ((len : Int) != (t.len : Int)) = true := by simp; omega
              have HE : Hid (F = false) := by show _ = _; rw [HS.out]; simp [h4]
              clear h0 h1 h2 h3 h4 HS
              go_enter Tryz.func171, Tryz.ntmps171
              go_wp2
              go_quiet (fail)
              go_wp2
              go_ret
              exact ⟨ret_bool HE.out.symm, _, rfl⟩
          · have d3 : (e != t.e) = true := by simpa using h3
            have HE : Hid (F = false) := by show _ = _; rw [HS.out]; simp [h3]
            clear h0 h1 h2 h3 HS
            go_enter Tryz.func171, Tryz.ntmps171
            go_wp2
            go_quiet (fail)
            go_wp2
            go_ret
            exact ⟨ret_bool HE.out.symm, _, rfl⟩
        · have d2 : (h != t.h) = true := by simpa using h2
          have HE : Hid (F = false) := by show _ = _; rw [HS.out]; simp [h2]
          clear h0 h1 h2 HS
          go_enter Tryz.func171, Tryz.ntmps171
          go_wp2
          go_quiet (fail)
          go_wp2
          go_ret
          exact ⟨ret_bool HE.out.symm, _, rfl⟩
      · have d1 : (l != t.l) = true := by simpa using h1
        have HE : Hid (F = false) := by show _ = _; rw [HS.out]; simp [h1]
        clear h0 h1 HS
        go_enter Tryz.func171, Tryz.ntmps171
        go_wp2
        go_quiet (fail)
        go_wp2
        go_ret
        exact ⟨ret_bool HE.out.symm, _, rfl⟩
    · have d0 : (k != t.k) = true := by simpa using h0
      have HE : Hid (F = false) := by show _ = _; rw [HS.out]; simp [h0]
      clear h0 HS
      go_enter Tryz.func171, Tryz.ntmps171
      go_wp2
      go_quiet (fail)
      go_wp2
      go_ret
      exact ⟨ret_bool HE.out.symm, _, rfl⟩
end Go.Proofs.YtmkncmmegjfipaaGreatDoor
