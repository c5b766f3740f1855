/- Layer 15: the reference's way. -/
import Derived.Test.YtmajlfocfjcgmaaP15
import Derived.Deep.CutBlock
import Derived.BigQuiet
namespace Go.Proofs.Ytmajlfocfjcgmaa
open Go Go.RowKit

theorem nxO_true {op : Int} (h0 : op ≠ 0) (h1 : op ≠ 24) (h2 : op ≠ 26) (h3 : op ≠ 27) : nxO op = true := by simp [nxO, h0, h1, h2, h3]
/-- A truth is answered. -/
def WyP (W : Prop) (w : World) (e : Ending) (w' : World) : Prop := ∃ b : Bool, e = .returned (.bool b) ∧ (b = true ↔ W) ∧ Below w.heap.size w w'
theorem WyP.yes {W : Prop} {w w' : World} (h : W) (hb : Below w.heap.size w w') : WyP W w (.returned (.bool true)) w' := ⟨true, rfl, ⟨fun _ => h, fun _ => rfl⟩, hb⟩
theorem WyP.no {W : Prop} {w w' : World} (h : ¬ W) (hb : Below w.heap.size w w') : WyP W w (.returned (.bool false)) w' := ⟨false, rfl, ⟨fun k => (by cases k), fun k => absurd k h⟩, hb⟩
set_option maxRecDepth 100000 in
set_option maxHeartbeats 16000000 in
theorem rway_any (f : Cf) (g : Rw Bool) (p q : Nat) (w : World) (hf : f.At w) (hg : BlAt w g) (hp : p < f.cd.len) (hq : q < f.cd.len) : Calls Try.prog 21 #[.agg f.vs.toArray, .slice g.ao g.len g.cap, .int .i64 p, .int .i64 q] w (WyP (f.way g p q) w) := by
  have H1 := hyd (Fb.new w f)
  have HD := hyd (show f.At w ∧ BlAt w g ∧ p < f.cd.len from ⟨hf, hg, hp⟩)
  have HWY : Hid (f.way g p q ↔ q < f.cd.len ∧ ((q = p + 1 ∧ nxO (f.cd.x p).op = true) ∨ (((f.cd.x p).op = 24 ∨ (f.cd.x p).op = 25) ∧ (f.cd.x p).a = q) ∨ (f.rs g p = true ∧ f.han p = q))) := Iff.rfl
  have HQ := hyd hq
  have hbd := hf.cd.bound
  have ip : (p : Int) < f.cd.len := by omega
  have HN14 := hyd (hf.cd.nil (by omega))
  have hrs : Hid (∀ u, Below w.heap.size w u → Calls Try.prog 30 #[.agg f.vs.toArray, .slice g.ao g.len g.cap, .int .i64 p] u fun e w' => e = .returned (.bool (f.rs g p)) ∧ Below u.heap.size u w') := fun u hb => rraises_any f g p u (Cf.At.kept hb hf) (BlAt.kept hg hb) hp
  have hhn : Hid (∀ u, Below w.heap.size w u → Calls Try.prog 31 #[.agg f.vs.toArray, .int .i64 p] u fun e w' => e = .returned (.int .i64 (f.han p)) ∧ Below u.heap.size u w') := fun u hb => rhandler_any f p u (Cf.At.kept hb hf)
  clear hf hg hp hq
  generalize f.way g p q = W at *
  have c14 := H1.out.b.cell 14 rfl
  rw [HN14.out] at c14
  have HR : Hid (∀ u, Below w.heap.size w u → u.cell? ⟨f.cd.b, f.cd.o + p * 7, none⟩ = some (.int .i64 (f.cd.x p).op) ∧ u.cell? ⟨f.cd.b, f.cd.o + p * 7 + 1, none⟩ = some (.int .i64 (f.cd.x p).a)) := fun u hb => by
    have := (Cf.At.kept hb HD.out.1).cd.row p HD.out.2.2
    exact ⟨by have := this 0 _ rfl; simpa using this, this 1 _ rfl⟩
  generalize (f.cd.x p).op = op at *
  generalize (f.cd.x p).a = a at *
  generalize f.rs g p = rb at *
  generalize f.han p = hn at *
  have r0 := (HR.out _ H1.out.bl).1
  generalize hw : w.alloc (.cells f.vs.toArray 30) = u1 at *
  go_enter Try.func21, Try.ntmps21
  go_upto_region 2 with fail
  clear hw r0 c14
  go_cut [35] (fun c wx => ∃ b : Bool, c = .bool b ∧ Hid (b = true ↔ (q = p + 1 ∧ nxO op = true)) ∧ Hid (Fb w f w.heap.size wx))
  case first =>
    by_cases e0 : (q : Int) = (p : Int) + 1
    · have d0 : ((q : Int) == (p : Int) + 1) = true := by simpa using e0
      have HQP : Hid (q = p + 1) := by show _ = _; omega
      clear e0
      by_cases o1 : op = 24
      · subst o1
        go_wp2
        go_meet
        case rel => exact ⟨false, rfl, hyd ⟨fun h => (by cases h), fun h => by have := h.2; cases this⟩, H1.out⟩
      have n1 : (op != 24) = true := by simpa using o1
      by_cases o2 : op = 26
      · subst o2
        go_wp2
        go_meet
        case rel => exact ⟨false, rfl, hyd ⟨fun h => (by cases h), fun h => by have := h.2; cases this⟩, H1.out⟩
      have n2 : (op != 26) = true := by simpa using o2
      by_cases o3 : op = 27
      · subst o3
        go_wp2
        go_meet
        case rel => exact ⟨false, rfl, hyd ⟨fun h => (by cases h), fun h => by have := h.2; cases this⟩, H1.out⟩
      have n3 : (op != 27) = true := by simpa using o3
      by_cases o4 : op = 0
      · subst o4
        go_wp2
        go_meet
        case rel => exact ⟨false, rfl, hyd ⟨fun h => (by cases h), fun h => by have := h.2; cases this⟩, H1.out⟩
      have n4 : (op != 0) = true := by simpa using o4
      have HNX := hyd (nxO_true o4 o1 o2 o3)
      clear o1 o2 o3 o4
      go_wp2
      go_meet
      case rel => exact ⟨true, rfl, hyd ⟨fun _ => ⟨HQP.out, HNX.out⟩, fun _ => rfl⟩, H1.out⟩
    · have d0 : ((q : Int) == (p : Int) + 1) = false := by simpa using e0
      have HQP : Hid (¬ q = p + 1) := by show ¬ _; omega
      clear e0
      go_wp2
      go_meet
      case rel => exact ⟨false, rfl, hyd ⟨fun h => (by cases h), fun h => absurd h.1 HQP.out⟩, H1.out⟩
  case rest =>
  obtain ⟨b, rfl, hB, hV⟩ := hcut
  have HB := hyd hB.out
  clear H1
  have H1 := hyd hV.out
  clear hB hV
  cases b
  case true =>
    have HE : Hid W := HWY.out.2 ⟨HQ.out, Or.inl (HB.out.1 (by simp))⟩
    go_wp2
    go_ret
    exact WyP.yes HE.out H1.out.bl
  case false =>
  have HB1 : Hid (¬ (q = p + 1 ∧ nxO op = true)) := fun h => by have := HB.out.2 h; simp at this
  clear HB
  go_upto_region 4 with fail
  go_cut [51] (fun c wx => ∃ b : Bool, c = .bool b ∧ Hid (b = true ↔ ((op = 24 ∨ op = 25) ∧ a = q)) ∧ Hid (Fb w f w.heap.size wx))
  case first =>
    have c14 := H1.out.b.cell 14 rfl
    rw [HN14.out] at c14
    have r1 := (HR.out _ H1.out.bl).2
    by_cases e0 : a = (q : Int)
    · have d0 : (a == (q : Int)) = true := by simpa using e0
      have HA := hyd e0
      clear e0
      by_cases o1 : op = 24
      · subst o1
        go_wp2
        go_meet
        case rel => exact ⟨true, rfl, hyd ⟨fun _ => ⟨(by simp), HA.out⟩, fun _ => rfl⟩, H1.out⟩
      by_cases o2 : op = 25
      · subst o2
        clear o1
        go_wp2
        go_meet
        case rel => exact ⟨true, rfl, hyd ⟨fun _ => ⟨(by simp), HA.out⟩, fun _ => rfl⟩, H1.out⟩
      have n1 : (op == 24) = false := by simpa using o1
      have n2 : (op == 25) = false := by simpa using o2
      have HO := hyd (show ¬ (op = 24 ∨ op = 25) from fun h => h.elim o1 o2)
      clear o1 o2
      go_wp2
      go_meet
      case rel => exact ⟨false, rfl, hyd ⟨fun h => (by cases h), fun h => absurd h.1 HO.out⟩, H1.out⟩
    · have d0 : (a == (q : Int)) = false := by simpa using e0
      have HA := hyd e0
      clear e0
      by_cases o1 : op = 24
      · subst o1
        go_wp2
        go_meet
        case rel => exact ⟨false, rfl, hyd ⟨fun h => (by cases h), fun h => absurd h.2 HA.out⟩, H1.out⟩
      by_cases o2 : op = 25
      · subst o2
        clear o1
        go_wp2
        go_meet
        case rel => exact ⟨false, rfl, hyd ⟨fun h => (by cases h), fun h => absurd h.2 HA.out⟩, H1.out⟩
      have n1 : (op == 24) = false := by simpa using o1
      have n2 : (op == 25) = false := by simpa using o2
      clear o1 o2
      go_wp2
      go_meet
      case rel => exact ⟨false, rfl, hyd ⟨fun h => (by cases h), fun h => absurd h.2 HA.out⟩, H1.out⟩
  case rest =>
  obtain ⟨b, rfl, hB, hV⟩ := hcut
  have HB := hyd hB.out
  clear H1
  have H1 := hyd hV.out
  clear hB hV
  cases b
  case true =>
    have HE : Hid W := HWY.out.2 ⟨HQ.out, Or.inr (Or.inl (HB.out.1 (by simp)))⟩
    go_wp2
    go_ret
    exact WyP.yes HE.out H1.out.bl
  case false =>
  have HB2 : Hid (¬ ((op = 24 ∨ op = 25) ∧ a = q)) := fun h => by have := HB.out.2 h; simp at this
  clear HB
  have HW3 : Hid (W ↔ rb = true ∧ hn = q) := ⟨fun h => by
      rcases (HWY.out.1 h).2 with h1 | h1 | h1
      · exact absurd h1 HB1.out
      · exact absurd h1 HB2.out
      · exact h1, fun h => HWY.out.2 ⟨HQ.out, Or.inr (Or.inr h)⟩⟩
  clear HWY HB1 HB2
  have rF := H1.out.b.range
  have h0 := hrs.out _ H1.out.bl
  go_wp2_with (refine wpList_load_mid rfl 30 (.tmp 4) rfl w.heap.size 0 (by kernel_rfl) f.vs _ rF Try.underlying30 rfl (by kernel_rfl) ?_)
  refine h0.mono ?_
  rintro _ u3 ⟨rfl, hb⟩
  have H3 := hyd (H1.out.kept hb)
  clear h0 hb H1 rF
  cases rb
  · have HE : Hid (¬ W) := fun h => by have := (HW3.out.1 h).1; simp at this
    go_wp2
    go_ret
    exact WyP.no HE.out H3.out.bl
  have rF := H3.out.b.range
  have h0 := hhn.out u3 H3.out.bl
  go_wp2_with (refine wpList_loadW (by kernel_rfl) 30 (.tmp 4) rfl w.heap.size 0 (by kernel_rfl) f.vs _ rF Try.underlying30 rfl (by kernel_rfl) ?_)
  refine h0.mono ?_
  rintro _ u4 ⟨rfl, hb⟩
  have H4 := hyd (H3.out.kept hb)
  clear h0 hb H3 rF
  by_cases e : hn = (q : Int)
  · have d0 : (hn == (q : Int)) = true := by simpa using e
    have HE : Hid W := HW3.out.2 ⟨by simp, e⟩
    clear e
    go_wp2
    go_ret
    exact WyP.yes HE.out H4.out.bl
  · have d0 : (hn == (q : Int)) = false := by simpa using e
    have HE : Hid (¬ W) := fun h => absurd (HW3.out.1 h).2 e
    clear e
    go_wp2
    go_ret
    exact WyP.no HE.out H4.out.bl
end Go.Proofs.Ytmajlfocfjcgmaa

/- Layer 15: the reference's Reach. -/
namespace Go.Proofs.Ytmajlfocfjcgmaa
open Go Go.RowKit

theorem fls_mono {m m' : Nat → Bool} (h : ∀ q, m q = true → m' q = true) : ∀ n, fls m' n ≤ fls m n
  | 0 => Nat.le_refl _
  | n + 1 => by
    have := fls_mono h n
    rw [fls_succ, fls_succ]
    cases e : m n
    · cases e2 : m' n <;> simp <;> omega
    · rw [h n e]; simp; omega
/-- While the reference looks for more: up to (p, t) all is closed, unless more was found. -/
structure Sc (W : Nat → Nat → Prop) (F : Nat → Prop) (n : Nat) (stop : Int) (L p t : Nat) (b : Bool) (m : Nat → Bool) : Prop where
  sound : ∀ q, m q = true → Fl.Rch W F stop q
  base : ∀ q, F q → (q : Int) ≠ stop → m q = true
  no : b = false → fls m n = L ∧ ∀ p', m p' = true → ∀ q, W p' q → (q : Int) ≠ stop → p' < p ∨ (p' = p ∧ q < t) → m q = true
  yes : b = true → fls m n < L
theorem Sc.skip {W : Nat → Nat → Prop} {F : Nat → Prop} {n : Nat} {stop : Int} {L p t : Nat} {b : Bool} {m : Nat → Bool} (h : Sc W F n stop L p t b m) (hs : m p = true → W p t → (t : Int) ≠ stop → m t = true) : Sc W F n stop L p (t + 1) b m :=
  ⟨h.sound, h.base, fun hb => ⟨(h.no hb).1, fun p' h1 q h2 h3 h4 => by
    by_cases e : p' = p ∧ q = t
    · obtain ⟨rfl, rfl⟩ := e; exact hs h1 h2 h3
    · exact (h.no hb).2 p' h1 q h2 h3 (by omega)⟩, h.yes⟩
theorem Sc.put {W : Nat → Nat → Prop} {F : Nat → Prop} {n : Nat} {stop : Int} {L p t : Nat} {b : Bool} {m : Nat → Bool} (h : Sc W F n stop L p t b m) (hp : m p = true) (hw : W p t) (hs : (t : Int) ≠ stop) (hm : m t = false) (ht : t < n) : Sc W F n stop L p (t + 1) true (updB m t) := by
  have hf := fls_upd hm n ht
  refine ⟨fun q hq => ?_, fun q h1 h2 => ?_, fun hb => (by cases hb), fun _ => ?_⟩
  · unfold updB at hq
    by_cases e : q = t
    · subst e; exact .step (h.sound p hp) hw hs
    · rw [if_neg e] at hq; exact h.sound q hq
  · unfold updB; split
    · rfl
    · exact h.base q h1 h2
  · cases b
    · have := (h.no rfl).1; omega
    · have := h.yes rfl; omega
theorem Sc.next {W : Nat → Nat → Prop} {F : Nat → Prop} {n : Nat} {stop : Int} {L p t : Nat} {b : Bool} {m : Nat → Bool} (h : Sc W F n stop L p t b m) (hW : ∀ p q, W p q → q < n) (he : m p = false ∨ n ≤ t) : Sc W F n stop L (p + 1) 0 b m :=
  ⟨h.sound, h.base, fun hb => ⟨(h.no hb).1, fun p' h1 q h2 h3 h4 => by
    refine (h.no hb).2 p' h1 q h2 h3 ?_
    by_cases e : p' = p
    · subst e
      rcases he with he | he
      · rw [h1] at he; cases he
      · have := hW _ _ h2; exact Or.inr ⟨rfl, by omega⟩
    · exact Or.inl (by omega)⟩, h.yes⟩
theorem Sc.start {W : Nat → Nat → Prop} {F : Nat → Prop} {n : Nat} {stop : Int} {m : Nat → Bool} (h1 : ∀ q, m q = true → Fl.Rch W F stop q) (h2 : ∀ q, F q → (q : Int) ≠ stop → m q = true) : Sc W F n stop (fls m n) 0 0 false m :=
  ⟨h1, h2, fun _ => ⟨rfl, fun p' _ q _ _ h4 => by omega⟩, fun h => by cases h⟩
theorem Sc.done {W : Nat → Nat → Prop} {F : Nat → Prop} {n : Nat} {stop : Int} {L : Nat} {m : Nat → Bool} (h : Sc W F n stop L n 0 false m) (hm : ∀ q, m q = true → q < n) (q : Nat) : m q = true ↔ Fl.Rch W F stop q :=
  Fl.rch_of_closed (S := fun q => m q = true) h.base (fun p q h1 h2 h3 => (h.no rfl).2 p h1 q h2 h3 (Or.inl (hm p h1))) h.sound q

/-- The row of truths, and the box. -/
structure Rz (w : World) (f : Cf) (V : Nat) (m : Nat → Bool) (u : World) : Prop where
  x : Fb w f w.heap.size u
  bV : Blk u V (bvL m f.cd.len) 4
  ne : w.heap.size < V
theorem Rz.kept {w : World} {f : Cf} {V : Nat} {m : Nat → Bool} {u u' : World} (h : Rz w f V m u) (hb : Below u.heap.size u u') : Rz w f V m u' := ⟨h.x.kept hb, h.bV.kept hb, h.ne⟩
theorem Rz.set {w : World} {f : Cf} {V : Nat} {m : Nat → Bool} {u u' : World} {k : Nat} (h : Rz w f V m u) (W : WroteB u u' V ((bvL m f.cd.len).set k (.bool true)) 4) : Rz w f V (updB m k) u' :=
  ⟨h.x.grown W.gb (fun b hb => by have := Option.some.inj hb; have := h.ne; omega), by rw [← bvL_set]; exact W.blk, h.ne⟩
/-- What is met of the first j of from. -/
structure Fj (f : Cf) (r : Rw Int) (stop : Int) (j : Nat) (m : Nat → Bool) : Prop where
  mem : ∀ q : Nat, m q = true ↔ (q < f.cd.len ∧ (q : Int) ≠ stop) ∧ ∃ i, i < j ∧ r.x i = q
theorem Fj.zero (f : Cf) (r : Rw Int) (stop : Int) : Fj f r stop 0 (fun _ => false) := ⟨fun q => ⟨fun h => (by cases h), fun h => by obtain ⟨_, i, hi, _⟩ := h; omega⟩⟩
theorem Fj.skip {f : Cf} {r : Rw Int} {stop : Int} {j : Nat} {m : Nat → Bool} (h : Fj f r stop j m) (hs : ¬ (f.pl (r.x j) = true ∧ r.x j ≠ stop)) : Fj f r stop (j + 1) m := ⟨fun q => by
  rw [h.mem]
  constructor
  · rintro ⟨h1, i, h2, h3⟩; exact ⟨h1, i, by omega, h3⟩
  · rintro ⟨h1, i, h2, h3⟩
    refine ⟨h1, i, ?_, h3⟩
    by_cases e : i = j
    · subst e
      exact absurd ⟨Cf.pl_iff.2 ⟨by omega, by omega⟩, by rw [h3]; exact h1.2⟩ hs
    · omega⟩
theorem Fj.put {f : Cf} {r : Rw Int} {stop : Int} {j p : Nat} {m : Nat → Bool} (h : Fj f r stop j m) (hp : r.x j = p) (h1 : p < f.cd.len) (h2 : (p : Int) ≠ stop) : Fj f r stop (j + 1) (updB m p) := ⟨fun q => by
  unfold updB
  by_cases e : q = p
  · subst e
    rw [if_pos rfl]
    exact ⟨fun _ => ⟨⟨h1, h2⟩, j, by omega, hp⟩, fun _ => rfl⟩
  · rw [if_neg e, h.mem]
    constructor
    · rintro ⟨k1, i, k2, k3⟩; exact ⟨k1, i, by omega, k3⟩
    · rintro ⟨k1, i, k2, k3⟩
      refine ⟨k1, i, ?_, k3⟩
      by_cases e2 : i = j
      · subst e2; omega
      · omega⟩
theorem Fj.sc {f : Cf} {g : Rw Bool} {r : Rw Int} {stop : Int} {m : Nat → Bool} (h : Fj f r stop r.len m) : (∀ q, m q = true → f.Rq g r.ls stop q) ∧ (∀ q : Nat, ((q : Int) ∈ r.ls ∧ q < f.cd.len) → (q : Int) ≠ stop → m q = true) := by
  constructor
  · intro q hq
    obtain ⟨h1, i, h2, h3⟩ := (h.mem q).1 hq
    exact .base ⟨Rw.mem_ls.2 ⟨i, h2, h3⟩, h1.1⟩ h1.2
  · intro q h1 h2
    obtain ⟨i, h3, h4⟩ := Rw.mem_ls.1 h1.1
    exact (h.mem q).2 ⟨⟨h1.2, h2⟩, i, h3, h4⟩
end Go.Proofs.Ytmajlfocfjcgmaa

/- Layer 15: the reference's Reach, walked. -/
namespace Go.Proofs.Ytmajlfocfjcgmaa
open Go Go.RowKit

set_option maxRecDepth 100000 in
set_option maxHeartbeats 16000000 in
theorem rreach_any (f : Cf) (g : Rw Bool) (r : Rw Int) (stop : Int) (w : World) (hf : f.At w) (hg : BlAt w g) (hr : NmAt w r) (hn : f.cd.len ≤ 100000) : Calls Try.prog 11 #[.agg f.vs.toArray, .slice g.ao g.len g.cap, .slice r.ao r.len r.cap, .int .i64 stop] w fun e w' => ∃ v, e = .returned v ∧ Oi w' w.heap.size v (f.rch g r stop) ∧ Below w.heap.size w w' := by
  have H1 := hyd (Fb.new w f)
  have HD := hyd (show f.At w ∧ BlAt w g ∧ NmAt w r from ⟨hf, hg, hr⟩)
  have HTR : Hid (∀ m : Nat → Bool, (∀ q, m q = true ↔ f.Rq g r.ls stop q) → trM m f.cd.len = f.rch g r stop) := fun m h => trM_eq (fun q _ => h q)
  have hbr := hr.bound
  have HNR := hyd hr.nil
  generalize f.rch g r stop = R at *
  clear hf hg hr
  have c14 := H1.out.b.cell 14 rfl
  generalize hw : w.alloc (.cells f.vs.toArray 30) = u1 at *
  go_enter Try.func11, Try.ntmps11
  go_upto_region 2 with (refine wpList_make_blk rfl _ _ _ rfl 4 (.bool false) 1 Try.underlying31 (by kernel_rfl) rfl f.cd.len rfl rfl (by omega) (by omega) ?_; intro w1 hb1 hl1; have H2 : Hid (Rz w f u1.heap.size (fun _ => false) w1) := ⟨H1.out.kept hl1, by rw [← rpl_bvL]; exact hb1, H1.out.b.lt⟩; clear hb1 hl1 H1 c14)
  clear hw
  generalize u1.heap.size = V at *
  go_upto_block 0 with fail
  go_cut [10] (fun _ wx => ∃ m : Nat → Bool, Hid (Rz w f V m wx) ∧ Hid (Fj f r stop r.len m))
  case first =>
    go_wp2_with fail
    go_loopw [10] (fun i wr => ∃ (j : Nat) (m : Nat → Bool), j ≤ r.len ∧ i = .int .i64 j ∧ Rz w f V m wr ∧ Fj f r stop j m) (fun i _ => r.len - (intOf i).toNat)
    case atStart => exact ⟨0, _, Nat.zero_le _, rfl, H2.out, Fj.zero f r stop⟩
    case round =>
      clear H2
      obtain ⟨j, m, hj, rfl, hZ, hF⟩ := hrel
      have HZ := hyd hZ
      have HF := hyd hF
      clear hZ hF
      by_cases hlt : j < r.len
      · as_aux_lemma =>
        have ij : (j : Int) < r.len := by omega
        have HR0 : Hid (∀ u, Below w.heap.size w u → u.cell? ⟨r.b, r.o + j, none⟩ = some (.int .i64 (r.x j))) := fun u hb => by have := (HD.out.2.2.kept hb).row j hlt 0 _ rfl; simpa using this
        have HSK := hyd (HF.out.skip)
        have HPU : Hid (∀ p : Nat, r.x j = p → p < f.cd.len → (p : Int) ≠ stop → Fj f r stop (j + 1) (updB m p)) := fun p h1 h2 h3 => HF.out.put h1 h2 h3
        have hpc : ∀ x : Gr wr, Calls Try.prog 20 #[.agg f.vs.toArray, .int .i64 (r.x j)] x.w fun e w' => e = .returned (.bool (f.pl (r.x j))) ∧ Below x.w.heap.size x.w w' := fun x => rplace_any f (r.x j) x.w
        have HPL := hyd (Cf.pl_iff (f := f) (a := r.x j))
        clear HF
        generalize r.x j = z at *
        generalize f.pl z = pb at *
        rw [HNR.out (by omega)]
        go_upto_region 5 with fail
        have rF := HZ.out.x.b.range
        have xa : ∀ x : Gr wr, x.w.cell? ⟨r.b, r.o + j, none⟩ = some (.int .i64 z) := fun x => HR0.out x.w (Below.next HZ.out.x.bl x.bl)
        have hNE : Nonempty (Gr wr) := ⟨⟨wr, Below.refl _ _⟩⟩
        go_cut [39] (fun c wx => c = .bool (pb && (z != stop)) ∧ Hid (Rz w f V m wx))
        case first =>
          cases pb
          · refine wp_region_gr (by kernel_rfl) (by kernel_rfl) ?_
            go_big_quiet_want
            refine quiet_load_rowF 30 (.tmp 4) rfl w.heap.size 0 (by kernel_rfl) f.vs _ (fun _ hC => by obtain ⟨x, rfl⟩ := hC; exact range_kept rF (Gr.bl x)) Try.underlying30 rfl (by kernel_rfl) ?_
            simp only [Act.put, List.setIfInBounds_toArray, List.set_cons_succ, List.set_cons_zero]
            go_big_quiet_on
            iterate 13 (go_big_quiet_step ((go_at_call 20; exact Calls.gr _ (hpc _))))
            refine wpQuiet_nil ?_
            rintro y1 ⟨xg, rfl⟩
            have Bg := xg.bl
            generalize xg.w = y1 at Bg ⊢
            go_wp2
            go_meet
            case rel => exact ⟨rfl, HZ.out.kept Bg⟩
          · refine wp_region_gr (by kernel_rfl) (by kernel_rfl) ?_
            go_big_quiet_want
            refine quiet_load_rowF 30 (.tmp 4) rfl w.heap.size 0 (by kernel_rfl) f.vs _ (fun _ hC => by obtain ⟨x, rfl⟩ := hC; exact range_kept rF (Gr.bl x)) Try.underlying30 rfl (by kernel_rfl) ?_
            simp only [Act.put, List.setIfInBounds_toArray, List.set_cons_succ, List.set_cons_zero]
            go_big_quiet_on
            iterate 13 (go_big_quiet_step ((go_at_call 20; exact Calls.gr _ (hpc _))))
            refine wpQuiet_nil ?_
            rintro y1 ⟨xg, rfl⟩
            have Bg := xg.bl
            generalize xg.w = y1 at Bg ⊢
            go_wp2
            go_meet
            case rel => exact ⟨rfl, HZ.out.kept Bg⟩
        case rest =>
        obtain ⟨rfl, h9⟩ := hcut
        clear HZ
        have HZ := hyd h9.out
        clear h9 rF xa hNE hpc
        have r0 := HR0.out wc HZ.out.x.bl
        by_cases hs : pb = true ∧ z ≠ stop
        · have e1 : (z != stop) = true := by simpa using hs.2
          have hz1 := HPL.out.1 hs.1
          obtain ⟨p, hp⟩ : ∃ p : Nat, z = p := ⟨z.toNat, by omega⟩
          have HFP := hyd (HPU.out p hp (by omega) (by rw [← hp]; exact hs.2))
          have hpb := hs.1
          subst hpb
          rw [e1]
          have ip : (p : Int) < f.cd.len := by omega
          rw [hp] at r0
          clear hs e1 hz1 hp HSK HPU
          go_wp2_with (refine wpList_store1 rfl 4 (.tmp 45) _ rfl rfl V p (.bool true) _ _ (by kernel_rfl) rfl (store_one _ _ (by kernel_rfl) rfl rfl _ _) HZ.out.bV (by rw [bvL_len]; omega) ?_; intro w2 W2; have HZ2 := hyd (HZ.out.set W2); clear W2 HZ r0)
          go_roundw
          case rel => exact ⟨j + 1, _, by omega, by go_num, HZ2.out, HFP.out⟩
          case measure => simp [intOf]; omega
        · have HF2 := hyd (HSK.out hs)
          have e1 : (pb && (z != stop)) = false := by
            cases pb
            · rfl
            · have : z = stop := by
                by_cases e : z = stop
                · exact e
                · exact absurd ⟨rfl, e⟩ hs
              simp [this]
          rw [e1]
          clear hs e1
          go_wp2
          go_roundw
          case rel => exact ⟨j + 1, m, by omega, by go_num, HZ.out, HF2.out⟩
          case measure => simp [intOf]; omega
      · have ij : ¬ (j : Int) < r.len := by omega
        have HE : Hid (Fj f r stop r.len m) := by
          have e : j = r.len := by omega
          rw [← e]; exact HF.out
        go_wp2
        go_meet
        case rel => exact ⟨m, HZ.out, HE.out⟩
  case rest =>
  obtain ⟨m0, h8, h9⟩ := hcut
  have H3 := hyd h8.out
  have HSC := hyd (h9.out.sc (g := g))
  clear h8 h9 H2
  have HWL : Hid (∀ p q, f.way g p q → q < f.cd.len) := fun p q h => h.1
  go_upto_block 2 with fail
  go_cut [11] (fun _ wx => ∃ m : Nat → Bool, Hid (Rz w f V m wx) ∧ Hid (trM m f.cd.len = R))
  case first =>
    go_wp2_with fail
    go_loopg [11] (fls m0 f.cd.len + 1) (fun k c wr => ∃ (b : Bool) (m : Nat → Bool), c = .bool b ∧ Rz w f V m wr ∧ ((∀ q, m q = true → f.Rq g r.ls stop q) ∧ (∀ q : Nat, ((q : Int) ∈ r.ls ∧ q < f.cd.len) → (q : Int) ≠ stop → m q = true)) ∧ (b = false → ∀ q, m q = true ↔ f.Rq g r.ls stop q) ∧ fls m f.cd.len + (if b = true then 1 else 0) ≤ k)
    case atStart => exact ⟨true, m0, rfl, H3.out, HSC.out, (fun h => by cases h), by simp⟩
    case round =>
      clear H3 HSC
      obtain ⟨b, m, rfl, hZ, hI, hC, hk⟩ := hrel
      have HZ := hyd hZ
      have HI := hyd hI
      have HC := hyd hC
      have HK := hyd hk
      clear hZ hI hC hk
      cases b
      · have HE : Hid (trM m f.cd.len = R) := HTR.out m (HC.out (by simp))
        go_wp2
        go_meet
        case rel => exact ⟨m, HZ.out, HE.out⟩
      · have HS0 : Hid (Sc (f.way g) (fun q => (q : Int) ∈ r.ls ∧ q < f.cd.len) f.cd.len stop (fls m f.cd.len) 0 0 false m) := Sc.start HI.out.1 HI.out.2
        have HKL : Hid (fls m f.cd.len + 1 ≤ gk) := by show _ ≤ _; have := HK.out; simpa using this
        clear HI HC HK
        generalize fls m f.cd.len = L at *
        go_wp2
        go_loopw [11, 12] (fun c i wr => ∃ (p : Nat) (b : Bool) (m : Nat → Bool), p ≤ f.cd.len ∧ c = .bool b ∧ i = .int .i64 p ∧ Rz w f V m wr ∧ Sc (f.way g) (fun q => (q : Int) ∈ r.ls ∧ q < f.cd.len) f.cd.len stop L p 0 b m) (fun _ i _ => f.cd.len - (intOf i).toNat)
        case atStart => exact ⟨0, false, m, Nat.zero_le _, rfl, rfl, HZ.out, HS0.out⟩
        case round =>
          clear HZ HS0
          obtain ⟨p, b, m, hp, rfl, rfl, hZ, hS⟩ := hrel
          have HZ := hyd hZ
          have HS := hyd hS
          clear hZ hS
          by_cases plt : p < f.cd.len
          · as_aux_lemma =>
            have ip : (p : Int) < f.cd.len := by omega
            go_wp2
            go_loopw [11, 13] (fun c i wr => ∃ (t : Nat) (b : Bool) (m : Nat → Bool), t ≤ f.cd.len ∧ c = .bool b ∧ i = .int .i64 t ∧ Rz w f V m wr ∧ Sc (f.way g) (fun q => (q : Int) ∈ r.ls ∧ q < f.cd.len) f.cd.len stop L p t b m) (fun _ i _ => f.cd.len - (intOf i).toNat)
            case atStart => exact ⟨0, b, m, Nat.zero_le _, rfl, rfl, HZ.out, HS.out⟩
            case round =>
              clear HZ HS
              obtain ⟨t, b, m, ht, rfl, rfl, hZ, hS⟩ := hrel
              have HZ := hyd hZ
              have HS := hyd hS
              clear hZ hS
              have cp := HZ.out.bV.cell p (bvL_get m plt)
              by_cases tlt : t < f.cd.len
              · have it : (t : Int) < f.cd.len := by omega
                cases hmp : m p
                · rw [hmp] at cp
                  have HN := hyd (HS.out.next HWL.out (Or.inl hmp))
                  clear hmp
                  go_wp2
                  go_roundw
                  case rel => exact ⟨p + 1, b, m, by omega, rfl, by go_num, HZ.out, HN.out⟩
                  case measure => simp [intOf]; omega
                · rw [hmp] at cp
                  have ct := HZ.out.bV.cell t (bvL_get m tlt)
                  have HSK := hyd HS.out.skip
                  by_cases hst : (t : Int) = stop
                  · have e1 : ((t : Int) != stop) = false := by simpa using hst
                    have HN := hyd (HSK.out (fun _ _ h => absurd hst h))
                    clear hst hmp
                    go_wp2
                    go_roundw
                    case rel => exact ⟨t + 1, b, m, by omega, rfl, by go_num, HZ.out, HN.out⟩
                    case measure => simp [intOf]; omega
                  · have e1 : ((t : Int) != stop) = true := by simpa using hst
                    cases hmt : m t
                    · rw [hmt] at ct
                      have rF := HZ.out.x.b.range
                      have h0 := rway_any f g p t wr (Cf.At.kept HZ.out.x.bl HD.out.1) (BlAt.kept HD.out.2.1 HZ.out.x.bl) plt tlt
                      have HPU : Hid (f.way g p t → Sc (f.way g) (fun q => (q : Int) ∈ r.ls ∧ q < f.cd.len) f.cd.len stop L p (t + 1) true (updB m t)) := fun h => HS.out.put hmp h hst hmt tlt
                      have HNO : Hid (¬ f.way g p t → Sc (f.way g) (fun q => (q : Int) ∈ r.ls ∧ q < f.cd.len) f.cd.len stop L p (t + 1) b m) := fun h => HSK.out (fun _ h2 _ => absurd h2 h)
                      clear hst hmp hmt HSK HS
                      go_wp2_with (refine wpList_loadW (by kernel_rfl) 30 (.tmp 4) rfl w.heap.size 0 (by kernel_rfl) f.vs _ rF Try.underlying30 rfl (by kernel_rfl) ?_)
                      refine h0.mono ?_
                      rintro _ u5 ⟨bw, rfl, hbw, hb⟩
                      have HBW := hyd hbw
                      have HZ2 := hyd (HZ.out.kept hb)
                      clear h0 hb hbw HZ rF cp ct
                      cases bw
                      · have HN := hyd (HNO.out (fun h => by have := HBW.out.2 h; simp at this))
                        go_wp2
                        go_roundw
                        case rel => exact ⟨t + 1, b, m, by omega, rfl, by go_num, HZ2.out, HN.out⟩
                        case measure => simp [intOf]; omega
                      · have HN := hyd (HPU.out (HBW.out.1 (by simp)))
                        go_wp2_with (refine wpList_store1 rfl 4 (.tmp 84) _ rfl rfl V t (.bool true) _ _ (by kernel_rfl) rfl (store_one _ _ (by kernel_rfl) rfl rfl _ _) HZ2.out.bV (by rw [bvL_len]; omega) ?_; intro w2 W2; have HZ3 := hyd (HZ2.out.set W2); clear W2 HZ2)
                        go_roundw
                        case rel => exact ⟨t + 1, true, _, by omega, rfl, by go_num, HZ3.out, HN.out⟩
                        case measure => simp [intOf]; omega
                    · rw [hmt] at ct
                      have HN := hyd (HSK.out (fun _ _ _ => hmt))
                      clear hst hmp hmt
                      go_wp2
                      go_roundw
                      case rel => exact ⟨t + 1, b, m, by omega, rfl, by go_num, HZ.out, HN.out⟩
                      case measure => simp [intOf]; omega
              · have it : ¬ (t : Int) < f.cd.len := by omega
                have HN := hyd (HS.out.next HWL.out (Or.inr (by omega)))
                go_wp2
                go_roundw
                case rel => exact ⟨p + 1, b, m, by omega, rfl, by go_num, HZ.out, HN.out⟩
                case measure => simp [intOf]; omega
          · have ip : ¬ (p : Int) < f.cd.len := by omega
            have HS2 : Hid (Sc (f.way g) (fun q => (q : Int) ∈ r.ls ∧ q < f.cd.len) f.cd.len stop L f.cd.len 0 b m) := by
              have e : p = f.cd.len := by omega
              have h := HS.out
              rw [e] at h
              exact h
            clear HS
            cases b
            · have HE : Hid ((((∀ q, m q = true → f.Rq g r.ls stop q) ∧ (∀ q : Nat, ((q : Int) ∈ r.ls ∧ q < f.cd.len) → (q : Int) ≠ stop → m q = true)) ∧ ∀ q, m q = true ↔ f.Rq g r.ls stop q) ∧ fls m f.cd.len = L) := ⟨⟨⟨HS2.out.sound, HS2.out.base⟩, HS2.out.done (fun q hq => Cf.Rq.lt (HS2.out.sound q hq))⟩, (HS2.out.no rfl).1⟩
              go_wp2
              go_roundg L
              case measure => have := HKL.out; omega
              case rel => exact ⟨false, m, rfl, HZ.out, HE.out.1.1, fun _ => HE.out.1.2, by have := HE.out.2; simp; omega⟩
            · have HE : Hid (((∀ q, m q = true → f.Rq g r.ls stop q) ∧ (∀ q : Nat, ((q : Int) ∈ r.ls ∧ q < f.cd.len) → (q : Int) ≠ stop → m q = true)) ∧ fls m f.cd.len < L) := ⟨⟨HS2.out.sound, HS2.out.base⟩, HS2.out.yes rfl⟩
              go_wp2
              go_roundg L
              case measure => have := HKL.out; omega
              case rel => exact ⟨true, m, rfl, HZ.out, HE.out.1, (fun h => by cases h), by have := HE.out.2; simp; omega⟩
  case rest =>
  obtain ⟨m, h8, h9⟩ := hcut
  have H4 := hyd h8.out
  have HE := hyd h9.out
  clear h8 h9 H3 HSC
  go_wp2
  go_loopw [14, 15] (fun v i wr => ∃ (j : Nat), j ≤ f.cd.len ∧ i = .int .i64 j ∧ Rz w f V m wr ∧ Oi wr (V + 1) v (trM m j)) (fun _ i _ => f.cd.len - (intOf i).toNat)
  case atStart => exact ⟨0, Nat.zero_le _, rfl, H4.out, Oi.nil _ _⟩
  case round =>
    clear H4
    obtain ⟨j, hj, rfl, hZ, hO⟩ := hrel
    have HZ := hyd (show Rz w f V m wr ∧ Oi wr (V + 1) u14 (trM m j) from ⟨hZ, hO⟩)
    clear hZ hO
    by_cases hlt : j < f.cd.len
    · have ij : (j : Int) < f.cd.len := by omega
      have c0 := HZ.out.1.bV.cell j (bvL_get m hlt)
      have hlen := hyd (trM_len m j)
      have HT := hyd (trM_succ m j)
      cases hm : m j
      · rw [hm] at c0
        have HE2 : Hid (trM m (j + 1) = trM m j) := by show _ = _; rw [HT.out, hm]; simp
        clear hm HT
        go_wp2
        go_roundw
        case rel => exact ⟨j + 1, by omega, by go_num, HZ.out.1, by rw [HE2.out]; exact HZ.out.2⟩
        case measure => simp [intOf]; omega
      · rw [hm] at c0
        have HE2 : Hid (trM m (j + 1) = trM m j ++ [(j : Int)]) := by show _ = _; rw [HT.out, hm]; simp
        clear hm HT
        go_wp2_with (at_builtin; refine wpList_app1 rfl _ _ rfl (V + 1) u14 (trM m j) (j : Int) rfl HZ.out.2 rfl (by have := hlen.out; omega) HZ.out.1.bV.lt ?_; intro v6 w6 h6 g6; have HZ2 := hyd (show Rz w f V m w6 ∧ Oi w6 (V + 1) v6 (trM m (j + 1)) from ⟨⟨HZ.out.1.x.grown g6 (fun k hk => by have := (owb HZ.out.2 hk).1; have := HZ.out.1.ne; omega), HZ.out.1.bV.gb g6 (fun e => by have := (owb HZ.out.2 e.symm).1; omega), HZ.out.1.ne⟩, by rw [HE2.out]; exact h6⟩); clear h6 g6 HZ c0)
        go_roundw
        case rel => exact ⟨j + 1, by omega, by go_num, HZ2.out.1, HZ2.out.2⟩
        case measure => simp [intOf]; omega
    · have ij : ¬ (j : Int) < f.cd.len := by omega
      have HE2 : Hid (trM m j = R) := by show _ = _; rw [show j = f.cd.len by omega]; exact HE.out
      go_wp2
      go_ret
      exact ⟨_, rfl, by rw [← HE2.out]; exact own_mono HZ.out.2 (by have := HZ.out.1.ne; omega), HZ.out.1.x.bl⟩
end Go.Proofs.Ytmajlfocfjcgmaa

/- Layer 15: the statement FlowReaches, walked. -/
namespace Go.Proofs.Ytmajlfocfjcgmaa
open Go Go.RowKit

set_option maxRecDepth 100000 in
set_option maxHeartbeats 16000000 in
theorem flowReaches_any (f : Cf) (g : Rw Bool) (r : Rw Int) (stop : Int) (w : World) (hf : f.At w) (hg : BlAt w g) (hr : NmAt w r) (hrn : Nn r) : Calls Try.prog 3 #[.agg f.vs.toArray, .agg #[.slice g.ao g.len g.cap, .slice r.ao r.len r.cap, .int .i64 stop]] w fun e w' => e = .returned (.bool true) ∧ Below w.heap.size w w' := by
  have H0 := hyd (Lk15.new w f g r stop)
  have HD := hyd (show (f.At w ∧ BlAt w g ∧ NmAt w r ∧ Nn r) ∧ True from ⟨⟨hf, hg, hr, hrn⟩, trivial⟩)
  have hbr := hr.bound
  clear hf hg hr hrn
  unfold axV at H0
  generalize hw : (w.alloc (.cells f.vs.toArray 30)).alloc (.cells #[.slice g.ao g.len g.cap, .slice r.ao r.len r.cap, .int .i64 stop] 34) = u0 at *
  have h0 := awake15_any u0
  go_enter Try.func3, Try.ntmps3
  go_wp2_with fail
  refine h0.mono ?_
  rintro _ u1 ⟨rfl, hb⟩
  have H1 := hyd (H0.out.kept hb)
  clear h0 hb H0 hw
  have rF := H1.out.bF.range
  have c0 := H1.out.bX.cell 0 rfl
  have h0 := few15_any f g u1
  have HFW : Hid (f.fewB g = true → f.cd.len ≤ 60 ∧ f.hd.len ≤ 60) := fun h => by unfold Cf.fewB at h; simp only [Bool.and_eq_true, decide_eq_true_eq] at h; exact h.1
  generalize f.fewB g = bb at *
  go_wp2_with (refine wpList_loadW (by kernel_rfl) 30 (.tmp 2) rfl w.heap.size 0 (by kernel_rfl) f.vs _ rF Try.underlying30 rfl (by kernel_rfl) ?_)
  refine h0.mono ?_
  rintro _ u2 ⟨rfl, hb⟩
  have H2 := hyd (H1.out.kept hb)
  clear h0 hb H1 rF c0
  cases bb
  · have h0 := awake15_any u2
    go_wp2_with fail
    refine h0.mono ?_
    rintro _ u9 ⟨rfl, hb⟩
    have H9 := hyd (Below.next H2.out.bl hb)
    clear h0 hb
    go_wp2
    go_ret
    exact ⟨rfl, H9.out⟩
  have HN := hyd (HFW.out (by simp))
  clear HFW
  have c1 := H2.out.bX.cell 1 rfl
  by_cases hl : (200 : Int) < r.len
  · have h0 := awake15_any u2
    go_wp2_with fail
    refine h0.mono ?_
    rintro _ u9 ⟨rfl, hb⟩
    have H9 := hyd (Below.next H2.out.bl hb)
    clear h0 hb
    go_wp2
    go_ret
    exact ⟨rfl, H9.out⟩
  have hn : f.cd.len ≤ 100000 := by have := HN.out; omega
  go_upto_region 3 with fail
  clear hl c1
  have rF := H2.out.bF.range
  have c0 := H2.out.bX.cell 0 rfl
  have c1 := H2.out.bX.cell 1 rfl
  have c2 := H2.out.bX.cell 2 rfl
  have x0 : ∀ x : Wd (fun u : World => Below u2.heap.size u2 u), x.w.cell? ⟨w.heap.size + 1, 0, none⟩ = some (.slice g.ao g.len g.cap) := fun x => up x.2 c0
  have x1 : ∀ x : Wd (fun u : World => Below u2.heap.size u2 u), x.w.cell? ⟨w.heap.size + 1, 1, none⟩ = some (.slice r.ao r.len r.cap) := fun x => up x.2 c1
  have x2 : ∀ x : Wd (fun u : World => Below u2.heap.size u2 u), x.w.cell? ⟨w.heap.size + 1, 2, none⟩ = some (.int .i64 stop) := fun x => up x.2 c2
  have hNE : Nonempty (Wd (fun u : World => Below u2.heap.size u2 u)) := ⟨⟨u2, Below.refl _ _⟩⟩
  clear c0 c1 c2
  refine wp_region_readsQN (fun u : World => Below u2.heap.size u2 u) [0, 1, 2, 3, 4, 5, 6, 8, 9, 10, 11, 12, 13, 14] 4 (by kernel_rfl) rfl (by kernel_rfl) (hj_ofQ (by kernel_rfl)) (Below.refl _ _).drew ?_
  simp only [List.filterMap, List.getElem?_cons_zero, List.getElem?_cons_succ]
  go_big_quiet_want
  refine quiet_load_rowF 30 (.tmp 2) rfl w.heap.size 0 (by kernel_rfl) f.vs _ (fun _ hC => by obtain ⟨x, rfl⟩ := hC; exact range_kept rF x.2) Try.underlying30 rfl (by kernel_rfl) ?_
  simp only [Act.put, List.setIfInBounds_toArray, List.set_cons_succ, List.set_cons_zero]
  go_big_quiet_on
  iterate 6 go_big_quiet_step (fail)
  go_big_quiet_want
  refine quiet_load_rowF 30 (.tmp 2) rfl w.heap.size 0 (by kernel_rfl) f.vs _ (fun _ hC => by obtain ⟨x, rfl⟩ := hC; exact range_kept rF x.2) Try.underlying30 rfl (by kernel_rfl) ?_
  simp only [Act.put, List.setIfInBounds_toArray, List.set_cons_succ, List.set_cons_zero]
  go_big_quiet_on
  iterate 6 go_big_quiet_step (fail)
  refine wpQuiet_nil ?_
  have HT := hyd (show Lk15 w f g r stop u2.drew ∧ Below u2.heap.size u2 u2.drew from ⟨H2.out.kept (Below.refl _ _).drew, (Below.refl _ _).drew⟩)
  clear x0 x1 x2 hNE rF H2
  generalize u2.drew = y1 at *
  refine wpAnyH_ready (rs := [7]) (by kernel_rfl) (by simp) ?_
  refine AllReadyH.cons rfl (fun K hK => ?_) AllReadyH.nil
  rw [if_pos (by kernel_rfl)]
  go_simp
  refine (reach_any f g r stop y1 (Cf.At.kept HT.out.1.bl HD.out.1.1) (BlAt.kept HD.out.1.2.1 HT.out.1.bl) (HD.out.1.2.2.1.kept HT.out.1.bl) hn).mono ?_
  rintro _ y2 ⟨va, rfl, hO, hb⟩
  obtain ⟨ra, rfl, hra, hral⟩ := hO.readR hn
  have HT2 := hyd (show (Lk15 w f g r stop y2 ∧ Below u2.heap.size u2 y2) ∧ NmAt y2 ra ∧ ra.ls = f.rch g r stop from ⟨⟨HT.out.1.kept hb, Below.next HT.out.2 hb⟩, hra, hral⟩)
  clear hO hb hra hral HT
  refine hK.out _ _ HT2.out.1.2 (fun _ => ?_)
  clear hK K
  refine wpAnyH_ready (rs := [15]) (by kernel_rfl) (by simp) ?_
  refine AllReadyH.cons rfl (fun K hK => ?_) AllReadyH.nil
  rw [if_pos (by kernel_rfl)]
  go_simp
  refine (rreach_any f g r stop y2 (Cf.At.kept HT2.out.1.1.bl HD.out.1.1) (BlAt.kept HD.out.1.2.1 HT2.out.1.1.bl) (HD.out.1.2.2.1.kept HT2.out.1.1.bl) hn).mono ?_
  rintro _ y3 ⟨va, rfl, hO, hb⟩
  obtain ⟨rb, rfl, hrb, hrbl⟩ := hO.readR hn
  have HT3 := hyd (show (Lk15 w f g r stop y3 ∧ Below u2.heap.size u2 y3) ∧ NmAt y3 ra ∧ NmAt y3 rb ∧ ra.ls = rb.ls from ⟨⟨HT2.out.1.1.kept hb, Below.next HT2.out.1.2 hb⟩, HT2.out.2.1.kept hb, hrb, HT2.out.2.2.trans hrbl.symm⟩)
  clear hO hb hrb hrbl HT2
  refine hK.out _ _ HT3.out.1.2 (fun _ => ?_)
  clear hK K
  refine wpAnyH_ready (rs := [16]) (by kernel_rfl) (by simp) ?_
  refine AllReadyH.cons rfl (fun K hK => ?_) AllReadyH.nil
  rw [if_pos (by kernel_rfl)]
  go_simp
  refine (sameR_yes ra rb y3 HT3.out.2.1 HT3.out.2.2.1 HT3.out.2.2.2).mono ?_
  rintro _ y4 ⟨rfl, hb⟩
  have HT4 := hyd (show Below w.heap.size w y4 ∧ Below u2.heap.size u2 y4 from ⟨Below.next HT3.out.1.1.bl hb, Below.next HT3.out.1.2 hb⟩)
  clear hb HT3
  refine hK.out _ _ HT4.out.2 (fun _ => ?_)
  clear hK K
  refine wpAnyH_ready (rs := [17]) (by kernel_rfl) (by simp) ?_
  refine AllReadyH.cons rfl (fun K hK => ?_) AllReadyH.nil
  rw [if_pos (by kernel_rfl)]
  go_simp
  refine hK.out _ _ HT4.out.2 (fun _ => ?_)
  clear hK K
  refine wpAnyH_done (by kernel_rfl) ?_ _
  refine ⟨(fun c hc => by cases hc), ?_⟩
  go_wp2
  go_ret
  exact ⟨rfl, HT4.out.1⟩
end Go.Proofs.Ytmajlfocfjcgmaa
