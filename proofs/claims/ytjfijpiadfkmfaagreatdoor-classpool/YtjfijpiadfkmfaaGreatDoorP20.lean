/- Layer 13: whether a class is formed, and its pool: gather, Formed. -/
import Derived.Test.YtjfijpiadfkmfaaGreatDoorP19
import Derived.Test.YtjfijpiadfkmfaaGreatDoorP8
import Derived.Test.YtjfijpiadfkmfaaGreatDoorP14
import Derived.Test.YtjfijpiadfkmfaaGreatDoorP10
import Derived.Test.YtjfijpiadfkmfaaGreatDoorP13
import Derived.Test.YtjfijpiadfkmfaaGreatDoorP2
import Derived.Laws.OwnMore
namespace Go.Proofs.YtjfijpiadfkmfaaGreatDoor
open Go Go.RowKit

def fnL (f : Nat → Cf) : Nat → List Ty → List Ty
  | 0, R => R
  | k + 1, R => (f k).take (fnL f k R)
/-- What gather answers. -/
structure GatR (c : Kl) (w : World) (e : Ending) (w' : World) : Prop where
  yes : c.fm = true → ∃ p S, e = .returned (.tuple #[.pointer (some ⟨p, 0, none⟩), .bool true]) ∧ Pl w c.n c.g p S (fnL c.fs.x c.fs.len []) w' ∧ (fnL c.fs.x c.fs.len []).length ≤ 2000000000
  no : c.fm = false → e = .returned (.tuple #[.pointer none, .bool false])
  bl : Below w.heap.size w w'
theorem allFn_any {w0 : World} {n : Strs} {g : Grid} {p : Nat} (hF : formedB n g = true) (hn : n.At w0) (hg : g.At w0) (hO : Og w0) (r : Rw Cf) (S : Nat → Prop) (w : World) (hr : CfsAt w0 r) (hP : Pl w0 n g p S [] w) (h60 : r.len ≤ 60) :
    Calls Tryz.prog 21 #[.slice r.ao r.len r.cap, .func (.func 22) #[.pointer (some ⟨p, 0, none⟩)] #[]] w fun e w' => BR w0 n g p S w [] (20720720 * r.len) (decide (∀ i, i < r.len → (r.x i).fm n.len = true)) (fnL r.x r.len []) e w' := by
  have hA := all_fn (.pointer (some ⟨p, 0, none⟩)) (fun i u => (∃ S', Pg w0 n g p S w S' (fnL r.x i []) u) ∧ (fnL r.x i []).length ≤ 20720720 * i) (fun u => Below w0.heap.size w0 u) (fun i => (r.x i).fm n.len) r.ao r.b r.o r.len r.cap (fun i => (r.x i).vs) w hr.nil hr.bound (fun _ _ => rfl) (fun i _ => Cf.vs_one _)
    (fun i u hi h => by
      obtain ⟨⟨S', h1⟩, _⟩ := h
      exact range_kept (hr.row i hi) h1.pl.bl)
    (fun i u u' _ h hb => by
      obtain ⟨⟨S', h1⟩, h2⟩ := h
      exact ⟨⟨S', h1.kept hb⟩, h2⟩)
    (fun i u hi h => by
      obtain ⟨⟨S', h1⟩, h2⟩ := h
      refine (functionFormed_any hF hn hg hO (r.x i) (hr.each i hi) S' (fnL r.x i []) u h1.pl (by omega)).mono ?_
      intro e u' h3
      refine ⟨h3.ret, fun h5 => ?_, fun _ => h3.bl⟩
      obtain ⟨⟨S2, h4⟩, h6⟩ := h3.yes h5
      refine ⟨⟨S2, h1.trans h4⟩, ?_⟩
      show ((r.x i).take (fnL r.x i [])).length ≤ _
      omega)
    ⟨⟨S, Pg.of hP (Below.refl _ _)⟩, Nat.le_refl _⟩
  refine hA.mono fun e w' h => ⟨h.ret, fun h1 => ?_, ?_⟩
  · obtain ⟨h2, h3⟩ := h.yes (of_decide_eq_true h1)
    exact ⟨h2, by simpa using h3⟩
  · by_cases h1 : ∀ i, i < r.len → (r.x i).fm n.len = true
    · obtain ⟨⟨S', h2⟩, _⟩ := h.yes h1
      exact h2.pl.bl
    · apply h.no
      apply Classical.byContradiction
      intro h2
      apply h1
      intro i hi
      cases h3 : (r.x i).fm n.len
      · exact absurd ⟨i, hi, h3⟩ h2
      · rfl

set_option maxRecDepth 100000 in
set_option maxHeartbeats 8000000 in
theorem gather_any (c : Kl) (w : World) (hc : c.At w) (hO : Og w) : Calls Tryz.prog 14 #[.agg #[.slice c.n.ao c.n.len c.n.cap, .slice c.g.ao c.g.len c.g.cap, .slice c.fs.ao c.fs.len c.fs.cap]] w fun e w' => GatR c w e w' := by
  have B0 := below_alloc w (.cells #[.slice c.n.ao c.n.len c.n.cap, .slice c.g.ao c.g.len c.g.cap, .slice c.fs.ao c.fs.len c.fs.cap] 28)
  have b := Blk.new w [.slice c.n.ao c.n.len c.n.cap, .slice c.g.ao c.g.len c.g.cap, .slice c.fs.ao c.fs.len c.fs.cap] 28
  have c0 := b.cell 0 rfl
  have c1 := b.cell 1 rfl
  have c2 := b.cell 2 rfl
  have HD := hyd (show c.At w ∧ Og w from ⟨hc, hO⟩)
  have HB := hyd B0
  have HF : Hid (c.fm = (formedB c.n c.g && ((decide (1 ≤ c.fs.len) && decide (c.fs.len ≤ 60)) && decide (∀ i, i < c.fs.len → (c.fs.x i).fm c.n.len = true)))) := rfl
  have h0 := formed_any c.n c.g _ (hc.n.kept B0) (hc.g.kept B0)
  have hmf : ∀ (fn : Fn) (first cap : Array Value) (w : World), (Instr.makeFunc fn first cap).run Tryz.prog w = .ok (.func fn first cap) w := fun _ _ _ _ => rfl
  have hmm := @run_makeMap Tryz.prog
  have HG : Hid (∀ e w', e = .returned (.tuple #[.pointer none, .bool false]) → c.fm = false → Below w.heap.size w w' → GatR c w e w') := fun e w' h1 h2 h3 => ⟨fun h => (by rw [h2] at h; cases h), fun _ => h1, h3⟩
  have HF0 : Hid (formedB c.n c.g = true → formedB c.n c.g = true) := fun h => h
  clear hc hO B0 b
  generalize hfb : formedB c.n c.g = b0 at h0 HF
  have HFB := hyd hfb
  clear hfb
  go_enter Tryz.func14, Tryz.ntmps14
  go_wp2_with fail
  refine h0.mono ?_
  rintro _ w1 ⟨rfl, hb1⟩
  have HB1 := hyd (Below.next HB.out hb1)
  have d0 := up hb1 c0
  have d1 := up hb1 c1
  have d2 := up hb1 c2
  clear h0 c0 c1 c2 hb1 HB
  cases b0
  · have HE : Hid (c.fm = false) := by show _ = _; rw [HF.out]; rfl
    go_wp2
    go_ret2
    exact HG.out _ _ rfl HE.out HB1.out
  by_cases hl0 : c.fs.len = 0
  · have e0 : ((c.fs.len : Int) == 0) = true := by simpa using hl0
    have HE : Hid (c.fm = false) := by show _ = _; rw [HF.out, decide_eq_false (show ¬ 1 ≤ c.fs.len by omega)]; rfl
    clear hl0
    go_wp2
    go_ret2
    exact HG.out _ _ rfl HE.out HB1.out
  have e0 : ((c.fs.len : Int) == 0) = false := by simpa using hl0
  by_cases hl1 : 60 < c.fs.len
  · have e1 : (60 : Int) < c.fs.len := by omega
    have HE : Hid (c.fm = false) := by show _ = _; rw [HF.out, decide_eq_false (show ¬ c.fs.len ≤ 60 by omega)]; simp
    clear hl0
    go_wp2
    go_ret2
    exact HG.out _ _ rfl HE.out HB1.out
  have e1 : ¬ (60 : Int) < c.fs.len := by omega
  have HLN := hyd (show c.fs.len ≤ 60 by omega)
  have HF2 : Hid (c.fm = decide (∀ i, i < c.fs.len → (c.fs.x i).fm c.n.len = true)) := by
    show _ = _
    rw [HF.out, decide_eq_true (show 1 ≤ c.fs.len by omega), decide_eq_true (show c.fs.len ≤ 60 by omega)]; rfl
  clear hl0 hl1
  go_upto_region 4 with fail
  have B2 := Below.next (below_alloc w1 (.map #[] 0)) (below_alloc (w1.alloc (.map #[] 0)) (.cells #[.slice c.n.ao c.n.len c.n.cap, .slice c.g.ao c.g.len c.g.cap, .slice none 0 0, .map (some w1.heap.size)] 63))
  have f2 := up B2 d2
  have HPl := hyd (show Pl w c.n c.g (w1.heap.size + 1) (PS (w1.heap.size + 1) w1.heap.size (.slice none 0 0)) [] ((w1.alloc (.map #[] 0)).alloc (.cells #[.slice c.n.ao c.n.len c.n.cap, .slice c.g.ao c.g.len c.g.cap, .slice none 0 0, .map (some w1.heap.size)] 63)) from by
    have hb := Blk.new (w1.alloc (.map #[] 0)) [.slice c.n.ao c.n.len c.n.cap, .slice c.g.ao c.g.len c.g.cap, .slice none 0 0, .map (some w1.heap.size)] 63
    rw [alloc_size] at hb
    refine ⟨w1.heap.size, .slice none 0 0, #[], 0, [], ⟨Below.next HB1.out B2, hb, ?_, NKeys.nil, Good.nil _, World.ownsRow_nil _ _ _ _, by simp, ?_, HB1.out.size⟩, rfl⟩
    · rw [(below_alloc (w1.alloc (.map #[] 0)) _).block _ (by rw [alloc_size]; omega)]
      exact heap_alloc_new w1 (.map #[] 0)
    · have := HB1.out.size; omega)
  have h2 := allFn_any HFB.out HD.out.1.n HD.out.1.g HD.out.2 c.fs _ _ HD.out.1.fs HPl.out HLN.out
  clear d0 d1 d2 B2
  generalize (w1.alloc (.map #[] 0)).alloc (.cells #[.slice c.n.ao c.n.len c.n.cap, .slice c.g.ao c.g.len c.g.cap, .slice none 0 0, .map (some w1.heap.size)] 63) = u2 at *
  generalize w1.heap.size + 1 = p at *
  rw [← HF2.out] at h2
  have HGY : Hid (∀ S' w', c.fm = true → Pl w c.n c.g p S' (fnL c.fs.x c.fs.len []) w' → (fnL c.fs.x c.fs.len []).length ≤ 2000000000 → GatR c w (.returned (.tuple #[.pointer (some ⟨p, 0, none⟩), .bool true])) w') := fun S' w' h1 h2 h3 => ⟨fun _ => ⟨p, S', rfl, h2, h3⟩, fun h => (by rw [h1] at h; cases h), h2.bl⟩
  generalize hcf : c.fm = F at *
  go_wp2_with fail
  refine Calls.mono h2 ?_
  intro e u3 h6
  obtain rfl := h6.ret
  have H6 := hyd h6
  clear h2 h6 f2
  cases F
  · go_wp2
    go_ret2
    exact HG.out _ _ rfl (by simp) H6.out.bl
  · obtain ⟨⟨S', h7⟩, h8⟩ := H6.out.yes (by simp)
    have HL8 : Hid ((fnL c.fs.x c.fs.len []).length ≤ 2000000000) := by have h9 := HLN.out; simp at h8; show _ ≤ _; omega
    clear h8
    have H7 := hyd h7.pl
    clear h7
    go_wp2
    go_ret2
    exact HGY.out S' _ (by simp) H7.out HL8.out

set_option maxHeartbeats 4000000 in
theorem cFormed_any (c : Kl) (w : World) (hc : c.At w) (hO : Og w) : Calls Tryz.prog 7 #[.agg #[.slice c.n.ao c.n.len c.n.cap, .slice c.g.ao c.g.len c.g.cap, .slice c.fs.ao c.fs.len c.fs.cap]] w fun e w' => e = .returned (.bool c.fm) ∧ Below w.heap.size w w' := by
  have B0 := below_alloc w (.cells #[.slice c.n.ao c.n.len c.n.cap, .slice c.g.ao c.g.len c.g.cap, .slice c.fs.ao c.fs.len c.fs.cap] 28)
  have b := Blk.new w [.slice c.n.ao c.n.len c.n.cap, .slice c.g.ao c.g.len c.g.cap, .slice c.fs.ao c.fs.len c.fs.cap] 28
  have c0 := b.cell 0 rfl
  have c1 := b.cell 1 rfl
  have c2 := b.cell 2 rfl
  have h := gather_any c _ (Kl.At.kept B0 hc) (hO.kept B0)
  have HB := hyd B0
  clear b B0
  go_enter Tryz.func7, Tryz.ntmps7
  go_wp2_with fail
  refine Calls.mono h ?_
  intro e w1 h1
  have HB1 := hyd (Below.next HB.out h1.bl)
  have H1 := hyd h1
  clear h c0 c1 c2
  cases hf : c.fm
  · obtain rfl := h1.no hf
    have HF := hyd hf
    clear h1 H1 hf
    go_wp2
    go_ret
    exact ⟨ret_bool HF.out.symm, HB1.out⟩
  · obtain ⟨p, S, rfl, _⟩ := h1.yes hf
    have HF := hyd hf
    clear h1 H1 hf
    go_wp2
    go_ret
    exact ⟨ret_bool HF.out.symm, HB1.out⟩
end Go.Proofs.YtjfijpiadfkmfaaGreatDoor

/- Layer 13: where a type stands among the first of others. -/
namespace Go.Proofs.YtjfijpiadfkmfaaGreatDoor
open Go Go.RowKit

/-- Where a type stands among the first of others. -/
def plN (x : Nat → Ty) (n : Nat) (t : Ty) : Nat := ((List.range n).find? fun j => (x j).same t).getD n
theorem plN_le (x : Nat → Ty) (n : Nat) (t : Ty) : plN x n t ≤ n := by
  unfold plN
  cases h : (List.range n).find? (fun j => (x j).same t) with
  | none => exact Nat.le_refl _
  | some j => exact Nat.le_of_lt (List.mem_range.1 (List.mem_of_find?_eq_some h))
theorem plN_lt {x : Nat → Ty} {n : Nat} {t : Ty} : plN x n t < n ↔ ∃ j, j < n ∧ (x j).same t = true := by
  unfold plN
  cases h : (List.range n).find? (fun j => (x j).same t) with
  | none =>
    simp only [Option.getD_none, Nat.lt_irrefl, false_iff]
    rintro ⟨j, hj, hs⟩
    have := List.find?_eq_none.1 h j (List.mem_range.2 hj)
    rw [hs] at this
    exact this rfl
  | some j =>
    simp only [Option.getD_some]
    exact ⟨fun hj => ⟨j, hj, List.find?_some (p := fun j => (x j).same t) h⟩, fun _ => List.mem_range.1 (List.mem_of_find?_eq_some h)⟩
theorem plN_hit {x : Nat → Ty} {n j : Nat} {t : Ty} (hj : j < n) (hs : (x j).same t = true) (hb : ∀ i, i < j → (x i).same t = false) : plN x n t = j := by
  unfold plN
  have e : List.range n = List.range j ++ (j :: (List.range' (j + 1) (n - j - 1))) := by
    rw [List.range_eq_range', List.range_eq_range', ← List.range'_succ, show n - j - 1 + 1 = n - j by omega]
    have := List.range'_append_1 (s := 0) (m := j) (n := n - j)
    rw [Nat.zero_add] at this
    rw [this, show j + (n - j) = n by omega]
  rw [e, List.find?_append]
  have h0 : (List.range j).find? (fun i => (x i).same t) = none := by
    rw [List.find?_eq_none]
    intro i hi
    rw [hb i (List.mem_range.1 hi)]; simp
  rw [h0]
  simp [hs]
theorem plN_miss {x : Nat → Ty} {n : Nat} {t : Ty} (hb : ∀ i, i < n → (x i).same t = false) : plN x n t = n := by
  rcases Nat.lt_or_ge (plN x n t) n with h | h
  · obtain ⟨j, hj, hs⟩ := plN_lt.1 h
    rw [hb j hj] at hs; cases hs
  · exact Nat.le_antisymm (plN_le x n t) h
end Go.Proofs.YtjfijpiadfkmfaaGreatDoor

/- Layer 13: all types of a class stand in its pool: the mathematics. -/
namespace Go.Proofs.YtjfijpiadfkmfaaGreatDoor
open Go Go.RowKit

def Pre (R R' : List Ty) : Prop := ∀ (a : Nat) (s : Ty), R[a]? = some s → R'[a]? = some s
theorem Pre.refl (R : List Ty) : Pre R R := fun _ _ h => h
theorem Pre.trans {R S T : List Ty} (h : Pre R S) (k : Pre S T) : Pre R T := fun a s x => k a s (h a s x)
theorem has_more {R R' : List Ty} {t : Ty} (hR : Pre R R') (h : has R t = true) : has R' t = true := by
  obtain ⟨i, s, h1, h2⟩ := has_iff.1 h
  exact has_iff.2 ⟨i, s, hR _ _ h1, h2⟩
theorem takeT_has {R : List Ty} {t : Ty} (hd : t ≠ .dm) : has (takeT R t) t = true := by
  unfold takeT
  cases h : has R t
  · simp only [Bool.false_eq_true, if_false]
    rw [putT_eq t R hd]
    cases h2 : has (itr (fun i => putT (t.ps i)) t.len R) t
    · simp only [Bool.false_eq_true, if_false]
      exact has_iff.2 ⟨(itr (fun i => putT (t.ps i)) t.len R).length, t, by simp, same_refl t⟩
    · simpa using h2
  · simpa using h
theorem takeT_preP (R : List Ty) (t : Ty) : Pre R (takeT R t) := fun _ _ h => takeT_pre _ _ _ _ h
theorem takeL_preP (f : Nat → Ty) (k : Nat) (R : List Ty) : Pre R (takeL f k R) := fun a s h => takeL_pre f k R a s h
theorem takeL_has {f : Nat → Ty} {R : List Ty} : ∀ {k i : Nat}, i < k → f i ≠ .dm → has (takeL f k R) (f i) = true
  | 0, _, h, _ => absurd h (Nat.not_lt_zero _)
  | k + 1, i, h, hd => by
    show has (takeT (takeL f k R) (f k)) (f i) = true
    by_cases e : i = k
    · subst e; exact takeT_has hd
    · exact has_more (takeT_preP _ _) (takeL_has (by omega) hd)
theorem inTake_pre (R : List Ty) (i : In) : Pre R (In.take R i) := by
  unfold In.take
  split
  · exact takeT_preP _ _
  · exact Pre.refl _
theorem insL_preP (f : Nat → In) (R : List Ty) : ∀ k, Pre R (insL f k R)
  | 0 => Pre.refl _
  | k + 1 => (insL_preP f R k).trans (inTake_pre _ _)
theorem slotL_preP (f : Nat → Ty) (R : List Ty) : ∀ k, Pre R (slotL f k R)
  | 0 => Pre.refl _
  | k + 1 => fun a s h => slotT_pre _ _ _ _ (slotL_preP f R k a s h)
theorem ptTake_pre (R : List Ty) (p : Pt) : Pre R (Pt.take R p) := (takeL_preP _ _ _).trans (slotL_preP _ _ _)
theorem ptL_preP (f : Nat → Pt) (R : List Ty) : ∀ k, Pre R (ptL f k R)
  | 0 => Pre.refl _
  | k + 1 => (ptL_preP f R k).trans (ptTake_pre _ _)
theorem ptL_has {f : Nat → Pt} {R : List Ty} {m : Nat} : ∀ {k i : Nat}, i < k → m < (f i).st.len → (f i).st.ps m ≠ .dm → has (ptL f k R) ((f i).st.ps m) = true
  | 0, _, h, _, _ => absurd h (Nat.not_lt_zero _)
  | k + 1, i, h, hm, hd => by
    show has (Pt.take (ptL f k R) (f k)) ((f i).st.ps m) = true
    by_cases e : i = k
    · subst e
      exact has_more (slotL_preP _ _ _) (takeL_has hm hd)
    · exact has_more (ptTake_pre _ _) (ptL_has (by omega) hm hd)
theorem cfTake_pre (R : List Ty) (f : Cf) : Pre R (Cf.take R f) :=
  (((((takeT_preP R f.p).trans (takeT_preP _ f.r)).trans (takeL_preP _ _ _)).trans (insL_preP _ _ _))).trans (ptL_preP _ _ _)
theorem fnL_preP (f : Nat → Cf) (R : List Ty) : ∀ k j, Pre (fnL f k R) (fnL f (k + j) R)
  | _, 0 => Pre.refl _
  | k, j + 1 => (fnL_preP f R k j).trans (cfTake_pre _ _)
/-- A function's types stand there. -/
structure Stand (R : List Ty) (f : Cf) : Prop where
  p : has R f.p = true
  r : has R f.r = true
  st : ∀ k, k < f.pt.len → ∀ m, m < (f.pt.x k).st.len → has R ((f.pt.x k).st.ps m) = true
theorem stand_of {N : Nat} {R : List Ty} {f : Cf} (h : f.fm N = true) : Stand (Cf.take R f) f := by
  unfold Cf.fm at h
  simp only [Bool.and_eq_true, decide_eq_true_eq] at h
  obtain ⟨_, ⟨h1, h2⟩, _, _, h5, _⟩ := h
  have hd : ∀ {t : Ty}, t.ok N = true → t ≠ .dm := fun {t} ht e => by subst e; cases ht
  refine ⟨?_, ?_, fun k hk m hm => ?_⟩
  · exact has_more ((((takeT_preP _ f.r).trans (takeL_preP _ _ _)).trans (insL_preP _ _ _)).trans (ptL_preP _ _ _)) (takeT_has (hd h1))
  · exact has_more (((takeL_preP _ _ _).trans (insL_preP _ _ _)).trans (ptL_preP _ _ _)) (takeT_has (hd h2))
  · have h6 := h5 k hk
    unfold Pt.fm at h6
    simp only [Bool.and_eq_true, decide_eq_true_eq] at h6
    exact ptL_has hk hm (hd (h6.1.2 m hm))
theorem stands {c : Kl} (h : c.fm = true) {i : Nat} (hi : i < c.fs.len) : Stand (fnL c.fs.x c.fs.len []) (c.fs.x i) := by
  unfold Kl.fm at h
  simp only [Bool.and_eq_true, decide_eq_true_eq] at h
  have h1 := stand_of (R := fnL c.fs.x i []) (h.2.2 i hi)
  have h2 := fnL_preP c.fs.x [] (i + 1) (c.fs.len - (i + 1))
  rw [show i + 1 + (c.fs.len - (i + 1)) = c.fs.len by omega] at h2
  exact ⟨has_more h2 h1.p, has_more h2 h1.r, fun k hk m hm => has_more h2 (h1.st k hk m hm)⟩
/-- What a pool's copy has. -/
structure Cop (R : List Ty) (T : Ty) : Prop where
  len : T.len = R.length
  same : ∀ (i : Nat) (s : Ty), R[i]? = some s → (T.ps i).same s = true
theorem Cop.get {R : List Ty} {T : Ty} (h : Cop R T) {i : Nat} (hi : i < T.len) : ∃ s, R[i]? = some s ∧ (T.ps i).same s = true := by
  rw [h.len] at hi
  exact ⟨R[i], List.getElem?_eq_getElem hi, h.same i _ (List.getElem?_eq_getElem hi)⟩
/-- Each stands once. -/
theorem cop_once {N : Nat} {R : List Ty} {Q : List (List Int)} (G : Good N R Q) {T : Ty} (h : Cop R T) {i : Nat} (hi : i < T.len) : ¬ plN T.ps i (T.ps i) < i := by
  rw [plN_lt]
  rintro ⟨j, hj, hs⟩
  obtain ⟨s, h1, h2⟩ := h.get hi
  obtain ⟨u, h3, h4⟩ := h.get (show j < T.len by omega)
  have := G.dis j i u s h3 h1 (same_trans _ _ _ (same_symm _ _ h4) (same_trans _ _ _ hs h2))
  omega
/-- Its Parts ahead of it. -/
theorem cop_part {N : Nat} {R : List Ty} {Q : List (List Int)} (G : Good N R Q) {T : Ty} (h : Cop R T) {i k : Nat} (hi : i < T.len) (hk : k < (T.ps i).len) : plN T.ps i ((T.ps i).ps k) < i := by
  rw [plN_lt]
  obtain ⟨s, h1, h2⟩ := h.get hi
  obtain ⟨p, q, _, hp, hq⟩ := G.ent i s h1
  obtain ⟨⟨_, _, _, _, e5⟩, e6⟩ := (same_iff _ _).1 h2
  have hl := (fm_len (ok_fm (G.ok s (List.mem_of_getElem? h1))).1).2.2.1
  have hks : k < s.len := by omega
  have key : ∃ (a : Nat) (u : Ty), a < i ∧ R[a]? = some u ∧ u.same (s.ps k) = true := by
    have : k = 0 ∨ k = 1 := by omega
    rcases this with rfl | rfl
    · obtain ⟨a, u, _, h3, h4, h5⟩ := hp.1 hks
      exact ⟨a, u, h3, h4, h5⟩
    · obtain ⟨a, u, _, h3, h4, h5⟩ := hq.1 hks
      exact ⟨a, u, h3, h4, h5⟩
  obtain ⟨a, u, h3, h4, h5⟩ := key
  exact ⟨a, h3, same_trans _ _ _ (h.same a u h4) (same_trans _ _ _ h5 (same_symm _ _ (e6 k hk)))⟩
/-- What stands in the pool stands in its copy. -/
theorem cop_has {R : List Ty} {T t : Ty} (h : Cop R T) (ht : has R t = true) : plN T.ps T.len t < T.len := by
  rw [plN_lt]
  obtain ⟨i, s, h1, h2⟩ := has_iff.1 ht
  exact ⟨i, by rw [h.len]; exact (List.getElem?_eq_some_iff.1 h1).1, same_trans _ _ _ (h.same i s h1) h2⟩
end Go.Proofs.YtjfijpiadfkmfaaGreatDoor

/- Layer 13: a type in memory of its own: walk.Copy over api.Type, as class.copied calls it. -/
namespace Go.Proofs.YtjfijpiadfkmfaaGreatDoor
open Go Go.RowKit

set_option maxHeartbeats 1000000 in
theorem cpartsOf_any (t : Ty) (w : World) :
    Calls Tryz.prog 24 #[.agg #[.int .i64 t.k, .int .i64 t.l, .slice t.ao t.len t.cap, .int .i64 t.h, .int .i64 t.e]] w fun e w' => e = .returned (.slice t.ao t.len t.cap) ∧ Below w.heap.size w w' := by
  have X0 := Bx.new w t
  have B0 := below_alloc w (.cells #[.int .i64 t.k, .int .i64 t.l, .slice t.ao t.len t.cap, .int .i64 t.h, .int .i64 t.e] 36)
  have x2 := X0.c2
  clear X0
  go_enter Tryz.func24, Tryz.ntmps24
  go_wp2
  go_ret
  exact ⟨rfl, B0⟩

set_option maxRecDepth 100000 in
set_option maxHeartbeats 2000000 in
theorem ccount_any : ∀ (t : Ty) (a : Nat) (w : World), a ≤ 4000 → t.At w → Calls Tryz.prog 89 #[.agg #[.int .i64 t.k, .int .i64 t.l, .slice t.ao t.len t.cap, .int .i64 t.h, .int .i64 t.e], .func (.func 24) #[] #[], .int .i64 4000, .int .i64 a] w fun e w' => e = .returned (.int .i64 (min (a + t.nodes) 4001 : Nat)) ∧ Below w.heap.size w w' := by
  intro t
  induction t with
  | dm => intro a w _ hAt; exact hAt.elim
  | mk k l h e ao b o len cap ps ih =>
    intro a w ha hAt
    show Calls Tryz.prog 89 #[.agg #[.int .i64 k, .int .i64 l, .slice ao len cap, .int .i64 h, .int .i64 e], .func (.func 24) #[] #[], .int .i64 4000, .int .i64 a] w fun r w' => r = .returned (.int .i64 (min (a + (1 + sumTo (fun i => (ps i).nodes) len)) 4001 : Nat)) ∧ Below w.heap.size w w'
    have B0 := below_alloc w (.cells #[.int .i64 k, .int .i64 l, .slice ao len cap, .int .i64 h, .int .i64 e] 36)
    have hb : len ≤ 9223372036854775807 := hAt.bound
    have hnil : 0 < len → ao = some ⟨b, o, none⟩ := hAt.nil
    have HS : Hid (Ty.At (w.alloc (.cells #[.int .i64 k, .int .i64 l, .slice ao len cap, .int .i64 h, .int .i64 e] 36)) (.mk k l h e ao b o len cap ps) ∧ Below w.heap.size w (w.alloc (.cells #[.int .i64 k, .int .i64 l, .slice ao len cap, .int .i64 h, .int .i64 e] 36))) := ⟨hAt.kept B0, B0⟩
    have hP : Calls Tryz.prog 24 #[.agg #[.int .i64 k, .int .i64 l, .slice ao len cap, .int .i64 h, .int .i64 e]] (w.alloc (.cells #[.int .i64 k, .int .i64 l, .slice ao len cap, .int .i64 h, .int .i64 e] 36)) fun r w' => r = .returned (.slice ao len cap) ∧ Below (w.alloc (.cells #[.int .i64 k, .int .i64 l, .slice ao len cap, .int .i64 h, .int .i64 e] 36)).heap.size (w.alloc (.cells #[.int .i64 k, .int .i64 l, .slice ao len cap, .int .i64 h, .int .i64 e] 36)) w' := cpartsOf_any (.mk k l h e ao b o len cap ps) _
    clear B0 hAt
    go_enter Tryz.func89, Tryz.ntmps89
    go_wp2_with fail
    refine hP.mono ?_
    rintro _ w5 ⟨rfl, hb5⟩
    have HS : Hid (Ty.At w5 (.mk k l h e ao b o len cap ps) ∧ Below w.heap.size w w5) := ⟨HS.out.1.kept hb5, Below.next HS.out.2 hb5⟩
    clear hb5 hP
    go_wp2
    go_loopw [9, 18] (fun m i wr => ∃ (q j : Nat), j ≤ len ∧ m = .int .i64 q ∧ i = .int .i64 j ∧ q = min (a + (1 + sumTo (fun i => (ps i).nodes) j)) 4001 ∧ Ty.At wr (.mk k l h e ao b o len cap ps) ∧ Below w.heap.size w wr) (fun _ i _ => len - (intOf i).toNat)
    case atStart => exact ⟨a + 1, 0, Nat.zero_le _, by rw [Int.natCast_add]; rfl, rfl, by simp only [sumTo]; omega, HS.out⟩
    case round =>
      obtain ⟨q, j, hj, rfl, rfl, hm, hA, hB⟩ := hrel
      clear HS
      have HQ : Hid (q = min (a + (1 + sumTo (fun i => (ps i).nodes) j)) 4001) := hm
      clear hm
      by_cases hlt : j < len
      · have ij : (j : Int) < len := by omega
        have a0 := hnil (by omega)
        subst a0
        have C : C5 wr b (o + j * 5) (ps j) := hA.cells hlt
        have P : (ps j).At wr := hA.part hlt
        have X0 := Bx.new wr (ps j)
        have B0 := below_alloc wr (.cells #[.int .i64 (ps j).k, .int .i64 (ps j).l, .slice (ps j).ao (ps j).len (ps j).cap, .int .i64 (ps j).h, .int .i64 (ps j).e] 36)
        have HS : Hid (Ty.At wr (.mk k l h e (some ⟨b, o, none⟩) b o len cap ps) ∧ Below w.heap.size w wr) := ⟨hA, hB⟩
        have y0 := C.c0
        have y1 := C.c1
        have y2 := C.c2
        have y3 := C.c3
        have y4 := C.c4
        clear hA C hB
        by_cases h40 : 4000 < q
        · have d40 : decide ((4000 : Int) < q) = true := by simp; omega
          have HE : Hid (min (a + (1 + sumTo (fun i => (ps i).nodes) len)) 4001 = q) := by
            show min (a + (1 + sumTo (fun i => (ps i).nodes) len)) 4001 = q
            have := HQ.out
            have h2 := sumTo_mono (fun i => (ps i).nodes) hj
            omega
          go_wp2
          all_goals go_ret
          all_goals exact ⟨ret_int (by have h2 := HE.out; omega), Below.next HS.out.2 B0⟩
        · have d40 : decide ((4000 : Int) < q) = false := by simp; omega
          go_wp2_with fail
          refine (ih j q _ (by omega) (P.kept B0)).mono ?_
          rintro r w1 ⟨rfl, hb1⟩
          have B1 := Below.next B0 hb1
          go_wp2
          go_roundw
          case rel => exact ⟨min (q + (ps j).nodes) 4001, j + 1, by omega, rfl, by go_num, by have := HQ.out; simp only [sumTo]; omega, HS.out.1.kept B1, Below.next HS.out.2 B1⟩
          case measure => simp [intOf]; omega
      · have e : len = j := by omega
        subst e
        have d : ¬ (len : Int) < len := by omega
        go_wp2
        go_ret
        exact ⟨ret_int (by have h1 := HQ.out; omega), hB⟩

set_option maxHeartbeats 1000000 in
theorem cCount_any (t : Ty) (w : World) (ht : t.At w) : Calls Tryz.prog 52 #[.agg #[.int .i64 t.k, .int .i64 t.l, .slice t.ao t.len t.cap, .int .i64 t.h, .int .i64 t.e], .func (.func 24) #[] #[], .int .i64 4000] w fun e w' => e = .returned (.int .i64 (min t.nodes 4001 : Nat)) ∧ Below w.heap.size w w' := by
  have B0 := below_alloc w (.cells #[.int .i64 t.k, .int .i64 t.l, .slice t.ao t.len t.cap, .int .i64 t.h, .int .i64 t.e] 36)
  have h := ccount_any t 0 _ (by omega) (ht.kept B0)
  rw [Nat.zero_add] at h
  go_enter Tryz.func52, Tryz.ntmps52
  go_wp2_with fail
  refine h.mono ?_
  rintro r w1 ⟨rfl, hb1⟩
  go_wp2
  go_ret
  exact ⟨rfl, Below.next B0 hb1⟩


set_option maxHeartbeats 2000000 in
theorem cwith_any (k l h e : Int) (ao ao' : Option Addr) (len cap len' cap' : Nat) (w : World) :
    Calls Tryz.prog 25 #[.agg #[.int .i64 k, .int .i64 l, .slice ao len cap, .int .i64 h, .int .i64 e], .slice ao' len' cap'] w fun r w' => r = .returned (.agg #[.int .i64 k, .int .i64 l, .slice ao' len' cap', .int .i64 h, .int .i64 e]) ∧ Below w.heap.size w w' := by
  have hs := alloc_size w (.cells #[.int .i64 k, .int .i64 l, .slice ao len cap, .int .i64 h, .int .i64 e] 36)
  have b0 := Blk.new w [.int .i64 k, .int .i64 l, .slice ao len cap, .int .i64 h, .int .i64 e] 36
  have B0 := below_alloc w (.cells #[.int .i64 k, .int .i64 l, .slice ao len cap, .int .i64 h, .int .i64 e] 36)
  have B1 := below_alloc (w.alloc (.cells #[.int .i64 k, .int .i64 l, .slice ao len cap, .int .i64 h, .int .i64 e] 36)) (.cells #[.int .i64 0, .int .i64 0, .slice none 0 0, .int .i64 0, .int .i64 0] 36)
  have HB := hyd (Below.next B0 B1)
  have K := b0.kept B1
  have K2 := Blk.new (w.alloc (.cells #[.int .i64 k, .int .i64 l, .slice ao len cap, .int .i64 h, .int .i64 e] 36)) [.int .i64 0, .int .i64 0, .slice none 0 0, .int .i64 0, .int .i64 0] 36
  rw [hs] at K2
  generalize hw0 : w.alloc (.cells #[.int .i64 k, .int .i64 l, .slice ao len cap, .int .i64 h, .int .i64 e] 36) = u0 at *
  generalize hw1 : u0.alloc (.cells #[.int .i64 0, .int .i64 0, .slice none 0 0, .int .i64 0, .int .i64 0] 36) = u1 at *
  have c2 := K.cell 2 rfl
  have g2 := K.frozen 2
  have W := wrote_cell (i := 2) K (.slice ao' len' cap')
  have HW := hyd (show Below w.heap.size w (u1.setCell ⟨w.heap.size, 2, none⟩ (.slice ao' len' cap')) ∧ Blk (u1.setCell ⟨w.heap.size, 2, none⟩ (.slice ao' len' cap')) w.heap.size [.int .i64 k, .int .i64 l, .slice ao' len' cap', .int .i64 h, .int .i64 e] 36 ∧ Blk (u1.setCell ⟨w.heap.size, 2, none⟩ (.slice ao' len' cap')) (w.heap.size + 1) [.int .i64 0, .int .i64 0, .slice none 0 0, .int .i64 0, .int .i64 0] 36 from ⟨W.below (Nat.le_refl _) HB.out, W.blk, W.keep K2 (by omega)⟩)
  clear B0 B1 b0 K K2 W
  go_enter Tryz.func25, Tryz.ntmps25
  go_upto_region 2 with fail
  clear c2 g2 hw0 hw1 hs HB
  generalize u1.setCell ⟨w.heap.size, 2, none⟩ (.slice ao' len' cap') = u2 at *
  have r5 := HW.out.2.1.range
  have th : u2.there (w.heap.size + 1) 0 5 := HW.out.2.2.there
  go_wp2_with (first | (refine wpList_load_mid rfl 36 (.tmp 2) rfl w.heap.size 0 (by kernel_rfl) _ _ r5 Tryz.underlying36 rfl (by kernel_rfl) ?_) | (refine wpList_store_mid rfl 36 (.tmp 4) (.tmp 7) rfl (w.heap.size + 1) 0 #[.int .i64 k, .int .i64 l, .slice ao' len' cap', .int .i64 h, .int .i64 e] (by kernel_rfl) (by kernel_rfl) th (by kernel_rfl) (by simp [Value.oneCell']) ?_))
  refine bodyPost_ret (v := .agg #[.int .i64 k, .int .i64 l, .slice ao' len' cap', .int .i64 h, .int .i64 e]) (results_row (vs := [.int .i64 k, .int .i64 l, .slice ao' len' cap', .int .i64 h, .int .i64 e]) Tryz.underlying36 rfl (by kernel_rfl) rfl rfl (World.rangeAt_setCells_same u2 (w.heap.size + 1) 0 _ th)) rfl ⟨rfl, ?_⟩
  exact below_setCells (Nat.le_succ _) _ _ _ HW.out.1

/-- What slices.Clone answers of a type's Parts. -/
structure CloR (w : World) (t : Ty) (r : Ending) (w' : World) : Prop where
  ret : ∃ (ao : Option Addr) (gg cap : Nat), r = .returned (.slice ao t.len cap) ∧ (0 < t.len → ao = some ⟨gg, 0, none⟩ ∧ w.heap.size ≤ gg ∧ gg < w'.heap.size ∧ w'.there gg 0 (t.len * 5) ∧ ∀ i, i < t.len → w'.rangeAt gg (0 + i * 5) (t.ps i).vs)
  bl : Below w.heap.size w w'
theorem tRow {w : World} {t : Ty} (h : t.At w) : Rw.At 5 Ty.vs (fun w t => t.At w) w ⟨t.ao, t.b, t.o, t.len, t.cap, t.ps⟩ :=
  ⟨h.nil, h.bound, fun _ hi => c5row (h.cells hi), fun _ hi => h.part hi⟩
theorem blk_there {w : World} {g : Nat} {cs : List Value} {t : TypeId} (h : Blk w g cs t) (a n : Nat) (hl : a + n ≤ cs.length) : w.there g a n := fun j hj => by
  have h2 := h.there (a + j) (by omega)
  simpa using h2
theorem own_there {w : World} {base : Nat} {e : TypeId} {size : Nat} {g n cap : Nat} {xs : List Value} (h : w.ownsRow base e size (.slice (some ⟨g, 0, none⟩) n cap) n xs) (hl : xs.length = n * size) : w.there g 0 (n * size) := fun j hj => by
  obtain ⟨cur, hc⟩ := own_blk h (b := g) rfl
  have b : Blk w g cur.toList e := by unfold Blk; rw [hc, Array.toArray_toList]
  refine ⟨?_, ?_⟩
  · rw [Nat.zero_add, h.cellAt j hj, List.getElem?_eq_getElem (by omega)]; rfl
  · rw [Nat.zero_add]; exact b.frozen j
set_option maxHeartbeats 2000000 in
theorem tclone_any (t : Ty) (w : World) (ht : t.At w) (hl : t.len ≤ 1000) : Calls Tryz.prog 90 #[.slice t.ao t.len t.cap] w fun e w' => CloR w t e w' := by
  have hrow := tRow ht
  have hnl := fun w => run_eql_slice_nil (P := Tryz.prog) w 31 36 t.ao t.len t.cap Tryz.underlying31
  cases hao : t.ao with
  | none =>
    have h0 : t.len = 0 := by
      by_cases h : 0 < t.len
      · have := ht.nil h; rw [hao] at this; cases this
      · omega
    rw [hao] at hnl
    have HZ := hyd h0
    clear h0 hrow ht hao hl
    go_enter Tryz.func90, Tryz.ntmps90
    go_wp2
    go_ret
    refine ⟨⟨none, 0, 0, (by rw [HZ.out]; rfl), fun h => ?_⟩, Below.refl _ _⟩
    have := HZ.out
    omega
  | some x =>
    rw [hao] at hnl
    have hown : (w.alloc (.cells #[] 36)).ownsRow w.heap.size 36 5 (.slice (some ⟨w.heap.size, 0, none⟩) 0 0) 0 [] := World.ownsRow_lit w #[] 0 (Nat.le_refl _) (by omega) rfl
    have HC : Hid (∀ a, (some x : Option Addr) = some a → ∀ j u, (flatN (fun i => (t.ps i).vs) t.len)[j]? = some u → (w.alloc (.cells #[] 36)).cell? (a.add j) = some u) := fun a ha j u hj => by
      have hlt : j < t.len * 5 := by rw [← flatN_len (f := fun i => (t.ps i).vs) (c := 5) (fun _ => rfl) t.len]; exact (List.getElem?_eq_some_iff.1 hj).1
      have h1 := ht.nil (by omega)
      rw [hao] at h1
      injection h1 with h1
      injection ha with ha
      subst ha h1
      exact flatN_cell (f := fun i => (t.ps i).vs) (c := 5) (fun _ => rfl) (by decide) (fun i hi => range_kept (hrow.row i hi) (below_alloc _ _)) j u hj
    clear hrow ht hao
    go_enter Tryz.func90, Tryz.ntmps90
    go_wp2_with (at_builtin; refine wpList_append_any Tryz.underlying31 Tryz.infoTy rfl (by decide) rfl _ _ rfl w.heap.size (.slice (some ⟨w.heap.size, 0, none⟩) 0 0) 0 [] rfl hown (some x) t.len t.cap (flatN (fun i => (t.ps i).vs) t.len) rfl (fun h => by cases h) (flatN_len (f := fun i => (t.ps i).vs) (c := 5) (fun _ => rfl) t.len) HC.out (fun u hu => by obtain ⟨i, _, h⟩ := flatN_mem t.len hu; exact List.all_eq_true.1 (tvs_one (t.ps i)) u h) (by unfold maxLen; omega) (by omega) (by rw [alloc_size]; exact Nat.le_succ _) ?_; intro v5 w5 h5 g5; have HA5 : Hid (Below w.heap.size w w5 ∧ w5.ownsRow w.heap.size 36 5 v5 t.len (flatN (fun i => (t.ps i).vs) t.len)) := ⟨gb_bel (below_alloc _ _) g5 (fun q hq => Nat.le_of_eq (by simpa [Value.ownBlock] using hq)), by rw [Nat.zero_add] at h5; exact h5⟩; obtain ⟨a5, c5, hv5⟩ := owform HA5.out.2; subst hv5; clear h5 g5)
    clear hown HC
    go_wp2
    go_ret
    refine ⟨⟨a5, (match a5 with | some y => y.block | none => 0), c5, rfl, fun hp => ?_⟩, HA5.out.1⟩
    have ho := HA5.out.2
    obtain ⟨hx, ⟨h1, h2⟩ | ⟨g, cap, cur, h1, hg, hh, hr⟩⟩ := ho
    · omega
    · injection h1 with h1 _ h3
      subst h1 h3
      have ho := HA5.out.2
      refine ⟨rfl, hg, (Array.getElem?_eq_some_iff.1 hh).1, own_there ho (flatN_len (f := fun i => (t.ps i).vs) (c := 5) (fun _ => rfl) t.len), fun i hi j v hv => ?_⟩
      have hj : j < 5 := (List.getElem?_eq_some_iff.1 hv).1
      show w5.cell? ⟨g, 0 + i * 5 + j, none⟩ = some v
      rw [Nat.zero_add, ho.cellAt (i * 5 + j) (by omega), flatN_get (f := fun i => (t.ps i).vs) (c := 5) (fun _ => rfl) t.len i j hi hj]
      exact hv
end Go.Proofs.YtjfijpiadfkmfaaGreatDoor
