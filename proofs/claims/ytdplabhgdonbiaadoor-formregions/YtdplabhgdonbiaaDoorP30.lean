/- Rows of whatever, put one behind the other in memory of one's own; functions that come in. -/
import Derived.Test.YtdplabhgdonbiaaDoorP29
import Derived.Test.YtdplabhgdonbiaaDoorP14
import Derived.Laws.OwnMore
import Derived.Test.YtdplabhgdonbiaaDoorP27
import Derived.Test.YtdplabhgdonbiaaDoorP28
import Derived.Test.YtdplabhgdonbiaaDoorP26
import Derived.Deep.DeepCutAuto
namespace Go.Proofs.YtdplabhgdonbiaaDoor
open Go.ChangeShapes Go.WideShapes Go.ChangeAt Go.RowKit Go.Deep Go.Joins

def rowR {α : Type} (vs : α → List Value) (r : Rw α) : List Value := flatN (fun i => vs (r.x i)) r.len
theorem rowR_len {α : Type} {vs : α → List Value} {z : Nat} (hz : ∀ x, (vs x).length = z) (r : Rw α) : (rowR vs r).length = r.len * z := flatN_len (fun i => hz (r.x i)) r.len
theorem rowR_cell {α : Type} {vs : α → List Value} {z : Nat} (hz : ∀ x, (vs x).length = z) (hp : 0 < z) {A : World → α → Prop} {w : World} {r : Rw α} (h : Rw.At z vs A w r) : ∀ a, r.ao = some a → ∀ j u, (rowR vs r)[j]? = some u → w.cell? (a.add j) = some u := fun a ha j u hj => by
  have hlt : j < r.len * z := by rw [← rowR_len hz r]; exact (List.getElem?_eq_some_iff.1 hj).1
  have h0 : 0 < r.len := by
    rcases Nat.eq_zero_or_pos r.len with e | e
    · rw [e, Nat.zero_mul] at hlt; omega
    · exact e
  rw [h.nil h0] at ha
  injection ha with ha
  subst ha
  exact flatN_cell (fun i => hz (r.x i)) hp h.row j u hj
theorem rowR_one {α : Type} {vs : α → List Value} (h1 : ∀ x, (vs x).all (·.oneCell') = true) (r : Rw α) : ∀ u ∈ rowR vs r, u.oneCell' = true := fun u hu => by
  obtain ⟨i, _, h⟩ := flatN_mem r.len hu
  exact List.all_eq_true.1 (h1 (r.x i)) u h
theorem Rw.of_own {α : Type} {vs : α → List Value} {z : Nat} (hz : ∀ x, (vs x).length = z) {A : World → α → Prop} {w : World} {base : Nat} {e : TypeId} {v : Value} {n : Nat} {F : Nat → α} (h : w.ownsRow base e z v n (flatN (fun i => vs (F i)) n)) (hb : n ≤ 9223372036854775807) (hA : ∀ i, i < n → A w (F i)) : ∃ r : Rw α, v = .slice r.ao r.len r.cap ∧ Rw.At z vs A w r ∧ r.len = n ∧ r.x = F := by
  obtain ⟨hl, ⟨rfl, rfl⟩ | ⟨g, cap, cur, rfl, hg, hh, hr⟩⟩ := h
  · exact ⟨⟨none, 0, 0, 0, 0, F⟩, rfl, ⟨fun h => absurd h (Nat.lt_irrefl _), Nat.zero_le _, fun _ h => absurd h (Nat.not_lt_zero _), fun _ h => absurd h (Nat.not_lt_zero _)⟩, rfl, rfl⟩
  · have ho : w.ownsRow base e z (.slice (some ⟨g, 0, none⟩) n cap) n (flatN (fun i => vs (F i)) n) := ⟨hl, Or.inr ⟨g, cap, cur, rfl, hg, hh, hr⟩⟩
    refine ⟨⟨some ⟨g, 0, none⟩, g, 0, n, cap, F⟩, rfl, ⟨fun _ => rfl, hb, fun i hi => ?_, hA⟩, rfl, rfl⟩
    have hi' : i < n := hi
    intro j u hu
    have hj : j < z := by rw [← hz (F i)]; exact (List.getElem?_eq_some_iff.1 hu).1
    show w.cell? ⟨g, 0 + i * z + j, none⟩ = some u
    have hlt : i * z + j < n * z := by
      have : (i + 1) * z ≤ n * z := Nat.mul_le_mul_right z (by omega)
      rw [Nat.add_mul, Nat.one_mul] at this
      omega
    rw [Nat.zero_add, ho.cellAt (i * z + j) hlt]
    rw [flatN_get (fun i => hz (F i)) n i j hi' hj]
    exact hu
/-- Two rows, one behind the other. -/
def Rw.cat {α : Type} (r s : Rw α) : Nat → α := fun i => if i < r.len then r.x i else s.x (i - r.len)
theorem rowR_cat {α : Type} (vs : α → List Value) (r s : Rw α) : flatN (fun i => vs (Rw.cat r s i)) (r.len + s.len) = rowR vs r ++ rowR vs s := by
  have e : (fun i => vs (Rw.cat r s i)) = fun i => if i < r.len then vs (r.x i) else vs (s.x (i - r.len)) := by
    funext i
    show vs (if i < r.len then r.x i else s.x (i - r.len)) = _
    split <;> rfl
  rw [e, flatN_app (fun i => vs (r.x i)) (fun i => vs (s.x i)) r.len s.len]
  rfl
theorem Tryd.infoFn14 : (Tryd.prog.info? 43).map (fun i => (i.zero, i.size, i.bytes)) = some (some (.agg #[.int .i64 0, .int .i64 0, .slice none 0 0, .int .i64 0, .int .i64 0, .int .i64 0, .int .i64 0, .slice none 0 0, .int .i64 0, .int .i64 0, .slice none 0 0, .int .i64 0, .int .i64 0, .int .i64 0, .slice none 0 0, .slice none 0 0, .slice none 0 0, .slice none 0 0]), 18, 256) := by kernel_rfl

section
variable {H : Type} {enc : TypeId × Value → H} {W : World} {base : Nat}
set_option maxRecDepth 100000 in
theorem open_class_nil {x y : Value} {ao : Option Addr} {len cap : Nat} {d : DataW H} {p : List MemPlace} (h : DataW.Trod enc Tryd.prog W base (fun _ => true) true 28 (.agg #[x, y, .slice ao len cap]) d p) : ao = none → len = 0 ∧ cap = 0 := by
  obtain ⟨fuel, hf⟩ := h
  have hf' : DataW.trod enc Tryd.prog W base (fun _ => true) true fuel 28 [x, y, .slice ao len cap] = some (d, p) := by simpa [Value.cells] using hf
  obtain ⟨n, _, hg⟩ := kfields Tryd.underlying28 hf'
  obtain ⟨z1, g1⟩ := hg 1 _ rfl
  have f1 : DataW.trod enc Tryd.prog W base (fun _ => true) true n 26 [.slice ao len cap] = some z1 := by simpa [Tryd.kFns] using g1
  rcases kslice Tryd.underlying26 Tryd.kFn f1 with e | ⟨a, len', cap', e, _, _⟩
  · injection e with e1 e2 e3
    exact fun _ => ⟨e2, e3⟩
  · injection e with e1 _ _
    intro h
    rw [h] at e1
    cases e1
set_option maxRecDepth 100000 in
theorem open_funcs {v : Value} {d : DataW H} {p : List MemPlace} {b0 : Nat} (hv : Value.okWide Tryd.prog W .any b0 26 v) (h : DataW.Trod enc Tryd.prog W base (fun _ => true) true 26 v d p) :
    ∃ r : Rw Cf, v = .slice r.ao r.len r.cap ∧ (CfsAt W r ∧ (r.ao = none → r.len = 0 ∧ r.cap = 0)) := by
  obtain ⟨fuel, hf⟩ := h
  obtain ⟨ao, len, cap, rfl, _⟩ := okWide_slice Tryd.underlying26 hv
  have hf' : DataW.trod enc Tryd.prog W base (fun _ => true) true fuel 26 [.slice ao len cap] = some (d, p) := by simpa [Value.cells] using hf
  have hn : ao = none → len = 0 ∧ cap = 0 := by
    rcases kslice Tryd.underlying26 Tryd.kFn hf' with e | ⟨a, len', cap', e, _, _⟩
    · injection e with e1 e2 e3
      exact fun _ => ⟨e2, e3⟩
    · injection e with e1 _ _
      intro h
      rw [h] at e1
      cases e1
  obtain ⟨r, hr, hA⟩ := kopen_cfs hf'
  injection hr with e1 e2 e3
  subst e1 e2 e3
  exact ⟨r, rfl, hA, hn⟩
end
end Go.Proofs.YtdplabhgdonbiaaDoor

/- Layer 14: the statement FormFirst, walked. -/
namespace Go.Proofs.YtdplabhgdonbiaaDoor
open Go Go.RowKit

/-- With more functions no rule that held is broken, and but for rule 2 the same is. -/
theorem btw_up {a lo hi hi' : Int} (h : btw a lo hi = true) (hh : hi ≤ hi') : btw a lo hi' = true := by
  unfold btw at h ⊢
  simp only [Bool.and_eq_true, decide_eq_true_eq] at h ⊢
  omega
theorem Cf.codB_up {nf nf' nl : Nat} {f : Cf} (h : f.codB nf nl = true) (hh : nf ≤ nf') : f.codB nf' nl = true := by
  unfold Cf.codB Cf.codA at h ⊢
  simp only [Bool.and_eq_true, decide_eq_true_eq] at h ⊢
  refine ⟨fun i hi => ?_, h.2⟩
  have h1 := h.1 i hi
  unfold In.nhB at h1 ⊢
  by_cases o1 : (f.cd.x i).op = 3 ∨ (f.cd.x i).op = 4
  · rw [if_pos o1] at h1 ⊢; exact h1
  rw [if_neg o1] at h1 ⊢
  by_cases o2 : (f.cd.x i).op = 17
  · rw [if_pos o2] at h1 ⊢; exact btw_up h1 (by omega)
  rw [if_neg o2] at h1 ⊢
  exact h1
theorem Cf.brk_up {nf nf' nl : Nat} {f : Cf} (hh : nf ≤ nf') (h : f.brk nf nl ≠ 2) : f.brk nf' nl = f.brk nf nl := by
  unfold Cf.brk at h ⊢
  cases h1 : f.cntB
  · rfl
  · cases h2 : f.codB nf nl
    · rw [h1, h2] at h; exact absurd rfl h
    · rw [Cf.codB_up h2 hh]
/-- What two answers of Check say of one another, the second one's class having more functions behind. -/
theorem first_math {c d : Kl} {m : Rw Cf} (hn : d.n.len = c.n.len) (hl : d.fs.len = c.fs.len + m.len) (hx : d.fs.x = Rw.cat c.fs m) {k r e k' r' e' : Int} (h : ChR c k r e) (h' : ChR d k' r' e') :
    e = 9 ∨ ((e = 0 ∨ e = 11) ∧ e' = 9) ∨ ((e = 11 ∧ r ≠ 2) ∧ (e' = 11 ∧ k' = k) ∧ r' = r) ∨ ((e = 11 ∧ r = 2) ∧ (e' = 0 ∨ e' = 11)) ∨ (e = 0 ∧ e' = 0) ∨ ((e = 0 ∧ e' = 11) ∧ (c.fs.len : Int) ≤ k') := by
  cases hf : c.fm
  · exact Or.inl (h.form hf).2
  have he : e = 0 ∨ e = 11 := by
    rcases first_bad c.brk c.fs.len with g | ⟨j, g1, g2, g3⟩
    · exact Or.inl (h.ok hf g).2
    · exact Or.inr (h.bad hf j g1 g2 g3).2
  cases hf' : d.fm
  · exact Or.inr (Or.inl ⟨he, (h'.form hf').2⟩)
  have up : ∀ i, i < c.fs.len → c.brk i ≠ 2 → d.brk i = c.brk i := fun i hi h2 => by
    have e1 : d.fs.x i = c.fs.x i := by rw [hx]; exact if_pos hi
    show (d.fs.x i).brk d.fs.len d.n.len = (c.fs.x i).brk c.fs.len c.n.len
    rw [e1, hn]
    exact Cf.brk_up (by omega) h2
  have he' : e' = 0 ∨ e' = 11 := by
    rcases first_bad d.brk d.fs.len with g | ⟨j, g1, g2, g3⟩
    · exact Or.inl (h'.ok hf' g).2
    · exact Or.inr (h'.bad hf' j g1 g2 g3).2
  rcases first_bad c.brk c.fs.len with g | ⟨j, g1, g2, g3⟩
  · have e0 := (h.ok hf g).2
    rcases first_bad d.brk d.fs.len with q | ⟨i, q1, q2, q3⟩
    · exact Or.inr (Or.inr (Or.inr (Or.inr (Or.inl ⟨e0, (h'.ok hf' q).2⟩))))
    · obtain ⟨⟨b1, _⟩, b2⟩ := h'.bad hf' i q1 q2 q3
      refine Or.inr (Or.inr (Or.inr (Or.inr (Or.inr ⟨⟨e0, b2⟩, ?_⟩))))
      rw [b1]
      rcases Nat.lt_or_ge i c.fs.len with s | s
      · exact absurd ((up i s (by rw [g i s]; decide)).trans (g i s)) q2
      · omega
  · obtain ⟨⟨a1, a2⟩, a3⟩ := h.bad hf j g1 g2 g3
    by_cases h2 : c.brk j = 2
    · exact Or.inr (Or.inr (Or.inr (Or.inl ⟨⟨a3, by rw [a2, h2]; rfl⟩, he'⟩)))
    · have e1 := up j g1 h2
      obtain ⟨⟨b1, b2⟩, b3⟩ := h'.bad hf' j (by omega) (by rw [e1]; exact g2) (fun i hi => (up i (by omega) (by rw [g3 i hi]; decide)).trans (g3 i hi))
      exact Or.inr (Or.inr (Or.inl ⟨⟨a3, by rw [a2]; intro e; exact h2 (by omega)⟩, ⟨b3, by rw [b1, a1]⟩, by rw [b2, a2, e1]⟩))
def nilC (m : Rw Cf) : Kl := ⟨⟨none, 0, 0, 0, 0, fun _ => ⟨#[]⟩⟩, ⟨none, 0, 0, 0, 0, fun _ => none, fun _ => 0, fun _ => 0, fun _ => 0, fun _ => 0, fun _ _ => false⟩, m⟩
theorem nilC_at {m : Rw Cf} {w : World} (h : CfsAt w m) : (nilC m).At w :=
  ⟨⟨Nat.le_refl _, fun h => absurd h (Nat.lt_irrefl _), Nat.zero_le _, fun _ h => absurd h (Nat.not_lt_zero _), fun _ h => absurd h (Nat.not_lt_zero _)⟩, by
    constructor
    all_goals first | exact Nat.le_refl _ | exact Nat.zero_le _ | exact fun h => absurd h (Nat.lt_irrefl _) | exact fun _ h => absurd h (Nat.not_lt_zero _), h⟩
/-- The statement's two variables: c, and d whose Funcs are v. -/
structure Ff (w : World) (c : Kl) (D : Nat) (v : Value) (u : World) : Prop where
  bl : Below w.heap.size w u
  bC : Blk u w.heap.size c.cs 28
  bD : Blk u D [.slice c.n.ao c.n.len c.n.cap, .slice c.g.ao c.g.len c.g.cap, v] 28
  ge : w.heap.size < D
theorem Ff.kept {w : World} {c : Kl} {D : Nat} {v : Value} {u u' : World} (h : Ff w c D v u) (hb : Below u.heap.size u u') : Ff w c D v u' := ⟨Below.next h.bl hb, h.bC.kept hb, h.bD.kept hb, h.ge⟩
theorem Ff.grown {w : World} {c : Kl} {D : Nat} {v : Value} {u u' : World} {r : Option Nat} (h : Ff w c D v u) (hg : u.grownBy u' r) (hr : ∀ k, r = some k → D < k) : Ff w c D v u' :=
  ⟨gb_bel h.bl hg (fun k hk => by have := hr k hk; have := h.ge; omega), gb_blk14 h.bC hg (fun e => by have := hr _ e.symm; have := h.ge; omega), gb_blk14 h.bD hg (fun e => by have := hr _ e.symm; omega), h.ge⟩
theorem Ff.set {w : World} {c : Kl} {D : Nat} {v : Value} {u : World} (h : Ff w c D v u) (v' : Value) : Ff w c D v' (u.setCell ⟨D, 2, none⟩ v') ∧ ∀ b, b ≠ D → (u.setCell ⟨D, 2, none⟩ v').heap[b]? = u.heap[b]? := by
  have W := wrote_cell (i := 2) h.bD v'
  have hge := h.ge
  exact ⟨⟨W.below (by omega) h.bl, W.keep h.bC (by omega), W.blk, h.ge⟩, W.other⟩

set_option maxRecDepth 100000 in
set_option maxHeartbeats 16000000 in
theorem formFirst_any (c : Kl) (m : Rw Cf) (w : World) (hc : c.At w) (hm : CfsAt w m ∧ (m.ao = none → m.len = 0 ∧ m.cap = 0)) (hnc : c.fs.ao = none → c.fs.len = 0 ∧ c.fs.cap = 0) (hO : Og w) : Calls Tryd.prog 6 #[.agg #[.slice c.n.ao c.n.len c.n.cap, .slice c.g.ao c.g.len c.g.cap, .slice c.fs.ao c.fs.len c.fs.cap], .slice m.ao m.len m.cap] w fun e w' => e = .returned (.bool true) ∧ Below w.heap.size w w' := by
  have B0 := below_alloc w (.cells #[.slice c.n.ao c.n.len c.n.cap, .slice c.g.ao c.g.len c.g.cap, .slice c.fs.ao c.fs.len c.fs.cap] 28)
  have b := Blk.new w c.cs 28
  have H0 := hyd (show Below w.heap.size w _ ∧ Blk _ w.heap.size c.cs 28 from ⟨B0, b⟩)
  have HD := hyd (show c.At w ∧ Og w ∧ CfsAt w m from ⟨hc, hO, hm.1⟩)
  have HNN := hyd (show (c.fs.ao = none → c.fs.len = 0 ∧ c.fs.cap = 0) ∧ (m.ao = none → m.len = 0 ∧ m.cap = 0) from ⟨hnc, hm.2⟩)
  have h0 := awake14_any _ (hO.kept B0)
  clear B0 b hc hO hm hnc
  go_enter Tryd.func6, Tryd.ntmps6
  go_wp2_with fail
  refine h0.mono ?_
  rintro _ u1 ⟨rfl, hb⟩
  have H1 := hyd (show Below w.heap.size w u1 ∧ Blk u1 w.heap.size c.cs 28 from ⟨Below.next H0.out.1 hb, H0.out.2.kept hb⟩)
  clear h0 hb H0
  have c0 := H1.out.2.cell 0 rfl
  have c1 := H1.out.2.cell 1 rfl
  have c2 := H1.out.2.cell 2 rfl
  have h0 := rFew_any c 700 u1 (Kl.At.kept H1.out.1 HD.out.1)
  go_wp2_with fail
  refine h0.mono ?_
  rintro e u2 ⟨⟨bb, rfl, hl1⟩, hb⟩
  have H2 := hyd (show Below w.heap.size w u2 ∧ Blk u2 w.heap.size c.cs 28 from ⟨Below.next H1.out.1 hb, H1.out.2.kept hb⟩)
  have HL1 := hyd hl1
  clear h0 hb H1 c0 c1 c2 hl1
  cases bb
  · have h0 := awake14_any u2 (HD.out.2.1.kept H2.out.1)
    go_wp2_with fail
    refine h0.mono ?_
    rintro _ u3 ⟨rfl, hb⟩
    have H3 := hyd (Below.next H2.out.1 hb)
    clear h0 hb
    go_wp2
    go_ret
    exact ⟨rfl, H3.out⟩
  have h0 := rFew_any (nilC m) 700 u2 (nilC_at (HD.out.2.2.kept H2.out.1))
  go_wp2_with fail
  refine Calls.mono h0 ?_
  rintro e u3 ⟨⟨bb, rfl, hl2⟩, hb⟩
  have H3 := hyd (show Below w.heap.size w u3 ∧ Blk u3 w.heap.size c.cs 28 from ⟨Below.next H2.out.1 hb, H2.out.2.kept hb⟩)
  have HL2 : Hid (bb = true → m.len ≤ 70) := hl2
  clear h0 hb H2 hl2
  cases bb
  · have h0 := awake14_any u3 (HD.out.2.1.kept H3.out.1)
    go_wp2_with fail
    refine h0.mono ?_
    rintro _ u4 ⟨rfl, hb⟩
    have H4 := hyd (Below.next H3.out.1 hb)
    clear h0 hb
    go_wp2
    go_ret
    exact ⟨rfl, H4.out⟩
  have HLN := hyd (show c.fs.len ≤ 70 ∧ m.len ≤ 70 from ⟨HL1.out (by simp), HL2.out (by simp)⟩)
  clear HL1 HL2
  have c0 := H3.out.2.cell 0 rfl
  have c1 := H3.out.2.cell 1 rfl
  have c2 := H3.out.2.cell 2 rfl
  have h0 := check14_any c u3 (Kl.At.kept H3.out.1 HD.out.1) (HD.out.2.1.kept H3.out.1)
  go_wp2_with fail
  refine h0.mono ?_
  rintro e u4 ⟨⟨k, r, er, rfl, hR⟩, hb⟩
  have H4 := hyd (show Below w.heap.size w u4 ∧ Blk u4 w.heap.size c.cs 28 from ⟨Below.next H3.out.1 hb, H3.out.2.kept hb⟩)
  have HR := hyd hR
  clear h0 hb hR H3 c0 c1 c2
  have c0 := H4.out.2.cell 0 rfl
  have c1 := H4.out.2.cell 1 rfl
  have c2 := H4.out.2.cell 2 rfl
  have HF4 := hyd (show Ff w c u4.heap.size (.slice c.fs.ao c.fs.len c.fs.cap) (u4.alloc (.cells #[.slice c.n.ao c.n.len c.n.cap, .slice c.g.ao c.g.len c.g.cap, .slice c.fs.ao c.fs.len c.fs.cap] 28)) from ⟨Below.next H4.out.1 (below_alloc _ _), H4.out.2.kept (below_alloc _ _), Blk.new u4 [.slice c.n.ao c.n.len c.n.cap, .slice c.g.ao c.g.len c.g.cap, .slice c.fs.ao c.fs.len c.fs.cap] 28, H4.out.2.lt⟩)
  go_upto_region 5 with fail
  clear c0 c1 c2
  have c2 := HF4.out.bD.cell 2 rfl
  have g2 := HF4.out.bD.frozen 2
  have HF5 := hyd (HF4.out.set (.slice none 0 0)).1
  generalize u4.alloc (.cells #[.slice c.n.ao c.n.len c.n.cap, .slice c.g.ao c.g.len c.g.cap, .slice c.fs.ao c.fs.len c.fs.cap] 28) = u5 at *
  generalize u4.heap.size = D at *
  go_upto_region 6 with fail
  clear c2 g2 HF4 H4
  generalize u5.setCell ⟨D, 2, none⟩ (.slice none 0 0) = u6 at *
  have c2 := HF5.out.bC.cell 2 rfl
  have d2 := HF5.out.bD.cell 2 rfl
  have hE := World.ownsRow_nil u6 u6.heap.size 43 18
  go_upto_region 7 with ((at_builtin; refine wpList_append_any Tryd.underlying26 Tryd.infoFn14 rfl (by decide) rfl _ _ rfl u6.heap.size (.slice none 0 0) 0 [] rfl hE c.fs.ao c.fs.len c.fs.cap (rowR Cf.vs c.fs) rfl HNN.out.1 (rowR_len Cf.vs_len c.fs) (rowR_cell Cf.vs_len (by decide) (HD.out.1.fs.kept HF5.out.bl)) (rowR_one Cf.vs_one c.fs) (by have := HLN.out.1; unfold maxLen; omega) (by have := HLN.out.1; omega) (Nat.le_refl _) ?_; intro v7 w5 h5 g5; have HO5 : Hid (w5.ownsRow u6.heap.size 43 18 v7 c.fs.len (rowR Cf.vs c.fs) ∧ Ff w c D (.slice none 0 0) w5 ∧ u6.heap.size ≤ w5.heap.size) := ⟨by rw [Nat.zero_add] at h5; exact h5, HF5.out.grown g5 (fun k hk => by cases hk), g5.size⟩; obtain ⟨a7, c7, hv7⟩ := owform HO5.out.1; subst hv7; clear h5 g5 d2; have d2 := HO5.out.2.1.bD.cell 2 rfl; have g2 := HO5.out.2.1.bD.frozen 2))
  have HLT := hyd HF5.out.bD.lt
  have HF6 := hyd (show Ff w c D (.slice a7 c.fs.len c7) _ ∧ (w5.setCell ⟨D, 2, none⟩ (.slice a7 c.fs.len c7)).ownsRow u6.heap.size 43 18 (.slice a7 c.fs.len c7) c.fs.len (rowR Cf.vs c.fs) ∧ u6.heap.size ≤ (w5.setCell ⟨D, 2, none⟩ (.slice a7 c.fs.len c7)).heap.size from ⟨(HO5.out.2.1.set _).1, own_same HO5.out.1 (fun b hb => (HO5.out.2.1.set _).2 b (fun e => by have := (owb HO5.out.1 hb).1; have := HLT.out; omega)), by have := HO5.out.2.2; simpa [World.setCell] using this⟩)
  clear d2 g2 c2 hE HO5
  generalize w5.setCell ⟨D, 2, none⟩ (.slice a7 c.fs.len c7) = u7 at *
  have d2 := HF6.out.1.bD.cell 2 rfl
  have hE := HF6.out.2.1
  go_upto_region 8 with ((at_builtin; refine wpList_append_any Tryd.underlying26 Tryd.infoFn14 rfl (by decide) rfl _ _ rfl u6.heap.size (.slice a7 c.fs.len c7) c.fs.len (rowR Cf.vs c.fs) rfl hE m.ao m.len m.cap (rowR Cf.vs m) rfl HNN.out.2 (rowR_len Cf.vs_len m) (rowR_cell Cf.vs_len (by decide) (HD.out.2.2.kept HF6.out.1.bl)) (rowR_one Cf.vs_one m) (by have := HLN.out; unfold maxLen; omega) (by have := HLN.out; omega) HF6.out.2.2 ?_; intro v8 w6 h6 g6; have HO6 : Hid (w6.ownsRow u6.heap.size 43 18 v8 (c.fs.len + m.len) (rowR Cf.vs c.fs ++ rowR Cf.vs m) ∧ Ff w c D (.slice a7 c.fs.len c7) w6) := ⟨h6, HF6.out.1.grown g6 (fun k hk => by have := (owb HF6.out.2.1 hk).1; have := HLT.out; omega)⟩; obtain ⟨a8, c8, hv8⟩ := owform HO6.out.1; subst hv8; clear h6 g6 d2; have d2 := HO6.out.2.bD.cell 2 rfl; have g2 := HO6.out.2.bD.frozen 2))
  have HF7 := hyd (show Ff w c D (.slice a8 (c.fs.len + m.len) c8) _ ∧ (w6.setCell ⟨D, 2, none⟩ (.slice a8 (c.fs.len + m.len) c8)).ownsRow u6.heap.size 43 18 (.slice a8 (c.fs.len + m.len) c8) (c.fs.len + m.len) (rowR Cf.vs c.fs ++ rowR Cf.vs m) from ⟨(HO6.out.2.set _).1, own_same HO6.out.1 (fun b hb => (HO6.out.2.set _).2 b (fun e => by have := (owb HO6.out.1 hb).1; have := HLT.out; omega))⟩)
  clear d2 g2 hE HO6 HF6
  generalize w6.setCell ⟨D, 2, none⟩ (.slice a8 (c.fs.len + m.len) c8) = u8 at *
  have HA : Hid (∃ s : Rw Cf, (.slice a8 (c.fs.len + m.len) c8 : Value) = .slice s.ao s.len s.cap ∧ CfsAt u8 s ∧ s.len = c.fs.len + m.len ∧ s.x = Rw.cat c.fs m) := by
    refine Rw.of_own Cf.vs_len (base := u6.heap.size) (e := 43) ?_ (by have := HLN.out; omega) (fun i hi => ?_)
    · rw [rowR_cat]; exact HF7.out.2
    · show (if i < c.fs.len then c.fs.x i else m.x (i - c.fs.len)).At u8
      split
      · exact (HD.out.1.fs.kept HF7.out.1.bl).each i (by assumption)
      · exact (HD.out.2.2.kept HF7.out.1.bl).each _ (by omega)
  obtain ⟨s, hs, hsA, hsl, hsx⟩ := HA.out
  clear HA
  have HF8 := hyd HF7.out.1
  clear HF7
  rw [hs] at HF8
  have HSS := hyd (show s.len = c.fs.len + m.len ∧ s.x = Rw.cat c.fs m from ⟨hsl, hsx⟩)
  have h0 := check14_any ⟨c.n, c.g, s⟩ u8 ⟨HD.out.1.n.kept HF8.out.bl, HD.out.1.g.kept HF8.out.bl, hsA⟩ (HD.out.2.1.kept HF8.out.bl)
  have d0 := HF8.out.bD.cell 0 rfl
  have d1 := HF8.out.bD.cell 1 rfl
  have d2 := HF8.out.bD.cell 2 rfl
  clear hs hsA hsl hsx
  go_wp2_with fail
  refine Calls.mono h0 ?_
  rintro e u9 ⟨⟨k', r', er', rfl, hR'⟩, hb⟩
  have HM := hyd (first_math (c := c) (d := ⟨c.n, c.g, s⟩) (m := m) rfl HSS.out.1 HSS.out.2 HR.out hR')
  have H9 := hyd (HF8.out.kept hb)
  clear h0 hb hR' HR d0 d1 d2 HF8 HSS
  rcases HM.out with h | ⟨h | h, h'⟩ | ⟨⟨h1, h2⟩, ⟨h3, h4⟩, h5⟩ | ⟨⟨h1, h2⟩, h3 | h3⟩ | ⟨h1, h2⟩ | ⟨⟨h1, h2⟩, h3⟩
  · subst h
    clear HM
    go_wp2
    go_ret
    exact ⟨rfl, H9.out.bl⟩
  · subst h h'
    clear HM
    go_wp2
    go_ret
    exact ⟨rfl, H9.out.bl⟩
  · subst h h'
    clear HM
    go_wp2
    go_ret
    exact ⟨rfl, H9.out.bl⟩
  · have n2 : (r != 2) = true := by simpa using h2
    subst h1 h3 h4 h5
    clear HM h2
    go_wp2
    go_ret
    exact ⟨rfl, H9.out.bl⟩
  · subst h1 h2 h3
    clear HM
    go_wp2
    go_ret
    exact ⟨rfl, H9.out.bl⟩
  · subst h1 h2 h3
    clear HM
    go_wp2
    go_ret
    exact ⟨rfl, H9.out.bl⟩
  · subst h1 h2
    clear HM
    go_wp2
    go_ret
    exact ⟨rfl, H9.out.bl⟩
  · subst h1 h2
    clear HM
    have c2 := H9.out.bC.cell 2 rfl
    go_wp2
    go_ret
    exact ⟨rfl, H9.out.bl⟩
end Go.Proofs.YtdplabhgdonbiaaDoor

/- Layer 14: one region more: the mathematics, and how it lies. -/
namespace Go.Proofs.YtdplabhgdonbiaaDoor
open Go Go.RowKit

/-- A function with one region. -/
def Cf.one (f : Cf) (R : Nat) (r : Rn) : Cf := { f with rg := ⟨some ⟨R, 0, none⟩, R, 0, 1, 1, fun _ => r⟩ }
theorem Cf.one_vs (f : Cf) (R : Nat) (r : Rn) : (f.one R r).vs = f.vs.set 17 (.slice (some ⟨R, 0, none⟩) 1 1) := rfl
def oneX (c : Kl) (R : Nat) (r : Rn) : Nat → Cf := fun i => if i = 0 then (c.fs.x 0).one R r else c.fs.x i
/-- What the statement asks of one place. -/
def Rn.pOk (n : Nat) (r : Rn) (i : Nat) : Prop := ((r.at_ < r.ps.x i ∧ r.ps.x i < n) ∧ r.ps.x i ≠ r.join) ∧ (i = 0 ∨ r.ps.x (i - 1) < r.ps.x i)
instance (n : Nat) (r : Rn) (i : Nat) : Decidable (r.pOk n i) := by unfold Rn.pOk; exact inferInstance
def Rn.head (n : Nat) (r : Rn) : Bool := (decide (0 ≤ r.at_) && decide (r.at_ < n)) && (decide (r.join = -1) || (decide (r.at_ < r.join) && decide (r.join < n)))
def Rn.right (n : Nat) (r : Rn) (j : Nat) : Bool := r.head n && decide (∀ i, i < j → r.pOk n i)
theorem Rn.right_false {n : Nat} {r : Rn} {j : Nat} (h : r.right n j = false) : r.right n (j + 1) = false := by
  unfold Rn.right at h ⊢
  cases h1 : r.head n
  · rfl
  · rw [h1, Bool.true_and, decide_eq_false_iff_not] at h
    rw [Bool.true_and, decide_eq_false_iff_not]
    exact fun hh => h (fun i hi => hh i (by omega))
theorem Rn.right_next {n : Nat} {r : Rn} {j : Nat} (h : r.right n j = true) : r.right n (j + 1) = decide (r.pOk n j) := by
  unfold Rn.right at h ⊢
  rw [Bool.and_eq_true, decide_eq_true_eq] at h
  rw [h.1, Bool.true_and]
  by_cases hp : r.pOk n j
  · rw [decide_eq_true hp, decide_eq_true (all_step14 h.2 hp)]
  · rw [decide_eq_false hp, decide_eq_false (fun hh => hp (hh j (by omega)))]
theorem Rn.right_iff {n : Nat} {r : Rn} : r.right n r.ps.len = true ↔ ((0 ≤ r.at_ ∧ r.at_ < n) ∧ r.joinB n = true) ∧ r.plcB n = true := by
  have key : (∀ i, i < r.ps.len → r.pOk n i) ↔ (∀ i, i < r.ps.len → (r.ah i < r.ps.x i ∧ r.ps.x i < n) ∧ r.ps.x i ≠ r.join) := by
    constructor
    · intro h i hi
      obtain ⟨⟨⟨h1, h2⟩, h3⟩, h4⟩ := h i hi
      refine ⟨⟨?_, h2⟩, h3⟩
      match i, h4 with
      | 0, _ => exact h1
      | k + 1, Or.inr h4 => exact h4
    · intro h i hi
      obtain ⟨⟨h1, h2⟩, h3⟩ := h i hi
      have up := (Rn.up_all (x := r) (k := i) (fun k hk => (h k (by omega)).1.1)).1
      refine ⟨⟨⟨by omega, h2⟩, h3⟩, ?_⟩
      match i, h1 with
      | 0, _ => exact Or.inl rfl
      | k + 1, h1 => exact Or.inr h1
  unfold Rn.right Rn.head Rn.joinB Rn.plcB
  simp only [Bool.and_eq_true, decide_eq_true_eq]
  rw [key]
theorem Rn.right_fm {n : Nat} {r : Rn} (hn : n ≤ 2000) (hl : r.ps.len ≤ 500) (h : r.right n r.ps.len = true) : r.fm = true := by
  obtain ⟨⟨⟨h1, h2⟩, h3⟩, h4⟩ := Rn.right_iff.1 h
  unfold Rn.joinB at h3
  unfold Rn.plcB at h4
  simp only [Bool.or_eq_true, Bool.and_eq_true, decide_eq_true_eq] at h3 h4
  unfold Rn.fm shB
  simp only [Bool.and_eq_true, decide_eq_true_eq]
  refine ⟨⟨⟨⟨h1, by omega⟩, by omega, by omega⟩, by omega⟩, fun i hi => ?_⟩
  have up := (Rn.up_all (x := r) (k := i) (fun k hk => (h4 k (by omega)).1.1)).1
  have := h4 i hi
  omega
/-- What Check says of the class with one region. -/
theorem regions_math {c d : Kl} {R : Nat} {r : Rn} (hnl : d.n = c.n) (hg : d.g = c.g) (hl : d.fs.len = c.fs.len) (hx : d.fs.x = oneX c R r) (h0 : 0 < c.fs.len) (hps : r.ps.len ≤ 500) {k q e k' q' e' : Int} (h : ChR c k q e) (he : e = 0) (h' : ChR d k' q' e') :
    (r.right (c.fs.x 0).cd.len r.ps.len = true ∧ e' = 0) ∨ (r.right (c.fs.x 0).cd.len r.ps.len = false ∧ (e' = 9 ∨ (e' = 11 ∧ q' = 4))) := by
  obtain ⟨hfm, hbr⟩ := h.yes he
  have x0 : d.fs.x 0 = (c.fs.x 0).one R r := by rw [hx]; rfl
  have xi : ∀ i, i ≠ 0 → d.fs.x i = c.fs.x i := fun i hi => by rw [hx]; exact if_neg hi
  have hfm' := hfm
  unfold Kl.fm at hfm'
  simp only [Bool.and_eq_true, decide_eq_true_eq] at hfm'
  have hf0 := hfm'.2.2 0 h0
  have p0 := Cf.fm_parts hf0
  have hone : ((c.fs.x 0).one R r).fm c.n.len = r.fm := by
    unfold Cf.fm Cf.few at hf0
    simp only [Bool.and_eq_true, decide_eq_true_eq] at hf0
    have e1 : ((c.fs.x 0).one R r).fm c.n.len = (((c.fs.x 0).bnds c.n.len && (decide ((c.fs.x 0).c.len ≤ 16) && (decide ((c.fs.x 0).cd.len ≤ 2000) && (decide ((c.fs.x 0).hd.len ≤ 2000) && (decide ((c.fs.x 0).pt.len ≤ 2000) && decide (1 ≤ 2000)))))) && (((c.fs.x 0).p.ok c.n.len && (c.fs.x 0).r.ok c.n.len) && (decide (∀ i, i < (c.fs.x 0).c.len → ((c.fs.x 0).c.ps i).ok c.n.len = true) && (decide (∀ i, i < (c.fs.x 0).cd.len → ((c.fs.x 0).cd.x i).fm c.n.len = true) && (decide (∀ i, i < (c.fs.x 0).pt.len → ((c.fs.x 0).pt.x i).fm c.n.len (c.fs.x 0).sl = true) && (decide (∀ i, i < (c.fs.x 0).hd.len → ((c.fs.x 0).hd.x i).fm = true) && decide (∀ i, i < 1 → r.fm = true))))))) := rfl
    rw [e1, hf0.1.1, decide_eq_true hf0.1.2.1, decide_eq_true hf0.1.2.2.1, decide_eq_true hf0.1.2.2.2.1, decide_eq_true hf0.1.2.2.2.2.1, hf0.2.1.1, hf0.2.1.2, decide_eq_true hf0.2.2.1, decide_eq_true hf0.2.2.2.1, decide_eq_true hf0.2.2.2.2.1, decide_eq_true hf0.2.2.2.2.2.1]
    cases hr : r.fm
    · rw [decide_eq_false (show ¬ ∀ i, i < 1 → false = true from fun hh => by have := hh 0 (by omega); cases this)]; rfl
    · rw [decide_eq_true (show ∀ i, i < 1 → true = true from fun _ _ => rfl)]; rfl
  have dfm : d.fm = r.fm := by
    unfold Kl.fm
    rw [hnl, hg, hl, hfm'.1, decide_eq_true hfm'.2.1.1, decide_eq_true hfm'.2.1.2]
    simp only [Bool.true_and]
    cases hr : r.fm
    · rw [decide_eq_false_iff_not]
      intro hh
      have := hh 0 h0
      rw [x0, hone, hr] at this
      cases this
    · rw [decide_eq_true_eq]
      intro i hi
      by_cases e : i = 0
      · rw [e, x0, hone, hr]
      · rw [xi i e]; exact hfm'.2.2 i hi
  cases hr : r.fm
  · refine Or.inr ⟨?_, Or.inl (h'.form (dfm.trans hr)).2⟩
    cases hq : r.right (c.fs.x 0).cd.len r.ps.len
    · rfl
    · have := Rn.right_fm p0.1.2 hps hq
      rw [hr] at this; cases this
  · have hdfm := dfm.trans hr
    have hat := Rn.fm_pos hr
    obtain ⟨⟨⟨b1, b2⟩, b3⟩, _⟩ := Cf.brk_zero (show (c.fs.x 0).brk c.fs.len c.n.len = 0 from hbr 0 h0)
    have hreg : ((c.fs.x 0).one R r).regB = r.right (c.fs.x 0).cd.len r.ps.len := by
      cases hq : r.right (c.fs.x 0).cd.len r.ps.len
      · refine decide_eq_false (fun hh => ?_)
        have h1 := hh 0 (by show 0 < 1; omega)
        have h2 : r.right (c.fs.x 0).cd.len r.ps.len = true := Rn.right_iff.2 ⟨⟨⟨hat, h1.1.1.2⟩, h1.1.2⟩, h1.2⟩
        rw [hq] at h2; cases h2
      · obtain ⟨⟨⟨q1, q2⟩, q3⟩, q4⟩ := Rn.right_iff.1 hq
        refine decide_eq_true (fun i hi => ?_)
        have hi0 : i = 0 := by have : i < 1 := hi; omega
        subst hi0
        exact ⟨⟨⟨(show (-1 : Int) < r.at_ by omega), q2⟩, q3⟩, q4⟩
    have hb0 : d.brk 0 = if r.right (c.fs.x 0).cd.len r.ps.len = true then 0 else 4 := by
      show (d.fs.x 0).brk d.fs.len d.n.len = _
      rw [x0, hl, hnl]
      unfold Cf.brk
      rw [hreg, show ((c.fs.x 0).one R r).cntB = true from b1, show ((c.fs.x 0).one R r).codB c.fs.len c.n.len = true from b2, show ((c.fs.x 0).one R r).hanB = true from b3]
      cases r.right (c.fs.x 0).cd.len r.ps.len <;> rfl
    cases hq : r.right (c.fs.x 0).cd.len r.ps.len
    · rw [hq] at hb0
      obtain ⟨⟨_, a2⟩, a3⟩ := h'.bad hdfm 0 (by omega) (by rw [hb0]; decide) (fun i hi => absurd hi (Nat.not_lt_zero _))
      rw [hb0] at a2
      exact Or.inr ⟨rfl, Or.inr ⟨a3, a2⟩⟩
    · rw [hq] at hb0
      refine Or.inl ⟨rfl, (h'.ok hdfm (fun i hi => ?_)).2⟩
      by_cases e : i = 0
      · rw [e]; exact hb0
      · show (d.fs.x i).brk d.fs.len d.n.len = 0
        rw [xi i e, hl, hnl]
        exact hbr i (by omega)
/-- The variables: c, r; then d, whose Funcs begin in the block gg. -/
structure Fg (w : World) (c : Kl) (r : Rn) (u : World) : Prop where
  bl : Below w.heap.size w u
  bC : Blk u w.heap.size c.cs 28
  bR : Blk u (w.heap.size + 1) r.vs 58
theorem Fg.kept {w : World} {c : Kl} {r : Rn} {u u' : World} (h : Fg w c r u) (hb : Below u.heap.size u u') : Fg w c r u' := ⟨Below.next h.bl hb, h.bC.kept hb, h.bR.kept hb⟩
/-- d's row, as it lies. -/
structure Fq (w : World) (c : Kl) (r : Rn) (D gg c7 R : Nat) (u : World) : Prop where
  fg : Fg w c r u
  bD : Blk u D [.slice c.n.ao c.n.len c.n.cap, .slice c.g.ao c.g.len c.g.cap, .slice (some ⟨gg, 0, none⟩) c.fs.len c7] 28
  row : ∀ i, i < c.fs.len → u.rangeAt gg (0 + i * 18) (oneX c R r i).vs
  bO : Blk u R r.vs 58
theorem Fq.kept {w : World} {c : Kl} {r : Rn} {D gg c7 R : Nat} {u u' : World} (h : Fq w c r D gg c7 R u) (hb : Below u.heap.size u u') : Fq w c r D gg c7 R u' := ⟨h.fg.kept hb, h.bD.kept hb, fun i hi => range_kept (h.row i hi) hb, h.bO.kept hb⟩
def Fq.d (c : Kl) (r : Rn) (gg c7 R : Nat) : Kl := ⟨c.n, c.g, ⟨some ⟨gg, 0, none⟩, gg, 0, c.fs.len, c7, oneX c R r⟩⟩
theorem Fq.at_ {w : World} {c : Kl} {r : Rn} {D gg c7 R : Nat} {u : World} (h : Fq w c r D gg c7 R u) (hc : c.At w) (hr : r.At w) : (Fq.d c r gg c7 R).At u := by
  have hb := h.fg.bl
  refine ⟨hc.n.kept hb, hc.g.kept hb, ⟨fun _ => rfl, hc.fs.bound, h.row, fun i hi => ?_⟩⟩
  have hi' : i < c.fs.len := hi
  by_cases e : i = 0
  · subst e
    have h1 := (hc.fs.kept hb).each 0 hi'
    refine ⟨h1.p, h1.r, h1.c, h1.h, h1.e, h1.sl, h1.cd, h1.hd, h1.pt, ⟨fun _ => rfl, by show (1 : Nat) ≤ _; omega, fun j hj => ?_, fun _ _ => Rn.At.kept hb hr⟩⟩
    have hj0 : j = 0 := by have : j < 1 := hj; omega
    subst hj0
    exact h.bO.range
  · show (if i = 0 then (c.fs.x 0).one R r else c.fs.x i).At u
    rw [if_neg e]
    exact (hc.fs.kept hb).each i hi'
theorem Fq.make {w : World} {c : Kl} {r : Rn} {D gg c7 base : Nat} {u : World} (hfg : Fg w c r u) (hD : w.heap.size + 1 < D) (hDb : D < base) (bD : Blk u D [.slice c.n.ao c.n.len c.n.cap, .slice c.g.ao c.g.len c.g.cap, .slice (some ⟨gg, 0, none⟩) c.fs.len c7] 28) (ho : u.ownsRow base 43 18 (.slice (some ⟨gg, 0, none⟩) c.fs.len c7) c.fs.len (rowR Cf.vs c.fs)) (h0 : 0 < c.fs.len) :
    (∃ v, (u.alloc (.cells r.vs.toArray 58)).cell? ⟨gg, 17, none⟩ = some v) ∧ (u.alloc (.cells r.vs.toArray 58)).frozen? ⟨gg, 17, none⟩ = false ∧ Fq w c r D gg c7 u.heap.size ((u.alloc (.cells r.vs.toArray 58)).setCell ⟨gg, 17, none⟩ (.slice (some ⟨u.heap.size, 0, none⟩) 1 1)) := by
  obtain ⟨cur, hcur⟩ := own_blk ho (b := gg) rfl
  have hgb := owb ho (k := gg) rfl
  have bG : Blk u gg cur.toList 43 := by unfold Blk; rw [hcur, Array.toArray_toList]
  have BA := below_alloc u (.cells r.vs.toArray 58)
  have bG2 := bG.kept BA
  have W := wrote_cell (i := 17) bG2 (.slice (some ⟨u.heap.size, 0, none⟩) 1 1)
  have cell : ∀ i j v, i < c.fs.len → (c.fs.x i).vs[j]? = some v → (u.alloc (.cells r.vs.toArray 58)).cell? ⟨gg, 0 + i * 18 + j, none⟩ = some v := fun i j v hi hv => by
    have hj : j < 18 := by rw [← Cf.vs_len (c.fs.x i)]; exact (List.getElem?_eq_some_iff.1 hv).1
    have hlt : i * 18 + j < c.fs.len * 18 := by omega
    refine up BA ?_
    rw [Nat.zero_add, ho.cellAt (i * 18 + j) hlt]
    show (flatN (fun i => (c.fs.x i).vs) c.fs.len)[i * 18 + j]? = some v
    rw [flatN_get (fun i => Cf.vs_len (c.fs.x i)) c.fs.len i j hi hj]
    exact hv
  have hf2 := hfg.kept BA
  refine ⟨⟨_, cell 0 17 _ h0 rfl⟩, bG2.frozen 17, ⟨⟨W.below (by omega) hf2.bl, W.keep hf2.bC (by omega), W.keep hf2.bR (by omega)⟩, W.keep (bD.kept BA) (by omega), fun i hi j v hv => ?_, W.keep (Blk.new u r.vs 58) (by omega)⟩⟩
  by_cases e : i = 0 ∧ j = 17
  · obtain ⟨rfl, rfl⟩ := e
    have hv2 : v = .slice (some ⟨u.heap.size, 0, none⟩) 1 1 := by
      have : (some (Value.slice (some ⟨u.heap.size, 0, none⟩) 1 1)) = some v := hv
      injection this with this
      exact this.symm
    subst hv2
    refine W.blk.cell 17 ?_
    have hs : 17 < cur.toList.length := by
      have h1 := bG2.cell 17 (v := cur.toList[17]?.getD undef)
      have h2 := cell 0 17 _ h0 rfl
      apply Classical.byContradiction
      intro hn
      have h3 : (u.alloc (.cells r.vs.toArray 58)).cell? ⟨gg, 17, none⟩ = none := by
        have h4 := bG2
        unfold Blk at h4
        simp only [World.cell?, h4]
        simp at hn
        simp [hn]
      rw [show 0 + 0 * 18 + 17 = 17 from rfl, h3] at h2
      cases h2
    rw [List.getElem?_set_self hs]
  · have hv2 : (c.fs.x i).vs[j]? = some v := by
      have hv3 : (if i = 0 then (c.fs.x 0).one u.heap.size r else c.fs.x i).vs[j]? = some v := hv
      by_cases e0 : i = 0
      · subst e0
        rw [if_pos rfl, Cf.one_vs, List.getElem?_set_ne (fun h => e ⟨rfl, h.symm⟩)] at hv3
        exact hv3
      · rw [if_neg e0] at hv3; exact hv3
    have hj : j < 18 := by rw [← Cf.vs_len (c.fs.x i)]; exact (List.getElem?_eq_some_iff.1 hv2).1
    rw [World.cell?_setCell_other _ _ _ _ (fun h => by injection h with _ h2; omega)]
    exact cell i j v hi hv2
end Go.Proofs.YtdplabhgdonbiaaDoor
