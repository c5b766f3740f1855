/- Rows of whatever, put one behind the other in memory of one's own; functions that come in. -/
import Derived.Test.YtdplabhgdonbiaaDoorP29
import Derived.Test.YtdplabhgdonbiaaDoorP14
import Derived.Laws.OwnMore
import Derived.Test.YtdplabhgdonbiaaDoorP27
import Derived.BigQuiet
import Derived.Deep.DeepCutAuto
namespace Go.Proofs.YtdplabhgdonbiaaDoor
open Go.ChangeShapes Go.WideShapes Go.ChangeAt Go.RowKit Go.Deep Go.Joins

def rowR {α : Type} (vs : α → List Value) (r : Rw α) : List Value := flatN (fun i => vs (r.x i)) r.len
theorem rowR_len {α : Type} {vs : α → List Value} {z : Nat} (hz : ∀ x, (vs x).length = z) (r : Rw α) : (rowR vs r).length = r.len * z := flatN_len (fun i => hz (r.x i)) r.len
theorem rowR_cell {α : Type} {vs : α → List Value} {z : Nat} (hz : ∀ x, (vs x).length = z) (hp : 0 < z) {A : World → α → Prop} {w : World} {r : Rw α} (h : Rw.At z vs A w r) : ∀ a, r.ao = some a → ∀ j u, (rowR vs r)[j]? = some u → w.cell? (a.add j) = some u := fun a ha j u hj => by
  have hlt : j < r.len * z := by rw [← rowR_len hz r]; exact (List.getElem?_eq_some_iff.1 hj).1
  have h0 : 0 < r.len := by
    rcases Nat.eq_zero_or_pos r.len with e | e
    · rw [e, Nat.zero_mul] at hlt; omega
    · exact e
  rw [h.nil h0] at ha
  injection ha with ha
  subst ha
  exact flatN_cell (fun i => hz (r.x i)) hp h.row j u hj
theorem rowR_one {α : Type} {vs : α → List Value} (h1 : ∀ x, (vs x).all (·.oneCell') = true) (r : Rw α) : ∀ u ∈ rowR vs r, u.oneCell' = true := fun u hu => by
  obtain ⟨i, _, h⟩ := flatN_mem r.len hu
  exact List.all_eq_true.1 (h1 (r.x i)) u h
theorem Rw.of_own {α : Type} {vs : α → List Value} {z : Nat} (hz : ∀ x, (vs x).length = z) {A : World → α → Prop} {w : World} {base : Nat} {e : TypeId} {v : Value} {n : Nat} {F : Nat → α} (h : w.ownsRow base e z v n (flatN (fun i => vs (F i)) n)) (hb : n ≤ 9223372036854775807) (hA : ∀ i, i < n → A w (F i)) : ∃ r : Rw α, v = .slice r.ao r.len r.cap ∧ Rw.At z vs A w r ∧ r.len = n ∧ r.x = F := by
  obtain ⟨hl, ⟨rfl, rfl⟩ | ⟨g, cap, cur, rfl, hg, hh, hr⟩⟩ := h
  · exact ⟨⟨none, 0, 0, 0, 0, F⟩, rfl, ⟨fun h => absurd h (Nat.lt_irrefl _), Nat.zero_le _, fun _ h => absurd h (Nat.not_lt_zero _), fun _ h => absurd h (Nat.not_lt_zero _)⟩, rfl, rfl⟩
  · have ho : w.ownsRow base e z (.slice (some ⟨g, 0, none⟩) n cap) n (flatN (fun i => vs (F i)) n) := ⟨hl, Or.inr ⟨g, cap, cur, rfl, hg, hh, hr⟩⟩
    refine ⟨⟨some ⟨g, 0, none⟩, g, 0, n, cap, F⟩, rfl, ⟨fun _ => rfl, hb, fun i hi => ?_, hA⟩, rfl, rfl⟩
    have hi' : i < n := hi
    intro j u hu
    have hj : j < z := by rw [← hz (F i)]; exact (List.getElem?_eq_some_iff.1 hu).1
    show w.cell? ⟨g, 0 + i * z + j, none⟩ = some u
    have hlt : i * z + j < n * z := by
      have : (i + 1) * z ≤ n * z := Nat.mul_le_mul_right z (by omega)
      rw [Nat.add_mul, Nat.one_mul] at this
      omega
    rw [Nat.zero_add, ho.cellAt (i * z + j) hlt]
    rw [flatN_get (fun i => hz (F i)) n i j hi' hj]
    exact hu
/-- Two rows, one behind the other. -/
def Rw.cat {α : Type} (r s : Rw α) : Nat → α := fun i => if i < r.len then r.x i else s.x (i - r.len)
theorem rowR_cat {α : Type} (vs : α → List Value) (r s : Rw α) : flatN (fun i => vs (Rw.cat r s i)) (r.len + s.len) = rowR vs r ++ rowR vs s := by
  have e : (fun i => vs (Rw.cat r s i)) = fun i => if i < r.len then vs (r.x i) else vs (s.x (i - r.len)) := by
    funext i
    show vs (if i < r.len then r.x i else s.x (i - r.len)) = _
    split <;> rfl
  rw [e, flatN_app (fun i => vs (r.x i)) (fun i => vs (s.x i)) r.len s.len]
  rfl
theorem Tryd.infoFn14 : (Tryd.prog.info? 43).map (fun i => (i.zero, i.size, i.bytes)) = some (some (.agg #[.int .i64 0, .int .i64 0, .slice none 0 0, .int .i64 0, .int .i64 0, .int .i64 0, .int .i64 0, .slice none 0 0, .int .i64 0, .int .i64 0, .slice none 0 0, .int .i64 0, .int .i64 0, .int .i64 0, .slice none 0 0, .slice none 0 0, .slice none 0 0, .slice none 0 0]), 18, 256) := by kernel_rfl

section
variable {H : Type} {enc : TypeId × Value → H} {W : World} {base : Nat}
set_option maxRecDepth 100000 in
theorem open_class_nil {x y : Value} {ao : Option Addr} {len cap : Nat} {d : DataW H} {p : List MemPlace} (h : DataW.Trod enc Tryd.prog W base (fun _ => true) true 28 (.agg #[x, y, .slice ao len cap]) d p) : ao = none → len = 0 ∧ cap = 0 := by
  obtain ⟨fuel, hf⟩ := h
  have hf' : DataW.trod enc Tryd.prog W base (fun _ => true) true fuel 28 [x, y, .slice ao len cap] = some (d, p) := by simpa [Value.cells] using hf
  obtain ⟨n, _, hg⟩ := kfields Tryd.underlying28 hf'
  obtain ⟨z1, g1⟩ := hg 1 _ rfl
  have f1 : DataW.trod enc Tryd.prog W base (fun _ => true) true n 26 [.slice ao len cap] = some z1 := by simpa [Tryd.kFns] using g1
  rcases kslice Tryd.underlying26 Tryd.kFn f1 with e | ⟨a, len', cap', e, _, _⟩
  · injection e with e1 e2 e3
    exact fun _ => ⟨e2, e3⟩
  · injection e with e1 _ _
    intro h
    rw [h] at e1
    cases e1
set_option maxRecDepth 100000 in
theorem open_funcs {v : Value} {d : DataW H} {p : List MemPlace} {b0 : Nat} (hv : Value.okWide Tryd.prog W .any b0 26 v) (h : DataW.Trod enc Tryd.prog W base (fun _ => true) true 26 v d p) :
    ∃ r : Rw Cf, v = .slice r.ao r.len r.cap ∧ (CfsAt W r ∧ (r.ao = none → r.len = 0 ∧ r.cap = 0)) := by
  obtain ⟨fuel, hf⟩ := h
  obtain ⟨ao, len, cap, rfl, _⟩ := okWide_slice Tryd.underlying26 hv
  have hf' : DataW.trod enc Tryd.prog W base (fun _ => true) true fuel 26 [.slice ao len cap] = some (d, p) := by simpa [Value.cells] using hf
  have hn : ao = none → len = 0 ∧ cap = 0 := by
    rcases kslice Tryd.underlying26 Tryd.kFn hf' with e | ⟨a, len', cap', e, _, _⟩
    · injection e with e1 e2 e3
      exact fun _ => ⟨e2, e3⟩
    · injection e with e1 _ _
      intro h
      rw [h] at e1
      cases e1
  obtain ⟨r, hr, hA⟩ := kopen_cfs hf'
  injection hr with e1 e2 e3
  subst e1 e2 e3
  exact ⟨r, rfl, hA, hn⟩
end
end Go.Proofs.YtdplabhgdonbiaaDoor

/- Layer 14: the statement FormJumps, walked. -/
namespace Go.Proofs.YtdplabhgdonbiaaDoor
open Go Go.RowKit

def jnV (op a : Int) : List Value := [.int .i64 op, .int .i64 a, .int .i64 0, .int .i64 0, .slice none 0 0, .int .i64 0, .int .i64 0]
theorem Tryd.infoIn : (Tryd.prog.info? 48).map (fun i => (i.zero, i.size, i.bytes)) = some (some (.agg #[.int .i64 0, .int .i64 0, .int .i64 0, .int .i64 0, .slice none 0 0, .int .i64 0, .int .i64 0]), 7, 72) := by kernel_rfl
theorem jnV_one (op a : Int) : ∀ u ∈ jnV op a, u.oneCell' = true := by
  intro x hx
  simp only [jnV, List.mem_cons, List.not_mem_nil, or_false] at hx
  rcases hx with rfl | rfl | rfl | rfl | rfl | rfl | rfl <;> rfl
theorem new_cells {w : World} {cs : List Value} {t : TypeId} : ∀ a, (some ⟨w.heap.size, 0, none⟩ : Option Addr) = some a → ∀ j u, cs[j]? = some u → (w.alloc (.cells cs.toArray t)).cell? (a.add j) = some u := fun a ha j u hu => by
  injection ha with ha
  subst ha
  rw [adp, Nat.zero_add]
  exact (Blk.new w cs t).cell j hu

theorem code_cells {u : World} {base : Nat} {a7 : Option Addr} {j c7 p : Nat} {op t : Int} (h : u.ownsRow base 48 7 (.slice a7 j c7) j (flatN (fun _ => jnV op t) j)) (hp : p ≤ j) {x : Addr} (hx : a7 = some x) {q : Nat} {v : Value} (hq : (flatN (fun _ => jnV op t) p)[q]? = some v) : u.cell? (x.add q) = some v := by
  obtain ⟨hl, ⟨h1, h2⟩ | ⟨gg, cap, cur, h1, hr⟩⟩ := h
  · injection h1 with h1
    rw [h1] at hx; cases hx
  · have h1' := h1
    injection h1 with h1
    rw [h1] at hx
    injection hx with hx
    subst hx
    have ho : u.ownsRow base 48 7 (.slice (some ⟨gg, 0, none⟩) j cap) j (flatN (fun _ => jnV op t) j) := ⟨hl, Or.inr ⟨gg, cap, cur, rfl, hr⟩⟩
    have hlt : q < p * 7 := by rw [← flatN_len (f := fun _ => jnV op t) (c := 7) (fun _ => rfl) p]; exact (List.getElem?_eq_some_iff.1 hq).1
    rw [adp, Nat.zero_add, ho.cellAt q (by omega)]
    have e : q = q / 7 * 7 + q % 7 := by omega
    rw [e, flatN_get (f := fun _ => jnV op t) (c := 7) (fun _ => rfl) p (q / 7) (q % 7) (by omega) (by omega)] at hq
    rw [e, flatN_get (f := fun _ => jnV op t) (c := 7) (fun _ => rfl) j (q / 7) (q % 7) (by omega) (by omega)]
    exact hq

theorem addr_two (y : Addr) (a b : Nat) : (y.add a).add b = y.add (a + b) := Go.Deep.add_add y a b
theorem code_cells2 {u : World} {base : Nat} {a7 : Option Addr} {j c7 p : Nat} {op t : Int} (h : u.ownsRow base 48 7 (.slice a7 j c7) j (flatN (fun _ => jnV op t) j)) (hp : p ≤ j) (hjc : j ≤ c7) {x : Addr} (hx : (if c7 = p then a7 else Option.map (fun x => x.add (p * 7)) a7) = some x) {q : Nat} {v : Value} (hq : (flatN (fun _ => jnV op t) (j - p))[q]? = some v) : u.cell? (x.add q) = some v := by
  by_cases e : c7 = p
  · rw [show j - p = 0 by omega] at hq
    cases hq
  · rw [if_neg e] at hx
    obtain ⟨y, hy, rfl⟩ := Option.map_eq_some_iff.1 hx
    rw [show (y.add (p * 7)).add q = y.add (p * 7 + q) from addr_two y (p * 7) q]
    have hlt : q < (j - p) * 7 := by rw [← flatN_len (f := fun _ => jnV op t) (c := 7) (fun _ => rfl) (j - p)]; exact (List.getElem?_eq_some_iff.1 hq).1
    refine code_cells h (Nat.le_refl _) hy ?_
    have e1 : q = q / 7 * 7 + q % 7 := by omega
    rw [e1, flatN_get (f := fun _ => jnV op t) (c := 7) (fun _ => rfl) (j - p) (q / 7) (q % 7) (by omega) (by omega)] at hq
    have e2 : p * 7 + q = (p + q / 7) * 7 + q % 7 := by omega
    rw [e2, flatN_get (f := fun _ => jnV op t) (c := 7) (fun _ => rfl) j (p + q / 7) (q % 7) (by omega) (by omega)]
    exact hq
def iJ (op a : Int) : In := ⟨op, a, leafT 0 0⟩
theorem iJ_vs (op a : Int) : (iJ op a).vs = jnV op a := rfl
/-- The instructions: p OpInts, the jump, the other OpInts, the OpReturn. -/
def jG (p j : Nat) (op t : Int) : Nat → In := fun i => if i < p + 1 + (j - p) then (if i < p + 1 then (if i < p then iJ 1 t else iJ op t) else iJ 1 t) else iJ 27 0
theorem jG_flat (p j : Nat) (op t : Int) : flatN (fun i => (jG p j op t i).vs) (p + 1 + (j - p) + 1) = ((flatN (fun _ => jnV 1 t) p ++ jnV op t) ++ flatN (fun _ => jnV 1 t) (j - p)) ++ jnV 27 0 := by
  have e : (fun i => (jG p j op t i).vs) = fun i => if i < p + 1 + (j - p) then (if i < p + 1 then (if i < p then jnV 1 t else jnV op t) else jnV 1 t) else jnV 27 0 := by
    funext i
    show (if i < p + 1 + (j - p) then (if i < p + 1 then (if i < p then iJ 1 t else iJ op t) else iJ 1 t) else iJ 27 0).vs = _
    split
    · split
      · split <;> rfl
      · rfl
    · rfl
  rw [e, flatN_snoc, flatN_app (fun i => if i < p then jnV 1 t else jnV op t) (fun _ => jnV 1 t) (p + 1) (j - p), flatN_snoc]
theorem jG_cases (p j : Nat) (op t : Int) (i : Nat) : (i ≠ p ∧ i < p + 1 + (j - p) ∧ jG p j op t i = iJ 1 t) ∨ (i = p ∧ jG p j op t i = iJ op t) ∨ (p + 1 + (j - p) ≤ i ∧ jG p j op t i = iJ 27 0) := by
  unfold jG
  by_cases h1 : i < p + 1 + (j - p)
  · rw [if_pos h1]
    by_cases h2 : i < p + 1
    · rw [if_pos h2]
      by_cases h3 : i < p
      · rw [if_pos h3]; exact Or.inl ⟨by omega, h1, rfl⟩
      · rw [if_neg h3]; exact Or.inr (Or.inl ⟨by omega, rfl⟩)
    · rw [if_neg h2]; exact Or.inl ⟨by omega, h1, rfl⟩
  · rw [if_neg h1]; exact Or.inr (Or.inr ⟨by omega, rfl⟩)
theorem iJ_at {op a : Int} (h1 : I64 op) (h2 : I64 a) (w : World) : (iJ op a).At w := ⟨h1, h2, leaf_at _ _ _⟩
theorem jG_fm {p j : Nat} {op t : Int} (ho : op = 24 ∨ op = 25) (ht : 0 ≤ t ∧ t ≤ 65535) (i : Nat) : (jG p j op t i).fm 1 = true := by
  have sh : shB t = true := by unfold shB; rw [decide_eq_true ht.1, decide_eq_true ht.2]; rfl
  rcases jG_cases p j op t i with ⟨_, _, h⟩ | ⟨_, h⟩ | ⟨_, h⟩
  · rw [h]; rfl
  · rw [h]
    rcases ho with rfl | rfl
    · show ((decide ((1 : Int) ≤ 24) && decide ((24 : Int) ≤ 27)) && ((leafT 0 0).zr && shB t)) = true
      rw [sh]; rfl
    · show ((decide ((1 : Int) ≤ 25) && decide ((25 : Int) ≤ 27)) && ((leafT 0 0).zr && shB t)) = true
      rw [sh]; rfl
  · rw [h]; rfl
theorem jG_at {p j : Nat} {op t : Int} (ho : op = 24 ∨ op = 25) (ht : 0 ≤ t ∧ t ≤ 65535) (w : World) (i : Nat) : (jG p j op t i).At w := by
  have h64 : ∀ x : Int, 0 ≤ x → x ≤ 65535 → I64 x := fun x h1 h2 => (show (-9223372036854775808 : Int) ≤ x ∧ x ≤ 9223372036854775807 by omega)
  rcases jG_cases p j op t i with ⟨_, _, h⟩ | ⟨_, h⟩ | ⟨_, h⟩
  · rw [h]; exact iJ_at (h64 1 (by omega) (by omega)) (h64 t ht.1 ht.2) w
  · rw [h]; exact iJ_at (h64 op (by omega) (by omega)) (h64 t ht.1 ht.2) w
  · rw [h]; exact iJ_at (h64 27 (by omega) (by omega)) (h64 0 (by omega) (by omega)) w
theorem jG_cod {p j : Nat} {op t : Int} (ho : op = 24 ∨ op = 25) {cd : Rw In} {pt : Rw Pt} (hl : cd.len = p + 1 + (j - p) + 1) (hx : cd.x = jG p j op t) : (lFn cd pt).codB 1 1 = (decide ((p : Int) < t) && decide (t < (cd.len : Int))) := by
  have hlast : lastB ((lFn cd pt).cd.x ((lFn cd pt).cd.len - 1)).op = true := by
    show lastB (cd.x (cd.len - 1)).op = true
    rw [hx, hl]
    rcases jG_cases p j op t (p + 1 + (j - p) + 1 - 1) with ⟨_, h1, _⟩ | ⟨h1, _⟩ | ⟨_, h⟩
    · omega
    · omega
    · rw [h]; rfl
  have hall : (lFn cd pt).codA 1 1 = btw t ((p : Int) + 1) cd.len := by
    have each : ∀ i, i < cd.len → (cd.x i).nhB 1 1 1 cd.len i = if i = p then btw t ((p : Int) + 1) cd.len else true := fun i hi => by
      rw [hx]
      rcases jG_cases p j op t i with ⟨h0, _, h⟩ | ⟨h0, h⟩ | ⟨h0, h⟩
      · rw [h, if_neg h0]; rfl
      · subst h0
        rw [h, if_pos rfl]
        unfold In.nhB
        have : (iJ op t).op = op := rfl
        rw [this, if_neg (by omega), if_neg (by omega), if_neg (by omega), if_pos ho]
        rfl
      · rw [h, if_neg (by omega)]; rfl
    show decide (∀ i, i < cd.len → (cd.x i).nhB 1 1 1 cd.len i = true) = _
    cases hb : btw t ((p : Int) + 1) cd.len
    · refine decide_eq_false (fun hh => ?_)
      have h1 := hh p (by omega)
      rw [each p (by omega), if_pos rfl, hb] at h1
      cases h1
    · refine decide_eq_true (fun i hi => ?_)
      rw [each i hi]
      split
      · exact hb
      · rfl
  unfold Cf.codB
  rw [hall, hlast, Bool.and_true]
  unfold btw
  congr 1

set_option maxRecDepth 100000 in
set_option maxHeartbeats 16000000 in
theorem formJumps_any (n a : Nat) (to_ : Int) (un : Bool) (w : World) (hn : n ≤ 255) (ha : a ≤ 255) (_ht : I64 to_) (hO : Og w) : Calls Tryd.prog 7 #[.agg #[.int .u8 n, .int .u8 a], .int .i64 to_, .bool un] w fun e w' => e = .returned (.bool true) ∧ Below w.heap.size w w' := by
  have B0 := below_alloc w (.cells #[.int .u8 n, .int .u8 a] 53)
  have b := Blk.new w [.int .u8 n, .int .u8 a] 53
  have HO := hyd hO
  have HB0 := hyd B0
  have c0 := b.cell 0 rfl
  have c1 := b.cell 1 rfl
  clear B0 b hO
  generalize hw0 : w.alloc (.cells #[.int .u8 n, .int .u8 a] 53) = u0 at *
  go_enter Tryd.func7, Tryd.ntmps7
  go_upto_region 1 with fail
  go_quiet (fail)
  have HB1 := hyd (Below.next HB0.out (below_drewN (Below.refl _ _) nq))
  clear c0 c1 hw0 HB0
  generalize u0.drewN nq = u1 at *
  have h0 := awake14_any u1 (HO.out.kept HB1.out)
  go_wp2_with fail
  refine h0.mono ?_
  rintro _ u2 ⟨rfl, hb⟩
  have HB2 := hyd (Below.next HB1.out hb)
  clear h0 hb HB1
  by_cases t1 : to_ < 0
  · have h0 := awake14_any u2 (HO.out.kept HB2.out)
    go_wp2_with fail
    refine h0.mono ?_
    rintro _ u3 ⟨rfl, hb⟩
    have HB3 := hyd (Below.next HB2.out hb)
    clear h0 hb
    go_wp2
    go_ret
    exact ⟨rfl, HB3.out⟩
  by_cases t2 : 65535 < to_
  · have h0 := awake14_any u2 (HO.out.kept HB2.out)
    go_wp2_with fail
    refine h0.mono ?_
    rintro _ u3 ⟨rfl, hb⟩
    have HB3 := hyd (Below.next HB2.out hb)
    clear h0 hb
    go_wp2
    go_ret
    exact ⟨rfl, HB3.out⟩
  have HT := hyd (show 0 ≤ to_ ∧ to_ ≤ 65535 from ⟨by omega, by omega⟩)

  go_upto_region 5 with fail
  clear t1 t2
  obtain ⟨k, hk⟩ : ∃ k : Nat, (n : Int) % 30 = k := ⟨n % 30, by omega⟩
  have k30 : k < 30 := by omega
  rw [hk]
  clear hk
  go_wp2
  go_loopw [10, 11] (fun v i wr => ∃ (j : Nat), j ≤ k ∧ i = .int .i64 j ∧ Below w.heap.size w wr ∧ wr.ownsRow w.heap.size 48 7 v j (flatN (fun _ => jnV 1 to_) j)) (fun _ i _ => k - (intOf i).toNat)
  case atStart => exact ⟨0, Nat.zero_le _, rfl, HB2.out, World.ownsRow_nil _ _ _ _⟩
  case round =>
    clear HB2
    obtain ⟨j, hj, rfl, hb, ho⟩ := hrel
    have HB := hyd hb
    have HR := hyd ho
    obtain ⟨a7, c7, hv⟩ := owform ho
    subst hv
    clear hb ho
    by_cases hlt : j < k
    · have ij : (j : Int) < k := by omega
      have hO : (wr.alloc (.cells #[.int .i64 1, .int .i64 to_, .int .i64 0, .int .i64 0, .slice none 0 0, .int .i64 0, .int .i64 0] 48)).ownsRow w.heap.size 48 7 (.slice a7 j c7) j (flatN (fun _ => jnV 1 to_) j) := owk HR.out (below_alloc _ _)
      go_wp2_with ((at_builtin; refine wpList_append_any Tryd.underlying38 Tryd.infoIn rfl (by decide) rfl _ _ rfl w.heap.size (.slice a7 j c7) j (flatN (fun _ => jnV 1 to_) j) rfl hO (some ⟨wr.heap.size, 0, none⟩) 1 1 (jnV 1 to_) rfl (fun h => by cases h) rfl (new_cells (cs := jnV 1 to_)) (jnV_one 1 to_) (by unfold maxLen; omega) (by omega) (by rw [alloc_size]; exact Nat.le_succ_of_le HB.out.size) ?_; intro v5 w5 h5 g5; have HN : Hid (Below w.heap.size w w5 ∧ w5.ownsRow w.heap.size 48 7 v5 (j + 1) (flatN (fun _ => jnV 1 to_) (j + 1))) := ⟨gb_bel (Below.next HB.out (below_alloc _ _)) g5 (fun q hq => (owb HR.out hq).1), h5⟩; clear h5 g5))
      go_roundw
      case rel => exact ⟨j + 1, by omega, by go_num, HN.out.1, HN.out.2⟩
      case measure => simp [intOf]; omega
    · have ej : j = k := by omega
      subst ej
      have dj : ¬ (j : Int) < j := by omega
      have hcap : j ≤ c7 := by
        obtain ⟨_, ⟨h1, h2⟩ | ⟨gg, cap, cur, h1, _, _, h3, _⟩⟩ := HR.out
        · omega
        · injection h1 with _ _ h4
          omega
      go_upto_region 11 with fail
      obtain ⟨p, hp⟩ : ∃ p : Nat, (a : Int) % ((j : Int) + 1) = p := ⟨((a : Int) % ((j : Int) + 1)).toNat, by have := Int.emod_nonneg (a : Int) (show (j : Int) + 1 ≠ 0 by omega); omega⟩
      have hpj : p ≤ j := by have := Int.emod_lt_of_pos (a : Int) (show (0 : Int) < (j : Int) + 1 by omega); omega
      rw [hp]
      clear hp dj ha hn hj
      cases un
      · go_upto_region 14 with fail
        have HJ2 : Hid (Below w.heap.size w (wr.alloc (.cells #[.int .i64 24, .int .i64 to_, .int .i64 0, .int .i64 0, .slice none 0 0, .int .i64 0, .int .i64 0] 48)) ∧ (wr.alloc (.cells #[.int .i64 24, .int .i64 to_, .int .i64 0, .int .i64 0, .slice none 0 0, .int .i64 0, .int .i64 0] 48)).ownsRow w.heap.size 48 7 (.slice a7 j c7) j (flatN (fun _ => jnV 1 to_) j) ∧ Blk (wr.alloc (.cells #[.int .i64 24, .int .i64 to_, .int .i64 0, .int .i64 0, .slice none 0 0, .int .i64 0, .int .i64 0] 48)) wr.heap.size (jnV 24 to_) 48) := ⟨Below.next HB.out (below_alloc _ _), owk HR.out (below_alloc _ _), Blk.new wr (jnV 24 to_) _⟩
        clear HR HB
        generalize wr.alloc (.cells #[.int .i64 24, .int .i64 to_, .int .i64 0, .int .i64 0, .slice none 0 0, .int .i64 0, .int .i64 0] 48) = u3 at *
        generalize wr.heap.size = JB at *
        have hE := World.ownsRow_nil u3 u3.heap.size 48 7
        have HN0 : Hid (a7 = none → j = 0 ∧ c7 = 0) := fun h => by
          obtain ⟨_, ⟨h1, h2⟩ | ⟨gg, cap, cur, h1, _⟩⟩ := HJ2.out.2.1
          · injection h1 with _ _ h3
            exact ⟨by omega, h3⟩
          · injection h1 with h1
            rw [h1] at h; cases h
        have HN1 : Hid (a7 = none → p = 0 ∧ c7 = 0) := fun h => ⟨by have := (HN0.out h).1; omega, (HN0.out h).2⟩
        have HC1 : Hid (∀ x, a7 = some x → ∀ q u, (flatN (fun _ => jnV 1 to_) p)[q]? = some u → u3.cell? (x.add q) = some u) := fun x hx q u hq => code_cells HJ2.out.2.1 hpj hx hq
        go_upto_region 16 with (at_builtin; refine wpList_append_any Tryd.underlying38 Tryd.infoIn rfl (by decide) rfl _ _ rfl u3.heap.size (.slice none 0 0) 0 [] rfl hE a7 p c7 (flatN (fun _ => jnV 1 to_) p) rfl HN1.out (flatN_len (fun _ => rfl) p) HC1.out (fun u hu => by obtain ⟨_, _, h⟩ := flatN_mem p hu; exact jnV_one 1 to_ u h) (by unfold maxLen; omega) (by omega) (Nat.le_refl _) ?_; intro v5 w5 h5 g5; have HA5 : Hid (Below u3.heap.size u3 w5 ∧ w5.ownsRow u3.heap.size 48 7 v5 p (flatN (fun _ => jnV 1 to_) p)) := ⟨gb_bel (Below.refl _ _) g5 (fun q hq => by cases hq), by rw [Nat.zero_add] at h5; exact h5⟩; obtain ⟨a5, c5, hv5⟩ := owform HA5.out.2; subst hv5; clear h5 g5)
        clear hE HC1 HN1
        have b0 := HJ2.out.2.2.kept HA5.out.1
        have x0 := b0.cell 0 rfl
        have x1 := b0.cell 1 rfl
        have x2 := b0.cell 2 rfl
        have x3 := b0.cell 3 rfl
        have x4 := b0.cell 4 rfl
        have x5 := b0.cell 5 rfl
        have x6 := b0.cell 6 rfl
        clear b0
        have hE : (w5.alloc (.cells #[.int .i64 24, .int .i64 to_, .int .i64 0, .int .i64 0, .slice none 0 0, .int .i64 0, .int .i64 0] 48)).ownsRow u3.heap.size 48 7 (.slice a5 p c5) p (flatN (fun _ => jnV 1 to_) p) := owk HA5.out.2 (below_alloc _ _)
        go_upto_region 17 with (at_builtin; refine wpList_append_any Tryd.underlying38 Tryd.infoIn rfl (by decide) rfl _ _ rfl u3.heap.size (.slice a5 p c5) p (flatN (fun _ => jnV 1 to_) p) rfl hE (some ⟨w5.heap.size, 0, none⟩) 1 1 (jnV 24 to_) rfl (fun h => by cases h) rfl (new_cells (cs := jnV 24 to_)) (jnV_one 24 to_) (by unfold maxLen; omega) (by omega) (by rw [alloc_size]; exact Nat.le_succ_of_le HA5.out.1.size) ?_; intro v6 w6 h6 g6; have HA6 : Hid (Below u3.heap.size u3 w6 ∧ w6.ownsRow u3.heap.size 48 7 v6 (p + 1) (flatN (fun _ => jnV 1 to_) p ++ jnV 24 to_)) := ⟨gb_bel (Below.next HA5.out.1 (below_alloc _ _)) g6 (fun q hq => (owb HA5.out.2 hq).1), h6⟩; obtain ⟨a6, c6, hv6⟩ := owform HA6.out.2; subst hv6; clear h6 g6)
        clear hE x0 x1 x2 x3 x4 x5 x6 HA5
        have hE := HA6.out.2
        have HN2 : Hid ((if c7 = p then a7 else Option.map (fun x => x.add (p * 7)) a7) = none → j - p = 0 ∧ c7 - p = 0) := fun h => by
          have h7 : a7 = none := by
            by_cases e : c7 = p
            · rw [if_pos e] at h; exact h
            · rw [if_neg e] at h; simpa using h
          have := HN0.out h7
          omega
        have HC2 : Hid (∀ x, (if c7 = p then a7 else Option.map (fun x => x.add (p * 7)) a7) = some x → ∀ q u, (flatN (fun _ => jnV 1 to_) (j - p))[q]? = some u → w6.cell? (x.add q) = some u) := fun x hx q u hq => code_cells2 (owk HJ2.out.2.1 HA6.out.1) hpj hcap hx hq
        go_upto_region 18 with (at_builtin; refine wpList_append_any Tryd.underlying38 Tryd.infoIn rfl (by decide) rfl _ _ rfl u3.heap.size (.slice a6 (p + 1) c6) (p + 1) (flatN (fun _ => jnV 1 to_) p ++ jnV 24 to_) rfl hE (if c7 = p then a7 else Option.map (fun x => x.add (p * 7)) a7) (j - p) (c7 - p) (flatN (fun _ => jnV 1 to_) (j - p)) rfl HN2.out (flatN_len (fun _ => rfl) (j - p)) HC2.out (fun u hu => by obtain ⟨_, _, h⟩ := flatN_mem (j - p) hu; exact jnV_one 1 to_ u h) (by unfold maxLen; omega) (by omega) HA6.out.1.size ?_; intro v7 w7 h7 g7; have HA7 : Hid (Below u3.heap.size u3 w7 ∧ w7.ownsRow u3.heap.size 48 7 v7 (p + 1 + (j - p)) ((flatN (fun _ => jnV 1 to_) p ++ jnV 24 to_) ++ flatN (fun _ => jnV 1 to_) (j - p))) := ⟨gb_bel HA6.out.1 g7 (fun q hq => (owb HA6.out.2 hq).1), h7⟩; obtain ⟨a8, c8, hv7⟩ := owform HA7.out.2; subst hv7; clear h7 g7)
        clear hE HN2 HC2 HA6 HN0
        generalize (if c7 = p then a7 else Option.map (fun x => x.add (p * 7)) a7) = A8 at *
        have hE : (w7.alloc (.cells #[.int .i64 27, .int .i64 0, .int .i64 0, .int .i64 0, .slice none 0 0, .int .i64 0, .int .i64 0] 48)).ownsRow u3.heap.size 48 7 (.slice a8 (p + 1 + (j - p)) c8) (p + 1 + (j - p)) ((flatN (fun _ => jnV 1 to_) p ++ jnV 24 to_) ++ flatN (fun _ => jnV 1 to_) (j - p)) := owk HA7.out.2 (below_alloc _ _)
        go_upto_region 19 with (at_builtin; refine wpList_append_any Tryd.underlying38 Tryd.infoIn rfl (by decide) rfl _ _ rfl u3.heap.size (.slice a8 (p + 1 + (j - p)) c8) (p + 1 + (j - p)) ((flatN (fun _ => jnV 1 to_) p ++ jnV 24 to_) ++ flatN (fun _ => jnV 1 to_) (j - p)) rfl hE (some ⟨w7.heap.size, 0, none⟩) 1 1 (jnV 27 0) rfl (fun h => by cases h) rfl (new_cells (cs := jnV 27 0)) (jnV_one 27 0) (by unfold maxLen; omega) (by omega) (by rw [alloc_size]; exact Nat.le_succ_of_le HA7.out.1.size) ?_; intro v8 w8 h8 g8; have HA8 : Hid (Below u3.heap.size u3 w8 ∧ w8.ownsRow u3.heap.size 48 7 v8 (p + 1 + (j - p) + 1) (((flatN (fun _ => jnV 1 to_) p ++ jnV 24 to_) ++ flatN (fun _ => jnV 1 to_) (j - p)) ++ jnV 27 0)) := ⟨gb_bel (Below.next HA7.out.1 (below_alloc _ _)) g8 (fun q hq => (owb HA7.out.2 hq).1), h8⟩; obtain ⟨a9, c9, hv8⟩ := owform HA8.out.2; subst hv8; clear h8 g8)
        clear hE HA7
        have HD8 : Hid (∃ r : Rw In, (.slice a9 (p + 1 + (j - p) + 1) c9 : Value) = .slice r.ao r.len r.cap ∧ InsAt w8 r ∧ r.len = p + 1 + (j - p) + 1 ∧ r.x = jG p j 24 to_) := by
          refine Rw.of_own (vs := In.vs) (z := 7) (fun _ => rfl) (base := u3.heap.size) (e := 48) ?_ (by omega) (fun i _ => jG_at (by omega) HT.out w8 i)
          rw [jG_flat]
          exact HA8.out.2
        obtain ⟨cd, hcd, hA, hlen, hxx⟩ := HD8.out
        clear HD8
        injection hcd with q1 q2 q3
        subst q1 q3
        rw [q2]
        have HBW := hyd (Below.next HJ2.out.1 HA8.out.1)
        have HCL := hyd (show cd.len = p + 1 + (j - p) + 1 ∧ cd.x = jG p j 24 to_ from ⟨hlen, hxx⟩)
        have h1 := little14_any cd w8 hA (by omega)
        have hc40 : cd.len ≤ 40 := by omega
        clear hA hlen hxx q2 HA8 HJ2 hcap hpj
        go_wp2_with fail
        refine Calls.mono h1 ?_
        rintro _ w9 ⟨n', g', b', pt, rfl, hL, hC, ⟨hpt, hpf⟩, hb9⟩
        have HB9 := hyd (Below.next HBW.out hb9)
        have h2 := lit_check n' g' b' cd pt w9 hL hC (HO.out.kept HB9.out) hpt hpf (by have := HCL.out.1; omega) (by omega) (fun i _ => by rw [HCL.out.2]; exact jG_fm (by omega) HT.out i)
        rw [jG_cod (by omega) HCL.out.1 HCL.out.2] at h2
        clear h1 hL hC hpt hpf hb9 HBW HCL
        by_cases m1 : (p : Int) < to_
        · by_cases m2 : to_ < (cd.len : Int)
          · rw [decide_eq_true m1, decide_eq_true m2] at h2
            have e1 := decide_eq_true m1
            have e2 := decide_eq_true m2
            go_wp2_with fail
            refine Calls.mono h2 ?_
            rintro e w10 ⟨⟨k', rfl⟩, hb10⟩
            have HB10 := hyd (Below.next HB9.out hb10)
            clear h2 hb10
            go_wp2
            go_ret
            exact ⟨rfl, HB10.out⟩
          · rw [decide_eq_true m1, decide_eq_false m2] at h2
            have e1 := decide_eq_true m1
            have e2 := decide_eq_false m2
            go_wp2_with fail
            refine Calls.mono h2 ?_
            rintro e w10 ⟨⟨k', rfl⟩, hb10⟩
            have HB10 := hyd (Below.next HB9.out hb10)
            clear h2 hb10
            go_wp2
            go_ret
            exact ⟨rfl, HB10.out⟩
        · rw [decide_eq_false m1] at h2
          have e1 := decide_eq_false m1
          go_wp2_with fail
          refine Calls.mono h2 ?_
          rintro e w10 ⟨⟨k', rfl⟩, hb10⟩
          have HB10 := hyd (Below.next HB9.out hb10)
          clear h2 hb10
          go_wp2
          go_ret
          exact ⟨rfl, HB10.out⟩
      · go_upto_region 14 with fail
        have HJ2 : Hid (Below w.heap.size w (wr.alloc (.cells #[.int .i64 25, .int .i64 to_, .int .i64 0, .int .i64 0, .slice none 0 0, .int .i64 0, .int .i64 0] 48)) ∧ (wr.alloc (.cells #[.int .i64 25, .int .i64 to_, .int .i64 0, .int .i64 0, .slice none 0 0, .int .i64 0, .int .i64 0] 48)).ownsRow w.heap.size 48 7 (.slice a7 j c7) j (flatN (fun _ => jnV 1 to_) j) ∧ Blk (wr.alloc (.cells #[.int .i64 25, .int .i64 to_, .int .i64 0, .int .i64 0, .slice none 0 0, .int .i64 0, .int .i64 0] 48)) wr.heap.size (jnV 25 to_) 48) := ⟨Below.next HB.out (below_alloc _ _), owk HR.out (below_alloc _ _), Blk.new wr (jnV 25 to_) _⟩
        clear HR HB
        generalize wr.alloc (.cells #[.int .i64 25, .int .i64 to_, .int .i64 0, .int .i64 0, .slice none 0 0, .int .i64 0, .int .i64 0] 48) = u3 at *
        generalize wr.heap.size = JB at *
        have hE := World.ownsRow_nil u3 u3.heap.size 48 7
        have HN0 : Hid (a7 = none → j = 0 ∧ c7 = 0) := fun h => by
          obtain ⟨_, ⟨h1, h2⟩ | ⟨gg, cap, cur, h1, _⟩⟩ := HJ2.out.2.1
          · injection h1 with _ _ h3
            exact ⟨by omega, h3⟩
          · injection h1 with h1
            rw [h1] at h; cases h
        have HN1 : Hid (a7 = none → p = 0 ∧ c7 = 0) := fun h => ⟨by have := (HN0.out h).1; omega, (HN0.out h).2⟩
        have HC1 : Hid (∀ x, a7 = some x → ∀ q u, (flatN (fun _ => jnV 1 to_) p)[q]? = some u → u3.cell? (x.add q) = some u) := fun x hx q u hq => code_cells HJ2.out.2.1 hpj hx hq
        go_upto_region 16 with (at_builtin; refine wpList_append_any Tryd.underlying38 Tryd.infoIn rfl (by decide) rfl _ _ rfl u3.heap.size (.slice none 0 0) 0 [] rfl hE a7 p c7 (flatN (fun _ => jnV 1 to_) p) rfl HN1.out (flatN_len (fun _ => rfl) p) HC1.out (fun u hu => by obtain ⟨_, _, h⟩ := flatN_mem p hu; exact jnV_one 1 to_ u h) (by unfold maxLen; omega) (by omega) (Nat.le_refl _) ?_; intro v5 w5 h5 g5; have HA5 : Hid (Below u3.heap.size u3 w5 ∧ w5.ownsRow u3.heap.size 48 7 v5 p (flatN (fun _ => jnV 1 to_) p)) := ⟨gb_bel (Below.refl _ _) g5 (fun q hq => by cases hq), by rw [Nat.zero_add] at h5; exact h5⟩; obtain ⟨a5, c5, hv5⟩ := owform HA5.out.2; subst hv5; clear h5 g5)
        clear hE HC1 HN1
        have b0 := HJ2.out.2.2.kept HA5.out.1
        have x0 := b0.cell 0 rfl
        have x1 := b0.cell 1 rfl
        have x2 := b0.cell 2 rfl
        have x3 := b0.cell 3 rfl
        have x4 := b0.cell 4 rfl
        have x5 := b0.cell 5 rfl
        have x6 := b0.cell 6 rfl
        clear b0
        have hE : (w5.alloc (.cells #[.int .i64 25, .int .i64 to_, .int .i64 0, .int .i64 0, .slice none 0 0, .int .i64 0, .int .i64 0] 48)).ownsRow u3.heap.size 48 7 (.slice a5 p c5) p (flatN (fun _ => jnV 1 to_) p) := owk HA5.out.2 (below_alloc _ _)
        go_upto_region 17 with (at_builtin; refine wpList_append_any Tryd.underlying38 Tryd.infoIn rfl (by decide) rfl _ _ rfl u3.heap.size (.slice a5 p c5) p (flatN (fun _ => jnV 1 to_) p) rfl hE (some ⟨w5.heap.size, 0, none⟩) 1 1 (jnV 25 to_) rfl (fun h => by cases h) rfl (new_cells (cs := jnV 25 to_)) (jnV_one 25 to_) (by unfold maxLen; omega) (by omega) (by rw [alloc_size]; exact Nat.le_succ_of_le HA5.out.1.size) ?_; intro v6 w6 h6 g6; have HA6 : Hid (Below u3.heap.size u3 w6 ∧ w6.ownsRow u3.heap.size 48 7 v6 (p + 1) (flatN (fun _ => jnV 1 to_) p ++ jnV 25 to_)) := ⟨gb_bel (Below.next HA5.out.1 (below_alloc _ _)) g6 (fun q hq => (owb HA5.out.2 hq).1), h6⟩; obtain ⟨a6, c6, hv6⟩ := owform HA6.out.2; subst hv6; clear h6 g6)
        clear hE x0 x1 x2 x3 x4 x5 x6 HA5
        have hE := HA6.out.2
        have HN2 : Hid ((if c7 = p then a7 else Option.map (fun x => x.add (p * 7)) a7) = none → j - p = 0 ∧ c7 - p = 0) := fun h => by
          have h7 : a7 = none := by
            by_cases e : c7 = p
            · rw [if_pos e] at h; exact h
            · rw [if_neg e] at h; simpa using h
          have := HN0.out h7
          omega
        have HC2 : Hid (∀ x, (if c7 = p then a7 else Option.map (fun x => x.add (p * 7)) a7) = some x → ∀ q u, (flatN (fun _ => jnV 1 to_) (j - p))[q]? = some u → w6.cell? (x.add q) = some u) := fun x hx q u hq => code_cells2 (owk HJ2.out.2.1 HA6.out.1) hpj hcap hx hq
        go_upto_region 18 with (at_builtin; refine wpList_append_any Tryd.underlying38 Tryd.infoIn rfl (by decide) rfl _ _ rfl u3.heap.size (.slice a6 (p + 1) c6) (p + 1) (flatN (fun _ => jnV 1 to_) p ++ jnV 25 to_) rfl hE (if c7 = p then a7 else Option.map (fun x => x.add (p * 7)) a7) (j - p) (c7 - p) (flatN (fun _ => jnV 1 to_) (j - p)) rfl HN2.out (flatN_len (fun _ => rfl) (j - p)) HC2.out (fun u hu => by obtain ⟨_, _, h⟩ := flatN_mem (j - p) hu; exact jnV_one 1 to_ u h) (by unfold maxLen; omega) (by omega) HA6.out.1.size ?_; intro v7 w7 h7 g7; have HA7 : Hid (Below u3.heap.size u3 w7 ∧ w7.ownsRow u3.heap.size 48 7 v7 (p + 1 + (j - p)) ((flatN (fun _ => jnV 1 to_) p ++ jnV 25 to_) ++ flatN (fun _ => jnV 1 to_) (j - p))) := ⟨gb_bel HA6.out.1 g7 (fun q hq => (owb HA6.out.2 hq).1), h7⟩; obtain ⟨a8, c8, hv7⟩ := owform HA7.out.2; subst hv7; clear h7 g7)
        clear hE HN2 HC2 HA6 HN0
        generalize (if c7 = p then a7 else Option.map (fun x => x.add (p * 7)) a7) = A8 at *
        have hE : (w7.alloc (.cells #[.int .i64 27, .int .i64 0, .int .i64 0, .int .i64 0, .slice none 0 0, .int .i64 0, .int .i64 0] 48)).ownsRow u3.heap.size 48 7 (.slice a8 (p + 1 + (j - p)) c8) (p + 1 + (j - p)) ((flatN (fun _ => jnV 1 to_) p ++ jnV 25 to_) ++ flatN (fun _ => jnV 1 to_) (j - p)) := owk HA7.out.2 (below_alloc _ _)
        go_upto_region 19 with (at_builtin; refine wpList_append_any Tryd.underlying38 Tryd.infoIn rfl (by decide) rfl _ _ rfl u3.heap.size (.slice a8 (p + 1 + (j - p)) c8) (p + 1 + (j - p)) ((flatN (fun _ => jnV 1 to_) p ++ jnV 25 to_) ++ flatN (fun _ => jnV 1 to_) (j - p)) rfl hE (some ⟨w7.heap.size, 0, none⟩) 1 1 (jnV 27 0) rfl (fun h => by cases h) rfl (new_cells (cs := jnV 27 0)) (jnV_one 27 0) (by unfold maxLen; omega) (by omega) (by rw [alloc_size]; exact Nat.le_succ_of_le HA7.out.1.size) ?_; intro v8 w8 h8 g8; have HA8 : Hid (Below u3.heap.size u3 w8 ∧ w8.ownsRow u3.heap.size 48 7 v8 (p + 1 + (j - p) + 1) (((flatN (fun _ => jnV 1 to_) p ++ jnV 25 to_) ++ flatN (fun _ => jnV 1 to_) (j - p)) ++ jnV 27 0)) := ⟨gb_bel (Below.next HA7.out.1 (below_alloc _ _)) g8 (fun q hq => (owb HA7.out.2 hq).1), h8⟩; obtain ⟨a9, c9, hv8⟩ := owform HA8.out.2; subst hv8; clear h8 g8)
        clear hE HA7
        have HD8 : Hid (∃ r : Rw In, (.slice a9 (p + 1 + (j - p) + 1) c9 : Value) = .slice r.ao r.len r.cap ∧ InsAt w8 r ∧ r.len = p + 1 + (j - p) + 1 ∧ r.x = jG p j 25 to_) := by
          refine Rw.of_own (vs := In.vs) (z := 7) (fun _ => rfl) (base := u3.heap.size) (e := 48) ?_ (by omega) (fun i _ => jG_at (by omega) HT.out w8 i)
          rw [jG_flat]
          exact HA8.out.2
        obtain ⟨cd, hcd, hA, hlen, hxx⟩ := HD8.out
        clear HD8
        injection hcd with q1 q2 q3
        subst q1 q3
        rw [q2]
        have HBW := hyd (Below.next HJ2.out.1 HA8.out.1)
        have HCL := hyd (show cd.len = p + 1 + (j - p) + 1 ∧ cd.x = jG p j 25 to_ from ⟨hlen, hxx⟩)
        have h1 := little14_any cd w8 hA (by omega)
        have hc40 : cd.len ≤ 40 := by omega
        clear hA hlen hxx q2 HA8 HJ2 hcap hpj
        go_wp2_with fail
        refine Calls.mono h1 ?_
        rintro _ w9 ⟨n', g', b', pt, rfl, hL, hC, ⟨hpt, hpf⟩, hb9⟩
        have HB9 := hyd (Below.next HBW.out hb9)
        have h2 := lit_check n' g' b' cd pt w9 hL hC (HO.out.kept HB9.out) hpt hpf (by have := HCL.out.1; omega) (by omega) (fun i _ => by rw [HCL.out.2]; exact jG_fm (by omega) HT.out i)
        rw [jG_cod (by omega) HCL.out.1 HCL.out.2] at h2
        clear h1 hL hC hpt hpf hb9 HBW HCL
        by_cases m1 : (p : Int) < to_
        · by_cases m2 : to_ < (cd.len : Int)
          · rw [decide_eq_true m1, decide_eq_true m2] at h2
            have e1 := decide_eq_true m1
            have e2 := decide_eq_true m2
            go_wp2_with fail
            refine Calls.mono h2 ?_
            rintro e w10 ⟨⟨k', rfl⟩, hb10⟩
            have HB10 := hyd (Below.next HB9.out hb10)
            clear h2 hb10
            go_wp2
            go_ret
            exact ⟨rfl, HB10.out⟩
          · rw [decide_eq_true m1, decide_eq_false m2] at h2
            have e1 := decide_eq_true m1
            have e2 := decide_eq_false m2
            go_wp2_with fail
            refine Calls.mono h2 ?_
            rintro e w10 ⟨⟨k', rfl⟩, hb10⟩
            have HB10 := hyd (Below.next HB9.out hb10)
            clear h2 hb10
            go_wp2
            go_ret
            exact ⟨rfl, HB10.out⟩
        · rw [decide_eq_false m1] at h2
          have e1 := decide_eq_false m1
          go_wp2_with fail
          refine Calls.mono h2 ?_
          rintro e w10 ⟨⟨k', rfl⟩, hb10⟩
          have HB10 := hyd (Below.next HB9.out hb10)
          clear h2 hb10
          go_wp2
          go_ret
          exact ⟨rfl, HB10.out⟩
end Go.Proofs.YtdplabhgdonbiaaDoor

/- A palisadelaw14.Jump that comes in. -/
namespace Go.Proofs.YtdplabhgdonbiaaDoor
open Go.ChangeShapes Go.WideShapes Go.ChangeAt Go.RowKit Go.Deep Go.Joins

theorem Tryd.kU8 : Tryd.prog.cellsOf 5 = 1 := by kernel_rfl
theorem Tryd.kJp : Tryd.prog.cellsOf 53 = 2 := by kernel_rfl
theorem wf_u8J {n : Int} (h : (Lit.int .u8 n).wf = true) : 0 ≤ n ∧ n < 256 := by
  have h' : IntKind.u8.min ≤ n ∧ n ≤ IntKind.u8.max := by simpa [Lit.wf] using h
  have e1 : IntKind.u8.min = 0 := by decide
  have e2 : IntKind.u8.max = 255 := by decide
  omega
section
variable {H : Type} {enc : TypeId × Value → H} {W : World} {base : Nat}
set_option maxRecDepth 100000 in
theorem kopen_jp (fuel : Nat) (cs : List Value) (x : DataW H × List MemPlace) (h : DataW.trod enc Tryd.prog W base (fun _ => true) true fuel 53 cs = some x) : ∃ n a : Nat, cs = [.int .u8 n, .int .u8 a] ∧ n ≤ 255 ∧ a ≤ 255 := by
  obtain ⟨n, hl, hf⟩ := kfields Tryd.underlying53 h
  rw [Tryd.kJp] at hl
  match cs, hl with
  | [c0, c1], _ =>
    obtain ⟨z0, g0⟩ := hf 0 _ rfl
    obtain ⟨z1, g1⟩ := hf 1 _ rfl
    have f0 : DataW.trod enc Tryd.prog W base (fun _ => true) true n 5 [c0] = some z0 := by simpa [Tryd.kU8] using g0
    have f1 : DataW.trod enc Tryd.prog W base (fun _ => true) true n 5 [c1] = some z1 := by simpa [Tryd.kU8] using g1
    obtain ⟨p, q0, _, w0⟩ := DataW.trod_int Tryd.underlying5 f0
    obtain ⟨q, q1, _, w1⟩ := DataW.trod_int Tryd.underlying5 f1
    simp only [List.cons.injEq, and_true] at q0 q1
    subst q0 q1
    have h0 := wf_u8J w0
    have h1 := wf_u8J w1
    refine ⟨p.toNat, q.toNat, ?_, by omega, by omega⟩
    rw [Int.toNat_of_nonneg h0.1, Int.toNat_of_nonneg h1.1]
set_option maxRecDepth 100000 in
theorem open_jump {v : Value} {d : DataW H} {p : List MemPlace} {b0 : Nat} (hv : Value.okWide Tryd.prog W .any b0 53 v) (h : DataW.Trod enc Tryd.prog W base (fun _ => true) true 53 v d p) :
    ∃ n a : Nat, v = .agg #[.int .u8 n, .int .u8 a] ∧ (n ≤ 255 ∧ a ≤ 255) := by
  obtain ⟨cs, rfl, _⟩ := okWide_struct Tryd.underlying53 hv
  obtain ⟨fuel, hf⟩ := h
  obtain ⟨n, a, hc, hA⟩ := kopen_jp fuel _ _ hf
  refine ⟨n, a, ?_, hA⟩
  have : cs.toList = [.int .u8 n, .int .u8 a] := by simpa [Value.cells] using hc
  obtain ⟨l⟩ := cs
  have e : l = [.int .u8 n, .int .u8 a] := this
  rw [e]
end
end Go.Proofs.YtdplabhgdonbiaaDoor
