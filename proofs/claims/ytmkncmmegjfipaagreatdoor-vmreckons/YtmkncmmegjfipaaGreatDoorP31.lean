/- Layer 18: straight code, step by step. -/
import Derived.Test.YtmkncmmegjfipaaGreatDoorP29
import Derived.Test.YtmkncmmegjfipaaGreatDoorP30
import Derived.Test.YtmkncmmegjfipaaGreatDoorP7
import Derived.Test.YtmkncmmegjfipaaGreatDoorP13
import Derived.Test.YtmkncmmegjfipaaGreatDoorP10
namespace Go.Proofs.YtmkncmmegjfipaaGreatDoor
open Go Go.RowKit

theorem i64_one (k : Int) (h : -9223372036854775808 ≤ k ∧ k ≤ 9223372036854775807) : I64 k := h
theorem i64_wrap (x : Int) : I64 (wrap64 x) := by unfold I64 wrap64; omega
theorem i64_tmod {a b : Int} (ha : -9223372036854775808 ≤ a ∧ a ≤ 9223372036854775807) : I64 (a.tmod b) := tmod_in ha
/-- Both answers are one, and in range. -/
def BothReckI (op a b : Int) : Prop := ∃ (k n : Int) (ok : Bool), I64 k ∧ I64 n ∧ (∀ w, Calls Tryz.prog 158 #[.int .i64 op, .int .i64 a, .int .i64 b] w fun e w' => e = .returned (.tuple #[.agg #[.int .i64 k, .int .i64 n, .slice none 0 0], .bool ok]) ∧ Below w.heap.size w w') ∧
  (∀ w, Calls Tryz.prog 18 #[.int .i64 op, .int .i64 a, .int .i64 b] w fun e w' => e = .returned (.tuple #[.agg #[.int .i64 k, .int .i64 n, .slice none 0 0], .bool ok]) ∧ Below w.heap.size w w')
theorem both_reckI (op a b : Int) (ha : -9223372036854775808 ≤ a ∧ a ≤ 9223372036854775807) : BothReckI op a b := by
  have ne : ∀ {x y : Int}, ¬ x = y → (x == y) = false := fun h => beq_eq_false_iff_ne.2 h
  by_cases h6 : op = 6
  · subst h6; exact ⟨_, _, _, i64_one _ (by decide), (by first | exact i64_wrap _ | exact i64_one _ (by decide) | exact i64_tmod ha), ev_reck6 a b, ev_rreck6 a b⟩
  by_cases h7 : op = 7
  · subst h7; exact ⟨_, _, _, i64_one _ (by decide), (by first | exact i64_wrap _ | exact i64_one _ (by decide) | exact i64_tmod ha), ev_reck7 a b, ev_rreck7 a b⟩
  by_cases h8 : op = 8
  · subst h8; exact ⟨_, _, _, i64_one _ (by decide), (by first | exact i64_wrap _ | exact i64_one _ (by decide) | exact i64_tmod ha), ev_reck8 a b, ev_rreck8 a b⟩
  by_cases h11 : op = 11
  · subst h11
    by_cases hl : a < b
    · exact ⟨_, _, _, i64_one _ (by decide), (by first | exact i64_wrap _ | exact i64_one _ (by decide) | exact i64_tmod ha), fun w => ev_reck11t a b w hl, fun w => ev_rreck11t a b w hl⟩
    · exact ⟨_, _, _, i64_one _ (by decide), (by first | exact i64_wrap _ | exact i64_one _ (by decide) | exact i64_tmod ha), fun w => ev_reck11f a b w hl, fun w => ev_rreck11f a b w hl⟩
  by_cases h12 : op = 12
  · subst h12
    by_cases hl : a = b
    · exact ⟨_, _, _, i64_one _ (by decide), (by first | exact i64_wrap _ | exact i64_one _ (by decide) | exact i64_tmod ha), fun w => ev_reck12t a b w (beq_iff_eq.2 hl), fun w => ev_rreck12t a b w (beq_iff_eq.2 hl)⟩
    · exact ⟨_, _, _, i64_one _ (by decide), (by first | exact i64_wrap _ | exact i64_one _ (by decide) | exact i64_tmod ha), fun w => ev_reck12f a b w (ne hl), fun w => ev_rreck12f a b w (ne hl)⟩
  by_cases hz : b = 0
  · by_cases h9 : op = 9
    · subst h9; exact ⟨_, _, _, i64_one _ (by decide), (by first | exact i64_wrap _ | exact i64_one _ (by decide) | exact i64_tmod ha), fun w => ev_reck9z a b w hz, fun w => ev_rreck9z a b w hz⟩
    by_cases h10 : op = 10
    · subst h10; exact ⟨_, _, _, i64_one _ (by decide), (by first | exact i64_wrap _ | exact i64_one _ (by decide) | exact i64_tmod ha), fun w => ev_reck10z a b w hz, fun w => ev_rreck10z a b w hz⟩
    exact ⟨_, _, _, i64_one _ (by decide), (by first | exact i64_wrap _ | exact i64_one _ (by decide) | exact i64_tmod ha), fun w => ev_reckN0 op a b w (ne h6) (ne h7) (ne h8) (ne h11) (ne h12) hz, fun w => ev_rreckN op a b w (ne h6) (ne h7) (ne h8) (ne h9) (ne h10) (ne h11) (ne h12)⟩
  by_cases h9 : op = 9
  · subst h9
    by_cases hm : b = -1
    · refine ⟨_, _, _, i64_one _ (by decide), (by first | exact i64_wrap _ | exact i64_one _ (by decide) | exact i64_tmod ha), fun w => ev_reck9 a b w (ne hz) hz, fun w => ?_⟩
      have h := ev_rreck9m a b w hm
      rw [show wrap64 (-a) = wrap64 (a.tdiv b) by subst hm; rw [Int.tdiv_neg, Int.tdiv_one]] at h
      exact h
    · exact ⟨_, _, _, i64_one _ (by decide), (by first | exact i64_wrap _ | exact i64_one _ (by decide) | exact i64_tmod ha), fun w => ev_reck9 a b w (ne hz) hz, fun w => ev_rreck9 a b w (ne hz) hz (ne hm)⟩
  by_cases h10 : op = 10
  · subst h10
    by_cases hm : b = -1
    · refine ⟨_, _, _, i64_one _ (by decide), (by first | exact i64_wrap _ | exact i64_one _ (by decide) | exact i64_tmod ha), fun w => ev_reck10 a b w (ne hz) hz, fun w => ?_⟩
      have h := ev_rreck10m a b w hm
      rw [show (0 : Int) = a.tmod b by subst hm; rw [Int.tmod_neg, Int.tmod_one]] at h
      exact h
    · refine ⟨_, _, _, i64_one _ (by decide), (by first | exact i64_wrap _ | exact i64_one _ (by decide) | exact i64_tmod ha), fun w => ev_reck10 a b w (ne hz) hz, fun w => ?_⟩
      have h := ev_rreck10 a b w (ne hz) hz (ne hm)
      rw [rem_eq a b ha] at h
      exact h
  exact ⟨_, _, _, i64_one _ (by decide), (by first | exact i64_wrap _ | exact i64_one _ (by decide) | exact i64_tmod ha), fun w => ev_reckN op a b w (ne h6) (ne h7) (ne h8) (ne h9) (ne h10) (ne h11) (ne h12) (ne hz), fun w => ev_rreckN op a b w (ne h6) (ne h7) (ne h8) (ne h9) (ne h10) (ne h11) (ne h12)⟩

/-- The one function's frame: how far it has come. -/
structure Sx (cl : Kl) (w0 : World) (B : Nat) (fuel s : Int) (pl : Nat) (st sl : List Vl) (u : World) : Prop where
  ex : ∃ ρ m f g, Tp cl w0 B ρ m [] f g u ∧ m.dd = [] ∧ m.ce = [] ∧ m.tr = [] ∧ m.en = 0 ∧ m.steps = s ∧ m.fuel = fuel ∧ f.fn = 0 ∧ f.pl = pl ∧ f.st = st ∧ f.sl = sl
/-- It has ended. -/
structure Ex1 (cl : Kl) (w0 : World) (B : Nat) (en : Int) (la : Vl) (s : Int) (u : World) : Prop where
  ex : ∃ ρ m, MAt cl w0 B ρ m u ∧ m.ce = [] ∧ m.tr = [] ∧ m.la = la ∧ m.en = en ∧ m.steps = s
theorem Sx.kept {cl : Kl} {w0 : World} {B : Nat} {fuel s : Int} {pl : Nat} {st sl : List Vl} {u u' : World} (h : Sx cl w0 B fuel s pl st sl u) (hb : Below u.heap.size u u') : Sx cl w0 B fuel s pl st sl u' := by
  obtain ⟨ρ, m, f, g, h1, h2⟩ := h.ex
  exact ⟨ρ, m, f, g, h1.kept hb, h2⟩
theorem Ex1.kept {cl : Kl} {w0 : World} {B : Nat} {en : Int} {la : Vl} {s : Int} {u u' : World} (h : Ex1 cl w0 B en la s u) (hb : Below u.heap.size u u') : Ex1 cl w0 B en la s u' := by
  obtain ⟨ρ, m, h1, h2⟩ := h.ex
  exact ⟨ρ, m, h1.kept hb, h2⟩
/-- The table of what is needed. -/
structure Ng (w : World) : Prop where
  n1 : Nd2 w 1 0 0
  n3 : Nd2 w 3 0 0
  n5 : Nd2 w 5 (-1) 0
  n27 : Nd2 w 27 (-1) 0
  nr : ∀ k, 6 ≤ k → k ≤ 12 → Nd2 w k 1 1
/-- What one step asks of the code. -/
structure Cx (cl : Kl) (w0 : World) (fuel : Int) (pl : Nat) (s : Int) : Prop where
  c : cl.At w0
  g : Ng w0
  p : pl < (cl.fs.x 0).cd.len
  p2 : pl ≤ 1000
  s : 0 ≤ s ∧ s < fuel ∧ fuel ≤ 65536
theorem up_g {w w' : World} {k : Nat} {a b : Int} (h : Nd2 w k a b) (hb : Below w.heap.size w w') : Nd2 w' k a b := range_kept h hb
theorem sx_go {cl : Kl} {w0 : World} {B : Nat} {fuel s : Int} {pl : Nat} {st sl : List Vl} {u : World} (P : World → Prop) (h : Sx cl w0 B fuel s pl st sl u) (hc : Cx cl w0 fuel pl s)
    (hD : ∀ ρ m f g u', Tp cl w0 B ρ m [] f g u' → m.dd = [] → m.ce = [] → m.tr = [] → m.en = 0 → m.steps = s + 1 → m.fuel = fuel → f.fn = 0 → f.pl = pl + 1 → f.st = st → f.sl = sl → Calls Tryz.prog 72 #[.pointer (some ⟨B, 0, none⟩), .pointer (some ⟨g, 0, none⟩), .agg ((cl.fs.x 0).cd.x pl).vs.toArray] u' fun e u'' => e = .returned (.tuple #[]) ∧ P u'') :
    Calls Tryz.prog 48 #[.pointer (some ⟨B, 0, none⟩)] u fun e u' => e = .returned (.tuple #[]) ∧ P u' := by
  obtain ⟨ρ, m, f, g, hT, h1, h2, h3, h4, h5, h6, h7, h8, h9, h10⟩ := h.ex
  have hs := hc.s
  refine goOn_any P hT hc.c h1 (by rw [h7, h8]; exact hc.p) (by rw [h8]; have := hc.p2; omega) (by show (0 : Nat) ≤ _; omega) (by rw [h5, h6]; omega) (by rw [h5, h6]; omega) ?_
  intro u' hT' _
  have := hD ρ (m.st1.top [] f.nx) f.nx g u' hT' h1 h2 h3 h4 (by show m.steps + 1 = _; rw [h5]) h6 h7 (by show f.pl + 1 = _; rw [h8]) h9 h10
  rw [h7, h8]
  exact this
theorem fresh_tp {cl : Kl} {w0 : World} {B : Nat} {ρ : Nat → Nat} {m : Mc} {r : List Fr} {f : Fr} {g : Nat} {u u' : World} (h : Tp cl w0 B ρ m r f g u) (hb : Below u.heap.size u u') : Tp cl w0 B (upd ρ u.heap.size 5) m r f g u' := h.keep (Ch.freshQ 5 hb (Nat.le_refl _))
theorem sx_int {cl : Kl} {w0 : World} {B : Nat} {fuel s : Int} {pl : Nat} {st sl : List Vl} {u : World} (h : Sx cl w0 B fuel s pl st sl u) (hc : Cx cl w0 fuel pl s) (hop : ((cl.fs.x 0).cd.x pl).op = 1) (ha : I64 ((cl.fs.x 0).cd.x pl).a) (hst : st.length < 8) :
    Calls Tryz.prog 48 #[.pointer (some ⟨B, 0, none⟩)] u fun e u' => e = .returned (.tuple #[]) ∧ Sx cl w0 B fuel (s + 1) (pl + 1) (st ++ [.lf 1 ((cl.fs.x 0).cd.x pl).a]) sl u' := by
  refine sx_go _ h hc fun ρ m f g u' hT h1 h2 h3 h4 h5 h6 h7 h8 h9 h10 => ?_
  refine do_1 (ρ := ρ) (.pointer (some ⟨g, 0, none⟩)) _ .zv .zv (fun ρ2 v => Tp cl w0 B ρ2 m [] f g v) _ hop (up_g hc.g.n1 hT.M.bl) (fun v hb => ?_) (fun ρ2 v v' k hb => k.kept hb) (fun ρ2 v k _ => ?_)
  · exact take_none _ (fresh_tp hT hb)
  · refine (mput_any (.lf 1 ((cl.fs.x 0).cd.x pl).a) k (VOk.lf _ _ ⟨by omega, by omega⟩ ha) (by rw [h9]; exact hst)).mono ?_
    rintro _ v2 ⟨rfl, sv', ρ', hT2, _⟩
    exact ⟨rfl, ⟨ρ', _, _, g, hT2, h1, h2, h3, h4, h5, h6, h7, h8, by show f.st ++ _ = _; rw [h9], h10⟩⟩
theorem sx_load {cl : Kl} {w0 : World} {B : Nat} {fuel s : Int} {pl i : Nat} {v : Vl} {st sl : List Vl} {u : World} (h : Sx cl w0 B fuel s pl st sl u) (hc : Cx cl w0 fuel pl s) (hop : ((cl.fs.x 0).cd.x pl).op = 3) (ha : ((cl.fs.x 0).cd.x pl).a = i) (hi : sl[i]? = some v) (hk : v.k ≠ 0) (hl : sl.length ≤ 250) (hst : st.length < 8) :
    Calls Tryz.prog 48 #[.pointer (some ⟨B, 0, none⟩)] u fun e u' => e = .returned (.tuple #[]) ∧ Sx cl w0 B fuel (s + 1) (pl + 1) (st ++ [v]) sl u' := by
  refine sx_go _ h hc fun ρ m f g u' hT h1 h2 h3 h4 h5 h6 h7 h8 h9 h10 => ?_
  refine do_3 (ρ := ρ) (.pointer (some ⟨g, 0, none⟩)) _ .zv .zv (fun ρ2 v => Tp cl w0 B ρ2 m [] f g v) _ hop (up_g hc.g.n3 hT.M.bl) (fun v hb => ?_) (fun ρ2 v v' k hb => k.kept hb) (fun ρ2 v k _ => ?_)
  · exact take_none _ (fresh_tp hT hb)
  · rw [ha]
    refine (mload_ok i _ k (by rw [h10]; exact hi) hk (by rw [h10]; exact hl) (by rw [h9]; exact hst)).mono ?_
    rintro _ v2 ⟨rfl, sv', ρ', hT2, _⟩
    exact ⟨rfl, ⟨ρ', _, _, g, hT2, h1, h2, h3, h4, h5, h6, h7, h8, by show f.st ++ _ = _; rw [h9], h10⟩⟩
theorem sx_pop {cl : Kl} {w0 : World} {B : Nat} {fuel s : Int} {pl : Nat} {v : Vl} {st sl : List Vl} {u : World} (h : Sx cl w0 B fuel s pl (st ++ [v]) sl u) (hc : Cx cl w0 fuel pl s) (hop : ((cl.fs.x 0).cd.x pl).op = 5) (hst : st.length < 8) :
    Calls Tryz.prog 48 #[.pointer (some ⟨B, 0, none⟩)] u fun e u' => e = .returned (.tuple #[]) ∧ Sx cl w0 B fuel (s + 1) (pl + 1) st sl u' := by
  refine sx_go _ h hc fun ρ m f g u' hT h1 h2 h3 h4 h5 h6 h7 h8 h9 h10 => ?_
  refine do_5 (ρ := ρ) (.pointer (some ⟨g, 0, none⟩)) _ v .zv (fun ρ2 x => ∃ sv', Tp cl w0 B ρ2 (m.top [] (f.sk st sv')) [] (f.sk st sv') g x) _ hop (up_g hc.g.n5 hT.M.bl) (fun x hb => ?_) (fun ρ2 x x' k hb => by obtain ⟨sv', k⟩ := k; exact ⟨sv', k.kept hb⟩) (fun ρ2 x k _ => ?_)
  · refine (take_one (-1) st v (fresh_tp hT hb) h9 (by omega) (by decide) (Or.inl rfl)).mono ?_
    rintro _ x2 ⟨rfl, sv', ρ', hT2, hC⟩
    exact ⟨rfl, ρ', ⟨sv', hT2⟩, hC⟩
  · obtain ⟨sv', k⟩ := k
    exact ⟨ρ2, _, _, g, k, h1, h2, h3, h4, h5, h6, h7, h8, rfl, h10⟩
theorem sx_ret {cl : Kl} {w0 : World} {B : Nat} {fuel s : Int} {pl : Nat} {v : Vl} {sl : List Vl} {u : World} (h : Sx cl w0 B fuel s pl [v] sl u) (hc : Cx cl w0 fuel pl s) (hop : ((cl.fs.x 0).cd.x pl).op = 27) :
    Calls Tryz.prog 48 #[.pointer (some ⟨B, 0, none⟩)] u fun e u' => e = .returned (.tuple #[]) ∧ Ex1 cl w0 B 1 v (s + 1) u' := by
  refine sx_go _ h hc fun ρ m f g u' hT h1 h2 h3 h4 h5 h6 h7 h8 h9 h10 => ?_
  refine do_27 (ρ := ρ) (.pointer (some ⟨g, 0, none⟩)) _ v .zv (fun ρ2 x => ∃ sv', Tp cl w0 B ρ2 (m.top [] (f.sk [] sv')) [] (f.sk [] sv') g x ∧ VOk ρ2 x v) _ hop (up_g hc.g.n27 hT.M.bl) (fun x hb => ?_) (fun ρ2 x x' k hb => by obtain ⟨sv', k, k2⟩ := k; exact ⟨sv', k.kept hb, k2.kept (Ch.of_below (R := fun _ => False) hb) (fun x => x)⟩) (fun ρ2 x k _ => ?_)
  · have hT' := fresh_tp hT hb
    have hv := hT'.fr.vs v (by rw [h9]; simp)
    refine (take_one (-1) [] v hT' h9 (by show (0 : Nat) ≤ 10; omega) (by decide) (Or.inl rfl)).mono ?_
    rintro _ x2 ⟨rfl, sv', ρ', hT2, hC⟩
    exact ⟨rfl, ρ', ⟨sv', hT2, hv.kept hC (by omega)⟩, hC⟩
  · obtain ⟨sv', k, k2⟩ := k
    refine (leave_last v k k2 h1 rfl).mono ?_
    rintro _ x2 ⟨rfl, ⟨fv', hM⟩, _⟩
    exact ⟨rfl, ⟨ρ2, _, hM, h2, h3, rfl, rfl, h5⟩⟩
theorem sx_r6 {cl : Kl} {w0 : World} {B : Nat} {fuel s : Int} {pl : Nat} {a b : Int} {st sl : List Vl} {u : World} (P : World → Prop) (h : Sx cl w0 B fuel s pl (st ++ [.lf 1 a, .lf 1 b]) sl u) (hc : Cx cl w0 fuel pl s) (hop : ((cl.fs.x 0).cd.x pl).op = 6) (hst : st.length < 8)
    (hR : ∀ ρ m f g u', Tp cl w0 B ρ m [] f g u' → m.dd = [] → m.ce = [] → m.tr = [] → m.en = 0 → m.steps = s + 1 → m.fuel = fuel → f.fn = 0 → f.pl = pl + 1 → f.st = st → f.sl = sl → Calls Tryz.prog 122 #[.pointer (some ⟨B, 0, none⟩), .pointer (some ⟨g, 0, none⟩), .int .i64 6, .int .i64 a, .int .i64 b] u' fun e u'' => e = .returned (.tuple #[]) ∧ P u'') :
    Calls Tryz.prog 48 #[.pointer (some ⟨B, 0, none⟩)] u fun e u' => e = .returned (.tuple #[]) ∧ P u' := by
  refine sx_go _ h hc fun ρ m f g u' hT h1 h2 h3 h4 h5 h6 h7 h8 h9 h10 => ?_
  refine do_6 (ρ := ρ) (.pointer (some ⟨g, 0, none⟩)) _ (.lf 1 a) (.lf 1 b) (fun ρ2 x => ∃ sv', Tp cl w0 B ρ2 (m.top [] (f.sk st sv')) [] (f.sk st sv') g x) _ hop (up_g (hc.g.nr 6 (by omega) (by omega)) hT.M.bl) (fun x hb => ?_) (fun ρ2 x x' k hb => by obtain ⟨sv', k⟩ := k; exact ⟨sv', k.kept hb⟩) (fun ρ2 x k _ => ?_)
  · refine (take_two 1 1 st (.lf 1 a) (.lf 1 b) (fresh_tp hT hb) h9 (by omega) (by decide) (by decide) (Or.inr rfl) (Or.inr rfl)).mono ?_
    rintro _ x2 ⟨rfl, sv', ρ', hT2, hC⟩
    exact ⟨rfl, ρ', ⟨sv', hT2⟩, hC⟩
  · obtain ⟨sv', k⟩ := k
    exact hR ρ2 _ _ g x k h1 h2 h3 h4 h5 h6 h7 h8 rfl h10
theorem sx_r7 {cl : Kl} {w0 : World} {B : Nat} {fuel s : Int} {pl : Nat} {a b : Int} {st sl : List Vl} {u : World} (P : World → Prop) (h : Sx cl w0 B fuel s pl (st ++ [.lf 1 a, .lf 1 b]) sl u) (hc : Cx cl w0 fuel pl s) (hop : ((cl.fs.x 0).cd.x pl).op = 7) (hst : st.length < 8)
    (hR : ∀ ρ m f g u', Tp cl w0 B ρ m [] f g u' → m.dd = [] → m.ce = [] → m.tr = [] → m.en = 0 → m.steps = s + 1 → m.fuel = fuel → f.fn = 0 → f.pl = pl + 1 → f.st = st → f.sl = sl → Calls Tryz.prog 122 #[.pointer (some ⟨B, 0, none⟩), .pointer (some ⟨g, 0, none⟩), .int .i64 7, .int .i64 a, .int .i64 b] u' fun e u'' => e = .returned (.tuple #[]) ∧ P u'') :
    Calls Tryz.prog 48 #[.pointer (some ⟨B, 0, none⟩)] u fun e u' => e = .returned (.tuple #[]) ∧ P u' := by
  refine sx_go _ h hc fun ρ m f g u' hT h1 h2 h3 h4 h5 h6 h7 h8 h9 h10 => ?_
  refine do_7 (ρ := ρ) (.pointer (some ⟨g, 0, none⟩)) _ (.lf 1 a) (.lf 1 b) (fun ρ2 x => ∃ sv', Tp cl w0 B ρ2 (m.top [] (f.sk st sv')) [] (f.sk st sv') g x) _ hop (up_g (hc.g.nr 7 (by omega) (by omega)) hT.M.bl) (fun x hb => ?_) (fun ρ2 x x' k hb => by obtain ⟨sv', k⟩ := k; exact ⟨sv', k.kept hb⟩) (fun ρ2 x k _ => ?_)
  · refine (take_two 1 1 st (.lf 1 a) (.lf 1 b) (fresh_tp hT hb) h9 (by omega) (by decide) (by decide) (Or.inr rfl) (Or.inr rfl)).mono ?_
    rintro _ x2 ⟨rfl, sv', ρ', hT2, hC⟩
    exact ⟨rfl, ρ', ⟨sv', hT2⟩, hC⟩
  · obtain ⟨sv', k⟩ := k
    exact hR ρ2 _ _ g x k h1 h2 h3 h4 h5 h6 h7 h8 rfl h10
theorem sx_r8 {cl : Kl} {w0 : World} {B : Nat} {fuel s : Int} {pl : Nat} {a b : Int} {st sl : List Vl} {u : World} (P : World → Prop) (h : Sx cl w0 B fuel s pl (st ++ [.lf 1 a, .lf 1 b]) sl u) (hc : Cx cl w0 fuel pl s) (hop : ((cl.fs.x 0).cd.x pl).op = 8) (hst : st.length < 8)
    (hR : ∀ ρ m f g u', Tp cl w0 B ρ m [] f g u' → m.dd = [] → m.ce = [] → m.tr = [] → m.en = 0 → m.steps = s + 1 → m.fuel = fuel → f.fn = 0 → f.pl = pl + 1 → f.st = st → f.sl = sl → Calls Tryz.prog 122 #[.pointer (some ⟨B, 0, none⟩), .pointer (some ⟨g, 0, none⟩), .int .i64 8, .int .i64 a, .int .i64 b] u' fun e u'' => e = .returned (.tuple #[]) ∧ P u'') :
    Calls Tryz.prog 48 #[.pointer (some ⟨B, 0, none⟩)] u fun e u' => e = .returned (.tuple #[]) ∧ P u' := by
  refine sx_go _ h hc fun ρ m f g u' hT h1 h2 h3 h4 h5 h6 h7 h8 h9 h10 => ?_
  refine do_8 (ρ := ρ) (.pointer (some ⟨g, 0, none⟩)) _ (.lf 1 a) (.lf 1 b) (fun ρ2 x => ∃ sv', Tp cl w0 B ρ2 (m.top [] (f.sk st sv')) [] (f.sk st sv') g x) _ hop (up_g (hc.g.nr 8 (by omega) (by omega)) hT.M.bl) (fun x hb => ?_) (fun ρ2 x x' k hb => by obtain ⟨sv', k⟩ := k; exact ⟨sv', k.kept hb⟩) (fun ρ2 x k _ => ?_)
  · refine (take_two 1 1 st (.lf 1 a) (.lf 1 b) (fresh_tp hT hb) h9 (by omega) (by decide) (by decide) (Or.inr rfl) (Or.inr rfl)).mono ?_
    rintro _ x2 ⟨rfl, sv', ρ', hT2, hC⟩
    exact ⟨rfl, ρ', ⟨sv', hT2⟩, hC⟩
  · obtain ⟨sv', k⟩ := k
    exact hR ρ2 _ _ g x k h1 h2 h3 h4 h5 h6 h7 h8 rfl h10
theorem sx_r9 {cl : Kl} {w0 : World} {B : Nat} {fuel s : Int} {pl : Nat} {a b : Int} {st sl : List Vl} {u : World} (P : World → Prop) (h : Sx cl w0 B fuel s pl (st ++ [.lf 1 a, .lf 1 b]) sl u) (hc : Cx cl w0 fuel pl s) (hop : ((cl.fs.x 0).cd.x pl).op = 9) (hst : st.length < 8)
    (hR : ∀ ρ m f g u', Tp cl w0 B ρ m [] f g u' → m.dd = [] → m.ce = [] → m.tr = [] → m.en = 0 → m.steps = s + 1 → m.fuel = fuel → f.fn = 0 → f.pl = pl + 1 → f.st = st → f.sl = sl → Calls Tryz.prog 122 #[.pointer (some ⟨B, 0, none⟩), .pointer (some ⟨g, 0, none⟩), .int .i64 9, .int .i64 a, .int .i64 b] u' fun e u'' => e = .returned (.tuple #[]) ∧ P u'') :
    Calls Tryz.prog 48 #[.pointer (some ⟨B, 0, none⟩)] u fun e u' => e = .returned (.tuple #[]) ∧ P u' := by
  refine sx_go _ h hc fun ρ m f g u' hT h1 h2 h3 h4 h5 h6 h7 h8 h9 h10 => ?_
  refine do_9 (ρ := ρ) (.pointer (some ⟨g, 0, none⟩)) _ (.lf 1 a) (.lf 1 b) (fun ρ2 x => ∃ sv', Tp cl w0 B ρ2 (m.top [] (f.sk st sv')) [] (f.sk st sv') g x) _ hop (up_g (hc.g.nr 9 (by omega) (by omega)) hT.M.bl) (fun x hb => ?_) (fun ρ2 x x' k hb => by obtain ⟨sv', k⟩ := k; exact ⟨sv', k.kept hb⟩) (fun ρ2 x k _ => ?_)
  · refine (take_two 1 1 st (.lf 1 a) (.lf 1 b) (fresh_tp hT hb) h9 (by omega) (by decide) (by decide) (Or.inr rfl) (Or.inr rfl)).mono ?_
    rintro _ x2 ⟨rfl, sv', ρ', hT2, hC⟩
    exact ⟨rfl, ρ', ⟨sv', hT2⟩, hC⟩
  · obtain ⟨sv', k⟩ := k
    exact hR ρ2 _ _ g x k h1 h2 h3 h4 h5 h6 h7 h8 rfl h10
theorem sx_r10 {cl : Kl} {w0 : World} {B : Nat} {fuel s : Int} {pl : Nat} {a b : Int} {st sl : List Vl} {u : World} (P : World → Prop) (h : Sx cl w0 B fuel s pl (st ++ [.lf 1 a, .lf 1 b]) sl u) (hc : Cx cl w0 fuel pl s) (hop : ((cl.fs.x 0).cd.x pl).op = 10) (hst : st.length < 8)
    (hR : ∀ ρ m f g u', Tp cl w0 B ρ m [] f g u' → m.dd = [] → m.ce = [] → m.tr = [] → m.en = 0 → m.steps = s + 1 → m.fuel = fuel → f.fn = 0 → f.pl = pl + 1 → f.st = st → f.sl = sl → Calls Tryz.prog 122 #[.pointer (some ⟨B, 0, none⟩), .pointer (some ⟨g, 0, none⟩), .int .i64 10, .int .i64 a, .int .i64 b] u' fun e u'' => e = .returned (.tuple #[]) ∧ P u'') :
    Calls Tryz.prog 48 #[.pointer (some ⟨B, 0, none⟩)] u fun e u' => e = .returned (.tuple #[]) ∧ P u' := by
  refine sx_go _ h hc fun ρ m f g u' hT h1 h2 h3 h4 h5 h6 h7 h8 h9 h10 => ?_
  refine do_10 (ρ := ρ) (.pointer (some ⟨g, 0, none⟩)) _ (.lf 1 a) (.lf 1 b) (fun ρ2 x => ∃ sv', Tp cl w0 B ρ2 (m.top [] (f.sk st sv')) [] (f.sk st sv') g x) _ hop (up_g (hc.g.nr 10 (by omega) (by omega)) hT.M.bl) (fun x hb => ?_) (fun ρ2 x x' k hb => by obtain ⟨sv', k⟩ := k; exact ⟨sv', k.kept hb⟩) (fun ρ2 x k _ => ?_)
  · refine (take_two 1 1 st (.lf 1 a) (.lf 1 b) (fresh_tp hT hb) h9 (by omega) (by decide) (by decide) (Or.inr rfl) (Or.inr rfl)).mono ?_
    rintro _ x2 ⟨rfl, sv', ρ', hT2, hC⟩
    exact ⟨rfl, ρ', ⟨sv', hT2⟩, hC⟩
  · obtain ⟨sv', k⟩ := k
    exact hR ρ2 _ _ g x k h1 h2 h3 h4 h5 h6 h7 h8 rfl h10
theorem sx_r11 {cl : Kl} {w0 : World} {B : Nat} {fuel s : Int} {pl : Nat} {a b : Int} {st sl : List Vl} {u : World} (P : World → Prop) (h : Sx cl w0 B fuel s pl (st ++ [.lf 1 a, .lf 1 b]) sl u) (hc : Cx cl w0 fuel pl s) (hop : ((cl.fs.x 0).cd.x pl).op = 11) (hst : st.length < 8)
    (hR : ∀ ρ m f g u', Tp cl w0 B ρ m [] f g u' → m.dd = [] → m.ce = [] → m.tr = [] → m.en = 0 → m.steps = s + 1 → m.fuel = fuel → f.fn = 0 → f.pl = pl + 1 → f.st = st → f.sl = sl → Calls Tryz.prog 122 #[.pointer (some ⟨B, 0, none⟩), .pointer (some ⟨g, 0, none⟩), .int .i64 11, .int .i64 a, .int .i64 b] u' fun e u'' => e = .returned (.tuple #[]) ∧ P u'') :
    Calls Tryz.prog 48 #[.pointer (some ⟨B, 0, none⟩)] u fun e u' => e = .returned (.tuple #[]) ∧ P u' := by
  refine sx_go _ h hc fun ρ m f g u' hT h1 h2 h3 h4 h5 h6 h7 h8 h9 h10 => ?_
  refine do_11 (ρ := ρ) (.pointer (some ⟨g, 0, none⟩)) _ (.lf 1 a) (.lf 1 b) (fun ρ2 x => ∃ sv', Tp cl w0 B ρ2 (m.top [] (f.sk st sv')) [] (f.sk st sv') g x) _ hop (up_g (hc.g.nr 11 (by omega) (by omega)) hT.M.bl) (fun x hb => ?_) (fun ρ2 x x' k hb => by obtain ⟨sv', k⟩ := k; exact ⟨sv', k.kept hb⟩) (fun ρ2 x k _ => ?_)
  · refine (take_two 1 1 st (.lf 1 a) (.lf 1 b) (fresh_tp hT hb) h9 (by omega) (by decide) (by decide) (Or.inr rfl) (Or.inr rfl)).mono ?_
    rintro _ x2 ⟨rfl, sv', ρ', hT2, hC⟩
    exact ⟨rfl, ρ', ⟨sv', hT2⟩, hC⟩
  · obtain ⟨sv', k⟩ := k
    exact hR ρ2 _ _ g x k h1 h2 h3 h4 h5 h6 h7 h8 rfl h10
theorem sx_r12 {cl : Kl} {w0 : World} {B : Nat} {fuel s : Int} {pl : Nat} {a b : Int} {st sl : List Vl} {u : World} (P : World → Prop) (h : Sx cl w0 B fuel s pl (st ++ [.lf 1 a, .lf 1 b]) sl u) (hc : Cx cl w0 fuel pl s) (hop : ((cl.fs.x 0).cd.x pl).op = 12) (hst : st.length < 8)
    (hR : ∀ ρ m f g u', Tp cl w0 B ρ m [] f g u' → m.dd = [] → m.ce = [] → m.tr = [] → m.en = 0 → m.steps = s + 1 → m.fuel = fuel → f.fn = 0 → f.pl = pl + 1 → f.st = st → f.sl = sl → Calls Tryz.prog 122 #[.pointer (some ⟨B, 0, none⟩), .pointer (some ⟨g, 0, none⟩), .int .i64 12, .int .i64 a, .int .i64 b] u' fun e u'' => e = .returned (.tuple #[]) ∧ P u'') :
    Calls Tryz.prog 48 #[.pointer (some ⟨B, 0, none⟩)] u fun e u' => e = .returned (.tuple #[]) ∧ P u' := by
  refine sx_go _ h hc fun ρ m f g u' hT h1 h2 h3 h4 h5 h6 h7 h8 h9 h10 => ?_
  refine do_12 (ρ := ρ) (.pointer (some ⟨g, 0, none⟩)) _ (.lf 1 a) (.lf 1 b) (fun ρ2 x => ∃ sv', Tp cl w0 B ρ2 (m.top [] (f.sk st sv')) [] (f.sk st sv') g x) _ hop (up_g (hc.g.nr 12 (by omega) (by omega)) hT.M.bl) (fun x hb => ?_) (fun ρ2 x x' k hb => by obtain ⟨sv', k⟩ := k; exact ⟨sv', k.kept hb⟩) (fun ρ2 x k _ => ?_)
  · refine (take_two 1 1 st (.lf 1 a) (.lf 1 b) (fresh_tp hT hb) h9 (by omega) (by decide) (by decide) (Or.inr rfl) (Or.inr rfl)).mono ?_
    rintro _ x2 ⟨rfl, sv', ρ', hT2, hC⟩
    exact ⟨rfl, ρ', ⟨sv', hT2⟩, hC⟩
  · obtain ⟨sv', k⟩ := k
    exact hR ρ2 _ _ g x k h1 h2 h3 h4 h5 h6 h7 h8 rfl h10
/-- Two numbers reckoned: by any of the seven. -/
theorem sx_r {cl : Kl} {w0 : World} {B : Nat} {fuel s : Int} {pl : Nat} {op a b : Int} {st sl : List Vl} {u : World} (P : World → Prop) (h : Sx cl w0 B fuel s pl (st ++ [.lf 1 a, .lf 1 b]) sl u) (hc : Cx cl w0 fuel pl s) (hop : ((cl.fs.x 0).cd.x pl).op = op) (h6 : 6 ≤ op ∧ op ≤ 12) (hst : st.length < 8)
    (hR : ∀ ρ m f g u', Tp cl w0 B ρ m [] f g u' → m.dd = [] → m.ce = [] → m.tr = [] → m.en = 0 → m.steps = s + 1 → m.fuel = fuel → f.fn = 0 → f.pl = pl + 1 → f.st = st → f.sl = sl → Calls Tryz.prog 122 #[.pointer (some ⟨B, 0, none⟩), .pointer (some ⟨g, 0, none⟩), .int .i64 op, .int .i64 a, .int .i64 b] u' fun e u'' => e = .returned (.tuple #[]) ∧ P u'') :
    Calls Tryz.prog 48 #[.pointer (some ⟨B, 0, none⟩)] u fun e u' => e = .returned (.tuple #[]) ∧ P u' := by
  have hcase : op = 6 ∨ op = 7 ∨ op = 8 ∨ op = 9 ∨ op = 10 ∨ op = 11 ∨ op = 12 := by omega
  rcases hcase with rfl | rfl | rfl | rfl | rfl | rfl | rfl
  · exact sx_r6 P h hc hop hst hR
  · exact sx_r7 P h hc hop hst hR
  · exact sx_r8 P h hc hop hst hR
  · exact sx_r9 P h hc hop hst hR
  · exact sx_r10 P h hc hop hst hR
  · exact sx_r11 P h hc hop hst hR
  · exact sx_r12 P h hc hop hst hR
theorem sx_reck {cl : Kl} {w0 : World} {B : Nat} {fuel s : Int} {pl : Nat} {op a b k n : Int} {st sl : List Vl} {u : World} (h : Sx cl w0 B fuel s pl (st ++ [.lf 1 a, .lf 1 b]) sl u) (hc : Cx cl w0 fuel pl s) (hop : ((cl.fs.x 0).cd.x pl).op = op) (h6 : 6 ≤ op ∧ op ≤ 12) (hst : st.length < 8) (hk : I64 k) (hn : I64 n)
    (hE : ∀ w, Calls Tryz.prog 158 #[.int .i64 op, .int .i64 a, .int .i64 b] w fun e w' => e = .returned (.tuple #[.agg #[.int .i64 k, .int .i64 n, .slice none 0 0], .bool true]) ∧ Below w.heap.size w w') :
    Calls Tryz.prog 48 #[.pointer (some ⟨B, 0, none⟩)] u fun e u' => e = .returned (.tuple #[]) ∧ Sx cl w0 B fuel (s + 1) (pl + 1) (st ++ [.lf k n]) sl u' := by
  refine sx_r _ h hc hop h6 hst fun ρ m f g u' hT h1 h2 h3 h4 h5 h6 h7 h8 h9 h10 => ?_
  refine mreckon_yes _ op a b k n _ hE fun x hb => ?_
  refine (mput_any (.lf k n) (hT.kept hb) (VOk.lf _ _ hk hn) (by rw [h9]; exact hst)).mono ?_
  rintro _ v2 ⟨rfl, sv', ρ', hT2, _⟩
  exact ⟨rfl, ⟨ρ', _, _, g, hT2, h1, h2, h3, h4, h5, h6, h7, h8, by show f.st ++ _ = _; rw [h9], h10⟩⟩
theorem sx_rno {cl : Kl} {w0 : World} {B : Nat} {fuel s : Int} {pl : Nat} {op a b k n : Int} {st sl : List Vl} {u : World} (h : Sx cl w0 B fuel s pl (st ++ [.lf 1 a, .lf 1 b]) sl u) (hc : Cx cl w0 fuel pl s) (hop : ((cl.fs.x 0).cd.x pl).op = op) (h6 : 6 ≤ op ∧ op ≤ 12) (hst : st.length < 8) (hh : (cl.fs.x 0).han pl = -1)
    (hE : ∀ w, Calls Tryz.prog 158 #[.int .i64 op, .int .i64 a, .int .i64 b] w fun e w' => e = .returned (.tuple #[.agg #[.int .i64 k, .int .i64 n, .slice none 0 0], .bool false]) ∧ Below w.heap.size w w') :
    Calls Tryz.prog 48 #[.pointer (some ⟨B, 0, none⟩)] u fun e u' => e = .returned (.tuple #[]) ∧ Ex1 cl w0 B 2 (.lf 1 0) (s + 1) u' := by
  refine sx_r _ h hc hop h6 hst fun ρ m f g u' hT h1 h2 h3 h4 h5 h6 h7 h8 h9 h10 => ?_
  refine mreckon_no _ op a b k n _ hE fun x hb => ?_
  have hp := hc.p
  have hp2 := hc.p2
  refine (raise_no (.lf 1 0) (hT.kept hb).M (VOk.lf _ _ ⟨by omega, by omega⟩ ⟨by omega, by omega⟩) hc.c h1 (by rw [hT.e]; exact ⟨by show 0 < 1; omega, by show 1 ≤ 100000; omega⟩) (fun y hy => ?_)).mono ?_
  · rw [hT.e] at hy
    have hy2 : y ∈ [f] := hy
    have e : y = f := by simpa using hy2
    subst e
    refine ⟨⟨by omega, by rw [h7, h8]; omega, by omega⟩, ?_⟩
    unfold Fr.hn
    rw [h7, h8, show (((pl + 1 : Nat) : Int) - 1) = (pl : Int) by omega]
    exact hh
  · rintro _ v2 ⟨rfl, hM, _⟩
    exact ⟨rfl, ⟨ρ, _, hM, h2, h3, rfl, rfl, h5⟩⟩
theorem MAt.one {cl : Kl} {w0 : World} {B : Nat} {ρ : Nat → Nat} {m : Mc} {f : Fr} {w : World} (h : MAt cl w0 B ρ m w) (hf : m.fs = [f]) (hd : m.dd = []) : ∃ g, Tp cl w0 B ρ m [] f g w := by
  have hl : (m.fs ++ m.dd).length = 1 := by rw [hf, hd]; rfl
  obtain ⟨g, cap, _, e, _⟩ := h.f.blk (by omega)
  exact ⟨g, h, hf, cap, e⟩
theorem sx_rhn {cl : Kl} {w0 : World} {B : Nat} {fuel s : Int} {pl hh : Nat} {op a b k n : Int} {st sl : List Vl} {u : World} (h : Sx cl w0 B fuel s pl (st ++ [.lf 1 a, .lf 1 b]) sl u) (hc : Cx cl w0 fuel pl s) (hop : ((cl.fs.x 0).cd.x pl).op = op) (h6 : 6 ≤ op ∧ op ≤ 12) (hst : st.length < 8) (hhn : (cl.fs.x 0).han pl = hh)
    (hE : ∀ w, Calls Tryz.prog 158 #[.int .i64 op, .int .i64 a, .int .i64 b] w fun e w' => e = .returned (.tuple #[.agg #[.int .i64 k, .int .i64 n, .slice none 0 0], .bool false]) ∧ Below w.heap.size w w') :
    Calls Tryz.prog 48 #[.pointer (some ⟨B, 0, none⟩)] u fun e u' => e = .returned (.tuple #[]) ∧ Sx cl w0 B fuel (s + 1) hh [.lf 1 0] sl u' := by
  refine sx_r _ h hc hop h6 hst fun ρ m f g u' hT h1 h2 h3 h4 h5 h6 h7 h8 h9 h10 => ?_
  refine mreckon_no _ op a b k n _ hE fun x hb => ?_
  have hp := hc.p
  have hp2 := hc.p2
  refine (raise_yes (.lf 1 0) (hT.kept hb).M (VOk.lf _ _ ⟨by omega, by omega⟩ ⟨by omega, by omega⟩) hc.c h1 (by rw [hT.e]; exact ⟨by show 0 < 1; omega, by show 1 ≤ 100000; omega⟩) [] [] f hh hT.e (fun y hy => by cases hy) ⟨by omega, by rw [h7, h8]; omega, by omega⟩ (by
    unfold Fr.hn
    rw [h7, h8, show (((pl + 1 : Nat) : Int) - 1) = (pl : Int) by omega]
    exact hhn)).mono ?_
  rintro _ v2 ⟨rfl, sv', ρ', fv', hM, _⟩
  obtain ⟨g', hT2⟩ := hM.one rfl rfl
  exact ⟨rfl, ⟨ρ', _, _, g', hT2, rfl, h2, h3, h4, h5, h6, h7, rfl, rfl, h10⟩⟩
end Go.Proofs.YtmkncmmegjfipaaGreatDoor

/- Layers 13 to 15: the lattice of one label, as the statements make it. -/
namespace Go.Proofs.YtmkncmmegjfipaaGreatDoor
open Go Go.RowKit

def litS : Nat → ByteArray := fun _ => ⟨#[108, 111, 119]⟩
def litN (b : Nat) : Strs := ⟨some ⟨b, 0, none⟩, b, 0, 1, 1, litS⟩
def litP : Prs := ⟨none, 0, 0, 0, 0, fun _ => 0, fun _ => 0⟩
theorem lit_e (b : Nat) : makeE (litN b) litP = 0 := by kernel_rfl
def litW (w : World) : World := w.alloc (.cells #[.string ⟨#[108, 111, 119]⟩] 9)
theorem litW_below (w : World) : Below w.heap.size w (litW w) := below_alloc _ _
theorem litN_at (w : World) : (litN w.heap.size).At (litW w) := by
  refine ⟨Nat.le_refl _, fun _ => rfl, by show (1 : Nat) ≤ _; omega, fun i hi => ?_, fun i hi => ?_⟩
  · match i, hi with
    | 0, _ => simp [litW, litN, litS]
  · show (3 : Nat) ≤ _; omega
theorem litP_at (w : World) : litP.At w := ⟨Nat.le_refl _, fun h => absurd h (Nat.lt_irrefl _), Nat.zero_le _, fun _ h => absurd h (Nat.not_lt_zero _), fun _ h => absurd h (Nat.not_lt_zero _)⟩
/-- The lattice of one. -/
structure Lt1 (n : Strs) (g : Grid) (w : World) : Prop where
  nat : n.At w
  gat : g.At w
  fd : formedB n g = true
  one : n.len = 1
  nm : n.s 0 = ⟨#[108, 111, 119]⟩
  le : g.B 0 0 = true
  rows : ∀ r, r < g.len → g.A r ≠ none
theorem one_make (w : World) :
    Calls Tryz.prog 17 #[.slice (some ⟨w.heap.size, 0, none⟩) 1 1, .slice none 0 0] (w.alloc (.cells #[.string ⟨#[108, 111, 119]⟩] 9))
      fun e w' => ∃ (n : Strs) (g : Grid), e = .returned (.tuple #[.agg #[.slice n.ao n.len n.cap, .slice g.ao g.len g.cap], .int .i64 0]) ∧ Lt1 n g w' ∧ Below w.heap.size w w' := by
  refine (rmake_any (litN w.heap.size) litP (litW w) (litN_at w) (litP_at _) (Or.inr rfl)).mono ?_
  rintro e w1 ⟨er, n', g', rfl, hM, hb1⟩
  have h0 : er = 0 := hM.er.trans (lit_e _)
  subst h0
  obtain ⟨h1, h2, ao, gg, cap, R, rfl⟩ := hM.yes rfl
  refine ⟨n', _, rfl, ⟨hM.nat, hM.gat, ?_, h1, by rw [h2]; rfl, ?_, fun r _ => by simp [gridR]⟩, (litW_below w).trans (hb1.mono (litW_below w).size)⟩
  · rw [formed_gen h1 h2]
    have he := lit_e w.heap.size
    unfold makeE at he
    split at he
    · cases he
    · split at he
      · cases he
      · split at he
        · cases he
        · rename_i h; simpa using h
  · show leastM litP 1 0 0 = true
    kernel_rfl
def nilRw {α : Type} (x : α) : Rw α := ⟨none, 0, 0, 0, 0, fun _ => x⟩
theorem nilRw_at {α : Type} (x : α) (z : Nat) (vs : α → List Value) (A : World → α → Prop) (w : World) : Rw.At z vs A w (nilRw x) := ⟨fun h => absurd h (Nat.lt_irrefl _), Nat.zero_le _, fun _ h => absurd h (Nat.not_lt_zero _), fun _ h => absurd h (Nat.not_lt_zero _)⟩
end Go.Proofs.YtmkncmmegjfipaaGreatDoor

/- Layer 18: a class of one function, straight code over it. -/
namespace Go.Proofs.YtmkncmmegjfipaaGreatDoor
open Go Go.RowKit

theorem flat_getV {α : Type} (vs : α → List Value) (z : Nat) (hz : ∀ a, (vs a).length = z) (l : List α) (i : Nat) (a : α) (h : l[i]? = some a) (j : Nat) (hj : j < z) : (l.flatMap vs)[i * z + j]? = (vs a)[j]? := by
  induction l generalizing i with
  | nil => simp at h
  | cons b l ih =>
    rw [List.flatMap_cons]
    cases i with
    | zero =>
      have e : b = a := by simpa using h
      rw [e, Nat.zero_mul, Nat.zero_add, List.getElem?_append_left (by rw [hz]; exact hj)]
    | succ i =>
      rw [List.getElem?_append_right (by rw [hz, Nat.add_mul]; omega), hz, show (i + 1) * z + j - z = i * z + j by rw [Nat.add_mul]; omega]
      exact ih i (by simpa using h)
def iv (op a : Int) : In := ⟨op, a, leafT 0 0⟩
def cdL (b : Nat) (l : List In) : Rw In := ⟨some ⟨b, 0, none⟩, b, 0, l.length, l.length, fun i => l.getD i (iv 0 0)⟩
theorem cdL_at {w : World} {b : Nat} {l : List In} (h : Blk w b (l.flatMap In.vs) 60) (hl : l.length ≤ 1000) (hi : ∀ x ∈ l, x.At w) : InsAt w (cdL b l) := by
  have hg : ∀ i, i < l.length → l[i]? = some (l.getD i (iv 0 0)) := fun i hi => by rw [List.getD_eq_getElem?_getD, List.getElem?_eq_getElem hi]; rfl
  refine ⟨fun _ => rfl, by show l.length ≤ _; omega, fun i hi2 => ?_, fun i hi2 => hi _ (List.mem_of_getElem? (hg i hi2))⟩
  intro j v hv
  have hj : j < 7 := (List.getElem?_eq_some_iff.1 hv).1
  show w.cell? ⟨b, 0 + i * 7 + j, none⟩ = some v
  refine h.cell _ ?_
  rw [Nat.zero_add, flat_getV In.vs 7 (fun _ => rfl) l i _ (hg i hi2) j hj]
  exact hv
def hdL (b : Nat) (l : List Hn) : Rw Hn := ⟨some ⟨b, 0, none⟩, b, 0, l.length, l.length, fun i => l.getD i ⟨0, 0, 0⟩⟩
def noH : Rw Hn := nilRw ⟨0, 0, 0⟩
def vFn (e : Int) (cd : Rw In) (hd : Rw Hn) : Cf := ⟨leafT 1 0, leafT 1 0, leafT 0 0, 0, e, 1, cd, hd, nilRw ⟨leafT 0 0, leafT 0 0, 0⟩, nilRw ⟨0, 0, nilRw 0⟩⟩
def vCl (n : Strs) (g : Grid) (b : Nat) (f : Cf) : Kl := ⟨n, g, ⟨some ⟨b, 0, none⟩, b, 0, 1, 1, fun _ => f⟩⟩
theorem vFn_at {w : World} {e : Int} {cd : Rw In} {hd : Rw Hn} (he : I64 e) (hc : InsAt w cd) (hh : HnsAt w hd) : (vFn e cd hd).At w :=
  ⟨leaf_at _ _ _, leaf_at _ _ _, leaf_at _ _ _, ⟨by show (-9223372036854775808 : Int) ≤ 0; omega, by show (0 : Int) ≤ _; omega⟩, he, ⟨by show (-9223372036854775808 : Int) ≤ 1; omega, by show (1 : Int) ≤ _; omega⟩, hc, hh, nilRw_at _ _ _ _ _, nilRw_at _ _ _ _ _⟩
theorem vCl_at {w : World} {n : Strs} {g : Grid} {b : Nat} {f : Cf} (hn : n.At w) (hg : g.At w) (hb : Blk w b f.vs 66) (hf : f.At w) : (vCl n g b f).At w := by
  refine ⟨hn, hg, ⟨fun _ => rfl, by show (1 : Nat) ≤ _; omega, fun i hi => ?_, fun i hi => hf⟩⟩
  have hi0 : i = 0 := by have : i < 1 := hi; omega
  subst hi0
  show w.rangeAt b (0 + 0 * 18) f.vs
  exact hb.range
theorem vCl_fm {n : Strs} {g : Grid} {w : World} (h : Lt1 n g w) (b : Nat) {e : Int} {cd : Rw In} {hd : Rw Hn} (he : e = -1 ∨ e = 0) (hl : cd.len ≤ 2000) (hc : ∀ i, i < cd.len → (cd.x i).fm 1 = true) (hl2 : hd.len ≤ 2000) (hh : ∀ i, i < hd.len → (hd.x i).fm = true) : (vCl n g b (vFn e cd hd)).fm = true := by
  unfold Kl.fm
  show (formedB n g && _) = true
  rw [h.fd]
  simp only [Bool.true_and, Bool.and_eq_true, decide_eq_true_eq]
  refine ⟨⟨Nat.le_refl _, by show 1 ≤ 60; omega⟩, fun i _ => ?_⟩
  show (vFn e cd hd).fm n.len = true
  rw [h.one]
  unfold Cf.fm Cf.few
  simp only [Bool.and_eq_true, decide_eq_true_eq]
  refine ⟨⟨by rcases he with rfl | rfl <;> kernel_rfl, by show 0 ≤ 16; omega, hl, hl2, by show 0 ≤ 2000; omega, by show 0 ≤ 2000; omega⟩, ⟨by kernel_rfl, by kernel_rfl⟩, fun i hi => absurd hi (Nat.not_lt_zero _), hc, fun i hi => absurd hi (Nat.not_lt_zero _), hh, fun i hi => absurd hi (Nat.not_lt_zero _)⟩

/-! To the end. -/
theorem Sx.step3 {cl : Kl} {w0 : World} {B : Nat} {fuel s : Int} {pl : Nat} {st sl : List Vl} {u : World} (h : Sx cl w0 B fuel s pl st sl u) : u.cell? ⟨B, 3, none⟩ = some (.int .i64 s) ∧ Calls Tryz.prog 47 #[.pointer (some ⟨B, 0, none⟩)] u fun e u' => e = .returned (.bool true) ∧ Below u.heap.size u u' := by
  obtain ⟨ρ, m, f, g, hT, _, _, _, h4, h5, _⟩ := h.ex
  refine ⟨by rw [← h5]; exact hT.M.blk.cell 3 rfl, ?_⟩
  have := goes_any hT.M
  rw [h4] at this
  exact this
theorem Ex1.step3 {cl : Kl} {w0 : World} {B : Nat} {en s : Int} {la : Vl} {u : World} (h : Ex1 cl w0 B en la s u) (hen : en ≠ 0) : u.cell? ⟨B, 3, none⟩ = some (.int .i64 s) ∧ Calls Tryz.prog 47 #[.pointer (some ⟨B, 0, none⟩)] u fun e u' => e = .returned (.bool false) ∧ Below u.heap.size u u' := by
  obtain ⟨ρ, m, hT, _, _, _, h4, h5⟩ := h.ex
  refine ⟨by rw [← h5]; exact hT.blk.cell 3 rfl, ?_⟩
  have h9 := goes_any hT
  rw [h4, show (en == 0) = false by simpa using hen] at h9
  exact h9
def stp (N : Nat) (B : Nat) (u : World) : Nat := match u.cell? ⟨B, 3, none⟩ with
  | some (.int _ s) => ((N : Int) - s).toNat
  | _ => 0
theorem toEnd_sx {cl : Kl} {w0 : World} {B : Nat} {fuel : Int} (N : Nat) (pl : Nat → Nat) (st sl : Nat → List Vl) (en : Int) (la : Vl) (hen : en ≠ 0) (hN : 1 ≤ N)
    (hstep : ∀ j u, j + 1 < N → Sx cl w0 B fuel j (pl j) (st j) (sl j) u → Calls Tryz.prog 48 #[.pointer (some ⟨B, 0, none⟩)] u fun e u' => e = .returned (.tuple #[]) ∧ Sx cl w0 B fuel (j + 1) (pl (j + 1)) (st (j + 1)) (sl (j + 1)) u')
    (hlast : ∀ u, Sx cl w0 B fuel (N - 1 : Nat) (pl (N - 1)) (st (N - 1)) (sl (N - 1)) u → Calls Tryz.prog 48 #[.pointer (some ⟨B, 0, none⟩)] u fun e u' => e = .returned (.tuple #[]) ∧ Ex1 cl w0 B en la N u')
    (w : World) (h : Sx cl w0 B fuel 0 (pl 0) (st 0) (sl 0) w) : Calls Tryz.prog 26 #[.pointer (some ⟨B, 0, none⟩)] w fun e w' => e = .returned (.tuple #[]) ∧ Ex1 cl w0 B en la N w' := by
  refine (toEnd_any (B := B) (fun k u => (k = 0 ∧ Ex1 cl w0 B en la N u) ∨ (0 < k ∧ k ≤ N ∧ Sx cl w0 B fuel (N - k : Nat) (pl (N - k)) (st (N - k)) (sl (N - k)) u)) (stp N B) ?_ ?_ ?_ ?_ N w ?_).mono ?_
  · rintro k u (⟨rfl, hE⟩ | ⟨h1, h2, hS⟩)
    · unfold stp; rw [(hE.step3 hen).1]; simp
    · unfold stp; rw [hS.step3.1]; show ((N : Int) - (N - k : Nat)).toNat = k; omega
  · rintro k u u' (⟨rfl, hE⟩ | ⟨h1, h2, hS⟩) hb
    · exact Or.inl ⟨rfl, hE.kept hb⟩
    · exact Or.inr ⟨h1, h2, hS.kept hb⟩
  · rintro k u (⟨rfl, hE⟩ | ⟨h1, h2, hS⟩)
    · exact (hE.step3 hen).2
    · rw [decide_eq_true (show k ≠ 0 by omega)]; exact hS.step3.2
  · rintro k u (⟨h1, _⟩ | ⟨h1, h2, hS⟩)
    · omega
    · cases k with
      | zero =>
        refine (hlast u hS).mono ?_
        rintro _ u' ⟨rfl, hE⟩
        exact ⟨rfl, Or.inl ⟨rfl, hE⟩⟩
      | succ k =>
        refine (hstep (N - (k + 1 + 1)) u (by omega) hS).mono ?_
        rintro _ u' ⟨rfl, hS'⟩
        refine ⟨rfl, Or.inr ⟨by omega, by omega, ?_⟩⟩
        have e1 : N - (k + 1 + 1) + 1 = N - (k + 1) := by omega
        have e2 : ((N - (k + 1 + 1) : Nat) : Int) + 1 = ((N - (k + 1) : Nat) : Int) := by omega
        rw [e1, e2] at hS'
        exact hS'
  · exact Or.inr ⟨by omega, Nat.le_refl _, by rw [Nat.sub_self]; exact h⟩
  · rintro e u ⟨rfl, (⟨_, hE⟩ | ⟨h1, _⟩)⟩
    · exact ⟨rfl, hE⟩
    · omega
end Go.Proofs.YtmkncmmegjfipaaGreatDoor
