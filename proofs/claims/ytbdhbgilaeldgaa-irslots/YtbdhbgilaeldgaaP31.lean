/- Layer 10: rows of functions put one behind the other; what the check of one hangs on. -/
import Derived.Test.YtbdhbgilaeldgaaP30
import Derived.Test.YtbdhbgilaeldgaaP15
namespace Go.Proofs.Ytbdhbgilaeldgaa
open Go Go.RowKit

theorem Try.infoIrFn : (Try.prog.info? 43).map (fun i => (i.zero, i.size, i.bytes)) = some (some (.agg zFv.toArray), 16, 208) := by kernel_rfl
theorem fvs_len (f : Fc) : f.vs.length = 16 := rfl
theorem fvs_cell (f : Fc) : ∀ u ∈ f.vs, u.oneCell' = true := fun u hu => List.all_eq_true.1 f.va_one u hu
def rowL (l : Fl) : List Value := flatN (fun i => (l.ps i).vs) l.len
theorem rowL_len (l : Fl) : (rowL l).length = l.len * 16 := flatN_len (fun i => fvs_len (l.ps i)) l.len
theorem rowL_cell {w : World} {l : Fl} (h : l.At w) : ∀ a, l.ao = some a → ∀ j u, (rowL l)[j]? = some u → w.cell? (a.add j) = some u := fun a ha j u hj => by
  have hlt : j < l.len * 16 := by rw [← rowL_len l]; exact (List.getElem?_eq_some_iff.1 hj).1
  have e := h.nil (by omega)
  rw [ha] at e
  injection e with e
  rw [e]
  exact flatN_cell (fun i => fvs_len (l.ps i)) (by omega) (fun i hi => h.cells i hi) j u hj
theorem rowL_one (l : Fl) : ∀ u ∈ rowL l, u.oneCell' = true := fun u hu => by
  obtain ⟨i, _, h⟩ := flatN_mem _ hu
  exact fvs_cell _ u h
theorem Fl.of_own {w : World} {base : Nat} {v : Value} {n : Nat} {F : Nat → Fc} (h : w.ownsRow base 43 16 v n (flatN (fun i => (F i).vs) n)) (hb : n ≤ 1000) (hA : ∀ i, i < n → (F i).At w) : ∃ s : Fl, v = .slice s.ao s.len s.cap ∧ s.At w ∧ s.len = n ∧ s.ps = F := by
  obtain ⟨hl, ⟨rfl, rfl⟩ | ⟨g, cap, cur, rfl, hg, hh, hr⟩⟩ := h
  · exact ⟨⟨none, 0, 0, 0, 0, F⟩, rfl, ⟨fun h => absurd h (Nat.lt_irrefl _), Nat.zero_le _, fun _ h => absurd h (Nat.not_lt_zero _), fun _ h => absurd h (Nat.not_lt_zero _)⟩, rfl, rfl⟩
  · have ho : w.ownsRow base 43 16 (.slice (some ⟨g, 0, none⟩) n cap) n (flatN (fun i => (F i).vs) n) := ⟨hl, Or.inr ⟨g, cap, cur, rfl, hg, hh, hr⟩⟩
    refine ⟨⟨some ⟨g, 0, none⟩, g, 0, n, cap, F⟩, rfl, ⟨fun _ => rfl, by show n ≤ _; omega, fun i hi => ?_, hA⟩, rfl, rfl⟩
    have hi' : i < n := hi
    intro j u hu
    have hj : j < 16 := by rw [← fvs_len (F i)]; exact (List.getElem?_eq_some_iff.1 hu).1
    show w.cell? ⟨g, 0 + i * 16 + j, none⟩ = some u
    rw [Nat.zero_add, ho.cellAt (i * 16 + j) (by omega)]
    rw [flatN_get (fun i => fvs_len (F i)) n i j hi' hj]
    exact hu

theorem runTo_congr {f h : Nat → Sta → Option Sta} : ∀ (k : Nat), (∀ i, i < k → ∀ s, f i s = h i s) → ∀ s, runTo f k s = runTo h k s
  | 0, _, _ => rfl
  | k + 1, hh, s => by
    show (runTo f k s).bind (f k) = (runTo h k s).bind (h k)
    rw [runTo_congr k (fun i hi => hh i (by omega)) s]
    have e : f k = h k := funext fun s => hh k (by omega) s
    rw [e]
theorem closed_fns (j : Jd) (F : Fl) (nd : Nd) (h : F.ps nd.h.n.toNat = j.fns.ps nd.h.n.toNat) : Jd.closed { j with fns := F } nd = j.closed nd := by
  unfold Jd.closed
  show (if nd.h.ar.len = (F.ps nd.h.n.toNat).caps.len ∧ ∀ i, i < nd.h.ar.len → belB j.n j.g (j.read nd (nd.h.ar.f i)) ((F.ps nd.h.n.toNat).caps.ps i) = true then sigT j.n j.g (F.ps nd.h.n.toNat) else leafT 0 0) = _
  rw [h]
theorem makes_fns (j : Jd) (F : Fl) (nd : Nd) (h : nd.h.op = 9 → F.ps nd.h.n.toNat = j.fns.ps nd.h.n.toNat) : Jd.makes { j with fns := F } nd = j.makes nd := by
  unfold Jd.makes
  by_cases h9 : nd.h.op = 9
  · rw [closed_fns j F nd (h h9)]
    rfl
  · simp only [if_neg h9]
    rfl
theorem make_fns (j : Jd) (F : Fl) (nd : Nd) (s : Sta) (h : nd.h.op = 9 → F.ps nd.h.n.toNat = j.fns.ps nd.h.n.toNat) : Jd.make { j with fns := F } nd s = j.make nd s := by
  unfold Jd.make
  rw [makes_fns j F nd h]
theorem run_fns (j : Jd) (F : Fl) (m : Nat) (S : Nat) (hF : ∀ i, i < m → F.ps i = j.fns.ps i) : ∀ nd : Nd, nd.shp j.n j.g m S = true → ∀ s, nd.run { j with fns := F } s = nd.run j s := by
  intro nd
  induction nd with
  | dm => intro h; cases h
  | mk h bao bb bo bl bc bp eao eb eo el ec ep ih1 ih2 =>
    intro hs s
    have hn : needB j.n j.g m h (decide (∀ i, i < bl → (bp i).shp j.n j.g m S = true)) (decide (∀ i, i < el → (ep i).shp j.n j.g m S = true)) = true := by
      have hs' : shpB j.n j.g m S h (decide (∀ i, i < bl → (bp i).shp j.n j.g m S = true)) (decide (∀ i, i < el → (ep i).shp j.n j.g m S = true)) = true := hs
      unfold shpB at hs'
      simp only [Bool.and_eq_true] at hs'
      exact hs'.2
    have h9 : h.op = 9 → F.ps h.n.toNat = j.fns.ps h.n.toNat := fun ho => by
      have := need_9 hn ho
      exact hF _ (by omega)
    unfold Nd.run
    have eM := make_fns j F (.mk h bao bb bo bl bc bp eao eb eo el ec ep) s h9
    by_cases h16 : h.op = 16 ∨ h.op = 17
    · have hx := need_16 hn h16
      have e1 : ∀ t, runTo (fun i => (bp i).run { j with fns := F }) bl t = runTo (fun i => (bp i).run j) bl t := runTo_congr bl fun i hi s => ih1 i (of_decide_eq_true hx.1 i hi) s
      have e2 : ∀ t, runTo (fun i => (ep i).run { j with fns := F }) el t = runTo (fun i => (ep i).run j) el t := runTo_congr el fun i hi s => ih2 i (of_decide_eq_true hx.2 i hi) s
      simp only [e1, e2, eM]
      rfl
    · have h1 : ¬ h.op = 16 := fun e => h16 (Or.inl e)
      have h2 : ¬ h.op = 17 := fun e => h16 (Or.inr e)
      simp only [if_neg h1, if_neg h2, eM]
      rfl
theorem right_fns (j : Jd) (F : Fl) (m : Nat) (S : Nat) (hF : ∀ i, i < m → F.ps i = j.fns.ps i) (hs : j.f.body.shp j.n j.g m S = true) : Jd.right { j with fns := F } = j.right := by
  unfold Ns.shp at hs
  have hx := of_decide_eq_true hs
  have e : Jd.list { j with fns := F } j.f.body j.start = j.list j.f.body j.start := by
    unfold Jd.list
    exact runTo_congr _ (fun i hi s => run_fns j F m S hF _ (hx i hi) s) _
  show (match Jd.list { j with fns := F } j.f.body j.start with | none => false | some s => j.ends s) = (match j.list j.f.body j.start with | none => false | some s => j.ends s)
  rw [e]
/-- Functions with more behind. -/
theorem right_among {n : Strs} {g : Grid} {l L : Fl} (hs : shdB n g l = true) (hL : ∀ i, i < l.len → L.ps i = l.ps i) {i : Nat} (hi : i < l.len) : (jdg n g L i).right = (jdg n g l i).right := by
  have hp := hld_parts (shd_fn hs hi)
  have := right_fns (jdg n g l i) L l.len (l.ps i).slots.len hL hp.1.2.2
  rw [← this]
  unfold jdg
  rw [hL i hi]
theorem among_math {n : Strs} {g : Grid} {l L : Fl} {a b a' b' : Int} (hL : ∀ i, i < l.len → L.ps i = l.ps i) (hle : l.len ≤ L.len) (h1 : ChkR n g l a b) (h2 : ChkR n g L a' b') :
    (b = 9 ∨ b' = 9) ∨ (b = 11 ∧ b' = 11 ∧ a' = a) ∨ (b = 0 ∧ (b' = 0 ∨ (b' = 11 ∧ (l.len : Int) ≤ a'))) := by
  rcases h1 with ⟨_, _, h⟩ | ⟨hs, k, hk, hr, hw, ha, hb⟩ | ⟨hs, hr, ha, hb⟩
  · exact Or.inl (Or.inl h)
  · rcases h2 with ⟨_, _, h⟩ | ⟨hs', k', hk', hr', hw', ha', hb'⟩ | ⟨hs', hr', _, _⟩
    · exact Or.inl (Or.inr h)
    · refine Or.inr (Or.inl ⟨hb, hb', ?_⟩)
      have e : k' = k := by
        rcases Nat.lt_trichotomy k' k with h | h | h
        · have := hr k' h
          rw [← right_among hs hL (by omega), hw'] at this
          cases this
        · exact h
        · have := hr' k h
          rw [right_among hs hL hk, hw] at this
          cases this
      rw [ha', ha, e]
    · have := hr' k (by omega)
      rw [right_among hs hL hk, hw] at this
      cases this
  · rcases h2 with ⟨_, _, h⟩ | ⟨hs', k', hk', hr', hw', ha', hb'⟩ | ⟨hs', hr', _, hb'⟩
    · exact Or.inl (Or.inr h)
    · refine Or.inr (Or.inr ⟨hb, Or.inr ⟨hb', ?_⟩⟩)
      rcases Nat.lt_or_ge k' l.len with h | h
      · have := hr k' h
        rw [← right_among hs hL h, hw'] at this
        cases this
      · omega
    · exact Or.inr (Or.inr ⟨hb, Or.inl hb'⟩)
end Go.Proofs.Ytbdhbgilaeldgaa

/- Layer 10: a slot more at the end changes nothing of the check. -/
namespace Go.Proofs.Ytbdhbgilaeldgaa
open Go Go.RowKit

/-- A function with a slot more. -/
structure Mo (t : Ty) (f f' : Fc) : Prop where
  param : f'.param = f.param
  result : f'.result = f.result
  caps : f'.caps = f.caps
  heap : f'.heap = f.heap
  exc : f'.exc = f.exc
  body : f'.body = f.body
  out : f'.out = f.out
  len : f'.slots.len = f.slots.len + 1
  ps : ∀ i, i < f.slots.len → f'.slots.ps i = f.slots.ps i
  last : f'.slots.ps f.slots.len = t
theorem Mo.sig {t : Ty} {f f' : Fc} (h : Mo t f f') (n : Strs) (g : Grid) : sigT n g f' = sigT n g f := by unfold sigT; rw [h.heap, h.exc, h.param, h.result]
theorem slotsB_mono {m k : Nat} (h : m ≤ k) {l : List Int} (hl : slotsB m l = true) : slotsB k l = true := by
  unfold slotsB at hl ⊢
  rw [List.all_eq_true] at hl ⊢
  intro x hx
  have := hl x hx
  unfold wthB at this ⊢
  simp only [Bool.and_eq_true, decide_eq_true_eq] at this ⊢
  omega
theorem shp_mono {n : Strs} {g : Grid} {many : Int} {m k : Nat} (h : m ≤ k) : ∀ nd : Nd, nd.shp n g many m = true → nd.shp n g many k = true := by
  intro nd
  induction nd with
  | dm => intro hh; cases hh
  | mk hd bao bb bo bl bc bp eao eb eo el ec ep ih1 ih2 =>
    intro hh
    have h1 : shpB n g many m hd (decide (∀ i, i < bl → (bp i).shp n g many m = true)) (decide (∀ i, i < el → (ep i).shp n g many m = true)) = true := hh
    show shpB n g many k hd (decide (∀ i, i < bl → (bp i).shp n g many k = true)) (decide (∀ i, i < el → (ep i).shp n g many k = true)) = true
    unfold shpB at h1 ⊢
    simp only [Bool.and_eq_true, Bool.or_eq_true] at h1 ⊢
    refine ⟨⟨⟨h1.1.1.1, slotsB_mono h h1.1.1.2⟩, ?_⟩, ?_⟩
    · rcases h1.1.2 with h2 | h2
      · exact Or.inl h2
      · exact Or.inr (slotsB_mono h h2)
    · have h2 := h1.2
      by_cases h16 : hd.op = 16 ∨ hd.op = 17
      · have hx := need_16 h2 h16
        have e1 : decide (∀ i, i < bl → (bp i).shp n g many k = true) = true := decide_eq_true fun i hi => ih1 i (of_decide_eq_true hx.1 i hi)
        have e2 : decide (∀ i, i < el → (ep i).shp n g many k = true) = true := decide_eq_true fun i hi => ih2 i (of_decide_eq_true hx.2 i hi)
        rw [e1, e2]
        rw [hx.1, hx.2] at h2
        exact h2
      · unfold needB at h2 ⊢
        simp only [if_neg h16] at h2 ⊢
        exact h2
theorem hld_more {n : Strs} {g : Grid} {many : Int} {t : Ty} {f f' : Fc} (hm : Mo t f f') (h : hldB n g many f = true) (ht : okB n g t = true) (hl : f.slots.len < 250) : hldB n g many f' = true := by
  unfold hldB typedB typ1 typ2 typ3 at h ⊢
  simp only [Bool.and_eq_true, decide_eq_true_eq, Bool.or_eq_true] at h ⊢
  obtain ⟨⟨⟨⟨⟨⟨⟨⟨h1, h2⟩, h3⟩, h4⟩, h5⟩, h6, h7⟩, h8⟩, h9⟩, h10⟩ := h
  rw [hm.caps, hm.len, hm.sig n g, hm.param, hm.body, hm.out]
  refine ⟨⟨⟨⟨⟨⟨⟨⟨h1, by omega⟩, by omega⟩, h4⟩, fun i hi => ?_⟩, ?_, fun i hi => ?_⟩, h8⟩, ?_⟩, ?_⟩
  · rcases Nat.lt_or_ge i f.slots.len with hh | hh
    · rw [hm.ps i hh]; exact h5 i hh
    · have : i = f.slots.len := by omega
      subst this
      rw [hm.last]; exact ht
  · rw [hm.ps 0 (by omega)]; exact h6
  · rw [hm.ps (1 + i) (by omega)]; exact h7 i hi
  · unfold Ns.shp at h9 ⊢
    exact decide_eq_true fun i hi => shp_mono (by omega) _ (of_decide_eq_true h9 i hi)
  · rcases h10 with h | h
    · exact Or.inl h
    · exact Or.inr (slotsB_mono (by omega) h)
section
variable {n : Strs} {g : Grid} {bt : Int} {l L : Fl} {t : Ty} {f f' : Fc}
theorem read_mo (hm : Mo t f f') (nd : Nd) {i : Int} (h0 : 0 ≤ i ∧ i < f.slots.len) : Jd.read ⟨n, g, bt, L, f'⟩ nd i = Jd.read ⟨n, g, bt, l, f⟩ nd i := by
  unfold Jd.read
  dsimp only
  rw [hm.ps i.toNat (by omega)]
theorem makes_mo (hm : Mo t f f') (nd : Nd) (hs : slotsB f.slots.len nd.h.rds = true) (ho : 1 ≤ nd.h.op ∧ nd.h.op ≤ 13) (h9 : nd.h.op = 9 → Mo t (l.ps nd.h.n.toNat) (L.ps nd.h.n.toNat)) : Jd.makes ⟨n, g, bt, L, f'⟩ nd = Jd.makes ⟨n, g, bt, l, f⟩ nd := by
  have sl : ∀ {i}, i ∈ nd.h.rds → Jd.read ⟨n, g, bt, L, f'⟩ nd i = Jd.read ⟨n, g, bt, l, f⟩ nd i := fun {i} hi => read_mo hm nd (slotsB_mem hs hi)
  have R : ∀ r r' : Ty × Int, Jd.makes ⟨n, g, bt, L, f'⟩ nd = r' → Jd.makes ⟨n, g, bt, l, f⟩ nd = r → r' = r → Jd.makes ⟨n, g, bt, L, f'⟩ nd = Jd.makes ⟨n, g, bt, l, f⟩ nd := fun r r' h1 h2 h3 => by rw [h1, h2, h3]
  by_cases h1 : nd.h.op = 1
  · exact R (leafT 1 bt, -1) (leafT 1 bt, -1) (by unfold Jd.makes; rw [h1]; rfl) (by unfold Jd.makes; rw [h1]; rfl) rfl
  by_cases h2 : nd.h.op = 2
  · exact R (leafT 2 bt, -1) (leafT 2 bt, -1) (by unfold Jd.makes; rw [h2]; rfl) (by unfold Jd.makes; rw [h2]; rfl) rfl
  by_cases h3 : nd.h.op = 3
  · exact R (Jd.read ⟨n, g, bt, l, f⟩ nd nd.h.a, -1) (Jd.read ⟨n, g, bt, L, f'⟩ nd nd.h.a, -1) (by unfold Jd.makes; rw [h3]; rfl) (by unfold Jd.makes; rw [h3]; rfl) (by rw [sl (by rw [rds1 (by omega)]; simp)])
  by_cases h4 : nd.h.op = 4
  · refine R (Jd.reck ⟨n, g, bt, l, f⟩ nd) (Jd.reck ⟨n, g, bt, L, f'⟩ nd) (by unfold Jd.makes; rw [h4]; rfl) (by unfold Jd.makes; rw [h4]; rfl) ?_
    unfold Jd.reck
    rw [sl (i := nd.h.a) (by rw [rds2 (by omega)]; simp), sl (i := nd.h.b) (by rw [rds2 (by omega)]; simp)]
  by_cases h5 : nd.h.op = 5
  · exact R (onlyT 2 (Jd.read ⟨n, g, bt, l, f⟩ nd nd.h.a), -1) (onlyT 2 (Jd.read ⟨n, g, bt, L, f'⟩ nd nd.h.a), -1) (by unfold Jd.makes; rw [h5]; rfl) (by unfold Jd.makes; rw [h5]; rfl) (by rw [sl (by rw [rds1 (by omega)]; simp)])
  by_cases h6 : nd.h.op = 6
  · exact R (mk2 3 bt 0 0 (Jd.read ⟨n, g, bt, l, f⟩ nd nd.h.a) (Jd.read ⟨n, g, bt, l, f⟩ nd nd.h.b), -1) (mk2 3 bt 0 0 (Jd.read ⟨n, g, bt, L, f'⟩ nd nd.h.a) (Jd.read ⟨n, g, bt, L, f'⟩ nd nd.h.b), -1) (by unfold Jd.makes; rw [h6]; rfl) (by unfold Jd.makes; rw [h6]; rfl) (by rw [sl (i := nd.h.a) (by rw [rds2 (by omega)]; simp), sl (i := nd.h.b) (by rw [rds2 (by omega)]; simp)])
  by_cases h7 : nd.h.op = 7
  · refine R (Jd.side ⟨n, g, bt, l, f⟩ nd 0, -1) (Jd.side ⟨n, g, bt, L, f'⟩ nd 0, -1) (by unfold Jd.makes; rw [h7]; rfl) (by unfold Jd.makes; rw [h7]; rfl) ?_
    unfold Jd.side
    rw [sl (i := nd.h.a) (by rw [rds1 (by omega)]; simp)]
  by_cases h8 : nd.h.op = 8
  · refine R (Jd.side ⟨n, g, bt, l, f⟩ nd 1, -1) (Jd.side ⟨n, g, bt, L, f'⟩ nd 1, -1) (by unfold Jd.makes; rw [h8]; rfl) (by unfold Jd.makes; rw [h8]; rfl) ?_
    unfold Jd.side
    rw [sl (i := nd.h.a) (by rw [rds1 (by omega)]; simp)]
  by_cases h9' : nd.h.op = 9
  · refine R (Jd.closed ⟨n, g, bt, l, f⟩ nd, -1) (Jd.closed ⟨n, g, bt, L, f'⟩ nd, -1) (by unfold Jd.makes; rw [h9']; rfl) (by unfold Jd.makes; rw [h9']; rfl) ?_
    have hM := h9 h9'
    have e : (nd.h.ar.len = (L.ps nd.h.n.toNat).caps.len ∧ ∀ i, i < nd.h.ar.len → belB n g (Jd.read ⟨n, g, bt, L, f'⟩ nd (nd.h.ar.f i)) ((L.ps nd.h.n.toNat).caps.ps i) = true) = (nd.h.ar.len = (l.ps nd.h.n.toNat).caps.len ∧ ∀ i, i < nd.h.ar.len → belB n g (Jd.read ⟨n, g, bt, l, f⟩ nd (nd.h.ar.f i)) ((l.ps nd.h.n.toNat).caps.ps i) = true) := by
      rw [hM.caps]
      apply propext
      constructor
      · rintro ⟨a, b⟩
        exact ⟨a, fun i hi => by rw [← sl (by rw [rds9 h9']; exact List.mem_map.2 ⟨i, by simpa using hi, rfl⟩)]; exact b i hi⟩
      · rintro ⟨a, b⟩
        exact ⟨a, fun i hi => by rw [sl (by rw [rds9 h9']; exact List.mem_map.2 ⟨i, by simpa using hi, rfl⟩)]; exact b i hi⟩
    have e2 : Jd.closed ⟨n, g, bt, L, f'⟩ nd = Jd.closed ⟨n, g, bt, l, f⟩ nd := by
      unfold Jd.closed
      dsimp only
      rw [hM.sig n g]
      by_cases hq : nd.h.ar.len = (l.ps nd.h.n.toNat).caps.len ∧ ∀ i, i < nd.h.ar.len → belB n g (Jd.read ⟨n, g, bt, l, f⟩ nd (nd.h.ar.f i)) ((l.ps nd.h.n.toNat).caps.ps i) = true
      · rw [if_pos hq, if_pos (e.mpr hq)]
      · rw [if_neg hq, if_neg (fun h => hq (e.mp h))]
    rw [e2]
  by_cases h10 : nd.h.op = 10
  · exact R (sigT n g f, -1) (sigT n g f', -1) (by unfold Jd.makes; rw [h10]; rfl) (by unfold Jd.makes; rw [h10]; rfl) (by rw [hm.sig n g])
  by_cases h11 : nd.h.op = 11
  · refine R (Jd.called ⟨n, g, bt, l, f⟩ nd) (Jd.called ⟨n, g, bt, L, f'⟩ nd) (by unfold Jd.makes; rw [h11]; rfl) (by unfold Jd.makes; rw [h11]; rfl) ?_
    unfold Jd.called
    rw [sl (i := nd.h.a) (by rw [rds2 (by omega)]; simp), sl (i := nd.h.b) (by rw [rds2 (by omega)]; simp)]
    dsimp only
    rw [hm.heap]
  by_cases h12 : nd.h.op = 12
  · refine R (Jd.cell ⟨n, g, bt, l, f⟩ nd, -1) (Jd.cell ⟨n, g, bt, L, f'⟩ nd, -1) (by unfold Jd.makes; rw [h12]; rfl) (by unfold Jd.makes; rw [h12]; rfl) ?_
    unfold Jd.cell
    rw [sl (i := nd.h.a) (by rw [rds1 (by omega)]; simp)]
  have h13 : nd.h.op = 13 := by omega
  refine R (Jd.held ⟨n, g, bt, l, f⟩ nd, -1) (Jd.held ⟨n, g, bt, L, f'⟩ nd, -1) (by unfold Jd.makes; rw [h13]; rfl) (by unfold Jd.makes; rw [h13]; rfl) ?_
  unfold Jd.held
  rw [sl (i := nd.h.a) (by rw [rds1 (by omega)]; simp)]
theorem run_mo (hm : Mo t f f') {m : Nat} (hL : ∀ i, i < m → Mo t (l.ps i) (L.ps i)) : ∀ nd : Nd, nd.shp n g m f.slots.len = true → ∀ s, nd.run ⟨n, g, bt, L, f'⟩ s = nd.run ⟨n, g, bt, l, f⟩ s := by
  intro nd
  induction nd with
  | dm => intro h; cases h
  | mk h bao bb bo bl bc bp eao eb eo el ec ep ih1 ih2 =>
    intro hs s
    have hs' : shpB n g m f.slots.len h (decide (∀ i, i < bl → (bp i).shp n g m f.slots.len = true)) (decide (∀ i, i < el → (ep i).shp n g m f.slots.len = true)) = true := hs
    unfold shpB at hs'
    simp only [Bool.and_eq_true, Bool.or_eq_true] at hs'
    have hn := hs'.2
    have hop := need_op hn
    have hrd : slotsB f.slots.len h.rds = true := hs'.1.1.2
    have hdst : h.wrs = true → 0 ≤ h.dst ∧ h.dst < f.slots.len := fun hw => by
      rcases hs'.1.2 with h1 | h1
      · rw [hw] at h1; cases h1
      · exact slotsB_mem h1 (by simp)
    generalize hnd : (Nd.mk h bao bb bo bl bc bp eao eb eo el ec ep) = nd
    have hh : nd.h = h := by rw [← hnd]; rfl
    have rd : ∀ {i}, i ∈ h.rds → Jd.read ⟨n, g, bt, L, f'⟩ nd i = Jd.read ⟨n, g, bt, l, f⟩ nd i := fun {i} hi => read_mo hm nd (slotsB_mem hrd hi)
    have eP : Jd.pre ⟨n, g, bt, L, f'⟩ nd s = Jd.pre ⟨n, g, bt, l, f⟩ nd s := rfl
    have eq1 : ∀ j : Jd, Nd.run j nd s = if j.pre nd s = false then none else stpO j nd s := fun j => by rw [← hnd]; unfold Nd.run; rfl
    rw [eq1, eq1, eP]
    have key : stpO ⟨n, g, bt, L, f'⟩ nd s = stpO ⟨n, g, bt, l, f⟩ nd s := by
      unfold stpO
      rw [hh]
      by_cases h14 : h.op = 14
      · rw [if_pos h14, if_pos h14]
        have e : Jd.sets ⟨n, g, bt, L, f'⟩ nd = Jd.sets ⟨n, g, bt, l, f⟩ nd := by
          unfold Jd.sets
          rw [hh, rd (i := h.a) (by rw [rds2 (by omega)]; simp), rd (i := h.b) (by rw [rds2 (by omega)]; simp)]
          dsimp only
          rw [hm.heap]
        rw [e]
      rw [if_neg h14, if_neg h14]
      by_cases h15 : h.op = 15
      · rw [if_pos h15, if_pos h15]
        have e : Jd.tells ⟨n, g, bt, L, f'⟩ nd = Jd.tells ⟨n, g, bt, l, f⟩ nd := by
          unfold Jd.tells
          rw [hh, rd (i := h.a) (by rw [rds1 (by omega)]; simp)]
          dsimp only
          rw [hm.heap]
        rw [e]
      rw [if_neg h15, if_neg h15]
      have hbd : nd.bd = ⟨bao, bb, bo, bl, bc, bp⟩ := by rw [← hnd]; rfl
      have hel : nd.el = ⟨eao, eb, eo, el, ec, ep⟩ := by rw [← hnd]; rfl
      have lists : h.op = 16 ∨ h.op = 17 → (∀ u, Jd.list ⟨n, g, bt, L, f'⟩ nd.bd u = Jd.list ⟨n, g, bt, l, f⟩ nd.bd u) ∧ ∀ u, Jd.list ⟨n, g, bt, L, f'⟩ nd.el u = Jd.list ⟨n, g, bt, l, f⟩ nd.el u := fun ho => by
        have hx := need_16 hn ho
        rw [hbd, hel]
        exact ⟨runTo_congr bl fun i hi s => ih1 i (of_decide_eq_true hx.1 i hi) s, runTo_congr el fun i hi s => ih2 i (of_decide_eq_true hx.2 i hi) s⟩
      by_cases h16 : h.op = 16
      · rw [if_pos h16, if_pos h16]
        obtain ⟨l1, l2⟩ := lists (Or.inl h16)
        unfold chO
        rw [hh, rd (i := h.a) (by rw [rds1 (by omega)]; simp)]
        dsimp only
        simp only [l1, l2]
        rfl
      rw [if_neg h16, if_neg h16]
      by_cases h17 : h.op = 17
      · rw [if_pos h17, if_pos h17]
        obtain ⟨l1, l2⟩ := lists (Or.inr h17)
        have hd := hdst (by unfold Hd.wrs; rw [h17]; rfl)
        unfold atO
        rw [hh]
        dsimp only
        simp only [l1, l2]
        rw [hm.ps h.dst.toNat (by omega)]
        rfl
      rw [if_neg h17, if_neg h17]
      by_cases h18 : h.op = 18
      · rw [if_pos h18, if_pos h18]
        unfold raO
        rw [hh, rd (i := h.a) (by rw [rds1 (by omega)]; simp)]
      rw [if_neg h18, if_neg h18]
      have hd := hdst (by unfold Hd.wrs; simp [h14, h15, h16, h18])
      have eM := makes_mo (n := n) (g := g) (bt := bt) (l := l) (L := L) hm nd (by rw [hh]; exact hrd) (by rw [hh]; omega) (fun h9 => by rw [hh] at h9 ⊢; have := need_9 hn h9; exact hL _ (by omega))
      unfold Jd.make
      rw [eM, hh]
      dsimp only
      rw [hm.ps h.dst.toNat (by omega)]
    rw [key]
theorem right_mo (hm : Mo t f f') {m : Nat} (hL : ∀ i, i < m → Mo t (l.ps i) (L.ps i)) (hs : f.body.shp n g m f.slots.len = true) (ho : f.out = -1 ∨ (0 ≤ f.out ∧ f.out < f.slots.len)) : Jd.right ⟨n, g, bt, L, f'⟩ = Jd.right ⟨n, g, bt, l, f⟩ := by
  unfold Ns.shp at hs
  have hx := of_decide_eq_true hs
  have e1 : Jd.start ⟨n, g, bt, L, f'⟩ = Jd.start ⟨n, g, bt, l, f⟩ := by unfold Jd.start; dsimp only; rw [hm.caps]
  have e2 : Jd.list ⟨n, g, bt, L, f'⟩ f.body (Jd.start ⟨n, g, bt, l, f⟩) = Jd.list ⟨n, g, bt, l, f⟩ f.body (Jd.start ⟨n, g, bt, l, f⟩) := by
    unfold Jd.list
    exact runTo_congr _ (fun i hi s => run_mo hm hL _ (hx i hi) s) _
  have e3 : ∀ s, Jd.ends ⟨n, g, bt, L, f'⟩ s = Jd.ends ⟨n, g, bt, l, f⟩ s := fun s => by
    unfold Jd.ends
    dsimp only
    rw [hm.exc, hm.out, hm.result]
    by_cases hq : (s.gone || f.out == -1) = true
    · simp only [if_pos hq]
    · have : f.out ≠ -1 := fun e => by rw [e] at hq; simp at hq
      rw [hm.ps f.out.toNat (by omega)]
  unfold Jd.right
  dsimp only
  rw [hm.body, e1, e2]
  cases Jd.list ⟨n, g, bt, l, f⟩ f.body (Jd.start ⟨n, g, bt, l, f⟩) with
  | none => rfl
  | some s => exact e3 s
end
theorem slots_math {n : Strs} {g : Grid} {l L : Fl} {t : Ty} {a b a' b' : Int} (hlen : L.len = l.len) (hM : ∀ i, i < l.len → Mo t (l.ps i) (L.ps i)) (hs : shdB n g l = true) (ht : okB n g t = true) (hl : ∀ i, i < l.len → (l.ps i).slots.len < 250) (h1 : ChkR n g l a b) (h2 : ChkR n g L a' b') : a = a' ∧ b = b' := by
  have hs' : shdB n g L = true := by
    have h0 := hs
    unfold shdB at h0 ⊢
    rw [hlen]
    simp only [Bool.and_eq_true, decide_eq_true_eq] at h0 ⊢
    exact ⟨h0.1, fun i hi => hld_more (hM i hi) (h0.2 i hi) ht (hl i hi)⟩
  have hr : ∀ i, i < l.len → (jdg n g L i).right = (jdg n g l i).right := fun i hi => by
    have hp := hld_parts (shd_fn hs hi)
    exact right_mo (n := n) (g := g) (bt := botI n g) (l := l) (L := L) (hM i hi) hM hp.1.2.2 hp.2.1
  rcases h1 with ⟨h, _, _⟩ | ⟨_, k, hk, hr1, hw, ha, hb⟩ | ⟨_, hr1, ha, hb⟩
  · rw [hs] at h; cases h
  · rcases h2 with ⟨h, _, _⟩ | ⟨_, k', hk', hr1', hw', ha', hb'⟩ | ⟨_, hr1', _, _⟩
    · rw [hs'] at h; cases h
    · have e : k' = k := by
        rcases Nat.lt_trichotomy k' k with h | h | h
        · have := hr1 k' h
          rw [← hr k' (by omega), hw'] at this
          cases this
        · exact h
        · have := hr1' k h
          rw [hr k hk, hw] at this
          cases this
      exact ⟨by rw [ha, ha', e], by rw [hb, hb']⟩
    · have := hr1' k (by omega)
      rw [hr k hk, hw] at this
      cases this
  · rcases h2 with ⟨h, _, _⟩ | ⟨_, k', hk', hr1', hw', ha', hb'⟩ | ⟨_, hr1', ha', hb'⟩
    · rw [hs'] at h; cases h
    · have := hr1 k' (by omega)
      rw [← hr k' (by omega), hw'] at this
      cases this
    · exact ⟨by rw [ha, ha'], by rw [hb, hb']⟩
end Go.Proofs.Ytbdhbgilaeldgaa

/- Layer 2: bound's variables, and what it answers. -/
namespace Go.Proofs.Ytbdhbgilaeldgaa
open Go.RowKit

/-- What bound answers. -/
def BP (w : World) (n : Strs) (g : Grid) (s t : Ty) (up : Bool) (e : Ending) (w' : World) : Prop :=
  ∃ u : Ty, e = .returned (.tuple #[.agg #[.int .i64 u.k, .int .i64 u.l, .slice u.ao u.len u.cap, .int .i64 u.h, .int .i64 u.e], .bool (s.bok t)]) ∧ u.At w' ∧ u.Blk (fun b => w.heap.size ≤ b) ∧ ((s.bok t = true → u.same (s.bnd n g t up) = true) ∧ (s.bok t = false → u = leafT 0 0)) ∧ Below w.heap.size w w'
theorem BP.intro {w : World} {n : Strs} {g : Grid} {s t : Ty} {up : Bool} {e : Ending} {w' : World} (u : Ty) (h1 : e = .returned (.tuple #[.agg #[.int .i64 u.k, .int .i64 u.l, .slice u.ao u.len u.cap, .int .i64 u.h, .int .i64 u.e], .bool (s.bok t)])) (h2 : u.At w') (h3 : u.Blk (fun b => w.heap.size ≤ b)) (h4 : (s.bok t = true → u.same (s.bnd n g t up) = true) ∧ (s.bok t = false → u = leafT 0 0)) (h5 : Below w.heap.size w w') : BP w n g s t up e w' := ⟨u, h1, h2, h3, h4, h5⟩
theorem BP.no {w : World} {n : Strs} {g : Grid} {s t : Ty} {up : Bool} {w' : World} (hk : s.bok t = false) (h5 : Below w.heap.size w w') : BP w n g s t up (.returned (.tuple #[.agg #[.int .i64 0, .int .i64 0, .slice none 0 0, .int .i64 0, .int .i64 0], .bool false])) w' :=
  ⟨leafT 0 0, by rw [hk]; rfl, leaf_at _ _ _, ⟨fun h => absurd h (Nat.lt_irrefl _), fun _ h => absurd h (Nat.not_lt_zero _)⟩, ⟨fun h => (by rw [hk] at h; cases h), fun _ => rfl⟩, h5⟩

structure BBox (w w0 : World) (n : Strs) (g : Grid) (s t : Ty) : Prop where
  bl : Below w.heap.size w w0
  sz : w.heap.size + 4 ≤ w0.heap.size
  l : Bl w0 w.heap.size n g
  x : Bx w0 (w.heap.size + 1) s
  y : Bx w0 (w.heap.size + 2) t
  r : Bx w0 (w.heap.size + 3) (leafT 0 0)
  fr : ∀ i, i < 5 → w0.frozen? ⟨w.heap.size + 3, i, none⟩ = false
theorem BBox.step {w w0 w1 : World} {n : Strs} {g : Grid} {s t : Ty} (h : BBox w w0 n g s t) (hb : Below w0.heap.size w0 w1) : BBox w w1 n g s t :=
  ⟨h.bl.trans (hb.mono (by have := h.sz; omega)), Nat.le_trans h.sz hb.size, h.l.kept hb, h.x.kept hb, h.y.kept hb, h.r.kept hb, fun i hi => (hb.frozen (p := ⟨w.heap.size + 3, i, none⟩) (by have := h.sz; show w.heap.size + 3 < _; omega)).trans (h.fr i hi)⟩
theorem bbox_new (w : World) (n : Strs) (g : Grid) (s t : Ty) : BBox w ((((w.alloc (latO n g)).alloc (tyO s)).alloc (tyO t)).alloc (.cells #[.int .i64 0, .int .i64 0, .slice none 0 0, .int .i64 0, .int .i64 0] 39)) n g s t := by
  obtain ⟨L0, X0, Y0, B0⟩ := start_ltt w n g s t
  have ba := below_alloc (((w.alloc (latO n g)).alloc (tyO s)).alloc (tyO t)) (.cells #[.int .i64 0, .int .i64 0, .slice none 0 0, .int .i64 0, .int .i64 0] 39)
  have e3 : (((w.alloc (latO n g)).alloc (tyO s)).alloc (tyO t)).heap.size = w.heap.size + 3 := by rw [alloc_size, alloc_size, alloc_size]
  refine ⟨Below.next B0 ba, by rw [alloc_size, e3]; omega, L0.kept ba, X0.kept ba, Y0.kept ba, ?_, fun i hi => ?_⟩
  · rw [← e3]
    exact Bx.new _ (leafT 0 0)
  · rw [← e3]
    exact frozen_new _ _ _ _
end Go.Proofs.Ytbdhbgilaeldgaa

/- Layer 2: bound's own variable and the row that it grows. -/
namespace Go.Proofs.Ytbdhbgilaeldgaa
open Go.RowKit

/-- The variable b: its five cells, at a block of the call's own. -/
structure BV (w x : World) (B : Nat) (k l h e : Int) (v : Value) : Prop where
  ge : w.heap.size + 4 ≤ B
  c0 : x.cell? ⟨B, 0, none⟩ = some (.int .i64 k)
  c1 : x.cell? ⟨B, 1, none⟩ = some (.int .i64 l)
  c2 : x.cell? ⟨B, 2, none⟩ = some v
  c3 : x.cell? ⟨B, 3, none⟩ = some (.int .i64 h)
  c4 : x.cell? ⟨B, 4, none⟩ = some (.int .i64 e)
  f : ∀ i, i < 5 → x.frozen? ⟨B, i, none⟩ = false
theorem BV.agree {w x x' : World} {B : Nat} {k l h e : Int} {v : Value} (H : BV w x B k l h e v) (ag : x'.heap[B]? = x.heap[B]?) : BV w x' B k l h e v :=
  ⟨H.ge, (World.cell?_of_block (w := x) ag).trans H.c0, (World.cell?_of_block (w := x) ag).trans H.c1, (World.cell?_of_block (w := x) ag).trans H.c2, (World.cell?_of_block (w := x) ag).trans H.c3, (World.cell?_of_block (w := x) ag).trans H.c4, fun i hi => (World.frozen?_of_block (w := x) ag).trans (H.f i hi)⟩
theorem BV.lt {w x : World} {B : Nat} {k l h e : Int} {v : Value} (H : BV w x B k l h e v) : B < x.heap.size := cell_lt H.c0
theorem BV.kept {w x x' : World} {B : Nat} {k l h e : Int} {v : Value} (H : BV w x B k l h e v) (hb : Below x.heap.size x x') : BV w x' B k l h e v :=
  H.agree (hb.block B H.lt)
theorem BV.set2 {w x : World} {B : Nat} {k l h e : Int} {v : Value} (H : BV w x B k l h e v) (u : Value) : BV w (x.setCell ⟨B, 2, none⟩ u) B k l h e u :=
  ⟨H.ge, by rw [World.cell?_setCell_other _ _ _ _ (by simp)]; exact H.c0, by rw [World.cell?_setCell_other _ _ _ _ (by simp)]; exact H.c1, World.cell?_setCell_same _ _ _ H.c2, by rw [World.cell?_setCell_other _ _ _ _ (by simp)]; exact H.c3, by rw [World.cell?_setCell_other _ _ _ _ (by simp)]; exact H.c4, fun i hi => by rw [World.frozen?_setCell]; exact H.f i hi⟩
theorem BV.set3 {w x : World} {B : Nat} {k l h e : Int} {v : Value} (H : BV w x B k l h e v) (u : Int) : BV w (x.setCell ⟨B, 3, none⟩ (.int .i64 u)) B k l u e v :=
  ⟨H.ge, by rw [World.cell?_setCell_other _ _ _ _ (by simp)]; exact H.c0, by rw [World.cell?_setCell_other _ _ _ _ (by simp)]; exact H.c1, by rw [World.cell?_setCell_other _ _ _ _ (by simp)]; exact H.c2, World.cell?_setCell_same _ _ _ H.c3, by rw [World.cell?_setCell_other _ _ _ _ (by simp)]; exact H.c4, fun i hi => by rw [World.frozen?_setCell]; exact H.f i hi⟩
theorem BV.set4 {w x : World} {B : Nat} {k l h e : Int} {v : Value} (H : BV w x B k l h e v) (u : Int) : BV w (x.setCell ⟨B, 4, none⟩ (.int .i64 u)) B k l h u v :=
  ⟨H.ge, by rw [World.cell?_setCell_other _ _ _ _ (by simp)]; exact H.c0, by rw [World.cell?_setCell_other _ _ _ _ (by simp)]; exact H.c1, by rw [World.cell?_setCell_other _ _ _ _ (by simp)]; exact H.c2, by rw [World.cell?_setCell_other _ _ _ _ (by simp)]; exact H.c3, World.cell?_setCell_same _ _ _ H.c4, fun i hi => by rw [World.frozen?_setCell]; exact H.f i hi⟩
theorem Bl.agree {w w' : World} {B : Nat} {n : Strs} {g : Grid} (h : Bl w B n g) (e : w'.heap[B]? = w.heap[B]?) : Bl w' B n g :=
  ⟨(World.cell?_of_block (w := w) e).trans h.c0, (World.cell?_of_block (w := w) e).trans h.c1⟩
/-- The parameters' variables, where the blocks of them are as they were. -/
theorem BBox.agree {w x x' : World} {n : Strs} {g : Grid} {s t : Ty} (h : BBox w x n g s t) (hbl : Below w.heap.size w x') (hsz : x.heap.size ≤ x'.heap.size) (ag : ∀ b, b < w.heap.size + 4 → x'.heap[b]? = x.heap[b]?) : BBox w x' n g s t :=
  ⟨hbl, Nat.le_trans h.sz hsz, h.l.agree (ag _ (by omega)), h.x.agree (ag _ (by omega)), h.y.agree (ag _ (by omega)), h.r.agree (ag _ (by omega)), fun i hi => (World.frozen?_of_block (w := x) (ag _ (by show w.heap.size + 3 < _; omega))).trans (h.fr i hi)⟩
theorem BBox.set {w x : World} {n : Strs} {g : Grid} {s t : Ty} (h : BBox w x n g s t) {B : Nat} (hB : w.heap.size + 4 ≤ B) (i : Nat) (u : Value) : BBox w (x.setCell ⟨B, i, none⟩ u) n g s t :=
  h.agree (h.bl.setCell (by show w.heap.size ≤ B; omega) _) (by simp [World.setCell]) (fun b hb => Below.heap_setCell _ _ _ _ (by show b ≠ B; omega))
/-- A variable of five cells that a region makes, before the call or behind it. -/
theorem BV.new (w x : World) (h4 : w.heap.size + 4 ≤ x.heap.size) (k l : Int) : BV w (x.alloc (.cells #[.int .i64 k, .int .i64 l, .slice none 0 0, .int .i64 0, .int .i64 0] 39)) x.heap.size k l 0 0 (.slice none 0 0) :=
  ⟨h4, by simp, by simp, by simp, by simp, by simp, fun i _ => frozen_new _ _ _ _⟩
theorem BV.put {w x : World} {B : Nat} (h : Bx x B (leafT 0 0)) (hf : ∀ i, i < 5 → x.frozen? ⟨B, i, none⟩ = false) (h4 : w.heap.size + 4 ≤ B) (k l : Int) : BV w (World.put5 x B (.int .i64 k) (.int .i64 l) (.slice none 0 0) (.int .i64 0) (.int .i64 0)) B k l 0 0 (.slice none 0 0) := by
  obtain ⟨e0, e1, e2, e3, e4⟩ := put5_cells (.int .i64 k) (.int .i64 l) (.slice none 0 0) (.int .i64 0) (.int .i64 0) h hf
  exact ⟨h4, e0, e1, e2, e3, e4, fun i hi => by rw [put5_frozen]; exact hf i hi⟩

/-- A row of j types that v owns, in blocks from base on. -/
structure GR (base : Nat) (x : World) (v : Value) (j : Nat) (ts : Nat → Ty) : Prop where
  own : x.ownsRow base 39 5 v j (flatT ts j)
  at' : ∀ i, i < j → (ts i).At x
  blk : ∀ i, i < j → (ts i).Blk (fun b => base ≤ b ∧ some b ≠ v.ownBlock)
theorem GR.start (base : Nat) (x : World) (ts : Nat → Ty) : GR base x (.slice none 0 0) 0 ts :=
  ⟨World.ownsRow_nil _ _ _ _, fun _ h => absurd h (Nat.not_lt_zero _), fun _ h => absurd h (Nat.not_lt_zero _)⟩
theorem own_agree {w w' : World} {base : Nat} {e : TypeId} {size : Nat} {v : Value} {n : Nat} {xs : List Value} (h : w.ownsRow base e size v n xs) (ag : ∀ b, base ≤ b → b < w.heap.size → w'.heap[b]? = w.heap[b]?) : w'.ownsRow base e size v n xs := by
  obtain ⟨h1, h2⟩ := h
  refine ⟨h1, ?_⟩
  rcases h2 with h2 | ⟨g, cap, cur, hv, hg, hh, r⟩
  · exact Or.inl h2
  · exact Or.inr ⟨g, cap, cur, hv, hg, (ag g hg (Array.getElem?_eq_some_iff.1 hh).1).trans hh, r⟩
theorem GR.agree {base : Nat} {x x' : World} {v : Value} {j : Nat} {ts : Nat → Ty} (h : GR base x v j ts) (ag : ∀ b, base ≤ b → b < x.heap.size → x'.heap[b]? = x.heap[b]?) : GR base x' v j ts :=
  ⟨own_agree h.own ag, fun i hi => Ty.At.agree (Q := fun b => (base ≤ b ∧ some b ≠ v.ownBlock) ∧ b < x.heap.size) (fun b hq => ag b hq.1.1 hq.2) (h.at' i hi) ((h.blk i hi).and (h.at' i hi).lt), h.blk⟩
theorem GR.kept {base : Nat} {x x' : World} {v : Value} {j : Nat} {ts : Nat → Ty} (h : GR base x v j ts) (hb : Below x.heap.size x x') : GR base x' v j ts :=
  h.agree (fun b _ hlt => hb.block b hlt)
theorem GR.push {base : Nat} {wr w1 w3 : World} {v : Value} {j : Nat} {ts : Nat → Ty} {t : Ty} {gg cap : Nat} (h : GR base wr v j ts) (hs : base ≤ wr.heap.size) (hb : Below wr.heap.size wr w1) (ht : t.At w1) (hk : t.Blk (fun b => wr.heap.size ≤ b))
    (hown : w3.ownsRow base 39 5 (.slice (some ⟨gg, 0, none⟩) (j + 1) cap) (j + 1) (flatT ts j ++ t.vs)) (hgrow : (w1.alloc (tyO t)).grownBy w3 v.ownBlock) (hat : v.ownBlock = some gg ∨ gg = w1.heap.size + 1) :
    GR base w3 (.slice (some ⟨gg, 0, none⟩) (j + 1) cap) (j + 1) (fun i => if i < j then ts i else t) ∧ (∀ b, b < base → w3.heap[b]? = wr.heap[b]?) ∧ wr.heap.size ≤ w3.heap.size ∧ (∀ w : World, w.heap.size ≤ base → Below w.heap.size w wr → Below w.heap.size w w3) := by
  have s2 := hb.size
  have ba := below_alloc w1 (tyO t)
  have sz : (w1.alloc (tyO t)).heap.size = w1.heap.size + 1 := alloc_size _ _
  have old1 : ∀ b, b < w1.heap.size → some b ≠ v.ownBlock → w3.heap[b]? = w1.heap[b]? := fun b hb1 hne => (hgrow.block b (by rw [sz]; omega) hne).trans (ba.block b hb1)
  have old : ∀ b, b < wr.heap.size → some b ≠ v.ownBlock → w3.heap[b]? = wr.heap[b]? := fun b hb1 hne => (old1 b (by omega) hne).trans (hb.block b hb1)
  have lt : ∀ b, v.ownBlock = some b → b < wr.heap.size := fun b hb' => own_lt h.own hb'
  have nat : t.At w3 := Ty.At.agree (Q := fun b => wr.heap.size ≤ b ∧ b < w1.heap.size) (fun b hq => old1 b hq.2 (fun e => by have := lt b e.symm; omega)) ht (hk.and ht.lt)
  have sz3 := hgrow.size
  refine ⟨⟨?_, fun i hi => ?_, fun i hi => ?_⟩, fun b hb1 => old b (by omega) (fun e => by have := own_ge h.own e.symm; omega), by omega, fun w hw hbl => ?_⟩
  · have e : flatT (fun i => if i < j then ts i else t) (j + 1) = flatT ts j ++ t.vs := by
      show flatT (fun i => if i < j then ts i else t) j ++ (if j < j then ts j else t).vs = _
      rw [flat_congr j (us := ts) (fun i hi => by simp [hi]), if_neg (Nat.lt_irrefl _)]
    rw [e]; exact hown
  · by_cases hij : i < j
    · simp only [hij, if_true]
      exact Ty.At.agree (Q := fun b => (base ≤ b ∧ some b ≠ v.ownBlock) ∧ b < wr.heap.size) (fun b hq => old b hq.2 hq.1.2) (h.at' i hij) ((h.blk i hij).and (h.at' i hij).lt)
    · simp only [hij, if_false]
      exact nat
  · have key : ∀ b, (b < wr.heap.size ∧ some b ≠ v.ownBlock) ∨ (wr.heap.size ≤ b ∧ b < w1.heap.size) → some b ≠ (Value.slice (some ⟨gg, 0, none⟩) (j + 1) cap).ownBlock := fun b hq e => by
      have e' : b = gg := by simpa [Value.ownBlock] using e
      subst e'
      rcases hat with hat | hat
      · rcases hq with hq | hq
        · exact hq.2 hat.symm
        · have := lt b hat; omega
      · rcases hq with hq | hq <;> omega
    by_cases hij : i < j
    · simp only [hij, if_true]
      exact ((h.blk i hij).and (h.at' i hij).lt).mono (fun b hq => ⟨hq.1.1, key b (Or.inl ⟨hq.2, hq.1.2⟩)⟩)
    · simp only [hij, if_false]
      exact (hk.and ht.lt).mono (fun b hq => ⟨by omega, key b (Or.inr hq)⟩)
  · refine ⟨hgrow.os.trans (ba.os.trans (hb.os.trans hbl.os)), hgrow.tape.trans (ba.tape.trans (hb.tape.trans hbl.tape)), hgrow.output.trans (ba.output.trans (hb.output.trans hbl.output)), by have := hbl.size; omega, fun b hb1 => ?_⟩
    rw [old b (by omega) (fun e => by have := own_ge h.own e.symm; omega)]
    exact hbl.block b hb1
/-- The row's type. -/
theorem GR.ty {base : Nat} {wr : World} {v : Value} {j : Nat} {ts : Nat → Ty} (h : GR base wr v j ts) (hj : j ≤ 9223372036854775807) : ∃ (ao : Option Addr) (gg cap : Nat), v = .slice ao j cap ∧ ∀ k l hh e, Ty.At wr (.mk k l hh e ao gg 0 j cap ts) ∧ Ty.Blk (fun b => base ≤ b) (.mk k l hh e ao gg 0 j cap ts) := by
  by_cases h0 : 0 < j
  · obtain ⟨gg, cap, rfl, hge, _⟩ := h.own.form h0
    refine ⟨_, gg, cap, rfl, fun k l hh e => ⟨⟨fun _ => rfl, hj, fun i hi => ⟨?_, h.at' i hi⟩⟩, fun _ => hge, fun i hi => (h.blk i hi).mono (fun b hq => hq.1)⟩⟩
    have get : ∀ q, q < 5 → wr.cell? ⟨gg, 0 + i * 5 + q, none⟩ = (ts i).vs[q]? := fun q hq => by
      rw [Nat.zero_add, h.own.cellAt (i * 5 + q) (by omega), flat_get ts j i q hi hq]
    exact ⟨get 0 (by omega), get 1 (by omega), get 2 (by omega), get 3 (by omega), get 4 (by omega)⟩
  · have e : j = 0 := by omega
    subst e
    obtain ⟨_, ⟨rfl, _⟩ | ⟨gb, cap, cur, rfl, hg, _⟩⟩ := h.own
    · exact ⟨none, 0, 0, rfl, fun k l hh e => ⟨⟨fun h => absurd h (Nat.lt_irrefl _), hj, fun _ h => absurd h (Nat.not_lt_zero _)⟩, fun h => absurd h (Nat.lt_irrefl _), fun _ h => absurd h (Nat.not_lt_zero _)⟩⟩
    · exact ⟨_, gb, cap, rfl, fun k l hh e => ⟨⟨fun _ => rfl, hj, fun _ h => absurd h (Nat.not_lt_zero _)⟩, fun h => absurd h (Nat.lt_irrefl _), fun _ h => absurd h (Nat.not_lt_zero _)⟩⟩
end Go.Proofs.Ytbdhbgilaeldgaa
