/- Layer 15: all handlers in one go: the mathematics. -/
import Derived.Test.YtmajlfocfjcgmaaGreatDoorP16
import Derived.Deep.CutBlock
namespace Go.Proofs.YtmajlfocfjcgmaaGreatDoor
open Go Go.RowKit

theorem nvL_congr {a b : Nat → Int} {n : Nat} (h : ∀ p, p < n → a p = b p) : nvL a n = nvL b n := by
  unfold nvL
  apply List.map_congr_left
  intro i hi
  rw [h i (List.mem_range.1 hi)]
/-- The first of j handlers that holds a number. -/
def Cf.fnd (f : Cf) (j : Nat) (p : Int) : Option Nat := (List.range j).find? (f.hit p)
def Cf.SJ (f : Cf) (j : Nat) (p : Nat) : Prop := p < f.cd.len ∧ (f.fnd j p).isSome = true
def Cf.vJ (f : Cf) (j : Nat) (p : Nat) : Int := match f.fnd j p with | some i => (f.hd.x i).at_ | none => -1
theorem Cf.vJ_end (f : Cf) (p : Nat) : f.vJ f.hd.len p = f.han p := rfl
theorem Cf.vJ_zero (f : Cf) (p : Nat) : f.vJ 0 p = -1 := rfl
theorem Cf.SJ_zero (f : Cf) : f.SJ 0 = fun _ => False := by
  funext p; apply propext
  exact ⟨fun h => by have := h.2; simp [Cf.fnd] at this, fun h => h.elim⟩
theorem Cf.fnd_succ (f : Cf) (j : Nat) (p : Int) : f.fnd (j + 1) p = match f.fnd j p with | some i => some i | none => if f.hit p j = true then some j else none := by
  unfold Cf.fnd
  rw [List.range_succ, List.find?_append]
  cases (List.range j).find? (f.hit p) with
  | some i => rfl
  | none =>
    simp only [Option.none_or]
    cases hh : f.hit p j <;> simp [hh]
theorem Cf.SJ_end (f : Cf) (j : Nat) : ¬ f.SJ j f.cd.len := fun h => Nat.lt_irrefl _ h.1
def Cf.sIn (f : Cf) (j lo : Nat) (hi : Int) (r p : Nat) : Prop := f.SJ j p ∨ ((lo ≤ p ∧ p < r) ∧ (p : Int) < hi)
def Cf.vIn (f : Cf) (j lo : Nat) (hi x : Int) (r p : Nat) : Int := if (f.fnd j p).isSome = false ∧ (lo ≤ p ∧ p < r) ∧ (p : Int) < hi then x else f.vJ j p
theorem Cf.in_start {f : Cf} {j lo r : Nat} {hi x : Int} (h : FrR f.cd.len (f.SJ j) lo r) : f.sIn j lo hi r = f.SJ j ∧ f.vIn j lo hi x r = f.vJ j := by
  constructor
  · funext p; apply propext
    exact ⟨fun h1 => h1.elim id (fun h2 => h.all p h2.1.1 h2.1.2), Or.inl⟩
  · funext p
    unfold Cf.vIn
    rw [if_neg]
    rintro ⟨h1, h2, _⟩
    have := (h.all p h2.1 h2.2).2
    rw [h1] at this
    cases this
theorem Cf.in_step {f : Cf} {j lo r r' : Nat} {hi x : Int} (hr : ¬ f.sIn j lo hi r r) (hlt : (r : Int) < hi) (hn : r < f.cd.len) (hlo : lo ≤ r) (h : FrR f.cd.len (fun p => f.sIn j lo hi r p ∨ p = r) r r') :
    r < r' ∧ (fun p => f.sIn j lo hi r p ∨ p = r) = f.sIn j lo hi r' ∧ updI (f.vIn j lo hi x r) r x = f.vIn j lo hi x r' := by
  have h1 := h.ge (by omega)
  have h2 : r ≠ r' := fun e => h.no (Or.inr e.symm)
  have hrr : r < r' := by omega
  have key : ∀ p, r < p → p < r' → f.SJ j p := fun p h3 h4 => by
    rcases h.all p (by omega) h4 with (h5 | h5) | h5
    · exact h5
    · omega
    · omega
  refine ⟨hrr, ?_, ?_⟩
  · funext p; apply propext
    constructor
    · rintro ((h3 | h3) | h3)
      · exact Or.inl h3
      · exact Or.inr ⟨⟨h3.1.1, by omega⟩, h3.2⟩
      · subst h3; exact Or.inr ⟨⟨hlo, hrr⟩, hlt⟩
    · rintro (h3 | ⟨⟨h3, h4⟩, h5⟩)
      · exact Or.inl (Or.inl h3)
      · by_cases e1 : p < r
        · exact Or.inl (Or.inr ⟨⟨h3, e1⟩, h5⟩)
        · by_cases e2 : p = r
          · exact Or.inr e2
          · exact Or.inl (Or.inl (key p (by omega) h4))
  · funext p
    unfold updI
    by_cases e : p = r
    · subst e
      rw [if_pos rfl]
      unfold Cf.vIn
      rw [if_pos]
      refine ⟨?_, ⟨hlo, hrr⟩, hlt⟩
      cases hs : (f.fnd j (p : Int)).isSome
      · rfl
      · exact absurd (Or.inl ⟨hn, hs⟩) hr
    · rw [if_neg e]
      unfold Cf.vIn
      by_cases e1 : p < r
      · by_cases c : (f.fnd j (p : Int)).isSome = false ∧ (lo ≤ p ∧ p < r) ∧ (p : Int) < hi
        · rw [if_pos c, if_pos ⟨c.1, ⟨c.2.1.1, by omega⟩, c.2.2⟩]
        · rw [if_neg c, if_neg]
          rintro ⟨c1, c2, c3⟩
          exact c ⟨c1, ⟨c2.1, e1⟩, c3⟩
      · rw [if_neg (fun c => e1 c.2.1.2), if_neg]
        rintro ⟨c1, c2, c3⟩
        have := (key p (by omega) c2.2).2
        rw [c1] at this
        cases this
theorem Cf.in_done {f : Cf} {j lo r : Nat} {hi : Int} (hl : (lo : Int) = max (f.hd.x j).fr 0) (hh : hi = min (f.hd.x j).to f.cd.len) (hge : ¬ (r : Int) < hi) :
    f.sIn j lo hi r = f.SJ (j + 1) ∧ ∀ p, p < f.cd.len → f.vIn j lo hi (f.hd.x j).at_ r p = f.vJ (j + 1) p := by
  have hhit : ∀ p : Nat, p < f.cd.len → (f.hit p j = true ↔ lo ≤ p ∧ (p : Int) < hi) := fun p hp => by
    unfold Cf.hit
    simp only [Bool.and_eq_true, decide_eq_true_eq]
    omega
  constructor
  · funext p; apply propext
    unfold Cf.sIn Cf.SJ
    rw [Cf.fnd_succ]
    constructor
    · rintro (⟨h1, h2⟩ | ⟨⟨h1, h2⟩, h3⟩)
      · refine ⟨h1, ?_⟩
        cases hf : f.fnd j (p : Int) with
        | some i => rfl
        | none => rw [hf] at h2; cases h2
      · have hp : p < f.cd.len := by omega
        refine ⟨hp, ?_⟩
        cases hf : f.fnd j (p : Int) with
        | some i => rfl
        | none => simp only [if_pos ((hhit p hp).2 ⟨h1, h3⟩)]; rfl
    · rintro ⟨h1, h2⟩
      cases hf : f.fnd j (p : Int) with
      | some i => exact Or.inl ⟨h1, rfl⟩
      | none =>
        rw [hf] at h2
        simp only at h2
        by_cases c : f.hit p j = true
        · have := (hhit p h1).1 c
          exact Or.inr ⟨⟨this.1, by omega⟩, this.2⟩
        · rw [if_neg c] at h2; cases h2
  · intro p hp
    unfold Cf.vIn Cf.vJ
    rw [Cf.fnd_succ]
    cases hf : f.fnd j (p : Int) with
    | some i => rw [if_neg (fun c => by have := c.1; cases this)]
    | none =>
      by_cases c : f.hit p j = true
      · have := (hhit p hp).1 c
        simp only [if_pos c]
        rw [if_pos ⟨rfl, ⟨this.1, by omega⟩, this.2⟩]
      · simp only [if_neg c]
        rw [if_neg]
        rintro ⟨_, c2, c3⟩
        exact c ((hhit p hp).2 ⟨c2.1, c3⟩)

/-- The rows of handlers and of leaps, the function's box. -/
structure Hs (w : World) (f : Cf) (BA BH : Nat) (v : Nat → Int) (S : Nat → Prop) (a : Nat → Int) (u : World) : Prop where
  x : Fb w f w.heap.size u
  bA : Blk u BA (nvL v f.cd.len) 3
  ah : Ah f.cd.len S a
  bH : Blk u BH (nvL a (f.cd.len + 1)) 3
  ne : w.heap.size < BA ∧ w.heap.size < BH ∧ BA ≠ BH
theorem Hs.kept {w : World} {f : Cf} {BA BH : Nat} {v : Nat → Int} {S : Nat → Prop} {a : Nat → Int} {u u' : World} (h : Hs w f BA BH v S a u) (hb : Below u.heap.size u u') : Hs w f BA BH v S a u' :=
  ⟨h.x.kept hb, h.bA.kept hb, h.ah, h.bH.kept hb, h.ne⟩
theorem Blk.gb {w w' : World} {B : Nat} {c : List Value} {t : TypeId} {r : Option Nat} (h : Blk w B c t) (hg : w.grownBy w' r) (hne : some B ≠ r) : Blk w' B c t := by
  unfold Blk; rw [hg.block B h.lt hne]; exact h
theorem Hs.ax {w : World} {f : Cf} {BA BH : Nat} {v : Nat → Int} {S S' : Nat → Prop} {a a' : Nat → Int} {u u' : World} (h : Hs w f BA BH v S a u) (hx : Ax u BH f.cd.len S' a' u') : Hs w f BA BH v S' a' u' :=
  ⟨h.x.grown hx.g (fun k hk => by cases hk; have := h.ne; omega), h.bA.gb hx.g (fun e => h.ne.2.2 (Option.some.inj e)), hx.ah, hx.b, h.ne⟩
theorem Hs.setH {w : World} {f : Cf} {BA BH : Nat} {v : Nat → Int} {S : Nat → Prop} {a : Nat → Int} {u u' : World} (h : Hs w f BA BH v S a u) {r : Nat} (hr : r < f.cd.len) (W : WroteB u u' BH ((nvL a (f.cd.len + 1)).set r (.int .i64 ((r : Int) + 1))) 3) : Hs w f BA BH v (fun p => S p ∨ p = r) (updI a r ((r : Int) + 1)) u' :=
  ⟨h.x.grown W.gb (fun k hk => by cases hk; have := h.ne; omega), h.bA.gb W.gb (fun e => h.ne.2.2 (Option.some.inj e)), h.ah.take hr, by rw [← nvL_set]; exact W.blk, h.ne⟩
theorem Hs.setA {w : World} {f : Cf} {BA BH : Nat} {v : Nat → Int} {S : Nat → Prop} {a : Nat → Int} {u u' : World} (h : Hs w f BA BH v S a u) {r : Nat} {x : Int} (W : WroteB u u' BA ((nvL v f.cd.len).set r (.int .i64 x)) 3) : Hs w f BA BH (updI v r x) S a u' :=
  ⟨h.x.grown W.gb (fun k hk => by cases hk; have := h.ne; omega), by rw [← nvL_set]; exact W.blk, h.ah, h.bH.gb W.gb (fun e => h.ne.2.2 (Option.some.inj e).symm), h.ne⟩
theorem Hs.to {w : World} {f : Cf} {BA BH : Nat} {v v' : Nat → Int} {S S' : Nat → Prop} {a : Nat → Int} {u : World} (h : Hs w f BA BH v S a u) (hv : ∀ p, p < f.cd.len → v p = v' p) (hS : S = S') : Hs w f BA BH v' S' a u := by
  subst hS
  exact ⟨h.x, by rw [← nvL_congr hv]; exact h.bA, h.ah, h.bH, h.ne⟩
end Go.Proofs.YtmajlfocfjcgmaaGreatDoor

/- Layer 15: all handlers in one go. -/
namespace Go.Proofs.YtmajlfocfjcgmaaGreatDoor
open Go Go.RowKit

/-- Where the leaps are laid: those up to j are. -/
def ahI (j : Nat) : Nat → Int := fun i => if i < j then (i : Int) else 0
theorem ahI_step (j : Nat) : updI (ahI j) j j = ahI (j + 1) := by
  funext i
  unfold updI ahI
  by_cases e : i = j
  · subst e; rw [if_pos rfl, if_pos (by omega)]
  · rw [if_neg e]
    by_cases h : i < j
    · rw [if_pos h, if_pos (by omega)]
    · rw [if_neg h, if_neg (by omega)]
theorem ahI_ah (n : Nat) : Ah n (fun _ => False) (ahI (n + 1)) := by
  have e : ∀ k, k ≤ n → ahI (n + 1) k = k := fun k hk => by unfold ahI; rw [if_pos (by omega)]
  exact ⟨fun k hk => by rw [e k hk]; omega, fun k hk => by rw [e k hk]; simp, fun k j hk h1 h2 => by rw [e k hk] at h2; omega⟩
theorem Ah.congr {n : Nat} {S : Nat → Prop} {a b : Nat → Int} (h : Ah n S a) (e : a = b) : Ah n S b := e ▸ h
structure Hi (w : World) (f : Cf) (BA BH : Nat) (j : Nat) (u : World) : Prop where
  x : Fb w f w.heap.size u
  bA : Blk u BA (nvL (f.vJ 0) f.cd.len) 3
  bH : Blk u BH (nvL (ahI j) (f.cd.len + 1)) 3
  ne : w.heap.size < BA ∧ w.heap.size < BH ∧ BA ≠ BH
theorem Hi.set {w : World} {f : Cf} {BA BH j : Nat} {u u' : World} (h : Hi w f BA BH j u) (W : WroteB u u' BH ((nvL (ahI j) (f.cd.len + 1)).set j (.int .i64 j)) 3) : Hi w f BA BH (j + 1) u' :=
  ⟨h.x.grown W.gb (fun k hk => by cases hk; have := h.ne; omega), h.bA.gb W.gb (fun e => h.ne.2.2 (Option.some.inj e)), by rw [← ahI_step, ← nvL_set]; exact W.blk, h.ne⟩
theorem Hi.hs {w : World} {f : Cf} {BA BH : Nat} {u : World} (h : Hi w f BA BH (f.cd.len + 1) u) : Hs w f BA BH (f.vJ 0) (f.SJ 0) (ahI (f.cd.len + 1)) u :=
  ⟨h.x, h.bA, by rw [Cf.SJ_zero]; exact ahI_ah _, h.bH, h.ne⟩

set_option maxRecDepth 100000 in
set_option maxHeartbeats 16000000 in
theorem allHandlers_any (f : Cf) (w : World) (hf : f.At w) (hn : f.cd.len ≤ 100000) : Calls Tryz.prog 20 #[.agg f.vs.toArray] w fun e w' => ∃ B, e = .returned (.slice (some ⟨B, 0, none⟩) f.cd.len f.cd.len) ∧ w.heap.size ≤ B ∧ Blk w' B (nvL (fun p => f.han p) f.cd.len) 3 ∧ Below w.heap.size w w' := by
  have H1 := hyd (Fb.new w f)
  have HD := hyd hf
  have hbd := hf.hd.bound
  have HNIL := hyd hf.hd.nil
  clear hf
  have c14 := H1.out.b.cell 14 rfl
  generalize hw : w.alloc (.cells f.vs.toArray 43) = u1 at *
  go_enter Tryz.func20, Tryz.ntmps20
  go_upto_region 2 with fail
  clear hw c14
  have B2 := below_alloc u1 (.cells #[.int .i64 (-1)] 3)
  have H2 := hyd (H1.out.kept B2)
  have hcl : (u1.alloc (.cells #[.int .i64 (-1)] 3)).cell? ⟨u1.heap.size, 0, none⟩ = some (.int .i64 (-1)) := (Blk.new u1 [.int .i64 (-1)] 3).cell 0 rfl
  have h0 := repeat_any (-1) f.cd.len u1.heap.size _ hcl hn
  clear B2 hcl
  have HU := hyd H1.out.b.lt
  go_wp2_with fail
  refine h0.mono ?_
  rintro _ u3 ⟨BA, rfl, hBA, hbA, hb3⟩
  have H3 := hyd (show Fb w f w.heap.size u3 ∧ Blk u3 BA (nvL (f.vJ 0) f.cd.len) 3 ∧ w.heap.size < BA from ⟨H2.out.kept hb3, by rw [rpl_nvL] at hbA; exact hbA, by have := HU.out; rw [alloc_size] at hBA; omega⟩)
  clear h0 hBA hbA hb3 H2 H1 HU
  obtain ⟨N, hN⟩ : ∃ N, N = f.cd.len + 1 := ⟨_, rfl⟩
  have HN := hyd hN
  have iN : (f.cd.len : Int) + 1 = (N : Int) := by omega
  clear hN
  go_upto_region 4 with (refine wpList_make_blk rfl _ _ _ rfl 3 (.int .i64 0) 8 Tryz.underlying44 Tryz.infoI rfl N (by first | rfl | (show Value.int .i64 _ = _; rw [iN])) (by first | rfl | (show Value.int .i64 _ = _; rw [iN])) (by omega) (by omega) ?_; intro w1 hb1 hl1; have H4 : Hid (Hi w f BA u3.heap.size 0 w1) := ⟨H3.out.1.kept hl1, H3.out.2.1.kept hl1, by rw [HN.out] at hb1; rw [rpl_nvL] at hb1; exact hb1, by have := H3.out.2.2; have := H3.out.2.1.lt; have := H3.out.1.bl.size; have := H3.out.1.b.lt; omega⟩; clear hb1 hl1 H3)
  generalize u3.heap.size = BH at *
  clear iN
  go_upto_block 0 with fail
  go_cut [21] (fun _ wx => Hid (Hi w f BA BH (f.cd.len + 1) wx))
  case first =>
    go_wp2_with fail
    go_loopw [21] (fun i wr => ∃ j : Nat, j ≤ N ∧ i = .int .i64 j ∧ Hi w f BA BH j wr) (fun i _ => N - (intOf i).toNat)
    case atStart => exact ⟨0, Nat.zero_le _, rfl, H4.out⟩
    case round =>
      clear H4
      obtain ⟨j, hj, rfl, hI⟩ := hrel
      have HI := hyd hI
      clear hI
      have hNb : N ≤ 100001 := by have := HN.out; omega
      by_cases hlt : j < N
      · have il : (j : Int) < N := by omega
        go_wp2_with (refine wpList_store1 rfl 3 (.tmp 27) (.tmp 26) rfl rfl BH j (.int .i64 j) _ _ (by kernel_rfl) (by kernel_rfl) (store_one _ _ (by kernel_rfl) rfl rfl _ _) HI.out.bH (by have := HN.out; rw [nvL_len]; omega) ?_; intro w1 W1; have HI1 := hyd (HI.out.set W1); clear W1 HI)
        go_roundw
        case rel => exact ⟨j + 1, by omega, by go_num, HI1.out⟩
        case measure => simp [intOf]; omega
      · have il : ¬ (j : Int) < N := by omega
        have HE : Hid (Hi w f BA BH (f.cd.len + 1) wr) := by
          have e : j = f.cd.len + 1 := by have := HN.out; omega
          rw [← e]; exact HI.out
        go_wp2
        go_meet
        case rel => exact HE.out
  case rest =>
  have H5 := hyd hcut.out.hs
  clear hcut H4
  have hNb : N ≤ 100001 := by have := HN.out; omega
  have c15 := H5.out.x.b.cell 15 rfl
  by_cases hz : 0 < f.hd.len
  · rw [HNIL.out hz] at c15
    clear hz
    go_wp2
    clear c15
    go_loopw [32] (fun i wr => ∃ (j : Nat) (a : Nat → Int), j ≤ f.hd.len ∧ i = .int .i64 j ∧ Hs w f BA BH (f.vJ j) (f.SJ j) a wr) (fun i _ => f.hd.len - (intOf i).toNat)
    case atStart => exact ⟨0, _, Nat.zero_le _, rfl, H5.out⟩
    case round =>
      clear H5
      obtain ⟨j, a, hj, rfl, hS⟩ := hrel
      have HS := hyd hS
      clear hS
      by_cases hlt : j < f.hd.len
      · have ij : (j : Int) < f.hd.len := by omega
        have r0 := (Cf.At.kept HS.out.x.bl HD.out).hd.row j hlt
        have HDN := hyd (fun lo r hi hl hh hge => Cf.in_done (f := f) (j := j) (lo := lo) (r := r) (hi := hi) hl hh hge)
        generalize f.hd.x j = x at *
        go_upto_region 12 with (first | (refine wpList_load_mid rfl 75 (.tmp 34) rfl f.hd.b (f.hd.o + j * 3) (by kernel_rfl) x.vs _ r0 Tryz.underlying75 rfl (by kernel_rfl) ?_) | (refine wpList_new_mid rfl rfl 75 rfl (.tmp 8) (.tmp 35) rfl z_hn (alloc_hn _) rfl x.vs.toArray (by kernel_rfl) (by kernel_rfl) rfl (by kernel_rfl) (by simpa using x.vs_one) ?_))
        have B1 := below_alloc wr (.cells x.vs.toArray 75)
        have HU := hyd (show Hs w f BA BH (f.vJ j) (f.SJ j) a (wr.alloc (.cells x.vs.toArray 75)) ∧ Blk _ wr.heap.size x.vs 75 ∧ BA < wr.heap.size ∧ BH < wr.heap.size from ⟨HS.out.kept B1, Blk.new wr _ _, HS.out.bA.lt, HS.out.bH.lt⟩)
        clear r0 HS B1
        generalize wr.alloc (.cells x.vs.toArray 75) = U at *
        generalize wr.heap.size = BX at *
        have d0 := HU.out.2.1.cell 0 rfl
        obtain ⟨lo, hlo⟩ : ∃ lo : Nat, max x.fr 0 = (lo : Int) := ⟨(max x.fr 0).toNat, by omega⟩
        have HLO : Hid ((lo : Int) = max x.fr 0) := hlo.symm
        have h0 := freeFrom_any f.cd.len N (f.SJ j) BH a lo U HN.out hn (f.SJ_end j) HU.out.1.ah HU.out.1.bH
        go_upto_region 13 with fail
        first | rw [hlo] | skip
        refine h0.mono ?_
        rintro _ u5 ⟨r, a5, rfl, hR, hX⟩
        have H6 := hyd (show Hs w f BA BH (f.vIn j lo (min x.to f.cd.len) x.at_ r) (f.sIn j lo (min x.to f.cd.len) r) a5 u5 ∧ Blk u5 BX x.vs 75 ∧ BA < BX ∧ BH < BX from by
          obtain ⟨e1, e2⟩ := Cf.in_start (hi := min x.to f.cd.len) (x := x.at_) hR
          rw [e1, e2]
          exact ⟨HU.out.1.ax hX, HU.out.2.1.gb hX.g (fun e => by have := Option.some.inj e; have := HU.out.2.2; omega), HU.out.2.2⟩)
        have H7 := hyd (show r ≤ f.cd.len ∧ ¬ f.sIn j lo (min x.to f.cd.len) r r ∧ (r < f.cd.len → lo ≤ r) from ⟨hR.le, by rw [(Cf.in_start (hi := min x.to f.cd.len) (x := x.at_) hR).1]; exact hR.no, fun h => by
          by_cases h1 : lo ≤ f.cd.len
          · exact hR.ge h1
          · have := hR.far h1; omega⟩)
        clear h0 hR hX HU hlo d0
        go_wp2
        go_loopw [9] (fun i wr => ∃ (r : Nat) (a5 : Nat → Int), i = .int .i64 r ∧ (Hs w f BA BH (f.vIn j lo (min x.to f.cd.len) x.at_ r) (f.sIn j lo (min x.to f.cd.len) r) a5 wr ∧ Blk wr BX x.vs 75 ∧ BA < BX ∧ BH < BX) ∧ (r ≤ f.cd.len ∧ ¬ f.sIn j lo (min x.to f.cd.len) r r ∧ (r < f.cd.len → lo ≤ r))) (fun i _ => f.cd.len - (intOf i).toNat)
        case atStart => exact ⟨r, a5, rfl, H6.out, H7.out⟩
        case round =>
          clear H6 H7
          obtain ⟨r, a5, rfl, hS, hR⟩ := hrel
          have HS := hyd hS
          have HR := hyd hR
          clear hS hR
          have d1 := HS.out.2.1.cell 1 rfl
          have d2 := HS.out.2.1.cell 2 rfl
          by_cases hlt2 : (r : Int) < min x.to f.cd.len
          · have i1 : (r : Int) < x.to := by omega
            have i2 : (r : Int) < f.cd.len := by omega
            have i3 : (r : Int) < N := by have := HN.out; omega
            go_upto_region 14 with (first
              | (refine wpList_store1 rfl 3 (.tmp 54) (.tmp 53) rfl rfl BA r (.int .i64 x.at_) _ _ (by kernel_rfl) (by kernel_rfl) (store_one _ _ (by kernel_rfl) rfl rfl _ _) HS.out.1.bA (by rw [nvL_len]; omega) ?_; intro w1 W1; have HS1 := hyd (show Hs w f BA BH (updI (f.vIn j lo (min x.to f.cd.len) x.at_ r) r x.at_) (f.sIn j lo (min x.to f.cd.len) r) a5 w1 ∧ Blk w1 BX x.vs 75 from ⟨HS.out.1.setA W1, HS.out.2.1.gb W1.gb (fun e => by have := Option.some.inj e; have := HS.out.2.2; omega)⟩); have HLTS := hyd HS.out.2.2; clear W1 HS d1 d2)
              | (refine wpList_store1 rfl 3 (.tmp 59) (.tmp 58) rfl rfl BH r (.int .i64 ((r : Int) + 1)) _ _ (by kernel_rfl) (by kernel_rfl) (store_one _ _ (by kernel_rfl) rfl rfl _ _) HS1.out.1.bH (by rw [nvL_len]; omega) ?_; intro w2 W2; have HS2 := hyd (show Hs w f BA BH (updI (f.vIn j lo (min x.to f.cd.len) x.at_ r) r x.at_) (fun p => f.sIn j lo (min x.to f.cd.len) r p ∨ p = r) (updI a5 r ((r : Int) + 1)) w2 ∧ Blk w2 BX x.vs 75 from ⟨HS1.out.1.setH (by omega) W2, HS1.out.2.gb W2.gb (fun e => by have := Option.some.inj e; have := HLTS.out; omega)⟩); clear W2 HS1))
            have h0 := freeFrom_any f.cd.len N (fun p => f.sIn j lo (min x.to f.cd.len) r p ∨ p = r) BH (updI a5 r ((r : Int) + 1)) r w2 HN.out hn (by rintro ((h | h) | h); exact f.SJ_end j h; omega; omega) HS2.out.1.ah HS2.out.1.bH
            go_wp2_with fail
            refine h0.mono ?_
            rintro _ u6 ⟨r', a6, rfl, hR, hX⟩
            obtain ⟨s1, s2, s3⟩ := Cf.in_step (x := x.at_) HR.out.2.1 hlt2 (by omega) (HR.out.2.2 (by omega)) hR
            have HS3 := hyd (show (Hs w f BA BH (f.vIn j lo (min x.to f.cd.len) x.at_ r') (f.sIn j lo (min x.to f.cd.len) r') a6 u6 ∧ Blk u6 BX x.vs 75 ∧ BA < BX ∧ BH < BX) ∧ (r' ≤ f.cd.len ∧ ¬ f.sIn j lo (min x.to f.cd.len) r' r' ∧ (r' < f.cd.len → lo ≤ r')) from by
              refine ⟨⟨?_, HS2.out.2.gb hX.g (fun e => by have := Option.some.inj e; have := HLTS.out; omega), HLTS.out⟩, hR.le, ?_, fun _ => ?_⟩
              · rw [← s2, ← s3]; exact HS2.out.1.ax hX
              · rw [← s2]; exact hR.no
              · have := HR.out.2.2 (by omega); omega)
            have HM := hyd (show r < r' ∧ r' ≤ f.cd.len from ⟨s1, hR.le⟩)
            clear h0 hR hX s1 s2 s3 HS2 hlt2
            go_wp2
            go_roundw
            case rel => exact ⟨r', a6, rfl, HS3.out.1, HS3.out.2⟩
            case measure => simp [intOf]; have := HM.out; omega
          · have i1 : ¬ (r : Int) < min x.to f.cd.len := hlt2
            obtain ⟨e1, e2⟩ := HDN.out lo r _ HLO.out rfl (by omega)
            have HE := hyd (HS.out.1.to e2 e1)
            clear e1 e2 hlt2
            go_wp2
            go_roundw
            case rel => exact ⟨j + 1, a5, by omega, by go_num, HE.out⟩
            case measure => simp [intOf]; omega
      · have e2 : ¬ (j : Int) < f.hd.len := by omega
        have HE : Hid (nvL (f.vJ j) f.cd.len = nvL (fun p => f.han p) f.cd.len) := by
          have e : j = f.hd.len := by omega
          rw [e]
          exact nvL_congr (fun p _ => f.vJ_end p)
        go_wp2
        go_ret
        exact ⟨BA, rfl, by have := HS.out.ne; omega, by rw [← HE.out]; exact HS.out.bA, HS.out.x.bl⟩
  · have i0 : ¬ (0 : Int) < f.hd.len := by omega
    have HE : Hid (nvL (f.vJ 0) f.cd.len = nvL (fun p => f.han p) f.cd.len) := by
      have e : f.hd.len = 0 := by omega
      refine nvL_congr (fun p _ => ?_)
      rw [← f.vJ_end p, e]
    clear hz
    go_wp2
    go_loopw [32] (fun i wr => i = .int .i64 0 ∧ Hs w f BA BH (f.vJ 0) (f.SJ 0) (ahI (f.cd.len + 1)) wr) (fun _ _ => 0)
    case atStart => exact ⟨rfl, H5.out⟩
    case round =>
      obtain ⟨rfl, hb⟩ := hrel
      have HB := hyd hb
      clear hb
      go_wp2
      go_ret
      exact ⟨BA, rfl, by have := HB.out.ne; omega, by rw [← HE.out]; exact HB.out.bA, HB.out.x.bl⟩
end Go.Proofs.YtmajlfocfjcgmaaGreatDoor

/- Layer 15: places that were come to, as a list of truths; what is still open. -/
namespace Go.Proofs.YtmajlfocfjcgmaaGreatDoor
open Go Go.RowKit

/-- Truths in a row. -/
def bvL (m : Nat → Bool) (n : Nat) : List Value := (List.range n).map fun i => .bool (m i)
theorem bvL_len (a : Nat → Bool) (n : Nat) : (bvL a n).length = n := by simp [bvL]
theorem bvL_get (a : Nat → Bool) {n i : Nat} (h : i < n) : (bvL a n)[i]? = some (.bool (a i)) := by simp [bvL, h]
def updB (a : Nat → Bool) (k : Nat) : Nat → Bool := fun i => if i = k then true else a i
theorem bvL_set (a : Nat → Bool) (n k : Nat) : (bvL a n).set k (.bool true) = bvL (updB a k) n := by
  apply List.ext_getElem?
  intro i
  rw [List.getElem?_set]
  by_cases e : k = i
  · subst e
    rw [if_pos rfl]
    by_cases h : k < n
    · rw [bvL_len, if_pos h, bvL_get _ h]; simp [updB]
    · rw [bvL_len, if_neg h, List.getElem?_eq_none (by rw [bvL_len]; omega)]
  · rw [if_neg e]
    by_cases h : i < n
    · rw [bvL_get _ h, bvL_get _ h]
      simp [updB, show ¬ i = k from fun h => e h.symm]
    · rw [List.getElem?_eq_none (by rw [bvL_len]; omega), List.getElem?_eq_none (by rw [bvL_len]; omega)]
theorem rpl_bvL (n : Nat) : List.replicate n (Value.bool false) = bvL (fun _ => false) n := by
  apply List.ext_getElem?
  intro i
  by_cases h : i < n
  · rw [bvL_get _ h, List.getElem?_replicate, if_pos h]
  · rw [List.getElem?_eq_none (by simp; omega), List.getElem?_eq_none (by rw [bvL_len]; omega)]
/-- How many aren't. -/
def fls (m : Nat → Bool) (n : Nat) : Nat := ((List.range n).filter fun i => !m i).length
theorem fls_succ (m : Nat → Bool) (n : Nat) : fls m (n + 1) = fls m n + (if m n = false then 1 else 0) := by
  unfold fls
  rw [List.range_succ, List.filter_append, List.length_append]
  cases h : m n <;> simp [h]
theorem fls_far (m : Nat → Bool) (k : Nat) : ∀ n, n ≤ k → fls (updB m k) n = fls m n
  | 0, _ => rfl
  | n + 1, h => by rw [fls_succ, fls_succ, fls_far m k n (by omega)]; simp [updB, show ¬ n = k by omega]
theorem fls_upd {m : Nat → Bool} {k : Nat} (hm : m k = false) : ∀ n, k < n → fls (updB m k) n + 1 = fls m n
  | 0, h => absurd h (Nat.not_lt_zero _)
  | n + 1, h => by
    rw [fls_succ, fls_succ]
    by_cases e : k = n
    · subst e
      rw [fls_far m k k (Nat.le_refl _)]
      simp [updB, hm]
    · have := fls_upd hm n (by omega)
      have e2 : updB m k n = m n := by simp [updB, show ¬ n = k from fun h => e h.symm]
      rw [e2]
      omega
theorem fls_le (m : Nat → Bool) (n : Nat) : fls m n ≤ n := by
  unfold fls
  exact Nat.le_trans (List.length_filter_le _ _) (by simp)

/-- One place met. -/
def mt1 (n : Nat) (stop : Int) (s : (Nat → Bool) × List Int) (a : Int) : (Nat → Bool) × List Int :=
  if (0 ≤ a ∧ a < n) ∧ a ≠ stop ∧ s.1 a.toNat = false then (updB s.1 a.toNat, s.2 ++ [a]) else s
def mtL (n : Nat) (stop : Int) (l : List Int) (s : (Nat → Bool) × List Int) : (Nat → Bool) × List Int := l.foldl (mt1 n stop) s
theorem mtL_app (n : Nat) (stop : Int) (l : List Int) (a : Int) (s : (Nat → Bool) × List Int) : mtL n stop (l ++ [a]) s = mt1 n stop (mtL n stop l s) a := by simp [mtL]
structure MtP (n : Nat) (stop : Int) (l : List Int) (s t : (Nat → Bool) × List Int) : Prop where
  mem : ∀ q : Nat, t.1 q = true ↔ s.1 q = true ∨ ((q : Int) ∈ l ∧ (q : Int) ≠ stop ∧ q < n)
  new : ∀ a ∈ t.2, a ∈ s.2 ∨ ∃ q : Nat, a = q ∧ q < n ∧ t.1 q = true
  cover : ∀ q : Nat, t.1 q = true → s.1 q = true ∨ (q : Int) ∈ t.2
  sub : ∀ a ∈ s.2, a ∈ t.2
  cnt : t.2.length + fls t.1 n = s.2.length + fls s.1 n
theorem mtL_props (n : Nat) (stop : Int) (l : List Int) (s : (Nat → Bool) × List Int) : MtP n stop l s (mtL n stop l s) := by
  suffices h : ∀ k : Nat, k ≤ l.length → MtP n stop (l.take k) s (mtL n stop (l.take k) s) by
    have := h l.length (Nat.le_refl _)
    rwa [List.take_length] at this
  intro k
  induction k with
  | zero => intro _; exact ⟨fun q => by simp [mtL], fun a ha => Or.inl ha, fun q hq => Or.inl hq, fun a ha => ha, rfl⟩
  | succ k ih =>
    intro hk
    have ih := ih (by omega)
    have e : l.take (k + 1) = l.take k ++ [l[k]] := by rw [List.take_succ_eq_append_getElem (by omega)]
    rw [e, mtL_app]
    generalize l[k] = a at *
    generalize l.take k = l' at *
    generalize mtL n stop l' s = t at *
    unfold mt1
    by_cases c : (0 ≤ a ∧ a < n) ∧ a ≠ stop ∧ t.1 a.toNat = false
    · rw [if_pos c]
      obtain ⟨p, hp⟩ : ∃ p : Nat, a = p := ⟨a.toNat, by omega⟩
      subst hp
      rw [Int.toNat_natCast] at *
      have hpn : p < n := by omega
      refine ⟨fun q => ?_, fun a ha => ?_, fun q hq => ?_, fun a ha => List.mem_append.2 (Or.inl (ih.sub a ha)), ?_⟩
      · show updB t.1 p q = true ↔ _
        unfold updB
        by_cases e : q = p
        · subst e
          simp [hpn, c.2.1]
        · rw [if_neg e, ih.mem]
          have : ¬ (q : Int) = p := by omega
          simp [this]
      · rcases List.mem_append.1 ha with h | h
        · rcases ih.new a h with h1 | ⟨q, h1, h2, h3⟩
          · exact Or.inl h1
          · refine Or.inr ⟨q, h1, h2, ?_⟩
            show updB t.1 p q = true
            unfold updB; split
            · rfl
            · exact h3
        · refine Or.inr ⟨p, by simpa using h, hpn, ?_⟩
          show updB t.1 p p = true
          simp [updB]
      · have hq' : updB t.1 p q = true := hq
        unfold updB at hq'
        by_cases e : q = p
        · subst e; exact Or.inr (List.mem_append.2 (Or.inr (by simp)))
        · rw [if_neg e] at hq'
          rcases ih.cover q hq' with h | h
          · exact Or.inl h
          · exact Or.inr (List.mem_append.2 (Or.inl h))
      · show (t.2 ++ [_]).length + fls (updB t.1 p) n = _
        have := fls_upd c.2.2 n hpn
        rw [List.length_append, ← ih.cnt]
        simp only [List.length_singleton]
        omega
    · rw [if_neg c]
      refine ⟨fun q => ?_, ih.new, ih.cover, ih.sub, ih.cnt⟩
      rw [ih.mem]
      constructor
      · rintro (h | ⟨h1, h2, h3⟩)
        · exact Or.inl h
        · exact Or.inr ⟨List.mem_append.2 (Or.inl h1), h2, h3⟩
      · rintro (h | ⟨h1, h2, h3⟩)
        · exact Or.inl h
        · rcases List.mem_append.1 h1 with h | h
          · exact Or.inr ⟨h, h2, h3⟩
          · have h4 : (q : Int) = a := by simpa using h
            subst h4
            have h5 : t.1 q = true := by
              cases hq : t.1 q
              · exact absurd ⟨⟨by omega, by omega⟩, h2, by simpa using hq⟩ c
              · rfl
            exact (ih.mem q).1 h5

/-- Where the walk stands: what is met, what of it is open. -/
structure Rs (W : Nat → Nat → Prop) (F : Nat → Prop) (n : Nat) (stop : Int) (s : (Nat → Bool) × List Int) : Prop where
  sound : ∀ q, s.1 q = true → Fl.Rch W F stop q
  base : ∀ q, F q → (q : Int) ≠ stop → s.1 q = true
  closed : ∀ p, s.1 p = true → (p : Int) ∈ s.2 ∨ ∀ q, W p q → (q : Int) ≠ stop → s.1 q = true
  places : ∀ a ∈ s.2, ∃ q : Nat, a = q ∧ q < n ∧ s.1 q = true
  cnt : s.2.length + fls s.1 n ≤ n
theorem Rs.start {W : Nat → Nat → Prop} {n : Nat} {stop : Int} {l : List Int} : Rs W (fun q => (q : Int) ∈ l ∧ q < n) n stop (mtL n stop l (fun _ => false, [])) := by
  have h := mtL_props n stop l (fun _ => false, [])
  refine ⟨fun q hq => ?_, fun q h1 h2 => (h.mem q).2 (Or.inr ⟨h1.1, h2, h1.2⟩), fun p hp => Or.inl ?_, fun a ha => ?_, ?_⟩
  · rcases (h.mem q).1 hq with h1 | ⟨h1, h2, h3⟩
    · cases h1
    · exact .base ⟨h1, h3⟩ h2
  · rcases h.cover p hp with h1 | h1
    · cases h1
    · exact h1
  · rcases h.new a ha with h1 | h1
    · cases h1
    · exact h1
  · rw [h.cnt]; simpa using fls_le _ n
theorem Rs.step {W : Nat → Nat → Prop} {F : Nat → Prop} {n : Nat} {stop : Int} {m : Nat → Bool} {o : List Int} {p : Nat} {l : List Int} (hl : ∀ a, a ∈ l ↔ ∃ q : Nat, a = q ∧ (q < n ∧ W p q)) (hW : ∀ q, W p q → q < n) (h : Rs W F n stop (m, o ++ [(p : Int)])) :
    Rs W F n stop (mtL n stop l (m, o)) ∧ (mtL n stop l (m, o)).2.length + 2 * fls (mtL n stop l (m, o)).1 n < (o ++ [(p : Int)]).length + 2 * fls m n := by
  have k := mtL_props n stop l (m, o)
  have hpm : m p = true := by
    obtain ⟨q, h1, _, h3⟩ := h.places p (by simp)
    have : p = q := by omega
    subst this; exact h3
  have hup : ∀ q, m q = true → (mtL n stop l (m, o)).1 q = true := fun q hq => (k.mem q).2 (Or.inl hq)
  refine ⟨⟨fun q hq => ?_, fun q h1 h2 => hup q (h.base q h1 h2), fun q hq => ?_, fun a ha => ?_, ?_⟩, ?_⟩
  · rcases (k.mem q).1 hq with h1 | ⟨h1, h2, h3⟩
    · exact h.sound q h1
    · obtain ⟨q', e, _, h4⟩ := (hl q).1 h1
      have : q = q' := by omega
      subst this
      exact .step (h.sound p hpm) h4 h2
  · rcases k.cover q hq with h1 | h1
    · by_cases e : q = p
      · subst e
        exact Or.inr fun q' h2 h3 => (k.mem q').2 (Or.inr ⟨(hl q').2 ⟨q', rfl, hW q' h2, h2⟩, h3, hW q' h2⟩)
      · rcases h.closed q h1 with h2 | h2
        · rcases List.mem_append.1 h2 with h3 | h3
          · exact Or.inl (k.sub _ h3)
          · have : (q : Int) = p := by simpa using h3
            omega
        · exact Or.inr fun q' h3 h4 => hup q' (h2 q' h3 h4)
    · exact Or.inl h1
  · rcases k.new a ha with h1 | h1
    · obtain ⟨q, h2, h3, h4⟩ := h.places a (List.mem_append.2 (Or.inl h1))
      exact ⟨q, h2, h3, hup q h4⟩
    · exact h1
  · have := h.cnt
    have := k.cnt
    rw [List.length_append] at *
    simp only [List.length_singleton] at *
    omega
  · have h1 := k.cnt
    rw [List.length_append]
    simp only [List.length_singleton] at *
    have : fls (mtL n stop l (m, o)).1 n ≤ fls m n := by
      have : o.length ≤ (mtL n stop l (m, o)).2.length := by
        have key : ∀ (l : List Int) (s : (Nat → Bool) × List Int), s.2.length ≤ (mtL n stop l s).2.length := by
          intro l
          induction l with
          | nil => intro s; exact Nat.le_refl _
          | cons a l ih =>
            intro s
            refine Nat.le_trans ?_ (ih (mt1 n stop s a))
            unfold mt1; split
            · simp
            · exact Nat.le_refl _
        exact key l (m, o)
      omega
    omega
theorem Rs.done {W : Nat → Nat → Prop} {F : Nat → Prop} {n : Nat} {stop : Int} {m : Nat → Bool} (h : Rs W F n stop (m, [])) (q : Nat) : m q = true ↔ Fl.Rch W F stop q :=
  Fl.rch_of_closed (S := fun q => m q = true) h.base (fun p q h1 h2 h3 => (h.closed p h1).elim (fun h => by cases h) (fun h => h q h2 h3)) h.sound q
end Go.Proofs.YtmajlfocfjcgmaaGreatDoor
