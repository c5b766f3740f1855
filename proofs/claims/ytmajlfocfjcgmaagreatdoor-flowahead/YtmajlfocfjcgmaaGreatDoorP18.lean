/- Layer 15: Reach's own function meet, and placesOf. -/
import Derived.Test.YtmajlfocfjcgmaaGreatDoorP17
import Derived.Test.YtmajlfocfjcgmaaGreatDoorP5
import Derived.Test.YtmajlfocfjcgmaaGreatDoorP11
import Derived.Test.YtmajlfocfjcgmaaGreatDoorP8
namespace Go.Proofs.YtmajlfocfjcgmaaGreatDoor
open Go Go.RowKit

/-- One number more, and where it lies. -/
theorem wpList_app1L {w : World} {ops : Array Oper} {rest : List Oper} {o : Oper} {a : Act} {Q : Exit → Act → World → Prop} (hgd : o.guard = none) (s x : Operand)
    (hop : o.op = .call { callee := .builtin .append, args := #[s, x], argTypes := #[44, 44] }) (base : Nat) (v : Value) (l : List Int) (z : Int) (hs : a.eval s = v) (ho : Oi w base v l) (hx : a.eval x = .slice (some ⟨w.heap.size, 0, none⟩) 1 1) (hl : l.length ≤ 1000000) (hb : base ≤ w.heap.size)
    (h : ∀ g cap w', Oi w' base (.slice (some ⟨g, 0, none⟩) (l.length + 1) cap) (l ++ [z]) → w.grownBy w' v.ownBlock → (v.ownBlock = some g ∨ w.heap.size ≤ g) → wpList Tryz.prog ops Q rest (a.put o.dst (.slice (some ⟨g, 0, none⟩) (l.length + 1) cap)) w') : wpList Tryz.prog ops Q (o :: rest) a (w.alloc (.cells #[.int .i64 z] 3)) := by
  have hE : (w.alloc (.cells #[.int .i64 z] 3)).ownsRow base 3 1 v l.length (ivL l) := ho.alloc _
  obtain ⟨i0, hi, hz0, hz1, hz2⟩ := info_parts Tryz.infoI
  refine wpList_append_lies _ hgd s x 44 hop base 3 i0 (.int .i64 0) 1 8 Tryz.underlying44 hi hz0 hz1 hz2 rfl (by decide) v l.length (ivL l) hs hE ⟨w.heap.size, 0, none⟩ 1 1 [.int .i64 z] hx rfl (fun j u hj => new_row (cs := [.int .i64 z]) _ rfl j u hj) (ivL_one [z]) (by decide) (by unfold maxLen; omega) (by omega) (by rw [alloc_size]; omega) (w.heap.size + 1) (alloc_size _ _) ?_
  intro g cap w' h1 h2 h3 _
  refine h g cap w' ?_ ?_ ?_
  · unfold Oi
    rw [List.length_append, ivL, List.map_append]
    exact h1
  · have g0 := World.grownBy_alloc w (.cells #[.int .i64 z] 3) v.ownBlock
    refine ⟨h2.os.trans g0.os, h2.tape.trans g0.tape, h2.output.trans g0.output, Nat.le_trans g0.size h2.size, fun k hk hne => ?_⟩
    rw [h2.block k (by rw [alloc_size]; omega) hne]
    exact g0.block k hk hne
  · rcases h3 with h3 | h3
    · exact Or.inl h3
    · exact Or.inr (by omega)
theorem NmAt.gb {w w' : World} {r : Rw Int} {k : Option Nat} (h : NmAt w r) (hg : w.grownBy w' k) (hne : r.len = 0 ∨ some r.b ≠ k) : NmAt w' r :=
  ⟨h.nil, h.bound, fun i hi j v hv => hg.cell (h.row i hi j v hv) (hne.resolve_left (by omega)), h.each⟩
theorem BlAt.gb {w w' : World} {r : Rw Bool} {k : Option Nat} (h : BlAt w r) (hg : w.grownBy w' k) (hne : r.len = 0 ∨ some r.b ≠ k) : BlAt w' r :=
  ⟨h.nil, h.bound, fun i hi j v hv => hg.cell (h.row i hi j v hv) (hne.resolve_left (by omega)), h.each⟩

/-- Where all lies while Reach goes on: the boxes of f and stop, the truths, met, the handlers, open. -/
structure Ad where
  F : Nat
  S : Nat
  V : Nat
  M : Nat
  H : Nat
  O : Nat
structure Mr (w0 : World) (f : Cf) (stop : Int) (d : Ad) (m : Nat → Bool) (ov : Value) (o : List Int) (u : World) : Prop where
  bl : Below w0.heap.size w0 u
  bF : Blk u d.F f.vs 43
  bS : Blk u d.S [.int .i64 stop] 3
  bV : Blk u d.V (bvL m f.cd.len) 4
  bM : Blk u d.M [.slice (some ⟨d.V, 0, none⟩) f.cd.len f.cd.len] 29
  bH : Blk u d.H (nvL (fun p => f.han p) f.cd.len) 3
  bO : Blk u d.O [ov] 44
  oi : Oi u (d.O + 1) ov o
  ne : (w0.heap.size ≤ d.F ∧ d.F < d.S) ∧ (d.S < d.V ∧ d.V < d.M) ∧ (d.M < d.H ∧ d.H < d.O)
theorem Mr.kept {w0 : World} {f : Cf} {stop : Int} {d : Ad} {m : Nat → Bool} {ov : Value} {o : List Int} {u u' : World} (h : Mr w0 f stop d m ov o u) (hb : Below u.heap.size u u') : Mr w0 f stop d m ov o u' :=
  ⟨Below.next h.bl hb, h.bF.kept hb, h.bS.kept hb, h.bV.kept hb, h.bM.kept hb, h.bH.kept hb, h.bO.kept hb, h.oi.kept hb, h.ne⟩
theorem Oi.gb {w w' : World} {base : Nat} {v : Value} {l : List Int} {r : Option Nat} (h : Oi w base v l) (hg : w.grownBy w' r) (hne : ∀ k, r = some k → k < base) : Oi w' base v l := by
  refine World.ownsRow.kept h hg ?_
  cases hv : v.ownBlock with
  | none => exact Or.inl rfl
  | some k =>
    refine Or.inr fun e => ?_
    have := hne k e.symm
    have := (owb h hv).1
    omega
theorem Mr.setV {w0 : World} {f : Cf} {stop : Int} {d : Ad} {m : Nat → Bool} {ov : Value} {o : List Int} {u u' : World} (h : Mr w0 f stop d m ov o u) {k : Nat} (W : WroteB u u' d.V ((bvL m f.cd.len).set k (.bool true)) 4) : Mr w0 f stop d (updB m k) ov o u' := by
  have hn := h.ne
  have hg := W.gb
  exact ⟨gb_bel h.bl hg (fun k hk => by have := Option.some.inj hk; omega), h.bF.gb hg (fun e => by have := Option.some.inj e; omega), h.bS.gb hg (fun e => by have := Option.some.inj e; omega), by rw [← bvL_set]; exact W.blk, h.bM.gb hg (fun e => by have := Option.some.inj e; omega), h.bH.gb hg (fun e => by have := Option.some.inj e; omega), h.bO.gb hg (fun e => by have := Option.some.inj e; omega), h.oi.gb hg (fun k hk => by have := Option.some.inj hk; omega), h.ne⟩
/-- Behind the append: open's row has grown. -/
theorem Mr.app {w0 : World} {f : Cf} {stop : Int} {d : Ad} {m : Nat → Bool} {ov : Value} {o : List Int} {u u' : World} (h : Mr w0 f stop d m ov o u) (hg : u.grownBy u' ov.ownBlock) : (Below w0.heap.size w0 u' ∧ Blk u' d.F f.vs 43 ∧ Blk u' d.S [.int .i64 stop] 3 ∧ Blk u' d.V (bvL m f.cd.len) 4) ∧ (Blk u' d.M [.slice (some ⟨d.V, 0, none⟩) f.cd.len f.cd.len] 29 ∧ Blk u' d.H (nvL (fun p => f.han p) f.cd.len) 3 ∧ Blk u' d.O [ov] 44) := by
  have hn := h.ne
  have key : ∀ k, ov.ownBlock = some k → d.O + 1 ≤ k := fun k hk => (owb h.oi hk).1
  have k2 : ∀ B, B < d.O + 1 → some B ≠ ov.ownBlock := fun B hB e => by have := key B e.symm; omega
  exact ⟨⟨gb_bel h.bl hg (fun k hk => by have := key k hk; omega), h.bF.gb hg (k2 _ (by omega)), h.bS.gb hg (k2 _ (by omega)), h.bV.gb hg (k2 _ (by omega))⟩, h.bM.gb hg (k2 _ (by omega)), h.bH.gb hg (k2 _ (by omega)), h.bO.gb hg (k2 _ (by omega))⟩
theorem Mr.setO {w0 : World} {f : Cf} {stop : Int} {d : Ad} {m : Nat → Bool} {ov ov' : Value} {o' : List Int} {u u' : World} (h : (Below w0.heap.size w0 u ∧ Blk u d.F f.vs 43 ∧ Blk u d.S [.int .i64 stop] 3 ∧ Blk u d.V (bvL m f.cd.len) 4) ∧ (Blk u d.M [.slice (some ⟨d.V, 0, none⟩) f.cd.len f.cd.len] 29 ∧ Blk u d.H (nvL (fun p => f.han p) f.cd.len) 3 ∧ Blk u d.O [ov] 44)) (hn : (w0.heap.size ≤ d.F ∧ d.F < d.S) ∧ (d.S < d.V ∧ d.V < d.M) ∧ (d.M < d.H ∧ d.H < d.O)) (ho : Oi u (d.O + 1) ov' o') (W : WroteB u u' d.O [ov'] 44) : Mr w0 f stop d m ov' o' u' := by
  have hg := W.gb
  obtain ⟨⟨h1, h2, h3, h4⟩, h5, h6, h7⟩ := h
  exact ⟨gb_bel h1 hg (fun k hk => by have := Option.some.inj hk; omega), h2.gb hg (fun e => by have := Option.some.inj e; omega), h3.gb hg (fun e => by have := Option.some.inj e; omega), h4.gb hg (fun e => by have := Option.some.inj e; omega), h5.gb hg (fun e => by have := Option.some.inj e; omega), h6.gb hg (fun e => by have := Option.some.inj e; omega), W.blk, ho.gb hg (fun k hk => by have := Option.some.inj hk; omega), hn⟩
/-- The list beside it is no row of open's. -/
def Apt (w0 : World) (d : Ad) (r : Rw Int) (ov : Value) : Prop := r.len = 0 ∨ ((r.b < w0.heap.size ∨ d.O < r.b) ∧ ∀ k, ov.ownBlock = some k → k ≠ r.b)
theorem Apt.row {w0 : World} {d : Ad} {r : Rw Int} {ov : Value} (h : Apt w0 d r ov) : r.len = 0 ∨ some r.b ≠ ov.ownBlock := h.imp id fun h e => h.2 _ e.symm rfl
theorem Apt.far {w0 : World} {d : Ad} {r : Rw Int} {ov : Value} (h : Apt w0 d r ov) {B : Nat} (h1 : w0.heap.size ≤ B) (h2 : B ≤ d.O) : r.len = 0 ∨ some r.b ≠ some B := h.imp id fun h e => by have := Option.some.inj e; have := h.1; omega
theorem Apt.to {w0 : World} {d : Ad} {r : Rw Int} {ov ov' : Value} {u : World} {g : Nat} (h : Apt w0 d r ov) (hr : NmAt u r) (hv : ov'.ownBlock = some g) (hg : ov.ownBlock = some g ∨ u.heap.size ≤ g) : Apt w0 d r ov' := by
  by_cases e : r.len = 0
  · exact Or.inl e
  · refine Or.inr ⟨(h.resolve_left e).1, fun k hk => ?_⟩
    have hkg : g = k := Option.some.inj (hv.symm.trans hk)
    subst hkg
    rcases hg with hg | hg
    · exact (h.resolve_left e).2 _ hg
    · have h0 := hr.row 0 (by omega) 0 _ rfl
      have h1 : r.b < u.heap.size := World.block_lt_of_cell? u _ h0
      omega

set_option maxRecDepth 100000 in
set_option maxHeartbeats 16000000 in
theorem reachMeet_any (w0 : World) (f : Cf) (stop : Int) (d : Ad) (m : Nat → Bool) (ov : Value) (o : List Int) (r : Rw Int) (w : World) (hM : Mr w0 f stop d m ov o w) (hf : f.At w0) (hr : NmAt w r) (hA : Apt w0 d r ov) (hc : o.length + fls m f.cd.len ≤ f.cd.len) (hn : f.cd.len ≤ 100000) :
    Calls Tryz.prog 21 #[.slice r.ao r.len r.cap, .pointer (some ⟨d.F, 0, none⟩), .pointer (some ⟨d.S, 0, none⟩), .pointer (some ⟨d.M, 0, none⟩), .pointer (some ⟨d.O, 0, none⟩)] w fun e w' => e = .returned (.tuple #[]) ∧ ∃ ov', Mr w0 f stop d (mtL f.cd.len stop r.ls (m, o)).1 ov' (mtL f.cd.len stop r.ls (m, o)).2 w' := by
  have HM := hyd hM
  have HR := hyd (show NmAt w r ∧ Apt w0 d r ov from ⟨hr, hA⟩)
  have HD := hyd hf
  have HC := hyd hc
  have hbd := hr.bound
  have HNIL := hyd hr.nil
  have HL : Hid (∀ k, k < r.len → r.ls.take (k + 1) = r.ls.take k ++ [r.x k]) := fun k hk => by
    rw [List.take_succ_eq_append_getElem (by rw [r.ls_len]; exact hk)]
    have := r.ls_get k hk
    rw [List.getElem?_eq_getElem (by rw [r.ls_len]; exact hk)] at this
    rw [Option.some.inj this]
  have HLE : Hid (r.ls.take r.len = r.ls) := by show _ = _; rw [← r.ls_len, List.take_length]
  clear hM hr hA hf hc
  by_cases hz : 0 < r.len
  · rw [HNIL.out hz]
    clear hz
    go_enter Tryz.func21, Tryz.ntmps21
    go_wp2
    go_loopw [10] (fun i wr => ∃ (j : Nat) (ov' : Value), j ≤ r.len ∧ i = .int .i64 j ∧ Mr w0 f stop d (mtL f.cd.len stop (r.ls.take j) (m, o)).1 ov' (mtL f.cd.len stop (r.ls.take j) (m, o)).2 wr ∧ (NmAt wr r ∧ Apt w0 d r ov')) (fun i _ => r.len - (intOf i).toNat)
    case atStart => exact ⟨0, ov, Nat.zero_le _, rfl, HM.out, HR.out⟩
    case round =>
      clear HM HR
      obtain ⟨j, ov1, hj, rfl, hM, hR⟩ := hrel
      have HM := hyd hM
      have HR := hyd hR
      clear hM hR
      by_cases hlt : j < r.len
      · as_aux_lemma =>
        have ij : (j : Int) < r.len := by omega
        have HT : Hid (mtL f.cd.len stop (r.ls.take (j + 1)) (m, o) = mt1 f.cd.len stop (mtL f.cd.len stop (r.ls.take j) (m, o)) (r.x j)) := by show _ = _; rw [HL.out j hlt, mtL_app]
        have HCJ : Hid ((mtL f.cd.len stop (r.ls.take j) (m, o)).2.length ≤ 100000) := by
          show _ ≤ _
          have := (mtL_props f.cd.len stop (r.ls.take j) (m, o)).cnt
          have := HC.out
          simp only at *
          omega
        generalize mtL f.cd.len stop (r.ls.take j) (m, o) = s at *
        have r0 := HR.out.1.row j hlt 0 _ rfl
        simp only [Nat.add_zero, Nat.mul_one] at r0
        generalize r.x j = z at *
        have rF := HM.out.bF.range
        have h0 := fplace_any f z wr
        have HP := hyd (Cf.pl_iff (f := f) (a := z))
        generalize f.pl z = pb at *
        go_wp2_with (refine wpList_load_mid rfl 43 (.tmp 1) rfl d.F 0 (by kernel_rfl) f.vs _ rF Tryz.underlying43 rfl (by kernel_rfl) ?_)
        refine h0.mono ?_
        rintro _ u2 ⟨rfl, hb⟩
        have HM2 := hyd (HM.out.kept hb)
        have HR2 := hyd (show NmAt u2 r ∧ Apt w0 d r ov1 from ⟨HR.out.1.kept hb, HR.out.2⟩)
        clear h0 hb rF HM HR r0
        cases pb
        · have HE : Hid (mtL f.cd.len stop (r.ls.take (j + 1)) (m, o) = s) := by
            show _ = _
            rw [HT.out]; unfold mt1
            rw [if_neg]
            rintro ⟨h1, _⟩
            have := HP.out.2 h1
            simp at this
          go_wp2
          go_roundw
          case rel => exact ⟨j + 1, ov1, by omega, by go_num, by rw [HE.out]; exact HM2.out, HR2.out⟩
          case measure => simp [intOf]; omega
        · have hz1 : 0 ≤ z ∧ z < f.cd.len := HP.out.1 (by simp)
          obtain ⟨q, rfl⟩ : ∃ q : Nat, z = q := ⟨z.toNat, by omega⟩
          have iq : (q : Int) < f.cd.len := hz1.2
          clear hz1 HP
          have cS := HM2.out.bS.cell 0 rfl
          have cM := HM2.out.bM.cell 0 rfl
          have cV := HM2.out.bV.cell q (bvL_get _ (show q < f.cd.len by omega))
          by_cases hst : (q : Int) = stop
          · have e1 : ((q : Int) != stop) = false := by simpa using hst
            have HE : Hid (mtL f.cd.len stop (r.ls.take (j + 1)) (m, o) = s) := by
              show _ = _
              rw [HT.out]; unfold mt1
              rw [if_neg (fun h => h.2.1 hst)]
            clear hst
            go_wp2
            go_roundw
            case rel => exact ⟨j + 1, ov1, by omega, by go_num, by rw [HE.out]; exact HM2.out, HR2.out⟩
            case measure => simp [intOf]; omega
          · have e1 : ((q : Int) != stop) = true := by simpa using hst
            cases hmq : s.1 q
            · have HE : Hid (mtL f.cd.len stop (r.ls.take (j + 1)) (m, o) = (updB s.1 q, s.2 ++ [(q : Int)])) := by
                show _ = _
                rw [HT.out]; unfold mt1
                rw [if_pos ⟨⟨by omega, iq⟩, hst, by rw [Int.toNat_natCast]; exact hmq⟩, Int.toNat_natCast]
              rw [hmq] at cV
              clear hst hmq HT
              go_upto_region 5 with (refine wpList_store1 rfl 4 (.tmp 31) _ rfl rfl d.V q (.bool true) _ _ (by kernel_rfl) rfl (store_one _ _ (by kernel_rfl) rfl rfl _ _) HM2.out.bV (by rw [bvL_len]; omega) ?_; intro w1 W1; have HM3 := hyd (HM2.out.setV W1); have HR3 := hyd (show NmAt w1 r ∧ Apt w0 d r ov1 from ⟨HR2.out.1.gb W1.gb (HR2.out.2.far (by have := HM2.out.ne; omega) (by have := HM2.out.ne; omega)), HR2.out.2⟩); clear W1 HM2 HR2 cS cM cV)
              have cO := HM3.out.bO.cell 0 rfl
              have hsz : d.O + 1 ≤ w1.heap.size := HM3.out.bO.lt
              go_wp2_with (first
                | (at_builtin; refine wpList_app1L rfl _ _ rfl (d.O + 1) ov1 s.2 (q : Int) rfl HM3.out.oi rfl (by have := HCJ.out; omega) hsz ?_; intro g cap w2 h6 g6 l6; have HA4 := hyd (HM3.out.app g6); have HO4 := hyd h6; have HR4 := hyd (show NmAt w2 r ∧ Apt w0 d r (.slice (some ⟨g, 0, none⟩) (s.2.length + 1) cap) from ⟨HR3.out.1.gb g6 HR3.out.2.row, HR3.out.2.to HR3.out.1 rfl l6⟩); have HNE := hyd HM3.out.ne; clear h6 g6 l6 HM3 HR3 cO)
                | (refine wpList_store1 rfl 44 (.tmp 4) (.tmp 35) rfl rfl d.O 0 (.slice (some ⟨g, 0, none⟩) (s.2.length + 1) cap) _ _ (by kernel_rfl) (by kernel_rfl) (store_one _ _ (by kernel_rfl) rfl rfl _ _) HA4.out.2.2.2 (by simp) ?_; intro w3 W3; have HM5 := hyd (Mr.setO HA4.out HNE.out HO4.out W3); have HR5 := hyd (show NmAt w3 r ∧ Apt w0 d r (.slice (some ⟨g, 0, none⟩) (s.2.length + 1) cap) from ⟨HR4.out.1.gb W3.gb (HR4.out.2.far (by have := HNE.out; omega) (Nat.le_refl _)), HR4.out.2⟩); clear W3 HA4 HO4 HR4))
              go_roundw
              case rel => exact ⟨j + 1, _, by omega, by go_num, by rw [HE.out]; exact HM5.out, HR5.out⟩
              case measure => simp [intOf]; omega
            · have HE : Hid (mtL f.cd.len stop (r.ls.take (j + 1)) (m, o) = s) := by
                show _ = _
                rw [HT.out]; unfold mt1
                rw [if_neg (fun h => by have := h.2.2; rw [Int.toNat_natCast, hmq] at this; cases this)]
              rw [hmq] at cV
              clear hst hmq HT
              go_wp2
              go_roundw
              case rel => exact ⟨j + 1, ov1, by omega, by go_num, by rw [HE.out]; exact HM2.out, HR2.out⟩
              case measure => simp [intOf]; omega
      · have e2 : ¬ (j : Int) < r.len := by omega
        have HE : Hid (r.ls.take j = r.ls) := by
          show _ = _
          rw [show j = r.len by omega]; exact HLE.out
        go_wp2
        go_end0
        exact ⟨rfl, ov1, by rw [← HE.out]; exact HM.out⟩
  · have i0 : ¬ (0 : Int) < r.len := by omega
    have HE : Hid (r.ls = []) := by
      apply List.eq_nil_of_length_eq_zero
      rw [r.ls_len]; omega
    clear hz
    go_enter Tryz.func21, Tryz.ntmps21
    go_wp2
    go_loopw [10] (fun i wr => i = .int .i64 0 ∧ Mr w0 f stop d m ov o wr) (fun _ _ => 0)
    case atStart => exact ⟨rfl, HM.out⟩
    case round =>
      obtain ⟨rfl, hb⟩ := hrel
      have HB := hyd hb
      clear hb
      go_wp2
      go_end0
      exact ⟨rfl, ov, by rw [HE.out]; exact HB.out⟩
end Go.Proofs.YtmajlfocfjcgmaaGreatDoor

/- Layer 15: Reach. -/
namespace Go.Proofs.YtmajlfocfjcgmaaGreatDoor
open Go Go.RowKit

/-- The numbers of what is true. -/
def trM (m : Nat → Bool) (n : Nat) : List Int := ((List.range n).filter m).map fun q : Nat => (q : Int)
theorem trM_succ (m : Nat → Bool) (n : Nat) : trM m (n + 1) = trM m n ++ (if m n = true then [(n : Int)] else []) := by
  unfold trM
  rw [List.range_succ, List.filter_append, List.map_append]
  cases h : m n <;> simp [h]
theorem trM_len (m : Nat → Bool) (n : Nat) : (trM m n).length ≤ n := by
  unfold trM
  rw [List.length_map]
  exact Nat.le_trans (List.length_filter_le _ _) (by simp)
theorem trM_eq {m : Nat → Bool} {n : Nat} {P : Nat → Prop} (h : ∀ q, q < n → (m q = true ↔ P q)) : trM m n = (Fl.lst n P).map fun q : Nat => (q : Int) := by
  unfold trM
  congr 1
  apply Fl.lst_of
  · exact List.Pairwise.filter _ List.pairwise_lt_range
  · intro p
    rw [List.mem_filter, List.mem_range]
    exact ⟨fun k => ⟨k.1, (h p k.1).1 k.2⟩, fun k => ⟨k.1, (h p k.1).2 k.2⟩⟩

set_option maxRecDepth 100000 in
set_option maxHeartbeats 8000000 in
theorem placesOf_any (m : Nat → Bool) (n V : Nat) (w : World) (hV : Blk w V (bvL m n) 4) (hn : n ≤ 100000) : Calls Tryz.prog 22 #[.slice (some ⟨V, 0, none⟩) n n] w fun e w' => ∃ v, e = .returned v ∧ Oi w' w.heap.size v (trM m n) ∧ Below w.heap.size w w' := by
  have HV := hyd hV
  clear hV
  go_enter Tryz.func22, Tryz.ntmps22
  go_wp2
  go_loopw [3, 8] (fun v i wr => ∃ (j : Nat), j ≤ n ∧ i = .int .i64 j ∧ Oi wr w.heap.size v (trM m j) ∧ Below w.heap.size w wr) (fun _ i _ => n - (intOf i).toNat)
  case atStart => exact ⟨0, Nat.zero_le _, rfl, Oi.nil _ _, Below.refl _ _⟩
  case round =>
    obtain ⟨j, hj, rfl, hO, hB⟩ := hrel
    have HO := hyd (show Oi wr w.heap.size u3 (trM m j) ∧ Below w.heap.size w wr from ⟨hO, hB⟩)
    clear hO hB
    by_cases hlt : j < n
    · have ij : (j : Int) < n := by omega
      have c0 := (HV.out.kept HO.out.2).cell j (bvL_get m hlt)
      have hlen := hyd (trM_len m j)
      have HT := hyd (trM_succ m j)
      cases hm : m j
      · rw [hm] at c0
        have HE : Hid (trM m (j + 1) = trM m j) := by show _ = _; rw [HT.out, hm]; simp
        clear hm HT
        go_wp2
        go_roundw
        case rel => exact ⟨j + 1, by omega, by go_num, by rw [HE.out]; exact HO.out.1, HO.out.2⟩
        case measure => simp [intOf]; omega
      · rw [hm] at c0
        have HE : Hid (trM m (j + 1) = trM m j ++ [(j : Int)]) := by show _ = _; rw [HT.out, hm]; simp
        clear hm HT
        go_wp2_with (at_builtin; refine wpList_app1 rfl _ _ rfl w.heap.size u3 (trM m j) (j : Int) rfl HO.out.1 rfl (by have := hlen.out; omega) HO.out.2.size ?_; intro v6 w6 h6 g6; have HO2 := hyd (show Oi w6 w.heap.size v6 (trM m (j + 1)) ∧ Below w.heap.size w w6 from ⟨by rw [HE.out]; exact h6, gb_bel HO.out.2 g6 (fun k hk => (owb HO.out.1 hk).1)⟩); clear h6 g6 HO c0)
        go_roundw
        case rel => exact ⟨j + 1, by omega, by go_num, HO2.out.1, HO2.out.2⟩
        case measure => simp [intOf]; omega
    · have ij : ¬ (j : Int) < n := by omega
      have HE : Hid (trM m j = trM m n) := by show _ = _; rw [show j = n by omega]
      go_wp2
      go_ret
      exact ⟨_, rfl, by rw [← HE.out]; exact HO.out.1, HO.out.2⟩

theorem Oi.pop {w : World} {base : Nat} {g cap : Nat} {l : List Int} {a : Int} (h : Oi w base (.slice (some ⟨g, 0, none⟩) (l.length + 1) cap) (l ++ [a])) : Oi w base (.slice (some ⟨g, 0, none⟩) l.length cap) l := by
  obtain ⟨_, ⟨h1, _⟩ | ⟨g', cap', cur, h1, h2, h3, h4, h5, h6, h7⟩⟩ := h
  · cases h1
  · injection h1 with e1 _ e3
    injection e1 with e1
    injection e1 with e1
    subst e1; subst e3
    rw [List.length_append, List.length_singleton] at h4 h7
    refine ⟨by rw [ivL_len]; omega, Or.inr ⟨g, cap, cur, rfl, h2, h3, by omega, h5, h6, ?_⟩⟩
    have := congrArg (List.take (l.length * 1)) h7
    rw [List.take_take, show min (l.length * 1) ((l.length + 1) * 1) = l.length * 1 by omega] at this
    rw [this, ivL, List.map_append, List.take_left' (by simp)]
    rfl
theorem Oi.last {w : World} {base : Nat} {v : Value} {l : List Int} {a : Int} (h : Oi w base v (l ++ [a])) : ∃ g cap, v = .slice (some ⟨g, 0, none⟩) (l.length + 1) cap ∧ w.cell? ⟨g, l.length, none⟩ = some (.int .i64 a) ∧ l.length + 1 ≤ cap := by
  have h' := h
  obtain ⟨_, ⟨h1, h0⟩ | ⟨g, cap, cur, h1, h2, h3, h4, h5, h6, h7⟩⟩ := h
  · simp at h0
  · rw [List.length_append, List.length_singleton] at h1 h4
    subst h1
    refine ⟨g, cap, rfl, ?_, h4⟩
    have := World.ownsRow.cells h' (g := g) rfl l.length (.int .i64 a) (by simp [ivL])
    rw [adp, Nat.zero_add] at this
    exact this

/-- What is come to. -/
noncomputable def Cf.rch (f : Cf) (g : Rw Bool) (r : Rw Int) (stop : Int) : List Int := (Fl.lst f.cd.len (Fl.Rch (f.way g) (fun q => (q : Int) ∈ r.ls ∧ q < f.cd.len) stop)).map fun q : Nat => (q : Int)
theorem lst_len (n : Nat) (P : Nat → Prop) : (Fl.lst n P).length ≤ n := by
  unfold Fl.lst
  exact Nat.le_trans (List.length_filter_le _ _) (by simp)
theorem lstm_small {n : Nat} {P : Nat → Prop} (hn : n ≤ 100000) : (∀ a ∈ (Fl.lst n P).map (fun q : Nat => (q : Int)), I64 a) ∧ ((Fl.lst n P).map (fun q : Nat => (q : Int))).length ≤ 9223372036854775807 := by
  refine ⟨fun a ha => ?_, ?_⟩
  · obtain ⟨q, rfl, hq, _⟩ := mem_lstm.1 ha
    exact ⟨by omega, by omega⟩
  · rw [List.length_map]; have := lst_len n P; omega

set_option maxRecDepth 100000 in
set_option maxHeartbeats 16000000 in
theorem reach_any (f : Cf) (g : Rw Bool) (r : Rw Int) (stop : Int) (w : World) (hf : f.At w) (hg : BlAt w g) (hr : NmAt w r) (hn : f.cd.len ≤ 100000) : Calls Tryz.prog 9 #[.agg f.vs.toArray, .slice g.ao g.len g.cap, .slice r.ao r.len r.cap, .int .i64 stop] w fun e w' => ∃ v, e = .returned v ∧ Oi w' w.heap.size v (f.rch g r stop) ∧ Below w.heap.size w w' := by
  have hmf : ∀ (fn : Fn) (first cap : Array Value) (w : World), (Instr.makeFunc fn first cap).run Tryz.prog w = .ok (.func fn first cap) w := fun _ _ _ _ => rfl
  have A0 := allocs_below [.cells f.vs.toArray 43, .cells #[.int .i64 stop] 3] w
  have A1 := allocs_heap [.cells f.vs.toArray 43, .cells #[.int .i64 stop] 3] w
  simp only [List.foldl] at A0 A1
  have H1 := hyd (show Below w.heap.size w _ ∧ Blk _ w.heap.size f.vs 43 ∧ Blk _ (w.heap.size + 1) [.int .i64 stop] 3 from ⟨A0, A1 0 (by simp), A1 1 (by simp)⟩)
  have HD := hyd (show f.At w ∧ BlAt w g ∧ NmAt w r from ⟨hf, hg, hr⟩)
  have HW : Hid (f.rch g r stop = (Fl.lst f.cd.len (Fl.Rch (f.way g) (fun q => (q : Int) ∈ r.ls ∧ q < f.cd.len) stop)).map fun q : Nat => (q : Int)) := rfl
  generalize f.rch g r stop = R at *
  clear A0 A1 hf hg hr
  go_enter Tryz.func9, Tryz.ntmps9
  go_upto_region 1 with fail
  generalize (w.alloc (.cells f.vs.toArray 43)).alloc (.cells #[.int .i64 stop] 3) = u1 at *
  have c14 := H1.out.2.1.cell 14 rfl
  go_upto_region 2 with (first
    | (refine wpList_make_blk rfl _ _ _ rfl 4 (.bool false) 1 Tryz.underlying29 (by kernel_rfl) rfl f.cd.len rfl rfl (by omega) (by omega) ?_; intro w1 hb1 hl1; have H2 := hyd (show (Below w.heap.size w w1 ∧ Blk w1 w.heap.size f.vs 43 ∧ Blk w1 (w.heap.size + 1) [.int .i64 stop] 3) ∧ Blk w1 u1.heap.size (bvL (fun _ => false) f.cd.len) 4 ∧ w.heap.size + 1 < u1.heap.size from ⟨⟨Below.next H1.out.1 hl1, H1.out.2.1.kept hl1, H1.out.2.2.kept hl1⟩, by rw [← rpl_bvL]; exact hb1, H1.out.2.2.lt⟩); clear hb1 hl1 H1 c14)
    | (refine wpList_store1 rfl 29 (.tmp 9) (.tmp 17) rfl rfl w1.heap.size 0 (.slice (some ⟨u1.heap.size, 0, none⟩) f.cd.len f.cd.len) _ _ (by kernel_rfl) (by kernel_rfl) (store_one _ _ (by kernel_rfl) rfl rfl _ _) (Blk.new w1 [.slice none 0 0] 29) (by simp) ?_; intro w2 W2; have H3 := hyd (show (Below w.heap.size w w2 ∧ Blk w2 w.heap.size f.vs 43 ∧ Blk w2 (w.heap.size + 1) [.int .i64 stop] 3) ∧ (Blk w2 u1.heap.size (bvL (fun _ => false) f.cd.len) 4 ∧ Blk w2 w1.heap.size [.slice (some ⟨u1.heap.size, 0, none⟩) f.cd.len f.cd.len] 29) ∧ (w.heap.size + 1 < u1.heap.size ∧ u1.heap.size < w1.heap.size) from by
        have B := below_alloc w1 (.cells #[.slice none 0 0] 29)
        have l1 := H2.out.2.1.lt
        have l2 := H2.out.2.2
        refine ⟨⟨gb_bel (Below.next H2.out.1.1 B) W2.gb (fun k hk => by have := Option.some.inj hk; omega), (H2.out.1.2.1.kept B).gb W2.gb (fun e => by have := Option.some.inj e; omega), (H2.out.1.2.2.kept B).gb W2.gb (fun e => by have := Option.some.inj e; omega)⟩, ⟨(H2.out.2.1.kept B).gb W2.gb (fun e => by have := Option.some.inj e; omega), W2.blk⟩, l2, l1⟩); clear W2 H2))
  generalize u1.heap.size = BV at *
  generalize w1.heap.size = BM at *
  have rF := H3.out.1.2.1.range
  have h0 := allHandlers_any f w2 (Cf.At.kept H3.out.1.1 HD.out.1) hn
  go_upto_region 3 with (refine wpList_load_mid rfl 43 (.tmp 4) rfl w.heap.size 0 (by kernel_rfl) f.vs _ rF Tryz.underlying43 rfl (by kernel_rfl) ?_)
  refine h0.mono ?_
  rintro _ u4 ⟨BH, rfl, hBH, hbH, hb4⟩
  have H4 := hyd (show ((Below w.heap.size w u4 ∧ Blk u4 w.heap.size f.vs 43 ∧ Blk u4 (w.heap.size + 1) [.int .i64 stop] 3) ∧ (Blk u4 BV (bvL (fun _ => false) f.cd.len) 4 ∧ Blk u4 BM [.slice (some ⟨BV, 0, none⟩) f.cd.len f.cd.len] 29 ∧ Blk u4 BH (nvL (fun p => f.han p) f.cd.len) 3)) ∧ ((w.heap.size + 1 < BV ∧ BV < BM) ∧ BM < BH) from by
    have l1 := H3.out.2.1.2.lt
    exact ⟨⟨⟨Below.next H3.out.1.1 hb4, H3.out.1.2.1.kept hb4, H3.out.1.2.2.kept hb4⟩, H3.out.2.1.1.kept hb4, H3.out.2.1.2.kept hb4, hbH⟩, H3.out.2.2, by omega⟩)
  clear h0 hBH hbH hb4 H3 rF
  go_upto_region 5 with fail
  have B5 := below_alloc u4 (.cells #[.slice none 0 0] 44)
  have H5 : Hid (Mr w f stop ⟨w.heap.size, w.heap.size + 1, BV, BM, BH, u4.heap.size⟩ (fun _ => false) (.slice none 0 0) [] (u4.alloc (.cells #[.slice none 0 0] 44))) :=
    ⟨Below.next H4.out.1.1.1 B5, H4.out.1.1.2.1.kept B5, H4.out.1.1.2.2.kept B5, H4.out.1.2.1.kept B5, H4.out.1.2.2.1.kept B5, H4.out.1.2.2.2.kept B5, Blk.new u4 [.slice none 0 0] 44, Oi.nil _ _, by have := H4.out.2; have := H4.out.1.2.2.2.lt; show (w.heap.size ≤ w.heap.size ∧ w.heap.size < w.heap.size + 1) ∧ (w.heap.size + 1 < BV ∧ BV < BM) ∧ (BM < BH ∧ BH < u4.heap.size); omega⟩
  clear B5 H4
  generalize u4.alloc (.cells #[.slice none 0 0] 44) = u5 at *
  generalize u4.heap.size = BO at *
  have hap : Apt w ⟨w.heap.size, w.heap.size + 1, BV, BM, BH, BO⟩ r (.slice none 0 0) := by
    by_cases e : r.len = 0
    · exact Or.inl e
    · refine Or.inr ⟨Or.inl ?_, fun k hk => by cases hk⟩
      exact World.block_lt_of_cell? w _ (HD.out.2.2.row 0 (by omega) 0 _ rfl)
  have h0 := reachMeet_any w f stop ⟨w.heap.size, w.heap.size + 1, BV, BM, BH, BO⟩ (fun _ => false) (.slice none 0 0) [] r u5 H5.out HD.out.1 (HD.out.2.2.kept H5.out.bl) hap (by have := fls_le (fun _ => false) f.cd.len; simpa using this) hn
  dsimp only at h0
  clear hap
  go_wp2_with fail
  refine h0.mono ?_
  rintro _ u6 ⟨rfl, ov, hM⟩
  have HR : Hid (Rs (f.way g) (fun q => (q : Int) ∈ r.ls ∧ q < f.cd.len) f.cd.len stop (mtL f.cd.len stop r.ls (fun _ => false, []))) := Rs.start
  have H6 := hyd hM
  clear h0 hM H5
  generalize mtL f.cd.len stop r.ls (fun _ => false, []) = s at *
  obtain ⟨m, o⟩ := s
  go_upto_block 0 with fail
  go_cut [13] (fun _ wx => ∃ m : Nat → Bool, Hid (Blk wx BV (bvL m f.cd.len) 4 ∧ Blk wx BM [.slice (some ⟨BV, 0, none⟩) f.cd.len f.cd.len] 29 ∧ Below w.heap.size w wx) ∧ Hid (trM m f.cd.len = R))
  case first =>
    go_wp2_with fail
    go_loopg [13] (o.length + 2 * fls m f.cd.len) (fun k _ wr => ∃ (m : Nat → Bool) (ov : Value) (o : List Int), Mr w f stop ⟨w.heap.size, w.heap.size + 1, BV, BM, BH, BO⟩ m ov o wr ∧ Rs (f.way g) (fun q => (q : Int) ∈ r.ls ∧ q < f.cd.len) f.cd.len stop (m, o) ∧ o.length + 2 * fls m f.cd.len ≤ k)
    case atStart => exact ⟨m, ov, o, H6.out, HR.out, Nat.le_refl _⟩
    case round =>
      clear H6 HR
      obtain ⟨m, ov, o, hM, hR, hk⟩ := hrel
      have HM := hyd hM
      have HR := hyd hR
      have HK := hyd hk
      clear hM hR hk
      rcases List.eq_nil_or_concat o with rfl | ⟨o1, z, rfl⟩
      · obtain ⟨ao, cap, rfl⟩ := owform HM.out.oi
        have cO := HM.out.bO.cell 0 rfl
        have HE : Hid (trM m f.cd.len = R) := by
          show _ = _
          rw [HW.out]
          exact trM_eq (fun q _ => HR.out.done q)
        have HF := hyd (show Blk wr BV (bvL m f.cd.len) 4 ∧ Blk wr BM [.slice (some ⟨BV, 0, none⟩) f.cd.len f.cd.len] 29 ∧ Below w.heap.size w wr from ⟨HM.out.bV, HM.out.bM, HM.out.bl⟩)
        clear HM HR HK
        go_wp2
        go_meet
        case rel => exact ⟨m, HF.out, HE.out⟩
      · as_aux_lemma =>
        rw [List.concat_eq_append] at HM HR HK
        obtain ⟨p, rfl, hp, _⟩ := HR.out.places z (by simp)
        obtain ⟨gg, cap, rfl, hc, hcap⟩ := HM.out.oi.last
        obtain ⟨L, hL⟩ : ∃ L, L = o1.length + 1 := ⟨_, rfl⟩
        have HL := hyd hL
        have cO := HM.out.bO.cell 0 rfl
        rw [← hL] at cO hcap
        rw [show o1.length = L - 1 by omega] at hc
        have hLs : L ≤ f.cd.len := by have := HR.out.cnt; simp only [List.length_append, List.length_singleton] at this; omega
        clear hL
        have iL : (0 : Int) < L := by have := HL.out; omega
        have iC : (L : Int) - 1 ≤ cap := by omega
        have ip : (p : Int) < f.cd.len := by omega
        go_upto_region 9 with (refine wpList_store1 rfl 44 (.tmp 11) (.tmp 37) rfl rfl BO 0 (.slice (some ⟨gg, 0, none⟩) (L - 1) cap) _ _ (by kernel_rfl) (by kernel_rfl) (store_one _ _ (by kernel_rfl) rfl rfl _ _) HM.out.bO (by simp) ?_; intro w3 W3)
        have HM2 : Hid (Mr w f stop ⟨w.heap.size, w.heap.size + 1, BV, BM, BH, BO⟩ m (.slice (some ⟨gg, 0, none⟩) (L - 1) cap) o1 w3) := by
          have e : L - 1 = o1.length := by have := HL.out; omega
          have e2 : L = o1.length + 1 := HL.out
          refine Mr.setO (ov := .slice (some ⟨gg, 0, none⟩) (o1.length + 1) cap) ⟨⟨HM.out.bl, HM.out.bF, HM.out.bS, HM.out.bV⟩, HM.out.bM, HM.out.bH, HM.out.bO⟩ HM.out.ne ?_ W3
          rw [e]
          exact HM.out.oi.pop
        clear HM W3 cO hc
        have HVC : Hid (∀ u : World, Blk u BH (nvL (fun p => f.han p) f.cd.len) 3 → u.cell? ⟨BH, p, none⟩ = some (.int .i64 (f.han p))) := fun u hu => hu.cell p (nvL_get (fun p => f.han p) hp)
        have rF := HM2.out.bF.range
        have cH := HM2.out.bH.cell p (nvL_get (fun p => f.han p) hp)
        have HWS : Hid (f.wsH g (f.han p) p = f.ws g p) := rfl
        have HWW := hyd (fun w1 h1 h2 => waysWith_any f g p (f.han p) w1 h1 h2 hp)
        generalize f.han p = hv at *
        have hNE : Nonempty (Wd (fun u : World => u.rangeAt w.heap.size 0 f.vs ∧ u.cell? ⟨BH, p, none⟩ = some (.int .i64 hv))) := ⟨⟨w3.drew, rF, cH⟩⟩
        have fH : ∀ x : Wd (fun u : World => u.rangeAt w.heap.size 0 f.vs ∧ u.cell? ⟨BH, p, none⟩ = some (.int .i64 hv)), x.w.cell? ⟨BH, p, none⟩ = some (.int .i64 hv) := fun x => x.2.2
        refine wp_region_readsQN (fun u : World => u.rangeAt w.heap.size 0 f.vs ∧ u.cell? ⟨BH, p, none⟩ = some (.int .i64 hv)) [0, 1, 2, 3, 4, 5, 6, 7] 2 (by kernel_rfl) rfl (by kernel_rfl) (hj_ofQ (by kernel_rfl)) ⟨rF, cH⟩ ?_
        simp only [List.filterMap, List.getElem?_cons_zero, List.getElem?_cons_succ]
        go_big_quiet_step (fail)
        go_big_quiet_want
        refine quiet_load_rowF 43 (.tmp 4) rfl w.heap.size 0 (by kernel_rfl) f.vs _ (fun _ hC => by obtain ⟨x, rfl⟩ := hC; exact x.2.1) Tryz.underlying43 rfl (by kernel_rfl) ?_
        simp only [Act.put, List.setIfInBounds_toArray, List.set_cons_succ, List.set_cons_zero]
        go_big_quiet_on
        iterate 6 go_big_quiet_step (fail)
        refine wpQuiet_nil ?_
        clear fH hNE rF cH
        have HM3 := hyd (HM2.out.kept (Below.refl _ _).drew)
        clear HM2
        generalize w3.drew = w4 at *
        refine wpAnyH_ready (rs := [8]) (by kernel_rfl) (by simp) ?_
        refine AllReadyH.cons rfl (fun K hK => ?_) AllReadyH.nil
        rw [if_pos (by rfl)]
        go_simp
        refine (HWW.out w4 (Cf.At.kept HM3.out.bl HD.out.1) (BlAt.kept HD.out.2.1 HM3.out.bl)).mono ?_
        rintro _ w5 ⟨v, rfl, hO, hb⟩
        rw [HWS.out] at hO
        have hsm := lstm_small (n := f.cd.len) (P := f.way g p) hn
        obtain ⟨ra, rfl, hra, hral, _, hrab⟩ := hO.rw hsm.1 hsm.2
        have HM4 := hyd (HM3.out.kept hb)
        have HA := hyd (show NmAt w5 ra ∧ Apt w ⟨w.heap.size, w.heap.size + 1, BV, BM, BH, BO⟩ ra (.slice (some ⟨gg, 0, none⟩) (L - 1) cap) ∧ ra.ls = f.ws g p from ⟨hra, Or.inr ⟨Or.inr (by have : BO < w4.heap.size := HM3.out.bO.lt; show BO < ra.b; omega), fun k hk => by have := (owb HM3.out.oi hk).2; omega⟩, hral⟩)
        clear hO hsm hra hral hrab hb HM3 HWW
        refine hK.out _ _ ⟨HM4.out.bF.range, HVC.out _ HM4.out.bH⟩ (fun _ => ?_)
        clear hK K
        refine wpAnyH_ready (rs := [9]) (by kernel_rfl) (by simp) ?_
        refine AllReadyH.cons rfl (fun K hK => ?_) AllReadyH.nil
        rw [if_pos (by rfl)]
        go_simp
        have hcnt : o1.length + fls m f.cd.len ≤ f.cd.len := by have := HR.out.cnt; simp only [List.length_append, List.length_singleton] at this; omega
        have h0 := reachMeet_any w f stop ⟨w.heap.size, w.heap.size + 1, BV, BM, BH, BO⟩ m (.slice (some ⟨gg, 0, none⟩) (L - 1) cap) o1 ra w5 HM4.out HD.out.1 HA.out.1 HA.out.2.1 hcnt hn
        dsimp only at h0
        refine h0.mono ?_
        rintro _ w6 ⟨rfl, ov6, hM6⟩
        obtain ⟨hR6, hlt6⟩ := HR.out.step (l := ra.ls) (fun a => by rw [HA.out.2.2]; exact mem_lstm) (fun q hq => hq.1)
        have HM6 := hyd hM6
        have HR6 := hyd hR6
        have HK6 : Hid ((mtL f.cd.len stop ra.ls (m, o1)).2.length + 2 * fls (mtL f.cd.len stop ra.ls (m, o1)).1 f.cd.len < gk) := by show _ < _; have := HK.out; omega
        clear h0 hM6 hR6 hlt6
        generalize mtL f.cd.len stop ra.ls (m, o1) = s6 at *
        obtain ⟨m6, o6⟩ := s6
        refine hK.out _ _ ⟨HM6.out.bF.range, HVC.out _ HM6.out.bH⟩ (fun _ => ?_)
        clear hK K
        refine wpAnyH_done (by kernel_rfl) ?_ _
        refine ⟨(fun c hc => by cases hc), ?_⟩
        go_wp2
        go_roundg (o6.length + 2 * fls m6 f.cd.len)
        case measure => exact HK6.out
        case rel => exact ⟨m6, ov6, o6, HM6.out, HR6.out, Nat.le_refl _⟩
  case rest =>
  obtain ⟨m', hB, hE⟩ := hcut
  have HB := hyd hB.out
  have HE := hyd hE.out
  clear hB hE H6 HR
  have cM := HB.out.2.1.cell 0 rfl
  have h0 := placesOf_any m' f.cd.len BV wc HB.out.1 hn
  go_wp2_with fail
  refine h0.mono ?_
  rintro _ u7 ⟨v, rfl, hO, hb⟩
  have H7 := hyd (show Oi u7 w.heap.size v R ∧ Below w.heap.size w u7 from ⟨by rw [← HE.out]; exact own_mono hO HB.out.2.2.size, Below.next HB.out.2.2 hb⟩)
  clear h0 hO hb cM
  go_wp2
  go_ret
  exact ⟨_, rfl, H7.out.1, H7.out.2⟩
end Go.Proofs.YtmajlfocfjcgmaaGreatDoor

/- Layers 13 to 15: the lattice of one label, as the statements make it. -/
namespace Go.Proofs.YtmajlfocfjcgmaaGreatDoor
open Go Go.RowKit

def litS : Nat → ByteArray := fun _ => ⟨#[108, 111, 119]⟩
def litN (b : Nat) : Strs := ⟨some ⟨b, 0, none⟩, b, 0, 1, 1, litS⟩
def litP : Prs := ⟨none, 0, 0, 0, 0, fun _ => 0, fun _ => 0⟩
theorem lit_e (b : Nat) : makeE (litN b) litP = 0 := by kernel_rfl
def litW (w : World) : World := w.alloc (.cells #[.string ⟨#[108, 111, 119]⟩] 9)
theorem litW_below (w : World) : Below w.heap.size w (litW w) := below_alloc _ _
theorem litN_at (w : World) : (litN w.heap.size).At (litW w) := by
  refine ⟨Nat.le_refl _, fun _ => rfl, by show (1 : Nat) ≤ _; omega, fun i hi => ?_, fun i hi => ?_⟩
  · match i, hi with
    | 0, _ => simp [litW, litN, litS]
  · show (3 : Nat) ≤ _; omega
theorem litP_at (w : World) : litP.At w := ⟨Nat.le_refl _, fun h => absurd h (Nat.lt_irrefl _), Nat.zero_le _, fun _ h => absurd h (Nat.not_lt_zero _), fun _ h => absurd h (Nat.not_lt_zero _)⟩
/-- The lattice of one. -/
structure Lt1 (n : Strs) (g : Grid) (w : World) : Prop where
  nat : n.At w
  gat : g.At w
  fd : formedB n g = true
  one : n.len = 1
  nm : n.s 0 = ⟨#[108, 111, 119]⟩
  le : g.B 0 0 = true
  rows : ∀ r, r < g.len → g.A r ≠ none
def nilRw {α : Type} (x : α) : Rw α := ⟨none, 0, 0, 0, 0, fun _ => x⟩
theorem nilRw_at {α : Type} (x : α) (z : Nat) (vs : α → List Value) (A : World → α → Prop) (w : World) : Rw.At z vs A w (nilRw x) := ⟨fun h => absurd h (Nat.lt_irrefl _), Nat.zero_le _, fun _ h => absurd h (Nat.not_lt_zero _), fun _ h => absurd h (Nat.not_lt_zero _)⟩
end Go.Proofs.YtmajlfocfjcgmaaGreatDoor

/- Layer 15: awake and few of the statements. -/
namespace Go.Proofs.YtmajlfocfjcgmaaGreatDoor
open Go Go.RowKit

def aIn (i : Nat) : In := if i = 0 then ⟨25, 1, leafT 0 0⟩ else ⟨27, 0, leafT 0 0⟩
def aCf (b : Nat) : Cf := ⟨leafT 0 0, leafT 0 0, leafT 0 0, 0, 0, 0, ⟨some ⟨b, 0, none⟩, b, 0, 2, 2, aIn⟩, nilRw ⟨0, 0, 0⟩, nilRw ⟨.dm, .dm, 0⟩, nilRw ⟨0, 0, nilRw 0⟩⟩
def aCd : List Value := [.int .i64 25, .int .i64 1, .int .i64 0, .int .i64 0, .slice none 0 0, .int .i64 0, .int .i64 0, .int .i64 27, .int .i64 0, .int .i64 0, .int .i64 0, .slice none 0 0, .int .i64 0, .int .i64 0]
def aFv (b : Nat) : List Value := [.int .i64 0, .int .i64 0, .slice none 0 0, .int .i64 0, .int .i64 0, .int .i64 0, .int .i64 0, .slice none 0 0, .int .i64 0, .int .i64 0, .slice none 0 0, .int .i64 0, .int .i64 0, .int .i64 0, .slice (some ⟨b, 0, none⟩) 2 2, .slice none 0 0, .slice none 0 0, .slice none 0 0]
theorem aCf_vs (b : Nat) : (aCf b).vs = aFv b := rfl
theorem i64_zero : I64 0 := ⟨by omega, by omega⟩
theorem aCf_at {b : Nat} {w : World} (h : Blk w b aCd 50) : (aCf b).At w := by
  refine ⟨leaf_at _ _ _, leaf_at _ _ _, leaf_at _ _ _, i64_zero, i64_zero, i64_zero, ⟨fun _ => rfl, by show 2 ≤ _; omega, fun i hi => ?_, fun i hi => ?_⟩, nilRw_at _ _ _ _ _, nilRw_at _ _ _ _ _, nilRw_at _ _ _ _ _⟩
  · have hi2 : i < 2 := hi
    show w.rangeAt b (0 + i * 7) (aIn i).vs
    intro j v hv
    have key : ∀ k, (aIn i).vs[j]? = some v → aCd[k]? = (aIn i).vs[j]? → w.cell? ⟨b, k, none⟩ = some v := fun k h1 h2 => h.cell k (h2.trans h1)
    have hj : j < 7 := (List.getElem?_eq_some_iff.1 hv).1
    refine (show w.cell? ⟨b, i * 7 + j, none⟩ = some v → w.cell? ⟨b, 0 + i * 7 + j, none⟩ = some v by rw [Nat.zero_add]; exact id) (key _ hv ?_)
    match i, hi2, j, hj with
    | 0, _, 0, _ => rfl
    | 0, _, 1, _ => rfl
    | 0, _, 2, _ => rfl
    | 0, _, 3, _ => rfl
    | 0, _, 4, _ => rfl
    | 0, _, 5, _ => rfl
    | 0, _, 6, _ => rfl
    | 1, _, 0, _ => rfl
    | 1, _, 1, _ => rfl
    | 1, _, 2, _ => rfl
    | 1, _, 3, _ => rfl
    | 1, _, 4, _ => rfl
    | 1, _, 5, _ => rfl
    | 1, _, 6, _ => rfl
  · show (aIn i).At w
    unfold aIn
    split
    · exact ⟨(show (-9223372036854775808 : Int) ≤ 25 ∧ (25 : Int) ≤ 9223372036854775807 by omega), (show (-9223372036854775808 : Int) ≤ 1 ∧ (1 : Int) ≤ 9223372036854775807 by omega), leaf_at _ _ _⟩
    · exact ⟨(show (-9223372036854775808 : Int) ≤ 27 ∧ (27 : Int) ≤ 9223372036854775807 by omega), i64_zero, leaf_at _ _ _⟩
def nG : Rw Bool := ⟨none, 0, 0, 0, 0, fun _ => false⟩
theorem nG_at (w : World) : BlAt w nG := ⟨fun h => absurd h (Nat.lt_irrefl 0), Nat.zero_le _, fun _ h => absurd h (Nat.not_lt_zero _), fun _ h => absurd h (Nat.not_lt_zero _)⟩
theorem aCf_ws (b : Nat) : (aCf b).ws nG 0 = [1] := by
  refine (lst_map_of (l := [1]) (by simp) (fun a => ?_)).symm
  have hop : ((aCf b).cd.x 0).op = 25 := rfl
  have ha : ((aCf b).cd.x 0).a = 1 := rfl
  have hrs : (aCf b).rs nG 0 = false := rfl
  constructor
  · intro h
    have : a = 1 := by simpa using h
    subst this
    exact ⟨1, rfl, by show 1 < 2; omega, by show 1 < 2; omega, Or.inl ⟨rfl, rfl⟩⟩
  · rintro ⟨q, rfl, _, _, h | h | h⟩
    · simp [h.1]
    · have := h.2; rw [ha] at this; simp [← this]
    · rw [hrs] at h; cases h.1
theorem aCf_lv (b : Nat) : (aCf b).lv nG 1 = true := rfl

set_option maxRecDepth 100000 in
set_option maxHeartbeats 8000000 in
theorem awake15_any (w : World) : Calls Tryz.prog 4 #[] w fun e w' => e = .returned (.bool true) ∧ Below w.heap.size w w' := by
  have B1 := below_alloc w (.cells aCd.toArray 50)
  have b1 := Blk.new w aCd 50
  have B2 := below_alloc (w.alloc (.cells aCd.toArray 50)) (.cells (aFv w.heap.size).toArray 43)
  have b2 := Blk.new (w.alloc (.cells aCd.toArray 50)) (aFv w.heap.size) 43
  have H1 := hyd (show Below w.heap.size w _ ∧ Blk _ w.heap.size aCd 50 ∧ Blk _ (w.alloc (.cells aCd.toArray 50)).heap.size (aFv w.heap.size) 43 from ⟨Below.next B1 B2, b1.kept B2, b2⟩)
  rw [alloc_size] at H1
  clear B1 b1 B2 b2
  go_enter Tryz.func4, Tryz.ntmps4
  go_upto_region 2 with (refine wpList_new_mid rfl rfl 43 rfl (.tmp 1) (.tmp 6) rfl z_fn (alloc_fn _) rfl (aFv w.heap.size).toArray (by kernel_rfl) (by kernel_rfl) rfl (by kernel_rfl) (by simp [aFv, Value.oneCell']) ?_)
  simp only [Act.put, List.setIfInBounds_toArray, List.set_cons_succ, List.set_cons_zero]
  rw [show (#[Value.int .i64 25, Value.int .i64 1, Value.int .i64 0, Value.int .i64 0, Value.slice none 0 0, Value.int .i64 0, Value.int .i64 0, Value.int .i64 27, Value.int .i64 0, Value.int .i64 0, Value.int .i64 0, Value.slice none 0 0, Value.int .i64 0, Value.int .i64 0] : Array Value) = aCd.toArray from rfl]
  have hs := alloc_size w (.cells aCd.toArray 50)
  simp only [hs]
  clear hs
  generalize (w.alloc (.cells aCd.toArray 50)).alloc (.cells (aFv w.heap.size).toArray 43) = u1 at *
  have rF := H1.out.2.2.range
  rw [← aCf_vs] at rF
  have h0 := ways_any (aCf w.heap.size) nG 0 u1 (aCf_at H1.out.2.1) (nG_at _) (by show 0 < 2; omega)
  rw [aCf_ws] at h0
  have h9 : Hid (∀ u : World, Blk u w.heap.size aCd 50 → Calls Tryz.prog 8 #[.agg (aCf w.heap.size).vs.toArray, .slice nG.ao nG.len nG.cap, .int .i64 (1 : Nat)] u fun e w' => e = .returned (.bool true) ∧ Below u.heap.size u w') := fun u hu => by
    have := leaves_any (aCf w.heap.size) nG 1 u (aCf_at hu) (nG_at _) (by show 1 < 2; omega)
    rw [aCf_lv] at this
    exact this
  go_upto_region 3 with (refine wpList_load_mid rfl 43 (.tmp 1) rfl (w.heap.size + 1) 0 (by kernel_rfl) (aCf w.heap.size).vs _ rF Tryz.underlying43 rfl (by kernel_rfl) ?_)
  refine h0.mono ?_
  rintro _ u2 ⟨v, rfl, hO, hb⟩
  obtain ⟨r, rfl, hr, hrl, _, _⟩ := hO.rw (fun a ha => by have : a = 1 := by { simpa using ha }; subst this; exact ⟨by omega, by omega⟩) (by simp)
  have H2 := hyd (show Below w.heap.size w u2 ∧ Blk u2 w.heap.size aCd 50 ∧ Blk u2 (w.heap.size + 1) (aFv w.heap.size) 43 from ⟨Below.next H1.out.1 hb, H1.out.2.1.kept hb, H1.out.2.2.kept hb⟩)
  have hlen : r.len = 1 := by have := r.ls_len; rw [hrl] at this; simpa using this.symm
  have hx : r.x 0 = 1 := by have := r.ls_get 0 (by omega); rw [hrl] at this; simpa using this.symm
  have c0 := hr.row 0 (by omega) 0 _ rfl
  rw [hx] at c0
  simp only [Nat.zero_mul, Nat.add_zero] at c0
  rw [hlen, hr.nil (by omega)]
  clear h0 hO hb H1 rF hr hrl hlen hx
  have rF := H2.out.2.2.range
  rw [← aCf_vs] at rF
  have h0 := h9.out u2 H2.out.2.1
  clear h9
  go_wp2_with (refine wpList_loadW (by kernel_rfl) 43 (.tmp 1) rfl (w.heap.size + 1) 0 (by kernel_rfl) (aCf w.heap.size).vs _ rF Tryz.underlying43 rfl (by kernel_rfl) ?_)
  refine h0.mono ?_
  rintro _ u3 ⟨rfl, hb⟩
  have H3 := hyd (Below.next H2.out.1 hb)
  clear h0 hb c0 rF
  go_wp2
  go_ret
  exact ⟨rfl, H3.out⟩

def Cf.fewB (f : Cf) (g : Rw Bool) : Bool := (decide (f.cd.len ≤ 60) && decide (f.hd.len ≤ 60)) && decide (g.len ≤ 1000)
end Go.Proofs.YtmajlfocfjcgmaaGreatDoor
