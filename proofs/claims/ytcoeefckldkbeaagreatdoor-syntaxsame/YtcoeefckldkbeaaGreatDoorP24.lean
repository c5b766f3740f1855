/- Layer 5: the walk of lex.Read. -/
import Derived.Test.YtcoeefckldkbeaaGreatDoorP23
import Derived.Test.YtcoeefckldkbeaaGreatDoorP20
import Derived.Test.YtcoeefckldkbeaaGreatDoorP13
import Derived.Test.YtcoeefckldkbeaaGreatDoorP14
import Derived.Test.YtcoeefckldkbeaaGreatDoorRows
import Derived.Stop.LaidErr
import Derived.Stop.Joined
import Derived.Lib.LaidTab
import Derived.LaidMore
import Derived.OpenShut
import Derived.Test.YtcoeefckldkbeaaGreatDoorP2
import Derived.ProofKit
import Derived.Deep.Grids
import Derived.Lib.SmallJoins
namespace Go.Proofs.YtcoeefckldkbeaaGreatDoor
open Go.RowKit

/-- What Read answers. -/
def readV (l : List UInt8) : Rs := if 8192 < l.length then .bad 0 1 else R l 0 []
def RsP (w : World) (r : Rs) (e : Ending) : Prop :=
  match r with
  | .ok ts => ∃ v, e = .returned (.tuple #[v, .int .i64 0, .int .i64 0]) ∧ KAt w v ts
  | .bad a c => e = .returned (.tuple #[.slice none 0 0, .int .i64 a, .int .i64 c])

/-- Within the loop: the iterator, what was there, the row. -/
structure WI (w : World) (ty : TypeId) (s : ByteArray) (wr : World) (pos : Nat) (v : Value) (ts : List Tk) : Prop where
  it : wr.heap[w.heap.size]? = some (.stringIter s pos)
  bl : Below w.heap.size w wr
  own : wr.ownsRow (w.heap.size + 1) ty 4 v ts.length (flat ts)
theorem WI.lt {w : World} {ty : TypeId} {s : ByteArray} {wr : World} {pos : Nat} {v : Value} {ts : List Tk} (h : WI w ty s wr pos v ts) : w.heap.size < wr.heap.size := (Array.getElem?_eq_some_iff.1 h.it).1
theorem WI.next {w : World} {ty : TypeId} {s : ByteArray} {wr : World} {pos : Nat} {v : Value} {ts : List Tk} (h : WI w ty s wr pos v ts) (q : Nat) : WI w ty s (wr.iterAt w.heap.size s q) q v ts :=
  ⟨Lib.iterAt_heap wr w.heap.size s pos q h.it, Lib.below_iterAt h.bl (Nat.le_refl _) _ _, ow_block h.own fun b hb => Lib.iterAt_other _ _ _ _ _ (by have := (ow_ge h.own hb).1; omega)⟩
theorem WI.kept {w : World} {ty : TypeId} {s : ByteArray} {wr w' : World} {pos : Nat} {v : Value} {ts : List Tk} (h : WI w ty s wr pos v ts) (hb : Below wr.heap.size wr w') : WI w ty s w' pos v ts :=
  ⟨(hb.block _ h.lt).trans h.it, h.bl.trans (hb.mono h.bl.size), ow_kept h.own hb⟩
theorem WI.grow {w : World} {ty : TypeId} {s : ByteArray} {wr w' : World} {pos : Nat} {v v' : Value} {ts : List Tk} {t : Tk} (h : WI w ty s wr pos v ts) (hg : wr.grownBy w' v.ownBlock) (ho : w'.ownsRow (w.heap.size + 1) ty 4 v' (ts.length + 1) (flat ts ++ tv t)) : WI w ty s w' pos v' (ts ++ [t]) := by
  refine ⟨(hg.block _ h.lt (fun e => by have := (ow_ge h.own e.symm).1; omega)).trans h.it, ?_, ?_⟩
  · refine ⟨hg.os.trans h.bl.os, hg.tape.trans h.bl.tape, hg.output.trans h.bl.output, Nat.le_trans h.bl.size hg.size, fun b hb => ?_⟩
    have := h.lt
    rw [hg.block b (by omega) (fun e => by have := (ow_ge h.own e.symm).1; omega)]
    exact h.bl.block b hb
  · have e : flat (ts ++ [t]) = flat ts ++ tv t := by rw [flat_app]; show flat ts ++ (tv t ++ []) = _; rw [List.append_nil]
    rw [e, List.length_append]; exact ho

theorem blank_bl {s : ByteArray} {i : Nat} (hi : i < s.size) : blankR (Utf8.decode s i).1 = bl (s[i]'hi) := by
  by_cases hl : (s[i]'hi).toNat < 128
  · rw [rune_low hi hl, Bool.eq_iff_iff, bl_iff]
    unfold blankR
    simp only [Bool.or_eq_true, beq_iff_eq]
    omega
  · have hh := (decode_high s i hi (by omega)).1
    have h1 : bl (s[i]'hi) = false := by rw [← Bool.not_eq_true, bl_iff]; omega
    rw [h1, ← Bool.not_eq_true]
    unfold blankR
    simp only [Bool.or_eq_true, beq_iff_eq]
    omega
theorem hash_35 {s : ByteArray} {i : Nat} (hi : i < s.size) : (((Utf8.decode s i).1 : Int) == 35) = ((s[i]'hi).toNat == 35) := by
  by_cases hl : (s[i]'hi).toNat < 128
  · rw [rune_low hi hl, Bool.eq_iff_iff, beq_iff_eq, beq_iff_eq]; omega
  · have hh := (decode_high s i hi (by omega)).1
    rw [Bool.eq_iff_iff, beq_iff_eq, beq_iff_eq]; omega

theorem ow_form {w : World} {base : Nat} {e : TypeId} {size : Nat} {v : Value} {n : Nat} {xs : List Value} (h : w.ownsRow base e size v n xs) : ∃ ao cap, v = .slice ao n cap := by
  obtain ⟨_, ⟨rfl, rfl⟩ | ⟨g, cap, cur, rfl, _⟩⟩ := h
  · exact ⟨none, 0, rfl⟩
  · exact ⟨_, cap, rfl⟩
theorem fp_none {l : List UInt8} {k : Int} {t : ByteArray} {n : Int} (h : FP l k t n false) : nextW l = none := by
  unfold FP at h
  split at h
  · assumption
  · cases h.1
theorem fp_some {l : List UInt8} {k : Int} {t : ByteArray} {n : Int} (h : FP l k t n true) : ∃ k' m n', nextW l = some (k', m, n') ∧ k = (k' : Nat) ∧ t = str (l.take m) ∧ n = (n' : Nat) := by
  unfold FP at h
  split at h
  · cases h
  · rename_i k' m n' e
    exact ⟨k', m, n', e, h.2⟩

/-- The loop's relation. -/
structure RI (w : World) (ty : TypeId) (s : ByteArray) (wr : World) (pos bh : Nat) (v : Value) (ts : List Tk) : Prop where
  wi : WI w ty s wr pos v ts
  len : ts.length ≤ 2000
  ps : pos ≤ s.size
  bhs : bh ≤ s.size
  rn : bh ≤ pos ∨ Rn s pos bh
  eq : readV (bs s) = R ((bs s).drop (max pos bh)) (max pos bh) ts

set_option maxRecDepth 100000 in
set_option maxHeartbeats 4000000 in
theorem read_any (s : ByteArray) (w : World) (hv : Vs w) :
    Calls Tryz.prog 16 #[.string s] w fun e w' => RsP w' (readV (bs s)) e ∧ Below w.heap.size w w' := by
  by_cases hs : s.size ≤ 8192
  · have hs' : (s.size : Int) ≤ 8192 := by omega
    have hr0 : readV (bs s) = R (bs s) 0 [] := by unfold readV; rw [if_neg (by rw [bs_len]; omega)]
    go_enter Tryz.func16, Tryz.ntmps16
    go_wp2
    go_loopw [5, 6] (fun v b wr => ∃ (pos bh : Nat) (ts : List Tk), b = .int .i64 bh ∧ RI w 62 s wr pos bh v ts) (fun _ _ wr => s.size + 1 - wr.iterPos w.heap.size)
    case atStart => exact ⟨0, 0, [], rfl, ⟨World.iter_heap .., (Below.refl _ _).alloc (Nat.le_refl _) _, World.ownsRow_nil _ _ _ _⟩, by simp, by omega, by omega, Or.inl (Nat.le_refl _), by rw [hr0]; rfl⟩
    case round =>
      obtain ⟨pos, bh, ts, rfl, hI⟩ := hrel
      have HI : Hid (RI w 62 s wr pos bh _ ts) := hI
      have hk := hI.wi.it
      rw [iterPos_at hk]
      clear hI
      by_cases hlt : pos < s.size
      · have hnx := fun ty => Lib.run_next_any_at (P := Tryz.prog) wr w.heap.size s pos ty hk hlt
        have W1 := HI.out.wi.next (pos + (Utf8.decode s pos).2)
        have dp := dec_pos hlt
        have dl := dec_le hlt
        by_cases hskip : pos < bh
        · have hsk : (pos : Int) < bh := by omega
          go_wp2
          go_roundw
          case rel =>
            have r1 : Rn s (pos + (Utf8.decode s pos).2) bh := (HI.out.rn.resolve_left (by omega)).next hskip
            have := r1.le
            refine ⟨_, bh, ts, rfl, W1, HI.out.len, dl, HI.out.bhs, Or.inr r1, ?_⟩
            rw [HI.out.eq, show max (pos + (Utf8.decode s pos).2) bh = bh by omega, show max pos bh = bh by omega]
          case measure => rw [iterPos_at W1.it]; omega
        · have hsk : ¬ (pos : Int) < bh := by omega
          have HE : Hid (readV (bs s) = R ((s[pos]'hlt) :: (bs s).drop (pos + 1)) pos ts) := by
            show readV (bs s) = _
            rw [HI.out.eq, show max pos bh = pos by omega, bs_drop s pos hlt]
          have HBL := blank_bl hlt
          have HSH := hash_35 hlt
          have W0 := HI.out.wi
          have HT : Hid (ts.length ≤ 2000) := HI.out.len
          clear HI hskip
          go_wp2_with fail
          refine (lblank_any _ _).mono ?_
          rintro e w1 ⟨rfl, rfl⟩
          rw [HBL]
          clear HBL
          cases hb : bl (s[pos]'hlt)
          · by_cases h35 : (s[pos]'hlt).toNat = 35
            · rw [beq_iff_eq.2 h35] at HSH
              have p0 : (0 : Int) ≤ pos := by omega
              have p1 : (pos : Int) ≤ s.size := by omega
              go_wp2_with fail
              refine (span_line _ _).mono ?_
              rintro e w2 ⟨rfl, hb2⟩
              have hm : spn lineR (s.extract pos s.size) ((s.extract pos s.size).size + 1) 0 = remLen ((bs s).drop pos) := by rw [line_spn, bs_rest]
              rw [hm]
              have W2 := W1.kept hb2
              have HM : Hid (Rn s pos (pos + remLen ((bs s).drop pos)) ∧ pos + remLen ((bs s).drop pos) ≤ s.size ∧ 1 ≤ remLen ((bs s).drop pos) ∧ readV (bs s) = R ((bs s).drop (pos + remLen ((bs s).drop pos))) (pos + remLen ((bs s).drop pos)) ts) := by
                refine ⟨Rn_line s pos (by omega), ?_, ?_, ?_⟩
                · have := rem_le ((bs s).drop pos)
                  rw [List.length_drop, bs_len] at this; omega
                · rw [bs_drop s pos hlt]; exact rem_pos _ _ (beq_iff_eq.2 h35)
                · rw [HE.out, R_rem _ _ _ h35, ← bs_drop s pos hlt, List.drop_drop]
              clear hm hb2 W1
              have m1 : (remLen ((bs s).drop pos) : Int) ≤ 8192 := by have := HM.out.2.1; omega
              generalize remLen ((bs s).drop pos) = m at HM m1 ⊢
              have hw : IntKind.i64.wrap ((pos : Int) + m) = ((pos + m : Nat) : Int) := by rw [IntKind.wrap_i64]; omega
              go_wp2
              go_roundw
              case rel =>
                have r1 := HM.out.1.next (by have := HM.out.2.2.1; omega)
                have := r1.le
                refine ⟨_, pos + m, ts, by go_num, W2, HT.out, dl, HM.out.2.1, Or.inr r1, ?_⟩
                rw [HM.out.2.2.2, show max (pos + (Utf8.decode s pos).2) (pos + m) = pos + m by omega]
              case measure => rw [iterPos_at W2.it]; omega
            · have hs35 : ((s[pos]'hlt).toNat == 35) = false := by simpa using h35
              rw [hs35] at HSH
              have p0 : (0 : Int) ≤ pos := by omega
              have p1 : (pos : Int) ≤ s.size := by omega
              have V1 := hv.kept W1.bl
              have es : (s.extract pos s.size).size = s.size - pos := by rw [sz_bs, bs_rest, List.length_drop, bs_len]
              have hC := first_any (s.extract pos s.size) _ V1 (by omega) (by omega)
              rw [dec_rest, bs_rest] at hC
              obtain ⟨ao, cap, hvf⟩ := ow_form W1.own
              subst hvf
              clear es V1 hs35
              go_wp2_with fail
              refine hC.mono ?_
              rintro e w2 ⟨⟨k, tx, n, ok, rfl, hF⟩, hb2⟩
              have W2 := W1.kept hb2
              have HF : Hid (FP ((bs s).drop pos) k tx n ok) := hF
              clear hF hC W1 hb2
              unfold tkV
              cases ok
              · have HB : Hid (readV (bs s) = .bad pos 2) := by
                  show readV (bs s) = _
                  have := fp_none HF.out
                  rw [bs_drop s pos hlt] at this
                  rw [HE.out, R_none _ _ _ hb h35 this]
                have hbl := W2.bl
                go_wp2
                refine bodyPost_ret (v := .tuple #[.slice none 0 0, .int .i64 pos, .int .i64 2]) (by simp [results, Tryz.results16, go_sem]) rfl ⟨?_, hbl.alloc hbl.size _⟩
                rw [HB.out]
                rfl
              · obtain ⟨k', m, n', hnw, rfl, rfl, rfl⟩ := fp_some HF.out
                clear HF
                by_cases h2 : ts.length = 2000
                · have HB : Hid (readV (bs s) = .bad pos 7) := by
                    show readV (bs s) = _
                    rw [bs_drop s pos hlt] at hnw
                    rw [HE.out, R_full _ _ _ hb h35 hnw (by omega)]
                  have hbl := W2.bl
                  have e2 : ((ts.length : Int) == 2000) = true := by rw [beq_iff_eq]; omega
                  clear hnw
                  go_wp2
                  refine bodyPost_ret (v := .tuple #[.slice none 0 0, .int .i64 pos, .int .i64 7]) (by simp [results, Tryz.results16, go_sem]) rfl ⟨?_, hbl.alloc hbl.size _⟩
                  rw [HB.out]
                  rfl
                · have e2 : ((ts.length : Int) == 2000) = false := by rw [beq_eq_false_iff_ne]; omega
                  have hle := nextW_le hnw
                  rw [List.length_drop, bs_len] at hle
                  have HB : Hid (readV (bs s) = R ((bs s).drop (pos + m)) (pos + m) (ts ++ [⟨k', ((bs s).drop pos).take m, n', pos⟩]) ∧ Rn s pos (pos + m)) := by
                    refine ⟨?_, Rn_word hlt hnw⟩
                    rw [bs_drop s pos hlt] at hnw ⊢
                    rw [HE.out, R_word _ _ _ hb h35 hnw (by have := HT.out; omega), ← bs_drop s pos hlt, List.drop_drop]
                  have tl : (str (((bs s).drop pos).take m)).size = m := by rw [sz_bs, bs_str, List.length_take, List.length_drop, bs_len]; omega
                  clear hnw
                  generalize ht : str (((bs s).drop pos).take m) = tx at tl ⊢
                  have W3 := (W2.kept (below_alloc w2 (.cells #[.int .i64 (k' : Nat), .string tx, .int .i64 (n' : Nat), .int .i64 (pos : Nat)] 62))).kept (below_alloc _ (.cells #[.int .i64 (k' : Nat), .string tx, .int .i64 (n' : Nat), .int .i64 (pos : Nat)] 62))
                  have hownA := W3.own
                  have HW : Hid (WI w 62 s ((w2.alloc (.cells #[.int .i64 (k' : Nat), .string tx, .int .i64 (n' : Nat), .int .i64 (pos : Nat)] 62)).alloc (.cells #[.int .i64 (k' : Nat), .string tx, .int .i64 (n' : Nat), .int .i64 (pos : Nat)] 62)) (pos + (Utf8.decode s pos).2) (.slice ao ts.length cap) ts) := W3
                  have HO : Hid (∀ b, (Value.slice ao ts.length cap).ownBlock = some b → b < w2.heap.size) := fun b hb => (ow_ge W2.own hb).2
                  have sw : w.heap.size < w2.heap.size := W2.lt
                  have ez : (w2.alloc (.cells #[.int .i64 (k' : Nat), .string tx, .int .i64 (n' : Nat), .int .i64 (pos : Nat)] 62)).heap.size = w2.heap.size + 1 := alloc_size _ _
                  have hnew := heap_alloc_new (w2.alloc (.cells #[.int .i64 (k' : Nat), .string tx, .int .i64 (n' : Nat), .int .i64 (pos : Nat)] 62)) (.cells #[.int .i64 (k' : Nat), .string tx, .int .i64 (n' : Nat), .int .i64 (pos : Nat)] 62)
                  rw [ez] at hnew
                  have ez2 : ((w2.alloc (.cells #[.int .i64 (k' : Nat), .string tx, .int .i64 (n' : Nat), .int .i64 (pos : Nat)] 62)).alloc (.cells #[.int .i64 (k' : Nat), .string tx, .int .i64 (n' : Nat), .int .i64 (pos : Nat)] 62)).heap.size = w2.heap.size + 2 := by rw [alloc_size, ez]
                  obtain ⟨i0, hi, hz0, hz1, hz2⟩ := info_parts Tryz.infoTok
                  have HX : Hid (str (((bs s).drop pos).take m) = tx) := ht
                  have tlen : ts.length < 2000 := by have := HT.out; omega
                  clear W2 W3 ht ez
                  go_wp2_with ((at_builtin; refine wpList_append_lies _ rfl _ _ 45 rfl (w.heap.size + 1) 62 i0 _ 4 40 Tryz.underlying45 hi hz0 hz1 hz2 rfl (by decide) (.slice ao ts.length cap) ts.length (flat ts) rfl hownA ⟨w2.heap.size + 1, 0, none⟩ 1 1 [.int .i64 (k' : Nat), .string tx, .int .i64 (n' : Nat), .int .i64 (pos : Nat)] rfl rfl (World.news_of_block (cs := #[.int .i64 (k' : Nat), .string tx, .int .i64 (n' : Nat), .int .i64 (pos : Nat)]) (t := 62) (fr := (0, 0)) hnew) (by intro x hx; simp at hx; rcases hx with rfl | rfl | rfl | rfl <;> rfl) (by omega) (by unfold maxLen; omega) (by omega) (by omega) (w2.heap.size + 2) ez2 ?_; intro gg cap3 w4 hown4 hgrow hat hltg; have HN : Hid (WI w 62 s w4 (pos + (Utf8.decode s pos).2) (.slice (some ⟨gg, 0, none⟩) (ts.length + 1) cap3) (ts ++ [⟨k', ((bs s).drop pos).take m, n', pos⟩])) := HW.out.grow hgrow (by unfold tv; simp only; rw [HX.out]; exact hown4); have c1 : w4.cell? ⟨w2.heap.size, 1, none⟩ = some (.string tx) := (World.cell?_of_block (w := ((w2.alloc (.cells #[.int .i64 (k' : Nat), .string tx, .int .i64 (n' : Nat), .int .i64 (pos : Nat)] 62)).alloc (.cells #[.int .i64 (k' : Nat), .string tx, .int .i64 (n' : Nat), .int .i64 (pos : Nat)] 62))) (a := ⟨w2.heap.size, 1, none⟩) (hgrow.block w2.heap.size (by omega) (fun e => by have := HO.out _ e.symm; omega))).trans (by simp); clear hown4 hgrow hat hltg))
                  go_roundw
                  case rel =>
                    have r1 := HB.out.2.next (by omega)
                    have := r1.le
                    refine ⟨_, pos + m, _, by go_num, HN.out, by simp; omega, dl, by omega, Or.inr r1, ?_⟩
                    rw [HB.out.1, show max (pos + (Utf8.decode s pos).2) (pos + m) = pos + m by omega]
                  case measure => rw [iterPos_at HN.out.it]; omega
          · go_wp2
            go_roundw
            case rel =>
              have hl : (s[pos]'hlt).toNat < 128 := by have := (bl_iff _).1 hb; omega
              have d1 : (Utf8.decode s pos).2 = 1 := by rw [rune_low hlt hl]
              refine ⟨_, bh, ts, rfl, W1, HT.out, dl, by omega, Or.inl (by omega), ?_⟩
              rw [HE.out, R_bl _ _ _ hb, show max (pos + (Utf8.decode s pos).2) bh = pos + 1 by omega]
            case measure => rw [iterPos_at W1.it]; omega
      · have hnx := fun ty => Lib.run_next_end_at (P := Tryz.prog) wr w.heap.size s pos ty hk hlt
        have HE : Hid (readV (bs s) = .ok ts) := by
          show readV (bs s) = .ok ts
          have := HI.out.ps
          have := HI.out.bhs
          rw [HI.out.eq, bs_end s _ (by omega)]; rfl
        go_wp2
        refine bodyPost_ret (v := .tuple #[u5, .int .i64 0, .int .i64 0]) (by simp [results, Tryz.results16, go_sem]) rfl ⟨?_, HI.out.wi.bl⟩
        rw [HE.out]
        exact ⟨_, rfl, KAt.of_own HI.out.wi.own⟩
  · have hs' : (8192 : Int) < s.size := by omega
    have HR : Hid (readV (bs s) = .bad 0 1) := by show readV (bs s) = _; unfold readV; rw [if_pos (by rw [bs_len]; omega)]
    go_enter Tryz.func16, Tryz.ntmps16
    go_wp2
    refine bodyPost_ret (v := .tuple #[.slice none 0 0, .int .i64 0, .int .i64 1]) (by simp [results, Tryz.results16, go_sem]) rfl ⟨?_, Below.refl _ _⟩
    rw [HR.out]
    rfl
end Go.Proofs.YtcoeefckldkbeaaGreatDoor

/- Layer 6: Parse, and awake. -/
namespace Go.Proofs.YtcoeefckldkbeaaGreatDoor
open Go Go.RowKit

def awT : ByteArray := ⟨#[108, 97, 116, 116, 105, 99, 101, 32, 123, 32, 108, 111, 119, 44, 32, 104, 105, 103, 104, 44, 32, 108, 111, 119, 32, 60, 32, 104, 105, 103, 104, 32, 125, 32, 109, 97, 105, 110, 40, 120, 58, 32, 105, 110, 116, 64, 104, 105, 103, 104, 41, 58, 32, 105, 110, 116, 64, 104, 105, 103, 104, 32, 33, 32, 110, 111, 110, 101, 32, 61, 32, 120, 32, 43, 32, 49]⟩
def tq (t : Tk) : Tq := ⟨t.k, str t.t, t.n, t.a⟩
def tkOf : Rs → List Tk
  | .ok ts => ts
  | .bad _ _ => []
theorem awT_read : readV (bs awT) = .ok (tkOf (readV (bs awT))) := by kernel_rfl
theorem awT_words : (tkOf (readV (bs awT))).map tq = wsP [wX, wA, w1] := by kernel_rfl
theorem Wl.of_k {w : World} {v : Value} {ts : List Tk} (h : KAt w v ts) (hl : ts.length ≤ 10000) : ∃ ao c, v = .slice ao (ts.map tq).length c ∧ Wl w ao c (ts.map tq) := by
  obtain ⟨ao, b, c, rfl, h1, h2, h3⟩ := h
  refine ⟨ao, c, by rw [List.length_map], b, 0, fun h0 => ?_, by rw [List.length_map]; exact h1, by rw [List.length_map]; exact hl, trivial, fun i t ht => ?_⟩
  · rw [List.length_map] at h0
    have := h3 0 h0 0 (by omega)
    exact ⟨h2 h0, World.block_lt_of_cell? w (u := .int .i64 ts[0].k) ⟨b, 0 * 4 + 0, none⟩ (by rw [this]; rfl)⟩
  · rw [List.getElem?_map] at ht
    obtain ⟨u, hu, rfl⟩ := Option.map_eq_some_iff.1 ht
    obtain ⟨hi, hu⟩ := List.getElem?_eq_some_iff.1 hu
    subst hu
    have e := fun q hq => h3 i hi q hq
    rw [Nat.zero_add]
    exact ⟨e 0 (by omega), e 1 (by omega), e 2 (by omega), e 3 (by omega)⟩
theorem results_prT {fn : Func} {tmps : Array Value} {k l m B : Nat} {vs : List Value} {x y : Value} {w : World} (hf : fn.results = #[.cell k 37, .tmp l, .tmp m]) (h1 : tmps.getD k undef = .pointer (some ⟨B, 0, none⟩)) (h2 : tmps.getD l undef = x) (h3 : tmps.getD m undef = y) (h : w.rangeAt B 0 vs) (hl : vs.length = 31) : (results fn tmps).run Tryz.prog w = .ok (.tuple #[.agg vs.toArray, x, y]) w := by
  have h := load_pr h hl
  have ha : (asAddr (tmps[k]?.getD undef)).run Tryz.prog w = .ok ⟨B, 0, none⟩ w := by rw [show tmps[k]?.getD undef = .pointer (some ⟨B, 0, none⟩) by simpa using h1]; rfl
  have h2' : tmps[l]?.getD undef = x := by simpa using h2
  have h3' : tmps[m]?.getD undef = y := by simpa using h3
  unfold results
  rw [hf]
  simp [ha, h, h2', h3']
set_option maxRecDepth 100000 in
set_option maxHeartbeats 4000000 in
theorem parse_aw (w : World) (hv : Vs w) (hsg : Sg w) :
    Calls Tryz.prog 8 #[.string awT] w fun r w' => (∃ (n : Strs) (g : Grid) (B : Nat), r = .returned (.tuple #[.agg (P31 (.slice n.ao n.len n.cap) (.slice g.ao g.len g.cap) (.string ⟨#[120]⟩) (tyL 1) (tyL 1) (.int .i64 (-1)) (bnE B (vrE ⟨#[120]⟩ 71) (nuE 1 75)).vs).toArray, .int .i64 0, .int .i64 0])) ∧ Below w.heap.size w w' := by
  have hsz : awT.size = 76 := rfl
  have HW : Hid (Vs w ∧ Sg w) := ⟨hv, hsg⟩
  clear hv hsg
  go_enter Tryz.func8, Tryz.ntmps8
  go_wp2_with (refine wpList_alloc_pr rfl rfl ?_; intro v0 z0 b0)
  have hR := read_any awT v0 (HW.out.1.kept b0)
  rw [awT_read] at hR
  refine hR.mono ?_
  rintro _ w1 ⟨⟨v, rfl, hK⟩, hb⟩
  obtain ⟨ao, c, rfl, hW⟩ := Wl.of_k hK (by decide +kernel)
  rw [awT_words] at hW ⊢
  have b1 := Below.next b0 hb
  have hD := read_c ao c 76 w1 hW (HW.out.2.kept b1) (Nat.lt_of_lt_of_le (World.block_lt_of_cell? w _ HW.out.2.s0) b1.size)
  have z1 := z0.kept hb
  clear hR hK hb hW b0 z0
  go_wp2_with fail
  refine hD.mono ?_
  rintro _ w2 ⟨⟨n, g, B, rfl⟩, hb⟩
  have z2 := z1.kept hb
  have b2 := Below.next b1 hb
  clear hD z1 b1 hb
  generalize hX : (P31 (.slice n.ao n.len n.cap) (.slice g.ao g.len g.cap) (.string ⟨#[120]⟩) (tyL 1) (tyL 1) (.int .i64 (-1)) (bnE B (vrE ⟨#[120]⟩ 71) (nuE 1 75)).vs) = X
  have h31 : X.length = 31 := by rw [← hX]; rfl
  have hone : X.all (·.oneCell') = true := by rw [← hX]; rfl
  have HX : Hid ((P31 (.slice n.ao n.len n.cap) (.slice g.ao g.len g.cap) (.string ⟨#[120]⟩) (tyL 1) (tyL 1) (.int .i64 (-1)) (bnE B (vrE ⟨#[120]⟩ 71) (nuE 1 75)).vs) = X ∧ X.length = 31 ∧ X.all (·.oneCell') = true) := ⟨hX, h31, hone⟩
  clear hX h31 hone
  go_wp2_with (refine wpList_store_blk rfl rfl 37 (.tmp 2) (.tmp 23) rfl w.heap.size X (by kernel_rfl) (by kernel_rfl) HX.out.2.2 z2 (by rw [HX.out.2.1]; rfl) (by rw [List.size_toArray, HX.out.2.1]; kernel_rfl) ?_; intro v5 W5)
  have bw : Below w.heap.size w v5 := W5.below (Nat.le_refl _) b2
  exact bodyPost_ret (v := .tuple #[.agg X.toArray, .int .i64 0, .int .i64 0]) (results_prT Tryz.results8 rfl rfl rfl W5.blk.range HX.out.2.1) rfl ⟨⟨n, g, B, by rw [HX.out.1]⟩, bw⟩
set_option maxRecDepth 100000 in
set_option maxHeartbeats 4000000 in
theorem awake6_any (w : World) (hv : Vs w) (hsg : Sg w) :
    Calls Tryz.prog 4 #[] w fun e w' => e = .returned (.bool true) ∧ Below w.heap.size w w' := by
  have hP := parse_aw w hv hsg
  unfold awT at hP
  clear hv hsg
  go_enter Tryz.func4, Tryz.ntmps4
  go_wp2_with fail
  refine hP.mono ?_
  rintro _ w1 ⟨⟨n, g, B, rfl⟩, b1⟩
  clear hP
  generalize hX : (P31 (.slice n.ao n.len n.cap) (.slice g.ao g.len g.cap) (.string ⟨#[120]⟩) (tyL 1) (tyL 1) (.int .i64 (-1)) (bnE B (vrE ⟨#[120]⟩ 71) (nuE 1 75)).vs) = X
  have h31 : X.length = 31 := by rw [← hX]; rfl
  have hone : X.all (·.oneCell') = true := by rw [← hX]; rfl
  have HX : Hid ((P31 (.slice n.ao n.len n.cap) (.slice g.ao g.len g.cap) (.string ⟨#[120]⟩) (tyL 1) (tyL 1) (.int .i64 (-1)) (bnE B (vrE ⟨#[120]⟩ 71) (nuE 1 75)).vs) = X ∧ X.length = 31 ∧ X.all (·.oneCell') = true) := ⟨hX, h31, hone⟩
  clear hX h31 hone
  go_wp2_with (first | (refine wpList_alloc_pr rfl rfl ?_; intro v2 z2 b2) | (refine wpList_store_blk rfl rfl 37 (.tmp 1) (.tmp 6) rfl w1.heap.size X (by kernel_rfl) (by kernel_rfl) HX.out.2.2 z2 (by rw [HX.out.2.1]; rfl) (by rw [List.size_toArray, HX.out.2.1]; kernel_rfl) ?_; intro v3 W3; refine StopH.go ?_))
  refine StopH.mk ?_
  have b3 := W3.below (Nat.le_refl _) b2
  have B3 := Below.next b1 b3
  have k3 := W3.blk
  rw [← HX.out.1] at k3
  have c2 := k3.cell 2 rfl
  have c4 := k3.cell 4 rfl
  have c14 := k3.cell 14 rfl
  clear W3 k3 b3 b2 z2 b1
  go_wp2
  go_ret
  exact ⟨rfl, B3⟩
end Go.Proofs.YtcoeefckldkbeaaGreatDoor

/- Layer 6: the walk of the statement SyntaxSame. -/
namespace Go.Proofs.YtcoeefckldkbeaaGreatDoor
open Go Go.RowKit

theorem few_parts {s : Ex} {b : Bool} (h : (decide (s.nodes ≤ 600) && s.sm) = b) (hb : b = true) : s.sm = true ∧ s.pn2 ≤ 4000 := by
  subst hb
  rw [Bool.and_eq_true, decide_eq_true_eq] at h
  have := expn2_nodes s
  exact ⟨h.2, by omega⟩
theorem fewer_va (t : Ex) (w : World) (hA : t.At w) : Calls Tryz.prog 5 #[.agg t.va] w fun e w' => e = .returned (.bool (decide (t.nodes ≤ 600) && t.sm)) ∧ Below w.heap.size w w' := fewer_any t w hA
set_option maxRecDepth 100000 in
set_option maxHeartbeats 8000000 in
theorem syntaxSame_any (s t : Ex) (a : Int) (w : World) (hs : s.At w) (ht : t.At w) (hv : Vs w) (hsg : Sg w) :
    Calls Tryz.prog 3 #[.agg s.va, .agg t.va, .int .i64 a] w fun e w' => e = .returned (.bool true) ∧ Below w.heap.size w w' := by
  obtain ⟨X0, Y0, B0⟩ := start_ee w s t
  have HH : Hid (s.At w ∧ t.At w ∧ Vs w ∧ Sg w) := ⟨hs, ht, hv, hsg⟩
  have hA := fun u (hu : Below w.heap.size w u) => awake6_any u (HH.out.2.2.1.kept hu) (HH.out.2.2.2.kept hu)
  have hF1 := fun u (hu : Below w.heap.size w u) => fewer_va s u (hs.kept hu)
  have hF2 := fun u (hu : Below w.heap.size w u) => fewer_va t u (ht.kept hu)
  clear hs ht hv hsg
  obtain ⟨d1, h1⟩ : ∃ d, (decide (s.nodes ≤ 600) && s.sm) = d := ⟨_, rfl⟩
  obtain ⟨d2, h2⟩ : ∃ d, (decide (t.nodes ≤ 600) && t.sm) = d := ⟨_, rfl⟩
  rw [h1] at hF1
  rw [h2] at hF2
  have HD : Hid (d1 = true → s.sm = true ∧ s.pn2 ≤ 4000) := few_parts h1
  clear h1 h2
  go_enter Tryz.func3, Tryz.ntmps3
  go_upto_region 1 with fail
  generalize (w.alloc (.cells s.va 27)).alloc (.cells t.va 27) = w2 at *
  go_wp2_with fail
  refine (hA _ B0).mono ?_
  rintro _ w3 ⟨rfl, b3⟩
  have X3 := X0.kept b3
  have Y3 := Y0.kept b3
  have B3 := Below.next B0 b3
  have C3' := X3.c17
  clear X0 Y0 B0 b3
  go_wp2_with (refine wpList_load_exG (by kernel_rfl) (.tmp 3) rfl _ _ (by kernel_rfl) s C3' ?_)
  refine (hF1 _ B3).mono ?_
  rintro _ w4 ⟨rfl, b4⟩
  have X4 := X3.kept b4
  have Y4 := Y3.kept b4
  have B4 := Below.next B3 b4
  have C4' := Y4.c17
  clear X3 Y3 B3 b4 C3'
  cases d1
  · clear C4' hF1 hF2 HD
    go_wp2_with fail
    refine (hA _ B4).mono ?_
    rintro _ w5 ⟨rfl, b5⟩
    have B5 := Below.next B4 b5
    go_wp2
    go_ret
    exact ⟨rfl, B5⟩
  go_wp2_with (refine wpList_load_exG (by kernel_rfl) (.tmp 4) rfl _ _ (by kernel_rfl) t C4' ?_)
  refine (hF2 _ B4).mono ?_
  rintro _ w5 ⟨rfl, b5⟩
  have X5 := X4.kept b5
  have Y5 := Y4.kept b5
  have B5 := Below.next B4 b5
  clear X4 Y4 B4 b5 C4' hF1 hF2
  cases d2
  · clear HD
    go_wp2_with fail
    refine (hA _ B5).mono ?_
    rintro _ w6 ⟨rfl, b6⟩
    have B6 := Below.next B5 b6
    go_wp2
    go_ret
    exact ⟨rfl, B6⟩
  have HS := HD.out (by simp)
  have G1 : ∀ u, Below w.heap.size w u → Calls Tryz.prog 6 #[.agg s.va, .agg t.va] u fun e w' => e = .returned (.bool (s.alk t)) ∧ Below u.heap.size u w' := fun u hu => eSame_any s t u (HH.out.1.kept hu) (HH.out.2.1.kept hu) HS.1 HS.2
  have G2 : ∀ u, Below w.heap.size w u → Calls Tryz.prog 7 #[.agg s.va, .agg t.va] u fun e w' => e = .returned (.bool (s.alk t)) ∧ Below u.heap.size u w' := fun u hu => ersame_any s t u (HH.out.1.kept hu) (HH.out.2.1.kept hu)
  have G3 : ∀ u, Below w.heap.size w u → Calls Tryz.prog 6 #[.agg s.va, .agg s.va] u fun e w' => e = .returned (.bool true) ∧ Below u.heap.size u w' := fun u hu => by
    have := eSame_any s s u (HH.out.1.kept hu) (HH.out.1.kept hu) HS.1 HS.2
    rwa [alk_refl] at this
  have HG : Hid (∀ u, Below w.heap.size w u → Calls Tryz.prog 6 #[.agg s.va, .agg (s.put16 a).va] u fun e w' => e = .returned (.bool true) ∧ Below u.heap.size u w') := fun u hu => by
    have := eSame_any s (s.put16 a) u (HH.out.1.kept hu) (At_put a (HH.out.1.kept hu)) HS.1 HS.2
    rwa [alk_put] at this
  clear HD HS hA
  go_wp2
  have hC : ∀ u, (∃ x : Gr w5, u = x.w) → C17 u w.heap.size 0 s := fun u ⟨x, hx⟩ => by rw [hx]; exact (X5.kept x.bl).c17
  have hD : ∀ u, (∃ x : Gr w5, u = x.w) → C17 u (w.heap.size + 1) 0 t := fun u ⟨x, hx⟩ => by rw [hx]; exact (Y5.kept x.bl).c17
  have hNE : Nonempty (Gr w5) := ⟨⟨_, Below.refl _ _⟩⟩
  generalize s.alk t = r at G1 G2
  cases r
  all_goals
    refine wp_region_gr (by kernel_rfl) (by kernel_rfl) ?_
    go_big_quiet_want
    refine quiet_load_ex (.tmp 3) rfl _ _ (by kernel_rfl) s hC ?_
    simp only [Act.put, List.setIfInBounds_toArray, List.set_cons_succ, List.set_cons_zero]
    go_big_quiet_on
    go_big_quiet_want
    refine quiet_load_ex (.tmp 4) rfl _ _ (by kernel_rfl) t hD ?_
    simp only [Act.put, List.setIfInBounds_toArray, List.set_cons_succ, List.set_cons_zero]
    go_big_quiet_on
    iterate 1 go_big_quiet_step ((go_at_call 6; exact Calls.gr _ (G1 _ (Below.next B5 (Gr.bl _)))))
    go_big_quiet_want
    refine quiet_load_ex (.tmp 3) rfl _ _ (by kernel_rfl) s hC ?_
    simp only [Act.put, List.setIfInBounds_toArray, List.set_cons_succ, List.set_cons_zero]
    go_big_quiet_on
    go_big_quiet_want
    refine quiet_load_ex (.tmp 4) rfl _ _ (by kernel_rfl) t hD ?_
    simp only [Act.put, List.setIfInBounds_toArray, List.set_cons_succ, List.set_cons_zero]
    go_big_quiet_on
    iterate 3 go_big_quiet_step ((go_at_call 7; exact Calls.gr _ (G2 _ (Below.next B5 (Gr.bl _)))))
    go_big_quiet_want
    refine quiet_load_ex (.tmp 3) rfl _ _ (by kernel_rfl) s hC ?_
    simp only [Act.put, List.setIfInBounds_toArray, List.set_cons_succ, List.set_cons_zero]
    go_big_quiet_on
    go_big_quiet_want
    refine quiet_load_ex (.tmp 3) rfl _ _ (by kernel_rfl) s hC ?_
    simp only [Act.put, List.setIfInBounds_toArray, List.set_cons_succ, List.set_cons_zero]
    go_big_quiet_on
    repeat (first | go_big_quiet_step ((go_at_call 6; exact Calls.gr _ (G3 _ (Below.next B5 (Gr.bl _))))))
    refine wpQuiet_nil ?_
    rintro w6 ⟨x6, rfl⟩
    have X6 := X5.kept x6.bl
    have B6 := Below.next B5 x6.bl
    generalize x6.w = w6 at X6 B6 ⊢
    clear x6 hNE hC hD G1 G2 G3 X5 Y5 B5
    have C6 := X6.c17
    go_upto_region 6 with (first | (refine wpList_load_ex rfl (.tmp 3) rfl _ _ (by kernel_rfl) s C6 ?_) | (refine wpList_new_ex rfl rfl rfl (.tmp 7) (.tmp 34) rfl rfl (by kernel_rfl) s (by kernel_rfl) ?_))
    have N7 := Bex.newV w6 s
    have b7 := below_alloc w6 (.cells s.va 27)
    have F7 : (w6.alloc (.cells s.va 27)).frozen? ⟨w6.heap.size, 16, none⟩ = false := by simp
    have X7 := X6.kept b7
    have B7 := Below.next B6 b7
    have hlt : w.heap.size < w6.heap.size := World.block_lt_of_cell? w6 _ X6.c0
    clear X6 B6 b7 C6
    generalize w6.alloc (.cells s.va 27) = w7 at *
    have c16 := N7.c16
    have P8 := bex_put N7 a (HH.out.1.kept B7)
    have X8 : Bex (w7.setCell ⟨w6.heap.size, 16, none⟩ (.int .i64 a)) w.heap.size s := by
      have e : ∀ (q : Nat) (v : Value), w7.cell? ⟨w.heap.size, q, none⟩ = some v → (w7.setCell ⟨w6.heap.size, 16, none⟩ (.int .i64 a)).cell? ⟨w.heap.size, q, none⟩ = some v := fun q v hc => by
        rw [World.cell?_setCell_other _ _ _ _ (by simp; try omega)]; exact hc
      exact ⟨e _ _ X7.c0, e _ _ X7.c1, e _ _ X7.c2, e _ _ X7.c3, e _ _ X7.c4, e _ _ X7.c5, e _ _ X7.c6, e _ _ X7.c7, e _ _ X7.c8, e _ _ X7.c9, e _ _ X7.c10, e _ _ X7.c11, e _ _ X7.c12, e _ _ X7.c13, e _ _ X7.c14, e _ _ X7.c15, e _ _ X7.c16⟩
    have B8 : Below w.heap.size w (w7.setCell ⟨w6.heap.size, 16, none⟩ (.int .i64 a)) := B7.setCell (Nat.le_of_lt hlt) _
    have HZ : Hid (Bex (w7.setCell ⟨w6.heap.size, 16, none⟩ (.int .i64 a)) w.heap.size s ∧ Bex (w7.setCell ⟨w6.heap.size, 16, none⟩ (.int .i64 a)) w6.heap.size (s.put16 a) ∧ Below w.heap.size w (w7.setCell ⟨w6.heap.size, 16, none⟩ (.int .i64 a))) := ⟨X8, P8, B8⟩
    clear N7 X7 B7 P8 X8 B8
    go_upto_region 7 with fail
    generalize w7.setCell ⟨w6.heap.size, 16, none⟩ (.int .i64 a) = w8 at *
    clear c16 F7
    have C8 := HZ.out.1.c17
    have D8 := HZ.out.2.1.c17
    have B8 := HZ.out.2.2
    go_wp2_with (first | (refine wpList_load_ex rfl (.tmp 3) rfl _ _ (by kernel_rfl) s C8 ?_) | (refine wpList_load_ex rfl (.tmp 7) rfl _ _ (by kernel_rfl) (s.put16 a) D8 ?_))
    refine (HG.out _ B8).mono ?_
    rintro _ w9 ⟨rfl, b9⟩
    have B9 := Below.next B8 b9
    clear C8 D8 B8 b9
    go_wp2
    go_ret
    exact ⟨rfl, B9⟩
end Go.Proofs.YtcoeefckldkbeaaGreatDoor

/- Layer 6: what the row says of the variables, as the walks want it. -/
namespace Go.Proofs.YtcoeefckldkbeaaGreatDoor
open Go.RowKit

theorem strs_of_tab {H : Type} {enc : TypeId × Value → H} {P : Program} {w : World} {base : Nat} {sp : Nat → Bool} {held : Bool} {fuel : Nat} {t e : TypeId} {n : Nat} {cs : List Value} {zs : List (List UInt8)} {p : List MemPlace}
    (ht : P.underlying t = some (.array n e)) (he : P.underlying e = some .string) (hce : P.cellsOf e = 1) (hct : P.cellsOf t = n)
    (h : DataW.trod enc P w base sp held fuel t cs = some (.agg (zs.map fun z => .lit (.string z)), p)) : cs = zs.map fun z => Value.string (str z) := by
  cases fuel with
  | zero => simp [DataW.trod] at h
  | succ fuel =>
    simp only [DataW.trod, ht, hce, hct, Nat.mul_one] at h
    split at h
    · rename_i hl
      obtain ⟨xs, hm, hx⟩ := Option.map_eq_some_iff.1 h
      have hxs : xs.map (·.1) = zs.map fun z => (DataW.lit (.string z) : DataW H) := by
        have := congrArg Prod.fst hx
        simpa using this
      have hxl : xs.length = n := by simpa using Lib.mapM_length hm
      have hzl : zs.length = n := by
        have := congrArg List.length hxs
        simp at this
        omega
      apply List.ext_getElem?
      intro i
      by_cases hi : i < n
      · obtain ⟨b, hb, hf⟩ := Lib.mapM_at hm i i (by simp [hi])
        obtain ⟨z, hc, rfl, _⟩ := DataW.trod_string he hf
        have h1 : cs[i]? = some (.string z) := by
          have := congrArg (·[0]?) hc
          simpa [List.getElem?_take, List.getElem?_drop] using this
        have h2 : (xs.map (·.1))[i]? = some (DataW.lit (.string z.data.toList) : DataW H) := by simp [hb]
        rw [hxs] at h2
        simp only [List.getElem?_map, Option.map_eq_some_iff, DataW.lit.injEq, Lit.string.injEq] at h2
        obtain ⟨z', hz', rfl⟩ := h2
        have : str z.data.toList = z := str_bs z
        simp [h1, hz', this]
      · rw [List.getElem?_eq_none (by omega), List.getElem?_eq_none (by simp; omega)]
    · cases h

theorem Tryz.starE : "*" ++ "errors.errorString" = "*errors.errorString" := by decide
theorem Tryz.rowE (u : TypeId) (h : Tryz.prog.typeName? 3 u = some "*errors.errorString") : u = 173 :=
  typeName_ptr_named (nm := "errors.errorString") (by rw [Tryz.starE]; kernel_rfl) (by kernel_rfl) (by decide) u (by rw [Tryz.starE]; exact h)
theorem Tryz.gETy : (Tryz.prog.globals[2]?).map (·.type) = some 99 := by kernel_rfl
theorem Tryz.gLN : Tryz.prog.globalNamed "palisade/lex.longSigns" = some 0 := by kernel_rfl
theorem Tryz.gLTy : (Tryz.prog.globals[0]?).map (·.type) = some 102 := by kernel_rfl
theorem sign_data : (Rows.laid_palisade_lex_longSigns : DataW Unit) = .agg ([[61, 61], [61, 62], [45, 62], [58, 61]].map fun z => .lit (.string z)) := rfl

theorem Tryz.gSN : Tryz.prog.globalNamed "palisade/syntax.signs" = some 4 := by kernel_rfl
theorem Tryz.gSTy : (Tryz.prog.globals[4]?).map (·.type) = some 183 := by kernel_rfl
theorem signs_data : (Rows.laid_palisade_syntax_signs : DataW Unit) = .agg ([[43], [45], [42], [47], [37], [60], [61, 61]].map fun z => .lit (.string z)) := rfl
theorem vsg_of_laid {W : World} (h0 : laidMetH Tryz.prog Rows.syntaxSameRow.laid W) : Vs W ∧ Sg W := by
  rw [MakeChecks.laidMetH_plain _ _ _ (by kernel_rfl)] at h0
  have h : laidMet Tryz.prog [("math/bits.deBruijn32tab", Rows.laid_math_bits_deBruijn32tab), ("math/bits.deBruijn64tab", Rows.laid_math_bits_deBruijn64tab), ("internal/strconv.uint64pow10", Rows.laid_internal_strconv_uint64pow10), ("strconv.ErrRange", Rows.laid_strconv_ErrRange), ("strconv.ErrSyntax", Rows.laid_strconv_ErrSyntax), ("palisade/lex.longSigns", Rows.laid_palisade_lex_longSigns), ("palisade/syntax.signs", Rows.laid_palisade_syntax_signs)] W := h0
  have h3 := h.tail.tail.tail
  obtain ⟨a1, s1, hv1, -, -, -⟩ := laid_sentinel (n := "strconv.ErrRange") h3 Tryz.errNamed Tryz.gETy Tryz.underlying99 Tryz.rowE Tryz.underlying173 Tryz.underlying175 rfl rfl Tryz.underlying9 (by kernel_rfl) (by kernel_rfl)
  have h5 := h3.tail.tail
  have h6 := h5.tail
  have v : Vs W := by
    obtain ⟨ps, ⟨g0, t0, cs0, f0, p0, q0, hg0, ht0, hv0, hd0, _, _⟩, _⟩ := h5
    obtain rfl := Option.some.inj (Tryz.gLN.symm.trans hg0)
    obtain rfl := Option.some.inj (Tryz.gLTy.symm.trans ht0)
    rw [sign_data] at hd0
    have hcs := strs_of_tab Tryz.underlying102 Tryz.underlying9 (by kernel_rfl) (by kernel_rfl) hd0
    have hcell : ∀ j, W.cell? ⟨0, j, none⟩ = cs0[j]? := fun j => World.var?_cell Tryz.gLN hv0 j
    have hget : ∀ j, cs0[j]? = ([[61, 61], [61, 62], [45, 62], [58, 61]].map fun z => Value.string (str z))[j]? := fun j => by
      rw [← hcs, Array.getElem?_toList]
    exact ⟨⟨_, _, hv1⟩, (hcell 0).trans (hget 0), (hcell 1).trans (hget 1), (hcell 2).trans (hget 2), (hcell 3).trans (hget 3)⟩
  refine ⟨v, ?_⟩
  obtain ⟨ps, ⟨g0, t0, cs0, f0, p0, q0, hg0, ht0, hv0, hd0, _, _⟩, _⟩ := h6
  obtain rfl := Option.some.inj (Tryz.gSN.symm.trans hg0)
  obtain rfl := Option.some.inj (Tryz.gSTy.symm.trans ht0)
  rw [signs_data] at hd0
  have hcs := strs_of_tab Tryz.underlying183 Tryz.underlying9 (by kernel_rfl) (by kernel_rfl) hd0
  have hcell : ∀ j, W.cell? ⟨4, j, none⟩ = cs0[j]? := fun j => World.var?_cell Tryz.gSN hv0 j
  have hget : ∀ j, cs0[j]? = ([[43], [45], [42], [47], [37], [60], [61, 61]].map fun z => Value.string (str z))[j]? := fun j => by
    rw [← hcs, Array.getElem?_toList]
  exact ⟨(hcell 0).trans (hget 0), (hcell 1).trans (hget 1), (hcell 2).trans (hget 2), (hcell 3).trans (hget 3), (hcell 4).trans (hget 4), (hcell 5).trans (hget 5), (hcell 6).trans (hget 6)⟩
end Go.Proofs.YtcoeefckldkbeaaGreatDoor

/- A lattice that comes in, opened into its names and its table. -/
namespace Go.Proofs.YtcoeefckldkbeaaGreatDoor
open Go.ChangeShapes Go.WideShapes Go.ChangeAt Go.RowKit Go.Deep Go.Joins

theorem Tryz.own : ownKnob Tryz.prog.godebug = none := by kernel_rfl
theorem Tryz.laidOut : laidOutB Tryz.prog = true := by kernel_rfl
theorem Tryz.cellsString : Tryz.prog.cellsOf 9 = 1 := by kernel_rfl
theorem Tryz.cellsBool : Tryz.prog.cellsOf 4 = 1 := by kernel_rfl
theorem Tryz.cellsRow : Tryz.prog.cellsOf 144 = 1 := by kernel_rfl
theorem Tryz.cellsLat : Tryz.prog.cellsOf 35 = 2 := by kernel_rfl
theorem addr_plain (b off i : Nat) : (⟨b, off, none⟩ : Addr).add i = ⟨b, off + i, none⟩ := by unfold Addr.add; split <;> simp_all

section
variable {H : Type} {enc : TypeId × Value → H} {W : World} {base : Nat}

set_option maxRecDepth 100000 in
theorem open_strs {fuel : Nat} {v : Value} {x : DataW H × List MemPlace} (h : DataW.trod enc Tryz.prog W base (fun _ => true) true fuel 32 [v] = some x) :
    ∃ n : Strs, v = .slice n.ao n.len n.cap ∧ n.At W := by
  rcases open_strings Tryz.underlying32 Tryz.underlying9 Tryz.cellsString h with ⟨hcs, _⟩ | ⟨a, len, cap, ss, hcs, _, hl, hm, hz, _, hcell, hws⟩
  · exact ⟨⟨none, 0, 0, 0, 0, fun _ => ByteArray.empty⟩, by simpa using hcs, ⟨Nat.le_refl _, fun h => absurd h (Nat.lt_irrefl _), Nat.zero_le _, fun _ h => absurd h (Nat.not_lt_zero _), fun _ h => absurd h (Nat.not_lt_zero _)⟩⟩
  · have hv : v = .slice (some a) len cap := by simpa using hcs
    simp only [if_true] at hz
    unfold maxLen at hm hws
    refine ⟨⟨some a, a.block, a.off, len, cap, fun i => ss.getD i ByteArray.empty⟩, hv, ⟨hl, fun hp => ?_, Nat.le_trans hl hm, fun i hi => ?_, fun i hi => ?_⟩⟩
    · have hp' : 0 < len := hp
      have hs := World.cell?_spot (hcell 0 (by omega))
      obtain ⟨ab, ao, asp⟩ := a
      have : asp = none := by simpa [Addr.add] using hs
      subst this; rfl
    · have hi' : i < len := hi
      have hs := World.cell?_spot (hcell 0 (by omega))
      obtain ⟨ab, ao, asp⟩ := a
      have : asp = none := by simpa [Addr.add] using hs
      subst this
      have := hcell i (by omega)
      rw [addr_plain] at this
      exact this
    · have hi' : i < len := hi
      have hmem : ss.getD i ByteArray.empty ∈ ss := by
        rw [List.getD_eq_getElem?_getD, List.getElem?_eq_getElem (by omega)]
        exact List.getElem_mem _
      exact hws _ hmem

set_option maxRecDepth 100000 in
theorem open_grid {fuel : Nat} {v : Value} {x : DataW H × List MemPlace} (h : DataW.trod enc Tryz.prog W base (fun _ => true) true fuel 33 [v] = some x) :
    ∃ g : Grid, v = .slice g.ao g.len g.cap ∧ g.At W := by
  rcases open_bool_rows Tryz.underlying33 Tryz.underlying144 Tryz.underlying4 Tryz.cellsRow Tryz.cellsBool h with ⟨hcs, _⟩ | ⟨a, len, cap, A, L, C, B, hcs, _, hl, hm, _, hrows⟩
  · exact ⟨⟨none, 0, 0, 0, 0, fun _ => none, fun _ => 0, fun _ => 0, fun _ => 0, fun _ => 0, fun _ _ => false⟩, by simpa using hcs,
      ⟨Nat.le_refl _, fun h => absurd h (Nat.lt_irrefl _), Nat.zero_le _, fun _ h => absurd h (Nat.not_lt_zero _), fun _ h => absurd h (Nat.not_lt_zero _), fun _ h => absurd h (Nat.not_lt_zero _), fun _ h => absurd h (Nat.not_lt_zero _)⟩⟩
  · have hv : v = .slice (some a) len cap := by simpa using hcs
    unfold maxLen at hm
    have hadr : ∀ r, r < len → 0 < L r → A r = some ⟨((A r).getD default).block, ((A r).getD default).off, none⟩ ∧ ∀ c, c < L r → W.cell? ⟨((A r).getD default).block, ((A r).getD default).off + c, none⟩ = some (.bool (B r c)) := fun r hr hp => by
      obtain ⟨_, h1, _, h3, h4⟩ := hrows r (by omega)
      cases hA : A r with
      | none => have := h3 hA; omega
      | some a' =>
        obtain ⟨ab, ao, asp⟩ := a'
        obtain ⟨_, hcell⟩ := h4 _ hA
        have has : asp = none := by simpa [Addr.add] using World.cell?_spot (hcell 0 (by omega))
        subst has
        exact ⟨rfl, fun c hc => by have := hcell c (by omega); rwa [addr_plain] at this⟩
    have hspot : 0 < len → a = ⟨a.block, a.off, none⟩ := fun hp => by
      have hs := World.cell?_spot (hrows 0 (by omega)).1
      obtain ⟨ab, ao, asp⟩ := a
      have : asp = none := by simpa [Addr.add] using hs
      subst this; rfl
    refine ⟨⟨some a, a.block, a.off, len, cap, A, L, C, fun r => ((A r).getD default).block, fun r => ((A r).getD default).off, B⟩, hv, ⟨hl, fun hp => congrArg some (hspot hp), Nat.le_trans hl hm, fun r hr => ?_, fun r hr => ?_, fun r hr hp => (hadr r hr hp).1, fun r hr c hc => (hadr r hr (Nat.lt_of_le_of_lt (Nat.zero_le _) hc)).2 c hc⟩⟩
    · have hr' : r < len := hr
      obtain ⟨_, h1, h2, _⟩ := hrows r (by omega)
      unfold maxLen at h2
      exact Nat.le_trans h1 h2
    · have hr' : r < len := hr
      have := (hrows r (by omega)).1
      rw [hspot (by omega), addr_plain] at this
      exact this

set_option maxRecDepth 100000 in
theorem open_lat {v : Value} {d : DataW H} {p : List MemPlace} {b0 : Nat} (hv : Value.okWide Tryz.prog W .any b0 35 v) (h : DataW.Trod enc Tryz.prog W base (fun _ => true) true 35 v d p) :
    ∃ (n : Strs) (g : Grid), v = .agg #[.slice n.ao n.len n.cap, .slice g.ao g.len g.cap] ∧ n.At W ∧ g.At W := by
  obtain ⟨c0, c1, y0, y1, m, rfl, _, _, hy0, hy1⟩ := open_agg2 Tryz.underlying35 (by kernel_rfl) Tryz.cellsLat hv h
  obtain ⟨n, rfl, hn⟩ := open_strs hy0
  obtain ⟨g, rfl, hg⟩ := open_grid hy1
  exact ⟨n, g, rfl, hn, hg⟩
end
end Go.Proofs.YtcoeefckldkbeaaGreatDoor
