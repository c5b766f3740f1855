/- Layer 6: the walk of the reader's block. -/
import Derived.Test.YtcoeefckldkbeaaGreatDoorP18
import Derived.Test.YtcoeefckldkbeaaGreatDoorP17
namespace Go.Proofs.YtcoeefckldkbeaaGreatDoor
open Go Go.RowKit

def W (k : Int) (l : List UInt8) (n a : Int) : Tq := ⟨k, ⟨l.toArray⟩, n, a⟩
/-- The words of the block. -/
def wsB (ts : List Tq) : List Tq := W 2 [108, 97, 116, 116, 105, 99, 101] 0 0 :: W 4 [123] 0 8 :: W 1 [108, 111, 119] 0 10 :: W 4 [44] 0 13 :: W 1 [104, 105, 103, 104] 0 15 :: W 4 [44] 0 19 :: W 1 [108, 111, 119] 0 21 :: W 4 [60] 0 25 :: W 1 [104, 105, 103, 104] 0 27 :: W 4 [125] 0 32 :: ts
theorem lt_wrote {w w' : World} {p Z : Nat} {n : Strs} {g : Grid} {c : List Value} {t t' : TypeId} (h : Lt w p n g) (hL : IsLH n g) (hz : Blk w Z [.slice none 0 0, .slice none 0 0] t) (W : WroteB w w' Z c t') : Lt w' p n g := by
  have e : ∀ (b k : Nat) (v : Value), b ≠ Z → w.cell? ⟨b, k, none⟩ = some v → w'.cell? ⟨b, k, none⟩ = some v := fun b k v hb hc => by
    rw [World.cell?_of_block (a := ⟨b, k, none⟩) (W.other b hb)]
    exact hc
  have v0 : ∀ (k : Nat) (v : Value), w.cell? ⟨Z, k, none⟩ = some v → v = .slice none 0 0 := fun k v hc => by
    have := cell_of hz hc
    match k, this with
    | 0, this => simpa using this.symm
    | 1, this => simpa using this.symm
    | k + 2, this => simp at this
  refine ⟨⟨h.hn.lc, h.hn.nil, h.hn.bound, fun i hi => e _ _ _ (fun q => ?_) (h.hn.cell i hi), h.hn.sz⟩, ⟨h.hg.lc, h.hg.nil, h.hg.bound, h.hg.lbound, fun r hr => e _ _ _ (fun q => ?_) (h.hg.row r hr), h.hg.adr, fun r hr c hc => e _ _ _ (fun q => ?_) (h.hg.cell r hr c hc)⟩, h.f, h.nb, h.gb, h.ab⟩
  · have := h.hn.cell i hi
    rw [q] at this
    exact absurd (v0 _ _ this) (by simp)
  · have := h.hg.row r hr
    rw [q] at this
    have := v0 _ _ this
    obtain ⟨T, ao', b', cap', rfl⟩ := hL.grid
    simp [gridOf] at this
  · have := h.hg.cell r hr c hc
    rw [q] at this
    exact absurd (v0 _ _ this) (by simp)
def lenAt (w : World) (p : Nat) : Nat := match w.cell? ⟨p, 0, none⟩ with
  | some (.slice _ n _) => n
  | _ => 0
theorem Rp.len {w : World} {p : Nat} {ts : List Tq} {L : Int} {x y : Value} (h : Rp w p ts L x y) : lenAt w p = ts.length := by
  obtain ⟨ao, b, o, c, h1, _⟩ := h
  unfold lenAt
  rw [h1.cell 0 rfl]
def ws2 (ts : List Tq) : List Tq := W 4 [125] 0 32 :: ts
def ws1 (ts : List Tq) : List Tq := W 4 [44] 0 19 :: W 1 [108, 111, 119] 0 21 :: W 4 [60] 0 25 :: W 1 [104, 105, 103, 104] 0 27 :: ws2 ts
def ws0 (ts : List Tq) : List Tq := W 4 [44] 0 13 :: W 1 [104, 105, 103, 104] 0 15 :: ws1 ts
def wsJ (ts : List Tq) : Nat → List Tq
  | 0 => ws0 ts
  | 1 => ws1 ts
  | _ => ws2 ts
theorem n44_60 : ((⟨#[44]⟩ : ByteArray).toList == (⟨#[60]⟩ : ByteArray).toList) = false := by decide +kernel
theorem n125_44 : ((⟨#[125]⟩ : ByteArray).toList == (⟨#[44]⟩ : ByteArray).toList) = false := by decide +kernel
def nsJ : Nat → List ByteArray
  | 0 => [sLow]
  | _ => [sLow, sHigh]
def psJ : Nat → List (Int × Int)
  | 2 => [(0, 1)]
  | _ => []
set_option maxRecDepth 100000 in
set_option maxHeartbeats 8000000 in
theorem rBlock_LH (ts : List Tq) (L : Int) (p : Nat) (w : World) (h : Rp w p (wsB ts) L (.slice none 0 0) (.slice none 0 0)) :
    Calls Tryz.prog 38 #[.pointer (some ⟨p, 0, none⟩)] w fun e w' => ∃ (n : Strs) (g : Grid), e = .returned (.agg #[.slice n.ao n.len n.cap, .slice g.ao g.len g.cap]) ∧ IsLH n g ∧ Lt w' p n g ∧ Rp w' p ts L (.slice none 0 0) (.slice none 0 0) ∧ w.grownBy w' (some p) := by
  have hp := h.lt
  have B0 := below_alloc w (.cells #[.slice none 0 0, .slice none 0 0] 35)
  have z0 : Blk (w.alloc (.cells #[.slice none 0 0, .slice none 0 0] 35)) w.heap.size [.slice none 0 0, .slice none 0 0] 35 := Blk.new _ _ _
  have hN := rNext_any _ L _ _ p _ (h.kept B0)
  have hf := fld3 2 0 0 ⟨#[108, 97, 116, 116, 105, 99, 101]⟩
  have HR : Hid (Rp (w.alloc (.cells #[.slice none 0 0, .slice none 0 0] 35)) p (wsB ts) L (.slice none 0 0) (.slice none 0 0) ∧ Blk (w.alloc (.cells #[.slice none 0 0, .slice none 0 0] 35)) w.heap.size [.slice none 0 0, .slice none 0 0] 35 ∧ w.grownBy (w.alloc (.cells #[.slice none 0 0, .slice none 0 0] 35)) (some p)) := ⟨h.kept B0, z0, gb_of _ B0⟩
  rw [show (hd (wsB ts) L).v = .agg #[.int .i64 2, .string ⟨#[108, 97, 116, 116, 105, 99, 101]⟩, .int .i64 0, .int .i64 0] from rfl] at hN
  clear h B0 z0
  go_enter Tryz.func38, Tryz.ntmps38
  go_wp2_with fail
  refine hN.mono ?_
  rintro _ w1 ⟨rfl, hb⟩
  have HR1 : Hid (Rp w1 p (wsB ts) L (.slice none 0 0) (.slice none 0 0) ∧ Blk w1 w.heap.size [.slice none 0 0, .slice none 0 0] 35 ∧ w.grownBy w1 (some p)) := ⟨HR.out.1.kept hb, HR.out.2.1.kept hb, gb_next HR.out.2.2 hb⟩
  clear hN HR hb
  go_upto_region 2 with fail
  have hD := need2 ⟨#[108, 97, 116, 116, 105, 99, 101]⟩ ⟨#[123]⟩ _ _ _ L _ _ p w1 HR1.out.1 (by decide +kernel) (by decide +kernel)
  clear hf
  go_wp2_with fail
  refine hD.mono ?_
  rintro _ w2 ⟨rfl, hR, hg⟩
  have HR2 : Hid (Rp w2 p _ L (.slice none 0 0) (.slice none 0 0) ∧ Blk w2 w.heap.size [.slice none 0 0, .slice none 0 0] 35 ∧ w.grownBy w2 (some p)) := ⟨hR, HR1.out.2.1.gb hg (by omega), gb_trans HR1.out.2.2 hg⟩
  clear hD hR hg HR1
  have HO : Hid (Od w2 (w2.alloc (.cells #[.slice none 0 0, .slice none 0 0] 108)) p w2.heap.size _ L (.slice none 0 0) (.slice none 0 0) [] [] (.slice none 0 0) (.slice none 0 0)) := ⟨HR2.out.1.kept (below_alloc _ _), gb_of _ (below_alloc _ _), HR2.out.1.lt, Nat.le_refl _, Blk.new _ _ _, World.ownsRow_nil _ _ _ _, World.ownsRow_nil _ _ _ _⟩
  have hT := rItem_new HO.out (by decide) rfl (by decide +kernel) n44_60
  go_wp2_with fail
  refine hT.mono ?_
  rintro _ w3 ⟨rfl, nv, h3⟩
  have HO3 : Hid (Od w2 w3 p w2.heap.size (wsJ ts 0) L (.slice none 0 0) (.slice none 0 0) (nsJ 0) (psJ 0) nv (.slice none 0 0)) := h3
  clear hT h3 HO
  generalize hq : w2.heap.size = q at *
  have HQ : Hid (w2.heap.size = q) := hq
  clear hq
  go_wp2
  go_loopw [16] (fun _ wr => ∃ (j : Nat) (nv pv : Value), j ≤ 2 ∧ Od w2 wr p q (wsJ ts j) L (.slice none 0 0) (.slice none 0 0) (nsJ j) (psJ j) nv pv) (fun _ wr => lenAt wr p)
  case atStart => exact ⟨0, nv, _, by omega, HO3.out⟩
  case round =>
    obtain ⟨j, nv, pv, hj, hO⟩ := hrel
    clear HO3
    have HO : Hid (Od w2 wr p q (wsJ ts j) L (.slice none 0 0) (.slice none 0 0) (nsJ j) (psJ j) nv pv) := hO
    have HLn : Hid (lenAt wr p = (wsJ ts j).length) := hO.r.len
    clear hO
    match j, hj with
    | 0, _ =>
      have hS := rSkip_yes ⟨#[44]⟩ (W 4 [44] 0 13) (W 1 [104, 105, 103, 104] 0 15 :: ws1 ts) L _ _ p wr HO.out.r (by decide +kernel)
      go_wp2_with fail
      refine hS.mono ?_
      rintro _ w4 ⟨rfl, hR, hg⟩
      have hT := rItem_new (ts := ws1 ts) (t := W 1 [104, 105, 103, 104] 0 15) (HO.out.move hR hg) (by decide) rfl (by decide +kernel) n44_60
      clear hS hR hg
      go_wp2_with fail
      refine hT.mono ?_
      rintro _ w5 ⟨rfl, nv', h5⟩
      have HO5 : Hid (Od w2 w5 p q (wsJ ts 1) L (.slice none 0 0) (.slice none 0 0) (nsJ 1) (psJ 1) nv' pv) := h5
      clear hT h5
      go_wp2
      go_roundw
      case rel => exact ⟨1, nv', pv, by omega, HO5.out⟩
      case measure => rw [HO5.out.r.len, HLn.out]; simp [wsJ, ws0, ws1]
    | 1, _ =>
      have hS := rSkip_yes ⟨#[44]⟩ (W 4 [44] 0 19) (W 1 [108, 111, 119] 0 21 :: W 4 [60] 0 25 :: W 1 [104, 105, 103, 104] 0 27 :: ws2 ts) L _ _ p wr HO.out.r (by decide +kernel)
      go_wp2_with fail
      refine hS.mono ?_
      rintro _ w4 ⟨rfl, hR, hg⟩
      have hT := rItem_lt (HO.out.move hR hg) (by decide) (by decide) rfl rfl (by decide +kernel) 0 1 sLow sHigh rfl (by decide +kernel) (fun k y hk => absurd hk (Nat.not_lt_zero _)) rfl (by decide +kernel) (fun k y hk hy => by
        have : k = 0 := by omega
        subst this
        have : y = sLow := (Option.some.inj hy).symm
        subst this
        decide +kernel)
      clear hS hR hg
      go_wp2_with fail
      refine hT.mono ?_
      rintro _ w5 ⟨rfl, pv', h5⟩
      have HO5 : Hid (Od w2 w5 p q (wsJ ts 2) L (.slice none 0 0) (.slice none 0 0) (nsJ 2) (psJ 2) nv pv') := h5
      clear hT h5
      go_wp2
      go_roundw
      case rel => exact ⟨2, nv, pv', by omega, HO5.out⟩
      case measure => rw [HO5.out.r.len, HLn.out]; simp [wsJ, ws1, ws2]
    | 2, _ =>
      have hS := rSkip_no ⟨#[44]⟩ (ws2 ts) L _ _ p wr HO.out.r n125_44
      go_wp2_with fail
      refine hS.mono ?_
      rintro _ w4 ⟨rfl, hb⟩
      have HO4 : Hid (Od w2 w4 p q (wsJ ts 2) L (.slice none 0 0) (.slice none 0 0) (nsJ 2) (psJ 2) nv pv) := HO.out.kept hb
      clear hS hb HO
      have hD := need1 ⟨#[125]⟩ (W 4 [125] 0 32) ts L _ _ p w4 HO4.out.r (by decide +kernel)
      go_wp2_with fail
      refine hD.mono ?_
      rintro _ w5 ⟨rfl, hR, hg⟩
      have HO5 : Hid (Od w2 w5 p q ts L (.slice none 0 0) (.slice none 0 0) (nsJ 2) (psJ 2) nv pv) := HO4.out.move hR hg
      clear hD hR hg HO4 HLn
      obtain ⟨nao, nb, ncap, rfl, hn, hns⟩ := names_at HO5.out.no
      obtain ⟨pao, pb, pcap, rfl, hpp⟩ := pairs_at HO5.out.po
      have c0 := HO5.out.o.cell 0 rfl
      have c1 := HO5.out.o.cell 1 rfl
      have hM : Calls Tryz.prog 54 #[.slice nao 2 ncap, .slice pao 1 pcap] w5 _ := make_any (nLH nao nb ncap) (pLH pao pb pcap) w5 hn hpp (Or.inr hns)
      clear hn hpp hns
      go_wp2_with fail
      refine hM.mono ?_
      rintro _ w6 ⟨er, n, g, rfl, hmade, hb⟩
      have he : er = 0 := hmade.er.trans (makeE_LH _ _ _ _ _ _)
      subst he
      have HO6 : Hid (Od w2 w6 p q ts L (.slice none 0 0) (.slice none 0 0) (nsJ 2) (psJ 2) (.slice nao 2 ncap) (.slice pao 1 pcap)) := HO5.out.kept hb
      obtain ⟨y1, y2, T, y3⟩ := hmade.yes rfl
      have hL : IsLH n g := ⟨y1, y2, T, pao, pb, pcap, y3⟩
      have HL : Hid (IsLH n g ∧ Lt w6 p n g) := ⟨hL, lt_of_made hL hmade.nat hmade.gat HO6.out.r⟩
      clear hM HO5 hb c0 c1 hmade y1 y2 y3 hL
      have b7 := below_alloc w6 (.cells #[.slice n.ao n.len n.cap, .slice g.ao g.len g.cap] 35)
      have HZ : Hid (Blk (w6.alloc (.cells #[.slice n.ao n.len n.cap, .slice g.ao g.len g.cap] 35)) w.heap.size [.slice none 0 0, .slice none 0 0] 35 ∧ Blk (w6.alloc (.cells #[.slice n.ao n.len n.cap, .slice g.ao g.len g.cap] 35)) w6.heap.size [.slice n.ao n.len n.cap, .slice g.ao g.len g.cap] 35 ∧ w.heap.size < w6.heap.size) := by
        have z6 := HR2.out.2.1.gb HO6.out.gb (by omega)
        exact ⟨z6.kept b7, Blk.new _ _ _, z6.lt⟩
      have HE : Hid (Lt (w6.alloc (.cells #[.slice n.ao n.len n.cap, .slice g.ao g.len g.cap] 35)) p n g ∧ Rp (w6.alloc (.cells #[.slice n.ao n.len n.cap, .slice g.ao g.len g.cap] 35)) p ts L (.slice none 0 0) (.slice none 0 0) ∧ w.grownBy (w6.alloc (.cells #[.slice n.ao n.len n.cap, .slice g.ao g.len g.cap] 35)) (some p)) := ⟨HL.out.2.kept b7, HO6.out.r.kept b7, gb_next (gb_trans HR2.out.2.2 HO6.out.gb) b7⟩
      have d0 := HZ.out.2.1.cell 0 rfl
      have d1 := HZ.out.2.1.cell 1 rfl
      clear b7 HO6 HR2 HQ
      go_wp2_with (refine wpList_store_blk rfl rfl 35 (.tmp 2) (.tmp 35) rfl w.heap.size [.slice n.ao n.len n.cap, .slice g.ao g.len g.cap] (by kernel_rfl) (by kernel_rfl) rfl HZ.out.1 rfl (by kernel_rfl) ?_; intro w8 W8)
      have c0 := W8.blk.cell 0 rfl
      have c1 := W8.blk.cell 1 rfl
      have bw : Below w.heap.size (w6.alloc (.cells #[.slice n.ao n.len n.cap, .slice g.ao g.len g.cap] 35)) w8 := W8.below (Nat.le_refl _) (Below.refl _ _)
      have hLt : Lt w8 p n g := lt_wrote HE.out.1 HL.out.1 HZ.out.1 W8
      exact bodyPost_ret (v := .agg #[.slice n.ao n.len n.cap, .slice g.ao g.len g.cap]) (by simp [results, Tryz.results38, go_sem, c0, c1]) rfl ⟨n, g, rfl, HL.out.1, hLt, HE.out.2.1.below hp bw, gb_below HE.out.2.2 bw⟩
end Go.Proofs.YtcoeefckldkbeaaGreatDoor

/- Layer 6: the reader's sum, compare, expr and seq, of a sum of two atoms. -/
namespace Go.Proofs.YtcoeefckldkbeaaGreatDoor
open Go Go.RowKit

/-- An expression's variable in block Z, where the expression has its Parts in block B. -/
structure G2 (w wr : World) (p : Nat) (ts : List Tq) (L : Int) (x y : Value) (f s : Ex) (B Z : Nat) : Prop where
  f2 : F2 w wr p ts L x y (bnE B f s).vs Z
  pb : Blk wr B (f.vs ++ s.vs) 27
  hB : w.heap.size < B
theorem G2.kept {w wr w' : World} {p : Nat} {ts : List Tq} {L : Int} {x y : Value} {f s : Ex} {B Z : Nat} (h : G2 w wr p ts L x y f s B Z) (hb : Below wr.heap.size wr w') : G2 w w' p ts L x y f s B Z := ⟨h.f2.kept hb, h.pb.kept hb, h.hB⟩
/-- What a reading of such a sum leaves. -/
def RdS (fn : FuncId) (t q u : Tq) (f s : Ex) (ok : List Tq → Int → Prop) : Prop := ∀ (ts : List Tq) (L : Int) (x y : Value) (p : Nat) (w : World), Rp w p (t :: q :: u :: ts) L x y → ok ts L → Sg w → 4 ≠ p →
  Calls Tryz.prog fn #[.pointer (some ⟨p, 0, none⟩)] w fun r w' => ∃ B, r = .returned (.agg (bnE B f s).va) ∧ Blk w' B (f.vs ++ s.vs) 27 ∧ w.heap.size ≤ B ∧ Rp w' p ts L x y ∧ w.grownBy w' (some p)
def signs8 : List (List UInt8) := [[40], [42], [47], [37]]
def signsS : List (List UInt8) := [[40], [42], [47], [37], [43], [45]]
theorem n43 : noP signs8 ⟨#[43]⟩ := by
  intro q hq
  simp only [signs8, List.mem_cons, List.not_mem_nil, or_false] at hq
  rcases hq with rfl | rfl | rfl | rfl <;> decide +kernel
set_option maxRecDepth 100000 in
set_option maxHeartbeats 8000000 in
theorem rSum_two (t q u : Tq) (f s : Ex) (hq : q.s = ⟨#[43]⟩) (hA : RdE 117 t f fun ts L => noP signs8 (hd ts L).s) (hU : RdE 117 u s fun ts L => noP signs8 (hd ts L).s) : RdS 104 t q u f s fun ts L => noP signsS (hd ts L).s := by
  intro ts L x y p w h hok hsg hne
  have hok8 : noP signs8 (hd ts L).s := fun z hz => hok z (by simp only [signs8, signsS, List.mem_cons, List.not_mem_nil, or_false] at hz ⊢; rcases hz with rfl | rfl | rfl | rfl <;> simp)
  have hin : inL (hd ts L).s [⟨#[43]⟩, ⟨#[45]⟩] = false := noP_in (l := [[43], [45]]) (fun z hz => hok z (by simp only [signsS, List.mem_cons, List.not_mem_nil, or_false] at hz ⊢; rcases hz with rfl | rfl <;> simp))
  have hin1 : inL q.s [⟨#[43]⟩, ⟨#[45]⟩] = true := by rw [hq]; decide +kernel
  have B0 := below_alloc w (.cells zExE.toArray 27)
  have z0 : Blk (w.alloc (.cells zExE.toArray 27)) w.heap.size zExE 27 := Blk.new _ _ _
  have hC := hA (q :: u :: ts) L x y p _ (h.kept B0) (by show noP signs8 (hd (q :: u :: ts) L).s; rw [hd_cons, hq]; exact n43)
  have hp := h.lt
  have HS : Hid (Sg w ∧ noP signs8 (hd ts L).s) := ⟨hsg, hok8⟩
  clear h hok hsg hok8
  unfold zExE at hC B0
  go_enter Tryz.func104, Tryz.ntmps104
  go_wp2_with fail
  refine hC.mono ?_
  rintro _ w1 ⟨rfl, hR, hg⟩
  have z1 := z0.gb hg (by omega)
  have g1 := gb_trans (gb_of (some p) B0) hg
  clear hC z0 B0 hg
  go_wp2_with (refine newS_ex rfl rfl rfl (.tmp 3) (.tmp 5) rfl rfl (by kernel_rfl) f (by kernel_rfl) ?_; intro w2 k2 b2; refine StopH.go ?_)
  refine StopH.mk ?_
  have HI : Hid (F2 w w2 p (q :: u :: ts) L x y f.vs w1.heap.size) := ⟨hR.kept b2, gb_next g1 b2, hp, z1.kept b2, k2, z1.lt⟩
  clear hR g1 z1 k2 b2
  generalize w1.heap.size = Z at *
  go_wp2
  go_loopw [8] (fun _ wr => F2 w wr p (q :: u :: ts) L x y f.vs Z ∨ ∃ B, G2 w wr p ts L x y f s B Z) (fun _ wr => lenAt wr p)
  case atStart => exact Or.inl HI.out
  case round =>
    clear HI
    rcases hrel with hF | ⟨B, hG⟩
    · have b3 := below_alloc wr (.cells #[.string ⟨#[43]⟩, .string ⟨#[45]⟩] 9)
      have HI : Hid (F2 w (wr.alloc (.cells #[.string ⟨#[43]⟩, .string ⟨#[45]⟩] 9)) p (q :: u :: ts) L x y f.vs Z) := hF.kept b3
      have HLn : Hid (lenAt wr p = (q :: u :: ts).length) := hF.r.len
      have hS := rIs_any [⟨#[43]⟩, ⟨#[45]⟩] (.slice (some ⟨wr.heap.size, 0, none⟩) 2 2) (q :: u :: ts) L x y p _ HI.out.r (sxStrs2 _ _ wr)
      rw [hd_cons, hin1] at hS
      clear hF b3
      go_wp2_with fail
      refine hS.mono ?_
      rintro _ w3 ⟨rfl, hb⟩
      have HJ : Hid (F2 w w3 p (q :: u :: ts) L x y f.vs Z) := HI.out.kept hb
      clear hS hb HI
      have hB := rBin_add q u ts L x y p w3 f s HJ.out.r hq (HS.out.1.gb HJ.out.gb hne) hne (fun ts L => noP signs8 (hd ts L).s) HS.out.2 hU
      have hmf : ∀ (fn : Fn) (first cap : Array Value) (w : World), (Instr.makeFunc fn first cap).run Tryz.prog w = .ok (.func fn first cap) w := fun _ _ _ _ => rfl
      go_wp2_with (refine wpList_load_ex rfl (.tmp 3) rfl Z 0 (by kernel_rfl) f (C17.of_range HJ.out.b3.range) ?_)
      refine hB.mono ?_
      rintro _ w4 ⟨B, rfl, hBk, hBl, hR, hg⟩
      have HK : Hid (F2 w w4 p ts L x y f.vs Z ∧ Blk w4 B (f.vs ++ s.vs) 27 ∧ Z < B ∧ w.heap.size < B) := ⟨HJ.out.move hR hg, hBk, by have := HJ.out.b3.lt; omega, by have := HJ.out.b2.lt; omega⟩
      clear hB hBk hBl hR hg HJ hmf
      go_wp2_with (refine wpList_store_blk rfl rfl 27 (.tmp 3) (.tmp 13) rfl Z (bnE B f s).vs (by kernel_rfl) (by kernel_rfl) (exS_one _) HK.out.1.b3 rfl (by kernel_rfl) ?_; intro w5 W5; refine StopH.go ?_)
      refine StopH.mk ?_
      have HM : Hid (G2 w w5 p ts L x y f s B Z) := by
        have bw : Below w.heap.size w4 w5 := W5.below (Nat.le_of_lt HK.out.1.lt) (Below.refl _ _)
        exact ⟨⟨HK.out.1.r.below HK.out.1.hp bw, gb_below HK.out.1.gb bw, HK.out.1.hp, W5.keep HK.out.1.b2 (by have := HK.out.1.lt; omega), W5.blk, HK.out.1.lt⟩, W5.keep HK.out.2.1 (by have := HK.out.2.2.1; omega), HK.out.2.2.2⟩
      clear HK W5
      go_wp2
      go_roundw
      case rel => exact Or.inr ⟨B, HM.out⟩
      case measure => rw [HM.out.f2.r.len, HLn.out]; simp only [List.length_cons]; omega
    · have b3 := below_alloc wr (.cells #[.string ⟨#[43]⟩, .string ⟨#[45]⟩] 9)
      have HI : Hid (G2 w (wr.alloc (.cells #[.string ⟨#[43]⟩, .string ⟨#[45]⟩] 9)) p ts L x y f s B Z) := hG.kept b3
      have hS := rIs_any [⟨#[43]⟩, ⟨#[45]⟩] (.slice (some ⟨wr.heap.size, 0, none⟩) 2 2) ts L x y p _ HI.out.f2.r (sxStrs2 _ _ wr)
      rw [hin] at hS
      clear hG b3
      go_wp2_with fail
      refine hS.mono ?_
      rintro _ w3 ⟨rfl, hb⟩
      have HJ : Hid (G2 w w3 p ts L x y f s B Z) := HI.out.kept hb
      clear hS hb HI
      go_wp2_with (first | (refine wpList_load_ex rfl (.tmp 3) rfl Z 0 (by kernel_rfl) (bnE B f s) (C17.of_range HJ.out.f2.b3.range) ?_) | (refine wpList_store_blk rfl rfl 27 (.tmp 2) (.tmp 14) rfl w.heap.size (bnE B f s).vs (by kernel_rfl) (by kernel_rfl) (exS_one _) HJ.out.f2.b2 rfl (by kernel_rfl) ?_; intro w7 W7))
      exact bodyPost_ret (v := .agg (bnE B f s).va) (results_ex Tryz.results104 rfl (C17.of_range W7.blk.range)) rfl ⟨B, rfl, W7.keep HJ.out.pb (by have := HJ.out.hB; omega), Nat.le_of_lt HJ.out.hB, HJ.out.f2.done W7⟩
def signsC : List (List UInt8) := [[40], [42], [47], [37], [43], [45], [60], [61, 61]]
theorem noP_sub {l m : List (List UInt8)} {s : ByteArray} (h : noP m s) (hs : ∀ q ∈ l, q ∈ m) : noP l s := fun q hq => h q (hs q hq)
set_option maxRecDepth 100000 in
set_option maxHeartbeats 4000000 in
theorem rCompare_two (t q u : Tq) (f s : Ex) (hA : RdS 104 t q u f s fun ts L => noP signsS (hd ts L).s) : RdS 83 t q u f s fun ts L => noP signsC (hd ts L).s := by
  intro ts L x y p w h hok hsg hne
  have hin : inL (hd ts L).s [⟨#[60]⟩, ⟨#[61, 61]⟩] = false := noP_in (l := [[60], [61, 61]]) (noP_sub hok (by decide))
  have B0 := below_alloc w (.cells zExE.toArray 27)
  have z0 : Blk (w.alloc (.cells zExE.toArray 27)) w.heap.size zExE 27 := Blk.new _ _ _
  have hC := hA ts L x y p _ (h.kept B0) (noP_sub hok (by decide)) (hsg.kept B0) hne
  have hp := h.lt
  clear h hok hsg
  unfold zExE at hC B0
  go_enter Tryz.func83, Tryz.ntmps83
  go_wp2_with fail
  refine hC.mono ?_
  rintro _ w1 ⟨B, rfl, hB, hBl, hR, hg⟩
  have z1 := z0.gb hg (by omega)
  have hBw : w.heap.size < B := Nat.lt_of_lt_of_le z0.lt hBl
  have g1 := gb_trans (gb_of (some p) B0) hg
  clear hC z0 B0 hg hBl
  go_wp2_with (refine newS_ex rfl rfl rfl (.tmp 3) (.tmp 5) rfl rfl (by kernel_rfl) (bnE B f s) (by kernel_rfl) ?_; intro w2 k2 b2; refine StopH.go ?_)
  refine StopH.mk ?_
  have b3 := below_alloc w2 (.cells #[.string ⟨#[60]⟩, .string ⟨#[61, 61]⟩] 9)
  have HI : Hid (G2 w (w2.alloc (.cells #[.string ⟨#[60]⟩, .string ⟨#[61, 61]⟩] 9)) p ts L x y f s B w1.heap.size) := G2.kept ⟨⟨hR.kept b2, gb_next g1 b2, hp, z1.kept b2, k2, z1.lt⟩, hB.kept b2, hBw⟩ b3
  have hS := rIs_any [⟨#[60]⟩, ⟨#[61, 61]⟩] (.slice (some ⟨w2.heap.size, 0, none⟩) 2 2) ts L x y p _ HI.out.f2.r (sxStrs2 _ _ w2)
  rw [hin] at hS
  clear hR g1 z1 k2 b2 hB b3 hBw
  generalize w1.heap.size = Z at *
  go_wp2_with fail
  refine hS.mono ?_
  rintro _ w3 ⟨rfl, hb⟩
  have HJ : Hid (G2 w w3 p ts L x y f s B Z) := HI.out.kept hb
  clear hS hb HI
  go_wp2_with (first | (refine wpList_load_ex rfl (.tmp 3) rfl Z 0 (by kernel_rfl) (bnE B f s) (C17.of_range HJ.out.f2.b3.range) ?_) | (refine wpList_store_blk rfl rfl 27 (.tmp 2) (.tmp 10) rfl w.heap.size (bnE B f s).vs (by kernel_rfl) (by kernel_rfl) (exS_one _) HJ.out.f2.b2 rfl (by kernel_rfl) ?_; intro w7 W7))
  exact bodyPost_ret (v := .agg (bnE B f s).va) (results_ex Tryz.results83 rfl (C17.of_range W7.blk.range)) rfl ⟨B, rfl, W7.keep HJ.out.pb (by have := HJ.out.hB; omega), Nat.le_of_lt HJ.out.hB, HJ.out.f2.done W7⟩
end Go.Proofs.YtcoeefckldkbeaaGreatDoor

/- Layer 6: the reader's expr and seq, of a sum of two atoms. -/
namespace Go.Proofs.YtcoeefckldkbeaaGreatDoor
open Go Go.RowKit

def signsE : List (List UInt8) := [[40], [42], [47], [37], [43], [45], [60], [61, 61], [58, 61]]
def signsQ : List (List UInt8) := [[40], [42], [47], [37], [43], [45], [60], [61, 61], [58, 61], [59]]
def kwX : List (List UInt8) := [[108, 101, 116], [105, 102], [102, 117, 110]]
/-- The reader and the result's block. -/
structure F1 (w wr : World) (p : Nat) (ts : List Tq) (L : Int) (x y : Value) : Prop where
  r : Rp wr p ts L x y
  gb : w.grownBy wr (some p)
  hp : p < w.heap.size
  b2 : Blk wr w.heap.size zExE 27
theorem F1.kept {w wr w' : World} {p : Nat} {ts : List Tq} {L : Int} {x y : Value} (h : F1 w wr p ts L x y) (hb : Below wr.heap.size wr w') : F1 w w' p ts L x y := ⟨h.r.kept hb, gb_next h.gb hb, h.hp, h.b2.kept hb⟩
set_option maxRecDepth 100000 in
set_option maxHeartbeats 4000000 in
theorem rExpr_two (t q u : Tq) (f s : Ex) (ht : noP kwX t.s) (hA : RdS 83 t q u f s fun ts L => noP signsC (hd ts L).s) : RdS 58 t q u f s fun ts L => noP signsE (hd ts L).s := by
  intro ts L x y p w h hok hsg hne
  have B0 := below_alloc w (.cells zExE.toArray 27)
  have z0 : Blk (w.alloc (.cells zExE.toArray 27)) w.heap.size zExE 27 := Blk.new _ _ _
  have HI : Hid (F1 w _ p (t :: q :: u :: ts) L x y) := ⟨h.kept B0, gb_of _ B0, h.lt, z0⟩
  have hN := rNext_any _ L _ _ p _ HI.out.r
  rw [hd_cons] at hN
  unfold Tq.v at hN
  have HS : Hid (Sg w) := hsg
  have hf := fld3 t.k t.n t.a t.s
  clear h B0 z0 hsg
  unfold zExE at hN HI
  go_enter Tryz.func58, Tryz.ntmps58
  go_wp2_with fail
  refine hN.mono ?_
  rintro _ w1 ⟨rfl, hb⟩
  have HI1 : Hid (F1 w w1 p (t :: q :: u :: ts) L x y) := HI.out.kept hb
  clear hN HI hb
  have hS := rSkip_no ⟨#[108, 101, 116]⟩ (t :: q :: u :: ts) L x y p w1 HI1.out.r (ht [108, 101, 116] (by simp [kwX]))
  go_wp2_with fail
  refine hS.mono ?_
  rintro _ w2 ⟨rfl, hb⟩
  have HI2 : Hid (F1 w w2 p (t :: q :: u :: ts) L x y) := HI1.out.kept hb
  clear hS hb HI1 hf
  have hS := rSkip_no ⟨#[105, 102]⟩ (t :: q :: u :: ts) L x y p w2 HI2.out.r (ht [105, 102] (by simp [kwX]))
  go_wp2_with fail
  refine hS.mono ?_
  rintro _ w3 ⟨rfl, hb⟩
  have HI3 : Hid (F1 w w3 p (t :: q :: u :: ts) L x y) := HI2.out.kept hb
  clear hS hb HI2
  have hS := rSkip_no ⟨#[102, 117, 110]⟩ (t :: q :: u :: ts) L x y p w3 HI3.out.r (ht [102, 117, 110] (by simp [kwX]))
  go_wp2_with fail
  refine hS.mono ?_
  rintro _ w4 ⟨rfl, hb⟩
  have HI4 : Hid (F1 w w4 p (t :: q :: u :: ts) L x y) := HI3.out.kept hb
  clear hS hb HI3
  have hC := hA ts L x y p w4 HI4.out.r (noP_sub hok (by decide)) (HS.out.gb HI4.out.gb hne) hne
  go_wp2_with fail
  refine hC.mono ?_
  rintro _ v1 ⟨B, rfl, hB, hBl, hR, hg⟩
  have z1 := HI4.out.b2.gb hg (by have := HI4.out.hp; omega)
  have hBw : w.heap.size < B := Nat.lt_of_lt_of_le HI4.out.b2.lt hBl
  have g1 := gb_trans HI4.out.gb hg
  have hp := HI4.out.hp
  clear hC hg hBl HI4
  go_wp2_with (refine newS_ex rfl rfl rfl (.tmp 4) (.tmp 27) rfl rfl (by kernel_rfl) (bnE B f s) (by kernel_rfl) ?_; intro v2 k2 b2; refine StopH.go ?_)
  refine StopH.mk ?_
  have HG : Hid (G2 w v2 p ts L x y f s B v1.heap.size) := ⟨⟨hR.kept b2, gb_next g1 b2, hp, z1.kept b2, k2, z1.lt⟩, hB.kept b2, hBw⟩
  have hS := rSkip_no ⟨#[58, 61]⟩ ts L x y p v2 HG.out.f2.r (hok _ (by decide))
  clear hR g1 z1 k2 b2 hB hBw
  generalize v1.heap.size = Z at *
  go_wp2_with fail
  refine hS.mono ?_
  rintro _ v3 ⟨rfl, hb⟩
  have HJ : Hid (G2 w v3 p ts L x y f s B Z) := HG.out.kept hb
  clear hS hb HG
  go_wp2_with (first | (refine wpList_load_ex rfl (.tmp 4) rfl Z 0 (by kernel_rfl) (bnE B f s) (C17.of_range HJ.out.f2.b3.range) ?_) | (refine wpList_store_blk rfl rfl 27 (.tmp 2) (.tmp 31) rfl w.heap.size (bnE B f s).vs (by kernel_rfl) (by kernel_rfl) (exS_one _) HJ.out.f2.b2 rfl (by kernel_rfl) ?_; intro v7 W7))
  exact bodyPost_ret (v := .agg (bnE B f s).va) (results_ex Tryz.results58 rfl (C17.of_range W7.blk.range)) rfl ⟨B, rfl, W7.keep HJ.out.pb (by have := HJ.out.hB; omega), Nat.le_of_lt HJ.out.hB, HJ.out.f2.done W7⟩
set_option maxRecDepth 100000 in
set_option maxHeartbeats 4000000 in
theorem rSeq_two (t q u : Tq) (f s : Ex) (hA : RdS 58 t q u f s fun ts L => noP signsE (hd ts L).s) : RdS 42 t q u f s fun ts L => noP signsQ (hd ts L).s := by
  intro ts L x y p w h hok hsg hne
  have B0 := below_alloc w (.cells zExE.toArray 27)
  have z0 : Blk (w.alloc (.cells zExE.toArray 27)) w.heap.size zExE 27 := Blk.new _ _ _
  have HI : Hid (F1 w _ p (t :: q :: u :: ts) L x y) := ⟨h.kept B0, gb_of _ B0, h.lt, z0⟩
  have hC := hA ts L x y p _ HI.out.r (noP_sub hok (by decide)) (hsg.kept B0) hne
  clear h B0 z0 hsg
  unfold zExE at hC HI
  go_enter Tryz.func42, Tryz.ntmps42
  go_wp2_with fail
  refine hC.mono ?_
  rintro _ v1 ⟨B, rfl, hB, hBl, hR, hg⟩
  have z1 := HI.out.b2.gb hg (by have := HI.out.hp; omega)
  have hBw : w.heap.size < B := Nat.lt_of_lt_of_le HI.out.b2.lt hBl
  have g1 := gb_trans HI.out.gb hg
  have hp := HI.out.hp
  clear hC hg hBl HI
  go_wp2_with (refine newS_ex rfl rfl rfl (.tmp 3) (.tmp 5) rfl rfl (by kernel_rfl) (bnE B f s) (by kernel_rfl) ?_; intro v2 k2 b2; refine StopH.go ?_)
  refine StopH.mk ?_
  have HG : Hid (G2 w v2 p ts L x y f s B v1.heap.size) := ⟨⟨hR.kept b2, gb_next g1 b2, hp, z1.kept b2, k2, z1.lt⟩, hB.kept b2, hBw⟩
  have hS := rSkip_no ⟨#[59]⟩ ts L x y p v2 HG.out.f2.r (hok _ (by decide))
  clear hR g1 z1 k2 b2 hB hBw
  generalize v1.heap.size = Z at *
  go_wp2_with fail
  refine hS.mono ?_
  rintro _ v3 ⟨rfl, hb⟩
  have HJ : Hid (G2 w v3 p ts L x y f s B Z) := HG.out.kept hb
  clear hS hb HG
  go_wp2_with (first | (refine wpList_load_ex rfl (.tmp 3) rfl Z 0 (by kernel_rfl) (bnE B f s) (C17.of_range HJ.out.f2.b3.range) ?_) | (refine wpList_store_blk rfl rfl 27 (.tmp 2) (.tmp 9) rfl w.heap.size (bnE B f s).vs (by kernel_rfl) (by kernel_rfl) (exS_one _) HJ.out.f2.b2 rfl (by kernel_rfl) ?_; intro v7 W7))
  exact bodyPost_ret (v := .agg (bnE B f s).va) (results_ex Tryz.results42 rfl (C17.of_range W7.blk.range)) rfl ⟨B, rfl, W7.keep HJ.out.pb (by have := HJ.out.hB; omega), Nat.le_of_lt HJ.out.hB, HJ.out.f2.done W7⟩
end Go.Proofs.YtcoeefckldkbeaaGreatDoor

/- Layer 6: the reader's program. -/
namespace Go.Proofs.YtcoeefckldkbeaaGreatDoor
open Go Go.RowKit

theorem setCells_mid (t : TypeId) : ∀ (vs old pre post : List Value) (w : World) (B : Nat), old.length = vs.length → Blk w B (pre ++ (old ++ post)) t → Blk (w.setCells B pre.length vs) B (pre ++ (vs ++ post)) t
  | [], old, pre, post, w, B, h, hb => by
    have e : old = [] := List.eq_nil_of_length_eq_zero h
    subst e; exact hb
  | v :: vs, [], pre, post, w, B, h, hb => by simp at h
  | v :: vs, p :: old, pre, post, w, B, h, hb => by
    rw [World.setCells]
    have h1 : Blk (w.setCell ⟨B, pre.length, none⟩ v) B ((pre ++ [v]) ++ (old ++ post)) t := by
      have := hb.set pre.length v
      rw [show (pre ++ (p :: old ++ post)).set pre.length v = (pre ++ [v]) ++ (old ++ post) by simp] at this
      exact this
    have k := setCells_mid t vs old (pre ++ [v]) post _ B (by simpa using h) h1
    rw [show (pre ++ [v]).length = pre.length + 1 by simp] at k
    simpa using k
theorem wrote_mid {w : World} {B : Nat} {t : TypeId} (vs old pre post : List Value) (hb : Blk w B (pre ++ (old ++ post)) t) (hl : old.length = vs.length) : WroteB w (w.setCells B pre.length vs) B (pre ++ (vs ++ post)) t :=
  ⟨setCells_mid t vs old pre post w B hl hb, fun _ hb => setCells_heap _ _ _ _ _ hb, setCells_size _ _ _ _, fun hB hb => below_setCells hB _ _ _ hb⟩
/-- A part of a variable stored. -/
theorem wpList_store_part {w : World} {ops : Array Oper} {rest : List Oper} {o : Oper} {a : Act} {Q : Exit → Act → World → Prop} (hgd : o.guard = none) (hdst : o.dst = none) (t ty : TypeId) (p x : Operand) (ho : o.op = .store t p x) (B k : Nat) (vs old pre post : List Value)
    (hp : a.eval p = .pointer (some ⟨B, k, none⟩)) (hx : a.eval x = .agg vs.toArray) (h1 : vs.all (·.oneCell') = true) (hb : Blk w B (pre ++ (old ++ post)) ty) (hk : pre.length = k) (hl : old.length = vs.length) (hi : (Tryz.prog.info? t).map (·.size) = some vs.toArray.size)
    (h : ∀ w', WroteB w w' B (pre ++ (vs ++ post)) ty → wpList Tryz.prog ops Q rest a w') : wpList Tryz.prog ops Q (o :: rest) a w := by
  subst hk
  refine wpList_store_mid hgd t p x ho B pre.length vs.toArray hp hx (fun j hj => ?_) hi (by simpa using h1) ?_
  · have hj' : j < vs.length := by simpa using hj
    refine ⟨?_, hb.frozen _⟩
    have : ∃ v, (pre ++ (old ++ post))[pre.length + j]? = some v := ⟨_, List.getElem?_eq_getElem (by simp; omega)⟩
    obtain ⟨v, hv⟩ := this
    rw [hb.cell (pre.length + j) hv]; rfl
  · rw [hdst]
    exact h _ (wrote_mid vs old pre post hb hl)
def P31 (la lb arg : Value) (par res : List Value) (exc : Value) (body : List Value) : List Value := [la, lb, arg] ++ (par ++ (res ++ (exc :: body)))
def zPr : List Value := P31 (.slice none 0 0) (.slice none 0 0) (.string ⟨#[]⟩) tyZ tyZ (.int .i64 0) zExE
theorem alloc_pr (w : World) : (Instr.alloc 37 true (.tuple #[])).run Tryz.prog w = .ok (.pointer (some ⟨w.heap.size, 0, none⟩)) (w.alloc (.cells zPr.toArray 37)) := by
  have hz : (Tryz.prog.info? 37).map (·.zero) = some (some (.agg zPr.toArray)) := by kernel_rfl
  cases hq : Tryz.prog.info? 37 with
  | none => rw [hq] at hz; simp at hz
  | some i =>
    rw [hq] at hz
    simp at hz
    simp [Instr.alloc, newVar, newRow, zeroValue, typeInfo, hq, hz, Value.cells]
theorem wpList_alloc_pr {ops : Array Oper} {rest : List Oper} {o : Oper} {a : Act} {w : World} {Q : Exit → Act → World → Prop} (hg : o.guard = none) (ho : o.op = .alloc 37)
    (h : ∀ w', Blk w' w.heap.size zPr 37 → Below w.heap.size w w' → wpList Tryz.prog ops Q rest (a.put o.dst (.pointer (some ⟨w.heap.size, 0, none⟩))) w') : wpList Tryz.prog ops Q (o :: rest) a w := by
  refine wpList_plain hg fun _ hK => ?_
  unfold Oper.wp execOp
  simp only [ho, Sem.run_bind, alloc_pr, Result.andThen_ok, Sem.run_pure]
  exact hK _ _ (h _ (Blk.new _ _ _) (below_alloc _ _))
theorem run_build_pr (la lb : Value) (a b : Option Addr) (m k c d : Nat) (ha : la = .slice a m c) (hb : lb = .slice b k d) (w : World) : (Instr.build 37 #[(0, .agg #[la, lb])]).run Tryz.prog w = .ok (.agg (P31 la lb (.string ⟨#[]⟩) tyZ tyZ (.int .i64 0) zExE).toArray) w := by
  subst ha hb
  kernel_rfl
/-- The words of a program of that head. -/
def wsP (ts : List Tq) : List Tq := wsB (W 2 [109, 97, 105, 110] 0 34 :: W 4 [40] 0 38 :: W 1 [120] 0 39 :: W 4 [58] 0 40 :: W 2 [105, 110, 116] 0 42 :: W 4 [64] 0 45 :: W 1 [104, 105, 103, 104] 0 46 :: W 4 [41] 0 50 :: W 4 [58] 0 51 :: W 2 [105, 110, 116] 0 53 :: W 4 [64] 0 56 :: W 1 [104, 105, 103, 104] 0 57 :: W 4 [33] 0 62 :: W 2 [110, 111, 110, 101] 0 64 :: W 4 [61] 0 69 :: ts)
def wX : Tq := W 1 [120] 0 71
def wA : Tq := W 4 [43] 0 73
def w1 : Tq := W 3 [49] 1 75
/-- Where program stands: its result, its variable. -/
structure Pg (w wr : World) (p : Nat) (ts : List Tq) (L : Int) (x y : Value) (c : List Value) (Z : Nat) : Prop where
  r : Rp wr p ts L x y
  gb : w.grownBy wr (some p)
  hp : p < w.heap.size
  b2 : Blk wr w.heap.size zPr 37
  b3 : Blk wr Z c 37
  lt : w.heap.size < Z
theorem Pg.kept {w wr w' : World} {p : Nat} {ts : List Tq} {L : Int} {x y : Value} {c : List Value} {Z : Nat} (h : Pg w wr p ts L x y c Z) (hb : Below wr.heap.size wr w') : Pg w w' p ts L x y c Z :=
  ⟨h.r.kept hb, gb_next h.gb hb, h.hp, h.b2.kept hb, h.b3.kept hb, h.lt⟩
theorem Pg.move {w wr w' : World} {p : Nat} {ts us : List Tq} {L : Int} {x y : Value} {c : List Value} {Z : Nat} (h : Pg w wr p ts L x y c Z) (hr : Rp w' p us L x y) (hg : wr.grownBy w' (some p)) : Pg w w' p us L x y c Z :=
  ⟨hr, gb_trans h.gb hg, h.hp, h.b2.gb hg (by have := h.hp; omega), h.b3.gb hg (by have := h.hp; have := h.lt; omega), h.lt⟩
theorem Pg.wrote {w wr w' : World} {p : Nat} {ts : List Tq} {L : Int} {x y : Value} {c d : List Value} {Z : Nat} (h : Pg w wr p ts L x y c Z) (k : WroteB wr w' Z d 37) : Pg w w' p ts L x y d Z := by
  have bw : Below w.heap.size wr w' := k.below (Nat.le_of_lt h.lt) (Below.refl _ _)
  exact ⟨h.r.below h.hp bw, gb_below h.gb bw, h.hp, k.keep h.b2 (by have := h.lt; omega), k.blk, h.lt⟩
theorem Pg.set {w wr : World} {p : Nat} {ts : List Tq} {L : Int} {x y : Value} {c : List Value} {Z : Nat} (h : Pg w wr p ts L x y c Z) (i : Nat) (v : Value) : Pg w (wr.setCell ⟨Z, i, none⟩ v) p ts L x y (c.set i v) Z := by
  have hb : Below w.heap.size wr (wr.setCell ⟨Z, i, none⟩ v) := (Below.refl _ _).setCell (show w.heap.size ≤ Z from Nat.le_of_lt h.lt) _
  refine ⟨h.r.below h.hp hb, gb_below h.gb hb, h.hp, ?_, h.b3.set i v, h.lt⟩
  unfold Blk
  rw [Below.heap_setCell _ _ _ _ (Nat.ne_of_lt h.lt)]
  exact h.b2
/-- The reader's lattice is set. -/
theorem Rp.setLat {w : World} {p : Nat} {ts : List Tq} {L : Int} {x y : Value} (h : Rp w p ts L x y) (u v : Value) : Rp ((w.setCell ⟨p, 2, none⟩ u).setCell ⟨p, 3, none⟩ v) p ts L u v := by
  obtain ⟨ao, b, o, c, h1, h2, h3, h4, h5, h6⟩ := h
  refine ⟨ao, b, o, c, (h1.set 2 u).set 3 v, h2, h3, h4, h5, fun i t ht => ?_⟩
  have hp : 0 < ts.length := by
    rcases Nat.lt_or_ge i ts.length with q | q
    · omega
    · rw [List.getElem?_eq_none q] at ht; cases ht
  have hne : b ≠ p := by have := (h2 hp).2; omega
  exact (h6 i t ht).block (by rw [Below.heap_setCell _ _ _ _ hne, Below.heap_setCell _ _ _ _ hne])
end Go.Proofs.YtcoeefckldkbeaaGreatDoor
