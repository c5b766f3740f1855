/- The statement IrSlots walked. -/
import Derived.Test.YtbdhbgilaeldgaaP33
import Derived.Test.YtbdhbgilaeldgaaP1
import Derived.ProofKit
import Derived.Deep.Grids
import Derived.Lib.SmallJoins
import Derived.Test.YtbdhbgilaeldgaaP7
namespace Go.Proofs.Ytbdhbgilaeldgaa
open Go Go.RowKit

/-- The variables of the lattice and of the type, and what is handed in. -/
structure Is2 (w : World) (n : Strs) (g : Grid) (l : Fl) (t : Ty) (u : World) : Prop where
  bl : Below w.heap.size w u
  L : Blk u w.heap.size [.slice n.ao n.len n.cap, .slice g.ao g.len g.cap] 25
  T : Blk u (w.heap.size + 1) t.vs 39
  hn : n.At u
  hg : g.At u
  hl : l.At u
  ht : t.At u
theorem Is2.kept {w : World} {n : Strs} {g : Grid} {l : Fl} {t : Ty} {u u' : World} (h : Is2 w n g l t u) (hb : Below u.heap.size u u') : Is2 w n g l t u' := ⟨Below.next h.bl hb, h.L.kept hb, h.T.kept hb, h.hn.kept hb, h.hg.kept hb, h.hl.kept hb, h.ht.kept hb⟩
theorem is2_new {w : World} {n : Strs} {g : Grid} {l : Fl} {t : Ty} (hn : n.At w) (hg : g.At w) (hl : l.At w) (ht : t.At w) : Is2 w n g l t ((w.alloc (.cells #[.slice n.ao n.len n.cap, .slice g.ao g.len g.cap] 25)).alloc (.cells t.vs.toArray 39)) := by
  have H := allocs_heap [.cells #[.slice n.ao n.len n.cap, .slice g.ao g.len g.cap] 25, .cells t.vs.toArray 39] w
  have b := allocs_below [.cells #[.slice n.ao n.len n.cap, .slice g.ao g.len g.cap] 25, .cells t.vs.toArray 39] w
  simp only [List.foldl] at H b
  exact ⟨b, H 0 (by simp), H 1 (by simp), hn.kept b, hg.kept b, hl.kept b, ht.kept b⟩
/-- A function's variable while its slots are made anew. -/
def fsV (f : Fc) (v : Value) : List Value := f.vs.set 13 v
theorem fsV_set (f : Fc) (v v' : Value) : (fsV f v).set 13 v' = fsV f v' := rfl
theorem fsV_fc (f : Fc) (s : Ty) : fsV f (.slice s.ao s.len s.cap) = ({ f with slots := s } : Fc).vs := rfl
theorem fsV_self (f : Fc) : fsV f (.slice f.slots.ao f.slots.len f.slots.cap) = f.vs := rfl
theorem mo_of {t : Ty} {f : Fc} {s : Ty} (hl : s.len = f.slots.len + 1) (hp : s.ps = fun i => if i < f.slots.len then f.slots.ps i else t) : Mo t f { f with slots := s } :=
  ⟨rfl, rfl, rfl, rfl, rfl, rfl, rfl, hl, fun i hi => by show s.ps i = _; rw [hp]; exact if_pos hi, by show s.ps _ = _; rw [hp]; exact if_neg (Nat.lt_irrefl _)⟩
theorem rowT_more (s t : Ty) : rowT s ++ t.vs = flatN (fun i => (if i < s.len then s.ps i else t).vs) (s.len + 1) := by
  have h1 := flatN_app (fun i => (s.ps i).vs) (fun _ => t.vs) s.len 1
  have h2 : (fun i => (if i < s.len then s.ps i else t).vs) = fun i => if i < s.len then (s.ps i).vs else t.vs := by
    funext i
    split <;> rfl
  rw [h2, h1]
  rfl
set_option maxRecDepth 100000 in
set_option maxHeartbeats 32000000 in
theorem irSlots_any (n : Strs) (g : Grid) (l : Fl) (t : Ty) (w : World) (hn : n.At w) (hg : g.At w) (hl : l.At w) (ht : t.At w) (f1 : ∀ i, i < l.len → ((l.ps i).slots.ao = none → (l.ps i).slots.len = 0 ∧ (l.ps i).slots.cap = 0)) :
    Calls Try.prog 6 #[.agg #[.slice n.ao n.len n.cap, .slice g.ao g.len g.cap], .slice l.ao l.len l.cap, .agg t.vs.toArray] w fun e w' => e = .returned (.bool true) ∧ Below w.heap.size w w' := by
  have HI := hid (is2_new hn hg hl ht)
  have HF := hid f1
  have HW := hid (show l.At w ∧ t.At w from ⟨hl, ht⟩)
  have hnil : 0 < l.len → l.ao = some ⟨l.b, l.o, none⟩ := hl.nil
  have hbd : l.len ≤ 9223372036854775807 := hl.bound
  clear hn hg hl ht f1
  go_enter Try.func6, Try.ntmps6
  go_upto_region 1 with fail
  generalize ((w.alloc (.cells #[.slice n.ao n.len n.cap, .slice g.ao g.len g.cap] 25)).alloc (.cells t.vs.toArray 39)) = w1 at *
  go_cut [38] (fun c wx => ∃ r : Bool, c = .bool r ∧ Hid (r = false → (l.len ≤ 70 ∧ ∀ i, i < l.len → (l.ps i).caps.len ≤ 30) ∧ okB n g t = true ∧ shdB n g l = true) ∧ Hid (Is2 w n g l t wx))
  case first =>
    go_wp2_with fail
    refine Calls.mono (awake10_any w1) ?_
    rintro _ w2 ⟨rfl, hb2⟩
    have HI2 := hid (HI.out.kept hb2)
    clear hb2 HI
    have e0 := HI2.out.L.cell 0 rfl
    have e1 := HI2.out.L.cell 1 rfl
    go_wp2_with fail
    refine Calls.mono (few_any10 n g l w2 HI2.out.hn HI2.out.hg HI2.out.hl) ?_
    rintro _ w3 ⟨r1, rfl, hr1, hb3⟩
    have HI3 := hid (HI2.out.kept hb3)
    have HR1 := hid hr1
    clear hb3 HI2 hr1 e0 e1
    cases r1
    · go_wp2
      go_meet
      case rel => exact ⟨_, rfl, (fun h => by cases h), HI3.out⟩
    have HC := hid (HR1.out rfl)
    clear HR1
    have bT := HI3.out.T
    go_wp2_with (refine wpList_load_W (by kernel_rfl) 39 (.tmp 5) rfl (w.heap.size + 1) 0 (by kernel_rfl) t.vs _ bT.range Try.underlying39 rfl (by kernel_rfl) ?_)
    refine Calls.mono (small2_ret t w3 HI3.out.ht) ?_
    rintro _ w4 ⟨r2, rfl, hb4⟩
    have HI4 := hid (HI3.out.kept hb4)
    clear hb4 HI3 bT
    cases r2
    · go_wp2
      go_meet
      case rel => exact ⟨_, rfl, (fun h => by cases h), HI4.out⟩
    have e0 := HI4.out.L.cell 0 rfl
    have e1 := HI4.out.L.cell 1 rfl
    have bT := HI4.out.T
    have hO : Calls Try.prog 18 #[.agg #[.slice n.ao n.len n.cap, .slice g.ao g.len g.cap], .agg t.vs.toArray] w4 (fun e w' => e = .returned (.bool (okB n g t)) ∧ Below w4.heap.size w4 w') := Formed2_any n g t w4 HI4.out.hn HI4.out.hg HI4.out.ht
    go_wp2_with (refine wpList_load_W (by kernel_rfl) 39 (.tmp 5) rfl (w.heap.size + 1) 0 (by kernel_rfl) t.vs _ bT.range Try.underlying39 rfl (by kernel_rfl) ?_)
    refine Calls.mono hO ?_
    rintro _ w5 ⟨rfl, hb5⟩
    have HI5 := hid (HI4.out.kept hb5)
    clear hb5 HI4 bT e0 e1 hO
    generalize hok : okB n g t = r3 at *
    have HOK := hid hok
    clear hok
    cases r3
    · go_wp2
      go_meet
      case rel => exact ⟨_, rfl, (fun h => by cases h), HI5.out⟩
    have e0 := HI5.out.L.cell 0 rfl
    have e1 := HI5.out.L.cell 1 rfl
    go_wp2_with fail
    refine Calls.mono (Shaped_any n g l w5 HI5.out.hn HI5.out.hg HI5.out.hl (fun i hi => by have := HC.out.2 i hi; omega)) ?_
    rintro _ w6 ⟨rfl, hb6⟩
    have HI6 := hid (HI5.out.kept hb6)
    clear hb6 HI5 e0 e1
    generalize hsh : shdB n g l = r4 at *
    have HSH := hid hsh
    clear hsh
    cases r4
    · go_wp2
      go_meet
      case rel => exact ⟨_, rfl, (fun h => by cases h), HI6.out⟩
    · go_wp2
      go_meet
      case rel => exact ⟨_, rfl, (fun _ => ⟨HC.out, (by first | exact trivial | exact HOK.out | rfl), (by first | exact trivial | exact HSH.out | rfl)⟩), HI6.out⟩
  case rest =>
    obtain ⟨r, rfl, hr, hI⟩ := hcut
    clear HI
    have HI := hid hI.out
    clear hI
    cases r
    · have HC := hid (hr.out rfl)
      clear hr
      generalize hlen : l.len = len at *
      have HL : Hid (l.len = len) := hlen
      clear hlen
      generalize hao : l.ao = ao at *
      have HAO : Hid (l.ao = ao) := hao
      clear hao
      generalize hcap : l.cap = cap at *
      have HCP : Hid (l.cap = cap) := hcap
      clear hcap
      go_wp2
      go_loopw [7, 8] (fun sv i wr => ∃ (k : Nat) (F : Nat → Fc), k ≤ len ∧ i = .int .i64 k ∧ (∀ i, i < k → (l.ps i).slots.len < 250) ∧ Sl wc l t k sv F wr) (fun _ i _ => len - (intOf i).toNat)
      case atStart => exact ⟨0, fun _ => ⟨.dm, .dm, .dm, 0, 0, .dm, Ns.nl, 0⟩, Nat.zero_le _, rfl, fun i hi => absurd hi (Nat.not_lt_zero _), ⟨Below.refl _ _, World.ownsRow_nil _ _ _ _, fun i hi => absurd hi (Nat.not_lt_zero _), fun i hi => absurd hi (Nat.not_lt_zero _), fun i hi => absurd hi (Nat.not_lt_zero _), fun i hi => absurd hi (Nat.not_lt_zero _)⟩⟩
      case round =>
        obtain ⟨k, F, hk, rfl, hlt250, hS⟩ := hrel
        have HS := hid hS
        have H250 := hid hlt250
        clear hS hlt250
        by_cases hlt : k < len
        · have ij : (k : Int) < len := by omega
          have a0 := hnil (by omega)
          subst a0
          have hlt' : k < l.len := by rw [HL.out]; exact hlt
          have rN : wr.rangeAt l.b (l.o + k * 16) (l.ps k).vs := ((HI.out.hl.kept HS.out.bl).cells k hlt')
          have HP := hid (show (l.ps k).At w ∧ ((l.ps k).slots.ao = none → (l.ps k).slots.len = 0 ∧ (l.ps k).slots.cap = 0) from ⟨HW.out.1.part k hlt', HF.out k hlt⟩)
          have HK1 : Hid ((l.ps k).slots.len < 250 → ∀ i, i < k + 1 → (l.ps i).slots.len < 250) := by
            intro h i hi
            rcases Nat.lt_or_ge i k with h2 | h2
            · exact H250.out i h2
            · have : i = k := by omega
              subst this; exact h
          clear hlt' H250
          generalize hf : l.ps k = f at *
          have HFE := hid hf
          clear hf
          have hN := below_alloc wr (.cells f.vs.toArray 43)
          have HB := hid (show Below wr.heap.size wr (wr.alloc (.cells f.vs.toArray 43)) ∧ Blk (wr.alloc (.cells f.vs.toArray 43)) wr.heap.size f.vs 43 ∧ (wr.alloc (.cells f.vs.toArray 43)).heap.size = wr.heap.size + 1 from ⟨hN, Blk.new wr _ _, alloc_size _ _⟩)
          clear hN
          go_upto_region 8 with (first | (refine wpList_load_mid rfl 43 (.tmp 48) rfl l.b (l.o + k * 16) (by kernel_rfl) f.vs _ rN Try.underlying43 rfl (by kernel_rfl) ?_) | (refine wpList_new_mid rfl rfl 43 rfl (.tmp 9) (.tmp 49) rfl zFv (alloc_fn _) rfl f.vs.toArray (by kernel_rfl) (by kernel_rfl) rfl (by kernel_rfl) (by simpa using f.va_one) ?_))
          generalize (wr.alloc (.cells f.vs.toArray 43)) = w2 at *
          have x13 := HB.out.2.1.cell 13 (v := .slice f.slots.ao f.slots.len f.slots.cap) rfl
          by_cases h250 : 250 ≤ f.slots.len
          · have d1 : decide ((250 : Int) ≤ f.slots.len) = true := by simp; omega
            clear h250
            go_wp2
            go_ret
            exact ⟨rfl, Below.next (Below.next HI.out.bl HS.out.bl) HB.out.1⟩
          have d1 : decide ((250 : Int) ≤ f.slots.len) = false := by simp; omega
          have HLT : Hid (f.slots.len < 250) := by show _ < _; omega
          clear h250
          have g13 := HB.out.2.1.frozen 13
          have W3 := wrote_setCell (i := 13) HB.out.2.1 (.slice none 0 0)
          have HB3 := hid (show Below wr.heap.size wr (w2.setCell ⟨wr.heap.size, 13, none⟩ (.slice none 0 0)) ∧ Blk (w2.setCell ⟨wr.heap.size, 13, none⟩ (.slice none 0 0)) wr.heap.size (fsV f (.slice none 0 0)) 43 ∧ (w2.setCell ⟨wr.heap.size, 13, none⟩ (.slice none 0 0)).heap.size = wr.heap.size + 1 from ⟨W3.below (Nat.le_refl _) HB.out.1, W3.blk, by rw [W3.size]; exact HB.out.2.2⟩)
          clear W3
          go_upto_region 11 with fail
          clear x13 g13 d1 HB
          generalize (w2.setCell ⟨wr.heap.size, 13, none⟩ (.slice none 0 0)) = w3 at *
          have p13 : ∀ x : Gr w3, x.w.cell? ⟨wr.heap.size, 13, none⟩ = some (.slice none 0 0) := fun x => (HB3.out.2.1.kept x.bl).cell 13 rfl
          have q13 : ∀ x : Gr w3, x.w.cell? ⟨l.b, l.o + k * 16 + 13, none⟩ = some (.slice f.slots.ao f.slots.len f.slots.cap) := fun x => rangeAt_kept rN (Below.next HB3.out.1 x.bl) 13 _ rfl
          have hNE : Nonempty (Gr w3) := ⟨⟨_, Below.refl _ _⟩⟩
          refine wp_region_gr_tail 7 (by kernel_rfl) (by kernel_rfl) ?_
          simp only [List.take, List.drop]
          iterate 7 go_big_quiet_step (fail)
          refine wpQuiet_nil ?_
          rintro w4 ⟨x4, rfl⟩
          have B4 := x4.bl
          generalize x4.w = w4 at B4 ⊢
          have HB4 := hid (show Below wr.heap.size wr w4 ∧ Blk w4 wr.heap.size (fsV f (.slice none 0 0)) 43 ∧ wr.heap.size + 1 ≤ w4.heap.size ∧ f.slots.At w4 from ⟨Below.next HB3.out.1 B4, HB3.out.2.1.kept B4, by have h1 := HB3.out.2.2; have h2 := B4.size; omega, HP.out.1.slots.kept (Below.next (Below.next (Below.next HI.out.bl HS.out.bl) HB3.out.1) B4)⟩)
          clear x4 p13 q13 hNE B4 HB3 rN
          have hE := World.ownsRow_nil w4 (wr.heap.size + 1) 39 5
          go_upto_region 12 with ((at_builtin; refine wpList_append_any Try.underlying37 Try.infoTyI rfl (by decide) rfl _ _ rfl (wr.heap.size + 1) (.slice none 0 0) 0 [] rfl hE f.slots.ao f.slots.len f.slots.cap (rowT f.slots) rfl HP.out.2 (rowT_len f.slots) (rowT_cell HB4.out.2.2.2) (rowT_one f.slots) (by have := HLT.out; unfold maxLen; omega) (by have := HLT.out; omega) HB4.out.2.2.1 ?_; intro v5 w5 h5 g5; have HO5 : Hid (w5.ownsRow (wr.heap.size + 1) 39 5 v5 f.slots.len (rowT f.slots) ∧ Below wr.heap.size wr w5 ∧ Blk w5 wr.heap.size (fsV f (.slice none 0 0)) 43) := ⟨by rw [Nat.zero_add] at h5; exact h5, gb_bel HB4.out.1 g5 (fun k hk => by cases hk), gb_blk HB4.out.2.1 g5 (by simp [Value.ownBlock])⟩; obtain ⟨a5, c5, hv5⟩ := owform HO5.out.1; subst hv5; clear h5 g5; have x13 := HO5.out.2.2.cell 13 (v := .slice none 0 0) rfl; have g13 := HO5.out.2.2.frozen 13))
          have W6 := wrote_setCell (i := 13) HO5.out.2.2 (.slice a5 f.slots.len c5)
          have HB6 := hid (show (w5.setCell ⟨wr.heap.size, 13, none⟩ (.slice a5 f.slots.len c5)).ownsRow (wr.heap.size + 1) 39 5 (.slice a5 f.slots.len c5) f.slots.len (rowT f.slots) ∧ Below wr.heap.size wr (w5.setCell ⟨wr.heap.size, 13, none⟩ (.slice a5 f.slots.len c5)) ∧ Blk (w5.setCell ⟨wr.heap.size, 13, none⟩ (.slice a5 f.slots.len c5)) wr.heap.size (fsV f (.slice a5 f.slots.len c5)) 43 ∧ wr.heap.size + 1 ≤ (w5.setCell ⟨wr.heap.size, 13, none⟩ (.slice a5 f.slots.len c5)).heap.size from ⟨own_wrote HO5.out.1 W6 (by omega), W6.below (Nat.le_refl _) HO5.out.2.1, W6.blk, by rw [W6.size]; have := HO5.out.2.2.lt; omega⟩)
          clear W6 x13 g13 hE HB4 HO5
          generalize (w5.setCell ⟨wr.heap.size, 13, none⟩ (.slice a5 f.slots.len c5)) = w6 at *
          have x13 := HB6.out.2.2.1.cell 13 (v := .slice a5 f.slots.len c5) rfl
          have bT := (HI.out.kept HS.out.bl).T.kept HB6.out.2.1
          have hsl := run_slice1_ty t w6
          have hb7 := below_alloc w6 (.cells t.vs.toArray 39)
          have HB7 := hid (show (w6.alloc (.cells t.vs.toArray 39)).ownsRow (wr.heap.size + 1) 39 5 (.slice a5 f.slots.len c5) f.slots.len (rowT f.slots) ∧ Below wr.heap.size wr (w6.alloc (.cells t.vs.toArray 39)) ∧ Blk (w6.alloc (.cells t.vs.toArray 39)) wr.heap.size (fsV f (.slice a5 f.slots.len c5)) 43 ∧ wr.heap.size + 1 ≤ (w6.alloc (.cells t.vs.toArray 39)).heap.size ∧ Blk (w6.alloc (.cells t.vs.toArray 39)) w6.heap.size t.vs 39 from ⟨owk HB6.out.1 hb7, Below.next HB6.out.2.1 hb7, HB6.out.2.2.1.kept hb7, Nat.le_trans HB6.out.2.2.2 hb7.size, Blk.new w6 _ _⟩)
          have hO7 := HB7.out.1
          have hnew : ∀ a, some (⟨w6.heap.size, 0, none⟩ : Addr) = some a → ∀ j u, t.vs[j]? = some u → (w6.alloc (.cells t.vs.toArray 39)).cell? (a.add j) = some u := fun a ha j u hu => by
            injection ha with ha
            rw [← ha, adp, Nat.zero_add]
            exact HB7.out.2.2.2.2.cell j hu
          clear hb7 HB6
          go_upto_region 13 with (first | (refine wpList_load_mid rfl 39 (.tmp 5) rfl (w.heap.size + 1) 0 (by kernel_rfl) t.vs _ bT.range Try.underlying39 rfl (by kernel_rfl) ?_) | (refine wpList_slice rfl 37 1 #[(0, .tmp 66)] rfl #[(0, .agg t.vs.toArray)] (by kernel_rfl) hsl ?_) | (at_builtin; refine wpList_append_any Try.underlying37 Try.infoTyI rfl (by decide) rfl _ _ rfl (wr.heap.size + 1) _ f.slots.len (rowT f.slots) rfl hO7 (some ⟨w6.heap.size, 0, none⟩) 1 1 t.vs rfl (fun h => by cases h) rfl hnew (fun u hu => List.all_eq_true.1 t.vs_one u hu) (by have := HLT.out; unfold maxLen; omega) (by have := HLT.out; omega) HB7.out.2.2.2.1 ?_; intro v8 w8 h8 g8; have HO8 : Hid (w8.ownsRow (wr.heap.size + 1) 39 5 v8 (f.slots.len + 1) (rowT f.slots ++ t.vs) ∧ Below wr.heap.size wr w8 ∧ Blk w8 wr.heap.size (fsV f (.slice a5 f.slots.len c5)) 43) := ⟨h8, gb_bel HB7.out.2.1 g8 (fun k hk => by have := (owb HB7.out.1 hk).1; omega), gb_blk HB7.out.2.2.1 g8 (fun e => by have := (owb HB7.out.1 e.symm).1; omega)⟩; obtain ⟨a8, c8, hv8⟩ := owform HO8.out.1; subst hv8; clear h8 g8 x13; have x13 := HO8.out.2.2.cell 13 (v := .slice a5 f.slots.len c5) rfl; have g13 := HO8.out.2.2.frozen 13))
          have W9 := wrote_setCell (i := 13) HO8.out.2.2 (.slice a8 (f.slots.len + 1) c8)
          have HB9 := hid (show (w8.setCell ⟨wr.heap.size, 13, none⟩ (.slice a8 (f.slots.len + 1) c8)).ownsRow (wr.heap.size + 1) 39 5 (.slice a8 (f.slots.len + 1) c8) (f.slots.len + 1) (rowT f.slots ++ t.vs) ∧ Below wr.heap.size wr (w8.setCell ⟨wr.heap.size, 13, none⟩ (.slice a8 (f.slots.len + 1) c8)) ∧ Blk (w8.setCell ⟨wr.heap.size, 13, none⟩ (.slice a8 (f.slots.len + 1) c8)) wr.heap.size (fsV f (.slice a8 (f.slots.len + 1) c8)) 43 from ⟨own_wrote HO8.out.1 W9 (by omega), W9.below (Nat.le_refl _) HO8.out.2.1, W9.blk⟩)
          clear W9 x13 g13 bT hsl hO7 hnew HB7 HO8
          generalize (w8.setCell ⟨wr.heap.size, 13, none⟩ (.slice a8 (f.slots.len + 1) c8)) = w9 at *
          have HBW := hid (Below.next (Below.next HI.out.bl HS.out.bl) HB9.out.2.1)
          have HT : Hid (∃ S : Ty, (.slice a8 (f.slots.len + 1) c8 : Value) = .slice S.ao S.len S.cap ∧ S.At w9 ∧ S.len = f.slots.len + 1 ∧ S.ps = (fun i => if i < f.slots.len then f.slots.ps i else t) ∧ S.len ≤ S.cap ∧ S.Blk (QT wc.heap.size w9)) := by
            refine Ty.of_own (base := wr.heap.size + 1) ?_ (by have := HLT.out; omega) (fun i hi => ?_) (fun i hi => ?_)
            · rw [← rowT_more]; exact HB9.out.1
            · show (if i < f.slots.len then f.slots.ps i else t).At w9
              split
              · exact (HP.out.1.slots.part (by assumption)).kept HBW.out
              · exact HW.out.2.kept HBW.out
            · show (if i < f.slots.len then f.slots.ps i else t).Blk _
              have hsz := HI.out.bl.size
              split
              · exact (HP.out.1.slots.part (by assumption)).lt.mono fun b hb => by omega
              · exact HW.out.2.lt.mono fun b hb => by omega
          obtain ⟨S, hS1, hSA, hSl, hSp, hSc, hSK⟩ := HT.out
          clear HT
          have HSS := hid (show S.At w9 ∧ S.len ≤ S.cap ∧ S.Blk (QT wc.heap.size w9) ∧ Mo t f { f with slots := S } from ⟨hSA, hSc, hSK, mo_of hSl hSp⟩)
          have hB9 := HB9.out.2.2
          rw [hS1, fsV_fc] at hB9
          have HB10 := hid (show Below wr.heap.size wr w9 ∧ Blk w9 wr.heap.size ({ f with slots := S } : Fc).vs 43 from ⟨HB9.out.2.1, hB9⟩)
          clear hSA hSc hSK hB9 HB9 HBW hSl hSp
          generalize hf2 : ({ f with slots := S } : Fc) = f2 at *
          have HF2 : Hid (f2.slots = S) := by show _ = _; rw [← hf2]
          clear hf2 hS1
          obtain ⟨as7, cs7, hsv⟩ := owform HS.out.row
          subst hsv
          have bF := HB10.out.2
          have hsl := run_slice1_fn f2 w9
          have hb11 := below_alloc w9 (.cells f2.vs.toArray 43)
          have HB11 := hid (show Below wr.heap.size wr (w9.alloc (.cells f2.vs.toArray 43)) ∧ Blk (w9.alloc (.cells f2.vs.toArray 43)) w9.heap.size f2.vs 43 ∧ Sl wc l t k (.slice as7 k cs7) F (w9.alloc (.cells f2.vs.toArray 43)) from ⟨Below.next HB10.out.1 hb11, Blk.new w9 _ _, HS.out.kept (Below.next HB10.out.1 hb11)⟩)
          have HSS2 := hid (show f2.slots.At (w9.alloc (.cells f2.vs.toArray 43)) ∧ f2.slots.len ≤ f2.slots.cap ∧ f2.slots.Blk (QT wc.heap.size (w9.alloc (.cells f2.vs.toArray 43))) ∧ Mo t f f2 from by
            rw [HF2.out]
            exact ⟨HSS.out.1.kept hb11, HSS.out.2.1, HSS.out.2.2.1.mono fun b hb => hb.kept hb11 (Nat.le_trans HS.out.bl.size HB10.out.1.size), HSS.out.2.2.2⟩)
          have hO11 := HB11.out.2.2.row
          have hnew : ∀ a, some (⟨w9.heap.size, 0, none⟩ : Addr) = some a → ∀ j u, f2.vs[j]? = some u → (w9.alloc (.cells f2.vs.toArray 43)).cell? (a.add j) = some u := fun a ha j u hu => by
            injection ha with ha
            rw [← ha, adp, Nat.zero_add]
            exact HB11.out.2.1.cell j hu
          have HKL : Hid (k ≤ 70) := by have := HC.out.1.1; show _ ≤ _; omega
          clear hb11
          go_wp2_with (first | (refine wpList_load_mid rfl 43 (.tmp 9) rfl wr.heap.size 0 (by kernel_rfl) f2.vs _ bF.range Try.underlying43 rfl (by kernel_rfl) ?_) | (refine wpList_slice rfl 26 1 #[(0, .tmp 71)] rfl #[(0, .agg f2.vs.toArray)] (by kernel_rfl) hsl ?_) | (at_builtin; refine wpList_append_any Try.underlying26 Try.infoIrFn rfl (by decide) rfl _ _ rfl wc.heap.size _ k (flatN (fun i => (F i).vs) k) rfl hO11 (some ⟨w9.heap.size, 0, none⟩) 1 1 f2.vs rfl (fun h => by cases h) rfl hnew (fvs_cell f2) (by have := HKL.out; unfold maxLen; omega) (by have := HKL.out; omega) (Nat.le_trans HS.out.bl.size HB11.out.1.size) ?_; intro v12 w12 h12 g12; have HN := hid (HB11.out.2.2.more f2 (by rw [HFE.out]; exact HSS2.out.2.2.2) HSS2.out.1 HSS2.out.2.2.1 HSS2.out.2.1 g12 h12); obtain ⟨a12, c12, hv12⟩ := owform HN.out.row; subst hv12; clear h12 g12))
          go_roundw
          case rel => exact ⟨k + 1, _, by omega, by go_num, HK1.out HLT.out, HN.out⟩
          case measure => simp [intOf]; omega
        · have e2 : k = len := by omega
          subst e2
          have d : ¬ (k : Int) < k := by omega
          have HIr := hid (HI.out.kept HS.out.bl)
          obtain ⟨as7, cs7, hsv⟩ := owform HS.out.row
          subst hsv
          have HA : Hid (∃ s : Fl, (.slice as7 k cs7 : Value) = .slice s.ao s.len s.cap ∧ s.At wr ∧ s.len = k ∧ s.ps = F) := by
            refine Fl.of_own HS.out.row (by have := HC.out.1.1; omega) (fun i hi => ?_)
            have hm := HS.out.mo i hi
            have hp := HIr.out.hl.part i (by rw [HL.out]; exact hi)
            exact ⟨by rw [hm.param]; exact hp.param, by rw [hm.result]; exact hp.result, by rw [hm.caps]; exact hp.caps, HS.out.at_ i hi, by rw [hm.body]; exact hp.body, HS.out.lc i hi⟩
          obtain ⟨L, hL1, hLA, hLl, hLp⟩ := HA.out
          clear HA
          have HLL := hid (show L.At wr ∧ L.len = k ∧ L.ps = F from ⟨hLA, hLl, hLp⟩)
          rw [hL1]
          clear hLA hLl hLp hL1
          have e0 := HIr.out.L.cell 0 rfl
          have e1 := HIr.out.L.cell 1 rfl
          have hCk := Check_full n g l wr HIr.out.hn HIr.out.hg HIr.out.hl (fun i hi => by have := HC.out.1.2 i (by rw [HL.out] at hi; exact hi); omega)
          rw [HAO.out, HL.out, HCP.out] at hCk
          go_wp2_with fail
          refine Calls.mono hCk ?_
          rintro _ w7 ⟨ka, ea, rfl, hck, hb7⟩
          have HI7 := hid (HIr.out.kept hb7)
          have HL7 := hid (HLL.out.1.kept hb7)
          have HK := hid hck
          clear e0 e1 hb7 hck hCk
          have e0 := HI7.out.L.cell 0 rfl
          have e1 := HI7.out.L.cell 1 rfl
          go_wp2_with fail
          refine Calls.mono (Check_full n g L w7 HI7.out.hn HI7.out.hg HL7.out (fun i hi => by
            rw [HLL.out.2.2, (HS.out.mo i (by rw [HLL.out.2.1] at hi; exact hi)).caps]
            have := HC.out.1.2 i (by rw [HLL.out.2.1] at hi; exact hi); omega)) ?_
          rintro _ w8 ⟨kb, eb, rfl, hck', hb8⟩
          have HI8 := hid (HI7.out.kept hb8)
          have HM := slots_math (t := t) (by rw [HLL.out.2.1, HL.out]) (fun i hi => by rw [HLL.out.2.2]; exact HS.out.mo i (by rw [HL.out] at hi; exact hi)) HC.out.2.2 HC.out.2.1 (fun i hi => H250.out i (by rw [HL.out] at hi; exact hi)) HK.out hck'
          obtain ⟨h1, h2⟩ := HM
          subst h1 h2
          clear e0 e1 hb8 hck' HK HL7 HI7
          have x1 : (ka == ka) = true := by simp
          have x2 : (ea == ea) = true := by simp
          go_wp2
          go_ret
          exact ⟨rfl, HI8.out.bl⟩
    · clear hr
      go_wp2_with fail
      refine Calls.mono (awake10_any wc) ?_
      rintro _ w2 ⟨rfl, hb2⟩
      have HI2 := hid (HI.out.kept hb2)
      clear hb2 HI
      go_wp2
      go_ret
      exact ⟨rfl, HI2.out.bl⟩
end Go.Proofs.Ytbdhbgilaeldgaa

/- A lattice that comes in, opened into its names and its table. -/
namespace Go.Proofs.Ytbdhbgilaeldgaa
open Go.ChangeShapes Go.WideShapes Go.ChangeAt Go.RowKit Go.Deep Go.Joins

theorem Try.own : ownKnob Try.prog.godebug = none := by kernel_rfl
theorem Try.laidOut : laidOutB Try.prog = true := by kernel_rfl
theorem Try.cellsString : Try.prog.cellsOf 9 = 1 := by kernel_rfl
theorem Try.cellsBool : Try.prog.cellsOf 4 = 1 := by kernel_rfl
theorem Try.cellsRow : Try.prog.cellsOf 58 = 1 := by kernel_rfl
theorem Try.cellsLat : Try.prog.cellsOf 25 = 2 := by kernel_rfl
theorem addr_plain (b off i : Nat) : (⟨b, off, none⟩ : Addr).add i = ⟨b, off + i, none⟩ := by unfold Addr.add; split <;> simp_all

section
variable {H : Type} {enc : TypeId × Value → H} {W : World} {base : Nat}

set_option maxRecDepth 100000 in
theorem open_strs {fuel : Nat} {v : Value} {x : DataW H × List MemPlace} (h : DataW.trod enc Try.prog W base (fun _ => true) true fuel 22 [v] = some x) :
    ∃ n : Strs, v = .slice n.ao n.len n.cap ∧ n.At W := by
  rcases open_strings Try.underlying22 Try.underlying9 Try.cellsString h with ⟨hcs, _⟩ | ⟨a, len, cap, ss, hcs, _, hl, hm, hz, _, hcell, hws⟩
  · exact ⟨⟨none, 0, 0, 0, 0, fun _ => ByteArray.empty⟩, by simpa using hcs, ⟨Nat.le_refl _, fun h => absurd h (Nat.lt_irrefl _), Nat.zero_le _, fun _ h => absurd h (Nat.not_lt_zero _), fun _ h => absurd h (Nat.not_lt_zero _)⟩⟩
  · have hv : v = .slice (some a) len cap := by simpa using hcs
    simp only [if_true] at hz
    unfold maxLen at hm hws
    refine ⟨⟨some a, a.block, a.off, len, cap, fun i => ss.getD i ByteArray.empty⟩, hv, ⟨hl, fun hp => ?_, Nat.le_trans hl hm, fun i hi => ?_, fun i hi => ?_⟩⟩
    · have hp' : 0 < len := hp
      have hs := World.cell?_spot (hcell 0 (by omega))
      obtain ⟨ab, ao, asp⟩ := a
      have : asp = none := by simpa [Addr.add] using hs
      subst this; rfl
    · have hi' : i < len := hi
      have hs := World.cell?_spot (hcell 0 (by omega))
      obtain ⟨ab, ao, asp⟩ := a
      have : asp = none := by simpa [Addr.add] using hs
      subst this
      have := hcell i (by omega)
      rw [addr_plain] at this
      exact this
    · have hi' : i < len := hi
      have hmem : ss.getD i ByteArray.empty ∈ ss := by
        rw [List.getD_eq_getElem?_getD, List.getElem?_eq_getElem (by omega)]
        exact List.getElem_mem _
      exact hws _ hmem

set_option maxRecDepth 100000 in
theorem open_grid {fuel : Nat} {v : Value} {x : DataW H × List MemPlace} (h : DataW.trod enc Try.prog W base (fun _ => true) true fuel 23 [v] = some x) :
    ∃ g : Grid, v = .slice g.ao g.len g.cap ∧ g.At W := by
  rcases open_bool_rows Try.underlying23 Try.underlying58 Try.underlying4 Try.cellsRow Try.cellsBool h with ⟨hcs, _⟩ | ⟨a, len, cap, A, L, C, B, hcs, _, hl, hm, _, hrows⟩
  · exact ⟨⟨none, 0, 0, 0, 0, fun _ => none, fun _ => 0, fun _ => 0, fun _ => 0, fun _ => 0, fun _ _ => false⟩, by simpa using hcs,
      ⟨Nat.le_refl _, fun h => absurd h (Nat.lt_irrefl _), Nat.zero_le _, fun _ h => absurd h (Nat.not_lt_zero _), fun _ h => absurd h (Nat.not_lt_zero _), fun _ h => absurd h (Nat.not_lt_zero _), fun _ h => absurd h (Nat.not_lt_zero _)⟩⟩
  · have hv : v = .slice (some a) len cap := by simpa using hcs
    unfold maxLen at hm
    have hadr : ∀ r, r < len → 0 < L r → A r = some ⟨((A r).getD default).block, ((A r).getD default).off, none⟩ ∧ ∀ c, c < L r → W.cell? ⟨((A r).getD default).block, ((A r).getD default).off + c, none⟩ = some (.bool (B r c)) := fun r hr hp => by
      obtain ⟨_, h1, _, h3, h4⟩ := hrows r (by omega)
      cases hA : A r with
      | none => have := h3 hA; omega
      | some a' =>
        obtain ⟨ab, ao, asp⟩ := a'
        obtain ⟨_, hcell⟩ := h4 _ hA
        have has : asp = none := by simpa [Addr.add] using World.cell?_spot (hcell 0 (by omega))
        subst has
        exact ⟨rfl, fun c hc => by have := hcell c (by omega); rwa [addr_plain] at this⟩
    have hspot : 0 < len → a = ⟨a.block, a.off, none⟩ := fun hp => by
      have hs := World.cell?_spot (hrows 0 (by omega)).1
      obtain ⟨ab, ao, asp⟩ := a
      have : asp = none := by simpa [Addr.add] using hs
      subst this; rfl
    refine ⟨⟨some a, a.block, a.off, len, cap, A, L, C, fun r => ((A r).getD default).block, fun r => ((A r).getD default).off, B⟩, hv, ⟨hl, fun hp => congrArg some (hspot hp), Nat.le_trans hl hm, fun r hr => ?_, fun r hr => ?_, fun r hr hp => (hadr r hr hp).1, fun r hr c hc => (hadr r hr (Nat.lt_of_le_of_lt (Nat.zero_le _) hc)).2 c hc⟩⟩
    · have hr' : r < len := hr
      obtain ⟨_, h1, h2, _⟩ := hrows r (by omega)
      unfold maxLen at h2
      exact Nat.le_trans h1 h2
    · have hr' : r < len := hr
      have := (hrows r (by omega)).1
      rw [hspot (by omega), addr_plain] at this
      exact this

set_option maxRecDepth 100000 in
theorem open_lat {v : Value} {d : DataW H} {p : List MemPlace} {b0 : Nat} (hv : Value.okWide Try.prog W .any b0 25 v) (h : DataW.Trod enc Try.prog W base (fun _ => true) true 25 v d p) :
    ∃ (n : Strs) (g : Grid), v = .agg #[.slice n.ao n.len n.cap, .slice g.ao g.len g.cap] ∧ n.At W ∧ g.At W := by
  obtain ⟨c0, c1, y0, y1, m, rfl, _, _, hy0, hy1⟩ := open_agg2 Try.underlying25 (by kernel_rfl) Try.cellsLat hv h
  obtain ⟨n, rfl, hn⟩ := open_strs hy0
  obtain ⟨g, rfl, hg⟩ := open_grid hy1
  exact ⟨n, g, rfl, hn, hg⟩
end
end Go.Proofs.Ytbdhbgilaeldgaa

/- A type that comes in, opened. -/
namespace Go.Proofs.Ytbdhbgilaeldgaa
open Go.ChangeShapes Go.WideShapes Go.ChangeAt Go.RowKit Go.Deep Go.Joins

theorem Try.cellsInt' : Try.prog.cellsOf 3 = 1 := by kernel_rfl
theorem Try.cellsTys : Try.prog.cellsOf 37 = 1 := by kernel_rfl
theorem Try.cellsTy : Try.prog.cellsOf 39 = 5 := by kernel_rfl

section
variable {H : Type} {enc : TypeId × Value → H} {W : World} {base : Nat}

def Ty.cs (t : Ty) : List Value := [.int .i64 t.k, .int .i64 t.l, .slice t.ao t.len t.cap, .int .i64 t.h, .int .i64 t.e]

set_option maxRecDepth 100000 in
theorem open_ty : ∀ (fuel : Nat) (cs : List Value) (x : DataW H × List MemPlace), DataW.trod enc Try.prog W base (fun _ => true) true fuel 39 cs = some x → ∃ t : Ty, cs = t.cs ∧ t.At W := by
  intro fuel
  induction fuel using Nat.strongRecOn with
  | _ fuel ih =>
    intro cs x h
    obtain ⟨xs, n, rfl, _, hl, hlen, hf⟩ := DataW.trod_struct Try.underlying39 h
    rw [Try.cellsTy] at hl
    match cs, hl with
    | [c0, c1, c2, c3, c4], _ =>
      have hlen5 : xs.length = 5 := hlen
      match xs, hlen5 with
      | [y0, y1, y2, y3, y4], _ =>
        have f0 : DataW.trod enc Try.prog W base (fun _ => true) true n 3 [c0] = some y0 := by simpa [Try.cellsInt'] using hf 0 _ rfl
        have f1 : DataW.trod enc Try.prog W base (fun _ => true) true n 3 [c1] = some y1 := by simpa [Try.cellsInt'] using hf 1 _ rfl
        have f2 : DataW.trod enc Try.prog W base (fun _ => true) true n 37 [c2] = some y2 := by simpa [Try.cellsTys] using hf 2 _ rfl
        have f3 : DataW.trod enc Try.prog W base (fun _ => true) true n 3 [c3] = some y3 := by simpa [Try.cellsInt'] using hf 3 _ rfl
        have f4 : DataW.trod enc Try.prog W base (fun _ => true) true n 3 [c4] = some y4 := by simpa [Try.cellsInt'] using hf 4 _ rfl
        obtain ⟨k, q0, _⟩ := DataW.trod_int Try.underlying3 f0
        obtain ⟨l, q1, _⟩ := DataW.trod_int Try.underlying3 f1
        obtain ⟨hh, q3, _⟩ := DataW.trod_int Try.underlying3 f3
        obtain ⟨e, q4, _⟩ := DataW.trod_int Try.underlying3 f4
        simp only [List.cons.injEq, and_true] at q0 q1 q3 q4
        subst q0 q1 q3 q4
        rcases DataW.trod_slice Try.underlying37 f2 with ⟨hcs, _⟩ | ⟨a, len, cap, elems, rest, m, hm, hcs, _, _, hlc, hmx, hel, hx, _, _⟩
        · simp only [List.cons.injEq, and_true] at hcs
          subst hcs
          exact ⟨.mk k l hh e none 0 0 0 0 (fun _ => .dm), rfl, ⟨fun h => absurd h (Nat.lt_irrefl _), Nat.zero_le _, fun _ h => absurd h (Nat.not_lt_zero _)⟩⟩
        · simp only [List.cons.injEq, and_true] at hcs
          subst hcs hm
          unfold maxLen at hmx
          have each : ∀ i, i < len → ∃ t : Ty, (∀ j, j < 5 → W.cell? (a.add (i * 5 + j)) = t.cs[j]?) ∧ t.At W := by
            intro i hi
            have h1 := hx i hi
            rw [Try.cellsTy] at h1
            cases hc : W.cells? base (a.add (i * 5)) 5 with
            | none => rw [hc] at h1; simp at h1; omega
            | some cs' =>
              rw [hc] at h1
              have h2 : DataW.trod enc Try.prog W base (fun _ => true) true m 39 cs' = some elems[i] := by
                rw [List.getElem?_eq_getElem (by omega)] at h1
                simpa using h1
              obtain ⟨t, rfl, hA⟩ := ih m (by omega) cs' _ h2
              obtain ⟨_, _, hcell⟩ := World.cells?_some hc
              exact ⟨t, fun j hj => by rw [← hcell j hj, add_add], hA⟩
          have hspot : 0 < len → a = ⟨a.block, a.off, none⟩ := fun hp => by
            obtain ⟨t, ht, _⟩ := each 0 hp
            have hs := World.cell?_spot (a := a.add (0 * 5 + 0)) (v := .int .i64 t.k) (by rw [ht 0 (by omega)]; rfl)
            obtain ⟨ab, ao, asp⟩ := a
            have : asp = none := by simpa [Addr.add] using hs
            subst this; rfl
          refine ⟨.mk k l hh e (some a) a.block a.off len cap (fun i => if h : i < len then Classical.choose (each i h) else .dm), rfl, ⟨fun hp => congrArg some (hspot hp), by omega, fun i hi => ?_⟩⟩
          simp only [dif_pos hi]
          obtain ⟨ht, hA⟩ := Classical.choose_spec (each i hi)
          generalize Classical.choose (each i hi) = t at ht hA
          have ea := hspot (by omega)
          have get : ∀ j, j < 5 → W.cell? ⟨a.block, a.off + i * 5 + j, none⟩ = t.cs[j]? := fun j hj => by
            have := ht j hj
            rw [ea, addr_plain, ← Nat.add_assoc] at this
            exact this
          exact ⟨⟨get 0 (by omega), get 1 (by omega), get 2 (by omega), get 3 (by omega), get 4 (by omega)⟩, hA⟩
set_option maxRecDepth 100000 in
theorem open_type {v : Value} {d : DataW H} {p : List MemPlace} {b0 : Nat} (hv : Value.okWide Try.prog W .any b0 39 v) (h : DataW.Trod enc Try.prog W base (fun _ => true) true 39 v d p) :
    ∃ t : Ty, v = .agg #[.int .i64 t.k, .int .i64 t.l, .slice t.ao t.len t.cap, .int .i64 t.h, .int .i64 t.e] ∧ t.At W := by
  obtain ⟨cs, rfl, _⟩ := okWide_struct Try.underlying39 hv
  obtain ⟨fuel, hf⟩ := h
  obtain ⟨t, ht, hA⟩ := open_ty fuel _ _ hf
  refine ⟨t, ?_, hA⟩
  have : cs.toList = t.cs := by simpa [Value.cells] using ht
  obtain ⟨l⟩ := cs
  have e : l = t.cs := this
  rw [e]; rfl

end
end Go.Proofs.Ytbdhbgilaeldgaa
