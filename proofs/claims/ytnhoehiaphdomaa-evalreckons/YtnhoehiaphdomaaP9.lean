/- Layer 6: walk.Deep and syntax.Nest, where two lists may be told to be one by a draw: no deeper than it is. -/
import Derived.Test.YtnhoehiaphdomaaP8
import Derived.Test.YtnhoehiaphdomaaP6
import Derived.RangeFuncNested
import Derived.RangeFuncBound
import Derived.RangeFuncCalls
import Derived.RangeFuncLeaves
import Derived.RangeFuncBox
import Derived.Shelf.Abstract
import Derived.Shelf.RegionOpen
import Derived.WalkKit
import Derived.OwnWalkIn
import Derived.TacticsInMore
import Derived.LoopNIn
import Derived.LoopIn
namespace Go.Proofs.Ytnhoehiaphdomaa
open Go.RowKit

/-- The first cell of each list of its Parts isn't frozen. -/
def Ex.Nz (w : World) : Ex → Prop
  | .dm => True
  | .mk _ _ _ _ _ _ _ _ b o len _ ps _ => (0 < len → Nfz w ⟨b, o, none⟩) ∧ ∀ i, i < len → Ex.Nz w (ps i)
theorem Ex.Nz.b {w : World} : ∀ {e : Ex}, e.Nz w → 0 < e.len → Nfz w ⟨e.b, e.o, none⟩
  | .dm, _, h => absurd h (Nat.lt_irrefl 0)
  | .mk _ _ _ _ _ _ _ _ _ _ _ _ _ _, h, hl => h.1 hl
theorem Ex.Nz.part {w : World} : ∀ {e : Ex}, e.Nz w → ∀ {i}, i < e.len → (e.ps i).Nz w
  | .dm, _, _, h => absurd h (Nat.not_lt_zero _)
  | .mk _ _ _ _ _ _ _ _ _ _ _ _ _ _, h, _, hl => h.2 _ hl
theorem Nfz.same {w w' : World} {a : Addr} (h : Nfz w a) (hb : w'.heap[a.block]? = w.heap[a.block]?) : Nfz w' a := by
  obtain ⟨⟨c, t, fr, h⟩, z⟩ := h
  refine ⟨⟨c, t, fr, by rw [hb]; exact h⟩, ?_⟩
  unfold World.frozen? at z ⊢
  rw [hb]; exact z
theorem Nfz.lt {w : World} {a : Addr} (h : Nfz w a) : a.block < w.heap.size := by
  obtain ⟨⟨c, t, fr, h⟩, _⟩ := h
  exact eblock_lt h
theorem Nfz.kept {w w' : World} {a : Addr} (h : Nfz w a) (hb : Below w.heap.size w w') : Nfz w' a := h.same (hb.block _ h.lt)
theorem Ex.Nz.kept {w w' : World} (hb : Below w.heap.size w w') : ∀ {e : Ex}, e.Nz w → e.Nz w'
  | .dm, _ => trivial
  | .mk _ _ _ _ _ _ _ _ _ _ _ _ _ _, h => ⟨fun hl => (h.1 hl).kept hb, fun i hi => Ex.Nz.kept hb (h.2 i hi)⟩
theorem KeysW.kept {w w' : World} {es : List MapEntry} (h : KeysW w es) (hb : Below w.heap.size w w') : KeysW w' es := fun e he => by
  obtain ⟨a, n, h1, h2, h3⟩ := h e he
  exact ⟨a, n, h1, h2.kept hb, h3⟩
/-- What is known of the next level behind these nodes. -/
structure NMW (done nx : List Ex) : Prop where
  pos : ∀ r ∈ nx, r ∈ done ∧ 0 < r.len
  sum : nsum nx ≤ nsum done
theorem NMW.nil : NMW [] [] := ⟨by simp, Nat.le_refl _⟩
theorem NMW.old {done nx : List Ex} (h : NMW done nx) (x : Ex) : NMW (done ++ [x]) nx :=
  ⟨fun r hr => ⟨List.mem_append_left _ (h.pos r hr).1, (h.pos r hr).2⟩, by rw [nsum_append]; have := h.sum; omega⟩
theorem NMW.new {done nx : List Ex} (h : NMW done nx) {x : Ex} (hx : 0 < x.len) : NMW (done ++ [x]) (nx ++ [x]) :=
  ⟨fun r hr => by
    rcases List.mem_append.1 hr with h1 | h1
    · exact ⟨List.mem_append_left _ (h.pos r h1).1, (h.pos r h1).2⟩
    · have : r = x := by simpa using h1
      subst this; exact ⟨List.mem_append_right _ h1, hx⟩, by rw [nsum_append, nsum_append]; have := h.sum; omega⟩
theorem NMW.deep {w : World} {L nx : List Ex} (h : NMW (kids L) nx) (hA : ∀ e ∈ L, e.At w) (hne : kids L ≠ []) : dpth nx + 1 ≤ dpth L := by
  have hk : ∀ x ∈ kids L, x.At w := fun x hx => by
    obtain ⟨e, he, hx⟩ := mem_kids.1 hx
    obtain ⟨i, hi, rfl⟩ := mem_kid.1 hx
    exact (hA e he).part hi
  have h0 : 1 ≤ dpth L := by
    cases hq : kids L with
    | nil => exact absurd hq hne
    | cons x l =>
      have hx : x ∈ kids L := by rw [hq]; exact List.mem_cons_self ..
      have h1 : x.nest ≤ dpth L := le_mx (List.mem_map_of_mem hx)
      rw [(hk x hx).nest_eq] at h1
      omega
  have : dpth nx ≤ dpth L - 1 := by
    refine mx_le fun m hm => ?_
    obtain ⟨y, hy, rfl⟩ := List.mem_map.1 hm
    obtain ⟨r, hr, hy⟩ := mem_kids.1 hy
    obtain ⟨i, hi, rfl⟩ := mem_kid.1 hy
    have hr2 := (h.pos r hr).1
    have h1 : r.nest ≤ dpth L := le_mx (List.mem_map_of_mem hr2)
    rw [(hk r hr2).nest_eq] at h1
    have h2 := le_mxTo (f := fun i => (r.ps i).nest) hi
    omega
  omega
/-- A list of lists of expressions. -/
def LAtW (w : World) (v : Value) (L : List Ex) : Prop := ∃ ao b o cap, v = .slice ao L.length cap ∧ (0 < L.length → ao = some ⟨b, o, none⟩) ∧ (∀ i e, L[i]? = some e → w.cell? ⟨b, o + i, none⟩ = some (exv e)) ∧ ∀ e ∈ L, e.At w ∧ e.Nz w ∧ 0 < e.len
/-- Where nextLevel stands: the map in block w.heap.size, the next level v. -/
structure NLW (w wr : World) (v : Value) (done nx : List Ex) : Prop where
  bl : Below w.heap.size w wr
  mp : ∃ es c, wr.heap[w.heap.size]? = some (.map es c) ∧ KeysW w es.toList
  own : wr.ownsRow (w.heap.size + 1) 34 1 v nx.length (nx.map exv)
  nm : NMW done nx
theorem NLW.step {w wr w' : World} {v : Value} {done nx : List Ex} (h : NLW w wr v done nx) (hb : Below wr.heap.size wr w') : NLW w w' v done nx := by
  obtain ⟨es, c, h1, h2⟩ := h.mp
  exact ⟨Below.next h.bl hb, ⟨es, c, by rw [hb.block _ (eblock_lt h1)]; exact h1, h2⟩, eown_up h.own hb, h.nm⟩
theorem NLW.nil (w : World) : NLW w (w.alloc (.map #[] 0)) (.slice none 0 0) [] [] :=
  ⟨below_alloc _ _, ⟨#[], 0, heap_alloc_new _ _, fun _ h => absurd h (by simp)⟩, World.ownsRow_nil _ _ _ _, NMW.nil⟩

theorem latw_of_own {w wr : World} {v : Value} {done nx : List Ex} (h : NLW w wr v done nx) (hA : ∀ e ∈ nx, e.At wr ∧ e.Nz wr ∧ 0 < e.len) : LAtW wr v nx := by
  obtain ⟨hl, ⟨rfl, hn⟩ | ⟨g, cap, cur, rfl, hg, hh, hr⟩⟩ := h.own
  · have : nx = [] := List.eq_nil_of_length_eq_zero hn
    subst this
    exact ⟨none, 0, 0, 0, rfl, fun h => absurd h (Nat.lt_irrefl 0), by simp, by simp⟩
  · refine ⟨_, g, 0, cap, rfl, fun _ => rfl, fun i e he => ?_, hA⟩
    obtain ⟨_, _, _, ht⟩ := hr
    have hi : i < nx.length := by
      rcases Nat.lt_or_ge i nx.length with h | h
      · exact h
      · rw [List.getElem?_eq_none h] at he; cases he
    have h1 : (cur.toList.take (nx.length * 1))[i]? = some (exv e) := by rw [ht, List.getElem?_map, he]; rfl
    rw [List.getElem?_take, if_pos (by omega)] at h1
    have h2 : cur[i]? = some (exv e) := by simpa using h1
    simp [World.cell?, hh, h2]
theorem put_factsW {w W4 : World} {v : Value} {done nx : List Ex} (h : NLW w W4 v done nx) (x : Ex) (hx : x.Nz w) (hl : 0 < x.len) :
    ∃ W5, (Instr.mapUpdate 80 (.map (some w.heap.size)) (.agg #[.pointer (some ⟨x.b, x.o, none⟩), .pointer none, .int .i64 x.len]) (.agg #[])).run Try.prog W4 = .ok () W5 ∧ Below w.heap.size w W5 ∧ (∃ es c, W5.heap[w.heap.size]? = some (.map es c) ∧ KeysW w es.toList) ∧
      W5.ownsRow (w.heap.size + 1) 34 1 v nx.length (nx.map exv) ∧ W5.heap.size = W4.heap.size := by
  obtain ⟨es, c, hm, hk⟩ := h.mp
  have pb : Nfz w ⟨x.b, x.o, none⟩ := hx.b hl
  have ml := eblock_lt hm
  obtain ⟨es', c', d, hu, hk'⟩ := run_put_weak W4 _ es c hm ⟨x.b, x.o, none⟩ x.len (pb.kept h.bl) (hk.kept h.bl)
  have hblk : ∀ k, k ≠ w.heap.size → ({ W4 with drawn := d, heap := W4.heap.setIfInBounds w.heap.size (.map es' c') } : World).heap[k]? = W4.heap[k]? := fun k hk => by
    have : w.heap.size ≠ k := fun e => hk e.symm
    simp only [Array.getElem?_setIfInBounds, this, if_false]
  refine ⟨_, hu, ?_, ⟨es', c', ?_, ?_⟩, ?_, ?_⟩
  · exact ⟨h.bl.os, h.bl.tape, h.bl.output, by simpa using h.bl.size, fun k hk => by rw [hblk k (by omega)]; exact h.bl.block k hk⟩
  · simp [ml]
  · exact hk' w pb hk
  · refine eown_blk h.own fun b hb => ?_
    have := (eown_lt h.own hb).1
    exact hblk b (by omega)
  · simp

set_option maxRecDepth 100000 in
set_option maxHeartbeats 4000000 in
theorem nextLevelW_any (L : List Ex) (v : Value) (w : World) (hL : LAtW w v L) (hn : nsum (kids L) ≤ 2000) : Calls Try.prog 37 #[v, .func (.func 26) #[] #[]] w fun r w' => ∃ v' L', r = .returned v' ∧ Below w.heap.size w w' ∧ LAtW w' v' L' ∧ NMW (kids L) L' := by
  obtain ⟨ao, b, o, cap, rfl, hnil, hc, hA⟩ := hL
  have hb : L.length ≤ 2000 := by
    have h1 := len_le_nsum (kids L)
    have : L.length ≤ (kids L).length := by
      clear hn hnil hc h1
      induction L with
      | nil => simp
      | cons e L ih =>
        have := ih (fun x hx => hA x (List.mem_cons_of_mem _ hx))
        have e1 : kids (e :: L) = kid e ++ kids L := rfl
        have e2 : (kid e).length = e.len := by unfold kid; simp
        have := (hA e (List.mem_cons_self ..)).2.2
        rw [e1, List.length_append, e2]; simp; omega
    omega
  have HC : Hid (∀ i e, L[i]? = some e → w.cell? ⟨b, o + i, none⟩ = some (exv e)) := hc
  have HA : Hid (∀ e ∈ L, e.At w ∧ e.Nz w ∧ 0 < e.len) := hA
  have HN : Hid (nsum (kids L) ≤ 2000) := hn
  have HI : Hid (NLW w (w.alloc (.map #[] 0)) (.slice none 0 0) [] []) := NLW.nil w
  have hmm := @run_makeMap Try.prog
  clear hc hA hn
  generalize hlen : L.length = len at *
  have HL : Hid (L.length = len) := hlen
  clear hlen
  go_enter Try.func37, Try.ntmps37
  go_wp2
  go_loopw [5, 18] (fun v i wr => ∃ (j : Nat) (nx : List Ex), j ≤ len ∧ i = .int .i64 j ∧ NLW w wr v (kids (L.take j)) nx) (fun _ i _ => len - (intOf i).toNat)
  case atStart => exact ⟨0, [], Nat.zero_le _, rfl, HI.out⟩
  case round =>
    obtain ⟨j, nx, hj, rfl, hI⟩ := hrel
    clear HI
    have HI : Hid (NLW w wr u5 (kids (L.take j)) nx) := hI
    clear hI
    by_cases hlt : j < len
    · have ij : (j : Int) < len := by omega
      have a0 := hnil (by omega)
      subst a0
      obtain ⟨e, he⟩ : ∃ e, L[j]? = some e := ⟨_, List.getElem?_eq_getElem (by rw [HL.out]; exact hlt)⟩
      have hm : e ∈ L := List.mem_of_getElem? he
      have HE : Hid (L[j]? = some e) := he
      have hcw : w.cell? ⟨b, o + j, none⟩ = some (.slice e.ao e.len e.cap) := HC.out j e he
      rw [(HA.out e hm).1.nil (HA.out e hm).2.2] at hcw
      have hc : wr.cell? ⟨b, o + j, none⟩ = some (.slice (some ⟨e.b, e.o, none⟩) e.len e.cap) := up HI.out.bl hcw
      have HAe : Hid (e.At w ∧ e.Nz w ∧ 0 < e.len) := HA.out e hm
      have hbe : e.len ≤ 9223372036854775807 := HAe.out.1.bound
      clear hcw hm he
      go_wp2
      clear hc
      go_loopw [5, 24] (fun v i wr => ∃ (q : Nat) (nx : List Ex), q ≤ e.len ∧ i = .int .i64 q ∧ NLW w wr v (kids (L.take j) ++ (List.range q).map e.ps) nx) (fun _ i _ => e.len - (intOf i).toNat)
      case atStart => exact ⟨0, nx, Nat.zero_le _, rfl, by simpa using HI.out⟩
      case round =>
        clear HI
        obtain ⟨q, ny, hq, rfl, hI⟩ := hrel
        have HI : Hid (NLW w wr u5 (kids (L.take j) ++ (List.range q).map e.ps) ny) := hI
        clear hI
        by_cases hqt : q < e.len
        · have iq : (q : Int) < e.len := by omega
          obtain ⟨x, hx⟩ : ∃ x, x = e.ps q := ⟨_, rfl⟩
          have HX : Hid (x = e.ps q) := hx
          have C : C17 wr e.b (e.o + q * 17) x := by rw [hx]; exact (HAe.out.1.kept HI.out.bl).cells hqt
          have P : x.At wr ∧ x.Nz wr := by rw [hx]; exact ⟨(HAe.out.1.kept HI.out.bl).part hqt, (HAe.out.2.1.kept HI.out.bl).part hqt⟩
          have X0 := Bex.newV wr x
          have B0 := below_alloc wr (.cells x.va 36)
          have hP := epartsV x (wr.alloc (.cells x.va 36))
          have HP : Hid (x.At wr ∧ x.Nz wr) := P
          have hbx : x.len ≤ 9223372036854775807 := P.1.bound
          clear hx P
          go_wp2_with (first | (refine wpList_load_ex rfl (.tmp 26) rfl _ _ rfl _ C ?_) | (refine wpList_new_ex rfl rfl rfl (.tmp 10) (.tmp 27) rfl rfl rfl _ rfl ?_) | (refine wpList_load_exB rfl (.tmp 10) rfl _ rfl _ X0 ?_))
          refine hP.mono ?_
          rintro _ w2 ⟨rfl, hb2⟩
          have B2 := Below.next B0 hb2
          have HI2 : Hid (NLW w w2 u5 (kids (L.take j) ++ (List.range q).map e.ps) ny) := HI.out.step B2
          have HP2 : Hid (x.At w2 ∧ x.Nz w2) := ⟨HP.out.1.kept B2, HP.out.2.kept B2⟩
          clear X0 B0 hP hb2 B2 C HI HP
          have HK : Hid ((List.range (q + 1)).map e.ps = (List.range q).map e.ps ++ [x]) := by
            show _ = _
            rw [List.range_succ, List.map_append, HX.out]; rfl
          by_cases hz : x.len = 0
          · have dz : (x.len : Int) = 0 := by omega
            go_wp2
            go_roundw
            case rel =>
              refine ⟨q + 1, ny, by omega, by go_num, ?_⟩
              rw [HK.out, ← List.append_assoc]
              exact ⟨HI2.out.bl, HI2.out.mp, HI2.out.own, HI2.out.nm.old x⟩
            case measure => simp [intOf]; omega
          · have dz : ¬ (x.len : Int) = 0 := by omega
            have hlp : 0 < x.len := by omega
            have lx : (0 : Int) < x.len := by omega
            obtain ⟨es, c, hm, hk⟩ := HI2.out.mp
            have pb : Nfz w2 ⟨x.b, x.o, none⟩ := HP2.out.2.b hlp
            have ea : x.ao = some ⟨x.b, x.o, none⟩ := HP2.out.1.nil hlp
            rw [ea]
            have HEA : Hid (x.ao = some ⟨x.b, x.o, none⟩) := ea
            clear ea
            have B3 := below_alloc w2 (.cells #[.pointer (some ⟨x.b, x.o, none⟩), .pointer none, .int .i64 x.len] 83)
            have hm3 : (w2.alloc (.cells #[.pointer (some ⟨x.b, x.o, none⟩), .pointer none, .int .i64 x.len] 83)).heap[w.heap.size]? = some (.map es c) := by rw [B3.block _ (eblock_lt hm)]; exact hm
            obtain ⟨bb, w3, hl, hd⟩ : ∃ bb w3, (Instr.lookup 80 (.map (some w.heap.size)) (.agg #[.pointer (some ⟨x.b, x.o, none⟩), .pointer none, .int .i64 x.len]) true).run Try.prog (w2.alloc (.cells #[.pointer (some ⟨x.b, x.o, none⟩), .pointer none, .int .i64 x.len] 83)) = .ok (.tuple #[.agg #[], .bool bb]) w3 ∧ Dw (w2.alloc (.cells #[.pointer (some ⟨x.b, x.o, none⟩), .pointer none, .int .i64 x.len] 83)) w3 := run_look_weak _ _ es c hm3 ⟨x.b, x.o, none⟩ x.len (pb.kept B3) (hk.kept (Below.next HI2.out.bl B3))
            have B4 := Below.next (Below.next B3 (hd.below _)) (below_alloc w3 (.cells #[] 84))
            have hq3 : ∀ k, (w3.alloc (.cells #[] 84)).cell? ⟨w2.heap.size, k, none⟩ = (#[.pointer (some ⟨x.b, x.o, none⟩), .pointer none, .int .i64 x.len] : Array Value)[k]? := fun k => by
              have h0 := heap_alloc_new w2 (.cells #[.pointer (some ⟨x.b, x.o, none⟩), .pointer none, .int .i64 x.len] 83)
              have h1 := (below_alloc w3 (.cells #[] 84)).block w2.heap.size (by rw [hd.heap, alloc_size]; omega)
              simp only [World.cell?, h1, hd.heap, h0]
              rfl
            have c30 : (w3.alloc (.cells #[] 84)).cell? ⟨w2.heap.size, 0, none⟩ = some (.pointer (some ⟨x.b, x.o, none⟩)) := hq3 0
            have c31 : (w3.alloc (.cells #[] 84)).cell? ⟨w2.heap.size, 1, none⟩ = some (.pointer none) := hq3 1
            have c32 : (w3.alloc (.cells #[] 84)).cell? ⟨w2.heap.size, 2, none⟩ = some (.int .i64 x.len) := hq3 2
            clear hd hq3
            cases bb
            rotate_left
            · go_wp2
              go_roundw
              case rel =>
                refine ⟨q + 1, ny, by omega, by go_num, ?_⟩
                rw [HK.out, ← List.append_assoc]
                have h5 := HI2.out.step B4
                exact ⟨h5.bl, h5.mp, h5.own, h5.nm.old x⟩
              case measure => simp [intOf]; omega
            · have h5 := HI2.out.step B4
              obtain ⟨W5, hu, hb5, hm5, ho5, hs5⟩ := put_factsW h5 x (by rw [HX.out]; exact HAe.out.2.1.part hqt) hlp
              obtain ⟨vo, vc, rfl⟩ := eown_form HI2.out.own
              have HM5 : Hid (Below w.heap.size w W5 ∧ (∃ es c, W5.heap[w.heap.size]? = some (.map es c) ∧ KeysW w es.toList)) := ⟨hb5, hm5⟩
              have hsz : w.heap.size < W5.heap.size := by obtain ⟨_, _, h, _⟩ := hm5; exact eblock_lt h
              have HNM : Hid (NMW (kids (L.take j) ++ (List.range q).map e.ps) ny) := h5.nm
              have hny : ny.length < 2000 := by
                have h1 := (HNM.out.new hlp).sum
                have h2 := len_le_nsum (ny ++ [x])
                have e1 : kids (L.take j) ++ (List.range q).map e.ps ++ [x] = kids (L.take j) ++ (List.range (q + 1)).map e.ps := by rw [HK.out, List.append_assoc]
                have h3 : nsum (kids (L.take j) ++ (List.range q).map e.ps ++ [x]) ≤ nsum (kids L) := by
                  rw [e1]
                  exact kids_pre HE.out hqt
                have := HN.out
                simp at h2; omega
              have ez : (W5.alloc (.cells #[.slice (some ⟨x.b, x.o, none⟩) x.len x.cap] 34)).heap.size = W5.heap.size + 1 := alloc_size _ _
              have hnew := heap_alloc_new W5 (.cells #[.slice (some ⟨x.b, x.o, none⟩) x.len x.cap] 34)
              have ho6 := ho5.alloc (.cells #[.slice (some ⟨x.b, x.o, none⟩) x.len x.cap] 34)
              obtain ⟨i0, hi, hz0, hz1, hz2⟩ := info_parts Try.infoExs
              clear h5 hb5 hm5 ho5 B4 HI2 hm hk hm3 hs5
              go_wp2_with ((at_builtin; (refine wpList_append_lies _ rfl (.tmp 50) (.tmp 52) 70 rfl (w.heap.size + 1) 34 i0 _ 1 24 Try.underlying70 hi hz0 hz1 hz2 rfl (by decide) (.slice vo ny.length vc) ny.length (ny.map exv) rfl ho6 ⟨W5.heap.size, 0, none⟩ 1 1 [.slice (some ⟨x.b, x.o, none⟩) x.len x.cap] rfl rfl (World.news_of_block (cs := #[.slice (some ⟨x.b, x.o, none⟩) x.len x.cap]) (t := 34) (fr := (0, 0)) hnew) (by intro x hx; simp at hx; rcases hx with rfl; rfl) (by omega) (by unfold maxLen; omega) (by omega) (by omega) (W5.heap.size + 1) ez ?_); intro gg cap3 w6 hown6 hgrow hat hltg))
              have HN6 : Hid (NLW w w6 (.slice (some ⟨gg, 0, none⟩) (ny.length + 1) cap3) (kids (L.take j) ++ (List.range q).map e.ps ++ [x]) (ny ++ [x])) := by
                obtain ⟨b5, es5, c5, m5, k5⟩ := HM5.out
                have g6 : Below (w.heap.size + 1) W5 w6 := ((Below.refl _ _).alloc (by omega) _).grown hgrow (by omega) (fun k hk => (eown_lt ho6 hk).1)
                have b6 : Below w.heap.size w w6 := b5.trans (g6.mono (by omega))
                refine ⟨b6, ⟨es5, c5, by rw [g6.block _ (by omega)]; exact m5, k5⟩, ?_, HNM.out.new hlp⟩
                rw [List.length_append, List.map_append, List.map_cons, List.map_nil]
                have := hown6
                rw [show exv x = .slice (some ⟨x.b, x.o, none⟩) x.len x.cap by unfold exv; rw [HEA.out]]
                exact this
              clear hown6 hgrow hat hltg
              go_wp2
              go_roundw
              case rel =>
                refine ⟨q + 1, ny ++ [x], by omega, by go_num, ?_⟩
                rw [HK.out, ← List.append_assoc]
                exact HN6.out
              case measure => simp [intOf]; omega
        · have e2 : q = e.len := by omega
          subst e2
          have d : ¬ (e.len : Int) < e.len := by omega
          go_wp2
          go_roundw
          case rel => exact ⟨j + 1, ny, by omega, by go_num, by rw [kids_take HE.out]; exact HI.out⟩
          case measure => simp [intOf]; omega
    · have e2 : len = j := by omega
      subst e2
      have d : ¬ (len : Int) < len := by omega
      go_wp2
      go_ret
      refine ⟨_, rfl, HI.out.bl, nx, ?_, ?_⟩
      · refine latw_of_own HI.out (fun r hr => ?_)
        obtain ⟨h1, h2⟩ := HI.out.nm.pos r hr
        obtain ⟨e, he, hx⟩ := mem_kids.1 h1
        obtain ⟨i, hi, rfl⟩ := mem_kid.1 hx
        have hA := HA.out e (List.mem_of_mem_take he)
        exact ⟨(hA.1.part hi).kept HI.out.bl, (hA.2.1.part hi).kept HI.out.bl, h2⟩
      · have := HI.out.nm
        rw [← HL.out, List.take_length] at this
        exact this

end Go.Proofs.Ytnhoehiaphdomaa

/- Layer 6: walk.Deep and syntax.Nest, where two lists may be told to be one by a draw. -/
namespace Go.Proofs.Ytnhoehiaphdomaa
open Go.RowKit

theorem nfz_new (w : World) (c : Array Value) (t : TypeId) : Nfz (w.alloc (.cells c t)) ⟨w.heap.size, 0, none⟩ :=
  ⟨⟨c, t, (0, 0), heap_alloc_new _ _⟩, by
    have h := heap_alloc_new w (.cells c t)
    unfold World.frozen?
    rw [h]; rfl⟩
theorem LAtW.kids_ne {w : World} {v : Value} {L : List Ex} (h : LAtW w v L) (hl : 0 < L.length) : kids L ≠ [] := by
  obtain ⟨_, _, _, _, _, _, _, hA⟩ := h
  match L, hl with
  | e :: L, _ =>
    have h1 := (hA e (List.mem_cons_self ..)).2.2
    intro hq
    have : e.ps 0 ∈ kids (e :: L) := mem_kids.2 ⟨e, List.mem_cons_self .., mem_kid.2 ⟨0, h1, rfl⟩⟩
    rw [hq] at this
    cases this
theorem LAtW.form {w : World} {v : Value} {L : List Ex} (h : LAtW w v L) : ∃ ao cap, v = .slice ao L.length cap := by
  obtain ⟨ao, _, _, cap, h, _⟩ := h
  exact ⟨ao, cap, h⟩
theorem LAtW.at {w : World} {v : Value} {L : List Ex} (h : LAtW w v L) : ∀ e ∈ L, e.At w := by
  obtain ⟨_, _, _, _, _, _, _, hA⟩ := h
  exact fun e he => (hA e he).1
theorem deep_startW (t : Ex) (w : World) (ht : t.At w) (hp : t.Nz w) : LAtW (((w.alloc (.cells t.va 36)).alloc (.cells t.va 36)).alloc (.cells #[.slice (some ⟨w.heap.size + 1, 0, none⟩) 1 1] 34)) (.slice (some ⟨w.heap.size + 2, 0, none⟩) 1 1) [lone1 (w.heap.size + 1) t] := by
  have b1 := below_alloc w (.cells t.va 36)
  have b2 := below_alloc (w.alloc (.cells t.va 36)) (.cells t.va 36)
  have b3 := below_alloc ((w.alloc (.cells t.va 36)).alloc (.cells t.va 36)) (.cells #[.slice (some ⟨w.heap.size + 1, 0, none⟩) 1 1] 34)
  have e1 : (w.alloc (.cells t.va 36)).heap.size = w.heap.size + 1 := alloc_size _ _
  have e2 : ((w.alloc (.cells t.va 36)).alloc (.cells t.va 36)).heap.size = w.heap.size + 2 := by rw [alloc_size, e1]
  have hc := (C17.ofB (Bex.newV (w.alloc (.cells t.va 36)) t)).kept b3
  have hq := (nfz_new (w.alloc (.cells t.va 36)) t.va 36).kept b3
  rw [e1] at hc hq
  have B := Below.next (Below.next b1 b2) b3
  refine ⟨some ⟨w.heap.size + 2, 0, none⟩, w.heap.size + 2, 0, 1, rfl, fun _ => rfl, fun i e he => ?_, fun e he => ?_⟩
  · match i, he with
    | 0, he =>
      have : lone1 (w.heap.size + 1) t = e := by simpa using he
      subst this
      have := heap_alloc_new ((w.alloc (.cells t.va 36)).alloc (.cells t.va 36)) (.cells #[.slice (some ⟨w.heap.size + 1, 0, none⟩) 1 1] 34)
      rw [e2] at this
      simp only [World.cell?, this]
      rfl
    | i + 1, he => simp at he
  · have : e = lone1 (w.heap.size + 1) t := by simpa using he
    subst this
    exact ⟨lone1_at (ht.kept B) hc, ⟨fun _ => hq, fun _ _ => hp.kept B⟩, Nat.one_pos⟩

set_option maxRecDepth 100000 in
set_option maxHeartbeats 4000000 in
theorem eDeepW_any (t : Ex) (w : World) (ht : t.At w) (hp : t.Nz w) (hn : t.nodes ≤ 2000) : Calls Try.prog 25 #[.agg t.va, .func (.func 26) #[] #[], .int .i64 30] w fun e w' => ∃ k : Nat, e = .returned (.int .i64 k) ∧ k ≤ t.nest ∧ k ≤ 31 ∧ Below w.heap.size w w' := by
  have HS : Hid (LAtW (((w.alloc (.cells t.va 36)).alloc (.cells t.va 36)).alloc (.cells #[.slice (some ⟨w.heap.size + 1, 0, none⟩) 1 1] 34)) (.slice (some ⟨w.heap.size + 2, 0, none⟩) 1 1) [lone1 (w.heap.size + 1) t] ∧ Below w.heap.size w (((w.alloc (.cells t.va 36)).alloc (.cells t.va 36)).alloc (.cells #[.slice (some ⟨w.heap.size + 1, 0, none⟩) 1 1] 34))) :=
    ⟨deep_startW t w ht hp, Below.next (Below.next (below_alloc _ _) (below_alloc _ _)) (below_alloc _ _)⟩
  have HK : Hid (kids [lone1 (w.heap.size + 1) t] = [t]) := by show _ = _; rfl
  have X0 := Bex.newV w t
  have hsl := run_slice1_ex t
  clear ht hp
  go_enter Try.func25, Try.ntmps25
  go_wp2_with (first | (refine wpList_load_exB rfl (.tmp 3) rfl _ rfl t X0 ?_) | (refine wpList_slice rfl 34 1 #[(0, .tmp 9)] rfl #[(0, .agg t.va)] (by kernel_rfl) (hsl _) ?_))
  clear X0
  go_loopw [7, 8] (fun dv lv wr => ∃ (d : Nat) (L : List Ex), dv = .int .i64 d ∧ d ≤ 31 ∧ LAtW wr lv L ∧ Below w.heap.size w wr ∧ nsum (kids L) ≤ 2000 ∧ d + dpth L ≤ t.nest) (fun dv _ _ => 31 - (intOf dv).toNat)
  case atStart =>
    refine ⟨0, [lone1 (w.heap.size + 1) t], rfl, by omega, HS.out.1, HS.out.2, ?_, ?_⟩
    · rw [HK.out, nsum_one]; exact hn
    · unfold dpth; rw [HK.out]; show 0 + max t.nest 0 ≤ t.nest; omega
  case round =>
    obtain ⟨d, L, rfl, hd, hL, hB, hN, hD⟩ := hrel
    clear HS HK
    obtain ⟨lo, lc, rfl⟩ := hL.form
    have HI : Hid (LAtW wr (.slice lo L.length lc) L ∧ Below w.heap.size w wr ∧ nsum (kids L) ≤ 2000 ∧ d + dpth L ≤ t.nest) := ⟨hL, hB, hN, hD⟩
    clear hL hB hN hD
    by_cases hl : 0 < L.length
    · have il : (0 : Int) < L.length := by omega
      by_cases h3 : d ≤ 30
      · have i3 : (d : Int) ≤ 30 := by omega
        go_wp2_with fail
        refine (nextLevelW_any L _ wr HI.out.1 HI.out.2.2.1).mono ?_
        rintro _ w5 ⟨v', L', rfl, hb5, hL5, hM⟩
        have HJ : Hid (LAtW w5 v' L' ∧ Below w.heap.size w w5 ∧ nsum (kids L') ≤ 2000 ∧ d + 1 + dpth L' ≤ t.nest) := by
          refine ⟨hL5, Below.next HI.out.2.1 hb5, ?_, ?_⟩
          · have h1 := nsum_kids hL5.at
            have h2 := hM.sum
            have := HI.out.2.2.1
            omega
          · have := hM.deep HI.out.1.at (HI.out.1.kids_ne hl)
            have := HI.out.2.2.2
            omega
        clear hL5 hM hb5 HI
        go_wp2
        go_roundw
        case rel => exact ⟨d + 1, L', by go_num, by omega, HJ.out⟩
        case measure => simp [intOf]; omega
      · have i3 : ¬ (d : Int) ≤ 30 := by omega
        go_wp2
        go_ret
        exact ⟨d, rfl, by have := HI.out.2.2.2; omega, hd, HI.out.2.1⟩
    · have il : ¬ (0 : Int) < L.length := by omega
      have e0 : dpth L = 0 := by
        have : L = [] := List.eq_nil_of_length_eq_zero (by omega)
        subst this; rfl
      have HE : Hid (dpth L = 0) := e0
      clear e0
      go_wp2
      go_ret
      exact ⟨d, rfl, by have := HI.out.2.2.2; omega, hd, HI.out.2.1⟩
set_option maxHeartbeats 1000000 in
theorem eNestW_any (t : Ex) (w : World) (ht : t.At w) (hp : t.Nz w) (hn : t.nodes ≤ 2000) : Calls Try.prog 18 #[.agg t.va] w fun e w' => ∃ k : Nat, e = .returned (.int .i64 k) ∧ k ≤ t.nest ∧ k ≤ 31 ∧ Below w.heap.size w w' := by
  have B0 := below_alloc w (.cells t.va 36)
  have X0 := Bex.newV w t
  have h := eDeepW_any t _ (ht.kept B0) (hp.kept B0) hn
  go_enter Try.func18, Try.ntmps18
  go_wp2_with (refine wpList_load_exB rfl (.tmp 1) rfl _ rfl t X0 ?_)
  refine h.mono ?_
  rintro r w1 ⟨k, rfl, hk1, hk2, hb1⟩
  clear X0
  go_wp2
  go_ret
  exact ⟨k, rfl, hk1, hk2, Below.next B0 hb1⟩
end Go.Proofs.Ytnhoehiaphdomaa

/- Layer 8: free.small, Names and Stands, of what is small. -/
namespace Go.Proofs.Ytnhoehiaphdomaa
open Go Go.RowKit

theorem wpList_wantF {ops : Array Oper} {rest : List Oper} {o : Oper} {a : Act} {w : World} {Q : Exit → Act → World → Prop} (hw : Region.wanted o (yielded ops a.tmps) = true) (h : ∀ K : Act → World → Prop, (∀ a w, wpList Try.prog ops Q rest a w → K a w) → o.wp Try.prog a w K Q) : wpList Try.prog ops Q (o :: rest) a w :=
  wpList_step fun K hK => by simp only [hw, if_true]; exact h K hK
theorem wpList_load_exGF {ops : Array Oper} {rest : List Oper} {op : Oper} {a : Act} {w : World} {Q : Exit → Act → World → Prop} (hw : Region.wanted op (yielded ops a.tmps) = true) (x : Operand) (ho : op.op = .load 36 x)
    (b o : Nat) (hx : a.eval x = .pointer (some ⟨b, o, none⟩)) (e : Ex) (hc : C17 w b o e) (h : wpList Try.prog ops Q rest (a.put op.dst (.agg e.va)) w) : wpList Try.prog ops Q (op :: rest) a w :=
  wpList_wantF hw fun _ hK => wp_load_mid 36 x ho b o hx e.vs _ hc.range Try.underlying36 rfl (by kernel_rfl) (hK _ _ h)
set_option maxHeartbeats 1000000 in
theorem fsmall_yes (t : Ex) (w : World) (ht : t.At w) (hp : t.Nz w) (hn : t.nodes ≤ 2000) (hd : t.nest ≤ 30) :
    Calls Try.prog 14 #[.agg t.va] w fun e w' => e = .returned (.bool true) ∧ Below w.heap.size w w' := by
  have B0 := below_alloc w (.cells t.va 36)
  have X0 := Bex.newV w t
  have h := eCountF_any t _ (ht.kept B0)
  rw [show min t.nodes 2001 = t.nodes by omega] at h
  have i1 : (t.nodes : Int) ≤ 2000 := by omega
  go_enter Try.func14, Try.ntmps14
  go_wp2_with (refine wpList_load_exB rfl (.tmp 1) rfl _ rfl t X0 ?_)
  refine h.mono ?_
  rintro r w1 ⟨rfl, hb1⟩
  have X1 := X0.kept hb1
  have B1 := Below.next B0 hb1
  have h2 := eNestW_any t _ (ht.kept B1) (hp.kept B1) hn
  clear X0 B0 hb1 h
  go_wp2_with (refine wpList_load_exGF (by kernel_rfl) (.tmp 1) rfl _ _ rfl t (C17.ofB X1) ?_)
  refine h2.mono ?_
  rintro r w2 ⟨k, rfl, hk1, hk2, hb2⟩
  have i2 : (k : Int) ≤ 30 := by omega
  clear X1 h2
  go_wp2
  go_ret
  exact ⟨rfl, Below.next B1 hb2⟩
end Go.Proofs.Ytnhoehiaphdomaa

/- Layer 9: the sorted list of no names (slices.Values, Collect, Sort at a nil list). -/
namespace Go.Proofs.Ytnhoehiaphdomaa
open Go Go.RowKit Go.Shelf
attribute [local go_sem] Oper.semAt_some

set_option maxHeartbeats 1000000 in
theorem ev_values (w : World) : Calls Try.prog 28 #[.slice none 0 0] w fun e w' => e = .returned (.func (.func 40) #[] #[.pointer (some ⟨w.heap.size, 0, none⟩)]) ∧ w' = w.alloc (.cells #[.slice none 0 0] 43) := by
  go_enter Try.func28, Try.ntmps28
  go_wp2
  go_ret
  exact ⟨rfl, rfl⟩

set_option maxRecDepth 100000 in
set_option maxHeartbeats 1000000 in
theorem ev_values1 (l Bs : Nat) (J : List ByteArray → World → Prop) (W : World) (hBs : W.cell? ⟨Bs, 0, none⟩ = some (.slice none 0 0)) (h0 : J [] W) :
    CallsIn Fence.wide 2 Try.prog 40 #[.func (.yield l) #[] #[], .pointer (some ⟨Bs, 0, none⟩)] W fun e W' => (∃ v, e = .returned v) ∧ J [] W' := by
  refine callsIn_of_wp Try.func40 rfl trivial ?_ rfl
  simp only [Try.ntmps40, List.size_toArray, List.length_cons, List.length_nil, Nat.reduceAdd, Nat.reduceSub, Array.replicate_succ, Array.replicate_zero, List.push_toArray, List.append_toArray, List.nil_append, List.cons_append]
  gi_wp2
  gi_loopw [7] (fun i wr => i = .int .i64 0 ∧ J [] wr) (fun _ _ => 0)
  case atStart => exact ⟨rfl, h0⟩
  case round =>
    obtain ⟨rfl, hJs⟩ := hrel
    gi_wp2
    go_end0
    exact ⟨⟨_, rfl⟩, hJs⟩

theorem ev_values_stops (Bs n₀ : Nat) (w : World) (hBs : Bs < w.heap.size) (hc : w.cell? ⟨Bs, 0, none⟩ = some (.slice none 0 0)) :
    SeqStopsK Fence.wide 2 Try.prog 40 #[.pointer (some ⟨Bs, 0, none⟩)] (fun x : ByteArray => #[Value.string x]) (Below n₀) (fun ys => ys = []) (fun pre => pre = []) 0 w := fun l J Jx W hW _ _ hY h0 => by
  have hc' := (hW.cell (p := ⟨Bs, 0, none⟩) hBs).trans hc
  exact (ev_values1 l Bs J W hc' h0).mono fun e W' ⟨he, hj⟩ => ⟨he, .inl ⟨_, rfl, hj⟩⟩

set_option maxRecDepth 100000 in
set_option maxHeartbeats 2000000 in
theorem ev_appendSeq (B : Nat) (w : World) (hB : B < w.heap.size) (hc : w.cell? ⟨B, 0, none⟩ = some (.slice none 0 0)) :
    Calls Try.prog 48 #[.slice none 0 0, .func (.func 40) #[] #[.pointer (some ⟨B, 0, none⟩)]] w fun e w' => e = .returned (.slice none 0 0) ∧ Below w.heap.size w w' := by
  refine (callsIn_wide (n := 3)).1 ?_
  refine callsIn_of_wp_marks Try.func48 rfl trivial ?_ rfl
  simp only [Try.ntmps48, List.size_toArray, List.length_cons, List.length_nil, Nat.reduceAdd, Nat.reduceSub, Array.replicate_succ, Array.replicate_zero, List.push_toArray, List.append_toArray, List.nil_append, List.cons_append]
  gi_wp2
  have bS := Boxed.new w 43 (.slice none 0 0)
  have hB0 : Below w.heap.size w (w.alloc (.cells #[.slice none 0 0] 43)) := (Below.refl _ w).alloc (Nat.le_refl _) _
  refine wpIn_rangeFunc_ownG rfl (by omega) (gf := 40) (lb := #[.pointer (some ⟨B, 0, none⟩)]) rfl trivial (enters_of Try.func40 (by kernel_rfl) rfl)
    (ev_values_stops B w.heap.size _ (by simp; omega) ((hB0.cell (p := ⟨B, 0, none⟩) hB).trans hc)) belowK_t (belowK_b (by simp)) (Below.refl _ _) (fun _ => rfl)
    (fun pre W => (W.cell? ⟨w.heap.size, 0, none⟩ = some (.slice none 0 0) ∧ W.frozen? ⟨w.heap.size, 0, none⟩ = false) ∧ Below w.heap.size w W)
    (fun _ _ _ => False)
    (OwnFrom.and (Own.from (fun s A B row hs hg hr => ⟨cell_kept hs.1 hg hr, (frozen_kept hs.1 hg hr).trans hs.2⟩) _) (ownFrom_below (Nat.le_refl _) (by simp)))
    (fun _ _ _ _ _ hs _ _ => hs)
    ⟨⟨bS.cell, bS.frozen⟩, hB0⟩
    (fun x => { tmps := #[.slice none 0 0, .func (.func 40) #[] #[.pointer (some ⟨B, 0, none⟩)], .pointer (some ⟨w.heap.size, 0, none⟩), undef, .slice none 0 0, .string x, .func (.func 40) #[] #[.pointer (some ⟨B, 0, none⟩)], .string x, undef, undef, undef, undef, undef], defers := [] }) ?assign ?body ?done ?stop
  case assign =>
    intro l x W K hK
    gi_wp2
    exact hK
  case body =>
    rintro l pre x W _ hl
    exact absurd hl (Nat.not_lt_zero _)
  case done =>
    rintro D ys W hD rfl ⟨⟨hc, _⟩, hB⟩ hK
    gi_wp2
    refine ⟨by simp, .inl ⟨_, _, rfl, run_takeDeferred hK, ?_⟩⟩
    exact ⟨_, results_tmp rfl _ _ _, rfl, hB.trans (belowK_b (w := w) (Nat.le_refl _) W D _ _ (by simp at hD; omega) hK rfl rfl)⟩
  case stop =>
    rintro D c pre W _ _ h _
    exact h.elim
end Go.Proofs.Ytnhoehiaphdomaa

/- Layer 9: taken, where nothing is needed: slices.Sort, Backward, BinarySearch, Reverse at a nil list. -/
namespace Go.Proofs.Ytnhoehiaphdomaa
open Go Go.RowKit Go.Shelf
attribute [local go_sem] Oper.semAt_some

set_option maxRecDepth 100000 in
set_option maxHeartbeats 1000000 in
theorem ev_len64 (w : World) : Calls Try.prog 64 #[.int .u64 0] w fun e w' => e = .returned (.int .i64 0) ∧ Below w.heap.size w w' := by
  go_enter Try.func64, Try.ntmps64
  go_wp2
  go_ret
  exact ⟨by kernel_rfl, Below.refl _ _⟩
set_option maxRecDepth 100000 in
set_option maxHeartbeats 1000000 in
theorem ev_len (w : World) : Calls Try.prog 50 #[.int .u64 0] w fun e w' => e = .returned (.int .i64 0) ∧ Below w.heap.size w w' := by
  have h := ev_len64 w
  go_enter Try.func50, Try.ntmps50
  go_wp2_with fail
  refine h.mono ?_
  rintro _ w1 ⟨rfl, hb⟩
  go_wp2
  go_ret
  exact ⟨rfl, hb⟩
set_option maxRecDepth 100000 in
set_option maxHeartbeats 1000000 in
theorem ev_ins (w : World) : Calls Try.prog 55 #[.slice none 0 0, .int .i64 0, .int .i64 0] w fun e w' => (∃ v, e = .returned v) ∧ Below w.heap.size w w' := by
  go_enter Try.func55, Try.ntmps55
  go_wp2
  go_loopw [6] (fun i wr => i = .int .i64 1 ∧ wr = w) (fun _ _ => 0)
  case atStart => exact ⟨rfl, rfl⟩
  case round =>
    obtain ⟨rfl, rfl⟩ := hrel
    go_wp2
    go_end0
    exact ⟨⟨_, rfl⟩, Below.refl _ _⟩
set_option maxRecDepth 100000 in
set_option maxHeartbeats 1000000 in
theorem ev_pdq (w : World) : Calls Try.prog 49 #[.slice none 0 0, .int .i64 0, .int .i64 0, .int .i64 0] w fun e w' => (∃ v, e = .returned v) ∧ Below w.heap.size w w' := by
  have h := ev_ins w
  go_enter Try.func49, Try.ntmps49
  go_wp2
  go_loopw [1, 2, 3, 8] (fun p q r i wr => p = .int .i64 0 ∧ q = .int .i64 0 ∧ r = .int .i64 0 ∧ i = .bool true ∧ wr = w) (fun _ _ _ _ _ => 0)
  case atStart => exact ⟨rfl, rfl, rfl, rfl, rfl⟩
  case round =>
    obtain ⟨rfl, rfl, rfl, rfl, rfl⟩ := hrel
    go_wp2_with fail
    refine h.mono ?_
    rintro _ w1 ⟨⟨v, rfl⟩, hb⟩
    go_wp2
    refine bodyPost_ret (results_none rfl _ _ _) rfl ?_
    exact ⟨⟨_, rfl⟩, hb⟩
set_option maxRecDepth 100000 in
set_option maxHeartbeats 1000000 in
theorem ev_sort (w : World) : Calls Try.prog 39 #[.slice none 0 0] w fun e w' => (∃ v, e = .returned v) ∧ Below w.heap.size w w' := by
  have h := ev_len w
  go_enter Try.func39, Try.ntmps39
  go_wp2_with fail
  refine h.mono ?_
  rintro _ w1 ⟨rfl, hb⟩
  have h2 := ev_pdq w1
  go_wp2_with fail
  refine h2.mono ?_
  rintro _ w2 ⟨⟨v, rfl⟩, hb2⟩
  go_wp2
  go_end0
  exact ⟨⟨_, rfl⟩, Below.next hb hb2⟩
set_option maxHeartbeats 1000000 in
theorem ev_collect (B : Nat) (w : World) (hB : B < w.heap.size) (hc : w.cell? ⟨B, 0, none⟩ = some (.slice none 0 0)) :
    Calls Try.prog 38 #[.func (.func 40) #[] #[.pointer (some ⟨B, 0, none⟩)]] w fun e w' => e = .returned (.slice none 0 0) ∧ Below w.heap.size w w' := by
  have h := ev_appendSeq B w hB hc
  go_enter Try.func38, Try.ntmps38
  go_wp2_with fail
  refine h.mono ?_
  rintro _ w1 ⟨rfl, hb⟩
  go_wp2
  go_ret
  exact ⟨rfl, hb⟩
set_option maxHeartbeats 1000000 in
theorem ev_sorted (B : Nat) (w : World) (hB : B < w.heap.size) (hc : w.cell? ⟨B, 0, none⟩ = some (.slice none 0 0)) :
    Calls Try.prog 27 #[.func (.func 40) #[] #[.pointer (some ⟨B, 0, none⟩)]] w fun e w' => e = .returned (.slice none 0 0) ∧ Below w.heap.size w w' := by
  have h := ev_collect B w hB hc
  go_enter Try.func27, Try.ntmps27
  go_wp2_with fail
  refine h.mono ?_
  rintro _ w1 ⟨rfl, hb⟩
  have h2 := ev_sort w1
  go_wp2_with fail
  refine h2.mono ?_
  rintro _ w2 ⟨⟨v, rfl⟩, hb2⟩
  go_wp2
  go_ret
  exact ⟨rfl, Below.next hb hb2⟩
set_option maxRecDepth 100000 in
set_option maxHeartbeats 1000000 in
theorem ev_bsearch (s : ByteArray) (w : World) : Calls Try.prog 30 #[.slice none 0 0, .string s] w fun e w' => e = .returned (.tuple #[.int .i64 0, .bool false]) ∧ w' = w := by
  go_enter Try.func30, Try.ntmps30
  go_wp2
  go_loopw [7, 8] (fun i j wr => i = .int .i64 0 ∧ j = .int .i64 0 ∧ wr = w) (fun _ _ _ => 0)
  case atStart => exact ⟨rfl, rfl, rfl⟩
  case round =>
    obtain ⟨rfl, rfl, rfl⟩ := hrel
    go_wp2
    exact bodyPost_ret (v := .tuple #[.int .i64 0, .bool false]) (by simp [results, Try.results30, go_sem]) rfl ⟨rfl, rfl⟩
set_option maxRecDepth 100000 in
set_option maxHeartbeats 1000000 in
theorem ev_reverse (w : World) : Calls Try.prog 32 #[.slice none 0 0] w fun e w' => (∃ v, e = .returned v) ∧ w' = w := by
  go_enter Try.func32, Try.ntmps32
  go_wp2
  go_loopw [2, 3] (fun i j wr => i = .int .i64 0 ∧ j = .int .i64 (-1) ∧ wr = w) (fun _ _ _ => 0)
  case atStart => exact ⟨rfl, rfl, rfl⟩
  case round =>
    obtain ⟨rfl, rfl, rfl⟩ := hrel
    go_wp2
    go_end0
    exact ⟨⟨_, rfl⟩, rfl⟩
set_option maxHeartbeats 1000000 in
theorem ev_backward (ao : Option Addr) (n c : Nat) (w : World) : Calls Try.prog 29 #[.slice ao n c] w fun e w' => e = .returned (.func (.func 41) #[] #[.pointer (some ⟨w.heap.size, 0, none⟩)]) ∧ w' = w.alloc (.cells #[.slice ao n c] 43) := by
  go_enter Try.func29, Try.ntmps29
  go_wp2
  go_ret
  exact ⟨rfl, rfl⟩
end Go.Proofs.Ytnhoehiaphdomaa
