/- Layer 6: walk.Deep, and syntax.Nest. -/
import Derived.Test.YtnhoehiaphdomaaP5
import Derived.Deep.AppendLies
import Derived.Deep.DeepCutAuto
import Derived.Test.YtnhoehiaphdomaaP4
namespace Go.Proofs.Ytnhoehiaphdomaa
open Go.RowKit

def exv (e : Ex) : Value := .slice e.ao e.len e.cap
/-- A list of lists of expressions. -/
def LAt (w : World) (v : Value) (L : List Ex) : Prop := ∃ ao b o cap, v = .slice ao L.length cap ∧ (0 < L.length → ao = some ⟨b, o, none⟩) ∧ (∀ i e, L[i]? = some e → w.cell? ⟨b, o + i, none⟩ = some (exv e)) ∧ ∀ e ∈ L, e.At w ∧ e.Pl w ∧ 0 < e.len
theorem eown_lt {w : World} {base : Nat} {e : TypeId} {size : Nat} {v : Value} {n : Nat} {xs : List Value} (h : w.ownsRow base e size v n xs) {b : Nat} (hb : v.ownBlock = some b) : base ≤ b ∧ b < w.heap.size := by
  obtain ⟨_, ⟨rfl, _⟩ | ⟨g, cap, cur, rfl, hg, hh, _⟩⟩ := h
  · cases hb
  · have : g = b := by simpa [Value.ownBlock] using hb
    subst this
    exact ⟨hg, by rcases Nat.lt_or_ge g w.heap.size with h1 | h1; exact h1; rw [Array.getElem?_eq_none h1] at hh; cases hh⟩
theorem eown_blk {w w' : World} {base : Nat} {e : TypeId} {size : Nat} {v : Value} {n : Nat} {xs : List Value} (h : w.ownsRow base e size v n xs) (hb : ∀ b, v.ownBlock = some b → w'.heap[b]? = w.heap[b]?) : w'.ownsRow base e size v n xs := by
  obtain ⟨hl, h⟩ := h
  refine ⟨hl, ?_⟩
  rcases h with ⟨rfl, hn⟩ | ⟨g, cap, cur, rfl, hg, hh, hr⟩
  · exact Or.inl ⟨rfl, hn⟩
  · exact Or.inr ⟨g, cap, cur, rfl, hg, by rw [hb g rfl]; exact hh, hr⟩
theorem eown_up {w w' : World} {base : Nat} {e : TypeId} {size : Nat} {v : Value} {n : Nat} {xs : List Value} (h : w.ownsRow base e size v n xs) (hb : Below w.heap.size w w') : w'.ownsRow base e size v n xs :=
  eown_blk h fun b e => hb.block b (eown_lt h e).2
theorem eown_form {w : World} {base : Nat} {e : TypeId} {size : Nat} {v : Value} {n : Nat} {xs : List Value} (h : w.ownsRow base e size v n xs) : ∃ ao cap, v = .slice ao n cap := by
  obtain ⟨_, ⟨rfl, rfl⟩ | ⟨g, cap, cur, rfl, _⟩⟩ := h
  · exact ⟨none, 0, rfl⟩
  · exact ⟨_, cap, rfl⟩
theorem Keys.kept {w w' : World} {es : Array MapEntry} {ks : List (Addr × Nat)} (h : Keys w es ks) (hb : Below w.heap.size w w') : Keys w' es ks := ⟨h.keys, h.vals, fun k hk => (h.plain k hk).kept hb⟩
theorem eblock_lt {w : World} {k : Nat} {o : Obj} (h : w.heap[k]? = some o) : k < w.heap.size := by
  rcases Nat.lt_or_ge k w.heap.size with h1 | h1
  · exact h1
  · rw [Array.getElem?_eq_none h1] at h; cases h
theorem kids_pre {L : List Ex} {j q : Nat} {e : Ex} (he : L[j]? = some e) (hq : q < e.len) : nsum (kids (L.take j) ++ (List.range (q + 1)).map e.ps) ≤ nsum (kids L) := by
  have hj : j < L.length := by
    rcases Nat.lt_or_ge j L.length with h | h
    · exact h
    · rw [List.getElem?_eq_none h] at he; cases he
  have e1 : L = L.take j ++ e :: L.drop (j + 1) := by
    have h1 := (List.take_append_drop j L).symm
    have h2 : L.drop j = L[j] :: L.drop (j + 1) := List.drop_eq_getElem_cons hj
    have h3 : L[j] = e := by rw [List.getElem?_eq_getElem hj] at he; exact Option.some.inj he
    rw [h2, h3] at h1
    exact h1
  have e2 : kids L = kids (L.take j) ++ (kid e ++ kids (L.drop (j + 1))) := by
    conv => lhs; rw [e1]
    unfold kids
    rw [List.flatMap_append, List.flatMap_cons]
  have e3 : kid e = (List.range (q + 1)).map e.ps ++ ((List.range (e.len - (q + 1))).map (fun i => e.ps (q + 1 + i))) := by
    unfold kid
    conv => lhs; rw [show e.len = (q + 1) + (e.len - (q + 1)) by omega, List.range_add, List.map_append, List.map_map]
    rfl
  rw [e2, e3, nsum_append, nsum_append, nsum_append, nsum_append]
  omega
theorem kids_take {L : List Ex} {j : Nat} {e : Ex} (he : L[j]? = some e) : kids (L.take (j + 1)) = kids (L.take j) ++ (List.range e.len).map e.ps := by
  rw [List.take_add_one, he]
  unfold kids
  rw [List.flatMap_append]
  simp [kid]
/-- Where nextLevel stands: the map in block w.heap.size, the next level v. -/
structure NL (w wr : World) (v : Value) (done nx : List Ex) : Prop where
  bl : Below w.heap.size w wr
  mp : ∃ es c, wr.heap[w.heap.size]? = some (.map es c) ∧ Keys wr es (nx.map ekey)
  own : wr.ownsRow (w.heap.size + 1) 34 1 v nx.length (nx.map exv)
  nm : NM done nx
theorem NL.step {w wr w' : World} {v : Value} {done nx : List Ex} (h : NL w wr v done nx) (hb : Below wr.heap.size wr w') : NL w w' v done nx := by
  obtain ⟨es, c, h1, h2⟩ := h.mp
  exact ⟨Below.next h.bl hb, ⟨es, c, by rw [hb.block _ (eblock_lt h1)]; exact h1, h2.kept hb⟩, eown_up h.own hb, h.nm⟩
theorem NL.nil (w : World) : NL w (w.alloc (.map #[] 0)) (.slice none 0 0) [] [] :=
  ⟨below_alloc _ _, ⟨#[], 0, heap_alloc_new _ _, ⟨rfl, by simp, by simp⟩⟩, World.ownsRow_nil _ _ _ _, NM.nil⟩

theorem lat_of_own {w wr : World} {v : Value} {done nx : List Ex} (h : NL w wr v done nx) (hA : ∀ e ∈ nx, e.At wr ∧ e.Pl wr ∧ 0 < e.len) : LAt wr v nx := by
  obtain ⟨hl, ⟨rfl, hn⟩ | ⟨g, cap, cur, rfl, hg, hh, hr⟩⟩ := h.own
  · have : nx = [] := List.eq_nil_of_length_eq_zero hn
    subst this
    exact ⟨none, 0, 0, 0, rfl, fun h => absurd h (Nat.lt_irrefl 0), by simp, by simp⟩
  · refine ⟨_, g, 0, cap, rfl, fun _ => rfl, fun i e he => ?_, hA⟩
    obtain ⟨_, _, _, ht⟩ := hr
    have hi : i < nx.length := by
      rcases Nat.lt_or_ge i nx.length with h | h
      · exact h
      · rw [List.getElem?_eq_none h] at he; cases he
    have h1 : (cur.toList.take (nx.length * 1))[i]? = some (exv e) := by rw [ht, List.getElem?_map, he]; rfl
    rw [List.getElem?_take, if_pos (by omega)] at h1
    have h2 : cur[i]? = some (exv e) := by simpa using h1
    simp [World.cell?, hh, h2]
theorem Try.infoExs : (Try.prog.info? 34).map (fun i => (i.zero, i.size, i.bytes)) = some (some (.slice none 0 0), 1, 24) := by kernel_rfl
theorem put_facts {w W4 : World} {v : Value} {done nx : List Ex} (h : NL w W4 v done nx) (x : Ex) (hx : x.Pl W4) (hl : 0 < x.len) (hin : ekey x ∉ nx.map ekey) :
    ∃ W5, (Instr.mapUpdate 80 (.map (some w.heap.size)) (.agg #[.pointer (some ⟨x.b, x.o, none⟩), .pointer none, .int .i64 x.len]) (.agg #[])).run Try.prog W4 = .ok () W5 ∧ Below w.heap.size w W5 ∧ (∃ es c, W5.heap[w.heap.size]? = some (.map es c) ∧ Keys W5 es ((nx ++ [x]).map ekey)) ∧
      W5.ownsRow (w.heap.size + 1) 34 1 v nx.length (nx.map exv) ∧ W5.heap.size = W4.heap.size := by
  obtain ⟨es, c, hm, hk⟩ := h.mp
  have pb : PlainAt W4 x.b := hx.b hl
  have ml := eblock_lt hm
  refine ⟨_, run_put_place W4 _ es c hm ⟨x.b, x.o, none⟩ x.len pb (nx.map ekey) hk hin, ?_, ⟨es.push { key := keyV ⟨x.b, x.o, none⟩ x.len, val := .agg #[], born := c }, c + 1, ?_, ?_⟩, ?_, ?_⟩
  · refine ⟨h.bl.os, h.bl.tape, h.bl.output, by simpa using h.bl.size, fun k hk => ?_⟩
    have : w.heap.size ≠ k := by omega
    simp only [Array.getElem?_setIfInBounds, this, if_false]
    exact h.bl.block k hk
  · simp [ml]
  · have hp : ∀ b, PlainAt W4 b → PlainAt { W4 with heap := W4.heap.setIfInBounds w.heap.size (.map (es.push { key := keyV ⟨x.b, x.o, none⟩ x.len, val := .agg #[], born := c }) (c + 1)) } b := fun b ⟨cc, t, hb⟩ => by
      refine ⟨cc, t, ?_⟩
      have : w.heap.size ≠ b := by rintro rfl; rw [hm] at hb; cases hb
      simp only [Array.getElem?_setIfInBounds, this, if_false]
      exact hb
    refine ⟨?_, ?_, ?_⟩
    · rw [List.map_append, List.map_append, ← hk.keys]; simp [ekey]
    · intro e he
      simp only [Array.toList_push, List.mem_append, List.mem_singleton] at he
      rcases he with he | rfl
      · exact hk.vals e he
      · rfl
    · intro k hk2
      rw [List.map_append] at hk2
      rcases List.mem_append.1 hk2 with h1 | h1
      · exact hp _ (hk.plain k h1)
      · have : k = ekey x := by simpa using h1
        subst this
        exact hp _ pb
  · refine eown_blk h.own fun b hb => ?_
    have := (eown_lt h.own hb).1
    have : w.heap.size ≠ b := by omega
    simp only [Array.getElem?_setIfInBounds, this, if_false]
  · simp

set_option maxRecDepth 100000 in
set_option maxHeartbeats 4000000 in
theorem nextLevel_any (L : List Ex) (v : Value) (w : World) (hL : LAt w v L) (hn : nsum (kids L) ≤ 2000) : Calls Try.prog 37 #[v, .func (.func 26) #[] #[]] w fun r w' => ∃ v' L', r = .returned v' ∧ Below w.heap.size w w' ∧ LAt w' v' L' ∧ NM (kids L) L' := by
  obtain ⟨ao, b, o, cap, rfl, hnil, hc, hA⟩ := hL
  have hb : L.length ≤ 2000 := by
    have h1 := len_le_nsum (kids L)
    have : L.length ≤ (kids L).length := by
      clear hn hnil hc h1
      induction L with
      | nil => simp
      | cons e L ih =>
        have := ih (fun x hx => hA x (List.mem_cons_of_mem _ hx))
        have e1 : kids (e :: L) = kid e ++ kids L := rfl
        have e2 : (kid e).length = e.len := by unfold kid; simp
        have := (hA e (List.mem_cons_self ..)).2.2
        rw [e1, List.length_append, e2]; simp; omega
    omega
  have HC : Hid (∀ i e, L[i]? = some e → w.cell? ⟨b, o + i, none⟩ = some (exv e)) := hc
  have HA : Hid (∀ e ∈ L, e.At w ∧ e.Pl w ∧ 0 < e.len) := hA
  have HN : Hid (nsum (kids L) ≤ 2000) := hn
  have HI : Hid (NL w (w.alloc (.map #[] 0)) (.slice none 0 0) [] []) := NL.nil w
  have hmm := @run_makeMap Try.prog
  clear hc hA hn
  generalize hlen : L.length = len at *
  have HL : Hid (L.length = len) := hlen
  clear hlen
  go_enter Try.func37, Try.ntmps37
  go_wp2
  go_loopw [5, 18] (fun v i wr => ∃ (j : Nat) (nx : List Ex), j ≤ len ∧ i = .int .i64 j ∧ NL w wr v (kids (L.take j)) nx) (fun _ i _ => len - (intOf i).toNat)
  case atStart => exact ⟨0, [], Nat.zero_le _, rfl, HI.out⟩
  case round =>
    obtain ⟨j, nx, hj, rfl, hI⟩ := hrel
    clear HI
    have HI : Hid (NL w wr u5 (kids (L.take j)) nx) := hI
    clear hI
    by_cases hlt : j < len
    · have ij : (j : Int) < len := by omega
      have a0 := hnil (by omega)
      subst a0
      obtain ⟨e, he⟩ : ∃ e, L[j]? = some e := ⟨_, List.getElem?_eq_getElem (by rw [HL.out]; exact hlt)⟩
      have hm : e ∈ L := List.mem_of_getElem? he
      have HE : Hid (L[j]? = some e) := he
      have hcw : w.cell? ⟨b, o + j, none⟩ = some (.slice e.ao e.len e.cap) := HC.out j e he
      rw [(HA.out e hm).1.nil (HA.out e hm).2.2] at hcw
      have hc : wr.cell? ⟨b, o + j, none⟩ = some (.slice (some ⟨e.b, e.o, none⟩) e.len e.cap) := up HI.out.bl hcw
      have HAe : Hid (e.At w ∧ e.Pl w ∧ 0 < e.len) := HA.out e hm
      have hbe : e.len ≤ 9223372036854775807 := HAe.out.1.bound
      clear hcw hm he
      go_wp2
      clear hc
      go_loopw [5, 24] (fun v i wr => ∃ (q : Nat) (nx : List Ex), q ≤ e.len ∧ i = .int .i64 q ∧ NL w wr v (kids (L.take j) ++ (List.range q).map e.ps) nx) (fun _ i _ => e.len - (intOf i).toNat)
      case atStart => exact ⟨0, nx, Nat.zero_le _, rfl, by simpa using HI.out⟩
      case round =>
        clear HI
        obtain ⟨q, ny, hq, rfl, hI⟩ := hrel
        have HI : Hid (NL w wr u5 (kids (L.take j) ++ (List.range q).map e.ps) ny) := hI
        clear hI
        by_cases hqt : q < e.len
        · have iq : (q : Int) < e.len := by omega
          obtain ⟨x, hx⟩ : ∃ x, x = e.ps q := ⟨_, rfl⟩
          have HX : Hid (x = e.ps q) := hx
          have C : C17 wr e.b (e.o + q * 17) x := by rw [hx]; exact (HAe.out.1.kept HI.out.bl).cells hqt
          have P : x.At wr ∧ x.Pl wr := by rw [hx]; exact ⟨(HAe.out.1.kept HI.out.bl).part hqt, (HAe.out.2.1.kept HI.out.bl).part hqt⟩
          have X0 := Bex.newV wr x
          have B0 := below_alloc wr (.cells x.va 36)
          have hP := epartsV x (wr.alloc (.cells x.va 36))
          have HP : Hid (x.At wr ∧ x.Pl wr) := P
          have hbx : x.len ≤ 9223372036854775807 := P.1.bound
          clear hx P
          go_wp2_with (first | (refine wpList_load_ex rfl (.tmp 26) rfl _ _ rfl _ C ?_) | (refine wpList_new_ex rfl rfl rfl (.tmp 10) (.tmp 27) rfl rfl rfl _ rfl ?_) | (refine wpList_load_exB rfl (.tmp 10) rfl _ rfl _ X0 ?_))
          refine hP.mono ?_
          rintro _ w2 ⟨rfl, hb2⟩
          have B2 := Below.next B0 hb2
          have HI2 : Hid (NL w w2 u5 (kids (L.take j) ++ (List.range q).map e.ps) ny) := HI.out.step B2
          have HP2 : Hid (x.At w2 ∧ x.Pl w2) := ⟨HP.out.1.kept B2, HP.out.2.kept B2⟩
          clear X0 B0 hP hb2 B2 C HI HP
          have HK : Hid ((List.range (q + 1)).map e.ps = (List.range q).map e.ps ++ [x]) := by
            show _ = _
            rw [List.range_succ, List.map_append, HX.out]; rfl
          by_cases hz : x.len = 0
          · have dz : (x.len : Int) = 0 := by omega
            go_wp2
            go_roundw
            case rel =>
              refine ⟨q + 1, ny, by omega, by go_num, ?_⟩
              rw [HK.out, ← List.append_assoc]
              exact ⟨HI2.out.bl, HI2.out.mp, HI2.out.own, HI2.out.nm.empty hz⟩
            case measure => simp [intOf]; omega
          · have dz : ¬ (x.len : Int) = 0 := by omega
            have hlp : 0 < x.len := by omega
            have lx : (0 : Int) < x.len := by omega
            obtain ⟨es, c, hm, hk⟩ := HI2.out.mp
            have pb : PlainAt w2 x.b := HP2.out.2.b hlp
            have ea : x.ao = some ⟨x.b, x.o, none⟩ := HP2.out.1.nil hlp
            rw [ea]
            have HEA : Hid (x.ao = some ⟨x.b, x.o, none⟩) := ea
            clear ea
            have B3 := below_alloc w2 (.cells #[.pointer (some ⟨x.b, x.o, none⟩), .pointer none, .int .i64 x.len] 83)
            have hm3 : (w2.alloc (.cells #[.pointer (some ⟨x.b, x.o, none⟩), .pointer none, .int .i64 x.len] 83)).heap[w.heap.size]? = some (.map es c) := by rw [B3.block _ (eblock_lt hm)]; exact hm
            have hl : (Instr.lookup 80 (.map (some w.heap.size)) (.agg #[.pointer (some ⟨x.b, x.o, none⟩), .pointer none, .int .i64 x.len]) true).run Try.prog (w2.alloc (.cells #[.pointer (some ⟨x.b, x.o, none⟩), .pointer none, .int .i64 x.len] 83)) = _ := run_look_place _ _ es c hm3 ⟨x.b, x.o, none⟩ x.len (pb.kept B3) (ny.map ekey) (hk.kept B3)
            by_cases hin : ekey x ∈ ny.map ekey
            · have HIN : Hid (ekey x ∈ ny.map ekey) := hin
              have hdi : decide (((⟨x.b, x.o, none⟩ : Addr), x.len) ∈ ny.map ekey) = true := decide_eq_true hin
              rw [hdi] at hl
              clear hin hdi
              have B4 := Below.next B3 (below_alloc (w2.alloc (.cells #[.pointer (some ⟨x.b, x.o, none⟩), .pointer none, .int .i64 x.len] 83)) (.cells #[] 84))
              go_wp2
              go_roundw
              case rel =>
                refine ⟨q + 1, ny, by omega, by go_num, ?_⟩
                rw [HK.out, ← List.append_assoc]
                have h5 := HI2.out.step B4
                exact ⟨h5.bl, h5.mp, h5.own, h5.nm.old HIN.out⟩
              case measure => simp [intOf]; omega
            · have hdi : decide (((⟨x.b, x.o, none⟩ : Addr), x.len) ∈ ny.map ekey) = false := decide_eq_false hin
              rw [hdi] at hl
              have B4 := Below.next B3 (below_alloc (w2.alloc (.cells #[.pointer (some ⟨x.b, x.o, none⟩), .pointer none, .int .i64 x.len] 83)) (.cells #[] 84))
              have h5 := HI2.out.step B4
              obtain ⟨W5, hu, hb5, hm5, ho5, hs5⟩ := put_facts h5 x (HP2.out.2.kept B4) hlp hin
              obtain ⟨vo, vc, rfl⟩ := eown_form HI2.out.own
              have HM5 : Hid (Below w.heap.size w W5 ∧ (∃ es c, W5.heap[w.heap.size]? = some (.map es c) ∧ Keys W5 es ((ny ++ [x]).map ekey))) := ⟨hb5, hm5⟩
              have hsz : w.heap.size < W5.heap.size := by obtain ⟨_, _, h, _⟩ := hm5; exact eblock_lt h
              have HNM : Hid (NM (kids (L.take j) ++ (List.range q).map e.ps) ny) := h5.nm
              have hny : ny.length < 2000 := by
                have h1 := (HNM.out.new hlp).sum
                have h2 := len_le_nsum (ny ++ [x])
                have e1 : kids (L.take j) ++ (List.range q).map e.ps ++ [x] = kids (L.take j) ++ (List.range (q + 1)).map e.ps := by rw [HK.out, List.append_assoc]
                have h3 : nsum (kids (L.take j) ++ (List.range q).map e.ps ++ [x]) ≤ nsum (kids L) := by
                  rw [e1]
                  exact kids_pre HE.out hqt
                have := HN.out
                simp at h2; omega
              have ez : (W5.alloc (.cells #[.slice (some ⟨x.b, x.o, none⟩) x.len x.cap] 34)).heap.size = W5.heap.size + 1 := alloc_size _ _
              have hnew := heap_alloc_new W5 (.cells #[.slice (some ⟨x.b, x.o, none⟩) x.len x.cap] 34)
              have ho6 := ho5.alloc (.cells #[.slice (some ⟨x.b, x.o, none⟩) x.len x.cap] 34)
              obtain ⟨i0, hi, hz0, hz1, hz2⟩ := info_parts Try.infoExs
              clear hin hdi h5 hb5 hm5 ho5 B4 HI2 hm hk hm3 hs5
              go_wp2_with ((at_builtin; (refine wpList_append_lies _ rfl (.tmp 50) (.tmp 52) 70 rfl (w.heap.size + 1) 34 i0 _ 1 24 Try.underlying70 hi hz0 hz1 hz2 rfl (by decide) (.slice vo ny.length vc) ny.length (ny.map exv) rfl ho6 ⟨W5.heap.size, 0, none⟩ 1 1 [.slice (some ⟨x.b, x.o, none⟩) x.len x.cap] rfl rfl (World.news_of_block (cs := #[.slice (some ⟨x.b, x.o, none⟩) x.len x.cap]) (t := 34) (fr := (0, 0)) hnew) (by intro x hx; simp at hx; rcases hx with rfl; rfl) (by omega) (by unfold maxLen; omega) (by omega) (by omega) (W5.heap.size + 1) ez ?_); intro gg cap3 w6 hown6 hgrow hat hltg))
              have HN6 : Hid (NL w w6 (.slice (some ⟨gg, 0, none⟩) (ny.length + 1) cap3) (kids (L.take j) ++ (List.range q).map e.ps ++ [x]) (ny ++ [x])) := by
                obtain ⟨b5, es5, c5, m5, k5⟩ := HM5.out
                have g6 : Below (w.heap.size + 1) W5 w6 := ((Below.refl _ _).alloc (by omega) _).grown hgrow (by omega) (fun k hk => (eown_lt ho6 hk).1)
                have b6 : Below w.heap.size w w6 := b5.trans (g6.mono (by omega))
                have g7 : ∀ r ∈ ny ++ [x], PlainAt w6 r.b := fun r hr => by
                  obtain ⟨h1, h2⟩ := (HNM.out.new hlp).pos r hr
                  have hk : r ∈ kids L := by
                    rcases List.mem_append.1 h1 with h1 | h1
                    · rcases List.mem_append.1 h1 with h1 | h1
                      · obtain ⟨y, hy, hz⟩ := mem_kids.1 h1
                        exact mem_kids.2 ⟨y, List.mem_of_mem_take hy, hz⟩
                      · obtain ⟨i, hi, rfl⟩ := List.mem_map.1 h1
                        exact mem_kids.2 ⟨e, List.mem_of_getElem? HE.out, mem_kid.2 ⟨i, by have := List.mem_range.1 hi; omega, rfl⟩⟩
                    · have : r = x := by simpa using h1
                      subst this
                      exact mem_kids.2 ⟨e, List.mem_of_getElem? HE.out, mem_kid.2 ⟨q, hqt, HX.out⟩⟩
                  obtain ⟨y, hy, hz⟩ := mem_kids.1 hk
                  obtain ⟨i, hi, rfl⟩ := mem_kid.1 hz
                  exact (((HA.out y hy).2.1.part hi).b h2).kept b6
                refine ⟨b6, ⟨es5, c5, by rw [g6.block _ (by omega)]; exact m5, ⟨k5.keys, k5.vals, fun k hk => by obtain ⟨r, hr, rfl⟩ := List.mem_map.1 hk; exact g7 r hr⟩⟩, ?_, HNM.out.new hlp⟩
                rw [List.length_append, List.map_append, List.map_cons, List.map_nil]
                have := hown6
                rw [show exv x = .slice (some ⟨x.b, x.o, none⟩) x.len x.cap by unfold exv; rw [HEA.out]]
                exact this
              clear hown6 hgrow hat hltg
              go_wp2
              go_roundw
              case rel =>
                refine ⟨q + 1, ny ++ [x], by omega, by go_num, ?_⟩
                rw [HK.out, ← List.append_assoc]
                exact HN6.out
              case measure => simp [intOf]; omega
        · have e2 : q = e.len := by omega
          subst e2
          have d : ¬ (e.len : Int) < e.len := by omega
          go_wp2
          go_roundw
          case rel => exact ⟨j + 1, ny, by omega, by go_num, by rw [kids_take HE.out]; exact HI.out⟩
          case measure => simp [intOf]; omega
    · have e2 : len = j := by omega
      subst e2
      have d : ¬ (len : Int) < len := by omega
      go_wp2
      go_ret
      refine ⟨_, rfl, HI.out.bl, nx, ?_, ?_⟩
      · refine lat_of_own HI.out (fun r hr => ?_)
        obtain ⟨h1, h2⟩ := HI.out.nm.pos r hr
        obtain ⟨e, he, hx⟩ := mem_kids.1 h1
        obtain ⟨i, hi, rfl⟩ := mem_kid.1 hx
        have hA := HA.out e (List.mem_of_mem_take he)
        exact ⟨(hA.1.part hi).kept HI.out.bl, (hA.2.1.part hi).kept HI.out.bl, h2⟩
      · have := HI.out.nm
        rw [← HL.out, List.take_length] at this
        exact this

/-- A list of this one alone. -/
def lone1 (B : Nat) (t : Ex) : Ex := .mk 0 0 0 ⟨#[]⟩ ⟨#[]⟩ (.mk 0 0 0 0 none 0 0 0 0 fun _ => .dm) (.mk 0 0 0 0 none 0 0 0 0 fun _ => .dm) (some ⟨B, 0, none⟩) B 0 1 1 (fun _ => t) 0
theorem lone1_at {w : World} {B : Nat} {t : Ex} (h : t.At w) (hc : C17 w B 0 t) : (lone1 B t).At w :=
  ⟨⟨by decide, by decide⟩, ⟨⟨fun h => absurd h (Nat.lt_irrefl 0), by decide, fun i hi => absurd hi (Nat.not_lt_zero _)⟩, ⟨fun h => absurd h (Nat.lt_irrefl 0), by decide, fun i hi => absurd hi (Nat.not_lt_zero _)⟩⟩, fun _ => rfl, by decide, fun i hi => by
    have : i = 0 := by omega
    subst this
    exact ⟨by simpa using hc, h⟩⟩
end Go.Proofs.Ytnhoehiaphdomaa

/- Layer 6: lists of expressions that are written out; walk.Deep, syntax.Nest. -/
namespace Go.Proofs.Ytnhoehiaphdomaa
open Go.RowKit

theorem Try.infoEx : (Try.prog.info? 36).map (fun i => (i.zero, i.size, i.bytes)) = some (some (.agg zEx.toArray), 17, 200) := by kernel_rfl
theorem fill1_ex (t : Ex) : Instr.fill (fun i => some (i * 17, 17)) (Array.map (fun x => zEx[x % zEx.length]?.getD default) (Array.range 17)) [(0, Value.agg t.va)] = some t.va := by kernel_rfl
theorem fill2_ex (s t : Ex) : Instr.fill (fun i => some (i * 17, 17)) (Array.map (fun x => zEx[x % zEx.length]?.getD default) (Array.range 34)) [(0, Value.agg s.va), (1, Value.agg t.va)] = some (s.va ++ t.va) := by kernel_rfl
theorem fill3_ex (r s t : Ex) : Instr.fill (fun i => some (i * 17, 17)) (Array.map (fun x => zEx[x % zEx.length]?.getD default) (Array.range 51)) [(0, Value.agg r.va), (1, Value.agg s.va), (2, Value.agg t.va)] = some (r.va ++ s.va ++ t.va) := by kernel_rfl
theorem run_slice1_ex (t : Ex) (w : World) : (Instr.buildSlice 34 1 #[(0, .agg t.va)]).run Try.prog w = .ok (.slice (some ⟨w.heap.size, 0, none⟩) 1 1) (w.alloc (.cells t.va 36)) := by
  obtain ⟨i0, hi, hz0, hz1, hz2⟩ := info_parts Try.infoEx
  simp [Instr.buildSlice, run_underlying Try.underlying34, sizeOf, typeInfo, hi, hz0, hz1, zeroValue, newRow, Value.cells, fill1_ex]
theorem run_slice2_ex (s t : Ex) (w : World) : (Instr.buildSlice 34 2 #[(0, .agg s.va), (1, .agg t.va)]).run Try.prog w = .ok (.slice (some ⟨w.heap.size, 0, none⟩) 2 2) (w.alloc (.cells (s.va ++ t.va) 36)) := by
  obtain ⟨i0, hi, hz0, hz1, hz2⟩ := info_parts Try.infoEx
  simp [Instr.buildSlice, run_underlying Try.underlying34, sizeOf, typeInfo, hi, hz0, hz1, zeroValue, newRow, Value.cells, fill2_ex]
theorem run_slice3_ex (r s t : Ex) (w : World) : (Instr.buildSlice 34 3 #[(0, .agg r.va), (1, .agg s.va), (2, .agg t.va)]).run Try.prog w = .ok (.slice (some ⟨w.heap.size, 0, none⟩) 3 3) (w.alloc (.cells (r.va ++ s.va ++ t.va) 36)) := by
  obtain ⟨i0, hi, hz0, hz1, hz2⟩ := info_parts Try.infoEx
  simp [Instr.buildSlice, run_underlying Try.underlying34, sizeOf, typeInfo, hi, hz0, hz1, zeroValue, newRow, Value.cells, fill3_ex]
/-- A list that is written out, where its run is known. -/
theorem wpList_slice {ops : Array Oper} {rest : List Oper} {o : Oper} {a : Act} {w w' : World} {v : Value} {Q : Exit → Act → World → Prop} (hgd : o.guard = none) (t : TypeId) (n : Nat) (parts : Array (Nat × Operand)) (ho : o.op = .buildSlice t n parts) (vals : Array (Nat × Value)) (hv : (parts.map fun (i, x) => (i, a.eval x)) = vals)
    (hs : (Instr.buildSlice t n vals).run Try.prog w = .ok v w') (h : wpList Try.prog ops Q rest (a.put o.dst v) w') : wpList Try.prog ops Q (o :: rest) a w := by
  subst hv
  refine wpList_plain hgd fun _ hK => ?_
  unfold Oper.wp execOp
  simp only [ho, Sem.run_bind, hs, Result.andThen_ok, Sem.run_pure]
  exact hK _ _ h
theorem C17.ofB {w : World} {B : Nat} {e : Ex} (h : Bex w B e) : C17 w B 0 e := C17.of_range h.range
theorem plain_new (w : World) (c : Array Value) (t : TypeId) : PlainAt (w.alloc (.cells c t)) w.heap.size := ⟨c, t, heap_alloc_new _ _⟩
theorem LAt.kids_ne {w : World} {v : Value} {L : List Ex} (h : LAt w v L) (hl : 0 < L.length) : kids L ≠ [] := by
  obtain ⟨_, _, _, _, _, _, _, hA⟩ := h
  match L, hl with
  | e :: L, _ =>
    have h1 := (hA e (List.mem_cons_self ..)).2.2
    intro hq
    have : e.ps 0 ∈ kids (e :: L) := mem_kids.2 ⟨e, List.mem_cons_self .., mem_kid.2 ⟨0, h1, rfl⟩⟩
    rw [hq] at this
    cases this
theorem LAt.form {w : World} {v : Value} {L : List Ex} (h : LAt w v L) : ∃ ao cap, v = .slice ao L.length cap := by
  obtain ⟨ao, _, _, cap, h, _⟩ := h
  exact ⟨ao, cap, h⟩
theorem LAt.at {w : World} {v : Value} {L : List Ex} (h : LAt w v L) : ∀ e ∈ L, e.At w := by
  obtain ⟨_, _, _, _, _, _, _, hA⟩ := h
  exact fun e he => (hA e he).1
theorem deep_start (t : Ex) (w : World) (ht : t.At w) (hp : t.Pl w) : LAt (((w.alloc (.cells t.va 36)).alloc (.cells t.va 36)).alloc (.cells #[.slice (some ⟨w.heap.size + 1, 0, none⟩) 1 1] 34)) (.slice (some ⟨w.heap.size + 2, 0, none⟩) 1 1) [lone1 (w.heap.size + 1) t] := by
  have b1 := below_alloc w (.cells t.va 36)
  have b2 := below_alloc (w.alloc (.cells t.va 36)) (.cells t.va 36)
  have b3 := below_alloc ((w.alloc (.cells t.va 36)).alloc (.cells t.va 36)) (.cells #[.slice (some ⟨w.heap.size + 1, 0, none⟩) 1 1] 34)
  have e1 : (w.alloc (.cells t.va 36)).heap.size = w.heap.size + 1 := alloc_size _ _
  have e2 : ((w.alloc (.cells t.va 36)).alloc (.cells t.va 36)).heap.size = w.heap.size + 2 := by rw [alloc_size, e1]
  have hc := (C17.ofB (Bex.newV (w.alloc (.cells t.va 36)) t)).kept b3
  have hq := (plain_new (w.alloc (.cells t.va 36)) t.va 36).kept b3
  rw [e1] at hc hq
  have B := Below.next (Below.next b1 b2) b3
  refine ⟨some ⟨w.heap.size + 2, 0, none⟩, w.heap.size + 2, 0, 1, rfl, fun _ => rfl, fun i e he => ?_, fun e he => ?_⟩
  · match i, he with
    | 0, he =>
      have : lone1 (w.heap.size + 1) t = e := by simpa using he
      subst this
      have := heap_alloc_new ((w.alloc (.cells t.va 36)).alloc (.cells t.va 36)) (.cells #[.slice (some ⟨w.heap.size + 1, 0, none⟩) 1 1] 34)
      rw [e2] at this
      simp only [World.cell?, this]
      rfl
    | i + 1, he => simp at he
  · have : e = lone1 (w.heap.size + 1) t := by simpa using he
    subst this
    exact ⟨lone1_at (ht.kept B) hc, ⟨fun _ => hq, fun _ _ => hp.kept B⟩, Nat.one_pos⟩

set_option maxRecDepth 100000 in
set_option maxHeartbeats 4000000 in
theorem eDeep_any (t : Ex) (w : World) (ht : t.At w) (hp : t.Pl w) (hn : t.nodes ≤ 2000) : Calls Try.prog 25 #[.agg t.va, .func (.func 26) #[] #[], .int .i64 30] w fun e w' => e = .returned (.int .i64 (min t.nest 31 : Nat)) ∧ Below w.heap.size w w' := by
  have HS : Hid (LAt (((w.alloc (.cells t.va 36)).alloc (.cells t.va 36)).alloc (.cells #[.slice (some ⟨w.heap.size + 1, 0, none⟩) 1 1] 34)) (.slice (some ⟨w.heap.size + 2, 0, none⟩) 1 1) [lone1 (w.heap.size + 1) t] ∧ Below w.heap.size w (((w.alloc (.cells t.va 36)).alloc (.cells t.va 36)).alloc (.cells #[.slice (some ⟨w.heap.size + 1, 0, none⟩) 1 1] 34))) :=
    ⟨deep_start t w ht hp, Below.next (Below.next (below_alloc _ _) (below_alloc _ _)) (below_alloc _ _)⟩
  have HK : Hid (kids [lone1 (w.heap.size + 1) t] = [t]) := by show _ = _; rfl
  have X0 := Bex.newV w t
  have hsl := run_slice1_ex t
  clear ht hp
  go_enter Try.func25, Try.ntmps25
  go_wp2_with (first | (refine wpList_load_exB rfl (.tmp 3) rfl _ rfl t X0 ?_) | (refine wpList_slice rfl 34 1 #[(0, .tmp 9)] rfl #[(0, .agg t.va)] (by kernel_rfl) (hsl _) ?_))
  clear X0
  go_loopw [7, 8] (fun dv lv wr => ∃ (d : Nat) (L : List Ex), dv = .int .i64 d ∧ d ≤ 31 ∧ LAt wr lv L ∧ Below w.heap.size w wr ∧ nsum (kids L) ≤ 2000 ∧ d + dpth L = t.nest) (fun dv _ _ => 31 - (intOf dv).toNat)
  case atStart =>
    refine ⟨0, [lone1 (w.heap.size + 1) t], rfl, by omega, HS.out.1, HS.out.2, ?_, ?_⟩
    · rw [HK.out, nsum_one]; exact hn
    · unfold dpth; rw [HK.out]; show 0 + max t.nest 0 = t.nest; omega
  case round =>
    obtain ⟨d, L, rfl, hd, hL, hB, hN, hD⟩ := hrel
    clear HS HK
    obtain ⟨lo, lc, rfl⟩ := hL.form
    have HI : Hid (LAt wr (.slice lo L.length lc) L ∧ Below w.heap.size w wr ∧ nsum (kids L) ≤ 2000 ∧ d + dpth L = t.nest) := ⟨hL, hB, hN, hD⟩
    clear hL hB hN hD
    by_cases hl : 0 < L.length
    · have il : (0 : Int) < L.length := by omega
      by_cases h3 : d ≤ 30
      · have i3 : (d : Int) ≤ 30 := by omega
        go_wp2_with fail
        refine (nextLevel_any L _ wr HI.out.1 HI.out.2.2.1).mono ?_
        rintro _ w5 ⟨v', L', rfl, hb5, hL5, hM⟩
        have HJ : Hid (LAt w5 v' L' ∧ Below w.heap.size w w5 ∧ nsum (kids L') ≤ 2000 ∧ d + 1 + dpth L' = t.nest) := by
          refine ⟨hL5, Below.next HI.out.2.1 hb5, ?_, ?_⟩
          · have h1 := nsum_kids hL5.at
            have h2 := hM.sum
            have := HI.out.2.2.1
            omega
          · have := hM.deep HI.out.1.at (HI.out.1.kids_ne hl)
            have := HI.out.2.2.2
            omega
        clear hL5 hM hb5 HI
        go_wp2
        go_roundw
        case rel => exact ⟨d + 1, L', by go_num, by omega, HJ.out⟩
        case measure => simp [intOf]; omega
      · have i3 : ¬ (d : Int) ≤ 30 := by omega
        go_wp2
        go_ret
        exact ⟨ret_int (by have := HI.out.2.2.2; omega), HI.out.2.1⟩
    · have il : ¬ (0 : Int) < L.length := by omega
      have e0 : dpth L = 0 := by
        have : L = [] := List.eq_nil_of_length_eq_zero (by omega)
        subst this; rfl
      have HE : Hid (dpth L = 0) := e0
      clear e0
      go_wp2
      go_ret
      exact ⟨ret_int (by have := HI.out.2.2.2; have := HE.out; omega), HI.out.2.1⟩
set_option maxHeartbeats 1000000 in
theorem eNest_any (t : Ex) (w : World) (ht : t.At w) (hp : t.Pl w) (hn : t.nodes ≤ 2000) : Calls Try.prog 18 #[.agg t.va] w fun e w' => e = .returned (.int .i64 (min t.nest 31 : Nat)) ∧ Below w.heap.size w w' := by
  have B0 := below_alloc w (.cells t.va 36)
  have X0 := Bex.newV w t
  have h := eDeep_any t _ (ht.kept B0) (hp.kept B0) hn
  go_enter Try.func18, Try.ntmps18
  go_wp2_with (refine wpList_load_exB rfl (.tmp 1) rfl _ rfl t X0 ?_)
  refine h.mono ?_
  rintro r w1 ⟨rfl, hb1⟩
  clear X0
  go_wp2
  go_ret
  exact ⟨rfl, Below.next B0 hb1⟩
end Go.Proofs.Ytnhoehiaphdomaa

/- Layer 8: free.bound. -/
namespace Go.Proofs.Ytnhoehiaphdomaa
open Go.RowKit

/-- The names that stand in Part i, and not around. -/
def bnd (e : Ex) (i : Nat) : List ByteArray := if e.k = 6 then [e.tx, e.ar] else if (e.k = 4 ∨ e.k = 16) ∧ 0 < i then [e.tx] else []
theorem run_strs1 (s : ByteArray) (w : World) : (Instr.buildSlice 43 1 #[(0, .string s)]).run Try.prog w = .ok (.slice (some ⟨w.heap.size, 0, none⟩) 1 1) (w.alloc (.cells #[.string s] 9)) := by
  obtain ⟨i0, hi, hz0, hz1, hz2⟩ := info_parts Try.infoSt
  simp [Instr.buildSlice, run_underlying Try.underlying43, sizeOf, typeInfo, hi, hz0, hz1, zeroValue, newRow, Value.cells, Instr.fill]
  kernel_rfl
theorem sat1 (s : ByteArray) (w : World) {B : Nat} (hB : B = w.heap.size) : SAt (w.alloc (.cells #[.string s] 9)) (.slice (some ⟨B, 0, none⟩) 1 1) [s] := by
  subst hB
  refine ⟨_, w.heap.size, 0, 1, rfl, fun _ => rfl, (fun h => by cases h), by simp, fun i x hx => ?_⟩
  have h := heap_alloc_new w (.cells #[.string s] 9)
  match i, hx with
  | 0, hx => simp only [List.getElem?_cons_zero, Option.some.injEq] at hx; subst hx; simp only [World.cell?]; rw [h]; rfl
  | i + 1, hx => simp at hx
theorem sat2 (s t : ByteArray) (w : World) {B : Nat} (hB : B = w.heap.size) : SAt (w.alloc (.cells #[.string s, .string t] 9)) (.slice (some ⟨B, 0, none⟩) 2 2) [s, t] := by
  subst hB
  refine ⟨_, w.heap.size, 0, 2, rfl, fun _ => rfl, (fun h => by cases h), by simp, fun i x hx => ?_⟩
  have h := heap_alloc_new w (.cells #[.string s, .string t] 9)
  match i, hx with
  | 0, hx => simp only [List.getElem?_cons_zero, Option.some.injEq] at hx; subst hx; simp only [World.cell?]; rw [h]; rfl
  | 1, hx => simp only [List.getElem?_cons_succ, List.getElem?_cons_zero, Option.some.injEq] at hx; subst hx; simp only [World.cell?]; rw [h]; rfl
  | i + 2, hx => simp at hx
set_option maxRecDepth 100000 in
set_option maxHeartbeats 4000000 in
theorem bound_fr (e : Ex) (i : Nat) (w : World) : Calls Try.prog 23 #[.agg e.va, .int .i64 i] w fun r w' => ∃ v, r = .returned v ∧ SAt w' v (bnd e i) ∧ Below w.heap.size w w' := by
  have X0 := Bex.newV w e
  have x0 := X0.c0
  have x3 := X0.c3
  have x4 := X0.c4
  have B0 := below_alloc w (.cells e.va 36)
  have HB : Hid (Below w.heap.size w (w.alloc (.cells e.va 36))) := B0
  clear X0 B0
  generalize hk : e.k = k at *
  have HK : Hid (e.k = k) := hk
  clear hk
  have fin1 : ∀ u : World, Below w.heap.size w u → Below w.heap.size w (u.alloc (.cells #[.string e.tx] 9)) := fun u hu => hu.alloc hu.size _
  have fin2 : ∀ u : World, Below w.heap.size w u → Below w.heap.size w (u.alloc (.cells #[.string e.tx, .string e.ar] 9)) := fun u hu => hu.alloc hu.size _
  have HF : Hid ((∀ u : World, Below w.heap.size w u → Below w.heap.size w (u.alloc (.cells #[.string e.tx] 9))) ∧ ∀ u : World, Below w.heap.size w u → Below w.heap.size w (u.alloc (.cells #[.string e.tx, .string e.ar] 9))) := ⟨fin1, fin2⟩
  clear fin1 fin2
  go_enter Try.func23, Try.ntmps23
  by_cases h6 : k = 6
  · subst h6
    go_wp2
    go_ret
    refine ⟨_, rfl, ?_, HF.out.2 _ HB.out⟩
    have : bnd e i = [e.tx, e.ar] := by unfold bnd; rw [if_pos HK.out]
    rw [this]
    exact sat2 _ _ _ (by simp)
  · have d6 : (k == 6) = false := beq_eq_false_iff_ne.2 h6
    by_cases hi : 0 < i
    · have hI : (0 : Int) < i := by omega
      by_cases h4 : k = 4
      · subst h4
        have E : Hid (bnd e i = [e.tx]) := by show _ = _; unfold bnd; rw [if_neg (by rw [HK.out]; decide), if_pos ⟨Or.inl HK.out, hi⟩]
        go_wp2
        go_ret
        refine ⟨_, rfl, ?_, HF.out.1 _ HB.out⟩
        rw [E.out]
        exact sat1 _ _ (by simp)
      · have d4 : (k == 4) = false := beq_eq_false_iff_ne.2 h4
        by_cases h16 : k = 16
        · subst h16
          have E : Hid (bnd e i = [e.tx]) := by show _ = _; unfold bnd; rw [if_neg (by rw [HK.out]; decide), if_pos ⟨Or.inr HK.out, hi⟩]
          go_wp2
          go_ret
          refine ⟨_, rfl, ?_, HF.out.1 _ HB.out⟩
          rw [E.out]
          exact sat1 _ _ (by simp)
        · have d16 : (k == 16) = false := beq_eq_false_iff_ne.2 h16
          have E : Hid (bnd e i = []) := by show _ = _; unfold bnd; rw [HK.out, if_neg h6, if_neg (by rintro ⟨h | h, _⟩ <;> omega)]
          go_wp2
          go_ret
          refine ⟨_, rfl, ?_, HB.out⟩
          rw [E.out]
          exact SAt.nil _
    · have hI : ¬ (0 : Int) < i := by omega
      have E : Hid (bnd e i = []) := by show _ = _; unfold bnd; rw [HK.out, if_neg h6, if_neg (by rintro ⟨_, h⟩; omega)]
      by_cases h4 : k = 4
      · subst h4
        go_wp2
        go_ret
        refine ⟨_, rfl, ?_, HB.out⟩
        rw [E.out]
        exact SAt.nil _
      · have d4 : (k == 4) = false := beq_eq_false_iff_ne.2 h4
        by_cases h16 : k = 16
        · subst h16
          go_wp2
          go_ret
          refine ⟨_, rfl, ?_, HB.out⟩
          rw [E.out]
          exact SAt.nil _
        · have d16 : (k == 16) = false := beq_eq_false_iff_ne.2 h16
          go_wp2
          go_ret
          refine ⟨_, rfl, ?_, HB.out⟩
          rw [E.out]
          exact SAt.nil _
end Go.Proofs.Ytnhoehiaphdomaa

/- Layer 8: the names that are gathered, as data. -/
namespace Go.Proofs.Ytnhoehiaphdomaa
open Go.RowKit

def foldTo {α : Type} (g : Nat → α → α) : Nat → α → α
  | 0, x => x
  | n + 1, x => g n (foldTo g n x)
def anyTo (p : Nat → Bool) : Nat → Bool
  | 0 => false
  | n + 1 => anyTo p n || p n
/-- What an EVar puts behind those that were found. -/
def own1 (k : Int) (tx : ByteArray) (f h : List ByteArray) : List ByteArray := if (k == 3) && !inL tx h && !inL tx f then f ++ [tx] else f
def Ex.gth : Ex → List ByteArray → List ByteArray → List ByteArray
  | .dm, f, _ => f
  | .mk k n m tx ar ty gv ao b o len cap ps pl, f, h => foldTo (fun i x => (ps i).gth x (h ++ bnd (.mk k n m tx ar ty gv ao b o len cap ps pl) i)) len (own1 k tx f h)
def Ex.fr : Ex → ByteArray → Bool
  | .dm, _ => false
  | .mk k n m tx ar ty gv ao b o len cap ps pl, s => ((k == 3) && s.toList == tx.toList) || anyTo (fun i => (ps i).fr s && !inL s (bnd (.mk k n m tx ar ty gv ao b o len cap ps pl) i)) len
theorem inL_append (s : ByteArray) (a b : List ByteArray) : inL s (a ++ b) = (inL s a || inL s b) := by unfold inL; rw [List.any_append]
theorem inL_same {s t : ByteArray} (h : s.toList = t.toList) (l : List ByteArray) : inL s l = inL t l := by unfold inL; rw [h]
theorem inL_one (s t : ByteArray) : inL s [t] = (s.toList == t.toList) := by unfold inL; simp
theorem own1_mem (k : Int) (tx : ByteArray) (f h : List ByteArray) (s : ByteArray) : inL s (own1 k tx f h) = (inL s f || (((k == 3) && s.toList == tx.toList) && !inL s h)) := by
  unfold own1
  by_cases hs : s.toList = tx.toList
  · rw [inL_same hs f, inL_same hs h, beq_iff_eq.2 hs]
    split
    · rename_i hc
      simp only [Bool.and_eq_true, Bool.not_eq_true'] at hc
      obtain ⟨⟨h1, h2⟩, h3⟩ := hc
      rw [inL_append, inL_one, h1, h2, h3, beq_iff_eq.2 hs]; simp
    · rename_i hc
      rw [inL_same hs f]
      cases h1 : (k == 3) <;> cases h2 : inL tx h <;> cases h3 : inL tx f <;> simp_all
  · have e : (s.toList == tx.toList) = false := beq_eq_false_iff_ne.2 hs
    rw [e]
    split
    · rw [inL_append, inL_one, e]; simp
    · simp
theorem gth_mem (s : ByteArray) : ∀ (t : Ex) (f h : List ByteArray), inL s (t.gth f h) = (inL s f || (t.fr s && !inL s h)) := by
  intro t
  induction t with
  | dm => intro f h; show inL s f = (inL s f || (false && !inL s h)); simp
  | mk k n m tx ar ty gv ao b o len cap ps pl ih =>
    intro f h
    generalize he : Ex.mk k n m tx ar ty gv ao b o len cap ps pl = e at *
    have e1 : e.gth f h = foldTo (fun i x => (ps i).gth x (h ++ bnd e i)) len (own1 k tx f h) := by subst he; rfl
    have e2 : e.fr s = (((k == 3) && s.toList == tx.toList) || anyTo (fun i => (ps i).fr s && !inL s (bnd e i)) len) := by subst he; rfl
    rw [e1, e2]
    have key : ∀ j, inL s (foldTo (fun i x => (ps i).gth x (h ++ bnd e i)) j (own1 k tx f h)) = (inL s f || ((((k == 3) && s.toList == tx.toList) || anyTo (fun i => (ps i).fr s && !inL s (bnd e i)) j) && !inL s h)) := by
      intro j
      induction j with
      | zero => show inL s (own1 k tx f h) = _; rw [own1_mem]; simp [anyTo]
      | succ j hj =>
        show inL s ((ps j).gth (foldTo _ j _) (h ++ bnd e j)) = _
        rw [ih j, hj, inL_append]
        show _ = (inL s f || ((((k == 3) && s.toList == tx.toList) || (anyTo _ j || ((ps j).fr s && !inL s (bnd e j)))) && !inL s h))
        cases inL s f <;> cases ((k == 3) && s.toList == tx.toList) <;> cases anyTo (fun i => (ps i).fr s && !inL s (bnd e i)) j <;> cases (ps j).fr s <;> cases inL s (bnd e j) <;> cases inL s h <;> rfl
    exact key len
theorem own1_len (k : Int) (tx : ByteArray) (f h : List ByteArray) : (own1 k tx f h).length ≤ f.length + 1 := by
  unfold own1
  split <;> simp
theorem gth_len : ∀ (t : Ex) (f h : List ByteArray), (t.gth f h).length ≤ f.length + t.nodes := by
  intro t
  induction t with
  | dm => intro f h; show f.length ≤ f.length + _; omega
  | mk k n m tx ar ty gv ao b o len cap ps pl ih =>
    intro f h
    show (foldTo (fun i x => (ps i).gth x (h ++ bnd (.mk k n m tx ar ty gv ao b o len cap ps pl) i)) len (own1 k tx f h)).length ≤ f.length + (1 + sumTo (fun i => (ps i).nodes) len)
    have key : ∀ j, (foldTo (fun i x => (ps i).gth x (h ++ bnd (.mk k n m tx ar ty gv ao b o len cap ps pl) i)) j (own1 k tx f h)).length ≤ f.length + (1 + sumTo (fun i => (ps i).nodes) j) := by
      intro j
      induction j with
      | zero => show (own1 k tx f h).length ≤ _; have := own1_len k tx f h; simp only [sumTo]; omega
      | succ j hj =>
        show ((ps j).gth (foldTo _ j _) (h ++ bnd (.mk k n m tx ar ty gv ao b o len cap ps pl) j)).length ≤ _
        have := ih j (foldTo (fun i x => (ps i).gth x (h ++ bnd (.mk k n m tx ar ty gv ao b o len cap ps pl) i)) j (own1 k tx f h)) (h ++ bnd (.mk k n m tx ar ty gv ao b o len cap ps pl) j)
        simp only [sumTo]; omega
    exact key len
theorem bnd_len (e : Ex) (i : Nat) : (bnd e i).length ≤ 2 := by
  unfold bnd
  split
  · simp
  · split <;> simp
end Go.Proofs.Ytnhoehiaphdomaa
