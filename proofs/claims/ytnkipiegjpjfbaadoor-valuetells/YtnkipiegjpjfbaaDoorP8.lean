/- A region that draws its order, whose head is quiet in a class of worlds and whose tail is one behind the other: the head is walked once, then the tail from every world of the class. -/
import Derived.Test.YtnkipiegjpjfbaaDoorP1
import Derived.Test.YtnkipiegjpjfbaaDoorP7
import Derived.StillTail
import Derived.Lib.ItoaNum
import Derived.Lib.ItoaLen
import Derived.Laws.IdiomStrings
namespace Go.Proofs.YtnkipiegjpjfbaaDoor
open Go Go.RowKit

section
variable {P : Program} {ops : Array Oper} {md : Region.Mode} {C : World → Prop} {m : Nat}

theorem chain_down (hc : Region.chainB md ops m = true) {listed : Array Bool} (hS : Shut md ops listed) : ∀ t, m ≤ t → t < ops.size → listed.getD t false = true → listed.getD m false = true := by
  simp only [Region.chainB, List.all_eq_true, List.mem_range, Bool.or_eq_true, decide_eq_true_eq] at hc
  intro t
  induction t with
  | zero => intro h1 _ h3; have : m = 0 := by omega
            subst this; exact h3
  | succ t ih =>
    intro h1 h2 h3
    by_cases e : m = t + 1
    · rw [e]; exact h3
    rcases hc (t + 1) h2 with h | h
    · omega
    · obtain ⟨oj, hj, e, he, hb, hon⟩ := Region.waitsFor_spec h
      have := hS (t + 1) oj h3 hj e he hb
      rw [hon] at this
      exact ih (by omega) (by omega) this

theorem sink_all (hs : Region.sinkB md ops m = true) {listed : Array Bool} (hS : Shut md ops listed) {om : Oper} (hom : ops[m]? = some om) (hall : ∀ e ∈ om.after, Region.binds md e = true → listed.getD e.on false = true) : ∀ d i, i + d + 1 = m → listed.getD i false = true := by
  simp only [Region.sinkB, List.all_eq_true, List.mem_range, List.any_eq_true, Bool.and_eq_true, decide_eq_true_eq] at hs
  intro d
  induction d using Nat.strongRecOn with
  | ind d ih =>
    intro i hi
    obtain ⟨j, hj, hij, hw⟩ := hs i (by omega)
    obtain ⟨oj, hoj, e, he, hb, hon⟩ := Region.waitsFor_spec hw
    by_cases hjm : j = m
    · subst hjm
      rw [hom] at hoj
      cases hoj
      have := hall e he hb
      rwa [hon] at this
    · have hl := ih (m - 1 - j) (by omega) j (by omega)
      have := hS j oj hl hoj e he hb
      rwa [hon] at this

theorem gate2 (hs : Region.sinkB md ops m = true) (hc : Region.chainB md ops m = true) (listed : Array Bool) (j : Nat) (hS : Shut md ops listed) (hj : j ∈ Region.ready md ops listed) (hm : ¬ j < m) : ∀ i ∈ Region.ready md ops listed, ¬ i < m := by
  intro i hi him
  obtain ⟨_, oj, hoj, hall⟩ := mem_ready.1 hj
  have hlt := (Array.getElem?_eq_some_iff.1 hoj).1
  have hmlt : m < ops.size := by omega
  have hom : ops[m]? = some ops[m] := Array.getElem?_eq_getElem hmlt
  have key : ∀ e ∈ ops[m].after, Region.binds md e = true → listed.getD e.on false = true := by
    by_cases e : j = m
    · subst e
      rw [hom] at hoj
      cases hoj
      exact hall
    · have h1 : listed.getD m false = true := by
        have hc' := hc
        simp only [Region.chainB, List.all_eq_true, List.mem_range, Bool.or_eq_true, decide_eq_true_eq] at hc'
        rcases hc' j hlt with h | h
        · omega
        · obtain ⟨oj', hj', e', he', hb', hon'⟩ := Region.waitsFor_spec h
          rw [hoj] at hj'
          cases hj'
          have := hall e' he' hb'
          rw [hon'] at this
          exact chain_down hc hS (j - 1) (by omega) (by omega) this
      exact fun e he hb => hS m ops[m] h1 hom e he hb
  have h2 := sink_all hs hS hom key (m - 1 - i) i (by omega)
  have h3 := (mem_ready.1 hi).1
  rcases Nat.lt_or_ge i listed.size with h' | h'
  · simp [h'] at h2 h3; rw [h2] at h3; cases h3
  · simp [Array.getElem?_eq_none h'] at h2

theorem wpAny_of_prefix2 {R : Array Bool → Act → Prop} {Q : Exit → Act → World → Prop} {rest : Nat} (hg : ∀ (listed : Array Bool) (j : Nat), Shut md ops listed → j ∈ Region.ready md ops listed → ¬ j < m → ∀ i ∈ Region.ready md ops listed, ¬ i < m) : ∀ (fuel : Nat) (listed : Array Bool) (a : Act) (w : World), Shut md ops listed → C w →
    wpAnyP P md ops C m (fun listed a => ∀ w, C w → wpAny P md ops Q rest listed a w) fuel listed a → wpAny P md ops Q (fuel + rest) listed a w
  | 0, _, _, w, _, hw, h => by simpa using h.2 w hw
  | fuel + 1, listed, a, w, hS, hw, h => by
    rw [show fuel + 1 + rest = fuel + rest + 1 by omega]
    by_cases hx : ∃ j ∈ Region.ready md ops listed, ¬ j < m
    · obtain ⟨j, hj, hjm⟩ := hx
      have := wpAny_plus (h.1 (hg _ _ hS hj hjm) w hw) (fuel + 1)
      rwa [show fuel + 1 + rest = fuel + rest + 1 by omega] at this
    · have hall : ∀ j ∈ Region.ready md ops listed, j < m := fun j hj => Classical.byContradiction fun hc => hx ⟨j, hj, hc⟩
      refine ⟨fun h0 => ?_, fun i hi => ?_⟩
      · exact wpAny_normal (h.1 (by rw [h0]; intro i hi; cases hi) w hw) h0
      · exact wpOp_of_qOp hw (fun a' w' hw' h' => wpAny_of_prefix2 (R := R) hg fuel _ a' w' (hS.put hi) hw' h') (h.2 i hi (hall i hi))

def tailB (n : Nat) (l : List Oper) : Bool := decide (n ≤ l.length) && Region.noSelect l.toArray && Region.sinkB .any l.toArray n && Region.chainB .any l.toArray n && lexTo .any l.toArray n n 0 (Array.replicate l.length false) && Region.seqB .any l.toArray (l.length - n) n (listedTo n 0 (Array.replicate l.length false))

theorem wp_region_tail {l : List Oper} {id : Nat} {Q : Exit → Act → World → Prop} {a : Act} {w : World} (n : Nat) (hm : P.follows .mixedOrders = true) (hB : tailB n l = true) (hC : C { w with drawn := w.drawn + 1 })
    (h : wpQuiet P l.toArray C (fun a' => ∀ w', C w' → wpList P l.toArray Q (l.drop n) a' w') (l.take n) a) : (Code.region id l.toArray true).wp P Q a w := by
  simp only [tailB, Bool.and_eq_true, decide_eq_true_eq] at hB
  obtain ⟨⟨⟨⟨⟨hn, h1⟩, h2⟩, h3⟩, h4⟩, h5⟩ := hB
  have e1 : (l.take n).length = n := by simp; omega
  have e2 : (l.drop n).length = l.length - n := by simp
  refine wp_region_any hm ?_
  have key := wpAnyP_lex (P := P) (C := C) (md := .any) (ops := l.toArray) (m := n) (R := fun listed a => ∀ w, C w → wpAny P .any l.toArray Q (l.length - n) listed a w) h1 (l.take n) 0 (Array.replicate l.length false) a
    (by intro j hj; rw [e1] at hj; simp [hj]) (by rw [e1]; exact h4) (by
      rw [e1]
      have mono : ∀ (l' : List Oper) (a : Act) (Q1 Q2 : Act → Prop), (∀ a, Q1 a → Q2 a) → wpQuiet P l.toArray C Q1 l' a → wpQuiet P l.toArray C Q2 l' a := by
        intro l'
        induction l' with
        | nil => intro a Q1 Q2 h12 hq; exact h12 a hq
        | cons o l' ih =>
          intro a Q1 Q2 h12 hq
          unfold wpQuiet at hq ⊢
          split
          · rename_i hw; rw [if_pos hw] at hq; exact Oper.quiet_mono (fun a' h' => ih a' Q1 Q2 h12 h') hq
          · rename_i hw; rw [if_neg hw] at hq; exact ih _ Q1 Q2 h12 hq
      refine mono _ _ _ _ (fun a' ha' w' hw' => ?_) h
      have := wpAny_of_seq (P := P) (md := .any) (ops := l.toArray) (Q' := Q) (l.drop n) n (listedTo n 0 (Array.replicate l.length false)) a' w' (by intro j; simp) (by rw [e2]; exact h5) (ha' w' hw')
      rwa [e2] at this)
  have := wpAny_of_prefix2 (R := fun _ _ => True) (Q := Q) (rest := l.length - n) (gate2 h2 h3) n (Array.replicate l.length false) a { w with drawn := w.drawn + 1 } (by intro k o hk; simp [Array.getElem?_replicate] at hk; split at hk <;> simp_all) hC (by rw [e1] at key; exact key)
  have e3 : n + (l.length - n) = l.length := by omega
  rw [e3] at this
  simpa using this
end

theorem wp_region_gr_tail {P : Program} {id : Nat} {Q : Exit → Act → World → Prop} {a : Act} {w : World} {l : List Oper} (n : Nat) (hm : P.follows .mixedOrders = true) (hB : tailB n l = true)
    (h : wpQuiet P l.toArray (fun w' => ∃ x : Gr w, w' = x.w) (fun a' => ∀ w', (∃ x : Gr w, w' = x.w) → wpList P l.toArray Q (l.drop n) a' w') (l.take n) a) : (Code.region id l.toArray true).wp P Q a w :=
  wp_region_tail (C := fun w' => ∃ x : Gr w, w' = x.w) n hm hB ⟨⟨_, (Below.refl _ _).drew⟩, rfl⟩ h
end Go.Proofs.YtnkipiegjpjfbaaDoor

/- Layer 3: the walk of the reference's Digits. -/
namespace Go.Proofs.YtnkipiegjpjfbaaDoor
open Go.RowKit

/-- Of N's digits l are written, u is left. -/
def DI (N u : Nat) (l : List UInt8) : Prop := (u ≠ 0 ∨ l = [] → Lib.decDigits N = Lib.decDigits u ++ l) ∧ (u = 0 → l ≠ [] → Lib.decDigits N = l)
theorem DI.step {N u : Nat} {l : List UInt8} (h : DI N u l) (hu : u ≠ 0 ∨ l = []) : DI N (u / 10) (UInt8.ofNat (48 + u % 10) :: l) := by
  have e := h.1 hu
  rw [Lib.decDigits.eq_1 u] at e
  by_cases h10 : u < 10
  · rw [dif_pos h10] at e
    have e0 : u / 10 = 0 := by omega
    have e1 : u % 10 = u := by omega
    rw [e0, e1]
    refine ⟨fun hh => ?_, fun _ _ => e⟩
    rcases hh with hh | hh
    · exact absurd rfl hh
    · cases hh
  · rw [dif_neg h10, List.append_assoc] at e
    exact ⟨fun _ => e, fun h0 => by omega⟩
theorem DI.len {N u : Nat} {l : List UInt8} (h : DI N u l) : l.length ≤ (Lib.decDigits N).length := by
  by_cases hu : u ≠ 0 ∨ l = []
  · rw [h.1 hu, List.length_append]; omega
  · have h1 : u = 0 := by omega
    have h2 : l ≠ [] := fun e => hu (Or.inr e)
    rw [h.2 h1 h2]; exact Nat.le_refl _

theorem conv1 (w : World) (b : UInt8) (e : Int) (he : e = (b.toNat : Nat)) : ∃ bx : ByteArray, bx = ⟨[b].toArray⟩ ∧ bx.size = 1 ∧
    (convert 60 9 (.slice (some ⟨w.heap.size, 0, none⟩) 1 1)).run Tryd.prog (w.alloc (.cells #[.int .u8 e] 5)) = .ok (.string bx) (w.alloc (.cells #[.int .u8 e] 5)) := by
  subst he
  refine ⟨_, rfl, rfl, ?_⟩
  exact run_convert_bytes_back (P := Tryd.prog) _ 60 9 5 ⟨w.heap.size, 0, none⟩ 1 [b] Tryd.underlying60 Tryd.underlying5 Tryd.underlying9 (fun j hj => by
    have : j = 0 := by simpa using hj
    subst this
    simp [Addr.add])
theorem bcons (b : UInt8) (l : List UInt8) : (⟨[b].toArray⟩ : ByteArray) ++ (⟨l.toArray⟩ : ByteArray) = ⟨(b :: l).toArray⟩ := by
  apply ByteArray.ext
  apply Array.ext'
  simp
theorem bstr_ne {l : List UInt8} (h : l ≠ []) : (⟨l.toArray⟩ : ByteArray) ≠ ⟨#[]⟩ := fun e => by
  have e2 : l.toArray = #[] := congrArg ByteArray.data e
  exact h (by simpa using congrArg Array.toList e2)
def strEmp : Value → Nat
  | .string s => 1 - s.size
  | _ => 0
theorem size_mk (l : List UInt8) : (⟨l.toArray⟩ : ByteArray).size = l.length := by
  show l.toArray.size = _
  simp

/-- In the loop: what is written so far. -/
structure DJ (N u : Nat) (sx : ByteArray) : Prop where
  di : ∃ l, sx = ⟨l.toArray⟩ ∧ DI N u l
theorem DJ.step {N u : Nat} {sx bx : ByteArray} (h : DJ N u sx) (hu : u ≠ 0 ∨ sx.size = 0) (hb : bx = ⟨[UInt8.ofNat (48 + u % 10)].toArray⟩) : DJ N (u / 10) (bx ++ sx) := by
  obtain ⟨l, rfl, hd⟩ := h
  subst hb
  refine ⟨_, bcons _ l, hd.step ?_⟩
  rcases hu with hu | hu
  · exact Or.inl hu
  · rw [size_mk] at hu
    exact Or.inr (List.length_eq_zero_iff.1 hu)
theorem DJ.len {N u : Nat} {sx : ByteArray} (h : DJ N u sx) : sx.size ≤ (Lib.decDigits N).length := by
  obtain ⟨l, rfl, hd⟩ := h
  rw [size_mk]; exact hd.len
theorem DJ.fin {N : Nat} {sx : ByteArray} (h : DJ N 0 sx) (hs : sx.size ≠ 0) : sx = ⟨(Lib.decDigits N).toArray⟩ := by
  obtain ⟨l, rfl, hd⟩ := h
  rw [size_mk] at hs
  rw [hd.2 rfl (fun e => hs (by rw [e]; rfl))]
theorem DJ.new (N : Nat) : DJ N N ⟨#[]⟩ := ⟨[], rfl, fun _ => by rw [List.append_nil], fun _ h => absurd rfl h⟩
theorem sz_ne {sx : ByteArray} (h : sx.size ≠ 0) : sx.toList.isEmpty = false := by
  obtain ⟨⟨l⟩⟩ := sx
  have hl : l.length ≠ 0 := h
  rw [show ((⟨⟨l⟩⟩ : ByteArray).toList) = l by simp]
  cases l with
  | nil => exact absurd rfl hl
  | cons _ _ => rfl
theorem ret_str {a b : ByteArray} (h : a = b) : Ending.returned (.string a) = Ending.returned (.string b) := by rw [h]
theorem sz_app (a b : ByteArray) : (a ++ b).size = a.size + b.size := by simp

set_option maxRecDepth 100000 in
set_option maxHeartbeats 4000000 in
theorem digits_pos (n : Int) (w : World) (h0 : 0 ≤ n) (h1 : n ≤ 9223372036854775807) :
    Calls Tryd.prog 50 #[.int .i64 n] w fun e w' => e = .returned (.string ⟨(Lib.itoa n).toArray⟩) ∧ Below w.heap.size w w' := by
  obtain ⟨N, hN⟩ : ∃ N : Nat, n = (N : Nat) := ⟨n.toNat, by omega⟩
  subst hN
  have HI : Hid (Lib.itoa (N : Nat) = Lib.decDigits N ∧ (Lib.decDigits N).length ≤ 21) := by
    have e : Lib.itoa (N : Nat) = Lib.decDigits N := by unfold Lib.itoa; rw [if_neg (by omega)]; rfl
    have := Lib.itoa_length_le (N : Nat) (by omega) (by omega)
    rw [e] at this
    exact ⟨e, this⟩
  have hn : ¬ ((N : Nat) : Int) < 0 := by omega
  have N1 : (N : Int) ≤ 9223372036854775807 := h1
  clear h0 h1
  generalize hR : (⟨(Lib.itoa (N : Nat)).toArray⟩ : ByteArray) = R
  have HR : Hid (R = ⟨(Lib.decDigits N).toArray⟩) := by show R = _; rw [← hR, HI.out.1]
  clear hR
  go_enter Tryd.func50, Tryd.ntmps50
  go_wp2
  go_loopw [0, 3] (fun nv sv wr => ∃ (u : Nat) (sx : ByteArray), nv = .int .i64 u ∧ sv = .string sx ∧ u ≤ N ∧ Hid (DJ N u sx ∧ Below w.heap.size w wr)) (fun nv sv _ => (intOf nv).toNat + strEmp sv)
  case atStart => exact ⟨N, ⟨#[]⟩, rfl, rfl, Nat.le_refl _, DJ.new N, Below.refl _ _⟩
  case round =>
    obtain ⟨u, sx, rfl, rfl, hu, HD⟩ := hrel
    have u1 : (u : Int) ≤ 9223372036854775807 := by omega
    have lz : sx.size ≤ 21 := Nat.le_trans HD.out.1.len HI.out.2
    by_cases hu0 : u = 0
    · subst hu0
      by_cases hl : sx.size = 0
      · have hse : sx = ⟨#[]⟩ := by
          apply ByteArray.ext
          exact Array.eq_empty_of_size_eq_zero hl
        subst hse
        obtain ⟨bx, hb, hz, hcv⟩ := conv1 wr 48 48 rfl
        have HN : Hid (DJ N 0 (bx ++ ⟨#[]⟩) ∧ (bx ++ ⟨#[]⟩).size = 1) := ⟨HD.out.1.step (Or.inr rfl) hb, by rw [sz_app, hz]; rfl⟩
        clear hb lz hl
        go_wp2
        go_roundw
        case rel => exact ⟨0, _, rfl, rfl, hu, HN.out.1, HD.out.2.alloc HD.out.2.size _⟩
        case measure => show 0 + (1 - (bx ++ (⟨#[]⟩ : ByteArray)).size) < 0 + (1 - 0); rw [HN.out.2]; omega
      · have hne := sz_ne hl
        have HN : Hid (sx = R) := by show sx = R; rw [HR.out]; exact HD.out.1.fin hl
        clear hl
        go_wp2
        go_ret
        exact ⟨ret_str HN.out, HD.out.2⟩
    · have hu1 : ((u : Int) != 0) = true := by rw [bne_iff_ne]; omega
      obtain ⟨bx, hb, hz, hcv⟩ := conv1 wr (UInt8.ofNat (48 + u % 10)) (48 + (u : Int) % 10) (by rw [UInt8.toNat_ofNat']; omega)
      have hd : ¬ ((u : Int) % 10 < 0) := by omega
      have HN : Hid (DJ N (u / 10) (bx ++ sx)) := HD.out.1.step (Or.inl hu0) hb
      have HZ : Hid (bx.size = 1) := hz
      clear hb
      go_wp2
      go_roundw
      case rel => exact ⟨u / 10, _, rfl, rfl, by omega, HN.out, HD.out.2.alloc HD.out.2.size _⟩
      case measure => show ((u : Int) / 10).toNat + (1 - (bx ++ sx).size) < ((u : Int)).toNat + (1 - sx.size); rw [sz_app, HZ.out]; omega

set_option maxRecDepth 100000 in
set_option maxHeartbeats 4000000 in
theorem digits_neg (n : Int) (w : World) (h0 : n < 0) (h1 : -9223372036854775808 ≤ n) :
    Calls Tryd.prog 50 #[.int .i64 n] w fun e w' => e = .returned (.string ⟨(Lib.itoa n).toArray⟩) ∧ Below w.heap.size w w' := by
  obtain ⟨N, hN⟩ : ∃ N : Nat, n = -(N : Nat) := ⟨n.natAbs, by omega⟩
  subst hN
  have HI : Hid (Lib.itoa (-(N : Nat)) = 45 :: Lib.decDigits N ∧ (Lib.decDigits N).length ≤ 21) := by
    have e : Lib.itoa (-(N : Nat)) = 45 :: Lib.decDigits N := by unfold Lib.itoa; rw [if_pos h0, show (-(N : Int)).natAbs = N by omega]
    have := Lib.itoa_length_le (-(N : Nat)) (by omega) (by omega)
    rw [e, List.length_cons] at this
    exact ⟨e, by omega⟩
  have N1 : (N : Int) ≤ 9223372036854775808 := by omega
  have N0 : 0 < N := by omega
  have hlt : (-(N : Int)) < 0 := h0
  clear h0 h1
  generalize hR : (⟨(Lib.itoa (-(N : Nat))).toArray⟩ : ByteArray) = R
  have HR : Hid (R = ⟨#[45]⟩ ++ ⟨(Lib.decDigits N).toArray⟩) := by
    show R = _
    rw [← hR, HI.out.1]
    exact (bcons 45 _).symm
  clear hR
  go_enter Tryd.func50, Tryd.ntmps50
  go_wp2
  go_loopw [0, 3] (fun nv sv wr => ∃ (u : Nat) (sx : ByteArray), nv = .int .i64 (-(u : Int)) ∧ sv = .string sx ∧ u ≤ N ∧ Hid (DJ N u sx ∧ (u = 0 → sx.size ≠ 0) ∧ Below w.heap.size w wr)) (fun nv _ _ => (intOf nv).natAbs)
  case atStart => exact ⟨N, ⟨#[]⟩, rfl, rfl, Nat.le_refl _, DJ.new N, fun h => by omega, Below.refl _ _⟩
  case round =>
    obtain ⟨u, sx, rfl, rfl, hu, HD⟩ := hrel
    have u1 : (u : Int) ≤ 9223372036854775808 := by omega
    have lz : sx.size ≤ 21 := Nat.le_trans HD.out.1.len HI.out.2
    by_cases hu0 : u = 0
    · subst hu0
      have hl := HD.out.2.1 rfl
      have hne := sz_ne hl
      have HN : Hid (⟨#[45]⟩ ++ sx = R ∧ Below w.heap.size w wr) := ⟨by rw [HR.out, HD.out.1.fin hl], HD.out.2.2⟩
      clear hl HD
      go_wp2
      go_ret
      exact ⟨ret_str HN.out.1, HN.out.2⟩
    · have hu1 : ((-(u : Int)) != 0) = true := by rw [bne_iff_ne]; omega
      by_cases hd : 0 < (u : Int) % 10
      · obtain ⟨bx, hb, hz, hcv⟩ := conv1 wr (UInt8.ofNat (48 + u % 10)) (48 + (u : Int) % 10) (by rw [UInt8.toNat_ofNat']; omega)
        have HN : Hid (DJ N (u / 10) (bx ++ sx) ∧ (bx ++ sx).size ≠ 0) := ⟨HD.out.1.step (Or.inl hu0) hb, by rw [sz_app, hz]; omega⟩
        clear hb
        go_wp2
        go_roundw
        case rel => exact ⟨u / 10, _, rfl, rfl, by omega, HN.out.1, fun _ => HN.out.2, HD.out.2.2.alloc HD.out.2.2.size _⟩
        case measure => simp [intOf]; omega
      · have hd0 : (u : Int) % 10 = 0 := by omega
        obtain ⟨bx, hb, hz, hcv⟩ := conv1 wr (UInt8.ofNat (48 + u % 10)) 48 (by rw [UInt8.toNat_ofNat']; omega)
        have HN : Hid (DJ N (u / 10) (bx ++ sx) ∧ (bx ++ sx).size ≠ 0) := ⟨HD.out.1.step (Or.inl hu0) hb, by rw [sz_app, hz]; omega⟩
        clear hb hd
        go_wp2
        go_roundw
        case rel => exact ⟨u / 10, _, rfl, rfl, by omega, HN.out.1, fun _ => HN.out.2, HD.out.2.2.alloc HD.out.2.2.size _⟩
        case measure => simp [intOf]; omega

theorem digits_any (n : Int) (w : World) (h0 : -9223372036854775808 ≤ n) (h1 : n ≤ 9223372036854775807) :
    Calls Tryd.prog 50 #[.int .i64 n] w fun e w' => e = .returned (.string ⟨(Lib.itoa n).toArray⟩) ∧ Below w.heap.size w w' := by
  by_cases h : n < 0
  · exact digits_neg n w h h0
  · exact digits_pos n w (by omega) h1
end Go.Proofs.YtnkipiegjpjfbaaDoor

/- Layer 2: the small functions, and the counts of nodes. -/
namespace Go.Proofs.YtnkipiegjpjfbaaDoor
open Go.RowKit

set_option maxHeartbeats 1000000 in
theorem arity_any (k : Int) (w : World) : Calls Tryd.prog 79 #[.int .i64 k] w fun e w' => e = .returned (.int .i64 (arityI k)) ∧ Below w.heap.size w w' := by
  unfold arityI
  by_cases h1 : k = 1
  · subst h1
    go_enter Tryd.func79, Tryd.ntmps79
    go_wp2
    go_ret
    exact ⟨rfl, Below.refl _ _⟩
  by_cases h2 : k = 2
  · subst h2
    go_enter Tryd.func79, Tryd.ntmps79
    go_wp2
    go_ret
    exact ⟨rfl, Below.refl _ _⟩
  by_cases h5 : k = 5
  · subst h5
    go_enter Tryd.func79, Tryd.ntmps79
    go_wp2
    go_ret
    exact ⟨rfl, Below.refl _ _⟩
  by_cases h3 : k = 3
  · subst h3
    go_enter Tryd.func79, Tryd.ntmps79
    go_wp2
    go_ret
    exact ⟨rfl, Below.refl _ _⟩
  by_cases h4 : k = 4
  · subst h4
    go_enter Tryd.func79, Tryd.ntmps79
    go_wp2
    go_ret
    exact ⟨rfl, Below.refl _ _⟩
  rw [if_neg h1, if_neg h2, if_neg h5, if_neg h3, if_neg h4]
  have b1 : (k == 1) = false := beq_eq_false_iff_ne.2 h1
  have b2 : (k == 2) = false := beq_eq_false_iff_ne.2 h2
  have b3 : (k == 3) = false := beq_eq_false_iff_ne.2 h3
  have b4 : (k == 4) = false := beq_eq_false_iff_ne.2 h4
  have b5 : (k == 5) = false := beq_eq_false_iff_ne.2 h5
  clear h1 h2 h3 h4 h5
  go_enter Tryd.func79, Tryd.ntmps79
  go_wp2
  go_ret
  exact ⟨rfl, Below.refl _ _⟩

set_option maxHeartbeats 1000000 in
theorem isLabel_any (n : Strs) (g : Grid) (a : Int) (w : World) (hn : n.At w) : Calls Tryd.prog 80 #[.agg #[.slice n.ao n.len n.cap, .slice g.ao g.len g.cap], .int .i64 a] w fun e w' => e = .returned (.bool (inR n.len a)) ∧ Below w.heap.size w w' := by
  have hnb := hn.bound
  unfold inR
  cases h0 : decide (0 ≤ a)
  · go_enter Tryd.func80, Tryd.ntmps80
    go_wp2
    go_ret
    exact ⟨rfl, below_alloc _ _⟩
  · go_enter Tryd.func80, Tryd.ntmps80
    go_wp2
    go_ret
    exact ⟨rfl, below_alloc _ _⟩

set_option maxHeartbeats 2000000 in
theorem boundsFormed_any (n : Strs) (g : Grid) (t : Ty) (w : World) (hn : n.At w) : Calls Tryd.prog 81 #[.agg #[.slice n.ao n.len n.cap, .slice g.ao g.len g.cap], .agg #[.int .i64 t.k, .int .i64 t.l, .slice t.ao t.len t.cap, .int .i64 t.h, .int .i64 t.e]] w fun e w' => e = .returned (.bool (bndI n.len t.k t.h t.e)) ∧ Below w.heap.size w w' := by
  obtain ⟨L0, X0, B0⟩ := start_lt w n g t
  have hn2 := hn.kept B0
  unfold latO tyO at *
  have HE : Hid (bndI n.len t.k t.h t.e = if t.k = 4 then inR n.len t.h && ((t.e == -1) || inR n.len t.e) else (t.h == 0) && (t.e == 0)) := rfl
  by_cases h4 : t.k = 4
  · have b4 : (t.k != 4) = false := by simp [h4]
    have HE2 : Hid (bndI n.len t.k t.h t.e = (inR n.len t.h && ((t.e == -1) || inR n.len t.e))) := by show bndI n.len t.k t.h t.e = _; rw [HE.out, if_pos h4]
    clear h4 HE
    go_enter Tryd.func81, Tryd.ntmps81
    go_wp2_with fail
    refine (isLabel_any n g t.h _ hn2).mono ?_
    rintro e w1 ⟨rfl, hb1⟩
    have L1 := L0.kept hb1
    have X1 := X0.kept hb1
    have B1 := Below.next B0 hb1
    have hn3 := hn2.kept hb1
    have c0 := L1.c0
    have c1 := L1.c1
    have x4 := X1.c4
    clear L0 X0 hb1 hn2 B0
    cases h1 : inR n.len t.h
    · go_wp2
      go_ret
      exact ⟨by rw [HE2.out, h1]; rfl, B1⟩
    · cases h2 : (t.e == -1)
      · go_wp2_with fail
        refine (isLabel_any n g t.e _ hn3).mono ?_
        rintro e w2 ⟨rfl, hb2⟩
        go_wp2
        go_ret
        exact ⟨by rw [HE2.out, h1, h2]; rfl, Below.next B1 hb2⟩
      · go_wp2
        go_ret
        exact ⟨by rw [HE2.out, h1, h2]; rfl, B1⟩
  · have b4 : (t.k != 4) = true := by simp [h4]
    have HE2 : Hid (bndI n.len t.k t.h t.e = ((t.h == 0) && (t.e == 0))) := by show bndI n.len t.k t.h t.e = _; rw [HE.out, if_neg h4]
    clear h4 HE
    cases h1 : (t.h == 0)
    · go_enter Tryd.func81, Tryd.ntmps81
      go_wp2
      go_ret
      exact ⟨by rw [HE2.out, h1]; rfl, B0⟩
    · go_enter Tryd.func81, Tryd.ntmps81
      go_wp2
      go_ret
      exact ⟨by rw [HE2.out, h1]; rfl, B0⟩


set_option maxHeartbeats 2000000 in
theorem rNodes_any : ∀ (t : Ty) (w : World), t.At w → Calls Tryd.prog 36 #[.agg #[.int .i64 t.k, .int .i64 t.l, .slice t.ao t.len t.cap, .int .i64 t.h, .int .i64 t.e]] w fun e w' => e = .returned (.int .i64 (min t.nodes 41 : Nat)) ∧ Below w.heap.size w w' := by
  intro t
  induction t with
  | dm => intro w hAt; exact hAt.elim
  | mk k l h e ao b o len cap ps ih =>
    intro w hAt
    show Calls Tryd.prog 36 #[.agg #[.int .i64 k, .int .i64 l, .slice ao len cap, .int .i64 h, .int .i64 e]] w fun r w' => r = .returned (.int .i64 (min (1 + sumTo (fun i => (ps i).nodes) len) 41 : Nat)) ∧ Below w.heap.size w w'
    have X0 := Bx.new w (.mk k l h e ao b o len cap ps)
    have hb : len ≤ 9223372036854775807 := hAt.bound
    have hnil : 0 < len → ao = some ⟨b, o, none⟩ := hAt.nil
    have hA1 := hAt.kept (below_alloc w (.cells #[.int .i64 k, .int .i64 l, .slice ao len cap, .int .i64 h, .int .i64 e] 43))
    have B0 := below_alloc w (.cells #[.int .i64 k, .int .i64 l, .slice ao len cap, .int .i64 h, .int .i64 e] 43)
    have HS : Hid (Bx (w.alloc (.cells #[.int .i64 k, .int .i64 l, .slice ao len cap, .int .i64 h, .int .i64 e] 43)) w.heap.size (.mk k l h e ao b o len cap ps) ∧ Ty.At (w.alloc (.cells #[.int .i64 k, .int .i64 l, .slice ao len cap, .int .i64 h, .int .i64 e] 43)) (.mk k l h e ao b o len cap ps) ∧ Below w.heap.size w (w.alloc (.cells #[.int .i64 k, .int .i64 l, .slice ao len cap, .int .i64 h, .int .i64 e] 43))) := ⟨X0, hA1, B0⟩
    clear X0 hA1 B0 hAt
    go_enter Tryd.func36, Tryd.ntmps36
    go_wp2
    go_loopw [3, 4] (fun m i wr => ∃ (q j : Nat), j ≤ len ∧ m = .int .i64 q ∧ i = .int .i64 j ∧ q ≤ 81 ∧ min q 41 = min (1 + sumTo (fun i => (ps i).nodes) j) 41 ∧ Bx wr w.heap.size (.mk k l h e ao b o len cap ps) ∧ Ty.At wr (.mk k l h e ao b o len cap ps) ∧ Below w.heap.size w wr) (fun _ i _ => len - (intOf i).toNat)
    case atStart => exact ⟨1, 0, Nat.zero_le _, rfl, rfl, by omega, rfl, HS.out⟩
    case round =>
      obtain ⟨q, j, hj, rfl, rfl, hq, hm, hX, hA, hB⟩ := hrel
      clear HS
      have x2 : wr.cell? ⟨w.heap.size, 2, none⟩ = some (.slice ao len cap) := hX.c2
      have HS : Hid (Bx wr w.heap.size (.mk k l h e ao b o len cap ps) ∧ Ty.At wr (.mk k l h e ao b o len cap ps) ∧ Below w.heap.size w wr) := ⟨hX, hA, hB⟩
      have HQ : Hid (min q 41 = min (1 + sumTo (fun i => (ps i).nodes) j) 41) := hm
      clear hX hm hB
      by_cases hlt : j < len
      · have ij : (j : Int) < len := by omega
        by_cases h40 : q ≤ 40
        · have d40 : decide ((q : Int) ≤ 40) = true := by simp; omega
          have a0 := hnil (by omega)
          subst a0
          have C : C5 wr b (o + j * 5) (ps j) := hA.cells hlt
          have P : (ps j).At wr := hA.part hlt
          have y0 := C.c0
          have y1 := C.c1
          have y2 := C.c2
          have y3 := C.c3
          have y4 := C.c4
          clear hA C
          go_wp2_with fail
          refine (ih j _ P).mono ?_
          rintro r w1 ⟨rfl, hb1⟩
          clear y0 y1 y2 y3 y4 x2
          go_wp2
          go_roundw
          case rel => exact ⟨q + min (ps j).nodes 41, j + 1, by omega, by rw [Int.natCast_add], by go_num, by omega, by have := HQ.out; simp only [sumTo]; omega, HS.out.1.kept hb1, HS.out.2.1.kept hb1, HS.out.2.2.trans (hb1.mono HS.out.2.2.size)⟩
          case measure => simp [intOf]; omega
        · have d40 : decide ((q : Int) ≤ 40) = false := by simp; omega
          have HE : Hid (min (1 + sumTo (fun i => (ps i).nodes) len) 41 = 41) := by
            show min (1 + sumTo (fun i => (ps i).nodes) len) 41 = 41
            have := HQ.out
            have h2 := sumTo_mono (fun i => (ps i).nodes) hj
            omega
          have HF : Hid (min q 41 = 41) := by show min q 41 = 41; omega
          go_wp2
          all_goals go_ret
          all_goals exact ⟨ret_int (by have h1 := HF.out; have h2 := HE.out; omega), HS.out.2.2⟩
      · have e : len = j := by omega
        subst e
        have d : ¬ (len : Int) < len := by omega
        go_wp2
        all_goals go_ret
        all_goals exact ⟨ret_int (by have h1 := HQ.out; omega), HS.out.2.2⟩

set_option maxHeartbeats 1000000 in
theorem partsOf_any (t : Ty) (w : World) :
    Calls Tryd.prog 71 #[.agg #[.int .i64 t.k, .int .i64 t.l, .slice t.ao t.len t.cap, .int .i64 t.h, .int .i64 t.e]] w fun e w' => e = .returned (.slice t.ao t.len t.cap) ∧ Below w.heap.size w w' := by
  have X0 := Bx.new w t
  have B0 := below_alloc w (.cells #[.int .i64 t.k, .int .i64 t.l, .slice t.ao t.len t.cap, .int .i64 t.h, .int .i64 t.e] 43)
  have x2 := X0.c2
  clear X0
  go_enter Tryd.func71, Tryd.ntmps71
  go_wp2
  go_ret
  exact ⟨rfl, B0⟩

set_option maxRecDepth 100000 in
set_option maxHeartbeats 2000000 in
theorem count_any : ∀ (t : Ty) (a : Nat) (w : World), a ≤ 40 → t.At w → Calls Tryd.prog 95 #[.agg #[.int .i64 t.k, .int .i64 t.l, .slice t.ao t.len t.cap, .int .i64 t.h, .int .i64 t.e], .func (.func 71) #[] #[], .int .i64 40, .int .i64 a] w fun e w' => e = .returned (.int .i64 (min (a + t.nodes) 41 : Nat)) ∧ Below w.heap.size w w' := by
  intro t
  induction t with
  | dm => intro a w _ hAt; exact hAt.elim
  | mk k l h e ao b o len cap ps ih =>
    intro a w ha hAt
    show Calls Tryd.prog 95 #[.agg #[.int .i64 k, .int .i64 l, .slice ao len cap, .int .i64 h, .int .i64 e], .func (.func 71) #[] #[], .int .i64 40, .int .i64 a] w fun r w' => r = .returned (.int .i64 (min (a + (1 + sumTo (fun i => (ps i).nodes) len)) 41 : Nat)) ∧ Below w.heap.size w w'
    have B0 := below_alloc w (.cells #[.int .i64 k, .int .i64 l, .slice ao len cap, .int .i64 h, .int .i64 e] 43)
    have hb : len ≤ 9223372036854775807 := hAt.bound
    have hnil : 0 < len → ao = some ⟨b, o, none⟩ := hAt.nil
    have HS : Hid (Ty.At (w.alloc (.cells #[.int .i64 k, .int .i64 l, .slice ao len cap, .int .i64 h, .int .i64 e] 43)) (.mk k l h e ao b o len cap ps) ∧ Below w.heap.size w (w.alloc (.cells #[.int .i64 k, .int .i64 l, .slice ao len cap, .int .i64 h, .int .i64 e] 43))) := ⟨hAt.kept B0, B0⟩
    have hP : Calls Tryd.prog 71 #[.agg #[.int .i64 k, .int .i64 l, .slice ao len cap, .int .i64 h, .int .i64 e]] (w.alloc (.cells #[.int .i64 k, .int .i64 l, .slice ao len cap, .int .i64 h, .int .i64 e] 43)) fun r w' => r = .returned (.slice ao len cap) ∧ Below (w.alloc (.cells #[.int .i64 k, .int .i64 l, .slice ao len cap, .int .i64 h, .int .i64 e] 43)).heap.size (w.alloc (.cells #[.int .i64 k, .int .i64 l, .slice ao len cap, .int .i64 h, .int .i64 e] 43)) w' := partsOf_any (.mk k l h e ao b o len cap ps) _
    clear B0 hAt
    go_enter Tryd.func95, Tryd.ntmps95
    go_wp2_with fail
    refine hP.mono ?_
    rintro _ w5 ⟨rfl, hb5⟩
    have HS : Hid (Ty.At w5 (.mk k l h e ao b o len cap ps) ∧ Below w.heap.size w w5) := ⟨HS.out.1.kept hb5, Below.next HS.out.2 hb5⟩
    clear hb5 hP
    go_wp2
    go_loopw [9, 18] (fun m i wr => ∃ (q j : Nat), j ≤ len ∧ m = .int .i64 q ∧ i = .int .i64 j ∧ q = min (a + (1 + sumTo (fun i => (ps i).nodes) j)) 41 ∧ Ty.At wr (.mk k l h e ao b o len cap ps) ∧ Below w.heap.size w wr) (fun _ i _ => len - (intOf i).toNat)
    case atStart => exact ⟨a + 1, 0, Nat.zero_le _, by rw [Int.natCast_add]; rfl, rfl, by simp only [sumTo]; omega, HS.out⟩
    case round =>
      obtain ⟨q, j, hj, rfl, rfl, hm, hA, hB⟩ := hrel
      clear HS
      have HQ : Hid (q = min (a + (1 + sumTo (fun i => (ps i).nodes) j)) 41) := hm
      clear hm
      by_cases hlt : j < len
      · have ij : (j : Int) < len := by omega
        have a0 := hnil (by omega)
        subst a0
        have C : C5 wr b (o + j * 5) (ps j) := hA.cells hlt
        have P : (ps j).At wr := hA.part hlt
        have X0 := Bx.new wr (ps j)
        have B0 := below_alloc wr (.cells #[.int .i64 (ps j).k, .int .i64 (ps j).l, .slice (ps j).ao (ps j).len (ps j).cap, .int .i64 (ps j).h, .int .i64 (ps j).e] 43)
        have HS : Hid (Ty.At wr (.mk k l h e (some ⟨b, o, none⟩) b o len cap ps) ∧ Below w.heap.size w wr) := ⟨hA, hB⟩
        have y0 := C.c0
        have y1 := C.c1
        have y2 := C.c2
        have y3 := C.c3
        have y4 := C.c4
        clear hA C hB
        by_cases h40 : 40 < q
        · have d40 : decide ((40 : Int) < q) = true := by simp; omega
          have HE : Hid (min (a + (1 + sumTo (fun i => (ps i).nodes) len)) 41 = q) := by
            show min (a + (1 + sumTo (fun i => (ps i).nodes) len)) 41 = q
            have := HQ.out
            have h2 := sumTo_mono (fun i => (ps i).nodes) hj
            omega
          go_wp2
          all_goals go_ret
          all_goals exact ⟨ret_int (by have h2 := HE.out; omega), Below.next HS.out.2 B0⟩
        · have d40 : decide ((40 : Int) < q) = false := by simp; omega
          go_wp2_with fail
          refine (ih j q _ (by omega) (P.kept B0)).mono ?_
          rintro r w1 ⟨rfl, hb1⟩
          have B1 := Below.next B0 hb1
          go_wp2
          go_roundw
          case rel => exact ⟨min (q + (ps j).nodes) 41, j + 1, by omega, rfl, by go_num, by have := HQ.out; simp only [sumTo]; omega, HS.out.1.kept B1, Below.next HS.out.2 B1⟩
          case measure => simp [intOf]; omega
      · have e : len = j := by omega
        subst e
        have d : ¬ (len : Int) < len := by omega
        go_wp2
        go_ret
        exact ⟨ret_int (by have h1 := HQ.out; omega), hB⟩

set_option maxHeartbeats 1000000 in
theorem Count_any (t : Ty) (w : World) (ht : t.At w) : Calls Tryd.prog 82 #[.agg #[.int .i64 t.k, .int .i64 t.l, .slice t.ao t.len t.cap, .int .i64 t.h, .int .i64 t.e], .func (.func 71) #[] #[], .int .i64 40] w fun e w' => e = .returned (.int .i64 (min t.nodes 41 : Nat)) ∧ Below w.heap.size w w' := by
  have B0 := below_alloc w (.cells #[.int .i64 t.k, .int .i64 t.l, .slice t.ao t.len t.cap, .int .i64 t.h, .int .i64 t.e] 43)
  have h := count_any t 0 _ (by omega) (ht.kept B0)
  rw [Nat.zero_add] at h
  go_enter Tryd.func82, Tryd.ntmps82
  go_wp2_with fail
  refine h.mono ?_
  rintro r w1 ⟨rfl, hb1⟩
  go_wp2
  go_ret
  exact ⟨rfl, Below.next B0 hb1⟩

set_option maxHeartbeats 1000000 in
theorem Nodes_any (t : Ty) (w : World) (ht : t.At w) : Calls Tryd.prog 60 #[.agg #[.int .i64 t.k, .int .i64 t.l, .slice t.ao t.len t.cap, .int .i64 t.h, .int .i64 t.e]] w fun e w' => e = .returned (.int .i64 (min t.nodes 41 : Nat)) ∧ Below w.heap.size w w' := by
  have B0 := below_alloc w (.cells #[.int .i64 t.k, .int .i64 t.l, .slice t.ao t.len t.cap, .int .i64 t.h, .int .i64 t.e] 43)
  have h := Count_any t _ (ht.kept B0)
  go_enter Tryd.func60, Tryd.ntmps60
  go_wp2_with fail
  refine h.mono ?_
  rintro r w1 ⟨rfl, hb1⟩
  go_wp2
  go_ret
  exact ⟨rfl, Below.next B0 hb1⟩

set_option maxHeartbeats 1000000 in
theorem rSmall2_any (t : Ty) (w : World) (ht : t.At w) : Calls Tryd.prog 19 #[.agg #[.int .i64 t.k, .int .i64 t.l, .slice t.ao t.len t.cap, .int .i64 t.h, .int .i64 t.e]] w fun e w' => e = .returned (.bool (decide (t.nodes ≤ 40))) ∧ Below w.heap.size w w' := by
  have B0 := below_alloc w (.cells #[.int .i64 t.k, .int .i64 t.l, .slice t.ao t.len t.cap, .int .i64 t.h, .int .i64 t.e] 43)
  have HE : Hid (decide ((min t.nodes 41 : Nat) ≤ (40 : Int)) = decide (t.nodes ≤ 40)) := by
    show decide (((min t.nodes 41 : Nat) : Int) ≤ 40) = decide (t.nodes ≤ 40)
    exact decide_eq_decide.2 (by omega)
  go_enter Tryd.func19, Tryd.ntmps19
  go_wp2_with fail
  refine (rNodes_any t _ (ht.kept B0)).mono ?_
  rintro r w1 ⟨rfl, hb1⟩
  generalize min t.nodes 41 = q at HE
  go_wp2
  go_ret
  exact ⟨ret_bool HE.out, Below.next B0 hb1⟩
end Go.Proofs.YtnkipiegjpjfbaaDoor
