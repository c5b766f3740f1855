/- Layer 2: all of these types formed. -/
import Derived.Test.YtcoeefckldkbeaaGreatDoorP9
import Derived.Test.YtcoeefckldkbeaaGreatDoorP8
import Derived.Laws.EntriesVeiled
namespace Go.Proofs.YtcoeefckldkbeaaGreatDoor
open Go.RowKit

/-- Formed, of a formed lattice of so many names. -/
def Ty.ok (N : Nat) (t : Ty) : Bool := t.fm N 1 && decide (t.nodes ≤ 40)

set_option maxRecDepth 100000 in
set_option maxHeartbeats 4000000 in
theorem allFormed_any (n : Strs) (g : Grid) (ao : Option Addr) (b o len cap : Nat) (ps : Nat → Ty) (w : World) (hn : n.At w) (hg : g.At w) (hr : Ty.At w (.mk 0 0 0 0 ao b o len cap ps)) :
    Calls Tryz.prog 102 #[.agg #[.slice n.ao n.len n.cap, .slice g.ao g.len g.cap], .slice ao len cap] w fun e w' => e = .returned (.bool (formedB n g && decide (∀ i, i < len → (ps i).ok n.len = true))) ∧ Below w.heap.size w w' := by
  have L0 := Bl.new w n g
  have B0 := below_alloc w (.cells #[.slice n.ao n.len n.cap, .slice g.ao g.len g.cap] 35)
  have hb : len ≤ 9223372036854775807 := hr.bound
  have hnil : 0 < len → ao = some ⟨b, o, none⟩ := hr.nil
  have hn2 := hn.kept B0
  have hg2 := hg.kept B0
  have hr2 := hr.kept B0
  clear hn hg hr
  go_enter Tryz.func102, Tryz.ntmps102
  go_wp2_with fail
  refine (formed_any n g _ hn2 hg2).mono ?_
  rintro r w1 ⟨rfl, hb1⟩
  have L1 := L0.kept hb1
  have hn3 := hn2.kept hb1
  have hr3 := hr2.kept hb1
  have B1 := Below.next B0 hb1
  clear L0 hb1 hn2 hg2 hr2 B0
  cases hF : formedB n g
  · go_wp2
    go_ret
    exact ⟨ret_bool (by rw [hF]; rfl), B1⟩
  go_wp2
  have HT : Hid (formedB n g = true) := hF
  clear hF
  go_loopw [12] (fun i wr => ∃ j : Nat, j ≤ len ∧ i = .int .i64 j ∧ (∀ i, i < j → (ps i).ok n.len = true) ∧ Below w1.heap.size w1 wr) (fun i _ => len - (intOf i).toNat)
  case atStart => exact ⟨0, Nat.zero_le _, rfl, fun _ h => absurd h (Nat.not_lt_zero _), Below.refl _ _⟩
  case round =>
    obtain ⟨j, hj, rfl, hdone, hB⟩ := hrel
    have HD : Hid (∀ i, i < j → (ps i).ok n.len = true) := hdone
    clear hdone
    by_cases hlt : j < len
    · have ij : (j : Int) < len := by omega
      have a0 := hnil (by omega)
      subst a0
      have hA5 := hr3.kept hB
      have C : C5 wr b (o + j * 5) (ps j) := hA5.cells hlt
      have P : (ps j).At wr := hA5.part hlt
      have N0 := Bx.new wr (ps j)
      have B6 := below_alloc wr (.cells #[.int .i64 (ps j).k, .int .i64 (ps j).l, .slice (ps j).ao (ps j).len (ps j).cap, .int .i64 (ps j).h, .int .i64 (ps j).e] 24)
      have L5 := (L1.kept hB).kept B6
      have P6 := P.kept B6
      have y0 := C.c0
      have y1 := C.c1
      have y2 := C.c2
      have y3 := C.c3
      have y4 := C.c4
      have l0 := L5.c0
      have l1 := L5.c1
      clear C hA5 P
      have hi := formedT_any n g (ps j) 1 _ (by omega) ((hn3.kept hB).kept B6) P6
      go_wp2_with fail
      refine hi.mono ?_
      rintro r w6 ⟨rfl, hb6⟩
      have N1 := N0.kept hb6
      have P7 := P6.kept hb6
      have B7 := Below.next hB (Below.next B6 hb6)
      clear y0 y1 y2 y3 y4 l0 l1 L5 hi N0 P6
      cases hf : Ty.fm n.len (ps j) 1
      · have HN : Hid ((ps j).ok n.len = false) := by show (ps j).ok n.len = false; unfold Ty.ok; rw [hf]; rfl
        clear hf
        go_wp2
        go_ret
        exact ⟨ret_bool (by rw [HT.out, Bool.true_and]; exact (decide_eq_false (fun hh => by have := HN.out; rw [hh j hlt] at this; cases this)).symm), Below.next B1 B7⟩
      · have HF : Hid (Ty.fm n.len (ps j) 1 = true) := hf
        have n0 := N1.c0
        have n1 := N1.c1
        have n2 := N1.c2
        have n3 := N1.c3
        have n4 := N1.c4
        clear hf N1
        go_wp2_with fail
        refine (Nodes_any (ps j) _ P7).mono ?_
        rintro r w7 ⟨rfl, hb7⟩
        have B8 := Below.next B7 hb7
        clear n0 n1 n2 n3 n4
        by_cases h40 : (ps j).nodes ≤ 40
        · have HY : Hid ((ps j).ok n.len = true) := by show (ps j).ok n.len = true; unfold Ty.ok; rw [HF.out, decide_eq_true h40]; rfl
          have d : decide ((40 : Int) < (min (ps j).nodes 41 : Nat)) = false := by simp only [decide_eq_false_iff_not]; omega
          generalize min (ps j).nodes 41 = q at d ⊢
          go_wp2
          go_roundw
          case rel => exact ⟨j + 1, by omega, by go_num, fun i hi => (by
              by_cases e : i = j
              · subst e; exact HY.out
              · exact HD.out i (by omega)), B8⟩
          case measure => simp [intOf]; omega
        · have HN : Hid ((ps j).ok n.len = false) := by show (ps j).ok n.len = false; unfold Ty.ok; rw [HF.out, decide_eq_false h40]; rfl
          have d : decide ((40 : Int) < (min (ps j).nodes 41 : Nat)) = true := by simp only [decide_eq_true_eq]; omega
          generalize min (ps j).nodes 41 = q at d ⊢
          go_wp2
          go_ret
          exact ⟨ret_bool (by rw [HT.out, Bool.true_and]; exact (decide_eq_false (fun hh => by have := HN.out; rw [hh j hlt] at this; cases this)).symm), Below.next B1 B8⟩
    · have e : len = j := by omega
      subst e
      have dl : ¬ (len : Int) < len := by omega
      go_wp2
      go_ret
      exact ⟨ret_bool (by rw [HT.out, Bool.true_and]; exact (decide_eq_true HD.out).symm), Below.next B1 hB⟩

/-- Types in a row that the call itself has laid. -/
def row2 (s t : Ty) : Obj := .cells #[.int .i64 s.k, .int .i64 s.l, .slice s.ao s.len s.cap, .int .i64 s.h, .int .i64 s.e, .int .i64 t.k, .int .i64 t.l, .slice t.ao t.len t.cap, .int .i64 t.h, .int .i64 t.e] 24
theorem row1_at (w : World) (t : Ty) (h : t.At w) : Ty.At (w.alloc (tyO t)) (.mk 0 0 0 0 (some ⟨w.heap.size, 0, none⟩) w.heap.size 0 1 1 (fun _ => t)) :=
  ⟨fun _ => rfl, by omega, fun i hi => ⟨by
    have e : i = 0 := by omega
    subst e
    have X := Bx.new w t
    exact ⟨X.c0, X.c1, X.c2, X.c3, X.c4⟩, h.kept (below_alloc _ _)⟩⟩
theorem row2_at (w : World) (s t : Ty) (hs : s.At w) (ht : t.At w) : Ty.At (w.alloc (row2 s t)) (.mk 0 0 0 0 (some ⟨w.heap.size, 0, none⟩) w.heap.size 0 2 2 (fun i => if i = 0 then s else t)) :=
  ⟨fun _ => rfl, by omega, fun i hi => by
    by_cases e : i = 0
    · subst e
      refine ⟨⟨?_, ?_, ?_, ?_, ?_⟩, hs.kept (below_alloc _ _)⟩
      all_goals simp [row2]
    · have e1 : i = 1 := by omega
      subst e1
      refine ⟨⟨?_, ?_, ?_, ?_, ?_⟩, ht.kept (below_alloc _ _)⟩
      all_goals simp [row2]⟩

/-- Formed, of whatever lattice. -/
def okB (n : Strs) (g : Grid) (t : Ty) : Bool := formedB n g && t.ok n.len

set_option maxHeartbeats 2000000 in
theorem Formed2_any (n : Strs) (g : Grid) (t : Ty) (w : World) (hn : n.At w) (hg : g.At w) (ht : t.At w) :
    Calls Tryz.prog 78 #[.agg #[.slice n.ao n.len n.cap, .slice g.ao g.len g.cap], .agg #[.int .i64 t.k, .int .i64 t.l, .slice t.ao t.len t.cap, .int .i64 t.h, .int .i64 t.e]] w fun e w' => e = .returned (.bool (okB n g t)) ∧ Below w.heap.size w w' := by
  obtain ⟨L0, X0, B0⟩ := start_lt w n g t
  have R1 := row1_at _ t (ht.kept B0)
  have B1 := below_alloc ((w.alloc (latO n g)).alloc (tyO t)) (tyO t)
  have hA := allFormed_any n g _ _ _ _ _ _ _ ((hn.kept B0).kept B1) ((hg.kept B0).kept B1) R1
  rw [alloc_size, alloc_size] at hA
  have HE : Hid ((formedB n g && decide (∀ i, i < 1 → Ty.ok n.len ((fun _ => t) i) = true)) = okB n g t) := by
    show (formedB n g && decide (∀ i, i < 1 → Ty.ok n.len ((fun _ => t) i) = true)) = okB n g t
    unfold okB
    congr 1
    cases hk : t.ok n.len
    · exact decide_eq_false (fun h => by have := h 0 (by omega); simp only [hk] at this; cases this)
    · exact decide_eq_true (fun _ _ => hk)
  unfold latO tyO at *
  have B2 := Below.next B0 B1
  go_enter Tryz.func78, Tryz.ntmps78
  go_wp2_with fail
  refine hA.mono ?_
  rintro r w1 ⟨rfl, hb1⟩
  rw [HE.out]
  go_wp2
  go_ret
  exact ⟨rfl, Below.next B2 hb1⟩
end Go.Proofs.YtcoeefckldkbeaaGreatDoor

/- Layer 2: Same's question of two nodes. -/
namespace Go.Proofs.YtcoeefckldkbeaaGreatDoor
open Go.RowKit

def hdEq (s t : Ty) : Bool := ((((s.k == t.k) && (s.l == t.l)) && (s.h == t.h)) && (s.e == t.e)) && (s.len == t.len)
theorem same_eq (s t : Ty) : s.same t = (hdEq s t && decide (∀ i, i < s.len → (s.ps i).same (t.ps i) = true)) := by
  rcases s with _ | ⟨k, l, h, e, ao, b, o, len, cap, ps⟩
  · show ((((0 == t.k) && (0 == t.l)) && ((0 == t.h) && (0 == t.e))) && (0 == t.len)) = ((((((0 : Int) == t.k) && ((0 : Int) == t.l)) && ((0 : Int) == t.h)) && ((0 : Int) == t.e)) && (0 == t.len) && decide (∀ i : Nat, i < 0 → Ty.same (Ty.dm.ps i) (t.ps i) = true))
    have e : decide (∀ i : Nat, i < 0 → Ty.same (Ty.dm.ps i) (t.ps i) = true) = true := decide_eq_true (fun _ h => absurd h (Nat.not_lt_zero _))
    rw [e]
    cases ((0 : Int) == t.k) <;> cases ((0 : Int) == t.l) <;> cases ((0 : Int) == t.h) <;> cases ((0 : Int) == t.e) <;> simp
  show (((((k == t.k) && (l == t.l)) && ((h == t.h) && (e == t.e))) && (len == t.len)) && decide (∀ i, i < len → Ty.same (ps i) (t.ps i) = true)) = (((((k == t.k) && (l == t.l)) && (h == t.h)) && (e == t.e)) && (len == t.len) && decide (∀ i, i < len → Ty.same (ps i) (t.ps i) = true))
  cases (k == t.k) <;> cases (l == t.l) <;> cases (h == t.h) <;> cases (e == t.e) <;> rfl
theorem hd_cases (s t : Ty) : ((s.k == t.k) = false ∧ hdEq s t = false) ∨ ((s.k == t.k) = true ∧ (s.l == t.l) = false ∧ hdEq s t = false) ∨ ((s.k == t.k) = true ∧ (s.l == t.l) = true ∧ (s.h == t.h) = false ∧ hdEq s t = false) ∨ ((s.k == t.k) = true ∧ (s.l == t.l) = true ∧ (s.h == t.h) = true ∧ (s.e == t.e) = false ∧ hdEq s t = false) ∨ ((s.k == t.k) = true ∧ (s.l == t.l) = true ∧ (s.h == t.h) = true ∧ (s.e == t.e) = true ∧ hdEq s t = ((s.len : Int) == t.len)) := by
  unfold hdEq
  have : ((s.len : Int) == t.len) = (s.len == t.len) := by
    by_cases h : s.len = t.len
    · rw [h]; simp
    · rw [beq_eq_false_iff_ne.2 h, beq_eq_false_iff_ne.2 (by omega)]
  rw [this]
  cases (s.k == t.k) <;> cases (s.l == t.l) <;> cases (s.h == t.h) <;> cases (s.e == t.e) <;> simp

set_option maxHeartbeats 2000000 in
theorem same1_any (s t : Ty) (w : World) (hs : s.At w) (ht : t.At w) :
    Calls Tryz.prog 22 #[.agg #[.int .i64 s.k, .int .i64 s.l, .slice s.ao s.len s.cap, .int .i64 s.h, .int .i64 s.e], .agg #[.int .i64 t.k, .int .i64 t.l, .slice t.ao t.len t.cap, .int .i64 t.h, .int .i64 t.e]] w fun e w' => e = .returned (.bool (hdEq s t)) ∧ Below w.heap.size w w' := by
  obtain ⟨X0, Y0, B0⟩ := start_tt w s t
  have b1 := hs.bound
  have b2 := ht.bound
  unfold tyO at *
  rcases hd_cases s t with ⟨h1, hE⟩ | ⟨h1, h2, hE⟩ | ⟨h1, h2, h3, hE⟩ | ⟨h1, h2, h3, h4, hE⟩ | ⟨h1, h2, h3, h4, hE⟩
  all_goals rw [hE]
  all_goals clear hE
  all_goals
    go_enter Tryz.func22, Tryz.ntmps22
    go_wp2
    go_ret
    exact ⟨rfl, B0⟩

set_option maxRecDepth 100000 in
set_option maxHeartbeats 4000000 in
theorem rSame_any2 : ∀ (s t : Ty) (w : World), s.At w → t.At w →
    Calls Tryz.prog 15 #[.agg #[.int .i64 s.k, .int .i64 s.l, .slice s.ao s.len s.cap, .int .i64 s.h, .int .i64 s.e], .agg #[.int .i64 t.k, .int .i64 t.l, .slice t.ao t.len t.cap, .int .i64 t.h, .int .i64 t.e]] w fun e w' => e = .returned (.bool (s.same t)) ∧ Below w.heap.size w w' := by
  intro s
  induction s with
  | dm => intro t w hs; exact hs.elim
  | mk sk sl sh se sao sb so slen scap sps ih =>
    intro t w hs ht
    rcases t with _ | ⟨tk, tl, th, te, tao, tb, to', tlen, tcap, tps⟩
    · exact ht.elim
    rw [same_eq]
    have hc := hd_cases (.mk sk sl sh se sao sb so slen scap sps) (.mk tk tl th te tao tb to' tlen tcap tps)
    obtain ⟨X0, Y0, B0⟩ := start_tt w (.mk sk sl sh se sao sb so slen scap sps) (.mk tk tl th te tao tb to' tlen tcap tps)
    have b1 : slen ≤ 9223372036854775807 := hs.bound
    have b2 : tlen ≤ 9223372036854775807 := ht.bound
    have n1 : 0 < slen → sao = some ⟨sb, so, none⟩ := hs.nil
    have n2 : 0 < tlen → tao = some ⟨tb, to', none⟩ := ht.nil
    have hs2 := hs.kept B0
    have ht2 := ht.kept B0
    unfold tyO at *
    generalize hdEq (.mk sk sl sh se sao sb so slen scap sps) (.mk tk tl th te tao tb to' tlen tcap tps) = HE at *
    simp only [Ty.k, Ty.l, Ty.h, Ty.e, Ty.ao, Ty.len, Ty.cap, Ty.ps] at *
    clear hs ht
    rcases hc with ⟨h1, hE⟩ | ⟨h1, h2, hE⟩ | ⟨h1, h2, h3, hE⟩ | ⟨h1, h2, h3, h4, hE⟩ | ⟨h1, h2, h3, h4, hE⟩
    · subst hE
      have h1 : (sk != tk) = true := by simp [bne, h1]
      go_enter Tryz.func15, Tryz.ntmps15
      go_wp2
      go_ret
      exact ⟨rfl, B0⟩
    · subst hE
      have h1 : (sk != tk) = false := by simp [bne, h1]
      have h2 : (sl != tl) = true := by simp [bne, h2]
      go_enter Tryz.func15, Tryz.ntmps15
      go_wp2
      go_ret
      exact ⟨rfl, B0⟩
    · subst hE
      have h1 : (sk != tk) = false := by simp [bne, h1]
      have h2 : (sl != tl) = false := by simp [bne, h2]
      have h3 : (sh != th) = true := by simp [bne, h3]
      go_enter Tryz.func15, Tryz.ntmps15
      go_wp2
      go_ret
      exact ⟨rfl, B0⟩
    · subst hE
      have h1 : (sk != tk) = false := by simp [bne, h1]
      have h2 : (sl != tl) = false := by simp [bne, h2]
      have h3 : (sh != th) = false := by simp [bne, h3]
      have h4 : (se != te) = true := by simp [bne, h4]
      go_enter Tryz.func15, Tryz.ntmps15
      go_wp2
      go_ret
      exact ⟨rfl, B0⟩
    · have e1 : sk = tk := by simpa using h1
      have e2 : sl = tl := by simpa using h2
      have e3 : sh = th := by simpa using h3
      have e4 : se = te := by simpa using h4
      subst e1 e2 e3 e4
      clear h1 h2 h3 h4
      by_cases hl : slen = tlen
      · subst hl
        have hE : HE = true := by rw [hE]; simp
        subst hE
        clear hE
        go_enter Tryz.func15, Tryz.ntmps15
        go_wp2
        clear b2
        go_loopw [5] (fun i wr => ∃ j : Nat, j ≤ slen ∧ i = .int .i64 j ∧ (∀ i, i < j → (sps i).same (tps i) = true) ∧ Bx wr w.heap.size (.mk sk sl sh se sao sb so slen scap sps) ∧ Bx wr (w.heap.size + 1) (.mk sk sl sh se tao tb to' slen tcap tps) ∧ Ty.At wr (.mk sk sl sh se sao sb so slen scap sps) ∧ Ty.At wr (.mk sk sl sh se tao tb to' slen tcap tps) ∧ Below w.heap.size w wr) (fun i _ => slen - (intOf i).toNat)
        case atStart => exact ⟨0, Nat.zero_le _, rfl, fun _ h => absurd h (Nat.not_lt_zero _), X0, Y0, hs2, ht2, B0⟩
        case round =>
          obtain ⟨j, hj, rfl, hdone, X1, Y1, hs3, ht3, B1⟩ := hrel
          clear X0 Y0 hs2 ht2 B0
          have HD : Hid (∀ i, i < j → (sps i).same (tps i) = true) := hdone
          clear hdone
          have x2 : wr.cell? ⟨w.heap.size, 2, none⟩ = some (.slice sao slen scap) := X1.c2
          have y2 : wr.cell? ⟨w.heap.size + 1, 2, none⟩ = some (.slice tao slen tcap) := Y1.c2
          by_cases hlt : j < slen
          · have ij : (j : Int) < slen := by omega
            have a1 := n1 (by omega)
            have a2 := n2 (by omega)
            subst a1 a2
            have C : C5 wr sb (so + j * 5) (sps j) := hs3.cells hlt
            have D : C5 wr tb (to' + j * 5) (tps j) := ht3.cells hlt
            have P : (sps j).At wr := hs3.part hlt
            have R : (tps j).At wr := ht3.part hlt
            have X2 := fun x => Gr.cell x x2
            have Y2 := fun x => Gr.cell x y2
            have p0 := fun x => Gr.cell x C.c0
            have p1 := fun x => Gr.cell x C.c1
            have p2 := fun x => Gr.cell x C.c2
            have p3 := fun x => Gr.cell x C.c3
            have p4 := fun x => Gr.cell x C.c4
            have q0 := fun x => Gr.cell x D.c0
            have q1 := fun x => Gr.cell x D.c1
            have q2 := fun x => Gr.cell x D.c2
            have q3 := fun x => Gr.cell x D.c3
            have q4 := fun x => Gr.cell x D.c4
            have hNE : Nonempty (Gr wr) := ⟨⟨_, Below.refl _ _⟩⟩
            go_wp2
            refine wp_region_gr (by kernel_rfl) (by kernel_rfl) ?_
            repeat (first | go_big_quiet_step ((go_at_call 15; exact Calls.gr _ (ih j (tps j) _ (P.kept (Gr.bl _)) (R.kept (Gr.bl _))))))
            refine wpQuiet_nil ?_
            rintro w4 ⟨x4, rfl⟩
            have B4 := x4.bl
            generalize x4.w = w4 at B4 ⊢
            clear x4 X2 Y2 p0 p1 p2 p3 p4 q0 q1 q2 q3 q4 hNE C D P R x2 y2
            have B5 := Below.next B1 B4
            cases hf : (sps j).same (tps j)
            · go_wp2
              go_ret
              exact ⟨ret_bool (by rw [Bool.true_and]; exact (decide_eq_false (fun hh => by rw [hh j hlt] at hf; cases hf)).symm), B5⟩
            · go_wp2
              go_roundw
              case rel => exact ⟨j + 1, by omega, by go_num, fun i hi => (by
                  by_cases e : i = j
                  · subst e; exact hf
                  · exact HD.out i (by omega)), X1.kept B4, Y1.kept B4, hs3.kept B4, ht3.kept B4, B5⟩
              case measure => simp [intOf]; omega
          · have e : slen = j := by omega
            subst e
            have dl : ¬ (slen : Int) < slen := by omega
            go_wp2
            go_ret
            exact ⟨ret_bool (decide_eq_true HD.out).symm, B1⟩
      · have hE : HE = false := by rw [hE]; simp; omega
        subst hE
        have h5 : ((slen : Int) != tlen) = true := by simp; omega
        clear hE
        go_enter Tryz.func15, Tryz.ntmps15
        go_wp2
        go_ret
        exact ⟨rfl, B0⟩
end Go.Proofs.YtcoeefckldkbeaaGreatDoor

/- Layer 2: Same, by the walk through two types at once, where it puts nothing off. -/
namespace Go.Proofs.YtcoeefckldkbeaaGreatDoor
open Go.RowKit

/-- The walk's variable: asked is Same's question, L nodes may still be gone through, nothing is put off. -/
structure Wk (w : World) (X L : Nat) : Prop where
  c0 : w.cell? ⟨X, 0, none⟩ = some (.func (.func 21) #[] #[])
  c1 : w.cell? ⟨X, 1, none⟩ = some (.func (.func 22) #[] #[])
  c2 : w.cell? ⟨X, 2, none⟩ = some (.int .i64 L)
  c3 : w.cell? ⟨X, 3, none⟩ = some (.slice none 0 0)
  f2 : w.frozen? ⟨X, 2, none⟩ = false
theorem Wk.kept {w w' : World} {X L : Nat} (h : Wk w X L) (hb : Below w.heap.size w w') : Wk w' X L :=
  ⟨up hb h.c0, up hb h.c1, up hb h.c2, up hb h.c3, by rw [hb.frozen (p := ⟨X, 2, none⟩) (by have := World.block_lt_of_cell? w _ h.c0; exact this)]; exact h.f2⟩
theorem Wk.set {w : World} {X L : Nat} (h : Wk w X L) (L' : Nat) : Wk (w.setCell ⟨X, 2, none⟩ (.int .i64 L')) X L' :=
  ⟨by rw [World.cell?_setCell_other _ _ _ _ (by simp)]; exact h.c0, by rw [World.cell?_setCell_other _ _ _ _ (by simp)]; exact h.c1, World.cell?_setCell_same _ _ _ h.c2, by rw [World.cell?_setCell_other _ _ _ _ (by simp)]; exact h.c3, by rw [World.frozen?_setCell]; exact h.f2⟩

theorem hd_len {s t : Ty} (h : hdEq s t = true) : s.len = t.len := by
  unfold hdEq at h
  simp only [Bool.and_eq_true, beq_iff_eq] at h
  exact h.2
/-- How many nodes the Parts have. -/
def Ty.pn (t : Ty) : Nat := sumTo (fun i => (t.ps i).nodes) t.len
theorem pn_nodes (t : Ty) : t.nodes = 1 + t.pn := by
  cases t <;> rfl

/-- What the walk answers of the Parts of s and t, and what it leaves. -/
def PP (w0 : World) (X : Nat) (s t : Ty) (L : Nat) (e : Ending) (w' : World) : Prop :=
  ∃ r : Bool, e = .returned (.bool r) ∧ r = decide (∀ i, i < s.len → (s.ps i).same (t.ps i) = true) ∧ Below w0.heap.size w0 w' ∧ ∃ L', Wk w' X L' ∧ (r = true → L' + s.pn = L)
theorem PP.intro {w0 : World} {X : Nat} {s t : Ty} {L : Nat} {e : Ending} {w' : World} (r : Bool) (h1 : e = .returned (.bool r)) (h2 : r = decide (∀ i, i < s.len → (s.ps i).same (t.ps i) = true)) (h3 : Below w0.heap.size w0 w') (L' : Nat) (h4 : Wk w' X L') (h5 : r = true → L' + s.pn = L) : PP w0 X s t L e w' := ⟨r, h1, h2, h3, L', h4, h5⟩

set_option maxRecDepth 100000 in
set_option maxHeartbeats 8000000 in
theorem parts_any (w0 : World) (X : Nat) (hX : w0.heap.size ≤ X) : ∀ (s t : Ty) (w : World) (L : Nat), s.At w0 → t.At w0 → s.len = t.len → s.pn ≤ L → L ≤ 4000 → Wk w X L → Below w0.heap.size w0 w →
    Calls Tryz.prog 31 #[.pointer (some ⟨X, 0, none⟩), .slice s.ao s.len s.cap, .slice t.ao t.len t.cap] w fun e w' => PP w0 X s t L e w' := by
  intro s
  induction s with
  | dm => intro t w L hs; exact hs.elim
  | mk sk sl sh se sao sb so slen scap sps ih =>
    intro t w L hs ht hl hL h4000 hW hB
    rcases t with _ | ⟨tk, tl, th, te, tao, tb, to', tlen, tcap, tps⟩
    · exact ht.elim
    have hl' : slen = tlen := hl
    subst hl'
    show Calls Tryz.prog 31 #[.pointer (some ⟨X, 0, none⟩), .slice sao slen scap, .slice tao slen tcap] w fun e w' => PP w0 X (.mk sk sl sh se sao sb so slen scap sps) (.mk tk tl th te tao tb to' slen tcap tps) L e w'
    have HL : Hid (sumTo (fun i => (sps i).nodes) slen ≤ L) := hL
    have b1 : slen ≤ 9223372036854775807 := hs.bound
    have n1 : 0 < slen → sao = some ⟨sb, so, none⟩ := hs.nil
    have n2 : 0 < slen → tao = some ⟨tb, to', none⟩ := ht.nil
    have HW : Hid (Wk w X L ∧ Below w0.heap.size w0 w) := ⟨hW, hB⟩
    clear hL hl hW hB
    go_enter Tryz.func31, Tryz.ntmps31
    go_wp2
    go_loopw [10] (fun i wr => ∃ j l : Nat, j ≤ slen ∧ i = .int .i64 j ∧ (∀ i, i < j → (sps i).same (tps i) = true) ∧ l + sumTo (fun i => (sps i).nodes) j = L ∧ Wk wr X l ∧ Below w0.heap.size w0 wr) (fun i _ => slen - (intOf i).toNat)
    case atStart => exact ⟨0, L, Nat.zero_le _, rfl, fun _ h => absurd h (Nat.not_lt_zero _), rfl, HW.out.1, HW.out.2⟩
    case round =>
      obtain ⟨j, l, hj, rfl, hdone, hl, hW, hB⟩ := hrel
      clear HW
      have HD : Hid ((∀ i, i < j → (sps i).same (tps i) = true) ∧ l + sumTo (fun i => (sps i).nodes) j = L) := ⟨hdone, hl⟩
      clear hdone
      by_cases hlt : j < slen
      · have ij : (j : Int) < slen := by omega
        have hsum := sumTo_le (fun i => (sps i).nodes) hlt
        have hnod := pn_nodes (sps j)
        have hLL := HL.out
        have hl0 : 1 ≤ l := by omega
        have HN : Hid ((sps j).pn ≤ l - 1 ∧ l ≤ 4000 ∧ (sps j).nodes = 1 + (sps j).pn) := ⟨by omega, by omega, hnod⟩
        clear hsum hnod hLL hl
        have a1 := n1 (by omega)
        have a2 := n2 (by omega)
        subst a1 a2
        have e0 : ((l : Int) == 0) = false := by simp; omega
        have k1 := hW.c2
        have kf := hW.f2
        have i1 : (1 : Int) ≤ l := by omega
        have i2 : (l : Int) ≤ 4000 := by have := HN.out.2.1; omega
        have W2 : Wk (wr.setCell ⟨X, 2, none⟩ (.int .i64 ((l : Int) - 1))) X (l - 1) := by
          have := hW.set (l - 1)
          rwa [show ((l - 1 : Nat) : Int) = (l : Int) - 1 by omega] at this
        have B2 : Below w0.heap.size w0 (wr.setCell ⟨X, 2, none⟩ (.int .i64 ((l : Int) - 1))) := hB.setCell hX _
        clear hW hB
        have C : C5 _ sb (so + j * 5) (sps j) := (hs.kept B2).cells hlt
        have D : C5 _ tb (to' + j * 5) (tps j) := (ht.kept B2).cells hlt
        have P : (sps j).At w0 := hs.part hlt
        have R : (tps j).At w0 := ht.part hlt
        go_wp2
        generalize wr.setCell ⟨X, 2, none⟩ (.int .i64 ((l : Int) - 1)) = w2 at *
        cases hq : hdEq (sps j) (tps j)
        · have k0 := fun x => Gr.cell x W2.c1
          have p0 := fun x => Gr.cell x C.c0
          have p1 := fun x => Gr.cell x C.c1
          have p2 := fun x => Gr.cell x C.c2
          have p3 := fun x => Gr.cell x C.c3
          have p4 := fun x => Gr.cell x C.c4
          have q0 := fun x => Gr.cell x D.c0
          have q1 := fun x => Gr.cell x D.c1
          have q2 := fun x => Gr.cell x D.c2
          have q3 := fun x => Gr.cell x D.c3
          have q4 := fun x => Gr.cell x D.c4
          have hNE : Nonempty (Gr w2) := ⟨⟨_, Below.refl _ _⟩⟩
          have H1 : ∀ u, Below w0.heap.size w0 u → Calls Tryz.prog 22 #[.agg #[.int .i64 (sps j).k, .int .i64 (sps j).l, .slice (sps j).ao (sps j).len (sps j).cap, .int .i64 (sps j).h, .int .i64 (sps j).e], .agg #[.int .i64 (tps j).k, .int .i64 (tps j).l, .slice (tps j).ao (tps j).len (tps j).cap, .int .i64 (tps j).h, .int .i64 (tps j).e]] u fun e w' => e = .returned (.bool false) ∧ Below u.heap.size u w' := fun u hu => by
            have := same1_any (sps j) (tps j) u (P.kept hu) (R.kept hu)
            rwa [hq] at this
          have HQ : Hid ((sps j).same (tps j) = false) := by show (sps j).same (tps j) = false; rw [same_eq, hq]; rfl
          clear hq
          refine wp_region_gr (by kernel_rfl) (by kernel_rfl) ?_
          repeat (first | go_big_quiet_step ((go_at_call 22; exact Calls.gr _ (H1 _ (Below.next B2 (Gr.bl _))))))
          refine wpQuiet_nil ?_
          rintro w4 ⟨x4, rfl⟩
          have B4 := x4.bl
          generalize x4.w = w4 at B4 ⊢
          clear x4 k0 p0 p1 p2 p3 p4 q0 q1 q2 q3 q4 hNE C D P R H1
          go_wp2
          go_ret
          exact PP.intro false rfl (decide_eq_false (fun hh => absurd (HQ.out.symm.trans (hh j hlt)) (by decide))).symm (Below.next B2 B4) (l - 1) (W2.kept B4) (fun h => Bool.noConfusion h)
        · have H1 : ∀ u, Below w0.heap.size w0 u → Calls Tryz.prog 22 #[.agg #[.int .i64 (sps j).k, .int .i64 (sps j).l, .slice (sps j).ao (sps j).len (sps j).cap, .int .i64 (sps j).h, .int .i64 (sps j).e], .agg #[.int .i64 (tps j).k, .int .i64 (tps j).l, .slice (tps j).ao (tps j).len (tps j).cap, .int .i64 (tps j).h, .int .i64 (tps j).e]] u fun e w' => e = .returned (.bool true) ∧ Below u.heap.size u w' := fun u hu => by
            have := same1_any (sps j) (tps j) u (P.kept hu) (R.kept hu)
            rwa [hq] at this
          have H2 := fun u (hu : Wk u X (l - 1)) (hv : Below w0.heap.size w0 u) => ih j (tps j) u (l - 1) P R (hd_len hq) HN.out.1 (by have := HN.out.2.1; omega) hu hv
          have HQ : Hid ((sps j).same (tps j) = decide (∀ i, i < (sps j).len → ((sps j).ps i).same ((tps j).ps i) = true)) := by show (sps j).same (tps j) = _; rw [same_eq, hq]; rfl
          clear hq
          have k0 := fun x => Gr.cell x W2.c1
          have k9 := fun x => Gr.cell x W2.c0
          have p0 := fun x => Gr.cell x C.c0
          have p1 := fun x => Gr.cell x C.c1
          have p2 := fun x => Gr.cell x C.c2
          have p3 := fun x => Gr.cell x C.c3
          have p4 := fun x => Gr.cell x C.c4
          have q0 := fun x => Gr.cell x D.c0
          have q1 := fun x => Gr.cell x D.c1
          have q2 := fun x => Gr.cell x D.c2
          have q3 := fun x => Gr.cell x D.c3
          have q4 := fun x => Gr.cell x D.c4
          have hNE : Nonempty (Gr w2) := ⟨⟨_, Below.refl _ _⟩⟩
          refine wp_region_gr_tail 34 (by kernel_rfl) (by kernel_rfl) ?_
          simp only [List.take, List.drop]
          repeat (first | go_big_quiet_step ((first | (go_at_call 22; exact Calls.gr _ (H1 _ (Below.next B2 (Gr.bl _)))) | (go_at_call 21; first | with_reducible exact Calls.gr _ (partsOf_any (sps j) _) | with_reducible exact Calls.gr _ (partsOf_any (tps j) _)))))
          refine wpQuiet_nil ?_
          rintro w4 ⟨x4, rfl⟩
          have B4 := x4.bl
          generalize x4.w = w4 at B4 ⊢
          clear x4 k0 k9 p0 p1 p2 p3 p4 q0 q1 q2 q3 q4 hNE C D P R H1
          have H3 := H2 w4 (W2.kept B4) (Below.next B2 B4)
          clear H2 W2 B2 B4
          go_wp2_with fail
          refine H3.mono ?_
          intro e w6 hPP
          obtain ⟨r, rfl, hr, B6, L6, W6, hr6⟩ := hPP
          have HR : Hid (r = decide (∀ i, i < (sps j).len → ((sps j).ps i).same ((tps j).ps i) = true) ∧ (r = true → L6 + (sps j).pn = l - 1)) := ⟨hr, hr6⟩
          clear hr hr6 H3
          cases r
          · go_wp2
            go_ret
            exact PP.intro false rfl (decide_eq_false (fun hh => absurd ((HR.out.1.trans HQ.out.symm).trans (hh j hlt)) (by decide))).symm B6 L6 W6 (fun h => Bool.noConfusion h)
          · go_wp2
            go_roundw
            case rel => exact ⟨j + 1, L6, by omega, by go_num, fun i hi => (by
                by_cases e : i = j
                · subst e; rw [HQ.out, ← HR.out.1]
                · exact HD.out.1 i (by omega)), by have h1 := HD.out.2; have h2 := HR.out.2 (by simp); have h3 := HN.out; simp only [sumTo]; omega, W6, B6⟩
            case measure => simp [intOf]; omega
      · have e : slen = j := by omega
        subst e
        have dl : ¬ (slen : Int) < slen := by omega
        go_wp2
        go_ret
        exact PP.intro true rfl (decide_eq_true HD.out.1).symm hB l hW (fun _ => HD.out.2)
end Go.Proofs.YtcoeefckldkbeaaGreatDoor

/- Layer 2: Same. -/
namespace Go.Proofs.YtcoeefckldkbeaaGreatDoor
open Go.RowKit

theorem wk_new (w : World) : Wk (w.alloc (.cells #[.func (.func 21) #[] #[], .func (.func 22) #[] #[], .int .i64 4000, .slice none 0 0, .map none] 78)) w.heap.size 4000 := by
  constructor <;> simp

set_option maxRecDepth 100000 in
set_option maxHeartbeats 4000000 in
theorem everywhere_any (s t : Ty) (w : World) (hs : s.At w) (ht : t.At w) (hL : s.pn ≤ 4000) :
    Calls Tryz.prog 20 #[.agg #[.int .i64 s.k, .int .i64 s.l, .slice s.ao s.len s.cap, .int .i64 s.h, .int .i64 s.e], .agg #[.int .i64 t.k, .int .i64 t.l, .slice t.ao t.len t.cap, .int .i64 t.h, .int .i64 t.e], .func (.func 21) #[] #[], .func (.func 22) #[] #[]] w fun e w' => e = .returned (.bool (s.same t)) ∧ Below w.heap.size w w' := by
  obtain ⟨X0, Y0, B0⟩ := start_tt w s t
  have hs0 := hs.kept B0
  have ht0 := ht.kept B0
  have K0 := wk_new ((w.alloc (tyO s)).alloc (tyO t))
  have BK := below_alloc ((w.alloc (tyO s)).alloc (tyO t)) (.cells #[.func (.func 21) #[] #[], .func (.func 22) #[] #[], .int .i64 4000, .slice none 0 0, .map none] 78)
  have X1 := X0.kept BK
  have Y1 := Y0.kept BK
  have sz : ((w.alloc (tyO s)).alloc (tyO t)).heap.size = w.heap.size + 2 := by rw [alloc_size, alloc_size]
  have HP := fun u (L : Nat) (hu : Wk u ((w.alloc (tyO s)).alloc (tyO t)).heap.size L) (h1 : s.pn ≤ L) (h2 : L ≤ 4000) (h3 : s.len = t.len) (hv : Below ((w.alloc (tyO s)).alloc (tyO t)).heap.size ((w.alloc (tyO s)).alloc (tyO t)) u) => parts_any _ _ (Nat.le_refl _) s t u L hs0 ht0 h3 h1 h2 hu hv
  rw [sz] at HP K0
  unfold tyO at *
  have HB : Hid (Below w.heap.size w ((w.alloc (.cells #[.int .i64 s.k, .int .i64 s.l, .slice s.ao s.len s.cap, .int .i64 s.h, .int .i64 s.e] 24)).alloc (.cells #[.int .i64 t.k, .int .i64 t.l, .slice t.ao t.len t.cap, .int .i64 t.h, .int .i64 t.e] 24))) := B0
  have HZ : Hid (((w.alloc (.cells #[.int .i64 s.k, .int .i64 s.l, .slice s.ao s.len s.cap, .int .i64 s.h, .int .i64 s.e] 24)).alloc (.cells #[.int .i64 t.k, .int .i64 t.l, .slice t.ao t.len t.cap, .int .i64 t.h, .int .i64 t.e] 24)).heap.size = w.heap.size + 2) := sz
  clear B0 sz
  go_enter Tryz.func20, Tryz.ntmps20
  go_wp2
  generalize ((w.alloc (.cells #[.int .i64 s.k, .int .i64 s.l, .slice s.ao s.len s.cap, .int .i64 s.h, .int .i64 s.e] 24)).alloc (.cells #[.int .i64 t.k, .int .i64 t.l, .slice t.ao t.len t.cap, .int .i64 t.h, .int .i64 t.e] 24)) = w0 at *
  generalize w0.alloc (.cells #[.func (.func 21) #[] #[], .func (.func 22) #[] #[], .int .i64 4000, .slice none 0 0, .map none] 78) = w2 at *
  have H1 : ∀ u, Below w0.heap.size w0 u → Calls Tryz.prog 22 #[.agg #[.int .i64 s.k, .int .i64 s.l, .slice s.ao s.len s.cap, .int .i64 s.h, .int .i64 s.e], .agg #[.int .i64 t.k, .int .i64 t.l, .slice t.ao t.len t.cap, .int .i64 t.h, .int .i64 t.e]] u fun e w' => e = .returned (.bool (hdEq s t)) ∧ Below u.heap.size u w' := fun u hu => same1_any s t u (hs0.kept hu) (ht0.kept hu)
  have x0 := fun q => Gr.cell q X1.c0
  have x1 := fun q => Gr.cell q X1.c1
  have x2 := fun q => Gr.cell q X1.c2
  have x3 := fun q => Gr.cell q X1.c3
  have x4 := fun q => Gr.cell q X1.c4
  have y0 := fun q => Gr.cell q Y1.c0
  have y1 := fun q => Gr.cell q Y1.c1
  have y2 := fun q => Gr.cell q Y1.c2
  have y3 := fun q => Gr.cell q Y1.c3
  have y4 := fun q => Gr.cell q Y1.c4
  have hNE : Nonempty (Gr w2) := ⟨⟨_, Below.refl _ _⟩⟩
  clear X0 Y0 X1 Y1
  cases hq : hdEq s t
  · have HQ : Hid (s.same t = false) := by show s.same t = false; rw [same_eq, hq]; rfl
    rw [hq] at H1
    clear hq HP
    refine wp_region_gr (by kernel_rfl) (by kernel_rfl) ?_
    repeat (first | go_big_quiet_step ((go_at_call 22; exact Calls.gr _ (H1 _ (Below.next BK (Gr.bl _))))))
    refine wpQuiet_nil ?_
    rintro w4 ⟨q4, rfl⟩
    have B4 := q4.bl
    generalize q4.w = w4 at B4 ⊢
    clear q4 x0 x1 x2 x3 x4 y0 y1 y2 y3 y4 hNE H1
    go_wp2
    go_ret
    exact ⟨ret_bool HQ.out.symm, Below.next HB.out (Below.next BK B4)⟩
  · have HQ : Hid (s.same t = decide (∀ i, i < s.len → (s.ps i).same (t.ps i) = true)) := by show s.same t = _; rw [same_eq, hq]; rfl
    have hl := hd_len hq
    rw [hq] at H1
    have hP := fun (w5 : World) (B5 : Below w2.heap.size w2 w5) => HP w5 4000 (K0.kept B5) hL (Nat.le_refl _) hl ((Below.next BK B5).mono (Nat.le_of_eq HZ.out.symm))
    clear hl hq HP K0
    refine wp_region_gr_tail 12 (by kernel_rfl) (by kernel_rfl) ?_
    simp only [List.take, List.drop]
    repeat (first | go_big_quiet_step ((first | (go_at_call 22; exact Calls.gr _ (H1 _ (Below.next BK (Gr.bl _)))) | (go_at_call 21; first | with_reducible exact Calls.gr _ (partsOf_any s _) | with_reducible exact Calls.gr _ (partsOf_any t _)))))
    refine wpQuiet_nil ?_
    rintro w4 ⟨q4, rfl⟩
    have B4 := q4.bl
    generalize q4.w = w4 at B4 ⊢
    clear q4 x0 x1 x2 x3 x4 y0 y1 y2 y3 y4 hNE H1
    have H3 := hP w4 B4
    clear hP
    go_wp2_with fail
    refine H3.mono ?_
    intro e w6 hPP
    obtain ⟨r, rfl, hr, B6, L6, W6, hr6⟩ := hPP
    have HR : Hid (r = decide (∀ i, i < s.len → (s.ps i).same (t.ps i) = true)) := hr
    clear hr hr6 H3
    cases r
    · go_wp2
      go_ret
      exact ⟨ret_bool (HR.out.trans HQ.out.symm), Below.next HB.out B6⟩
    · have k2 := W6.c3
      go_wp2
      go_loopw [10] (fun _ wr => wr = w6) (fun _ _ => 0)
      case atStart => rfl
      case round =>
        subst hrel
        go_wp2
        go_ret
        exact ⟨ret_bool (HR.out.trans HQ.out.symm), Below.next HB.out B6⟩

set_option maxHeartbeats 1000000 in
theorem Same_any2 (s t : Ty) (w : World) (hs : s.At w) (ht : t.At w) (hL : s.pn ≤ 1000) :
    Calls Tryz.prog 14 #[.agg #[.int .i64 s.k, .int .i64 s.l, .slice s.ao s.len s.cap, .int .i64 s.h, .int .i64 s.e], .agg #[.int .i64 t.k, .int .i64 t.l, .slice t.ao t.len t.cap, .int .i64 t.h, .int .i64 t.e]] w fun e w' => e = .returned (.bool (s.same t)) ∧ Below w.heap.size w w' := by
  obtain ⟨X0, Y0, B0⟩ := start_tt w s t
  have h := everywhere_any s t _ (hs.kept B0) (ht.kept B0) (Nat.le_trans hL (by decide))
  unfold tyO at *
  go_enter Tryz.func14, Tryz.ntmps14
  go_wp2_with fail
  refine h.mono ?_
  rintro e w5 ⟨rfl, hb5⟩
  go_wp2
  go_ret
  exact ⟨rfl, Below.next B0 hb5⟩
end Go.Proofs.YtcoeefckldkbeaaGreatDoor
