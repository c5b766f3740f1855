/- Layer 14: what a function that breaks no rule has. -/
import Derived.Test.YtmajlfocfjcgmaaGreatDoorP8
import Derived.Test.YtmajlfocfjcgmaaGreatDoorP18
import Derived.Test.YtmajlfocfjcgmaaGreatDoorP16
import Derived.Test.YtmajlfocfjcgmaaGreatDoorP10
import Derived.Test.YtmajlfocfjcgmaaGreatDoorP14
namespace Go.Proofs.YtmajlfocfjcgmaaGreatDoor
open Go Go.RowKit

/-- What a function that breaks no rule has. -/
structure Wf (f : Cf) : Prop where
  pos : 0 < f.cd.len
  pts : f.pt.len = f.cd.len
  jmp : ∀ i, i < f.cd.len → (f.cd.x i).op = 24 ∨ (f.cd.x i).op = 25 → (i : Int) < (f.cd.x i).a ∧ (f.cd.x i).a < f.cd.len
  han : ∀ i, i < f.hd.len → (f.hd.x i).to ≤ (f.hd.x i).at_ ∧ (f.hd.x i).at_ < f.cd.len
  last : (f.cd.x (f.cd.len - 1)).op = 27 ∨ (f.cd.x (f.cd.len - 1)).op = 26
theorem Cf.wf {nf nl : Nat} {f : Cf} (h : f.brk nf nl = 0) : Wf f := by
  obtain ⟨⟨⟨h1, h2⟩, h3⟩, _⟩ := Cf.brk_zero h
  unfold Cf.cntB at h1
  unfold Cf.codB Cf.codA lastB at h2
  unfold Cf.hanB at h3
  simp only [Bool.and_eq_true, Bool.or_eq_true, decide_eq_true_eq] at h1 h2 h3
  refine ⟨h1.1.1, h1.1.2, fun i hi ho => ?_, fun i hi => ?_, h2.2⟩
  · have := h2.1 i hi
    unfold In.nhB at this
    rw [if_neg (by omega), if_neg (by omega), if_neg (by omega), if_pos ho] at this
    unfold btw at this
    simp only [Bool.and_eq_true, decide_eq_true_eq] at this
    omega
  · have := h3 i hi
    unfold Hn.hold at this
    simp only [Bool.and_eq_true, decide_eq_true_eq] at this
    exact ⟨this.1.2, this.2⟩
end Go.Proofs.YtmajlfocfjcgmaaGreatDoor

/- Layer 15: ways of a well formed function go ahead: the mathematics. -/
namespace Go.Proofs.YtmajlfocfjcgmaaGreatDoor
open Go Go.RowKit

/-- Well formed, and no Op is 0. -/
structure Wg (f : Cf) : Prop where
  wf : Wf f
  op : ∀ i, i < f.cd.len → 1 ≤ (f.cd.x i).op
theorem Wg.han {f : Cf} (h : Wg f) (p : Nat) : f.han p = -1 ∨ ((p : Int) < f.han p ∧ f.han p < f.cd.len) := by
  rcases first_hit (f.hit p) f.hd.len with h1 | ⟨j, h1, h2, h3⟩
  · exact Or.inl (Cf.han_miss h1)
  · rw [Cf.han_hit h1 h2 h3]
    have := h.wf.han j h1
    unfold Cf.hit at h2
    simp only [Bool.and_eq_true, decide_eq_true_eq] at h2
    exact Or.inr ⟨by omega, by omega⟩
theorem Wg.up {f : Cf} {g : Rw Bool} (h : Wg f) {p q : Nat} (hp : p < f.cd.len) (hw : f.way g p q) : p < q := by
  rcases hw.2 with h1 | h1 | h1
  · omega
  · have := h.wf.jmp p hp h1.1; omega
  · rcases h.han p with h2 | h2 <;> omega
theorem rsO_jmp {op : Int} (h : op = 24 ∨ op = 25) : rsO op = false := by rcases h with rfl | rfl <;> rfl
/-- A place that has no way leaves. -/
theorem Wg.on {f : Cf} {g : Rw Bool} (h : Wg f) {p : Nat} (hp : p < f.cd.len) (hn : ∀ q, ¬ f.way g p q) : f.lv g p = true := by
  by_cases h27 : (f.cd.x p).op = 27
  · unfold Cf.lv; rw [decide_eq_true h27]; rfl
  by_cases h26 : (f.cd.x p).op = 26
  · have hrs : f.rs g p = true := by unfold Cf.rs rsO; rw [h26]; rfl
    have hh : f.han p = -1 := by
      rcases h.han p with h1 | h1
      · exact h1
      · exact absurd ⟨by omega, Or.inr (Or.inr ⟨hrs, by omega⟩)⟩ (hn (f.han p).toNat)
    unfold Cf.lv
    rw [hrs, decide_eq_true hh]
    simp
  exfalso
  have hl : p + 1 < f.cd.len := by
    by_cases e : p = f.cd.len - 1
    · have := h.wf.last; rw [← e] at this; rcases this with k | k
      · exact absurd k h27
      · exact absurd k h26
    · omega
  have h1 := h.op p hp
  by_cases h24 : (f.cd.x p).op = 24
  · have := h.wf.jmp p hp (Or.inl h24)
    exact hn (f.cd.x p).a.toNat ⟨by omega, Or.inr (Or.inl ⟨Or.inl h24, by omega⟩)⟩
  · have hx : nxO (f.cd.x p).op = true := by unfold nxO; simp [h24, h26, h27]; omega
    exact hn (p + 1) ⟨hl, Or.inl ⟨rfl, hx⟩⟩
theorem Wg.br {f : Cf} {g : Rw Bool} (h : Wg f) {p : Nat} (hp : p < f.cd.len) (hb : f.br g p = true) : ∃ q, f.way g p q := by
  unfold Cf.br at hb
  simp only [Bool.or_eq_true, Bool.and_eq_true, decide_eq_true_eq] at hb
  rcases hb with h25 | ⟨hop, _⟩
  · have := h.wf.jmp p hp (Or.inr h25)
    exact ⟨(f.cd.x p).a.toNat, by omega, Or.inr (Or.inl ⟨Or.inr h25, by omega⟩)⟩
  · have hl : p + 1 < f.cd.len := by
      by_cases e : p = f.cd.len - 1
      · have := h.wf.last; rw [← e] at this; omega
      · omega
    refine ⟨p + 1, hl, Or.inl ⟨rfl, ?_⟩⟩
    unfold nxO
    rcases hop with (k | k) | k <;> rw [k] <;> rfl
theorem len_two {l : List Nat} (hr : l.Pairwise (· < ·)) {x y : Nat} (h : ∀ a ∈ l, a = x ∨ a = y) : l.length ≤ 2 := by
  match l, hr, h with
  | [], _, _ => simp
  | [_], _, _ => simp
  | [_, _], _, _ => simp
  | a :: b :: c :: t, hr, h =>
    exfalso
    have h1 := h a (by simp)
    have h2 := h b (by simp)
    have h3 := h c (by simp)
    rw [List.pairwise_cons, List.pairwise_cons] at hr
    have k1 := hr.1 b (by simp)
    have k2 := hr.1 c (by simp)
    have k3 := hr.2.1 c (by simp)
    omega
theorem ws_two (f : Cf) (g : Rw Bool) (p : Nat) : (f.ws g p).length ≤ 2 := by
  unfold Cf.ws Cf.wsH
  rw [List.length_map]
  by_cases hj : (f.cd.x p).op = 24 ∨ (f.cd.x p).op = 25
  · have hrs : f.rs g p = false := by
      unfold Cf.rs
      rw [rsO_jmp hj, decide_eq_false (by omega)]; rfl
    refine len_two (Fl.lst_rising _ _) (x := p + 1) (y := (f.cd.x p).a.toNat) (fun a ha => ?_)
    rcases (Fl.mem_lst.1 ha).2.2 with k | k | k
    · exact Or.inl k.1
    · exact Or.inr (by omega)
    · rw [hrs] at k; cases k.1
  · refine len_two (Fl.lst_rising _ _) (x := p + 1) (y := (f.han p).toNat) (fun a ha => ?_)
    rcases (Fl.mem_lst.1 ha).2.2 with k | k | k
    · exact Or.inl k.1
    · exact absurd k.1 hj
    · exact Or.inr (by omega)
theorem ws_mem {f : Cf} {g : Rw Bool} {p : Nat} {a : Int} : a ∈ f.ws g p ↔ ∃ q : Nat, a = q ∧ f.way g p q := by
  unfold Cf.ws Cf.wsH
  rw [mem_lstm]
  constructor
  · rintro ⟨q, e, _, k⟩; exact ⟨q, e, k⟩
  · rintro ⟨q, e, k⟩; exact ⟨q, e, k.1, k⟩
theorem Wg.reach {f : Cf} {g : Rw Bool} (h : Wg f) {p : Nat} (hp : p < f.cd.len) {r : Rw Int} (hr : r.ls = f.ws g p) {a : Int} (ha : a ∈ f.rch g r (-1)) : (p : Int) < a := by
  unfold Cf.rch at ha
  obtain ⟨q, rfl, hq, hR⟩ := mem_lstm.1 ha
  have key : p < q ∧ q < f.cd.len := by
    refine hR.all (R := fun q => p < q ∧ q < f.cd.len) (fun q h1 _ => ?_) (fun a b h1 h2 _ => ⟨?_, h2.1⟩)
    · rw [hr] at h1
      obtain ⟨q', e, k⟩ := ws_mem.1 h1.1
      have : q = q' := by omega
      subst this
      exact ⟨h.up hp k, h1.2⟩
    · have := h.up h1.2 h2; omega
  omega
theorem Kl.wg {c : Kl} (h : c.fm = true) (hb : ∀ i, i < c.fs.len → c.brk i = 0) {k : Nat} (hk : k < c.fs.len) : Wg (c.fs.x k) ∧ (c.fs.x k).cd.len ≤ 2000 := by
  unfold Kl.fm at h
  simp only [Bool.and_eq_true, decide_eq_true_eq] at h
  have hf := h.2.2 k hk
  unfold Cf.fm Cf.few at hf
  simp only [Bool.and_eq_true, decide_eq_true_eq] at hf
  refine ⟨⟨Cf.wf (hb k hk), fun i hi => ?_⟩, hf.1.2.2.1⟩
  have := hf.2.2.2.1 i hi
  unfold In.fm at this
  simp only [Bool.and_eq_true, decide_eq_true_eq] at this
  exact this.1.1
end Go.Proofs.YtmajlfocfjcgmaaGreatDoor

/- Layer 15: what the statements say of what is come to: the mathematics; rows of numbers appended. -/
namespace Go.Proofs.YtmajlfocfjcgmaaGreatDoor
open Go Go.RowKit

def Cf.Rq (f : Cf) (g : Rw Bool) (L : List Int) (stop : Int) (q : Nat) : Prop := Fl.Rch (f.way g) (fun q => (q : Int) ∈ L ∧ q < f.cd.len) stop q
theorem Cf.Rq.lt {f : Cf} {g : Rw Bool} {L : List Int} {stop : Int} {q : Nat} (h : f.Rq g L stop q) : q < f.cd.len := Fl.Rch.lt (fun _ h => h.2) (fun _ _ h => h.1) h
theorem Cf.mem_rch {f : Cf} {g : Rw Bool} {r : Rw Int} {stop a : Int} : a ∈ f.rch g r stop ↔ ∃ q : Nat, a = q ∧ f.Rq g r.ls stop q := by
  unfold Cf.rch
  rw [mem_lstm]
  constructor
  · rintro ⟨q, e, _, h⟩; exact ⟨q, e, h⟩
  · rintro ⟨q, e, h⟩; exact ⟨q, e, Cf.Rq.lt h, h⟩
theorem Cf.rch_more {f : Cf} {g : Rw Bool} {r s : Rw Int} {stop a : Int} (h : ∀ a ∈ r.ls, a ∈ s.ls) (ha : a ∈ f.rch g r stop) : a ∈ f.rch g s stop := by
  obtain ⟨q, e, hq⟩ := Cf.mem_rch.1 ha
  exact Cf.mem_rch.2 ⟨q, e, Fl.Rch.mono (fun p hp => ⟨h _ hp.1, hp.2⟩) hq⟩
theorem Cf.rch_free {f : Cf} {g : Rw Bool} {r : Rw Int} {stop a : Int} (ha : a ∈ f.rch g r stop) : a ∈ f.rch g r (-1) := by
  obtain ⟨q, e, hq⟩ := Cf.mem_rch.1 ha
  exact Cf.mem_rch.2 ⟨q, e, Fl.Rch.free hq⟩
theorem Cf.rch_stop {f : Cf} {g : Rw Bool} {r : Rw Int} {stop : Int} (h : stop ∉ f.rch g r (-1)) : f.rch g r stop = f.rch g r (-1) := by
  unfold Cf.rch
  congr 1
  apply Fl.lst_congr
  intro p _
  exact ⟨Fl.Rch.free, Fl.Rch.unfree (fun q e hq => h (Cf.mem_rch.2 ⟨q, e.symm, hq⟩))⟩
theorem Cf.rch_union {f : Cf} {g : Rw Bool} {r s t : Rw Int} {stop a : Int} (h : t.ls = r.ls ++ s.ls) : a ∈ f.rch g t stop ↔ a ∈ f.rch g r stop ∨ a ∈ f.rch g s stop := by
  have key : ∀ q, f.Rq g t.ls stop q ↔ f.Rq g r.ls stop q ∨ f.Rq g s.ls stop q := fun q => by
    unfold Cf.Rq
    rw [← Fl.Rch.union, h]
    constructor
    · exact Fl.Rch.mono (fun p hp => (List.mem_append.1 hp.1).imp (fun h => ⟨h, hp.2⟩) (fun h => ⟨h, hp.2⟩))
    · exact Fl.Rch.mono (fun p hp => hp.elim (fun h => ⟨List.mem_append.2 (Or.inl h.1), h.2⟩) (fun h => ⟨List.mem_append.2 (Or.inr h.1), h.2⟩))
  rw [Cf.mem_rch, Cf.mem_rch, Cf.mem_rch]
  constructor
  · rintro ⟨q, e, hq⟩
    exact ((key q).1 hq).imp (fun h => ⟨q, e, h⟩) (fun h => ⟨q, e, h⟩)
  · rintro (⟨q, e, hq⟩ | ⟨q, e, hq⟩)
    · exact ⟨q, e, (key q).2 (Or.inl hq)⟩
    · exact ⟨q, e, (key q).2 (Or.inr hq)⟩
theorem Cf.rch_union_len {f : Cf} {g : Rw Bool} {r s t : Rw Int} {stop : Int} (h : t.ls = r.ls ++ s.ls) : (f.rch g t stop).length ≤ (f.rch g r stop).length + (f.rch g s stop).length := by
  unfold Cf.rch
  rw [List.length_map, List.length_map, List.length_map]
  refine Fl.lst_union_len (fun p hp => ?_)
  have := (Cf.rch_union (f := f) (g := g) (stop := stop) (a := (p : Int)) h).1 (Cf.mem_rch.2 ⟨p, rfl, hp⟩)
  rw [Cf.mem_rch, Cf.mem_rch] at this
  rcases this with ⟨q, e, hq⟩ | ⟨q, e, hq⟩
  · have : p = q := by omega
    subst this; exact Or.inl hq
  · have : p = q := by omega
    subst this; exact Or.inr hq
theorem Cf.rch_from {f : Cf} {g : Rw Bool} {r : Rw Int} {stop : Int} {q : Nat} (h1 : (q : Int) ∈ r.ls) (h2 : q < f.cd.len) (h3 : (q : Int) ≠ stop) : (q : Int) ∈ f.rch g r stop := Cf.mem_rch.2 ⟨q, rfl, .base ⟨h1, h2⟩ h3⟩
theorem Cf.rch_way {f : Cf} {g : Rw Bool} {r : Rw Int} {stop : Int} {p : Nat} {a : Int} (h1 : (p : Int) ∈ f.rch g r stop) (h2 : a ∈ f.ws g p) (h3 : a ≠ stop) : a ∈ f.rch g r stop := by
  obtain ⟨p', e, hp⟩ := Cf.mem_rch.1 h1
  have : p = p' := by omega
  subst this
  obtain ⟨q, rfl, _, hq⟩ := mem_lstm.1 h2
  exact Cf.mem_rch.2 ⟨q, rfl, .step hp hq h3⟩
theorem Cf.rch_come {f : Cf} {g : Rw Bool} {r : Rw Int} {stop a : Int} (h : a ∈ f.rch g r stop) : a ∈ r.ls ∨ ∃ p : Nat, (p : Int) ∈ f.rch g r stop ∧ a ∈ f.ws g p := by
  obtain ⟨q, rfl, hq⟩ := Cf.mem_rch.1 h
  rcases Fl.Rch.come hq with h1 | ⟨p, h1, h2⟩
  · exact Or.inl h1.1
  · exact Or.inr ⟨p, Cf.mem_rch.2 ⟨p, rfl, h1⟩, mem_lstm.2 ⟨q, rfl, h2.1, h2⟩⟩
theorem Cf.rch_ne {f : Cf} {g : Rw Bool} {r : Rw Int} {stop a : Int} (h : a ∈ f.rch g r stop) : a ≠ stop := by
  obtain ⟨q, rfl, hq⟩ := Cf.mem_rch.1 h
  exact Fl.Rch.ne hq
theorem Cf.rch_len (f : Cf) (g : Rw Bool) (r : Rw Int) (stop : Int) : (f.rch g r stop).length ≤ f.cd.len := by
  unfold Cf.rch; rw [List.length_map]; exact lst_len _ _
theorem Rw.rising {r : Rw Int} {n : Nat} {P : Nat → Prop} (h : r.ls = (Fl.lst n P).map fun q : Nat => (q : Int)) {i : Nat} (hi : i + 1 < r.len) : r.x i < r.x (i + 1) := by
  have hp := lstm_rising n P
  rw [← h] at hp
  have := List.pairwise_iff_getElem.1 hp i (i + 1) (by rw [r.ls_len]; omega) (by rw [r.ls_len]; omega) (by omega)
  have e1 := r.ls_get i (by omega)
  have e2 := r.ls_get (i + 1) hi
  rw [List.getElem?_eq_getElem (by rw [r.ls_len]; omega)] at e1 e2
  rw [Option.some.inj e1, Option.some.inj e2] at this
  exact this
theorem Rw.has_true {r : Rw Int} {a : Int} (h : a ∈ r.ls) : r.has a = true := decide_eq_true h
/-- A result's list, read. -/
theorem Oi.read {w : World} {base n : Nat} {v : Value} {P : Nat → Prop} (h : Oi w base v ((Fl.lst n P).map fun q : Nat => (q : Int))) (hn : n ≤ 100000) : ∃ r : Rw Int, v = .slice r.ao r.len r.cap ∧ NmAt w r ∧ r.ls = (Fl.lst n P).map (fun q : Nat => (q : Int)) ∧ base ≤ r.b := by
  have hs := lstm_small (n := n) (P := P) hn
  obtain ⟨r, h1, h2, h3, _, h5⟩ := h.rw hs.1 hs.2
  exact ⟨r, h1, h2, h3, h5⟩

theorem Oi.readR {w : World} {base : Nat} {v : Value} {f : Cf} {g : Rw Bool} {r : Rw Int} {stop : Int} (h : Oi w base v (f.rch g r stop)) (hn : f.cd.len ≤ 100000) : ∃ s : Rw Int, v = .slice s.ao s.len s.cap ∧ NmAt w s ∧ s.ls = f.rch g r stop := by
  unfold Cf.rch at *
  obtain ⟨s, h1, h2, h3, _⟩ := h.read hn
  exact ⟨s, h1, h2, h3⟩
theorem Oi.readW {w : World} {base : Nat} {v : Value} {f : Cf} {g : Rw Bool} {p : Nat} (h : Oi w base v (f.ws g p)) (hn : f.cd.len ≤ 100000) : ∃ s : Rw Int, v = .slice s.ao s.len s.cap ∧ NmAt w s ∧ s.ls = f.ws g p := by
  unfold Cf.ws Cf.wsH at *
  obtain ⟨s, h1, h2, h3, _⟩ := h.read hn
  exact ⟨s, h1, h2, h3⟩
/-- Nil is empty. -/
def Nn {α : Type} (r : Rw α) : Prop := r.ao = none → r.len = 0 ∧ r.cap = 0
theorem ivL_ls_cell {w : World} {r : Rw Int} (h : NmAt w r) : ∀ a, r.ao = some a → ∀ j u, (ivL r.ls)[j]? = some u → w.cell? (a.add j) = some u := by
  intro a ha j u hj
  have hlt : j < r.len := by have := (List.getElem?_eq_some_iff.1 hj).1; rwa [ivL_len, r.ls_len] at this
  have e := h.nil (by omega)
  rw [ha] at e
  cases e
  have hu : u = .int .i64 (r.x j) := by
    have := r.ls_get j hlt
    unfold ivL at hj
    rw [List.getElem?_map, this] at hj
    exact (Option.some.inj hj).symm
  subst hu
  rw [adp]
  have := h.row j hlt 0 _ rfl
  simpa using this
/-- A list put behind. -/
theorem wpList_appR {w : World} {ops : Array Oper} {rest : List Oper} {o : Oper} {a : Act} {Q : Exit → Act → World → Prop} (hgd : o.guard = none) (s x : Operand)
    (hop : o.op = .call { callee := .builtin .append, args := #[s, x], argTypes := #[44, 44] }) (base : Nat) (v : Value) (l : List Int) (r : Rw Int) (hs : a.eval s = v) (ho : Oi w base v l) (hx : a.eval x = .slice r.ao r.len r.cap) (hr : NmAt w r) (hn : Nn r) (hl : l.length + r.len ≤ 1000000) (hb : base ≤ w.heap.size)
    (h : ∀ v' w', Oi w' base v' (l ++ r.ls) → w.grownBy w' v.ownBlock → wpList Tryz.prog ops Q rest (a.put o.dst v') w') : wpList Tryz.prog ops Q (o :: rest) a w := by
  refine wpList_append_any Tryz.underlying44 Tryz.infoI rfl (by decide) hgd s x hop base v l.length (ivL l) hs ho r.ao r.len r.cap (ivL r.ls) hx hn (by rw [ivL_len, r.ls_len]; omega) (ivL_ls_cell hr) (ivL_one _) (by unfold maxLen; omega) (by omega) hb ?_
  intro v' w' h1 h2
  refine h v' w' ?_ h2
  unfold Oi
  rw [List.length_append, ivL, List.map_append, r.ls_len]
  exact h1
/-- The boxes of a statement's f and x. -/
def axV (g : Rw Bool) (r : Rw Int) (stop : Int) : List Value := [.slice g.ao g.len g.cap, .slice r.ao r.len r.cap, .int .i64 stop]
end Go.Proofs.YtmajlfocfjcgmaaGreatDoor

/- Layer 15: Branches. -/
namespace Go.Proofs.YtmajlfocfjcgmaaGreatDoor
open Go Go.RowKit

set_option maxRecDepth 100000 in
set_option maxHeartbeats 8000000 in
theorem branches_any (f : Cf) (g : Rw Bool) (p : Nat) (w : World) (hf : f.At w) (hg : BlAt w g) (hp : p < f.cd.len) : Calls Tryz.prog 10 #[.agg f.vs.toArray, .slice g.ao g.len g.cap, .int .i64 p] w fun e w' => e = .returned (.bool (f.br g p)) ∧ Below w.heap.size w w' := by
  have HWS : Hid (f.br g p = (decide ((f.cd.x p).op = 25) || (((decide ((f.cd.x p).op = 9) || decide ((f.cd.x p).op = 10)) || decide ((f.cd.x p).op = 19)) && f.rs g p))) := rfl
  generalize f.br g p = R at *
  have H1 := hyd (Fb.new w f)
  have hpl : f.pl p = true := Cf.pl_iff.2 ⟨by omega, by omega⟩
  have HD := hyd (show f.At w ∧ BlAt w g ∧ p < f.cd.len from ⟨hf, hg, hp⟩)
  have hbd := hf.cd.bound
  have ip : (p : Int) < f.cd.len := by omega
  have HN14 := hyd (hf.cd.nil (by omega))
  clear hf hg hp
  have h0 := fplace_any f p (w.alloc (.cells f.vs.toArray 43))
  rw [hpl] at h0
  have rF := H1.out.b.range
  generalize hw : w.alloc (.cells f.vs.toArray 43) = u1 at *
  go_enter Tryz.func10, Tryz.ntmps10
  go_wp2_with (refine wpList_load_mid rfl 43 (.tmp 3) rfl w.heap.size 0 (by kernel_rfl) f.vs _ rF Tryz.underlying43 rfl (by kernel_rfl) ?_)
  refine h0.mono ?_
  rintro _ u2 ⟨rfl, hb⟩
  have H2 := hyd (H1.out.kept hb)
  clear h0 hb H1 rF hpl hw
  have c14 := H2.out.b.cell 14 rfl
  rw [HN14.out] at c14
  have r0 := (Cf.At.kept H2.out.bl HD.out.1).cd.row p HD.out.2.2 0 _ rfl
  simp only [Nat.add_zero] at r0
  have hr := raises_any f g p u2 (Cf.At.kept H2.out.bl HD.out.1) (BlAt.kept HD.out.2.1 H2.out.bl) HD.out.2.2
  generalize (f.cd.x p).op = op at *
  generalize f.rs g p = rb at *
  have rF := H2.out.b.range
  by_cases o25 : op = 25
  · subst o25
    have HE : Hid (R = true) := HWS.out
    go_wp2
    go_ret
    exact ⟨ret_bool HE.out.symm, H2.out.bl⟩
  have n25 : (op == 25) = false := by simpa using o25
  by_cases o9 : op = 9
  · subst o9
    have HE : Hid (R = rb) := HWS.out
    go_wp2_with (refine wpList_load_mid rfl 43 (.tmp 3) rfl w.heap.size 0 (by kernel_rfl) f.vs _ rF Tryz.underlying43 rfl (by kernel_rfl) ?_)
    refine hr.mono ?_
    rintro _ u3 ⟨rfl, hb⟩
    have H3 := hyd (H2.out.kept hb)
    clear hr hb H2 rF r0 c14
    go_wp2
    go_ret
    exact ⟨ret_bool HE.out.symm, H3.out.bl⟩
  have n9 : (op == 9) = false := by simpa using o9
  by_cases o10 : op = 10
  · subst o10
    have HE : Hid (R = rb) := HWS.out
    go_wp2_with (refine wpList_load_mid rfl 43 (.tmp 3) rfl w.heap.size 0 (by kernel_rfl) f.vs _ rF Tryz.underlying43 rfl (by kernel_rfl) ?_)
    refine hr.mono ?_
    rintro _ u3 ⟨rfl, hb⟩
    have H3 := hyd (H2.out.kept hb)
    clear hr hb H2 rF r0 c14
    go_wp2
    go_ret
    exact ⟨ret_bool HE.out.symm, H3.out.bl⟩
  have n10 : (op == 10) = false := by simpa using o10
  by_cases o19 : op = 19
  · subst o19
    have HE : Hid (R = rb) := HWS.out
    go_wp2_with (refine wpList_load_mid rfl 43 (.tmp 3) rfl w.heap.size 0 (by kernel_rfl) f.vs _ rF Tryz.underlying43 rfl (by kernel_rfl) ?_)
    refine hr.mono ?_
    rintro _ u3 ⟨rfl, hb⟩
    have H3 := hyd (H2.out.kept hb)
    clear hr hb H2 rF r0 c14
    go_wp2
    go_ret
    exact ⟨ret_bool HE.out.symm, H3.out.bl⟩
  have n19 : (op == 19) = false := by simpa using o19
  have HE : Hid (R = false) := by show _ = _; rw [HWS.out, decide_eq_false o25, decide_eq_false o9, decide_eq_false o10, decide_eq_false o19]; rfl
  clear o25 o9 o10 o19 HWS
  go_wp2
  go_ret
  exact ⟨ret_bool HE.out.symm, H2.out.bl⟩
end Go.Proofs.YtmajlfocfjcgmaaGreatDoor

/- Layer 14: what the rules of form ask of a number, of counts, of handlers, of a join, of places. -/
namespace Go.Proofs.YtmajlfocfjcgmaaGreatDoor
open Go Go.RowKit

set_option maxHeartbeats 4000000 in
theorem between_any (a lo hi : Int) (w : World) : Calls Tryz.prog 60 #[.int .i64 a, .int .i64 lo, .int .i64 hi] w fun e w' => e = .returned (.bool (btw a lo hi)) ∧ Below w.heap.size w w' := by
  have HF : Hid (btw a lo hi = (decide (lo ≤ a) && decide (a < hi))) := rfl
  generalize btw a lo hi = F at *
  by_cases h1 : lo ≤ a
  · have d1 : decide (lo ≤ a) = true := decide_eq_true h1
    have HE : Hid (F = decide (a < hi)) := by show _ = _; rw [HF.out, d1]; rfl
    by_cases h2 : a < hi
    · have d2 : decide (a < hi) = true := decide_eq_true h2
      have HG : Hid (F = true) := HE.out.trans d2
      go_enter Tryz.func60, Tryz.ntmps60
      go_wp2
      go_ret
      exact ⟨ret_bool HG.out.symm, Below.refl _ _⟩
    · have d2 : decide (a < hi) = false := decide_eq_false h2
      have HG : Hid (F = false) := HE.out.trans d2
      go_enter Tryz.func60, Tryz.ntmps60
      go_wp2
      go_ret
      exact ⟨ret_bool HG.out.symm, Below.refl _ _⟩
  · have d1 : decide (lo ≤ a) = false := decide_eq_false h1
    have HE : Hid (F = false) := by show _ = _; rw [HF.out, d1]; rfl
    go_enter Tryz.func60, Tryz.ntmps60
    go_wp2
    go_ret
    exact ⟨ret_bool HE.out.symm, Below.refl _ _⟩

set_option maxHeartbeats 4000000 in
theorem counts_any (f : Cf) (w : World) : Calls Tryz.prog 25 #[.agg f.vs.toArray] w fun e w' => e = .returned (.bool f.cntB) ∧ Below w.heap.size w w' := by
  have B0 := hyd (below_alloc w (.cells f.vs.toArray 43))
  have b := Blk.new w f.vs 43
  have c10 := b.cell 10 rfl
  have c13 := b.cell 13 rfl
  have c14 := b.cell 14 rfl
  have c16 := b.cell 16 rfl
  have HF : Hid (f.cntB = ((decide (0 < f.cd.len) && decide (f.pt.len = f.cd.len)) && decide ((f.c.len : Int) < f.sl))) := rfl
  generalize f.cntB = F at *
  generalize f.vs.toArray = V at *
  clear b
  by_cases h1 : 0 < f.cd.len
  · have d1 : decide ((0 : Int) < f.cd.len) = true := by simp; omega
    have i1 : (0 : Int) < f.cd.len := by omega
    by_cases h2 : f.pt.len = f.cd.len
    · have HE : Hid (F = decide ((f.c.len : Int) < f.sl)) := by show _ = _; rw [HF.out, decide_eq_true h1, decide_eq_true h2]; rfl
      have e2 : ((f.pt.len : Int) == f.cd.len) = true := by simp; omega
      by_cases h3 : (f.c.len : Int) < f.sl
      · have HG : Hid (F = true) := HE.out.trans (decide_eq_true h3)
        clear h2 h1
        go_enter Tryz.func25, Tryz.ntmps25
        go_wp2
        go_ret
        exact ⟨ret_bool HG.out.symm, B0.out⟩
      · have HG : Hid (F = false) := HE.out.trans (decide_eq_false h3)
        clear h2 h1
        go_enter Tryz.func25, Tryz.ntmps25
        go_wp2
        go_ret
        exact ⟨ret_bool HG.out.symm, B0.out⟩
    · have HE : Hid (F = false) := by show _ = _; rw [HF.out, decide_eq_true h1, decide_eq_false h2]; rfl
      have e2 : ((f.pt.len : Int) == f.cd.len) = false := by simp; omega
      clear h2 h1
      go_enter Tryz.func25, Tryz.ntmps25
      go_wp2
      go_ret
      exact ⟨ret_bool HE.out.symm, B0.out⟩
  · have HE : Hid (F = false) := by show _ = _; rw [HF.out, decide_eq_false h1]; rfl
    have i1 : ¬ (0 : Int) < f.cd.len := by omega
    clear h1
    go_enter Tryz.func25, Tryz.ntmps25
    go_wp2
    go_ret
    exact ⟨ret_bool HE.out.symm, B0.out⟩

set_option maxHeartbeats 4000000 in
theorem join_any14 (x : Rn) (n : Nat) (w : World) : Calls Tryz.prog 39 #[.agg #[.int .i64 x.at_, .int .i64 x.join, .slice x.ps.ao x.ps.len x.ps.cap], .int .i64 n] w fun e w' => e = .returned (.bool (x.joinB n)) ∧ Below w.heap.size w w' := by
  have B0 := hyd (below_alloc w (.cells #[.int .i64 x.at_, .int .i64 x.join, .slice x.ps.ao x.ps.len x.ps.cap] 57))
  have b := Blk.new w [.int .i64 x.at_, .int .i64 x.join, .slice x.ps.ao x.ps.len x.ps.cap] 57
  have c0 := b.cell 0 rfl
  have c1 := b.cell 1 rfl
  have HF : Hid (x.joinB n = (decide (x.join = -1) || (decide (x.at_ < x.join) && decide (x.join < n)))) := rfl
  generalize x.joinB n = F at *
  clear b
  by_cases h1 : x.join = -1
  · have e1 : (x.join == -1) = true := by simpa using h1
    have HE : Hid (F = true) := by show _ = _; rw [HF.out, decide_eq_true h1]; rfl
    clear h1
    go_enter Tryz.func39, Tryz.ntmps39
    go_wp2
    go_ret
    exact ⟨ret_bool HE.out.symm, B0.out⟩
  · have e1 : (x.join == -1) = false := by simpa using h1
    have HE : Hid (F = (decide (x.at_ < x.join) && decide (x.join < n))) := by show _ = _; rw [HF.out, decide_eq_false h1]; rfl
    clear h1 HF
    by_cases h2 : x.at_ < x.join
    · by_cases h3 : x.join < (n : Int)
      · have HG : Hid (F = true) := by show _ = _; rw [HE.out, decide_eq_true h2, decide_eq_true h3]; rfl
        go_enter Tryz.func39, Tryz.ntmps39
        go_wp2
        go_ret
        exact ⟨ret_bool HG.out.symm, B0.out⟩
      · have HG : Hid (F = false) := by show _ = _; rw [HE.out, decide_eq_true h2, decide_eq_false h3]; rfl
        go_enter Tryz.func39, Tryz.ntmps39
        go_wp2
        go_ret
        exact ⟨ret_bool HG.out.symm, B0.out⟩
    · have HG : Hid (F = false) := by show _ = _; rw [HE.out, decide_eq_false h2]; rfl
      go_enter Tryz.func39, Tryz.ntmps39
      go_wp2
      go_ret
      exact ⟨ret_bool HG.out.symm, B0.out⟩

set_option maxRecDepth 100000 in
set_option maxHeartbeats 8000000 in
theorem places_any14 (x : Rn) (n : Nat) (w : World) (hx : x.At w) : Calls Tryz.prog 40 #[.agg #[.int .i64 x.at_, .int .i64 x.join, .slice x.ps.ao x.ps.len x.ps.cap], .int .i64 n] w fun e w' => e = .returned (.bool (x.plcB n)) ∧ Below w.heap.size w w' := by
  have B1 := below_alloc w (.cells #[.int .i64 x.at_, .int .i64 x.join, .slice x.ps.ao x.ps.len x.ps.cap] 57)
  have b := Blk.new w [.int .i64 x.at_, .int .i64 x.join, .slice x.ps.ao x.ps.len x.ps.cap] 57
  have H1 := hyd (show Below w.heap.size w _ ∧ _ from ⟨B1, b⟩)
  have HD := hyd hx
  have HA : Hid (x.plcB n = decide (∀ i, i < x.ps.len → (x.ah i < x.ps.x i ∧ x.ps.x i < n) ∧ x.ps.x i ≠ x.join)) := rfl
  have hbd := hx.ps.bound
  have hnil := hx.ps.nil
  generalize x.plcB n = F at *
  have c0 := b.cell 0 rfl
  have c2 := b.cell 2 rfl
  clear B1 b hx
  have HN : Hid (∀ (j : Nat) (wr : World), j < x.ps.len → Below w.heap.size w wr → wr.cell? ⟨x.ps.b, x.ps.o + j, none⟩ = some (.int .i64 (x.ps.x j))) := fun j wr hj hb => by have := (HD.out.ps.kept hb).row j hj 0 _ rfl; simpa using this
  have HNo : Hid (∀ j, j < x.ps.len → ¬ ((x.ah j < x.ps.x j ∧ x.ps.x j < n) ∧ x.ps.x j ≠ x.join) → F = false) := fun j hj h => by
    rw [HA.out, decide_eq_false_iff_not]
    exact fun hh => h (hh j hj)
  by_cases h0 : x.ps.len = 0
  · have HE : Hid (F = true) := by show _ = _; rw [HA.out, decide_eq_true_eq]; intro i hi; omega
    have i0 : ¬ (0 : Int) < x.ps.len := by omega
    clear h0
    go_enter Tryz.func40, Tryz.ntmps40
    go_wp2
    go_loopw [13] (fun i wr => i = .int .i64 0 ∧ Below w.heap.size w wr) (fun _ _ => 0)
    case atStart => exact ⟨rfl, H1.out.1⟩
    case round =>
      obtain ⟨rfl, hb⟩ := hrel
      have HB := hyd hb
      clear hb
      go_wp2
      go_ret
      exact ⟨ret_bool HE.out.symm, HB.out⟩
  · have a0 := hnil (by omega)
    rw [a0] at c2
    have HA0 := hyd a0
    clear a0 hnil
    rw [HA0.out] at H1
    rw [HA0.out]
    go_enter Tryz.func40, Tryz.ntmps40
    go_wp2
    go_loopw [5, 13] (fun a i wr => ∃ (j : Nat), j ≤ x.ps.len ∧ a = .int .i64 (x.ah j) ∧ i = .int .i64 j ∧ (Below w.heap.size w wr ∧ Blk wr w.heap.size [.int .i64 x.at_, .int .i64 x.join, .slice (some ⟨x.ps.b, x.ps.o, none⟩) x.ps.len x.ps.cap] 57) ∧ (∀ i, i < j → (x.ah i < x.ps.x i ∧ x.ps.x i < n) ∧ x.ps.x i ≠ x.join)) (fun _ i _ => x.ps.len - (intOf i).toNat)
    case atStart => exact ⟨0, Nat.zero_le _, rfl, rfl, H1.out, fun i hi => absurd hi (Nat.not_lt_zero _)⟩
    case round =>
      clear H1 c0 c2
      obtain ⟨j, hj, rfl, rfl, hBl, hall⟩ := hrel
      have HB := hyd hBl
      have HL := hyd hall
      clear hBl hall
      have c1 := HB.out.2.cell 1 rfl
      by_cases hlt : j < x.ps.len
      · have ij : (j : Int) < x.ps.len := by omega
        have r0 := HN.out j wr hlt HB.out.1
        have HNo2 := hyd (HNo.out j hlt)
        have HY : Hid ((x.ah j < x.ps.x j ∧ x.ps.x j < n) ∧ x.ps.x j ≠ x.join → ∀ i, i < j + 1 → (x.ah i < x.ps.x i ∧ x.ps.x i < n) ∧ x.ps.x i ≠ x.join) := fun h i hi => by
          rcases Nat.lt_or_ge i j with h2 | h2
          · exact HL.out i h2
          · have : i = j := by omega
            subst this
            exact h
        have HJ : Hid (x.ah (j + 1) = x.ps.x j) := rfl
        generalize x.ah j = q at *
        generalize hz : x.ps.x j = z at *
        clear hz
        by_cases k1 : q < z
        · have d1 : ¬ z ≤ q := by omega
          by_cases k2 : z < (n : Int)
          · have d2 : ¬ (n : Int) ≤ z := by omega
            by_cases k3 : z = x.join
            · have d3 : (z == x.join) = true := by simpa using k3
              have HE := hyd (HNo2.out (fun h => h.2 k3))
              clear k3 k1 k2
              go_wp2
              go_ret
              exact ⟨ret_bool HE.out.symm, HB.out.1⟩
            · have d3 : (z == x.join) = false := by simpa using k3
              have HE := hyd (HY.out ⟨⟨k1, k2⟩, k3⟩)
              clear k1 k2 k3
              go_wp2
              go_roundw
              case rel => exact ⟨j + 1, by omega, by rw [HJ.out], by go_num, HB.out, HE.out⟩
              case measure => simp [intOf]; omega
          · have d2 : (n : Int) ≤ z := by omega
            have HE := hyd (HNo2.out (fun h => k2 h.1.2))
            clear k1 k2
            go_wp2
            go_ret
            exact ⟨ret_bool HE.out.symm, HB.out.1⟩
        · have d1 : z ≤ q := by omega
          have HE := hyd (HNo2.out (fun h => k1 h.1.1))
          clear k1
          go_wp2
          go_ret
          exact ⟨ret_bool HE.out.symm, HB.out.1⟩
      · have e2 : ¬ (j : Int) < x.ps.len := by omega
        have HE : Hid (F = true) := by show _ = _; rw [HA.out, decide_eq_true_eq]; intro i hi; exact HL.out i (by omega)
        go_wp2
        go_ret
        exact ⟨ret_bool HE.out.symm, HB.out.1⟩
end Go.Proofs.YtmajlfocfjcgmaaGreatDoor

/- Layer 14: what the rules of form ask of handlers, regions, instructions. -/
namespace Go.Proofs.YtmajlfocfjcgmaaGreatDoor
open Go Go.RowKit

theorem all_step14 {P : Nat → Prop} {j : Nat} (h : ∀ i, i < j → P i) (hj : P j) : ∀ i, i < j + 1 → P i := fun i hi => by
  rcases Nat.lt_or_ge i j with h2 | h2
  · exact h i h2
  · have : i = j := by omega
    subst this
    exact hj

set_option maxRecDepth 100000 in
set_option maxHeartbeats 8000000 in
theorem handlers_any14 (f : Cf) (w : World) (hf : f.At w) : Calls Tryz.prog 27 #[.agg f.vs.toArray] w fun e w' => e = .returned (.bool f.hanB) ∧ Below w.heap.size w w' := by
  have B1 := below_alloc w (.cells f.vs.toArray 43)
  have b := Blk.new w f.vs 43
  have H1 := hyd (show Below w.heap.size w _ ∧ _ from ⟨B1, b⟩)
  have HD := hyd hf
  have HA : Hid (f.hanB = decide (∀ i, i < f.hd.len → (f.hd.x i).hold f.cd.len = true)) := rfl
  have hbd := hf.hd.bound
  have hnil := hf.hd.nil
  generalize f.hanB = F at *
  have c15 := b.cell 15 rfl
  clear B1 b hf
  generalize hw0 : w.alloc (.cells f.vs.toArray 43) = u0 at *
  have HN : Hid (∀ (j : Nat) (wr : World), j < f.hd.len → Below w.heap.size w wr → wr.rangeAt f.hd.b (f.hd.o + j * 3) (f.hd.x j).vs) := fun j wr hj hb => (HD.out.hd.kept hb).row j hj
  have HNo : Hid (∀ j, j < f.hd.len → (f.hd.x j).hold f.cd.len = false → F = false) := fun j hj h => by
    rw [HA.out, decide_eq_false_iff_not]
    exact fun hh => by have := hh j hj; rw [h] at this; cases this
  by_cases h0 : f.hd.len = 0
  · have HE : Hid (F = true) := by show _ = _; rw [HA.out, decide_eq_true_eq]; intro i hi; omega
    have i0 : ¬ (0 : Int) < f.hd.len := by omega
    clear h0
    go_enter Tryz.func27, Tryz.ntmps27
    go_wp2
    go_loopw [8] (fun i wr => i = .int .i64 0 ∧ Below w.heap.size w wr) (fun _ _ => 0)
    case atStart => exact ⟨rfl, H1.out.1⟩
    case round =>
      obtain ⟨rfl, hb⟩ := hrel
      have HB := hyd hb
      clear hb
      go_wp2
      go_ret
      exact ⟨ret_bool HE.out.symm, HB.out⟩
  · have a0 := hnil (by omega)
    rw [a0] at c15
    have HA0 := hyd a0
    clear a0 hnil
    go_enter Tryz.func27, Tryz.ntmps27
    go_wp2
    clear hw0
    go_loopw [8] (fun i wr => ∃ (j : Nat), j ≤ f.hd.len ∧ i = .int .i64 j ∧ (Below w.heap.size w wr ∧ Blk wr w.heap.size f.vs 43) ∧ (∀ i, i < j → (f.hd.x i).hold f.cd.len = true)) (fun i _ => f.hd.len - (intOf i).toNat)
    case atStart => exact ⟨0, Nat.zero_le _, rfl, H1.out, fun i hi => absurd hi (Nat.not_lt_zero _)⟩
    case round =>
      clear H1 c15
      obtain ⟨j, hj, rfl, hBl, hall⟩ := hrel
      have HB := hyd hBl
      have HL := hyd hall
      clear hBl hall
      by_cases hlt : j < f.hd.len
      · have ij : (j : Int) < f.hd.len := by omega
        have r0 := HN.out j wr hlt HB.out.1
        have HNo2 := hyd (HNo.out j hlt)
        have HY := hyd (all_step14 (P := fun i => (f.hd.x i).hold f.cd.len = true) HL.out)
        have HH : Hid ((f.hd.x j).hold f.cd.len = ((decide ((f.hd.x j).fr < (f.hd.x j).to) && decide ((f.hd.x j).to ≤ (f.hd.x j).at_)) && decide ((f.hd.x j).at_ < f.cd.len))) := rfl
        have B2 := below_alloc wr (.cells (f.hd.x j).vs.toArray 75)
        have bH := Blk.new wr (f.hd.x j).vs 75
        have HB2 := hyd (show Below w.heap.size w _ ∧ Blk _ w.heap.size f.vs 43 from ⟨Below.next HB.out.1 B2, HB.out.2.kept B2⟩)
        have c14 := HB2.out.2.cell 14 rfl
        have d0 := bH.cell 0 rfl
        have d1 := bH.cell 1 rfl
        have d2 := bH.cell 2 rfl
        clear B2 bH HB
        generalize hh : f.hd.x j = h at *
        go_upto_region 4 with (first | (refine wpList_load_mid rfl 75 (.tmp 10) rfl f.hd.b (f.hd.o + j * 3) (by kernel_rfl) h.vs _ r0 Tryz.underlying75 rfl (by kernel_rfl) ?_) | (refine wpList_new_mid rfl rfl 75 rfl (.tmp 4) (.tmp 11) rfl z_hn (alloc_hn _) rfl h.vs.toArray (by kernel_rfl) (by kernel_rfl) rfl (by kernel_rfl) (by simpa using h.vs_one) ?_))
        clear hh r0
        generalize wr.alloc (.cells h.vs.toArray 75) = u2 at *
        generalize wr.heap.size = BH at *
        generalize hq : h.hold f.cd.len = q at *
        clear hq
        by_cases k1 : h.fr < h.to
        · by_cases k2 : h.to ≤ h.at_
          · by_cases k3 : h.at_ < (f.cd.len : Int)
            · have HE : Hid (q = true) := by show _ = _; rw [HH.out, decide_eq_true k1, decide_eq_true k2, decide_eq_true k3]; rfl
              have HE2 := hyd (HY.out (by show _ = _; rw [HE.out]))
              go_wp2
              go_roundw
              case rel => exact ⟨j + 1, by omega, by go_num, HB2.out, HE2.out⟩
              case measure => simp [intOf]; omega
            · have HE : Hid (q = false) := by show _ = _; rw [HH.out, decide_eq_true k1, decide_eq_true k2, decide_eq_false k3]; rfl
              have HE2 := hyd (HNo2.out HE.out)
              go_wp2
              go_ret
              exact ⟨ret_bool HE2.out.symm, HB2.out.1⟩
          · have HE : Hid (q = false) := by show _ = _; rw [HH.out, decide_eq_true k1, decide_eq_false k2]; rfl
            have HE2 := hyd (HNo2.out HE.out)
            go_wp2
            go_ret
            exact ⟨ret_bool HE2.out.symm, HB2.out.1⟩
        · have HE : Hid (q = false) := by show _ = _; rw [HH.out, decide_eq_false k1]; rfl
          have HE2 := hyd (HNo2.out HE.out)
          go_wp2
          go_ret
          exact ⟨ret_bool HE2.out.symm, HB2.out.1⟩
      · have e2 : ¬ (j : Int) < f.hd.len := by omega
        have HE : Hid (F = true) := by show _ = _; rw [HA.out, decide_eq_true_eq]; intro i hi; exact HL.out i (by omega)
        go_wp2
        go_ret
        exact ⟨ret_bool HE.out.symm, HB.out.1⟩
end Go.Proofs.YtmajlfocfjcgmaaGreatDoor
