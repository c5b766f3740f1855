/- Rows put one behind the other, of whatever struct. -/
import Derived.Test.YtdplabhgdonbiaaDoorP7
import Derived.Deep.AppendLies
import Derived.Laws.AppendOwnNone
import Derived.Test.YtdplabhgdonbiaaDoorP13
import Derived.Test.YtdplabhgdonbiaaDoorP12
import Derived.Test.YtdplabhgdonbiaaDoorP10
import Derived.Deep.QuietTactic
namespace Go.Proofs.YtdplabhgdonbiaaDoor
open Go.RowKit

theorem gbr (w : World) (r : Option Nat) : w.grownBy w r := ⟨rfl, rfl, rfl, Nat.le_refl _, fun _ _ _ => rfl⟩
theorem gb_bel {w0 a b : World} {r : Option Nat} (h : Below w0.heap.size w0 a) (hg : a.grownBy b r) (hr : ∀ k, r = some k → w0.heap.size ≤ k) : Below w0.heap.size w0 b := by
  have hs := h.size
  refine ⟨hg.os.trans h.os, hg.tape.trans h.tape, hg.output.trans h.output, Nat.le_trans h.size hg.size, fun k hk => ?_⟩
  rw [hg.block k (by omega) (fun e => by have := hr k e.symm; omega)]
  exact h.block k hk
theorem owb {w : World} {base : Nat} {e : TypeId} {size : Nat} {v : Value} {n : Nat} {xs : List Value} (h : w.ownsRow base e size v n xs) {k : Nat} (hb : v.ownBlock = some k) : base ≤ k ∧ k < w.heap.size := by
  obtain ⟨_, ⟨rfl, _⟩ | ⟨g, cap, cur, rfl, hg, hh, _⟩⟩ := h
  · cases hb
  · have : g = k := by simpa [Value.ownBlock] using hb
    subst this
    exact ⟨hg, (Array.getElem?_eq_some_iff.1 hh).1⟩
theorem owk {w w' : World} {base : Nat} {e : TypeId} {size : Nat} {v : Value} {n : Nat} {xs : List Value} (h : w.ownsRow base e size v n xs) (hb : Below w.heap.size w w') : w'.ownsRow base e size v n xs := by
  have hl := fun k hk => (owb h (k := k) hk).2
  obtain ⟨h0, h⟩ := h
  refine ⟨h0, ?_⟩
  rcases h with ⟨rfl, hn⟩ | ⟨g, cap, cur, rfl, hg, hh, hr⟩
  · exact Or.inl ⟨rfl, hn⟩
  · exact Or.inr ⟨g, cap, cur, rfl, hg, (hb.block g (hl g rfl)).trans hh, hr⟩
theorem owform {w : World} {base : Nat} {e : TypeId} {size : Nat} {v : Value} {n : Nat} {xs : List Value} (h : w.ownsRow base e size v n xs) : ∃ ao cap, v = .slice ao n cap := by
  obtain ⟨_, ⟨rfl, rfl⟩ | ⟨g, cap, cur, rfl, _⟩⟩ := h
  · exact ⟨none, 0, rfl⟩
  · exact ⟨_, cap, rfl⟩

theorem run_append_any {S E : TypeId} {size bytes : Nat} {z : Value} (hu : Tryd.prog.underlying S = some (.slice E)) (hinf : (Tryd.prog.info? E).map (fun i => (i.zero, i.size, i.bytes)) = some (some z, size, bytes)) (hzc : z.cells.size = size) (hpos : 0 < size) (w : World) (ty : TypeId) (base : Nat) (v : Value) (n : Nat) (xs : List Value) (ho : w.ownsRow base E size v n xs) (ao : Option Addr) (m c : Nat) (news : List Value) (hnone : ao = none → m = 0 ∧ c = 0) (hl : news.length = m * size) (hn : ∀ a, ao = some a → ∀ j u, news[j]? = some u → w.cell? (a.add j) = some u) (h1 : ∀ u ∈ news, u.oneCell' = true) (h63 : n + m ≤ maxLen) (hbytes : (n + m) * bytes ≤ 140737488355328) (hb : base ≤ w.heap.size) :
    ∃ v' w', (Builtin.append_ #[S, S] ty #[v, .slice ao m c]).run Tryd.prog w = .ok v' w' ∧ w'.ownsRow base E size v' (n + m) (xs ++ news) ∧ w.grownBy w' v.ownBlock := by
  obtain ⟨i0, hi, hz0, hz1, hz2⟩ := info_parts hinf
  cases ao with
  | none =>
    obtain ⟨rfl, rfl⟩ := hnone rfl
    have hl0 : news = [] := List.eq_nil_of_length_eq_zero (by rw [hl]; omega)
    subst hl0
    refine ⟨v, w, ?_, ?_, gbr _ _⟩
    · exact run_append_owned_none (P := Tryd.prog) w base S ty E i0 size hu hi v n xs ho
    · rw [List.append_nil]; exact ho
  | some a =>
    obtain ⟨v', w', hr, h2, h3, _⟩ := run_append_own (P := Tryd.prog) w base S ty E i0 z size bytes hu hi hz0 hz1 hz2 hzc hpos v n xs ho a m c news hl (hn a rfl) h1 h63 hbytes hb
    exact ⟨v', w', hr, h2, h3⟩
theorem wpList_append_any {S E : TypeId} {size bytes : Nat} {z : Value} (hu : Tryd.prog.underlying S = some (.slice E)) (hinf : (Tryd.prog.info? E).map (fun i => (i.zero, i.size, i.bytes)) = some (some z, size, bytes)) (hzc : z.cells.size = size) (hpos : 0 < size) {w : World} {ops : Array Oper} {rest : List Oper} {o : Oper} {a : Act} {Q : Exit → Act → World → Prop} (hgd : o.guard = none) (s x : Operand)
    (hop : o.op = .call { callee := .builtin .append, args := #[s, x], argTypes := #[S, S] }) (base : Nat) (v : Value) (n : Nat) (xs : List Value) (hs : a.eval s = v) (ho : w.ownsRow base E size v n xs) (ao : Option Addr) (m c : Nat) (news : List Value) (hx : a.eval x = .slice ao m c) (hnone : ao = none → m = 0 ∧ c = 0) (hl : news.length = m * size) (hn : ∀ a, ao = some a → ∀ j u, news[j]? = some u → w.cell? (a.add j) = some u) (h1 : ∀ u ∈ news, u.oneCell' = true) (h63 : n + m ≤ maxLen) (hbytes : (n + m) * bytes ≤ 140737488355328) (hb : base ≤ w.heap.size)
    (h : ∀ v' w', w'.ownsRow base E size v' (n + m) (xs ++ news) → w.grownBy w' v.ownBlock → wpList Tryd.prog ops Q rest (a.put o.dst v') w') : wpList Tryd.prog ops Q (o :: rest) a w := by
  refine wpList_plain hgd fun K hK => ?_
  obtain ⟨v', w', hr, h2, h3⟩ := run_append_any hu hinf hzc hpos w o.type base v n xs ho ao m c news hnone hl hn h1 h63 hbytes hb
  unfold Oper.wp execOp
  simp only [hop, resolve, invoke, builtin, Sem.run_bind, Sem.run_pure, Result.andThen_ok, List.map_toArray, List.map_cons, List.map_nil, hs, hx, hr]
  exact hK _ _ (h v' w' h2 h3)

/-- One behind the other. -/
def flatN (f : Nat → List Value) : Nat → List Value
  | 0 => []
  | k + 1 => flatN f k ++ f k
theorem flatN_len {f : Nat → List Value} {c : Nat} (h : ∀ i, (f i).length = c) : ∀ k, (flatN f k).length = k * c
  | 0 => by simp [flatN]
  | k + 1 => by
    show (flatN f k ++ f k).length = _
    rw [List.length_append, flatN_len h k, h, Nat.add_mul, Nat.one_mul]
theorem flatN_get {f : Nat → List Value} {c : Nat} (h : ∀ i, (f i).length = c) : ∀ k i j, i < k → j < c → (flatN f k)[i * c + j]? = (f i)[j]?
  | 0, i, _, hi, _ => absurd hi (Nat.not_lt_zero _)
  | k + 1, i, j, hi, hj => by
    show (flatN f k ++ f k)[i * c + j]? = _
    have hl := flatN_len h k
    by_cases e : i = k
    · subst e
      rw [List.getElem?_append_right (by rw [hl]; omega), hl]
      congr 1; omega
    · have h2 : i * c + j < k * c := by
        have : (i + 1) * c ≤ k * c := Nat.mul_le_mul_right c (by omega)
        rw [Nat.add_mul, Nat.one_mul] at this
        omega
      rw [List.getElem?_append_left (by rw [hl]; exact h2)]
      exact flatN_get h k i j (by omega) hj
theorem flatN_app (f h : Nat → List Value) (a : Nat) : ∀ b, flatN (fun i => if i < a then f i else h (i - a)) (a + b) = flatN f a ++ flatN h b
  | 0 => by
    rw [Nat.add_zero]
    show _ = flatN f a ++ []
    rw [List.append_nil]
    have key : ∀ k, k ≤ a → flatN (fun i => if i < a then f i else h (i - a)) k = flatN f k := fun k => by
      induction k with
      | zero => intro _; rfl
      | succ k ih =>
        intro hk
        show flatN _ k ++ _ = flatN f k ++ f k
        rw [ih (by omega)]
        simp only [if_pos (show k < a by omega)]
    exact key a (Nat.le_refl _)
  | b + 1 => by
    show flatN _ (a + b) ++ (if a + b < a then f (a + b) else h (a + b - a)) = flatN f a ++ (flatN h b ++ h b)
    rw [flatN_app f h a b, List.append_assoc, if_neg (show ¬ a + b < a by omega), show a + b - a = b by omega]
theorem flatN_mem {f : Nat → List Value} {u : Value} : ∀ k, u ∈ flatN f k → ∃ i, i < k ∧ u ∈ f i
  | 0, h => by cases h
  | k + 1, h => by
    rcases List.mem_append.1 h with h | h
    · obtain ⟨i, hi, hu⟩ := flatN_mem k h
      exact ⟨i, by omega, hu⟩
    · exact ⟨k, by omega, h⟩
theorem adp (b off i : Nat) : (⟨b, off, none⟩ : Addr).add i = ⟨b, off + i, none⟩ := by unfold Addr.add; split <;> simp_all
theorem flatN_cell {f : Nat → List Value} {c : Nat} (h : ∀ i, (f i).length = c) (hc : 0 < c) {w : World} {b o : Nat} {k : Nat} (hr : ∀ i, i < k → w.rangeAt b (o + i * c) (f i)) : ∀ j u, (flatN f k)[j]? = some u → w.cell? ((⟨b, o, none⟩ : Addr).add j) = some u := by
  intro j u hj
  have hlt : j < k * c := by rw [← flatN_len h k]; exact (List.getElem?_eq_some_iff.1 hj).1
  have hi : j / c < k := Nat.div_lt_of_lt_mul (by rw [Nat.mul_comm]; exact hlt)
  have hm : j % c < c := Nat.mod_lt _ hc
  have e : j = j / c * c + j % c := by rw [Nat.mul_comm]; exact (Nat.div_add_mod j c).symm
  rw [e, flatN_get h k _ _ hi hm] at hj
  have := hr (j / c) hi (j % c) u hj
  rw [adp, show o + j = o + j / c * c + j % c by omega]
  exact this
end Go.Proofs.YtdplabhgdonbiaaDoor

/- Layer 13: a pool in memory; what turns the pool alone. -/
namespace Go.Proofs.YtdplabhgdonbiaaDoor
open Go Go.RowKit

/-- Turned at most where S is, and grown. -/
structure Ftp (S : Nat → Prop) (w w' : World) : Prop where
  os : w'.os = w.os
  tape : w'.tape = w.tape
  output : w'.output = w.output
  size : w.heap.size ≤ w'.heap.size
  block : ∀ k, k < w.heap.size → ¬ S k → w'.heap[k]? = w.heap[k]?
theorem Ftp.refl (S : Nat → Prop) (w : World) : Ftp S w w := ⟨rfl, rfl, rfl, Nat.le_refl _, fun _ _ _ => rfl⟩
theorem Ftp.next {S S' : Nat → Prop} {a b c : World} (h : Ftp S a b) (k : Ftp S' b c) (hs : ∀ x, x < a.heap.size → S' x → S x) : Ftp S a c :=
  ⟨k.os.trans h.os, k.tape.trans h.tape, k.output.trans h.output, Nat.le_trans h.size k.size, fun i hi hn => (k.block i (Nat.lt_of_lt_of_le hi h.size) (fun x => hn (hs i hi x))).trans (h.block i hi hn)⟩
theorem Ftp.of_below {S : Nat → Prop} {w w' : World} (h : Below w.heap.size w w') : Ftp S w w' := ⟨h.os, h.tape, h.output, h.size, fun k hk _ => h.block k hk⟩
theorem Ftp.below {S : Nat → Prop} {B : Nat} {a w w' : World} (h : Ftp S w w') (hb : Below B a w) (hB : B ≤ a.heap.size) (hs : ∀ x, S x → B ≤ x) : Below B a w' :=
  ⟨h.os.trans hb.os, h.tape.trans hb.tape, h.output.trans hb.output, Nat.le_trans hb.size h.size, fun k hk => (h.block k (Nat.lt_of_lt_of_le hk (Nat.le_trans hB hb.size)) (fun x => absurd (hs k x) (by omega))).trans (hb.block k hk)⟩
theorem Ftp.blk {S : Nat → Prop} {w w' : World} {B : Nat} {c : List Value} {t : TypeId} (h : Ftp S w w') (hb : Blk w B c t) (hn : ¬ S B) : Blk w' B c t := by unfold Blk; rw [h.block B hb.lt hn]; exact hb
theorem ftp_wrote {S : Nat → Prop} {w w' : World} {B : Nat} {c : List Value} {t : TypeId} (W : WroteB w w' B c t) (hS : S B) : Ftp S w w' := by
  have h := W.below (B0 := 0) (a := w) (Nat.zero_le _) (Below.refl _ _)
  exact ⟨h.os, h.tape, h.output, h.size, fun k _ hn => W.other k (fun e => hn (e ▸ hS))⟩

def flatL (R : List Ty) : List Value := R.flatMap Ty.vs
theorem flatL_len (R : List Ty) : (flatL R).length = R.length * 5 := by
  induction R with
  | nil => rfl
  | cons t R ih => unfold flatL at *; rw [List.flatMap_cons, List.length_append, ih, List.length_cons]; show 5 + _ = _; omega
theorem flatL_snoc (R : List Ty) (t : Ty) : flatL (R ++ [t]) = flatL R ++ t.vs := by unfold flatL; rw [List.flatMap_append]; simp
/-- A pool in block p: over the old memory w0, its lattice, its map in block m, its types in v. -/
structure Pw (w0 : World) (n : Strs) (g : Grid) (p m : Nat) (v : Value) (es : Array MapEntry) (c : Nat) (Q : List (List Int)) (R : List Ty) (w : World) : Prop where
  bl : Below w0.heap.size w0 w
  blk : Blk w p [.slice n.ao n.len n.cap, .slice g.ao g.len g.cap, v, .map (some m)] 82
  mp : w.heap[m]? = some (.map es c)
  ks : NKeys es Q
  good : Good n.len R Q
  own : w.ownsRow w0.heap.size 37 5 v R.length (flatL R)
  at_ : ∀ t ∈ R, t.At w0
  lp : w0.heap.size ≤ p
  lm : w0.heap.size ≤ m
/-- Its blocks. -/
def PS (p m : Nat) (v : Value) : Nat → Prop := fun b => b = p ∨ b = m ∨ v.ownBlock = some b
theorem Pw.ge {w0 w : World} {n : Strs} {g : Grid} {p m : Nat} {v : Value} {es : Array MapEntry} {c : Nat} {Q : List (List Int)} {R : List Ty} (h : Pw w0 n g p m v es c Q R w) {x : Nat} (hx : PS p m v x) : w0.heap.size ≤ x ∧ x < w.heap.size := by
  rcases hx with rfl | rfl | hx
  · exact ⟨h.lp, h.blk.lt⟩
  · exact ⟨h.lm, (Array.getElem?_eq_some_iff.1 h.mp).1⟩
  · exact owb h.own hx
theorem Pw.npm {w0 w : World} {n : Strs} {g : Grid} {p m : Nat} {v : Value} {es : Array MapEntry} {c : Nat} {Q : List (List Int)} {R : List Ty} (h : Pw w0 n g p m v es c Q R w) : p ≠ m := by
  intro e
  have h1 := h.blk
  have h2 := h.mp
  unfold Blk at h1
  rw [e, h2] at h1
  cases h1
theorem own_blk {w : World} {base : Nat} {e : TypeId} {size : Nat} {v : Value} {k : Nat} {xs : List Value} (h : w.ownsRow base e size v k xs) {b : Nat} (hb : v.ownBlock = some b) : ∃ cur, w.heap[b]? = some (.cells cur e (0, 0)) := by
  obtain ⟨_, ⟨rfl, _⟩ | ⟨gg, cap, cur, rfl, _, hh, _⟩⟩ := h
  · cases hb
  · have : gg = b := by simpa [Value.ownBlock] using hb
    subst this
    exact ⟨cur, hh⟩
theorem Pw.nvp {w0 w : World} {n : Strs} {g : Grid} {p m : Nat} {v : Value} {es : Array MapEntry} {c : Nat} {Q : List (List Int)} {R : List Ty} (h : Pw w0 n g p m v es c Q R w) : v.ownBlock ≠ some p := by
  intro e
  obtain ⟨cur, h1⟩ := own_blk h.own e
  have h2 := h.blk
  unfold Blk at h2
  rw [h1] at h2
  injection h2 with h2
  injection h2 with _ h2
  exact absurd h2 (by decide)
theorem Pw.nvm {w0 w : World} {n : Strs} {g : Grid} {p m : Nat} {v : Value} {es : Array MapEntry} {c : Nat} {Q : List (List Int)} {R : List Ty} (h : Pw w0 n g p m v es c Q R w) : v.ownBlock ≠ some m := by
  intro e
  obtain ⟨cur, h1⟩ := own_blk h.own e
  rw [h.mp] at h1
  cases h1
theorem own_same {w w' : World} {base : Nat} {e : TypeId} {size : Nat} {v : Value} {k : Nat} {xs : List Value} (h : w.ownsRow base e size v k xs) (ag : ∀ b, v.ownBlock = some b → w'.heap[b]? = w.heap[b]?) : w'.ownsRow base e size v k xs := by
  obtain ⟨h1, h2⟩ := h
  refine ⟨h1, ?_⟩
  rcases h2 with h2 | ⟨gg, cap, cur, hv, hg, hh, r⟩
  · exact Or.inl h2
  · exact Or.inr ⟨gg, cap, cur, hv, hg, (ag gg (by rw [hv]; rfl)).trans hh, r⟩
theorem Pw.agree {w0 w w' : World} {n : Strs} {g : Grid} {p m : Nat} {v : Value} {es : Array MapEntry} {c : Nat} {Q : List (List Int)} {R : List Ty} (h : Pw w0 n g p m v es c Q R w) (hb : Below w0.heap.size w0 w') (ag : ∀ x, PS p m v x → w'.heap[x]? = w.heap[x]?) : Pw w0 n g p m v es c Q R w' :=
  ⟨hb, by unfold Blk; rw [ag p (Or.inl rfl)]; exact h.blk, (ag m (Or.inr (Or.inl rfl))).trans h.mp, h.ks, h.good, own_same h.own (fun b hb => ag b (Or.inr (Or.inr hb))), h.at_, h.lp, h.lm⟩
theorem Pw.kept {w0 w w' : World} {n : Strs} {g : Grid} {p m : Nat} {v : Value} {es : Array MapEntry} {c : Nat} {Q : List (List Int)} {R : List Ty} (h : Pw w0 n g p m v es c Q R w) (hb : Below w.heap.size w w') : Pw w0 n g p m v es c Q R w' :=
  h.agree (Below.next h.bl hb) (fun x hx => hb.block x (h.ge hx).2)
/-- A pool in block p, its blocks S, its types R. -/
def Pl (w0 : World) (n : Strs) (g : Grid) (p : Nat) (S : Nat → Prop) (R : List Ty) (w : World) : Prop := ∃ m v es c Q, Pw w0 n g p m v es c Q R w ∧ S = PS p m v
theorem Pl.kept {w0 w w' : World} {n : Strs} {g : Grid} {p : Nat} {S : Nat → Prop} {R : List Ty} (h : Pl w0 n g p S R w) (hb : Below w.heap.size w w') : Pl w0 n g p S R w' := by
  obtain ⟨m, v, es, c, Q, h1, h2⟩ := h
  exact ⟨m, v, es, c, Q, h1.kept hb, h2⟩
theorem Pl.ge {w0 w : World} {n : Strs} {g : Grid} {p : Nat} {S : Nat → Prop} {R : List Ty} (h : Pl w0 n g p S R w) {x : Nat} (hx : S x) : w0.heap.size ≤ x ∧ x < w.heap.size := by
  obtain ⟨m, v, es, c, Q, h1, rfl⟩ := h
  exact h1.ge hx
theorem Pl.bl {w0 w : World} {n : Strs} {g : Grid} {p : Nat} {S : Nat → Prop} {R : List Ty} (h : Pl w0 n g p S R w) : Below w0.heap.size w0 w := by
  obtain ⟨m, v, es, c, Q, h1, rfl⟩ := h
  exact h1.bl
theorem Pl.agree {w0 w w' : World} {n : Strs} {g : Grid} {p : Nat} {S : Nat → Prop} {R : List Ty} (h : Pl w0 n g p S R w) (hb : Below w0.heap.size w0 w') (ag : ∀ x, S x → w'.heap[x]? = w.heap[x]?) : Pl w0 n g p S R w' := by
  obtain ⟨m, v, es, c, Q, h1, rfl⟩ := h
  exact ⟨m, v, es, c, Q, h1.agree hb ag, rfl⟩
/-- The pool behind a call: its types R', its blocks S', and all else as it was. -/
structure Pg (w0 : World) (n : Strs) (g : Grid) (p : Nat) (S : Nat → Prop) (w : World) (S' : Nat → Prop) (R' : List Ty) (w' : World) : Prop where
  pl : Pl w0 n g p S' R' w'
  ft : Ftp S w w'
  ss : ∀ x, x < w.heap.size → S' x → S x
theorem Pg.of {w0 w w' : World} {n : Strs} {g : Grid} {p : Nat} {S : Nat → Prop} {R : List Ty} (h : Pl w0 n g p S R w) (hb : Below w.heap.size w w') : Pg w0 n g p S w S R w' := ⟨h.kept hb, Ftp.of_below hb, fun _ _ h => h⟩
theorem Pg.ahead {w0 w w1 w2 : World} {n : Strs} {g : Grid} {p : Nat} {S S' : Nat → Prop} {R' : List Ty} (hb : Below w.heap.size w w1) (h : Pg w0 n g p S w1 S' R' w2) : Pg w0 n g p S w S' R' w2 :=
  ⟨h.pl, (Ftp.of_below (S := S) hb).next h.ft (fun _ _ x => x), fun x hx => h.ss x (Nat.lt_of_lt_of_le hx hb.size)⟩
theorem Pg.trans {w0 w w1 w2 : World} {n : Strs} {g : Grid} {p : Nat} {S S1 S2 : Nat → Prop} {R1 R2 : List Ty} (h : Pg w0 n g p S w S1 R1 w1) (k : Pg w0 n g p S1 w1 S2 R2 w2) : Pg w0 n g p S w S2 R2 w2 :=
  ⟨k.pl, h.ft.next k.ft h.ss, fun x hx h2 => h.ss x hx (k.ss x (Nat.lt_of_lt_of_le hx h.ft.size) h2)⟩
theorem Pg.kept {w0 w w1 w2 : World} {n : Strs} {g : Grid} {p : Nat} {S S' : Nat → Prop} {R' : List Ty} (h : Pg w0 n g p S w S' R' w1) (hb : Below w1.heap.size w1 w2) : Pg w0 n g p S w S' R' w2 := h.trans (Pg.of h.pl hb)
/-- A block of the call's own written. -/
theorem Pg.wrote {w0 w w1 w2 : World} {n : Strs} {g : Grid} {p : Nat} {S S' : Nat → Prop} {R' : List Ty} {B : Nat} {c : List Value} {t : TypeId} (h : Pg w0 n g p S w S' R' w1) (W : WroteB w1 w2 B c t) (hn : ¬ S' B) (hB : w.heap.size ≤ B) (h0 : w0.heap.size ≤ w.heap.size) : Pg w0 n g p S w S' R' w2 :=
  ⟨h.pl.agree (W.below (Nat.le_trans h0 hB) h.pl.bl) (fun x hx => W.other x (fun e => hn (e ▸ hx))), h.ft.next (ftp_wrote (S := fun b => b = B) W rfl) (fun x hx e => absurd hx (by rw [e]; omega)), h.ss⟩
/-- A block of the caller's stays. -/
theorem Pg.blk {w0 w w1 : World} {n : Strs} {g : Grid} {p : Nat} {S S' : Nat → Prop} {R' : List Ty} (h : Pg w0 n g p S w S' R' w1) {B : Nat} {c : List Value} {t : TypeId} (hb : Blk w B c t) (hn : ¬ S B) : Blk w1 B c t ∧ ¬ S' B :=
  ⟨h.ft.blk hb hn, fun x => hn (h.ss B hb.lt x)⟩
end Go.Proofs.YtdplabhgdonbiaaDoor

/- Layer 13: where a type stands in a pool: nodeOf, placeOf, place. -/
namespace Go.Proofs.YtdplabhgdonbiaaDoor
open Go Go.RowKit

theorem wrote_cell {w : World} {B : Nat} {c : List Value} {t : TypeId} (h : Blk w B c t) {i : Nat} (v : Value) : WroteB w (w.setCell ⟨B, i, none⟩ v) B (c.set i v) t := by
  refine ⟨?_, fun b hb => Below.heap_setCell _ _ _ _ hb, by simp [World.setCell], fun hB hb => hb.setCell hB v⟩
  have e : (c.toArray.setIfInBounds i v) = (c.set i v).toArray := by simp
  unfold Blk at h ⊢
  rw [← e]
  simp [World.setCell, Array.getElem?_modify, h]
theorem results_row {T : TypeId} {d : TypeDesc} {fn : Func} {tmps : Array Value} {k B : Nat} {vs : List Value} {w : World} (hu : Tryd.prog.underlying T = some d) (hd : d.isRow = true) (hi : (Tryd.prog.info? T).map (·.size) = some vs.length) (hf : fn.results = #[.cell k T]) (ht : tmps.getD k undef = .pointer (some ⟨B, 0, none⟩)) (h : w.rangeAt B 0 vs) : (results fn tmps).run Tryd.prog w = .ok (.agg vs.toArray) w := by
  have h : (loadVar T ⟨B, 0, none⟩).run Tryd.prog w = .ok (.agg vs.toArray) w := run_loadAt_mid w B 0 T vs d h hu hd hi
  have ha : (asAddr (tmps[k]?.getD undef)).run Tryd.prog w = .ok ⟨B, 0, none⟩ w := by rw [show tmps[k]?.getD undef = .pointer (some ⟨B, 0, none⟩) by simpa using ht]; rfl
  unfold results
  rw [hf]
  simp [ha, h]
theorem Pw.wrote {w0 w w' : World} {n : Strs} {g : Grid} {p m : Nat} {v : Value} {es : Array MapEntry} {c : Nat} {Q : List (List Int)} {R : List Ty} (h : Pw w0 n g p m v es c Q R w) {B : Nat} {cs : List Value} {t : TypeId} (W : WroteB w w' B cs t) (hn : ¬ PS p m v B) (h0 : w0.heap.size ≤ B) : Pw w0 n g p m v es c Q R w' :=
  h.agree (W.below h0 h.bl) (fun x hx => W.other x (fun e => hn (e ▸ hx)))

set_option maxHeartbeats 1000000 in
theorem nodeOf_any (t : Ty) (w : World) : Calls Tryd.prog 99 #[.agg #[.int .i64 t.k, .int .i64 t.l, .slice t.ao t.len t.cap, .int .i64 t.h, .int .i64 t.e]] w fun e w' => e = .returned (.agg #[.int .i64 t.k, .int .i64 t.l, .int .i64 t.h, .int .i64 t.e, .int .i64 (-1), .int .i64 (-1)]) ∧ Below w.heap.size w w' := by
  have X0 := Bx.new w t
  have B0 := below_alloc w (.cells #[.int .i64 t.k, .int .i64 t.l, .slice t.ao t.len t.cap, .int .i64 t.h, .int .i64 t.e] 37)
  have x0 := X0.c0
  have x1 := X0.c1
  have x3 := X0.c3
  have x4 := X0.c4
  clear X0
  go_enter Tryd.func99, Tryd.ntmps99
  go_wp2
  have bN := Blk.new (w.alloc (.cells #[.int .i64 t.k, .int .i64 t.l, .slice t.ao t.len t.cap, .int .i64 t.h, .int .i64 t.e] 37)) [.int .i64 t.k, .int .i64 t.l, .int .i64 t.h, .int .i64 t.e, .int .i64 (-1), .int .i64 (-1)] 125
  rw [alloc_size] at bN
  exact bodyPost_ret (v := .agg #[.int .i64 t.k, .int .i64 t.l, .int .i64 t.h, .int .i64 t.e, .int .i64 (-1), .int .i64 (-1)]) (results_row Tryd.underlying125 rfl (by kernel_rfl) Tryd.results99 rfl bN.range) rfl ⟨rfl, Below.next B0 (below_alloc _ _)⟩

set_option maxRecDepth 100000 in
set_option maxHeartbeats 8000000 in
theorem placeOf_any {w0 : World} {n : Strs} {g : Grid} {p m : Nat} {v : Value} {es : Array MapEntry} {c : Nat} {Q : List (List Int)} {R : List Ty} : ∀ (t : Ty) (d : Nat) (w : World), d ≤ 7 → t.At w → Pw w0 n g p m v es c Q R w →
    Calls Tryd.prog 97 #[.pointer (some ⟨p, 0, none⟩), .agg #[.int .i64 t.k, .int .i64 t.l, .slice t.ao t.len t.cap, .int .i64 t.h, .int .i64 t.e], .int .i64 d] w fun e w' => e = .returned (.int .i64 (plc Q t d)) ∧ Below w.heap.size w w' := by
  intro t
  induction t with
  | dm => intro d w _ hAt; exact hAt.elim
  | mk k l h e ao b o len cap ps ih =>
    intro d w hd hAt hP
    show Calls Tryd.prog 97 #[.pointer (some ⟨p, 0, none⟩), .agg #[.int .i64 k, .int .i64 l, .slice ao len cap, .int .i64 h, .int .i64 e], .int .i64 d] w fun r w' => r = .returned (.int .i64 (plc Q (.mk k l h e ao b o len cap ps) d)) ∧ Below w.heap.size w w'
    have X0 := Bx.new w (.mk k l h e ao b o len cap ps)
    have B0 := below_alloc w (.cells #[.int .i64 k, .int .i64 l, .slice ao len cap, .int .i64 h, .int .i64 e] 37)
    have hb : len ≤ 9223372036854775807 := hAt.bound
    have hnil : 0 < len → ao = some ⟨b, o, none⟩ := hAt.nil
    have x0 := X0.c0
    have x1 := X0.c1
    have x2 := X0.c2
    have x3 := X0.c3
    have x4 := X0.c4
    simp only [Ty.k, Ty.l, Ty.h, Ty.e, Ty.ao, Ty.len, Ty.cap] at x0 x1 x2 x3 x4
    have HS := hyd (show Ty.At (w.alloc (.cells #[.int .i64 k, .int .i64 l, .slice ao len cap, .int .i64 h, .int .i64 e] 37)) (.mk k l h e ao b o len cap ps) ∧ Below w.heap.size w (w.alloc (.cells #[.int .i64 k, .int .i64 l, .slice ao len cap, .int .i64 h, .int .i64 e] 37)) ∧ Pw w0 n g p m v es c Q R (w.alloc (.cells #[.int .i64 k, .int .i64 l, .slice ao len cap, .int .i64 h, .int .i64 e] 37)) ∧ Bx (w.alloc (.cells #[.int .i64 k, .int .i64 l, .slice ao len cap, .int .i64 h, .int .i64 e] 37)) w.heap.size (.mk k l h e ao b o len cap ps) from ⟨hAt.kept B0, B0, hP.kept B0, X0⟩)
    have HA0 := hyd hAt
    clear X0 B0 hAt hP
    by_cases h1 : 6 < d
    · have d1 : decide ((6 : Int) < d) = true := by simp; omega
      have HE : Hid (plc Q (.mk k l h e ao b o len cap ps) d = -1) := by show _ = _; rw [plc, if_pos (Or.inl h1)]
      go_enter Tryd.func97, Tryd.ntmps97
      go_wp2
      go_ret
      exact ⟨ret_int HE.out.symm, HS.out.2.1⟩
    have d1 : decide ((6 : Int) < d) = false := by simp; omega
    by_cases h2 : 2 < len
    · have d2 : decide ((2 : Int) < len) = true := by simp; omega
      have HE : Hid (plc Q (.mk k l h e ao b o len cap ps) d = -1) := by show _ = _; rw [plc, if_pos (Or.inr h2)]
      go_enter Tryd.func97, Tryd.ntmps97
      go_wp2
      go_ret
      exact ⟨ret_int HE.out.symm, HS.out.2.1⟩
    have d2 : decide ((2 : Int) < len) = false := by simp; omega
    have HPL : Hid (plc Q (.mk k l h e ao b o len cap ps) d = if 0 < len ∧ plc Q (ps 0) (d + 1) = -1 then -1 else if 1 < len ∧ plc Q (ps 1) (d + 1) = -1 then -1 else fnd Q [k, l, h, e, if 0 < len then plc Q (ps 0) (d + 1) else -1, if 1 < len then plc Q (ps 1) (d + 1) else -1]) := by show _ = _; rw [plc, if_neg (by omega)]
    generalize plc Q (.mk k l h e ao b o len cap ps) d = ANS at HPL ⊢
    have hN := nodeOf_any (.mk k l h e ao b o len cap ps) (w.alloc (.cells #[.int .i64 k, .int .i64 l, .slice ao len cap, .int .i64 h, .int .i64 e] 37))
    simp only [Ty.k, Ty.l, Ty.h, Ty.e, Ty.ao, Ty.len, Ty.cap] at hN
    go_enter Tryd.func97, Tryd.ntmps97
    go_wp2_with fail
    refine hN.mono ?_
    rintro _ w2 ⟨rfl, hb2⟩
    have bN := Blk.new w2 [.int .i64 k, .int .i64 l, .int .i64 h, .int .i64 e, .int .i64 (-1), .int .i64 (-1)] 125
    have B3 := Below.next hb2 (below_alloc w2 (.cells #[.int .i64 k, .int .i64 l, .int .i64 h, .int .i64 e, .int .i64 (-1), .int .i64 (-1)] 125))
    have y2 := up B3 x2
    have HS2 := hyd (show Ty.At (w2.alloc (.cells #[.int .i64 k, .int .i64 l, .int .i64 h, .int .i64 e, .int .i64 (-1), .int .i64 (-1)] 125)) (.mk k l h e ao b o len cap ps) ∧ Below w.heap.size w (w2.alloc (.cells #[.int .i64 k, .int .i64 l, .int .i64 h, .int .i64 e, .int .i64 (-1), .int .i64 (-1)] 125)) ∧ Pw w0 n g p m v es c Q R (w2.alloc (.cells #[.int .i64 k, .int .i64 l, .int .i64 h, .int .i64 e, .int .i64 (-1), .int .i64 (-1)] 125)) ∧ Blk (w2.alloc (.cells #[.int .i64 k, .int .i64 l, .int .i64 h, .int .i64 e, .int .i64 (-1), .int .i64 (-1)] 125)) w2.heap.size [.int .i64 k, .int .i64 l, .int .i64 h, .int .i64 e, .int .i64 (-1), .int .i64 (-1)] 125 ∧ ¬ PS p m v w2.heap.size ∧ w0.heap.size ≤ w2.heap.size ∧ w.heap.size ≤ w2.heap.size from ⟨HS.out.1.kept B3, Below.next HS.out.2.1 B3, HS.out.2.2.1.kept B3, bN, fun hx => absurd ((HS.out.2.2.1.kept hb2).ge hx).2 (Nat.lt_irrefl _), (HS.out.2.2.1.kept hb2).bl.size, (Below.next HS.out.2.1 hb2).size⟩)
    clear hN bN B3 x0 x1 x2 x3 x4 HS
    go_wp2
    clear y2 hb2
    generalize w2.heap.size = B at *
    go_loopw [25] (fun i wr => ∃ (j : Nat), j ≤ len ∧ i = .int .i64 j ∧ Below w.heap.size w wr ∧ Pw w0 n g p m v es c Q R wr ∧ Blk wr B [.int .i64 k, .int .i64 l, .int .i64 h, .int .i64 e, .int .i64 (if 0 < j then plc Q (ps 0) (d + 1) else -1), .int .i64 (if 1 < j then plc Q (ps 1) (d + 1) else -1)] 125 ∧ (∀ i, i < j → plc Q (ps i) (d + 1) ≠ -1)) (fun i _ => len - (intOf i).toNat)
    case atStart => exact ⟨0, Nat.zero_le _, rfl, HS2.out.2.1, HS2.out.2.2.1, HS2.out.2.2.2.1, fun i hi => absurd hi (Nat.not_lt_zero _)⟩
    case round =>
      obtain ⟨j, hj, rfl, hBl, hPw, hBk, hne⟩ := hrel
      have hA := HA0.out.kept hBl
      have HB := hyd (show ¬ PS p m v B ∧ w0.heap.size ≤ B ∧ w.heap.size ≤ B from HS2.out.2.2.2.2)
      have HN := hyd hne
      clear HS2 hne
      by_cases hlt : j < len
      · have ij : (j : Int) < len := by omega
        have a0 := hnil (by omega)
        subst a0
        have C : C5 wr b (o + j * 5) (ps j) := hA.cells hlt
        have P : (ps j).At wr := hA.part hlt
        have X0 := Bx.new wr (ps j)
        have B0 := below_alloc wr (.cells #[.int .i64 (ps j).k, .int .i64 (ps j).l, .slice (ps j).ao (ps j).len (ps j).cap, .int .i64 (ps j).h, .int .i64 (ps j).e] 37)
        have HI := hyd (show Below w.heap.size w wr ∧ Pw w0 n g p m v es c Q R wr ∧ Blk wr B _ 125 from ⟨hBl, hPw, hBk⟩)
        have y0 := C.c0
        have y1 := C.c1
        have y2 := C.c2
        have y3 := C.c3
        have y4 := C.c4
        have hC := ih j (d + 1) _ (by omega) (P.kept B0) (hPw.kept B0)
        have hcd : ((d + 1 : Nat) : Int) = (d : Int) + 1 := by omega
        rw [hcd] at hC
        clear hA C hBl hPw hBk hcd
        go_wp2_with fail
        refine hC.mono ?_
        rintro r w5 ⟨rfl, hb5⟩
        have B5 := Below.next B0 hb5
        have HJ := hyd (show Below w.heap.size w w5 ∧ Pw w0 n g p m v es c Q R w5 ∧ Blk w5 B _ 125 from ⟨Below.next HI.out.1 B5, HI.out.2.1.kept B5, HI.out.2.2.kept B5⟩)
        clear hC HI X0 B0 y0 y1 y2 y3 y4 hb5 P B5
        have hj2 : j = 0 ∨ j = 1 := by omega
        rcases hj2 with rfl | rfl
        · have hJ := HJ.out.2.2
          rw [if_neg (by decide), if_neg (by decide)] at hJ
          have z4 := hJ.cell 4 rfl
          have f4 := hJ.frozen 4
          have W6 := wrote_cell (i := 4) hJ (.int .i64 (plc Q (ps 0) (d + 1)))
          have z6 := W6.blk.cell 4 rfl
          have HW := hyd (show Below w.heap.size w (w5.setCell ⟨B, 4, none⟩ (.int .i64 (plc Q (ps 0) (d + 1)))) ∧ Pw w0 n g p m v es c Q R (w5.setCell ⟨B, 4, none⟩ (.int .i64 (plc Q (ps 0) (d + 1)))) ∧ Blk (w5.setCell ⟨B, 4, none⟩ (.int .i64 (plc Q (ps 0) (d + 1)))) B [.int .i64 k, .int .i64 l, .int .i64 h, .int .i64 e, .int .i64 (plc Q (ps 0) (d + 1)), .int .i64 (-1)] 125 from ⟨W6.below HB.out.2.2 HJ.out.1, HJ.out.2.1.wrote W6 HB.out.1 HB.out.2.1, W6.blk⟩)
          clear HJ W6 hJ
          generalize hq : plc Q (ps 0) (d + 1) = q at *
          have HQ := hyd hq
          clear hq
          by_cases q1 : q = -1
          · subst q1
            have HE : Hid (ANS = -1) := by show _ = _; rw [HPL.out, if_pos ⟨by omega, rfl⟩]
            go_wp2
            go_ret
            exact ⟨ret_int HE.out.symm, HW.out.1⟩
          · have HE : Hid (∀ i, i < 1 → plc Q (ps i) (d + 1) ≠ -1) := fun i hi => by
              rcases Nat.lt_or_ge i 0 with h2 | h2
              · exact HN.out i h2
              · have : i = 0 := by omega
                subst this; rw [HQ.out]; exact q1
            go_wp2
            go_roundw
            case rel => exact ⟨1, by omega, rfl, HW.out.1, HW.out.2.1, by show Blk _ B [.int .i64 k, .int .i64 l, .int .i64 h, .int .i64 e, .int .i64 (if 0 < 1 then plc Q (ps 0) (d + 1) else -1), .int .i64 (if 1 < 1 then plc Q (ps 1) (d + 1) else -1)] _; rw [if_pos (by decide), if_neg (by decide), HQ.out]; exact HW.out.2.2, HE.out⟩
            case measure => simp [intOf]; omega
        · have hJ := HJ.out.2.2
          rw [if_pos (by decide), if_neg (by decide)] at hJ
          have z4 := hJ.cell 5 rfl
          have f4 := hJ.frozen 5
          have W6 := wrote_cell (i := 5) hJ (.int .i64 (plc Q (ps 1) (d + 1)))
          have z6 := W6.blk.cell 5 rfl
          have HW := hyd (show Below w.heap.size w (w5.setCell ⟨B, 5, none⟩ (.int .i64 (plc Q (ps 1) (d + 1)))) ∧ Pw w0 n g p m v es c Q R (w5.setCell ⟨B, 5, none⟩ (.int .i64 (plc Q (ps 1) (d + 1)))) ∧ Blk (w5.setCell ⟨B, 5, none⟩ (.int .i64 (plc Q (ps 1) (d + 1)))) B [.int .i64 k, .int .i64 l, .int .i64 h, .int .i64 e, .int .i64 (plc Q (ps 0) (d + 1)), .int .i64 (plc Q (ps 1) (d + 1))] 125 from ⟨W6.below HB.out.2.2 HJ.out.1, HJ.out.2.1.wrote W6 HB.out.1 HB.out.2.1, W6.blk⟩)
          clear HJ W6 hJ
          generalize hq : plc Q (ps 1) (d + 1) = q at *
          have HQ := hyd hq
          clear hq
          by_cases q1 : q = -1
          · subst q1
            have HE : Hid (ANS = -1) := by show _ = _; rw [HPL.out, if_neg (fun z => HN.out 0 (by omega) z.2), if_pos ⟨by omega, rfl⟩]
            go_wp2
            go_ret
            exact ⟨ret_int HE.out.symm, HW.out.1⟩
          · have HE : Hid (∀ i, i < 2 → plc Q (ps i) (d + 1) ≠ -1) := fun i hi => by
              rcases Nat.lt_or_ge i 1 with h2 | h2
              · exact HN.out i h2
              · have : i = 1 := by omega
                subst this; rw [HQ.out]; exact q1
            go_wp2
            go_roundw
            case rel => exact ⟨2, by omega, rfl, HW.out.1, HW.out.2.1, by show Blk _ B [.int .i64 k, .int .i64 l, .int .i64 h, .int .i64 e, .int .i64 (if 0 < 2 then plc Q (ps 0) (d + 1) else -1), .int .i64 (if 1 < 2 then plc Q (ps 1) (d + 1) else -1)] _; rw [if_pos (by decide), if_pos (by decide), HQ.out]; exact HW.out.2.2, HE.out⟩
            case measure => simp [intOf]; omega
      · have e2 : j = len := by omega
        subst e2
        have dj : ¬ (j : Int) < j := by omega
        have p3 := hPw.blk.cell 3 rfl
        have k0 := hBk.cell 0 rfl
        have k1 := hBk.cell 1 rfl
        have k2 := hBk.cell 2 rfl
        have k3 := hBk.cell 3 rfl
        have k4 := hBk.cell 4 rfl
        have k5 := hBk.cell 5 rfl
        have HI := hyd (show Below w.heap.size w wr ∧ Pw w0 n g p m v es c Q R wr from ⟨hBl, hPw⟩)
        generalize hx0 : (if 0 < j then plc Q (ps 0) (d + 1) else -1) = x0 at *
        generalize hx1 : (if 1 < j then plc Q (ps 1) (d + 1) else -1) = x1 at *
        have hL0 := fun q => run_lookN (wr.drewN q) m es c hPw.mp [k, l, h, e, x0, x1] rfl Q hPw.ks
        have HF : Hid (ANS = fnd Q [k, l, h, e, x0, x1]) := by
          show _ = _
          rw [HPL.out, if_neg (fun z => HN.out 0 z.1 z.2), if_neg (fun z => HN.out 1 z.1 z.2)]
        generalize fnd Q [k, l, h, e, x0, x1] = F at *
        have hL : ∀ q, (Instr.lookup 80 (.map (some m)) (.agg #[.int .i64 k, .int .i64 l, .int .i64 h, .int .i64 e, .int .i64 x0, .int .i64 x1]) true).run Tryd.prog (wr.drewN q) = .ok (.tuple #[.int .i64 (if F = -1 then 0 else F), .bool (decide (F ≠ -1))]) (wr.drewN q) := hL0
        have HD : Hid (∀ q, Below w.heap.size w (wr.drewN q)) := fun q => below_drewN hBl q
        clear hA hBl hPw hBk hL0 HI
        by_cases hF : F = -1
        · have hL2 : ∀ q, (Instr.lookup 80 (.map (some m)) (.agg #[.int .i64 k, .int .i64 l, .int .i64 h, .int .i64 e, .int .i64 x0, .int .i64 x1]) true).run Tryd.prog (wr.drewN q) = .ok (.tuple #[.int .i64 0, .bool false]) (wr.drewN q) := fun q => by rw [hL q, if_pos hF, decide_eq_false (fun z => z hF)]
          have HF2 : Hid (ANS = -1) := HF.out.trans hF
          clear hL HF hF
          go_upto_region 11 with fail
          go_quiet (fail)
          go_wp2
          go_ret
          exact ⟨ret_int HF2.out.symm, HD.out _⟩
        · have hL2 : ∀ q, (Instr.lookup 80 (.map (some m)) (.agg #[.int .i64 k, .int .i64 l, .int .i64 h, .int .i64 e, .int .i64 x0, .int .i64 x1]) true).run Tryd.prog (wr.drewN q) = .ok (.tuple #[.int .i64 F, .bool true]) (wr.drewN q) := fun q => by rw [hL q, if_neg hF, decide_eq_true hF]
          clear hL hF
          go_upto_region 11 with fail
          go_quiet (fail)
          go_wp2
          go_ret
          exact ⟨ret_int HF.out.symm, HD.out _⟩

set_option maxHeartbeats 1000000 in
theorem place_any {w0 : World} {n : Strs} {g : Grid} {p m : Nat} {v : Value} {es : Array MapEntry} {c : Nat} {Q : List (List Int)} {R : List Ty} (t : Ty) (w : World) (ht : t.At w) (hP : Pw w0 n g p m v es c Q R w) :
    Calls Tryd.prog 81 #[.pointer (some ⟨p, 0, none⟩), .agg #[.int .i64 t.k, .int .i64 t.l, .slice t.ao t.len t.cap, .int .i64 t.h, .int .i64 t.e]] w fun e w' => e = .returned (.int .i64 (plc Q t 1)) ∧ Below w.heap.size w w' := by
  have B0 := below_alloc w (.cells #[.int .i64 t.k, .int .i64 t.l, .slice t.ao t.len t.cap, .int .i64 t.h, .int .i64 t.e] 37)
  have h := placeOf_any t 1 _ (by omega) (ht.kept B0) (hP.kept B0)
  generalize plc Q t 1 = F at *
  go_enter Tryd.func81, Tryd.ntmps81
  go_wp2_with fail
  refine h.mono ?_
  rintro r w1 ⟨rfl, hb1⟩
  go_wp2
  go_ret
  exact ⟨rfl, Below.next B0 hb1⟩
end Go.Proofs.YtdplabhgdonbiaaDoor
