/- Layer 3: rows of functions and of cells put one behind the other. -/
import Derived.Test.YtnkipiegjpjfbaaGreatDoorP17
import Derived.Test.YtnkipiegjpjfbaaGreatDoorP14
import Derived.Deep.AppendLies
import Derived.Laws.AppendOwnNone
import Derived.Test.YtnkipiegjpjfbaaGreatDoorP7
namespace Go.Proofs.YtnkipiegjpjfbaaGreatDoor
open Go.RowKit

theorem Tryz.infoFn : (Tryz.prog.info? 45).map (fun i => (i.zero, i.size, i.bytes)) = some (some (.agg #[.int .i64 0, .int .i64 0, .slice none 0 0, .int .i64 0, .int .i64 0, .int .i64 0, .int .i64 0, .slice none 0 0, .int .i64 0, .int .i64 0, .slice none 0 0, .int .i64 0, .int .i64 0, .int .i64 0, .slice none 0 0, .slice none 0 0, .slice none 0 0, .slice none 0 0]), 18, 256) := by kernel_rfl
theorem Tryz.infoCell : (Tryz.prog.info? 63).map (fun i => (i.zero, i.size, i.bytes)) = some (some (.agg #[.int .i64 0, .int .i64 0, .slice none 0 0, .int .i64 0, .int .i64 0, .int .i64 0, .int .i64 0, .slice none 0 0]), 8, 96) := by kernel_rfl

theorem gbr (w : World) (r : Option Nat) : w.grownBy w r := ⟨rfl, rfl, rfl, Nat.le_refl _, fun _ _ _ => rfl⟩
theorem gb_bel {w0 a b : World} {r : Option Nat} (h : Below w0.heap.size w0 a) (hg : a.grownBy b r) (hr : ∀ k, r = some k → w0.heap.size ≤ k) : Below w0.heap.size w0 b := by
  have hs := h.size
  refine ⟨hg.os.trans h.os, hg.tape.trans h.tape, hg.output.trans h.output, Nat.le_trans h.size hg.size, fun k hk => ?_⟩
  rw [hg.block k (by omega) (fun e => by have := hr k e.symm; omega)]
  exact h.block k hk
theorem owb {w : World} {base : Nat} {e : TypeId} {size : Nat} {v : Value} {n : Nat} {xs : List Value} (h : w.ownsRow base e size v n xs) {k : Nat} (hb : v.ownBlock = some k) : base ≤ k ∧ k < w.heap.size := by
  obtain ⟨_, ⟨rfl, _⟩ | ⟨g, cap, cur, rfl, hg, hh, _⟩⟩ := h
  · cases hb
  · have : g = k := by simpa [Value.ownBlock] using hb
    subst this
    exact ⟨hg, (Array.getElem?_eq_some_iff.1 hh).1⟩
theorem owk {w w' : World} {base : Nat} {e : TypeId} {size : Nat} {v : Value} {n : Nat} {xs : List Value} (h : w.ownsRow base e size v n xs) (hb : Below w.heap.size w w') : w'.ownsRow base e size v n xs := by
  have hl := fun k hk => (owb h (k := k) hk).2
  obtain ⟨h0, h⟩ := h
  refine ⟨h0, ?_⟩
  rcases h with ⟨rfl, hn⟩ | ⟨g, cap, cur, rfl, hg, hh, hr⟩
  · exact Or.inl ⟨rfl, hn⟩
  · exact Or.inr ⟨g, cap, cur, rfl, hg, (hb.block g (hl g rfl)).trans hh, hr⟩
theorem owform {w : World} {base : Nat} {e : TypeId} {size : Nat} {v : Value} {n : Nat} {xs : List Value} (h : w.ownsRow base e size v n xs) : ∃ ao cap, v = .slice ao n cap := by
  obtain ⟨_, ⟨rfl, rfl⟩ | ⟨g, cap, cur, rfl, _⟩⟩ := h
  · exact ⟨none, 0, rfl⟩
  · exact ⟨_, cap, rfl⟩

theorem run_append_any {S E : TypeId} {size bytes : Nat} {z : Value} (hu : Tryz.prog.underlying S = some (.slice E)) (hinf : (Tryz.prog.info? E).map (fun i => (i.zero, i.size, i.bytes)) = some (some z, size, bytes)) (hzc : z.cells.size = size) (hpos : 0 < size) (w : World) (ty : TypeId) (base : Nat) (v : Value) (n : Nat) (xs : List Value) (ho : w.ownsRow base E size v n xs) (ao : Option Addr) (m c : Nat) (news : List Value) (hnone : ao = none → m = 0 ∧ c = 0) (hl : news.length = m * size) (hn : ∀ a, ao = some a → ∀ j u, news[j]? = some u → w.cell? (a.add j) = some u) (h1 : ∀ u ∈ news, u.oneCell' = true) (h63 : n + m ≤ maxLen) (hbytes : (n + m) * bytes ≤ 140737488355328) (hb : base ≤ w.heap.size) :
    ∃ v' w', (Builtin.append_ #[S, S] ty #[v, .slice ao m c]).run Tryz.prog w = .ok v' w' ∧ w'.ownsRow base E size v' (n + m) (xs ++ news) ∧ w.grownBy w' v.ownBlock := by
  obtain ⟨i0, hi, hz0, hz1, hz2⟩ := info_parts hinf
  cases ao with
  | none =>
    obtain ⟨rfl, rfl⟩ := hnone rfl
    have hl0 : news = [] := List.eq_nil_of_length_eq_zero (by rw [hl]; omega)
    subst hl0
    refine ⟨v, w, ?_, ?_, gbr _ _⟩
    · exact run_append_owned_none (P := Tryz.prog) w base S ty E i0 size hu hi v n xs ho
    · rw [List.append_nil]; exact ho
  | some a =>
    obtain ⟨v', w', hr, h2, h3, _⟩ := run_append_own (P := Tryz.prog) w base S ty E i0 z size bytes hu hi hz0 hz1 hz2 hzc hpos v n xs ho a m c news hl (hn a rfl) h1 h63 hbytes hb
    exact ⟨v', w', hr, h2, h3⟩
theorem wpList_append_any {S E : TypeId} {size bytes : Nat} {z : Value} (hu : Tryz.prog.underlying S = some (.slice E)) (hinf : (Tryz.prog.info? E).map (fun i => (i.zero, i.size, i.bytes)) = some (some z, size, bytes)) (hzc : z.cells.size = size) (hpos : 0 < size) {w : World} {ops : Array Oper} {rest : List Oper} {o : Oper} {a : Act} {Q : Exit → Act → World → Prop} (hgd : o.guard = none) (s x : Operand)
    (hop : o.op = .call { callee := .builtin .append, args := #[s, x], argTypes := #[S, S] }) (base : Nat) (v : Value) (n : Nat) (xs : List Value) (hs : a.eval s = v) (ho : w.ownsRow base E size v n xs) (ao : Option Addr) (m c : Nat) (news : List Value) (hx : a.eval x = .slice ao m c) (hnone : ao = none → m = 0 ∧ c = 0) (hl : news.length = m * size) (hn : ∀ a, ao = some a → ∀ j u, news[j]? = some u → w.cell? (a.add j) = some u) (h1 : ∀ u ∈ news, u.oneCell' = true) (h63 : n + m ≤ maxLen) (hbytes : (n + m) * bytes ≤ 140737488355328) (hb : base ≤ w.heap.size)
    (h : ∀ v' w', w'.ownsRow base E size v' (n + m) (xs ++ news) → w.grownBy w' v.ownBlock → wpList Tryz.prog ops Q rest (a.put o.dst v') w') : wpList Tryz.prog ops Q (o :: rest) a w := by
  refine wpList_plain hgd fun K hK => ?_
  obtain ⟨v', w', hr, h2, h3⟩ := run_append_any hu hinf hzc hpos w o.type base v n xs ho ao m c news hnone hl hn h1 h63 hbytes hb
  unfold Oper.wp execOp
  simp only [hop, resolve, invoke, builtin, Sem.run_bind, Sem.run_pure, Result.andThen_ok, List.map_toArray, List.map_cons, List.map_nil, hs, hx, hr]
  exact hK _ _ (h v' w' h2 h3)

/-- One behind the other. -/
def flatN (f : Nat → List Value) : Nat → List Value
  | 0 => []
  | k + 1 => flatN f k ++ f k
theorem flatN_len {f : Nat → List Value} {c : Nat} (h : ∀ i, (f i).length = c) : ∀ k, (flatN f k).length = k * c
  | 0 => by simp [flatN]
  | k + 1 => by
    show (flatN f k ++ f k).length = _
    rw [List.length_append, flatN_len h k, h, Nat.add_mul, Nat.one_mul]
theorem flatN_get {f : Nat → List Value} {c : Nat} (h : ∀ i, (f i).length = c) : ∀ k i j, i < k → j < c → (flatN f k)[i * c + j]? = (f i)[j]?
  | 0, i, _, hi, _ => absurd hi (Nat.not_lt_zero _)
  | k + 1, i, j, hi, hj => by
    show (flatN f k ++ f k)[i * c + j]? = _
    have hl := flatN_len h k
    by_cases e : i = k
    · subst e
      rw [List.getElem?_append_right (by rw [hl]; omega), hl]
      congr 1; omega
    · have h2 : i * c + j < k * c := by
        have : (i + 1) * c ≤ k * c := Nat.mul_le_mul_right c (by omega)
        rw [Nat.add_mul, Nat.one_mul] at this
        omega
      rw [List.getElem?_append_left (by rw [hl]; exact h2)]
      exact flatN_get h k i j (by omega) hj
theorem flatN_app (f h : Nat → List Value) (a : Nat) : ∀ b, flatN (fun i => if i < a then f i else h (i - a)) (a + b) = flatN f a ++ flatN h b
  | 0 => by
    rw [Nat.add_zero]
    show _ = flatN f a ++ []
    rw [List.append_nil]
    have key : ∀ k, k ≤ a → flatN (fun i => if i < a then f i else h (i - a)) k = flatN f k := fun k => by
      induction k with
      | zero => intro _; rfl
      | succ k ih =>
        intro hk
        show flatN _ k ++ _ = flatN f k ++ f k
        rw [ih (by omega)]
        simp only [if_pos (show k < a by omega)]
    exact key a (Nat.le_refl _)
  | b + 1 => by
    show flatN _ (a + b) ++ (if a + b < a then f (a + b) else h (a + b - a)) = flatN f a ++ (flatN h b ++ h b)
    rw [flatN_app f h a b, List.append_assoc, if_neg (show ¬ a + b < a by omega), show a + b - a = b by omega]
theorem flatN_mem {f : Nat → List Value} {u : Value} : ∀ k, u ∈ flatN f k → ∃ i, i < k ∧ u ∈ f i
  | 0, h => by cases h
  | k + 1, h => by
    rcases List.mem_append.1 h with h | h
    · obtain ⟨i, hi, hu⟩ := flatN_mem k h
      exact ⟨i, by omega, hu⟩
    · exact ⟨k, by omega, h⟩
theorem adp (b off i : Nat) : (⟨b, off, none⟩ : Addr).add i = ⟨b, off + i, none⟩ := by unfold Addr.add; split <;> simp_all
theorem flatN_cell {f : Nat → List Value} {c : Nat} (h : ∀ i, (f i).length = c) (hc : 0 < c) {w : World} {b o : Nat} {k : Nat} (hr : ∀ i, i < k → w.rangeAt b (o + i * c) (f i)) : ∀ j u, (flatN f k)[j]? = some u → w.cell? ((⟨b, o, none⟩ : Addr).add j) = some u := by
  intro j u hj
  have hlt : j < k * c := by rw [← flatN_len h k]; exact (List.getElem?_eq_some_iff.1 hj).1
  have hi : j / c < k := Nat.div_lt_of_lt_mul (by rw [Nat.mul_comm]; exact hlt)
  have hm : j % c < c := Nat.mod_lt _ hc
  have e : j = j / c * c + j % c := by rw [Nat.mul_comm]; exact (Nat.div_add_mod j c).symm
  rw [e, flatN_get h k _ _ hi hm] at hj
  have := hr (j / c) hi (j % c) u hj
  rw [adp, show o + j = o + j / c * c + j % c by omega]
  exact this
theorem vs_len (f : Fn) : f.vs.length = 18 := rfl
theorem vs_cell (f : Fn) : ∀ u ∈ f.vs, u.oneCell' = true := by
  intro u hu
  have := vs_one f
  simp only [List.all_toArray] at this
  exact List.all_eq_true.1 this u hu
def tvs (t : Ty) (v : Vl) : List Value := [.int .i64 t.k, .int .i64 t.l, .slice t.ao t.len t.cap, .int .i64 t.h, .int .i64 t.e, .int .i64 v.k, .int .i64 v.m, .slice v.ao v.len v.cap]
theorem tvs_len (t : Ty) (v : Vl) : (tvs t v).length = 8 := rfl
theorem tvs_cell (t : Ty) (v : Vl) : ∀ u ∈ tvs t v, u.oneCell' = true := by
  intro u hu
  simp only [tvs, List.mem_cons, List.not_mem_nil, or_false] at hu
  rcases hu with rfl | rfl | rfl | rfl | rfl | rfl | rfl | rfl <;> rfl
theorem tvs_range {w : World} {b o : Nat} {t : Ty} {v : Vl} (h : C5 w b o t) (h' : C3 w b (o + 5) v) : w.rangeAt b o (tvs t v) := fun j u hu => by
  match j, hu with
  | 0, hu => rw [← hu]; exact h.c0
  | 1, hu => rw [← hu]; exact h.c1
  | 2, hu => rw [← hu]; exact h.c2
  | 3, hu => rw [← hu]; exact h.c3
  | 4, hu => rw [← hu]; exact h.c4
  | 5, hu => rw [← hu]; exact h'.c0
  | 6, hu => rw [← hu]; exact h'.c1
  | 7, hu => rw [← hu]; exact h'.c2
  | _ + 8, hu => simp [tvs] at hu

theorem Fs.of_own {w : World} {base : Nat} {v : Value} {n : Nat} {F : Nat → Fn} (h : w.ownsRow base 45 18 v n (flatN (fun i => (F i).vs) n)) (hb : n ≤ 1000) (hA : ∀ i, i < n → (F i).At w) : ∃ s : Fs, v = .slice s.ao s.len s.cap ∧ s.At w ∧ s.len = n ∧ s.f = F := by
  obtain ⟨hl, ⟨rfl, rfl⟩ | ⟨g, cap, cur, rfl, hg, hh, hr⟩⟩ := h
  · exact ⟨⟨none, 0, 0, 0, 0, F⟩, rfl, ⟨fun h => absurd h (Nat.lt_irrefl _), Nat.zero_le _, fun _ h => absurd h (Nat.not_lt_zero _), fun _ h => absurd h (Nat.not_lt_zero _)⟩, rfl, rfl⟩
  · have ho : w.ownsRow base 45 18 (.slice (some ⟨g, 0, none⟩) n cap) n (flatN (fun i => (F i).vs) n) := ⟨hl, Or.inr ⟨g, cap, cur, rfl, hg, hh, hr⟩⟩
    refine ⟨⟨some ⟨g, 0, none⟩, g, 0, n, cap, F⟩, rfl, ⟨fun _ => rfl, by show n ≤ _; omega, fun i hi => ?_, hA⟩, rfl, rfl⟩
    have hi' : i < n := hi
    have get : ∀ j, j < 18 → w.cell? ⟨g, 0 + i * 18 + j, none⟩ = (F i).vs[j]? := fun j hj => by
      rw [Nat.zero_add, ho.cellAt (i * 18 + j) (by omega)]
      exact flatN_get (fun i => vs_len (F i)) n i j hi' hj
    exact ⟨get 0 (by omega), get 1 (by omega), get 2 (by omega), get 3 (by omega), get 4 (by omega), get 5 (by omega), get 6 (by omega), get 7 (by omega), get 8 (by omega), get 9 (by omega), get 10 (by omega), get 11 (by omega), get 12 (by omega), get 13 (by omega), get 14 (by omega), get 15 (by omega), get 16 (by omega), get 17 (by omega)⟩
theorem Cs.of_own {w : World} {base : Nat} {v : Value} {n : Nat} {T : Nat → Ty} {V : Nat → Vl} (h : w.ownsRow base 63 8 v n (flatN (fun i => tvs (T i) (V i)) n)) (hb : n ≤ 1000) (hA : ∀ i, i < n → (T i).At w ∧ (V i).At w) : ∃ s : Cs, v = .slice s.ao s.len s.cap ∧ s.At w ∧ s.len = n ∧ s.t = T := by
  obtain ⟨hl, ⟨rfl, rfl⟩ | ⟨g, cap, cur, rfl, hg, hh, hr⟩⟩ := h
  · exact ⟨⟨none, 0, 0, 0, 0, T, V⟩, rfl, ⟨fun h => absurd h (Nat.lt_irrefl _), Nat.zero_le _, fun _ h => absurd h (Nat.not_lt_zero _), fun _ h => absurd h (Nat.not_lt_zero _), fun _ h => absurd h (Nat.not_lt_zero _), fun _ h => absurd h (Nat.not_lt_zero _)⟩, rfl, rfl⟩
  · have ho : w.ownsRow base 63 8 (.slice (some ⟨g, 0, none⟩) n cap) n (flatN (fun i => tvs (T i) (V i)) n) := ⟨hl, Or.inr ⟨g, cap, cur, rfl, hg, hh, hr⟩⟩
    have get : ∀ i, i < n → ∀ j, j < 8 → w.cell? ⟨g, 0 + i * 8 + j, none⟩ = (tvs (T i) (V i))[j]? := fun i hi j hj => by
      rw [Nat.zero_add, ho.cellAt (i * 8 + j) (by omega)]
      exact flatN_get (fun i => tvs_len (T i) (V i)) n i j hi hj
    refine ⟨⟨some ⟨g, 0, none⟩, g, 0, n, cap, T, V⟩, rfl, ⟨fun _ => rfl, by show n ≤ _; omega, fun i hi => ?_, fun i hi => ?_, fun i hi => (hA i hi).1, fun i hi => (hA i hi).2⟩, rfl, rfl⟩
    · have g' := get i hi
      exact ⟨g' 0 (by omega), g' 1 (by omega), g' 2 (by omega), g' 3 (by omega), g' 4 (by omega)⟩
    · have g' := get i hi
      exact ⟨g' 5 (by omega), g' 6 (by omega), g' 7 (by omega)⟩

/-- With more behind no fit is taken away. -/
theorem fit_more {n : Strs} {g : Grid} {fs fs' : Fs} {cs cs' : Cs} (hl : fs.len ≤ fs'.len) (hf : ∀ i, i < fs.len → fs'.f i = fs.f i) (hcl : cs.len ≤ cs'.len) (hct : ∀ i, i < cs.len → cs'.t i = cs.t i) : ∀ (v : Vl) (t : Ty), v.fm = true → v.fit n g fs cs t = true → v.fit n g fs' cs' t = true := by
  intro v
  induction v with
  | dm => intro t h; cases h
  | mk k m ao b o len cap ps ih =>
    intro t hfm h
    obtain ⟨nd, hp⟩ := vfm_parts hfm
    have e : ∀ (F : Fs) (C : Cs), Vl.fit n g F C (.mk k m ao b o len cap ps) t = ((t.k == k) && (if k = 3 then Vl.fit n g F C (ps 0) (t.ps 0) && Vl.fit n g F C (ps 1) (t.ps 1) else if k = 4 then funB n g F C m len ps t else if k = 5 then decide (m < C.len) && (C.t m.toNat).same (t.ps 0) else true)) := fun _ _ => rfl
    rw [e, Bool.and_eq_true] at h ⊢
    refine ⟨h.1, ?_⟩
    have h2 := h.2
    by_cases k3 : k = 3
    · rw [if_pos k3] at h2 ⊢
      rw [Bool.and_eq_true] at h2 ⊢
      subst k3
      have l2 := nd_pair nd
      exact ⟨ih 0 _ (hp 0 (by omega)) h2.1, ih 1 _ (hp 1 (by omega)) h2.2⟩
    rw [if_neg k3] at h2 ⊢
    by_cases k4 : k = 4
    · rw [if_pos k4] at h2 ⊢
      subst k4
      have m0 := (nd_fun nd).1
      unfold funB at h2 ⊢
      simp only [Bool.and_eq_true, decide_eq_true_eq] at h2 ⊢
      have hm : m.toNat < fs.len := by have := h2.1.1; omega
      rw [hf _ hm]
      refine ⟨⟨by have := h2.1.1; omega, h2.1.2⟩, fun i hi => ?_⟩
      have := h2.2 i hi
      exact ⟨this.1, ih i _ (hp i hi) this.2⟩
    rw [if_neg k4] at h2 ⊢
    by_cases k5 : k = 5
    · rw [if_pos k5] at h2 ⊢
      subst k5
      have m0 := nd_ref nd
      rw [Bool.and_eq_true, decide_eq_true_eq] at h2 ⊢
      have hm : m.toNat < cs.len := by have := h2.1; omega
      rw [hct _ hm]
      exact ⟨by have := h2.1; omega, h2.2⟩
    rw [if_neg k5]
theorem fitB_more {n : Strs} {g : Grid} {fs fs' : Fs} {cs cs' : Cs} {t : Ty} {v : Vl} (hl : fs.len ≤ fs'.len) (hf : ∀ i, i < fs.len → fs'.f i = fs.f i) (hcl : cs.len ≤ cs'.len) (hct : ∀ i, i < cs.len → cs'.t i = cs.t i) (h : fitB n g fs cs t v = true) : fitB n g fs' cs' t v = true := by
  unfold fitB at h ⊢
  rw [Bool.and_eq_true] at h ⊢
  refine ⟨h.1, fit_more hl hf hcl hct v t ?_ h.2⟩
  have := h.1
  rw [Bool.and_eq_true] at this
  have h2 := this.2
  unfold Vl.ok at h2
  rw [Bool.and_eq_true] at h2
  exact h2.2
end Go.Proofs.YtnkipiegjpjfbaaGreatDoor

/- The walks of the reference's Bottom, Top, Below, SameInts. -/
namespace Go.Proofs.YtnkipiegjpjfbaaGreatDoor
open Go.RowKit

theorem own_below {w w' : World} {base : Nat} {e : TypeId} {size : Nat} {v : Value} {n : Nat} {xs : List Value} (h : w.ownsRow base e size v n xs) (hb : Below w.heap.size w w') : w'.ownsRow base e size v n xs := by
  obtain ⟨h1, h2⟩ := h
  refine ⟨h1, ?_⟩
  rcases h2 with h2 | ⟨gb, cap, cur, hv, hg, hh, r⟩
  · exact Or.inl h2
  · refine Or.inr ⟨gb, cap, cur, hv, hg, ?_, r⟩
    rw [hb.block gb (Array.getElem?_eq_some_iff.1 hh).1]; exact hh

def lowB (n : Strs) (g : Grid) (a : Nat) : Bool := decide (∀ b, b < n.len → g.B a b = true)
def highB (n : Strs) (g : Grid) (a : Nat) : Bool := decide (∀ b, b < n.len → g.B b a = true)
theorem rbot_eq {n : Strs} {g : Grid} (hF : formedB n g = true) : findI (lowB n g) n.len 0 = botI n g := by
  obtain ⟨m, h1, h2, h3⟩ := bot_is hF
  rw [h1]
  refine findI_one _ h2 (decide_eq_true h3) (fun i hi hp => ?_)
  unfold lowB at hp
  rw [decide_eq_true_eq] at hp
  exact lq_anti hF hi h2 (hp m h2) (h3 i hi)
theorem rtop_eq {n : Strs} {g : Grid} (hF : formedB n g = true) : findI (highB n g) n.len 0 = topI n g := by
  obtain ⟨m, h1, h2, h3⟩ := top_is hF
  rw [h1]
  refine findI_one _ h2 (decide_eq_true h3) (fun i hi hp => ?_)
  unfold highB at hp
  rw [decide_eq_true_eq] at hp
  exact lq_anti hF hi h2 (h3 i hi) (hp m h2)
theorem all_to (p : Nat → Bool) (k : Nat) : decide (∀ b, b < k + 1 → p b = true) = (decide (∀ b, b < k → p b = true) && p k) := by
  rw [Bool.eq_iff_iff, Bool.and_eq_true, decide_eq_true_eq, decide_eq_true_eq]
  constructor
  · intro h; exact ⟨fun b hb => h b (by omega), h k (by omega)⟩
  · rintro ⟨h1, h2⟩ b hb
    rcases Nat.lt_succ_iff_lt_or_eq.1 hb with h | h
    · exact h1 b h
    · subst h; exact h2

set_option maxRecDepth 100000 in
set_option maxHeartbeats 2000000 in
theorem rBottom_any (n : Strs) (g : Grid) (w : World) (hn : n.At w) (hg : g.At w) :
    Calls Tryz.prog 21 #[.agg #[.slice n.ao n.len n.cap, .slice g.ao g.len g.cap]] w fun e w' => e = .returned (.int .i64 (botI n g)) ∧ Below w.heap.size w w' := by
  have B0 := Box2.start w (.slice n.ao n.len n.cap) (.slice g.ao g.len g.cap) 25
  have hnb := hn.bound
  cases hF : formedB n g
  · have HE : Hid (botI n g = -1) := by show botI n g = _; unfold botI; rw [hF]; rfl
    go_enter Tryz.func21, Tryz.ntmps21
    go_wp2
    go_loopw [3] (fun i wr => i = .int .i64 0 ∧ Box2 w wr (.slice n.ao n.len n.cap) (.slice g.ao g.len g.cap)) (fun _ _ => 0)
    case atStart => exact ⟨rfl, B0⟩
    case round =>
      obtain ⟨rfl, hB⟩ := hrel
      clear B0
      have c0 := hB.c0
      have c1 := hB.c1
      by_cases h0 : 0 < n.len
      · have i0 : decide ((0 : Int) < n.len) = true := by simp; omega
        go_wp2_with fail
        refine (rformedB' hn hg hB false hF).mono ?_
        rintro e w1 ⟨rfl, B1⟩
        go_wp2
        go_ret
        exact ⟨ret_int HE.out.symm, B1.bl⟩
      · have i0 : decide ((0 : Int) < n.len) = false := by simp; omega
        go_wp2
        go_ret
        exact ⟨ret_int HE.out.symm, hB.bl⟩
  · have HE : Hid (botI n g = findI (lowB n g) n.len 0) := (rbot_eq hF).symm
    have hq := sqat_of hF hn hg
    have hrf := fun (wr : World) (hB : Box2 w wr (.slice n.ao n.len n.cap) (.slice g.ao g.len g.cap)) => rformedB' hn hg hB true hF
    rw [hq.ao, hq.len] at hrf B0 ⊢
    have HR : Hid (∀ (wr : World) (hB : Box2 w wr (.slice n.ao n.len n.cap) (.slice (some ⟨g.gb, g.go, none⟩) n.len g.cap)), Calls Tryz.prog 39 #[.agg #[.slice n.ao n.len n.cap, .slice (some ⟨g.gb, g.go, none⟩) n.len g.cap]] wr fun e w' => e = .returned (.bool true) ∧ Box2 w w' (.slice n.ao n.len n.cap) (.slice (some ⟨g.gb, g.go, none⟩) n.len g.cap)) := hrf
    have l8 := hq.le8
    clear hF hrf
    go_enter Tryz.func21, Tryz.ntmps21
    go_wp2
    go_loopw [3] (fun i wr => ∃ a : Nat, a ≤ n.len ∧ i = .int .i64 a ∧ findI (lowB n g) n.len 0 = findI (lowB n g) (n.len - a) a ∧ Box2 w wr (.slice n.ao n.len n.cap) (.slice (some ⟨g.gb, g.go, none⟩) n.len g.cap)) (fun i _ => n.len - (intOf i).toNat)
    case atStart => exact ⟨0, Nat.zero_le _, rfl, rfl, B0⟩
    case round =>
      obtain ⟨a, ha, rfl, hdone, hB⟩ := hrel
      clear B0
      have HD : Hid (findI (lowB n g) n.len 0 = findI (lowB n g) (n.len - a) a) := hdone
      clear hdone
      have c0 := hB.c0
      have c1 := hB.c1
      by_cases hlt : a < n.len
      · have ia : decide ((a : Int) < n.len) = true := by simp; omega
        go_wp2_with fail
        refine (HR.out _ hB).mono ?_
        rintro e w1 ⟨rfl, B1⟩
        clear c0 c1 hB
        have c0 := B1.c0
        have c1 := B1.c1
        have q1 := hq.kept B1.bl
        have ra := q1.row hlt
        clear ia
        go_wp2
        go_loop [4, 5] (fun t i => ∃ b : Nat, b ≤ n.len ∧ i = .int .i64 b ∧ t = .bool (decide (∀ x, x < b → g.B a x = true))) (fun _ i => n.len - (intOf i).toNat)
        case atStart => exact ⟨0, Nat.zero_le _, rfl, by simp⟩
        case round =>
          obtain ⟨b, hb, rfl, rfl⟩ := hrel
          by_cases hltb : b < n.len
          · have f1 := q1.cell hlt hltb
            have ia : (a : Int) < n.len := by omega
            have ib : (b : Int) < n.len := by omega
            have HA : Hid (decide (∀ x, x < b + 1 → g.B a x = true) = (decide (∀ x, x < b → g.B a x = true) && g.B a b)) := all_to (fun x => g.B a x) b
            generalize hv : decide (∀ x, x < b → g.B a x = true) = v at *
            cases v
            · go_wp2
              go_round
              case rel => exact ⟨b + 1, by omega, by go_num, by rw [HA.out]; rfl⟩
              case measure => simp [intOf]; omega
            · go_wp2
              go_round
              case rel => exact ⟨b + 1, by omega, by go_num, by rw [HA.out]; rfl⟩
              case measure => simp [intOf]; omega
          · have e : b = n.len := by omega
            subst e
            have HV : Hid (lowB n g a = decide (∀ x, x < n.len → g.B a x = true)) := rfl
            generalize hv : decide (∀ x, x < n.len → g.B a x = true) = v at *
            cases v
            · go_wp2
              go_roundw
              case rel => exact ⟨a + 1, by omega, by go_num, HD.out.trans (findI_miss hlt HV.out), B1⟩
              case measure => simp [intOf]; omega
            · go_wp2
              go_ret
              exact ⟨ret_int (HE.out.trans (HD.out.trans (findI_hit hlt HV.out))).symm, B1.bl⟩
      · have ia : decide ((a : Int) < n.len) = false := by simp; omega
        go_wp2
        go_ret
        exact ⟨ret_int (HE.out.trans (HD.out.trans (findI_end hlt))).symm, hB.bl⟩
theorem rbel_to (n : Strs) (g : Grid) (a : Int) : belL n g a = (List.range n.len).filter (fun (b : Nat) => leqB n g b a) := by
  unfold belL
  by_cases h : (labB n a && formedB n g) = true
  · rw [if_pos h]
    rw [Bool.and_eq_true] at h
    obtain ⟨x, rfl, hx⟩ := lab_nat h.1
    unfold belTo
    refine List.filter_congr fun b hb => ?_
    rw [leqB_nat h.2 (by simpa using hb) hx]; rfl
  · rw [if_neg h]
    symm
    rw [List.filter_eq_nil_iff]
    intro b _ hb
    unfold leqB at hb
    rw [Bool.and_eq_true, Bool.and_eq_true, Bool.and_eq_true] at hb
    exact h (by rw [hb.1.1.2, hb.1.2]; rfl)
theorem rbel_len (n : Strs) (g : Grid) (a : Int) (k : Nat) (hk : k ≤ n.len) : ((List.range k).filter (fun (b : Nat) => leqB n g b a)).length ≤ 8 := by
  by_cases h : formedB n g = true
  · have := formed_parts h
    have h2 := List.length_filter_le (fun (b : Nat) => leqB n g b a) (List.range k)
    simp at h2
    omega
  · have e : (List.range k).filter (fun (b : Nat) => leqB n g b a) = [] := by
      rw [List.filter_eq_nil_iff]
      intro b _ hb
      unfold leqB at hb
      rw [Bool.and_eq_true, Bool.and_eq_true] at hb
      exact h hb.1.2
    rw [e]; simp

end Go.Proofs.YtnkipiegjpjfbaaGreatDoor
