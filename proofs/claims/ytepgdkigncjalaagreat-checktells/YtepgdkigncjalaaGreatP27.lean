/- Layer 7: the expressions of CheckTells, judged. -/
import Derived.Test.YtepgdkigncjalaaGreatP26
import Derived.Test.YtepgdkigncjalaaGreatP25
import Derived.Test.YtepgdkigncjalaaGreatP15
import Derived.Test.YtepgdkigncjalaaGreatP8
namespace Go.Proofs.YtepgdkigncjalaaGreat
open Go Go.RowKit

theorem if_ok {n : Strs} {g : Grid} {e : Ex} {sb : Nat} {pc hp k l x b pl c : Int} {w : World} (h : ExprOk n g e sb pc hp k l x b w) : ExprIf true n g e sb pc hp k l x b pl c w := by
  unfold ExprOk at h
  unfold ExprIf
  refine h.mono ?_
  rintro r u' ⟨h, hb⟩
  exact ⟨Or.inl ⟨rfl, h⟩, hb⟩
theorem if_no {n : Strs} {g : Grid} {e : Ex} {sb : Nat} {pc hp k l x b pl c : Int} {w : World} (h : ExprNo n g e sb pc hp pl c w) : ExprIf false n g e sb pc hp k l x b pl c w := by
  unfold ExprNo at h
  unfold ExprIf
  refine h.mono ?_
  rintro r u' ⟨h, hb⟩
  exact ⟨Or.inr ⟨rfl, h⟩, hb⟩
theorem ok_if {n : Strs} {g : Grid} {e : Ex} {sb : Nat} {pc hp k l x b pl c : Int} {w : World} (h : ExprIf true n g e sb pc hp k l x b pl c w) : ExprOk n g e sb pc hp k l x b w := by
  unfold ExprIf at h
  unfold ExprOk
  refine h.mono ?_
  rintro r u' ⟨⟨_, h⟩ | ⟨h, _⟩, hb⟩
  · exact ⟨h, hb⟩
  · cases h

theorem if_out (okk : Bool) (n : Strs) (g : Grid) (e : Ex) (sb : Nat) (pc hp k l l' x b pl c : Int) (w : World) (hn : n.At w) (hg : g.At w) (hF : formedB n g = true) (hk : k = 1 ∨ k = 2) (hl : inR n.len l = true) (hbe : jfold n g [pc, x] = b) (hb : inR n.len b = true) (hl' : joinI n g l b = l') (hK : e.k = 14)
    (hM : ∀ u, Below w.heap.size w u → Calls Tryz.prog 100 #[.agg #[.slice n.ao n.len n.cap, .slice g.ao g.len g.cap], .agg e.va, .agg #[.pointer (some ⟨sb, 0, none⟩), .int .i64 pc, .int .i64 hp]] u fun r w' => ((okk = true ∧ ∃ ao cap, r = .returned (.tuple #[.agg #[.int .i64 k, .int .i64 l, .slice ao 0 cap, .int .i64 0, .int .i64 0], .int .i64 x])) ∨ (okk = false ∧ r = .panicked (fault pl c))) ∧ Below u.heap.size u w') : ExprIf okk n g e sb pc hp k l' x b pl c w := by
  cases okk
  · refine if_no (expr_no n g e sb pc hp pl c w (fun u hu => rule_out_no n g e sb pc hp pl c u hK (fun v hv => (hM v (Below.next hu hv)).mono ?_)))
    rintro r u' ⟨⟨h, _⟩ | ⟨_, h⟩, hb⟩
    · cases h
    · exact ⟨h, hb⟩
  · refine if_ok ?_
    rw [← hl']
    refine expr_ok n g e sb pc hp k l x b w hn hg hF hk hl hbe hb (fun u hu => rule_out n g e sb pc hp k l x u hK (fun v hv => (hM v (Below.next hu hv)).mono ?_))
    rintro r u' ⟨⟨_, h⟩ | ⟨h, _⟩, hb⟩
    · exact ⟨h, hb⟩
    · cases h

theorem if_choice (okk : Bool) (n : Strs) (g : Grid) (e : Ex) (sb : Nat) (pc hp k l l' x b pl c : Int) (w : World) (hn : n.At w) (hg : g.At w) (hF : formedB n g = true) (hk : k = 1 ∨ k = 2) (hl : inR n.len l = true) (hbe : jfold n g [pc, x] = b) (hb : inR n.len b = true) (hl' : joinI n g l b = l') (hK : e.k = 5)
    (hM : ∀ u, Below w.heap.size w u → Calls Tryz.prog 92 #[.agg #[.slice n.ao n.len n.cap, .slice g.ao g.len g.cap], .agg e.va, .agg #[.pointer (some ⟨sb, 0, none⟩), .int .i64 pc, .int .i64 hp]] u fun r w' => ((okk = true ∧ ∃ ao cap, r = .returned (.tuple #[.agg #[.int .i64 k, .int .i64 l, .slice ao 0 cap, .int .i64 0, .int .i64 0], .int .i64 x])) ∨ (okk = false ∧ r = .panicked (fault pl c))) ∧ Below u.heap.size u w') : ExprIf okk n g e sb pc hp k l' x b pl c w := by
  cases okk
  · refine if_no (expr_no n g e sb pc hp pl c w (fun u hu => rule_choice_no n g e sb pc hp pl c u hK (fun v hv => (hM v (Below.next hu hv)).mono ?_)))
    rintro r u' ⟨⟨h, _⟩ | ⟨_, h⟩, hb⟩
    · cases h
    · exact ⟨h, hb⟩
  · refine if_ok ?_
    rw [← hl']
    refine expr_ok n g e sb pc hp k l x b w hn hg hF hk hl hbe hb (fun u hu => rule_choice n g e sb pc hp k l x u hK (fun v hv => (hM v (Below.next hu hv)).mono ?_))
    rintro r u' ⟨⟨_, h⟩ | ⟨h, _⟩, hb⟩
    · exact ⟨h, hb⟩
    · cases h

theorem if_seq (okk : Bool) (n : Strs) (g : Grid) (e : Ex) (sb : Nat) (pc hp k l l' x b pl c : Int) (w : World) (hn : n.At w) (hg : g.At w) (hF : formedB n g = true) (hk : k = 1 ∨ k = 2) (hl : inR n.len l = true) (hbe : jfold n g [pc, x] = b) (hb : inR n.len b = true) (hl' : joinI n g l b = l') (hK : e.k = 17)
    (hM : ∀ u, Below w.heap.size w u → Calls Tryz.prog 103 #[.agg #[.slice n.ao n.len n.cap, .slice g.ao g.len g.cap], .agg e.va, .agg #[.pointer (some ⟨sb, 0, none⟩), .int .i64 pc, .int .i64 hp]] u fun r w' => ((okk = true ∧ ∃ ao cap, r = .returned (.tuple #[.agg #[.int .i64 k, .int .i64 l, .slice ao 0 cap, .int .i64 0, .int .i64 0], .int .i64 x])) ∨ (okk = false ∧ r = .panicked (fault pl c))) ∧ Below u.heap.size u w') : ExprIf okk n g e sb pc hp k l' x b pl c w := by
  cases okk
  · refine if_no (expr_no n g e sb pc hp pl c w (fun u hu => rule_seq_no n g e sb pc hp pl c u hK (fun v hv => (hM v (Below.next hu hv)).mono ?_)))
    rintro r u' ⟨⟨h, _⟩ | ⟨_, h⟩, hb⟩
    · cases h
    · exact ⟨h, hb⟩
  · refine if_ok ?_
    rw [← hl']
    refine expr_ok n g e sb pc hp k l x b w hn hg hF hk hl hbe hb (fun u hu => rule_seq n g e sb pc hp k l x u hK (fun v hv => (hM v (Below.next hu hv)).mono ?_))
    rintro r u' ⟨⟨_, h⟩ | ⟨h, _⟩, hb⟩
    · exact ⟨h, hb⟩
    · cases h

def sA : ByteArray := ⟨#[97]⟩
def sB : ByteArray := ⟨#[98]⟩
def nmE (s : ByteArray) : Ex := .mk 3 0 0 s ⟨#[]⟩ zT zT none 0 0 0 0 (fun _ => .dm) 0
def oneE : Ex := .mk 1 1 0 ⟨#[]⟩ ⟨#[]⟩ zT zT none 0 0 0 0 (fun _ => .dm) 0
def outE (m : Int) (B : Nat) (p : Ex) : Ex := .mk 14 m 0 ⟨#[]⟩ ⟨#[]⟩ zT zT (some ⟨B, 0, none⟩) B 0 1 1 (fun _ => p) 0
def raiseE (z : Int) (B : Nat) (p : Ex) : Ex := .mk 15 0 0 ⟨#[]⟩ ⟨#[]⟩ (leafT 1 z) zT (some ⟨B, 0, none⟩) B 0 1 1 (fun _ => p) 0
def ifE (B : Nat) (y t f : Ex) : Ex := .mk 5 0 0 ⟨#[]⟩ ⟨#[]⟩ zT zT (some ⟨B, 0, none⟩) B 0 3 3 (fun i => match i with | 0 => y | 1 => t | _ => f) 0
def seqE (B : Nat) (s t : Ex) : Ex := .mk 17 0 0 ⟨#[]⟩ ⟨#[]⟩ zT zT (some ⟨B, 0, none⟩) B 0 2 2 (fun i => match i with | 0 => s | _ => t) 0
/-- The two names. -/
def env2 (a b : Int) : List Nm := [⟨sA, 1, a⟩, ⟨sB, 2, b⟩]
/-- Where the expressions of CheckTells are judged. -/
structure En (n : Strs) (g : Grid) (a b z : Nat) (sb eb : Nat) (w : World) : Prop where
  hn : n.At w
  hg : g.At w
  hF : formedB n g = true
  sc : Sc w sb eb (env2 a b)
  ha : a < n.len
  hb : b < n.len
  hz : z < n.len
  le : ∀ c, c < n.len → Lq g z c
theorem En.kept {n : Strs} {g : Grid} {a b z sb eb : Nat} {w w' : World} (h : En n g a b z sb eb w) (hb : Below w.heap.size w w') : En n g a b z sb eb w' :=
  ⟨h.hn.kept hb, h.hg.kept hb, h.hF, h.sc.kept hb, h.ha, h.hb, h.hz, h.le⟩

section
variable {n : Strs} {g : Grid} {a b z sb eb : Nat}
theorem ex_a {w : World} (E : En n g a b z sb eb w) {p q : Nat} (hp : p < n.len) (hq : joinI n g a p = (q : Int)) (hq' : q < n.len) (hpq : Lq g p q) (hh : Int) : ExprOk n g (nmE sA) sb p hh 1 q (-1) p w := by
  have h := expr_ok n g (nmE sA) sb p hh 1 q (-1) p w E.hn E.hg E.hF (Or.inl rfl) (inR_n hq') (jf_pn E.hF hp) (inR_n hp) (fun u hu => by
    have E' := E.kept hu
    have r := rule_var n g (nmE sA) sb eb (env2 a b) p hh u E'.hn E'.hg E'.hF E'.sc (by simp [env2]) 0 ⟨sA, 1, a⟩ rfl rfl (fun j y h1 h2 => by
      match j, h1, h2 with
      | 1, _, h2 => cases h2; show (sB.toList == sA.toList) = false; decide +kernel
      | j + 2, _, h2 => simp [env2] at h2) (Or.inl rfl) (inR_n E.ha) (inR_n hp) rfl
    dsimp only at r
    rw [hq] at r
    exact r)
  rwa [ji_dn E.hF hp hq' hpq] at h
theorem ex_b {w : World} (E : En n g a b z sb eb w) (hh : Int) : ExprOk n g (nmE sB) sb z hh 2 b (-1) z w := by
  have h := expr_ok n g (nmE sB) sb z hh 2 b (-1) z w E.hn E.hg E.hF (Or.inr rfl) (inR_n E.hb) (jf_pn E.hF E.hz) (inR_n E.hz) (fun u hu => by
    have E' := E.kept hu
    have r := rule_var n g (nmE sB) sb eb (env2 a b) z hh u E'.hn E'.hg E'.hF E'.sc (by simp [env2]) 1 ⟨sB, 2, b⟩ rfl rfl (fun j y h1 h2 => by
      match j, h1, h2 with
      | j + 2, _, h2 => simp [env2] at h2) (Or.inr rfl) (inR_n E.hb) (inR_n E.hz) rfl
    dsimp only at r
    rw [ji_dn E.hF E.hz E.hb (E.le b E.hb)] at r
    exact r)
  rwa [ji_dn E.hF E.hz E.hb (E.le b E.hb)] at h
theorem ej_one {w : World} (E : En n g a b z sb eb w) {p : Nat} (hp : p < n.len) (hh : Int) : ExprOk n g oneE sb p hh 1 p (-1) p w := by
  have h := expr_ok n g oneE sb p hh 1 p (-1) p w E.hn E.hg E.hF (Or.inl rfl) (inR_n hp) (jf_pn E.hF hp) (inR_n hp) (fun u hu => rule_int n g oneE sb p hh u rfl)
  rwa [ji_self E.hF hp] at h
theorem ex_out {w : World} (E : En n g a b z sb eb w) {p q m : Nat} (hp : p < n.len) (hq : q < n.len) (hm : m < n.len) (hpq : Lq g p q) (B : Nat) (x : Ex) (he : (outE m B x).At w)
    (hP : ∀ u, Below w.heap.size w u → ExprOk n g x sb p z 1 q (-1) p u) : ExprIf (leqB n g q m) n g (outE m B x) sb p z 1 p (-1) p 0 6 w := by
  refine if_out _ n g (outE m B x) sb p z 1 p p (-1) p 0 6 w E.hn E.hg E.hF (Or.inl rfl) (inR_n hp) (jf_pn E.hF hp) (inR_n hp) (ji_self E.hF hp) rfl (fun u hu => ?_)
  have E' := E.kept hu
  have r := out_rule n g (outE m B x) sb p z q (-1) p u E'.hn E'.hg (he.kept hu) rfl (fun v hv => need_ok n g _ sb p z 1 q (-1) p v (fun t ht => hP t (Below.next (Below.next hu hv) ht)))
  change Calls _ _ _ _ (fun r w' => ((belAll n g [(q : Int), p, z] (m : Int) = true ∧ _) ∨ (belAll n g [(q : Int), p, z] (m : Int) = false ∧ _)) ∧ _) at r
  rw [bel_q E.hF hq hp E.hz hm hpq (E.le q hq)] at r
  exact r
theorem ex_cond {w : World} (E : En n g a b z sb eb w) {q m : Nat} (hq : joinI n g a b = (q : Int)) (hq' : q < n.len) (hbq : Lq g b q) (hm : m < n.len) (B C : Nat) (he : (ifE B (nmE sB) (outE m C (nmE sA)) oneE).At w) :
    ExprIf (leqB n g q m) n g (ifE B (nmE sB) (outE m C (nmE sA)) oneE) sb z z 1 b (-1) z 0 6 w := by
  refine if_choice _ n g _ sb z z 1 b b (-1) z 0 6 w E.hn E.hg E.hF (Or.inl rfl) (inR_n E.hb) (jf_pn E.hF E.hz) (inR_n E.hz) (ji_dn E.hF E.hz E.hb (E.le b E.hb)) rfl (fun u hu => ?_)
  have E' := E.kept hu
  have he' := he.kept hu
  have hB := ji_self E.hF E.hb
  have r := choice_rule (leqB n g q m) n g (ifE B (nmE sB) (outE m C (nmE sA)) oneE) sb z z b (-1) z 1 b (-1) b b (-1) b 0 6 u E'.hn E'.hg E'.hF he' rfl (Or.inl rfl) (inR_n E.hb) (inR_n E.hb) (inR_n E.hb) (by rw [hB]; exact inR_n E.hb)
    (fun v hv => need_ok n g _ sb z z 2 b (-1) z v (fun t ht => ex_b (E'.kept (Below.next hv ht)) z))
    (fun v hv => ex_out (E'.kept hv) E.hb hq' hm hbq C (nmE sA) ((he'.part (i := 1) (Nat.lt_of_sub_eq_succ rfl)).kept hv) (fun t ht => ex_a (E'.kept (Below.next hv ht)) E.hb hq hq' hbq z))
    (fun v hv => ej_one (E'.kept hv) E.hb z)
  rw [hB, hB, jf_nnn] at r
  exact r
theorem ex_raise {w : World} (E : En n g a b z sb eb w) {q : Nat} (hq : joinI n g a b = (q : Int)) (hq' : q < n.len) (hbq : Lq g b q) (B : Nat) (he : (raiseE z B (nmE sA)).At w) :
    ExprOk n g (raiseE z B (nmE sA)) sb b z 1 q q q w := by
  have h := expr_ok n g (raiseE z B (nmE sA)) sb b z 1 z q q w E.hn E.hg E.hF (Or.inl rfl) (inR_n E.hz) (jf_pq E.hF E.hb hq' hbq) (inR_n hq') (fun u hu => by
    refine rule_raising n g _ sb b z 1 z q u rfl (fun v hv => ?_)
    have E' := E.kept (Below.next hu hv)
    have r := raising_rule n g (raiseE z B (nmE sA)) sb b z q (-1) b 1 z v E'.hn E'.hg (he.kept (Below.next hu hv)) rfl rfl (fun s hs => need_ok n g _ sb b z 1 q (-1) b s (fun t ht => ex_a (E'.kept (Below.next hs ht)) E.hb hq hq' hbq z))
    rw [jf_nqp E.hF E.hb hq' hbq] at r
    exact r)
  rwa [ji_up E.hF E.hz hq' (E.le q hq')] at h
theorem ex_cond2 {w : World} (E : En n g a b z sb eb w) {q : Nat} (hq : joinI n g a b = (q : Int)) (hq' : q < n.len) (hbq : Lq g b q) (B C : Nat) (he : (ifE B (nmE sB) (raiseE z C (nmE sA)) oneE).At w) :
    ExprOk n g (ifE B (nmE sB) (raiseE z C (nmE sA)) oneE) sb z z 1 q q q w := by
  refine ok_if (pl := 0) (c := 0) (if_choice true n g _ sb z z 1 q q q q 0 0 w E.hn E.hg E.hF (Or.inl rfl) (inR_n hq') (jf_pq E.hF E.hz hq' (E.le q hq')) (inR_n hq') (ji_self E.hF hq') rfl (fun u hu => ?_))
  have E' := E.kept hu
  have he' := he.kept hu
  have hB := ji_dn E.hF E.hb hq' hbq
  have r := choice_rule true n g (ifE B (nmE sB) (raiseE z C (nmE sA)) oneE) sb z z b (-1) z 1 q q q b (-1) b 0 0 u E'.hn E'.hg E'.hF he' rfl (Or.inl rfl) (inR_n E.hb) (inR_n hq') (inR_n E.hb) (by rw [hB]; exact inR_n hq')
    (fun v hv => need_ok n g _ sb z z 2 b (-1) z v (fun t ht => ex_b (E'.kept (Below.next hv ht)) z))
    (fun v hv => if_ok (ex_raise (E'.kept hv) hq hq' hbq C ((he'.part (i := 1) (Nat.lt_of_sub_eq_succ rfl)).kept hv)))
    (fun v hv => ej_one (E'.kept hv) E.hb z)
  rw [hB, hB, jf_nqn E.hF hq'] at r
  exact r
theorem ex_later {w : World} (E : En n g a b z sb eb w) {q m : Nat} (hq : joinI n g a b = (q : Int)) (hq' : q < n.len) (hbq : Lq g b q) (hm : m < n.len) (A B C D : Nat) (he : (seqE A (ifE B (nmE sB) (raiseE z C (nmE sA)) oneE) (outE m D oneE)).At w) :
    ExprIf (leqB n g q m) n g (seqE A (ifE B (nmE sB) (raiseE z C (nmE sA)) oneE) (outE m D oneE)) sb z z 1 q q q 0 6 w := by
  refine if_seq _ n g _ sb z z 1 q q q q 0 6 w E.hn E.hg E.hF (Or.inl rfl) (inR_n hq') (jf_pq E.hF E.hz hq' (E.le q hq')) (inR_n hq') (ji_self E.hF hq') rfl (fun u hu => ?_)
  have E' := E.kept hu
  have he' := he.kept hu
  have r := seq_rule (leqB n g q m) n g (seqE A (ifE B (nmE sB) (raiseE z C (nmE sA)) oneE) (outE m D oneE)) sb z z 1 q q q 1 q (-1) q 0 6 u E'.hn E'.hg he' rfl
    (fun v hv => ex_cond2 (E'.kept hv) hq hq' hbq B C ((he'.part (i := 0) (Nat.lt_of_sub_eq_succ rfl)).kept hv))
    (fun v hv => ex_out (E'.kept hv) hq' hq' hm (lq_refl E.hF hq') D oneE ((he'.part (i := 1) (Nat.lt_of_sub_eq_succ rfl)).kept hv) (fun t ht => ej_one (E'.kept (Below.next hv ht)) hq' z))
  rw [jf_pn E.hF hq'] at r
  exact r
end
end Go.Proofs.YtepgdkigncjalaaGreat

/- Layer 7: the expressions of CheckTells lie and are formed; Judge at them. -/
namespace Go.Proofs.YtepgdkigncjalaaGreat
open Go Go.RowKit

/-- It lies, in blocks without marks. -/
def Lie (w : World) (e : Ex) : Prop := e.At w ∧ e.Pl w
theorem Lie.kept {w w' : World} {e : Ex} (h : Lie w e) (hb : Below w.heap.size w w') : Lie w' e := ⟨h.1.kept hb, h.2.kept hb⟩
theorem range_mid {w : World} {B : Nat} (pre vs post : List Value) (h : w.rangeAt B 0 (pre ++ vs ++ post)) : w.rangeAt B pre.length vs := fun j v hv => by
  have hj : j < vs.length := by
    rcases Nat.lt_or_ge j vs.length with h1 | h1
    · exact h1
    · rw [List.getElem?_eq_none h1] at hv; cases hv
  have := h (pre.length + j) v (by rw [List.append_assoc, List.getElem?_append_right (by omega), Nat.add_sub_cancel_left, List.getElem?_append_left hj]; exact hv)
  rwa [Nat.zero_add] at this
theorem lie_nm (w : World) (s : ByteArray) (hs : s.size ≤ 1000) : Lie w (nmE s) :=
  ⟨⟨⟨by omega, by decide⟩, ⟨zT_at _, zT_at _⟩, fun h => absurd h (Nat.lt_irrefl 0), by decide, fun i h => absurd h (Nat.not_lt_zero _)⟩, fun h => absurd h (Nat.lt_irrefl 0), fun i h => absurd h (Nat.not_lt_zero _)⟩
theorem lie_one (w : World) : Lie w oneE :=
  ⟨⟨⟨by decide, by decide⟩, ⟨zT_at _, zT_at _⟩, fun h => absurd h (Nat.lt_irrefl 0), by decide, fun i h => absurd h (Nat.not_lt_zero _)⟩, fun h => absurd h (Nat.lt_irrefl 0), fun i h => absurd h (Nat.not_lt_zero _)⟩
theorem lie_out {w : World} {m : Int} {B : Nat} {x : Ex} (h : Blk w B x.vs 37) (hx : Lie w x) : Lie w (outE m B x) :=
  ⟨⟨⟨by decide, by decide⟩, ⟨zT_at _, zT_at _⟩, fun _ => rfl, by decide, fun i hi => by
    have : i = 0 := by omega
    subst this
    exact ⟨C17.of_range h.range, hx.1⟩⟩, fun _ => h.plain, fun _ _ => hx.2⟩
theorem lie_raise {w : World} {z : Int} {B : Nat} {x : Ex} (h : Blk w B x.vs 37) (hx : Lie w x) : Lie w (raiseE z B x) :=
  ⟨⟨⟨by decide, by decide⟩, ⟨leaf_at _ _ _, zT_at _⟩, fun _ => rfl, by decide, fun i hi => by
    have : i = 0 := by omega
    subst this
    exact ⟨C17.of_range h.range, hx.1⟩⟩, fun _ => h.plain, fun _ _ => hx.2⟩
theorem lie_if {w : World} {B : Nat} {y t f : Ex} (h : Blk w B (y.vs ++ t.vs ++ f.vs) 37) (hy : Lie w y) (ht : Lie w t) (hf : Lie w f) : Lie w (ifE B y t f) :=
  ⟨⟨⟨by decide, by decide⟩, ⟨zT_at _, zT_at _⟩, fun _ => rfl, by decide, fun i hi => by
    match i, hi with
    | 0, _ => exact ⟨C17.of_range (range_mid [] y.vs (t.vs ++ f.vs) (by rw [List.nil_append, ← List.append_assoc]; exact h.range)), hy.1⟩
    | 1, _ => exact ⟨C17.of_range (range_mid y.vs t.vs f.vs h.range), ht.1⟩
    | 2, _ => exact ⟨C17.of_range (range_mid (y.vs ++ t.vs) f.vs [] (by rw [List.append_nil]; exact h.range)), hf.1⟩⟩, fun _ => h.plain, fun i hi => by
    match i, hi with
    | 0, _ => exact hy.2
    | 1, _ => exact ht.2
    | 2, _ => exact hf.2⟩
theorem lie_seq {w : World} {B : Nat} {s t : Ex} (h : Blk w B (s.vs ++ t.vs) 37) (hs : Lie w s) (ht : Lie w t) : Lie w (seqE B s t) :=
  ⟨⟨⟨by decide, by decide⟩, ⟨zT_at _, zT_at _⟩, fun _ => rfl, by decide, fun i hi => by
    match i, hi with
    | 0, _ => exact ⟨C17.of_range (range_mid [] s.vs t.vs (by rw [List.nil_append]; exact h.range)), hs.1⟩
    | 1, _ => exact ⟨C17.of_range (range_mid s.vs t.vs [] (by rw [List.append_nil]; exact h.range)), ht.1⟩⟩, fun _ => h.plain, fun i hi => by
    match i, hi with
    | 0, _ => exact hs.2
    | 1, _ => exact ht.2⟩

/-- A node is formed, wherever the lattice lies. -/
def Nf (n : Strs) (g : Grid) (y : Ex) : Prop := ∀ u, n.At u → g.At u → Yes 60 #[.agg #[.slice n.ao n.len n.cap, .slice g.ao g.len g.cap], .agg y.va] u (.bool true)
theorem nf_nm (n : Strs) (g : Grid) (s : ByteArray) (h1 : nameB s = true) (h2 : kwB' s = false) : Nf n g (nmE s) := fun u hn hg =>
  nodeFormed_yes n g (nmE s) u (by show ((3 : Int) == 6) = false; decide) rfl rfl rfl true false (fun v => arity_3 v) (fun v _ => numberFormed_3 n g _ v rfl rfl) (fun v => hasName_3 v) (fun v => nameFormed_yes s v h1 h2) (fun v => hasType_3 v) (fun v _ => typeFormed_no n g v)
theorem nf_one (n : Strs) (g : Grid) : Nf n g oneE := fun u hn hg =>
  nodeFormed_yes n g oneE u (by show ((1 : Int) == 6) = false; decide) rfl rfl rfl false false (fun v => arity_1 v) (fun v _ => numberFormed_1 n g _ v rfl (by decide)) (fun v => hasName_1 v) (fun v => nameFormed_no v) (fun v => hasType_1 v) (fun v _ => typeFormed_no n g v)
theorem nf_out (n : Strs) (g : Grid) {m : Nat} (hm : m < n.len) (B : Nat) (x : Ex) : Nf n g (outE m B x) := fun u hn hg =>
  nodeFormed_yes n g (outE m B x) u (by show ((14 : Int) == 6) = false; decide) rfl rfl rfl false false (fun v => arity_14 v) (fun v hv => numberFormed_14 n g (outE m B x) v rfl (hn.kept hv) (by show (0 : Int) ≤ m; omega) (by show (m : Int) < n.len; omega)) (fun v => hasName_14 v) (fun v => nameFormed_no v) (fun v => hasType_14 v) (fun v _ => typeFormed_no n g v)
theorem nf_if (n : Strs) (g : Grid) (B : Nat) (y t f : Ex) : Nf n g (ifE B y t f) := fun u hn hg =>
  nodeFormed_yes n g (ifE B y t f) u (by show ((5 : Int) == 6) = false; decide) rfl rfl rfl false false (fun v => arity_5 v) (fun v _ => numberFormed_5 n g _ v rfl rfl) (fun v => hasName_5 v) (fun v => nameFormed_no v) (fun v => hasType_5 v) (fun v _ => typeFormed_no n g v)
theorem nf_seq (n : Strs) (g : Grid) (B : Nat) (s t : Ex) : Nf n g (seqE B s t) := fun u hn hg =>
  nodeFormed_yes n g (seqE B s t) u (by show ((17 : Int) == 6) = false; decide) rfl rfl rfl false false (fun v => arity_17 v) (fun v _ => numberFormed_17 n g _ v rfl rfl) (fun v => hasName_17 v) (fun v => nameFormed_no v) (fun v => hasType_17 v) (fun v _ => typeFormed_no n g v)
theorem nf_raise (n : Strs) (g : Grid) (hF : formedB n g = true) {z : Nat} (hz : z < n.len) (B : Nat) (x : Ex) : Nf n g (raiseE z B x) := fun u hn hg =>
  nodeFormed_yes n g (raiseE z B x) u (by show ((15 : Int) == 6) = false; decide) rfl rfl rfl false true (fun v => arity_15 v) (fun v _ => numberFormed_15 n g _ v rfl rfl) (fun v => hasName_15 v) (fun v => nameFormed_no v) (fun v => hasType_15 v) (fun v hv => typeFormed_yes n g (leafT 1 z) v (hn.kept hv) (hg.kept hv) (leaf_at _ _ _) (leaf_okB hF (Or.inl rfl) (inR_n hz)))
theorem all_nm {Q : Ex → Prop} {s : ByteArray} (h : Q (nmE s)) : (nmE s).all Q := ⟨h, fun _ hi => absurd hi (Nat.not_lt_zero _)⟩
theorem all_one {Q : Ex → Prop} (h : Q oneE) : oneE.all Q := ⟨h, fun _ hi => absurd hi (Nat.not_lt_zero _)⟩
theorem all_out {Q : Ex → Prop} {m : Int} {B : Nat} {x : Ex} (h : Q (outE m B x)) (hx : x.all Q) : (outE m B x).all Q := ⟨h, fun _ _ => hx⟩
theorem all_raise {Q : Ex → Prop} {z : Int} {B : Nat} {x : Ex} (h : Q (raiseE z B x)) (hx : x.all Q) : (raiseE z B x).all Q := ⟨h, fun _ _ => hx⟩
theorem all_if {Q : Ex → Prop} {B : Nat} {y t f : Ex} (h : Q (ifE B y t f)) (hy : y.all Q) (ht : t.all Q) (hf : f.all Q) : (ifE B y t f).all Q := ⟨h, fun i hi => by
  match i, hi with
  | 0, _ => exact hy
  | 1, _ => exact ht
  | 2, _ => exact hf⟩
theorem all_seq {Q : Ex → Prop} {B : Nat} {s t : Ex} (h : Q (seqE B s t)) (hs : s.all Q) (ht : t.all Q) : (seqE B s t).all Q := ⟨h, fun i hi => by
  match i, hi with
  | 0, _ => exact hs
  | 1, _ => exact ht⟩
theorem sA_nm : nameB sA = true := by decide +kernel
theorem sB_nm : nameB sB = true := by decide +kernel
theorem sA_kw : kwB' sA = false := by decide +kernel
theorem sB_kw : kwB' sB = false := by decide +kernel

/-- Where CheckTells asks Judge. -/
structure Ev (n : Strs) (g : Grid) (a b z : Nat) (eb : Nat) (w : World) : Prop where
  hn : n.At w
  hg : g.At w
  hF : formedB n g = true
  ev : Blk w eb (evL (env2 a b)) 47
  ha : a < n.len
  hb : b < n.len
  hz : z < n.len
  le : ∀ c, c < n.len → Lq g z c
theorem Ev.kept {n : Strs} {g : Grid} {a b z eb : Nat} {w w' : World} (h : Ev n g a b z eb w) (hb : Below w.heap.size w w') : Ev n g a b z eb w' :=
  ⟨h.hn.kept hb, h.hg.kept hb, h.hF, h.ev.kept hb, h.ha, h.hb, h.hz, h.le⟩
theorem Ev.en {n : Strs} {g : Grid} {a b z eb sb : Nat} {w u : World} (h : Ev n g a b z eb w) (hb : Below w.heap.size w u) (hs : Sc u sb eb (env2 a b)) : En n g a b z sb eb u :=
  ⟨h.hn.kept hb, h.hg.kept hb, h.hF, hs, h.ha, h.hb, h.hz, h.le⟩
/-- What Judge answers there. -/
def JAns (okk : Bool) (n : Strs) (g : Grid) (eb z : Nat) (e : Ex) (l x : Int) (w : World) : Prop :=
  Calls Tryz.prog 8 #[.agg #[.slice n.ao n.len n.cap, .slice g.ao g.len g.cap], .slice (some ⟨eb, 0, none⟩) 2 2, .int .i64 z, .int .i64 z, .agg e.va] w fun r w' => ((okk = true ∧ ∃ ao cap, r = .returned (.tuple #[.agg #[.int .i64 1, .int .i64 l, .slice ao 0 cap, .int .i64 0, .int .i64 0], .int .i64 x, .int .i64 0, .int .i64 0])) ∨ (okk = false ∧ r = .returned (.tuple #[.agg #[.int .i64 0, .int .i64 0, .slice none 0 0, .int .i64 0, .int .i64 0], .int .i64 (-1), .int .i64 0, .int .i64 6]))) ∧ Below w.heap.size w w'
section
variable {n : Strs} {g : Grid} {a b z eb : Nat}
theorem j_ans {w : World} (okk : Bool) (E : Ev n g a b z eb w) (e : Ex) (l x bb : Int) (hL : Lie w e) (f7 : e.nodes ≤ 2000) (f8 : e.nest ≤ 30) (ha : e.all (Nf n g))
    (hR : ∀ sb u, Below w.heap.size w u → En n g a b z sb eb u → ExprIf okk n g e sb z z 1 l x bb 0 6 u) : JAns okk n g eb z e l x w := by
  have hzz : leqB n g z z = true := by rw [leqB_nat E.hF E.hz E.hz]; exact lq_refl E.hF E.hz
  exact Judge_if okk n g e eb (env2 a b) z z 1 l x bb 0 6 w E.hn E.hg hL.1 hL.2 E.hF f7 f8 (Nf n g) (fun y hy u _ hb => hy u (E.hn.kept hb) (E.hg.kept hb)) ha hzz hzz E.ev (by simp [env2]) (fun x hx => by
    have : x = ⟨sA, 1, a⟩ ∨ x = ⟨sB, 2, b⟩ := by simpa [env2] using hx
    rcases this with rfl | rfl
    · exact ⟨Or.inl rfl, inR_n E.ha⟩
    · exact ⟨Or.inr rfl, inR_n E.hb⟩) (fun sb u hu hS => hR sb u hu (E.en hu hS))
theorem j_out {w : World} (E : Ev n g a b z eb w) {m B : Nat} (hm : m < n.len) (hL : Lie w (outE m B (nmE sA))) : JAns (leqB n g a m) n g eb z (outE m B (nmE sA)) z (-1) w :=
  j_ans _ E _ z (-1) z hL (by show (2 : Nat) ≤ 2000; decide) (by show (2 : Nat) ≤ 30; decide) (all_out (nf_out n g hm B _) (all_nm (nf_nm n g _ sA_nm sA_kw)))
    (fun sb u hu E' => ex_out E' E.hz E.ha hm (E.le a E.ha) B (nmE sA) (hL.1.kept hu) (fun v hv => ex_a (E'.kept hv) E.hz (ji_dn E.hF E.hz E.ha (E.le a E.ha)) E.ha (E.le a E.ha) z))
theorem j_cond {w : World} (E : Ev n g a b z eb w) {q m B C : Nat} (hq : joinI n g a b = (q : Int)) (hq' : q < n.len) (hbq : Lq g b q) (hm : m < n.len) (hL : Lie w (ifE B (nmE sB) (outE m C (nmE sA)) oneE)) : JAns (leqB n g q m) n g eb z (ifE B (nmE sB) (outE m C (nmE sA)) oneE) b (-1) w :=
  j_ans _ E _ b (-1) z hL (by show (5 : Nat) ≤ 2000; decide) (by show (3 : Nat) ≤ 30; decide) (all_if (nf_if n g B _ _ _) (all_nm (nf_nm n g _ sB_nm sB_kw)) (all_out (nf_out n g hm C _) (all_nm (nf_nm n g _ sA_nm sA_kw))) (all_one (nf_one n g)))
    (fun sb u hu E' => ex_cond E' hq hq' hbq hm B C (hL.1.kept hu))
theorem j_cond2 {w : World} (E : Ev n g a b z eb w) {q B C : Nat} (hq : joinI n g a b = (q : Int)) (hq' : q < n.len) (hbq : Lq g b q) (hL : Lie w (ifE B (nmE sB) (raiseE z C (nmE sA)) oneE)) : JAns true n g eb z (ifE B (nmE sB) (raiseE z C (nmE sA)) oneE) q q w :=
  j_ans _ E _ q q q hL (by show (5 : Nat) ≤ 2000; decide) (by show (3 : Nat) ≤ 30; decide) (all_if (nf_if n g B _ _ _) (all_nm (nf_nm n g _ sB_nm sB_kw)) (all_raise (nf_raise n g E.hF E.hz C _) (all_nm (nf_nm n g _ sA_nm sA_kw))) (all_one (nf_one n g)))
    (fun sb u hu E' => if_ok (ex_cond2 E' hq hq' hbq B C (hL.1.kept hu)))
theorem j_later {w : World} (E : Ev n g a b z eb w) {q m A B C D : Nat} (hq : joinI n g a b = (q : Int)) (hq' : q < n.len) (hbq : Lq g b q) (hm : m < n.len) (hL : Lie w (seqE A (ifE B (nmE sB) (raiseE z C (nmE sA)) oneE) (outE m D oneE))) : JAns (leqB n g q m) n g eb z (seqE A (ifE B (nmE sB) (raiseE z C (nmE sA)) oneE) (outE m D oneE)) q q w :=
  j_ans _ E _ q q q hL (by show (8 : Nat) ≤ 2000; decide) (by show (4 : Nat) ≤ 30; decide) (all_seq (nf_seq n g A _ _) (all_if (nf_if n g B _ _ _) (all_nm (nf_nm n g _ sB_nm sB_kw)) (all_raise (nf_raise n g E.hF E.hz C _) (all_nm (nf_nm n g _ sA_nm sA_kw))) (all_one (nf_one n g))) (all_out (nf_out n g hm D _) (all_one (nf_one n g))))
    (fun sb u hu E' => ex_later E' hq hq' hbq hm A B C D (hL.1.kept hu))
end
end Go.Proofs.YtepgdkigncjalaaGreat

/- Layer 7: awake. -/
namespace Go.Proofs.YtepgdkigncjalaaGreat
open Go Go.RowKit

def sX : ByteArray := ⟨#[120]⟩
theorem run_build_nm (s : ByteArray) (w : World) : (Instr.build 37 #[(0, .int .i64 3), (3, .string s)]).run Tryz.prog w = .ok (.agg (nmE s).va) w := by kernel_rfl
theorem j_x (n : Strs) (g : Grid) (eb : Nat) (w : World) (hL : Lt2 n g w) (hE : Blk w eb (evL [⟨sX, 1, 1⟩]) 47) :
    Calls Tryz.prog 8 #[.agg #[.slice n.ao n.len n.cap, .slice g.ao g.len g.cap], .slice (some ⟨eb, 0, none⟩) 1 1, .int .i64 0, .int .i64 0, .agg (nmE sX).va] w fun r w' => (∃ ao cap, r = .returned (.tuple #[.agg #[.int .i64 1, .int .i64 1, .slice ao 0 cap, .int .i64 0, .int .i64 0], .int .i64 (-1), .int .i64 0, .int .i64 0])) ∧ Below w.heap.size w w' := by
  have h0 : 0 < n.len := by rw [hL.two]; decide
  have h1 : 1 < n.len := by rw [hL.two]; decide
  have hzz : leqB n g 0 0 = true := by have := leqB_nat hL.fd h0 h0; rw [show g.B 0 0 = true from lq_refl hL.fd h0] at this; exact this
  have h10 : joinI n g 1 0 = 1 := ji_dn (a := 0) (b := 1) hL.fd h0 h1 hL.le
  have hj : jfold n g [0, -1] = 0 := jf_pn (p := 0) hL.fd h0
  have i0 : inR n.len 0 = true := inR_n (a := 0) h0
  have i1 : inR n.len 1 = true := inR_n (a := 1) h1
  refine (Judge_if true n g (nmE sX) eb [⟨sX, 1, 1⟩] 0 0 1 1 (-1) 0 0 0 w hL.nat hL.gat (lie_nm w sX (by decide)).1 (lie_nm w sX (by decide)).2 hL.fd (by show (1 : Nat) ≤ 2000; decide) (by show (1 : Nat) ≤ 30; decide) (Nf n g) (fun y hy u _ hb => hy u (hL.nat.kept hb) (hL.gat.kept hb)) (all_nm (nf_nm n g sX (by decide +kernel) (by decide +kernel))) hzz hzz hE (by simp) (fun x hx => by
    have : x = ⟨sX, 1, 1⟩ := by simpa using hx
    subst this
    exact ⟨Or.inl rfl, i1⟩) (fun sb u hu hS => if_ok (by
      have h := expr_ok n g (nmE sX) sb 0 0 1 1 (-1) 0 u (hL.nat.kept hu) (hL.gat.kept hu) hL.fd (Or.inl rfl) i1 hj i0 (fun v hv => by
        have r := rule_var n g (nmE sX) sb eb [⟨sX, 1, 1⟩] 0 0 v (hL.nat.kept (Below.next hu hv)) (hL.gat.kept (Below.next hu hv)) hL.fd (hS.kept hv) (by simp) 0 ⟨sX, 1, 1⟩ rfl rfl (fun j y h1 h2 => by
          match j, h1, h2 with
          | j + 1, _, h2 => simp at h2) (Or.inl rfl) i1 i0 rfl
        dsimp only at r
        rw [h10] at r
        exact r)
      rwa [h10] at h))).mono ?_
  rintro r w' ⟨⟨_, h⟩ | ⟨h, _⟩, hb⟩
  · exact ⟨h, hb⟩
  · cases h
theorem Lt2.kept {n : Strs} {g : Grid} {w w' : World} (h : Lt2 n g w) (hb : Below w.heap.size w w') : Lt2 n g w' := ⟨h.nat.kept hb, h.gat.kept hb, h.fd, h.two, h.le, h.rows⟩
set_option maxRecDepth 100000 in
set_option maxHeartbeats 4000000 in
theorem awake7_any (w : World) : Calls Tryz.prog 6 #[] w fun e w' => e = .returned (.bool true) ∧ Below w.heap.size w w' := by
  have hm := two_make w
  go_enter Tryz.func6, Tryz.ntmps6
  go_wp2_with fail
  refine hm.mono ?_
  rintro _ w1 ⟨n, g, rfl, hL, hb1⟩
  have H := allocs_heap [.cells #[.slice n.ao n.len n.cap, .slice g.ao g.len g.cap] 25, .cells #[.string ⟨#[120]⟩, .int .i64 1, .int .i64 1, .slice none 0 0, .int .i64 0, .int .i64 0] 47] w1
  have B0 := allocs_below [.cells #[.slice n.ao n.len n.cap, .slice g.ao g.len g.cap] 25, .cells #[.string ⟨#[120]⟩, .int .i64 1, .int .i64 1, .slice none 0 0, .int .i64 0, .int .i64 0] 47] w1
  simp only [List.foldl] at H B0
  have bE : Blk _ (w1.heap.size + 1) (evL [⟨sX, 1, 1⟩]) 47 := H 1 (by simp)
  have a0 : (w1.alloc (.cells #[.slice n.ao n.len n.cap, .slice g.ao g.len g.cap] 25)).cell? ⟨w1.heap.size, 0, none⟩ = some (.slice n.ao n.len n.cap) := by simp
  have a1 : (w1.alloc (.cells #[.slice n.ao n.len n.cap, .slice g.ao g.len g.cap] 25)).cell? ⟨w1.heap.size, 1, none⟩ = some (.slice g.ao g.len g.cap) := by simp
  have hJ := j_x n g (w1.heap.size + 1) _ (hL.kept B0) bE
  have B1 := hb1.trans (B0.mono hb1.size)
  clear H bE hL hm B0
  go_wp2_with (refine wpList_build rfl 37 #[(0, .const (.int .i64 3)), (3, .const (.string ⟨#[120]⟩))] rfl _ (by kernel_rfl) (run_build_nm sX _) ?_)
  refine hJ.mono ?_
  rintro _ w3 ⟨⟨ao, cap, rfl⟩, hb3⟩
  have B3 := Below.next B1 hb3
  clear hJ a0 a1
  go_wp2
  go_ret
  exact ⟨rfl, Below.next B3 (below_alloc _ _)⟩
end Go.Proofs.YtepgdkigncjalaaGreat

/- Layer 7: what the walk of the statement CheckTells wants. -/
namespace Go.Proofs.YtepgdkigncjalaaGreat
open Go Go.RowKit

theorem run_build_one (w : World) : (Instr.build 37 #[(0, .int .i64 1), (1, .int .i64 1)]).run Tryz.prog w = .ok (.agg oneE.va) w := by kernel_rfl
theorem run_build_out (m : Int) (B : Nat) (x : Ex) (w : World) : (Instr.build 37 #[(0, .int .i64 14), (1, .int .i64 m), (7, .slice (some ⟨B, 0, none⟩) 1 1)]).run Tryz.prog w = .ok (.agg (outE m B x).va) w := by kernel_rfl
theorem run_build_if (B : Nat) (y t f : Ex) (w : World) : (Instr.build 37 #[(0, .int .i64 5), (7, .slice (some ⟨B, 0, none⟩) 3 3)]).run Tryz.prog w = .ok (.agg (ifE B y t f).va) w := by kernel_rfl
theorem run_build_raise (z : Int) (B : Nat) (x : Ex) (w : World) : (Instr.build 37 #[(0, .int .i64 15), (5, .agg #[.int .i64 1, .int .i64 z, .slice none 0 0, .int .i64 0, .int .i64 0]), (7, .slice (some ⟨B, 0, none⟩) 1 1)]).run Tryz.prog w = .ok (.agg (raiseE z B x).va) w := by kernel_rfl
theorem run_build_seq (B : Nat) (s t : Ex) (w : World) : (Instr.build 37 #[(0, .int .i64 17), (7, .slice (some ⟨B, 0, none⟩) 2 2)]).run Tryz.prog w = .ok (.agg (seqE B s t).va) w := by kernel_rfl

section
variable {ops : Array Oper} {rest : List Oper} {o o1 o2 : Oper} {a : Act} {w : World} {Q : Exit → Act → World → Prop}
theorem new_ex (hg1 : o1.guard = none) (hg2 : o2.guard = none) (h1 : o1.op = .alloc 37) (x y : Operand) (h2 : o2.op = .store 37 x y) (hd2 : o2.dst = none)
    (hx : (a.put o1.dst (.pointer (some ⟨w.heap.size, 0, none⟩))).eval x = .pointer (some ⟨w.heap.size, 0, none⟩)) (e : Ex) (hy : (a.put o1.dst (.pointer (some ⟨w.heap.size, 0, none⟩))).eval y = .agg e.va)
    (h : ∀ w', Blk w' w.heap.size e.vs 37 → Below w.heap.size w w' → wpList Tryz.prog ops Q rest (a.put o1.dst (.pointer (some ⟨w.heap.size, 0, none⟩))) w') : wpList Tryz.prog ops Q (o1 :: o2 :: rest) a w :=
  wpList_new_ex hg1 hg2 h1 x y h2 hd2 hx e hy (h _ (Blk.new _ _ _) (below_alloc _ _))
theorem new_slice1 (hgd : o.guard = none) (x : Operand) (ho : o.op = .buildSlice 35 1 #[(0, x)]) (t : Ex) (hv : (#[(0, x)].map fun (i, x) => (i, a.eval x)) = #[(0, .agg t.va)])
    (h : ∀ w', Blk w' w.heap.size t.vs 37 → Below w.heap.size w w' → wpList Tryz.prog ops Q rest (a.put o.dst (.slice (some ⟨w.heap.size, 0, none⟩) 1 1)) w') : wpList Tryz.prog ops Q (o :: rest) a w :=
  wpList_slice hgd 35 1 _ ho _ hv (run_slice1_ex t w) (h _ (Blk.new _ _ _) (below_alloc _ _))
theorem new_slice2 (hgd : o.guard = none) (x y : Operand) (ho : o.op = .buildSlice 35 2 #[(0, x), (1, y)]) (s t : Ex) (hv : (#[(0, x), (1, y)].map fun (i, x) => (i, a.eval x)) = #[(0, .agg s.va), (1, .agg t.va)])
    (h : ∀ w', Blk w' w.heap.size (s.vs ++ t.vs) 37 → Below w.heap.size w w' → wpList Tryz.prog ops Q rest (a.put o.dst (.slice (some ⟨w.heap.size, 0, none⟩) 2 2)) w') : wpList Tryz.prog ops Q (o :: rest) a w :=
  wpList_slice hgd 35 2 _ ho _ hv (run_slice2_ex s t w) (h _ (by rw [show s.va ++ t.va = (s.vs ++ t.vs).toArray by unfold Ex.va; simp]; exact Blk.new _ _ _) (below_alloc _ _))
theorem new_slice3 (hgd : o.guard = none) (x y z : Operand) (ho : o.op = .buildSlice 35 3 #[(0, x), (1, y), (2, z)]) (r s t : Ex) (hv : (#[(0, x), (1, y), (2, z)].map fun (i, x) => (i, a.eval x)) = #[(0, .agg r.va), (1, .agg s.va), (2, .agg t.va)])
    (h : ∀ w', Blk w' w.heap.size (r.vs ++ s.vs ++ t.vs) 37 → Below w.heap.size w w' → wpList Tryz.prog ops Q rest (a.put o.dst (.slice (some ⟨w.heap.size, 0, none⟩) 3 3)) w') : wpList Tryz.prog ops Q (o :: rest) a w :=
  wpList_slice hgd 35 3 _ ho _ hv (run_slice3_ex r s t w) (h _ (by rw [show r.va ++ s.va ++ t.va = (r.vs ++ s.vs ++ t.vs).toArray by unfold Ex.va; simp]; exact Blk.new _ _ _) (below_alloc _ _))
end
theorem lab_n {n : Strs} {a : Int} (h : labB n a = true) : ∃ k : Nat, a = (k : Int) ∧ k < n.len := by
  unfold labB at h
  simp only [Bool.and_eq_true, decide_eq_true_eq] at h
  exact ⟨a.toNat, by omega, by omega⟩
theorem JAns.one {okk : Bool} {n : Strs} {g : Grid} {eb z : Nat} {e : Ex} {l x : Int} {w : World} (h : JAns okk n g eb z e l x w) :
    Calls Tryz.prog 8 #[.agg #[.slice n.ao n.len n.cap, .slice g.ao g.len g.cap], .slice (some ⟨eb, 0, none⟩) 2 2, .int .i64 z, .int .i64 z, .agg e.va] w fun r w' => ∃ (k l' : Int) (ao : Option Addr) (cap : Nat) (x' pl c : Int), r = .returned (.tuple #[.agg #[.int .i64 k, .int .i64 l', .slice ao 0 cap, .int .i64 0, .int .i64 0], .int .i64 x', .int .i64 pl, .int .i64 c]) ∧ (c == 0) = okk ∧ (okk = true → l' = l ∧ x' = x) ∧ Below w.heap.size w w' := by
  refine h.mono ?_
  rintro r w' ⟨⟨rfl, ao, cap, rfl⟩ | ⟨rfl, rfl⟩, hb⟩
  · exact ⟨_, _, _, _, _, _, _, rfl, rfl, fun _ => ⟨rfl, rfl⟩, hb⟩
  · exact ⟨_, _, _, _, _, _, _, rfl, rfl, fun h => (by cases h), hb⟩
/-- The variables of the statement, first half. -/
structure S9 (n : Strs) (g : Grid) (a b m : Nat) (L E X Y O S U T C : Nat) (u : World) : Prop where
  l : Blk u L [.slice n.ao n.len n.cap, .slice g.ao g.len g.cap] 25
  e : Blk u E (evL (env2 a b)) 47
  x : Blk u X (nmE sA).vs 37
  y : Blk u Y (nmE sB).vs 37
  o : Blk u O oneE.vs 37
  s : Blk u S (nmE sA).vs 37
  v : Blk u U (outE m S (nmE sA)).vs 37
  t : Blk u T ((nmE sB).vs ++ (outE m S (nmE sA)).vs ++ oneE.vs) 37
  c : Blk u C (ifE T (nmE sB) (outE m S (nmE sA)) oneE).vs 37
theorem S9.kept {n : Strs} {g : Grid} {a b m L E X Y O S U T C : Nat} {u u' : World} (h : S9 n g a b m L E X Y O S U T C u) (hb : Below u.heap.size u u') : S9 n g a b m L E X Y O S U T C u' :=
  ⟨h.l.kept hb, h.e.kept hb, h.x.kept hb, h.y.kept hb, h.o.kept hb, h.s.kept hb, h.v.kept hb, h.t.kept hb, h.c.kept hb⟩

end Go.Proofs.YtepgdkigncjalaaGreat
