/- Layer 10: what straight nodes do over leaves. -/
import Derived.Test.YtbdhbgilaeldgaaGreatP27
namespace Go.Proofs.YtbdhbgilaeldgaaGreat
open Go Go.RowKit

structure Lf (j : Jd) (L : Nat → Nat) (bt : Nat) : Prop where
  F : formedB j.n j.g = true
  bot : j.bot = (bt : Int)
  lt : bt < j.n.len
  low : ∀ c, c < j.n.len → j.g.B bt c = true
  sl : ∀ i, i < j.f.slots.len → j.f.slots.ps i = leafT 1 (L i : Nat)
  ll : ∀ i, i < j.f.slots.len → L i < j.n.len
section
variable {j : Jd} {L : Nat → Nat} {bt : Nat} {w : World} {nd : Nd}
theorem Lf.read (h : Lf j L bt) {a e : Nat} (ha : a < j.f.slots.len) (he : e < j.n.len) (hn : nd.h.env = e) : j.read nd a = leafT 1 (Jn j.g (L a) e : Nat) := by
  unfold Jd.read
  rw [Int.toNat_natCast, h.sl a ha, hn, raise_leaf h.F (h.ll a ha) he]
theorem Lf.bothx (h : Lf j L bt) {x : Int} (hx : x = -1 ∨ ∃ m : Nat, x = m ∧ m < j.n.len) : bothI j.n j.g x (-1) = x := by
  rcases hx with rfl | ⟨m, rfl, hm⟩
  · exact bothI_nn
  · exact bothI_none h.F hm
/-- What make does where the type made is a leaf and there is no K. -/
theorem Lf.make (h : Lf j L bt) {d e t m : Nat} {x : Int} {S : Nat → Bool} (hd : d < j.f.slots.len) (he : e < j.n.len) (ht : t < j.n.len) (hm : m < j.n.len) (hx : x = -1 ∨ ∃ m : Nat, x = m ∧ m < j.n.len) (h1 : nd.h.dst = d) (h2 : nd.h.env = e) (hk : j.makes nd = (leafT 1 (m : Nat), -1)) (hb : j.g.B (Jn j.g m e) (L d) = true) :
    j.make nd ⟨t, x, S, false⟩ = some ⟨t, x, upd S d, false⟩ := by
  unfold Jd.make
  rw [hk]
  show (if belB j.n j.g (raiseT j.n j.g (leafT 1 (m : Nat)) (bothI j.n j.g nd.h.env (-1))) (j.f.slots.ps nd.h.dst.toNat) = true then some (⟨bothI j.n j.g t (-1), bothI j.n j.g x (-1), upd S nd.h.dst.toNat, false⟩ : Sta) else none) = _
  rw [h1, h2, Int.toNat_natCast, bothI_none h.F he, raise_leaf h.F hm he, h.sl d hd, bel_leaf h.F (jn_lt h.F hm he) (h.ll d hd), hb, if_pos rfl, bothI_none h.F ht, h.bothx hx]
theorem pre_eq (s : Sta) (hg : s.gone = false) : j.pre nd s = (leqB j.n j.g s.at_ nd.h.env && nd.h.rds.all (fun i => s.set i.toNat)) := by unfold Jd.pre; rw [hg]; rfl
theorem Lf.run1 (h : Lf j L bt) (hA : nd.At w) {d e t : Nat} {x : Int} {S : Nat → Bool} (hop : nd.h.op = 1) (hd : d < j.f.slots.len) (he : e < j.n.len) (ht : t < j.n.len) (hx : x = -1 ∨ ∃ m : Nat, x = m ∧ m < j.n.len) (h1 : nd.h.dst = d) (h2 : nd.h.env = e) (hte : j.g.B t e = true) (hb : j.g.B e (L d) = true) :
    nd.run j ⟨t, x, S, false⟩ = some ⟨t, x, upd S d, false⟩ := by
  rw [run_mk hA _ (by omega), pre_eq _ rfl, rds0 (by omega) (by omega) (by omega), h2, leqB_nat h.F ht he, hte]
  show (if (true && true) = false then none else _) = _
  rw [if_neg (by simp)]
  refine h.make hd he ht h.lt hx h1 h2 ?_ ?_
  · unfold Jd.makes; rw [if_pos hop, h.bot]
  · rw [jn_le h.F h.lt he (h.low e he)]; exact hb
theorem Lf.run1_no (h : Lf j L bt) (hA : nd.At w) {e t : Nat} {x : Int} {S : Nat → Bool} (hop : nd.h.op = 1) (he : e < j.n.len) (ht : t < j.n.len) (h2 : nd.h.env = e) (hte : j.g.B t e = false) : nd.run j ⟨t, x, S, false⟩ = none := by
  rw [run_mk hA _ (by omega), pre_eq _ rfl, h2, leqB_nat h.F ht he, hte]
  rfl
theorem Lf.run3 (h : Lf j L bt) (hA : nd.At w) {a d e t : Nat} {x : Int} {S : Nat → Bool} (hop : nd.h.op = 3) (ha : a < j.f.slots.len) (hd : d < j.f.slots.len) (he : e < j.n.len) (ht : t < j.n.len) (hx : x = -1 ∨ ∃ m : Nat, x = m ∧ m < j.n.len) (h0 : nd.h.a = a) (h1 : nd.h.dst = d) (h2 : nd.h.env = e) (hte : j.g.B t e = true) (hS : S a = true) (hb : j.g.B (Jn j.g (L a) e) (L d) = true) :
    nd.run j ⟨t, x, S, false⟩ = some ⟨t, x, upd S d, false⟩ := by
  rw [run_mk hA _ (by omega), pre_eq _ rfl, rds1 (Or.inl hop), h2, h0, leqB_nat h.F ht he, hte]
  show (if (true && ((S (Int.toNat a)) && true)) = false then none else _) = _
  rw [Int.toNat_natCast, hS, if_neg (by simp)]
  have hj := jn_lt h.F (h.ll a ha) he
  refine h.make hd he ht hj hx h1 h2 ?_ ?_
  · unfold Jd.makes; rw [if_neg (by omega), if_neg (by omega), if_pos hop, h0, h.read ha he h2]
  · have e1 : Jn j.g (Jn j.g (L a) e) e = Jn j.g (L a) e := jn_ge h.F hj he (jn_is h.F (h.ll a ha) he).2.2.2.1
    rw [e1]; exact hb
theorem Lf.reck (h : Lf j L bt) {a b e : Nat} {nn : Int} (ha : a < j.f.slots.len) (hb : b < j.f.slots.len) (he : e < j.n.len) (h0 : nd.h.a = a) (h0b : nd.h.b = b) (h2 : nd.h.env = e) (hn : nd.h.n = nn) (h11 : ¬ (nn = 11 ∨ nn = 12)) :
    j.reck nd = (leafT 1 (Jn j.g (Jn j.g (L a) e) (Jn j.g (L b) e) : Nat), if nn = 9 ∨ nn = 10 then (Jn j.g (L b) e : Int) else -1) := by
  unfold Jd.reck
  rw [h0, h0b, h.read ha he h2, h.read hb he h2, hn, if_neg h11]
  have e1 : (leafT 1 (Jn j.g (L a) e : Nat)).k = 1 := rfl
  have e2 : (leafT 1 (Jn j.g (L b) e : Nat)).k = 1 := rfl
  have e3 : (leafT 1 (Jn j.g (L a) e : Nat)).l = (Jn j.g (L a) e : Nat) := rfl
  have e4 : (leafT 1 (Jn j.g (L b) e : Nat)).l = (Jn j.g (L b) e : Nat) := rfl
  rw [e1, e2, e3, e4, if_neg (by decide), bothI_nat h.F (jn_lt h.F (h.ll a ha) he) (jn_lt h.F (h.ll b hb) he)]
theorem pre4 (h : Lf j L bt) {a b e t : Nat} {x : Int} {S : Nat → Bool} (hop : nd.h.op = 4) (he : e < j.n.len) (ht : t < j.n.len) (h0 : nd.h.a = a) (h0b : nd.h.b = b) (h2 : nd.h.env = e) (hte : j.g.B t e = true) (hSa : S a = true) (hSb : S b = true) : j.pre nd ⟨t, x, S, false⟩ = true := by
  rw [pre_eq _ rfl, rds2 (Or.inl hop), h2, h0, h0b, leqB_nat h.F ht he, hte]
  show (true && (S (Int.toNat a) && (S (Int.toNat b) && true))) = true
  rw [Int.toNat_natCast, Int.toNat_natCast, hSa, hSb]; rfl
theorem Lf.run4n (h : Lf j L bt) (hA : nd.At w) {a b d e t : Nat} {x nn : Int} {S : Nat → Bool} (hop : nd.h.op = 4) (ha : a < j.f.slots.len) (hb : b < j.f.slots.len) (hd : d < j.f.slots.len) (he : e < j.n.len) (ht : t < j.n.len) (hx : x = -1 ∨ ∃ m : Nat, x = m ∧ m < j.n.len) (h0 : nd.h.a = a) (h0b : nd.h.b = b) (h1 : nd.h.dst = d) (h2 : nd.h.env = e) (hn : nd.h.n = nn) (hnn : nn < 9) (hte : j.g.B t e = true) (hSa : S a = true) (hSb : S b = true)
    (hq : j.g.B (Jn j.g (Jn j.g (Jn j.g (L a) e) (Jn j.g (L b) e)) e) (L d) = true) : nd.run j ⟨t, x, S, false⟩ = some ⟨t, x, upd S d, false⟩ := by
  rw [run_mk hA _ (by omega), pre4 h hop he ht h0 h0b h2 hte hSa hSb, if_neg (by simp)]
  refine h.make hd he ht (jn_lt h.F (jn_lt h.F (h.ll a ha) he) (jn_lt h.F (h.ll b hb) he)) hx h1 h2 ?_ hq
  unfold Jd.makes; rw [if_neg (by omega), if_neg (by omega), if_neg (by omega), if_pos hop, h.reck ha hb he h0 h0b h2 hn (by omega), if_neg (by omega)]
theorem Lf.run4d (h : Lf j L bt) (hA : nd.At w) {a b d e t : Nat} {x x' nn : Int} {S : Nat → Bool} (hop : nd.h.op = 4) (ha : a < j.f.slots.len) (hb : b < j.f.slots.len) (hd : d < j.f.slots.len) (he : e < j.n.len) (ht : t < j.n.len) (h0 : nd.h.a = a) (h0b : nd.h.b = b) (h1 : nd.h.dst = d) (h2 : nd.h.env = e) (hn : nd.h.n = nn) (hnn : nn = 9 ∨ nn = 10) (hte : j.g.B t e = true) (hSa : S a = true) (hSb : S b = true) (hx : bothI j.n j.g x (Jn j.g (L b) e : Nat) = x')
    (hq : j.g.B (Jn j.g (Jn j.g (Jn j.g (L a) e) (Jn j.g (L b) e)) (Jn j.g e (Jn j.g (L b) e))) (L d) = true) : nd.run j ⟨t, x, S, false⟩ = some ⟨(Jn j.g t (Jn j.g (L b) e) : Nat), x', upd S d, false⟩ := by
  have hk : j.makes nd = (leafT 1 (Jn j.g (Jn j.g (L a) e) (Jn j.g (L b) e) : Nat), (Jn j.g (L b) e : Int)) := by
    unfold Jd.makes; rw [if_neg (by omega), if_neg (by omega), if_neg (by omega), if_pos hop, h.reck ha hb he h0 h0b h2 hn (by omega), if_pos hnn]
  have l1 := jn_lt h.F (h.ll a ha) he
  have l2 := jn_lt h.F (h.ll b hb) he
  have l3 := jn_lt h.F l1 l2
  have l4 := jn_lt h.F he l2
  rw [run_mk hA _ (by omega), pre4 h hop he ht h0 h0b h2 hte hSa hSb, if_neg (by simp)]
  unfold Jd.make
  rw [hk]
  show (if belB j.n j.g (raiseT j.n j.g (leafT 1 (Jn j.g (Jn j.g (L a) e) (Jn j.g (L b) e) : Nat)) (bothI j.n j.g nd.h.env (Jn j.g (L b) e : Nat))) (j.f.slots.ps nd.h.dst.toNat) = true then some (⟨bothI j.n j.g t (Jn j.g (L b) e : Nat), bothI j.n j.g x (Jn j.g (L b) e : Nat), upd S nd.h.dst.toNat, false⟩ : Sta) else none) = _
  rw [h1, h2, Int.toNat_natCast, bothI_nat h.F he l2, raise_leaf h.F l3 l4, h.sl d hd, bel_leaf h.F (jn_lt h.F l3 l4) (h.ll d hd), hq, if_pos rfl, bothI_nat h.F ht l2, hx]
theorem Lf.run15 (h : Lf j L bt) (hA : nd.At w) {a e t p q : Nat} {x : Int} {S : Nat → Bool} (hop : nd.h.op = 15) (ha : a < j.f.slots.len) (he : e < j.n.len) (ht : t < j.n.len) (hp : p < j.n.len) (hq : q < j.n.len) (h0 : nd.h.a = a) (h2 : nd.h.env = e) (hn : nd.h.n = p) (hh : j.f.heap = q) (hte : j.g.B t e = true) (hS : S a = true) :
    nd.run j ⟨t, x, S, false⟩ = if (j.g.B (Jn j.g (L a) e) p && j.g.B q p) = true then some ⟨t, x, S, false⟩ else none := by
  rw [run_15 hA _ hop, pre_eq _ rfl, rds1 (by omega), h2, h0, leqB_nat h.F ht he, hte]
  show (if (true && (S (Int.toNat a) && true)) = false then none else _) = _
  rw [Int.toNat_natCast, hS, if_neg (by simp)]
  have hl := jn_lt h.F (h.ll a ha) he
  have e1 : j.tells nd = (j.g.B (Jn j.g (L a) e) p && j.g.B q p) := by
    unfold Jd.tells
    rw [h0, h.read ha he h2, hn, hh]
    show (((1 : Int) == 1) && (leqB j.n j.g (Jn j.g (L a) e : Nat) p && leqB j.n j.g q p)) = _
    rw [leqB_nat h.F hl hp, leqB_nat h.F hq hp]; rfl
  rw [e1]
theorem Lf.ends (h : Lf j L bt) {t o rs : Nat} {x : Int} {S : Nat → Bool} (ht : t < j.n.len) (ho : o < j.f.slots.len) (hr : rs < j.n.len) (hres : j.f.result = leafT 1 (rs : Nat)) (hout : j.f.out = o) (hx : x = -1 ∨ ∃ m e : Nat, x = m ∧ m < j.n.len ∧ j.f.exc = e ∧ e < j.n.len ∧ j.g.B m e = true) (hS : S o = true) :
    j.ends ⟨t, x, S, false⟩ = j.g.B (Jn j.g (L o) t) rs := by
  unfold Jd.ends
  have e1 : ((x != -1) && !(leqB j.n j.g x j.f.exc)) = false := by
    rcases hx with rfl | ⟨m, e, rfl, hm, he, hel, hB⟩
    · rfl
    · rw [he, leqB_nat h.F hm hel, hB]; simp
  show (if ((x != -1) && !(leqB j.n j.g x j.f.exc)) = true then false else if (false || j.f.out == -1) = true then (false && j.f.out == -1) else S j.f.out.toNat && belB j.n j.g (raiseT j.n j.g (j.f.slots.ps j.f.out.toNat) t) j.f.result) = _
  rw [e1, hout, Int.toNat_natCast, h.sl o ho, raise_leaf h.F (h.ll o ho) ht, hres, bel_leaf h.F (jn_lt h.F (h.ll o ho) ht) hr, hS, if_neg (by simp), if_neg (by simp)]
  rfl
end
end Go.Proofs.YtbdhbgilaeldgaaGreat

/- Layer 10: the shape of straight functions over leaves; how they lie. -/
namespace Go.Proofs.YtbdhbgilaeldgaaGreat
open Go Go.RowKit

/-- A node without nodes within. -/
def sN (op dst a b n env : Int) : Nd := .mk ⟨op, dst, a, b, n, env, leafT 0 0, Is.nl⟩ none 0 0 0 0 (fun _ => .dm) none 0 0 0 0 (fun _ => .dm)
theorem sN_at (op dst a b n env : Int) (w : World) : (sN op dst a b n env).At w := ⟨⟨leaf_at _ _ _, Is.nl_at w⟩, ⟨fun h => absurd h (Nat.lt_irrefl _), Nat.zero_le _, fun _ h => absurd h (Nat.not_lt_zero _)⟩, ⟨fun h => absurd h (Nat.lt_irrefl _), Nat.zero_le _, fun _ h => absurd h (Nat.not_lt_zero _)⟩⟩
theorem cnt_str {f : Nat → Nat → Nat} (hf : ∀ i c, f i c = c + 1) : ∀ k c, c + k ≤ 4096 → cntL f 1 k c = c + k
  | 0, _, _ => rfl
  | k + 1, c, h => by
    show (if 64 < 1 ∨ 4096 ≤ cntL f 1 k c then 4097 else f k (cntL f 1 k c)) = _
    rw [cnt_str hf k c (by omega), if_neg (by omega), hf]
    omega
theorem wth_yes {a : Int} {m : Int} (h0 : 0 ≤ a) (h1 : a < m) : wthB a m = true := by unfold wthB; simp [h0, h1]
theorem slots1 {m : Nat} {a : Int} (h0 : 0 ≤ a) (h1 : a < m) : slotsB m [a] = true := by unfold slotsB; simp [wth_yes h0 h1]
theorem slots2 {m : Nat} {a b : Int} (h0 : 0 ≤ a) (h1 : a < m) (h2 : 0 ≤ b) (h3 : b < m) : slotsB m [a, b] = true := by unfold slotsB; simp [wth_yes h0 h1, wth_yes h2 h3]
section
variable {n : Strs} {g : Grid} {many : Int} {m : Nat} {dst a b nn env : Int}
theorem shp1 (he : 0 ≤ env) (he1 : env < n.len) (hd : 0 ≤ dst) (hd1 : dst < m) : (sN 1 dst a b nn env).shp n g many m = true := by
  rw [Nd.shp_eq (sN_at _ _ _ _ _ _ default)]
  unfold shpB
  have e1 : (sN 1 dst a b nn env).h.rds = [] := rds0 (by show ¬ ((1 : Int) = 3 ∨ (1 : Int) = 5 ∨ (1 : Int) = 7 ∨ (1 : Int) = 8 ∨ (1 : Int) = 12 ∨ (1 : Int) = 13 ∨ (1 : Int) = 15 ∨ (1 : Int) = 16 ∨ (1 : Int) = 18); decide) (by show ¬ ((1 : Int) = 4 ∨ (1 : Int) = 6 ∨ (1 : Int) = 11 ∨ (1 : Int) = 14); decide) (by show ¬ ((1 : Int) = 9); decide)
  rw [e1]
  show (((wthB env n.len && slotsB m []) && (!(sN 1 dst a b nn env).h.wrs || slotsB m [dst])) && needB n g many (sN 1 dst a b nn env).h _ _) = true
  rw [wth_yes he he1, slots1 hd hd1]
  rfl
theorem shp3 (he : 0 ≤ env) (he1 : env < n.len) (hd : 0 ≤ dst) (hd1 : dst < m) (ha : 0 ≤ a) (ha1 : a < m) : (sN 3 dst a b nn env).shp n g many m = true := by
  rw [Nd.shp_eq (sN_at _ _ _ _ _ _ default)]
  unfold shpB
  have e1 : (sN 3 dst a b nn env).h.rds = [a] := rds1 (Or.inl rfl)
  rw [e1]
  show (((wthB env n.len && slotsB m [a]) && (!(sN 3 dst a b nn env).h.wrs || slotsB m [dst])) && needB n g many (sN 3 dst a b nn env).h _ _) = true
  rw [wth_yes he he1, slots1 hd hd1, slots1 ha ha1]
  rfl
theorem shp4 (he : 0 ≤ env) (he1 : env < n.len) (hd : 0 ≤ dst) (hd1 : dst < m) (ha : 0 ≤ a) (ha1 : a < m) (hb : 0 ≤ b) (hb1 : b < m) (hn : 6 ≤ nn) (hn1 : nn ≤ 12) : (sN 4 dst a b nn env).shp n g many m = true := by
  rw [Nd.shp_eq (sN_at _ _ _ _ _ _ default)]
  unfold shpB
  have e1 : (sN 4 dst a b nn env).h.rds = [a, b] := rds2 (Or.inl rfl)
  rw [e1]
  show (((wthB env n.len && slotsB m [a, b]) && (!(sN 4 dst a b nn env).h.wrs || slotsB m [dst])) && (decide (6 ≤ nn) && decide (nn ≤ 12))) = true
  rw [wth_yes he he1, slots1 hd hd1, slots2 ha ha1 hb hb1, decide_eq_true hn, decide_eq_true hn1]
  rfl
theorem shp15 (he : 0 ≤ env) (he1 : env < n.len) (ha : 0 ≤ a) (ha1 : a < m) (hn : 0 ≤ nn) (hn1 : nn < n.len) : (sN 15 dst a b nn env).shp n g many m = true := by
  rw [Nd.shp_eq (sN_at _ _ _ _ _ _ default)]
  unfold shpB
  have e1 : (sN 15 dst a b nn env).h.rds = [a] := rds1 (Or.inr (Or.inr (Or.inr (Or.inr (Or.inr (Or.inr (Or.inl rfl)))))))
  rw [e1]
  show (((wthB env n.len && slotsB m [a]) && (!(sN 15 dst a b nn env).h.wrs || slotsB m [dst])) && wthB nn n.len) = true
  rw [wth_yes he he1, slots1 ha ha1, wth_yes hn hn1]
  rfl
end
/-- A straight function over leaves, shaped. -/
structure Sf (n : Strs) (g : Grid) (f : Fc) (L : Nat → Nat) : Prop where
  F : formedB n g = true
  sig : okB n g (mk2 4 (botI n g) f.heap f.exc f.param f.result) = true
  c0 : f.caps.len = 0
  s1 : 1 ≤ f.slots.len
  s2 : f.slots.len ≤ 250
  sl : ∀ i, i < f.slots.len → f.slots.ps i = leafT 1 (L i : Nat)
  ll : ∀ i, i < f.slots.len → L i < n.len
  par : f.param = leafT 1 (L 0 : Nat)
  bl : f.body.len ≤ 4096
  bs : ∀ i, i < f.body.len → ∃ op dst a b nn env, f.body.ps i = sN op dst a b nn env ∧ (sN op dst a b nn env).shp n g 1 f.slots.len = true
theorem Sf.hld {n : Strs} {g : Grid} {f : Fc} {L : Nat → Nat} (h : Sf n g f L) : hldB n g 1 f = ((f.out == -1) || slotsB f.slots.len [f.out]) := by
  obtain ⟨m, hm, hml, _⟩ := bot_is h.F
  have e1 : typ1 n g f = true := by
    unfold typ1
    rw [h.c0, decide_eq_true h.s2, decide_eq_true (p := 1 + 0 ≤ f.slots.len) h.s1]
    have : (sigT n g f).k = 4 := by
      unfold sigT raiseT
      rw [h.sig, hm, inR_nat' hml]
      rfl
    rw [this]; rfl
  have e2 : typ2 n g f = true := by
    unfold typ2
    rw [decide_eq_true_eq]
    intro i hi
    rw [h.sl i hi]; exact leaf_okB' h.F (h.ll i hi)
  have e3 : typ3 f = true := by
    unfold typ3
    rw [h.sl 0 (by have := h.s1; omega), h.par, same_refl, h.c0]
    rfl
  have e4 : f.body.cnt 1 0 ≤ 4096 := by
    have key : ∀ k, k ≤ f.body.len → cntL (fun i => (f.body.ps i).cnt 1) 1 k 0 = k := by
      intro k
      induction k with
      | zero => intro _; rfl
      | succ k ih =>
        intro hk
        have h1 := ih (by omega)
        have hb := h.bl
        show (if 64 < 1 ∨ 4096 ≤ cntL (fun i => (f.body.ps i).cnt 1) 1 k 0 then 4097 else (f.body.ps k).cnt 1 (cntL (fun i => (f.body.ps i).cnt 1) 1 k 0)) = _
        obtain ⟨op, dst, a, b, nn, env, e, _⟩ := h.bs k (by omega)
        rw [h1, if_neg (by omega), e]
        rfl
    show cntL (fun i => (f.body.ps i).cnt 1) 1 f.body.len 0 ≤ 4096
    rw [key f.body.len (Nat.le_refl _)]; exact h.bl
  have e5 : f.body.shp n g 1 f.slots.len = true := by
    unfold Ns.shp
    rw [decide_eq_true_eq]
    intro i hi
    obtain ⟨op, dst, a, b, nn, env, e, hs⟩ := h.bs i hi
    rw [e]; exact hs
  unfold hldB typedB
  rw [e1, e2, e3, decide_eq_true e4, e5]
  rfl
/-- One function, in a slice of its own. -/
def fl1 (B : Nat) (f : Fc) : Fl := ⟨some ⟨B, 0, none⟩, B, 0, 1, 1, fun _ => f⟩
theorem fl1_at {w : World} {B : Nat} {f : Fc} (h : f.At w) (hb : Blk w B f.vs 41) : (fl1 B f).At w := by
  refine ⟨fun _ => rfl, by show 1 ≤ 9223372036854775807; decide, fun i hi => ?_, fun _ _ => h⟩
  have h1 : i < 1 := hi
  have h2 : i = 0 := by omega
  subst h2
  exact hb.range
theorem fl1_shd {n : Strs} {g : Grid} {B : Nat} {f : Fc} : shdB n g (fl1 B f) = hldB n g 1 f := by
  have key : ∀ x : Bool, decide (∀ i, i < 1 → x = true) = x := by
    intro x
    cases x
    · exact decide_eq_false (fun hh => by cases hh 0 (by omega))
    · exact decide_eq_true (fun _ _ => rfl)
  unfold shdB fl1
  exact key (hldB n g 1 f)
/-- Of one function Check tells whether it is right. -/
theorem chk1 {n : Strs} {g : Grid} {B : Nat} {f : Fc} {a b : Int} (h : ChkR n g (fl1 B f) a b) (hs : hldB n g 1 f = true) : ((jdg n g (fl1 B f) 0).right = true → a = 0 ∧ b = 0) ∧ ((jdg n g (fl1 B f) 0).right = false → a = 0 ∧ b = 11) := by
  rw [← fl1_shd (B := B)] at hs
  rcases h with ⟨h1, _⟩ | ⟨_, k, hk, _, h2, h3, h4⟩ | ⟨_, h2, h3, h4⟩
  · rw [hs] at h1; cases h1
  · have : k = 0 := by have h5 : k < 1 := hk; omega
    subst this
    exact ⟨fun hr => by rw [hr] at h2; (cases h2), fun _ => ⟨h3, h4⟩⟩
  · have := h2 0 (by show 0 < 1; omega)
    exact ⟨fun _ => ⟨h3, h4⟩, fun hr => by rw [hr] at this; (cases this)⟩
theorem Sf.lf {n : Strs} {g : Grid} {f : Fc} {L : Nat → Nat} {bt : Nat} (h : Sf n g f L) (hb : botI n g = (bt : Int)) (hl : bt < n.len) (hlow : ∀ c, c < n.len → g.B bt c = true) (B : Nat) : Lf (jdg n g (fl1 B f) 0) L bt :=
  ⟨h.F, hb, hl, hlow, h.sl, h.ll⟩
end Go.Proofs.YtbdhbgilaeldgaaGreat

/- Layer 10: awake. -/
namespace Go.Proofs.YtbdhbgilaeldgaaGreat
open Go Go.RowKit

theorem Lt2.kept {n : Strs} {g : Grid} {w w' : World} (h : Lt2 n g w) (hb : Below w.heap.size w w') : Lt2 n g w' := ⟨h.nat.kept hb, h.gat.kept hb, h.fd, h.two, h.le, h.rows⟩
def f0 (B : Nat) (out : Int) : Fc := ⟨leafT 1 0, leafT 1 0, leafT 0 0, 0, -1, .mk 0 0 0 0 (some ⟨B, 0, none⟩) B 0 1 1 (fun _ => leafT 1 0), Ns.nl, out⟩
theorem f0_at {w : World} {B : Nat} {out : Int} (hb : Blk w B (leafT 1 0).vs 38) : (f0 B out).At w := by
  refine ⟨leaf_at _ _ _, leaf_at _ _ _, leaf_at _ _ _, ⟨fun _ => rfl, by decide, fun i hi => ?_⟩, Ns.nl_at w, Nat.le_refl 1⟩
  have h2 : i = 0 := by omega
  subst h2
  exact ⟨range_C5 hb.range, leaf_at _ _ _⟩
theorem f0_sf {n : Strs} {g : Grid} {w : World} (h : Lt2 n g w) (B : Nat) (out : Int) : Sf n g (f0 B out) (fun _ => 0) := by
  obtain ⟨m, hm, hml, _⟩ := bot_is h.fd
  have h0 : 0 < n.len := by rw [h.two]; omega
  refine ⟨h.fd, ?_, rfl, Nat.le_refl 1, by show 1 ≤ 250; decide, fun _ _ => rfl, fun _ _ => h0, rfl, Nat.zero_le _, fun i hi => absurd hi (Nat.not_lt_zero _)⟩
  rw [hm]
  exact fun_okB' h.fd h0 h0 h0 hml
theorem f0_yes {n : Strs} {g : Grid} {w : World} {B BF : Nat} {a b : Int} (h : Lt2 n g w) (hR : ChkR n g (fl1 BF (f0 B 0)) a b) : b = 0 := by
  obtain ⟨m, hm, hml, hlow⟩ := bot_is h.fd
  have hs := f0_sf h B 0
  have h0 : 0 < n.len := by rw [h.two]; omega
  have hl := hs.lf hm hml hlow BF
  refine ((chk1 hR (by rw [hs.hld]; rfl)).1 ?_).2
  show (jdg n g (fl1 BF (f0 B 0)) 0).ends (jdg n g (fl1 BF (f0 B 0)) 0).start = true
  have e : (jdg n g (fl1 BF (f0 B 0)) 0).start = ⟨(m : Int), -1, fun i => decide (i < 1), false⟩ := by
    show (⟨botI n g, -1, fun i => decide (i < 1 + 0), false⟩ : Sta) = _
    rw [hm]
  rw [e, hl.ends (o := 0) (rs := 0) hml (by show 0 < 1; omega) h0 rfl rfl (Or.inl rfl) rfl]
  show g.B (Jn g 0 m) 0 = true
  rw [jn_ge h.fd h0 hml (hlow 0 h0)]
  exact lq_refl h.fd h0
theorem f0_no {n : Strs} {g : Grid} {w : World} {B BF : Nat} {a b : Int} (h : Lt2 n g w) (hR : ChkR n g (fl1 BF (f0 B (-1))) a b) : b = 11 := by
  have hs := f0_sf h B (-1)
  exact ((chk1 hR (by rw [hs.hld]; rfl)).2 rfl).2
theorem Tryz.infoFn : (Tryz.prog.info? 41).map (fun i => (i.zero, i.size, i.bytes)) = some (some (.agg zFv.toArray), 16, 208) := by kernel_rfl
theorem fill1_fn (t : Fc) : Instr.fill (fun i => some (i * 16, 16)) (Array.map (fun x => zFv[x % zFv.length]?.getD default) (Array.range 16)) [(0, Value.agg t.vs.toArray)] = some t.vs.toArray := by kernel_rfl
theorem run_slice1_fn (t : Fc) (w : World) : (Instr.buildSlice 26 1 #[(0, .agg t.vs.toArray)]).run Tryz.prog w = .ok (.slice (some ⟨w.heap.size, 0, none⟩) 1 1) (w.alloc (.cells t.vs.toArray 41)) := by
  obtain ⟨i0, hi, hz0, hz1, hz2⟩ := info_parts Tryz.infoFn
  simp [Instr.buildSlice, run_underlying Tryz.underlying26, sizeOf, typeInfo, hi, hz0, hz1, zeroValue, newRow, Value.cells, fill1_fn]
set_option maxRecDepth 100000 in
set_option maxHeartbeats 8000000 in
theorem awake10_any (w : World) : Calls Tryz.prog 5 #[] w fun e w' => e = .returned (.bool true) ∧ Below w.heap.size w w' := by
  have H := allocs_heap [.cells (leafT 1 0).vs.toArray 38, .cells (leafT 1 0).vs.toArray 38, .cells (f0 (w.heap.size + 1) 0).vs.toArray 41] w
  have B0 := allocs_below [.cells (leafT 1 0).vs.toArray 38, .cells (leafT 1 0).vs.toArray 38, .cells (f0 (w.heap.size + 1) 0).vs.toArray 41] w
  simp only [List.foldl] at H B0
  have HI := hid (show Below w.heap.size w _ ∧ Blk _ (w.heap.size + 1) (leafT 1 0).vs 38 ∧ Blk _ (w.heap.size + 2) (f0 (w.heap.size + 1) 0).vs 41 from ⟨B0, H 1 (by simp), H 2 (by simp)⟩)
  clear H B0
  replace HI : Hid (Below w.heap.size w (((w.alloc (.cells #[.int .i64 1, .int .i64 0, .slice none 0 0, .int .i64 0, .int .i64 0] 38)).alloc (.cells #[.int .i64 1, .int .i64 0, .slice none 0 0, .int .i64 0, .int .i64 0] 38)).alloc (.cells #[.int .i64 1, .int .i64 0, .slice none 0 0, .int .i64 0, .int .i64 0, .int .i64 1, .int .i64 0, .slice none 0 0, .int .i64 0, .int .i64 0, .slice none 0 0, .int .i64 0, .int .i64 (-1), .slice (some ⟨w.heap.size + 1, 0, none⟩) 1 1, .slice none 0 0, .int .i64 0] 41)) ∧ Blk (((w.alloc (.cells #[.int .i64 1, .int .i64 0, .slice none 0 0, .int .i64 0, .int .i64 0] 38)).alloc (.cells #[.int .i64 1, .int .i64 0, .slice none 0 0, .int .i64 0, .int .i64 0] 38)).alloc (.cells #[.int .i64 1, .int .i64 0, .slice none 0 0, .int .i64 0, .int .i64 0, .int .i64 1, .int .i64 0, .slice none 0 0, .int .i64 0, .int .i64 0, .slice none 0 0, .int .i64 0, .int .i64 (-1), .slice (some ⟨w.heap.size + 1, 0, none⟩) 1 1, .slice none 0 0, .int .i64 0] 41)) (w.heap.size + 1) (leafT 1 0).vs 38 ∧ Blk (((w.alloc (.cells #[.int .i64 1, .int .i64 0, .slice none 0 0, .int .i64 0, .int .i64 0] 38)).alloc (.cells #[.int .i64 1, .int .i64 0, .slice none 0 0, .int .i64 0, .int .i64 0] 38)).alloc (.cells #[.int .i64 1, .int .i64 0, .slice none 0 0, .int .i64 0, .int .i64 0, .int .i64 1, .int .i64 0, .slice none 0 0, .int .i64 0, .int .i64 0, .slice none 0 0, .int .i64 0, .int .i64 (-1), .slice (some ⟨w.heap.size + 1, 0, none⟩) 1 1, .slice none 0 0, .int .i64 0] 41)) (w.heap.size + 2) (f0 (w.heap.size + 1) 0).vs 41) := HI
  go_enter Tryz.func5, Tryz.ntmps5
  go_upto_region 3 with fail
  generalize (((w.alloc (.cells #[.int .i64 1, .int .i64 0, .slice none 0 0, .int .i64 0, .int .i64 0] 38)).alloc (.cells #[.int .i64 1, .int .i64 0, .slice none 0 0, .int .i64 0, .int .i64 0] 38)).alloc (.cells #[.int .i64 1, .int .i64 0, .slice none 0 0, .int .i64 0, .int .i64 0, .int .i64 1, .int .i64 0, .slice none 0 0, .int .i64 0, .int .i64 0, .slice none 0 0, .int .i64 0, .int .i64 (-1), .slice (some ⟨w.heap.size + 1, 0, none⟩) 1 1, .slice none 0 0, .int .i64 0] 41)) = w1 at *
  go_cut [4] (fun b wx => ∃ rb : Int, b = .int .i64 rb ∧ rb = 0 ∧ Hid (Below w.heap.size w wx ∧ Blk wx (w.heap.size + 1) (leafT 1 0).vs 38 ∧ Blk wx (w.heap.size + 2) (f0 (w.heap.size + 1) 0).vs 41))
  case first =>
    have hCF : ∀ q, (∃ x : Wd (fun q => Below w1.heap.size w1 q), q = x.w) → q.rangeAt (w.heap.size + 2) 0 (f0 (w.heap.size + 1) 0).vs := by rintro _ ⟨x, rfl⟩; exact (HI.out.2.2.kept x.2).range
    have hNE : Nonempty (Wd (fun q => Below w1.heap.size w1 q)) := ⟨⟨_, Below.refl _ _⟩⟩
    refine wp_region_readsMN (fun q => Below w1.heap.size w1 q) [1] 8 (by kernel_rfl) rfl (by kernel_rfl) (hj_of (by kernel_rfl)) ((Below.refl _ _).drew) ?_
    simp only [List.filterMap, List.getElem?_cons_zero, List.getElem?_cons_succ]
    go_big_quiet_want
    refine quiet_load_row 41 (.tmp 2) rfl _ 0 (by kernel_rfl) (f0 (w.heap.size + 1) 0).vs _ hCF Tryz.underlying41 rfl (by kernel_rfl) ?_
    simp only [Act.put, List.setIfInBounds_toArray, List.set_cons_succ, List.set_cons_zero]
    go_big_quiet_on
    refine wpQuiet_nil ?_
    have HV0 := hid (show Below w1.heap.size w1 w1.drew from (Below.refl _ _).drew)
    generalize w1.drew = v0 at *
    refine wpAnyH_ready (rs := [0, 2]) (by kernel_rfl) (by simp) ?_
    refine AllReadyH.cons rfl (fun K hK => ?_) (AllReadyH.cons rfl (fun K hK => ?_) AllReadyH.nil)
    · rw [if_pos (by rfl)]
      go_simp
      refine (two10_any v0).mono ?_
      rintro _ v1 ⟨n, g, rfl, hL, hb9⟩
      have HV1 := hid (Below.next HV0.out hb9)
      have HL2 := hid hL
      refine hK.out _ _ HV1.out (fun _ => ?_)
      clear hK K hb9 hL
      refine wpAnyH_ready (rs := [2]) (by kernel_rfl) (by simp) ?_
      refine AllReadyH.cons rfl (fun K hK => ?_) AllReadyH.nil
      rw [if_pos (by rfl)]
      have hrn := run_slice1_fn (f0 (w.heap.size + 1) 0) v1
      have hb9 := below_alloc v1 (.cells (f0 (w.heap.size + 1) 0).vs.toArray 41)
      have HFB := hid (show Blk (v1.alloc (.cells (f0 (w.heap.size + 1) 0).vs.toArray 41)) v1.heap.size (f0 (w.heap.size + 1) 0).vs 41 from Blk.new v1 _ _)
      have HV2 := hid (Below.next HV1.out hb9)
      have HL3 := hid (show Lt2 n g _ from HL2.out.kept hb9)
      refine wp_sliceI 26 1 #[(0, .tmp 15)] rfl #[(0, .agg (f0 (w.heap.size + 1) 0).vs.toArray)] (by kernel_rfl) hrn ?_
      refine hK.out _ _ HV2.out (fun _ => ?_)
      clear hK K hrn hb9
      generalize (v1.alloc (.cells (f0 (w.heap.size + 1) 0).vs.toArray 41)) = v2 at *
      generalize v1.heap.size = BF at *
      refine wpAnyH_ready (rs := [3]) (by kernel_rfl) (by simp) ?_
      refine AllReadyH.cons rfl (fun K hK => ?_) AllReadyH.nil
      rw [if_pos (by rfl)]
      go_simp
      refine (Check_str n g (fl1 BF (f0 (w.heap.size + 1) 0)) v2 HL3.out.nat HL3.out.gat (fl1_at (f0_at (HI.out.2.1.kept HV2.out)) HFB.out) (fun i _ => Nat.zero_le _) (fun k _ i hi => absurd hi (Nat.not_lt_zero _))).mono ?_
      rintro _ v9 ⟨ra, rb, rfl, hR, hb9⟩
      have HV9 := hid (Below.next HV2.out hb9)
      have HRB := hid (f0_yes HL3.out hR)
      refine hK.out _ _ HV9.out (fun _ => ?_)
      clear hK K hb9 hR
      refine wpAnyH_readsN [4, 5, 6] (rest := 2) rfl (by kernel_rfl) (by kernel_rfl) HV9.out ?_
      simp only [List.filterMap, List.getElem?_cons_zero, List.getElem?_cons_succ]
      go_big_quiet_step (fail)
      go_big_quiet_step (fail)
      go_big_quiet_step (fail)
      refine wpQuiet_nil ?_
      refine wpAnyH_ready (rs := [7]) (by kernel_rfl) (by simp) ?_
      refine AllReadyH.cons rfl (fun K hK => ?_) AllReadyH.nil
      rw [if_pos (by rfl)]
      go_simp
      refine hK.out _ _ HV9.out (fun _ => ?_)
      clear hK K
      refine wpAnyH_ready (rs := [8]) (by kernel_rfl) (by simp) ?_
      refine AllReadyH.cons rfl (fun K hK => ?_) AllReadyH.nil
      rw [if_pos (by rfl)]
      go_simp
      refine hK.out _ _ HV9.out (fun _ => ?_)
      clear hK K
      refine wpAnyH_done (by kernel_rfl) ?_ _
      refine ⟨(fun c hc => by cases hc), ?_⟩
      go_wp2
      go_meet
      case rel => exact ⟨rb, rfl, HRB.out, ⟨Below.next HI.out.1 HV9.out, HI.out.2.1.kept HV9.out, HI.out.2.2.kept HV9.out⟩⟩
    · rw [if_pos (by rfl)]
      have hrn := run_slice1_fn (f0 (w.heap.size + 1) 0) v0
      have hb9 := below_alloc v0 (.cells (f0 (w.heap.size + 1) 0).vs.toArray 41)
      have HFB := hid (show Blk (v0.alloc (.cells (f0 (w.heap.size + 1) 0).vs.toArray 41)) v0.heap.size (f0 (w.heap.size + 1) 0).vs 41 from Blk.new v0 _ _)
      have HV1 := hid (Below.next HV0.out hb9)
      refine wp_sliceI 26 1 #[(0, .tmp 15)] rfl #[(0, .agg (f0 (w.heap.size + 1) 0).vs.toArray)] (by kernel_rfl) hrn ?_
      refine hK.out _ _ HV1.out (fun _ => ?_)
      clear hK K hrn hb9
      generalize (v0.alloc (.cells (f0 (w.heap.size + 1) 0).vs.toArray 41)) = v1 at *
      generalize v0.heap.size = BF at *
      refine wpAnyH_ready (rs := [0]) (by kernel_rfl) (by simp) ?_
      refine AllReadyH.cons rfl (fun K hK => ?_) AllReadyH.nil
      rw [if_pos (by rfl)]
      go_simp
      refine (two10_any v1).mono ?_
      rintro _ v2 ⟨n, g, rfl, hL, hb9⟩
      have HBB := hid hb9
      have HV2 := hid (Below.next HV1.out hb9)
      have HL2 := hid hL
      refine hK.out _ _ HV2.out (fun _ => ?_)
      clear hK K hb9 hL
      have HFC := hid (HFB.out.kept HBB.out)
      refine wpAnyH_ready (rs := [3]) (by kernel_rfl) (by simp) ?_
      refine AllReadyH.cons rfl (fun K hK => ?_) AllReadyH.nil
      rw [if_pos (by rfl)]
      go_simp
      refine (Check_str n g (fl1 BF (f0 (w.heap.size + 1) 0)) v2 HL2.out.nat HL2.out.gat (fl1_at (f0_at (HI.out.2.1.kept HV2.out)) HFC.out) (fun i _ => Nat.zero_le _) (fun k _ i hi => absurd hi (Nat.not_lt_zero _))).mono ?_
      rintro _ v9 ⟨ra, rb, rfl, hR, hb9⟩
      have HV9 := hid (Below.next HV2.out hb9)
      have HRB := hid (f0_yes HL2.out hR)
      refine hK.out _ _ HV9.out (fun _ => ?_)
      clear hK K hb9 hR
      refine wpAnyH_readsN [4, 5, 6] (rest := 2) rfl (by kernel_rfl) (by kernel_rfl) HV9.out ?_
      simp only [List.filterMap, List.getElem?_cons_zero, List.getElem?_cons_succ]
      go_big_quiet_step (fail)
      go_big_quiet_step (fail)
      go_big_quiet_step (fail)
      refine wpQuiet_nil ?_
      refine wpAnyH_ready (rs := [7]) (by kernel_rfl) (by simp) ?_
      refine AllReadyH.cons rfl (fun K hK => ?_) AllReadyH.nil
      rw [if_pos (by rfl)]
      go_simp
      refine hK.out _ _ HV9.out (fun _ => ?_)
      clear hK K
      refine wpAnyH_ready (rs := [8]) (by kernel_rfl) (by simp) ?_
      refine AllReadyH.cons rfl (fun K hK => ?_) AllReadyH.nil
      rw [if_pos (by rfl)]
      go_simp
      refine hK.out _ _ HV9.out (fun _ => ?_)
      clear hK K
      refine wpAnyH_done (by kernel_rfl) ?_ _
      refine ⟨(fun c hc => by cases hc), ?_⟩
      go_wp2
      go_meet
      case rel => exact ⟨rb, rfl, HRB.out, ⟨Below.next HI.out.1 HV9.out, HI.out.2.1.kept HV9.out, HI.out.2.2.kept HV9.out⟩⟩
  case rest =>
    obtain ⟨rb, rfl, rfl, hI⟩ := hcut
    clear HI
    have HI0 := hid hI.out
    clear hI
    have x15 := HI0.out.2.2.cell 15 (v := .int .i64 0) rfl
    have g15 := HI0.out.2.2.frozen 15
    go_upto_region 5 with fail
    have W1 := wrote_setCell (i := 15) HI0.out.2.2 (.int .i64 (-1))
    have HI := hid (show Below w.heap.size w (wc.setCell ⟨w.heap.size + 2, 15, none⟩ (.int .i64 (-1))) ∧ Blk (wc.setCell ⟨w.heap.size + 2, 15, none⟩ (.int .i64 (-1))) (w.heap.size + 1) (leafT 1 0).vs 38 ∧ Blk (wc.setCell ⟨w.heap.size + 2, 15, none⟩ (.int .i64 (-1))) (w.heap.size + 2) (f0 (w.heap.size + 1) (-1)).vs 41 from ⟨W1.below (by omega) HI0.out.1, W1.keep HI0.out.2.1 (by omega), W1.blk⟩)
    clear W1 x15 g15 HI0
    generalize (wc.setCell ⟨w.heap.size + 2, 15, none⟩ (.int .i64 (-1))) = w2 at *
    go_cut [6] (fun b wx => ∃ rb : Int, b = .int .i64 rb ∧ rb = 11 ∧ Hid (Below w.heap.size w wx ∧ Blk wx (w.heap.size + 1) (leafT 1 0).vs 38 ∧ Blk wx (w.heap.size + 2) (f0 (w.heap.size + 1) (-1)).vs 41))
    case first =>
      have hCF : ∀ q, (∃ x : Wd (fun q => Below w2.heap.size w2 q), q = x.w) → q.rangeAt (w.heap.size + 2) 0 (f0 (w.heap.size + 1) (-1)).vs := by rintro _ ⟨x, rfl⟩; exact (HI.out.2.2.kept x.2).range
      have hNE : Nonempty (Wd (fun q => Below w2.heap.size w2 q)) := ⟨⟨_, Below.refl _ _⟩⟩
      refine wp_region_readsMN (fun q => Below w2.heap.size w2 q) [1] 8 (by kernel_rfl) rfl (by kernel_rfl) (hj_of (by kernel_rfl)) ((Below.refl _ _).drew) ?_
      simp only [List.filterMap, List.getElem?_cons_zero, List.getElem?_cons_succ]
      go_big_quiet_want
      refine quiet_load_row 41 (.tmp 2) rfl _ 0 (by kernel_rfl) (f0 (w.heap.size + 1) (-1)).vs _ hCF Tryz.underlying41 rfl (by kernel_rfl) ?_
      simp only [Act.put, List.setIfInBounds_toArray, List.set_cons_succ, List.set_cons_zero]
      go_big_quiet_on
      refine wpQuiet_nil ?_
      have HV0 := hid (show Below w2.heap.size w2 w2.drew from (Below.refl _ _).drew)
      generalize w2.drew = v0 at *
      refine wpAnyH_ready (rs := [0, 2]) (by kernel_rfl) (by simp) ?_
      refine AllReadyH.cons rfl (fun K hK => ?_) (AllReadyH.cons rfl (fun K hK => ?_) AllReadyH.nil)
      · rw [if_pos (by rfl)]
        go_simp
        refine (two10_any v0).mono ?_
        rintro _ v1 ⟨n, g, rfl, hL, hb9⟩
        have HV1 := hid (Below.next HV0.out hb9)
        have HL2 := hid hL
        refine hK.out _ _ HV1.out (fun _ => ?_)
        clear hK K hb9 hL
        refine wpAnyH_ready (rs := [2]) (by kernel_rfl) (by simp) ?_
        refine AllReadyH.cons rfl (fun K hK => ?_) AllReadyH.nil
        rw [if_pos (by rfl)]
        have hrn := run_slice1_fn (f0 (w.heap.size + 1) (-1)) v1
        have hb9 := below_alloc v1 (.cells (f0 (w.heap.size + 1) (-1)).vs.toArray 41)
        have HFB := hid (show Blk (v1.alloc (.cells (f0 (w.heap.size + 1) (-1)).vs.toArray 41)) v1.heap.size (f0 (w.heap.size + 1) (-1)).vs 41 from Blk.new v1 _ _)
        have HV2 := hid (Below.next HV1.out hb9)
        have HL3 := hid (show Lt2 n g _ from HL2.out.kept hb9)
        refine wp_sliceI 26 1 #[(0, .tmp 23)] rfl #[(0, .agg (f0 (w.heap.size + 1) (-1)).vs.toArray)] (by kernel_rfl) hrn ?_
        refine hK.out _ _ HV2.out (fun _ => ?_)
        clear hK K hrn hb9
        generalize (v1.alloc (.cells (f0 (w.heap.size + 1) (-1)).vs.toArray 41)) = v2 at *
        generalize v1.heap.size = BF at *
        refine wpAnyH_ready (rs := [3]) (by kernel_rfl) (by simp) ?_
        refine AllReadyH.cons rfl (fun K hK => ?_) AllReadyH.nil
        rw [if_pos (by rfl)]
        go_simp
        refine (Check_str n g (fl1 BF (f0 (w.heap.size + 1) (-1))) v2 HL3.out.nat HL3.out.gat (fl1_at (f0_at (HI.out.2.1.kept HV2.out)) HFB.out) (fun i _ => Nat.zero_le _) (fun k _ i hi => absurd hi (Nat.not_lt_zero _))).mono ?_
        rintro _ v9 ⟨ra, rb, rfl, hR, hb9⟩
        have HV9 := hid (Below.next HV2.out hb9)
        have HRB := hid (f0_no HL3.out hR)
        refine hK.out _ _ HV9.out (fun _ => ?_)
        clear hK K hb9 hR
        refine wpAnyH_readsN [4, 5, 6] (rest := 2) rfl (by kernel_rfl) (by kernel_rfl) HV9.out ?_
        simp only [List.filterMap, List.getElem?_cons_zero, List.getElem?_cons_succ]
        go_big_quiet_step (fail)
        go_big_quiet_step (fail)
        go_big_quiet_step (fail)
        refine wpQuiet_nil ?_
        refine wpAnyH_ready (rs := [7]) (by kernel_rfl) (by simp) ?_
        refine AllReadyH.cons rfl (fun K hK => ?_) AllReadyH.nil
        rw [if_pos (by rfl)]
        go_simp
        refine hK.out _ _ HV9.out (fun _ => ?_)
        clear hK K
        refine wpAnyH_ready (rs := [8]) (by kernel_rfl) (by simp) ?_
        refine AllReadyH.cons rfl (fun K hK => ?_) AllReadyH.nil
        rw [if_pos (by rfl)]
        go_simp
        refine hK.out _ _ HV9.out (fun _ => ?_)
        clear hK K
        refine wpAnyH_done (by kernel_rfl) ?_ _
        refine ⟨(fun c hc => by cases hc), ?_⟩
        go_wp2
        go_meet
        case rel => exact ⟨rb, rfl, HRB.out, ⟨Below.next HI.out.1 HV9.out, HI.out.2.1.kept HV9.out, HI.out.2.2.kept HV9.out⟩⟩
      · rw [if_pos (by rfl)]
        have hrn := run_slice1_fn (f0 (w.heap.size + 1) (-1)) v0
        have hb9 := below_alloc v0 (.cells (f0 (w.heap.size + 1) (-1)).vs.toArray 41)
        have HFB := hid (show Blk (v0.alloc (.cells (f0 (w.heap.size + 1) (-1)).vs.toArray 41)) v0.heap.size (f0 (w.heap.size + 1) (-1)).vs 41 from Blk.new v0 _ _)
        have HV1 := hid (Below.next HV0.out hb9)
        refine wp_sliceI 26 1 #[(0, .tmp 23)] rfl #[(0, .agg (f0 (w.heap.size + 1) (-1)).vs.toArray)] (by kernel_rfl) hrn ?_
        refine hK.out _ _ HV1.out (fun _ => ?_)
        clear hK K hrn hb9
        generalize (v0.alloc (.cells (f0 (w.heap.size + 1) (-1)).vs.toArray 41)) = v1 at *
        generalize v0.heap.size = BF at *
        refine wpAnyH_ready (rs := [0]) (by kernel_rfl) (by simp) ?_
        refine AllReadyH.cons rfl (fun K hK => ?_) AllReadyH.nil
        rw [if_pos (by rfl)]
        go_simp
        refine (two10_any v1).mono ?_
        rintro _ v2 ⟨n, g, rfl, hL, hb9⟩
        have HBB := hid hb9
        have HV2 := hid (Below.next HV1.out hb9)
        have HL2 := hid hL
        refine hK.out _ _ HV2.out (fun _ => ?_)
        clear hK K hb9 hL
        have HFC := hid (HFB.out.kept HBB.out)
        refine wpAnyH_ready (rs := [3]) (by kernel_rfl) (by simp) ?_
        refine AllReadyH.cons rfl (fun K hK => ?_) AllReadyH.nil
        rw [if_pos (by rfl)]
        go_simp
        refine (Check_str n g (fl1 BF (f0 (w.heap.size + 1) (-1))) v2 HL2.out.nat HL2.out.gat (fl1_at (f0_at (HI.out.2.1.kept HV2.out)) HFC.out) (fun i _ => Nat.zero_le _) (fun k _ i hi => absurd hi (Nat.not_lt_zero _))).mono ?_
        rintro _ v9 ⟨ra, rb, rfl, hR, hb9⟩
        have HV9 := hid (Below.next HV2.out hb9)
        have HRB := hid (f0_no HL2.out hR)
        refine hK.out _ _ HV9.out (fun _ => ?_)
        clear hK K hb9 hR
        refine wpAnyH_readsN [4, 5, 6] (rest := 2) rfl (by kernel_rfl) (by kernel_rfl) HV9.out ?_
        simp only [List.filterMap, List.getElem?_cons_zero, List.getElem?_cons_succ]
        go_big_quiet_step (fail)
        go_big_quiet_step (fail)
        go_big_quiet_step (fail)
        refine wpQuiet_nil ?_
        refine wpAnyH_ready (rs := [7]) (by kernel_rfl) (by simp) ?_
        refine AllReadyH.cons rfl (fun K hK => ?_) AllReadyH.nil
        rw [if_pos (by rfl)]
        go_simp
        refine hK.out _ _ HV9.out (fun _ => ?_)
        clear hK K
        refine wpAnyH_ready (rs := [8]) (by kernel_rfl) (by simp) ?_
        refine AllReadyH.cons rfl (fun K hK => ?_) AllReadyH.nil
        rw [if_pos (by rfl)]
        go_simp
        refine hK.out _ _ HV9.out (fun _ => ?_)
        clear hK K
        refine wpAnyH_done (by kernel_rfl) ?_ _
        refine ⟨(fun c hc => by cases hc), ?_⟩
        go_wp2
        go_meet
        case rel => exact ⟨rb, rfl, HRB.out, ⟨Below.next HI.out.1 HV9.out, HI.out.2.1.kept HV9.out, HI.out.2.2.kept HV9.out⟩⟩
    case rest =>
      obtain ⟨rb, rfl, rfl, hI⟩ := hcut
      have HI2 := hid hI.out
      clear hI HI
      go_wp2
      go_ret
      exact ⟨rfl, HI2.out.1⟩
end Go.Proofs.YtbdhbgilaeldgaaGreat
