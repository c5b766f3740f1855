/- Layer 2: a row of types that a call makes by append. -/
import Derived.Test.YtgbillimanpmnaaTyOrd
import Derived.Deep.AppendLies
namespace Go.Proofs.Ytgbillimanpmnaa
open Go.RowKit

/-- All blocks of a type's Parts meet Q. -/
def Ty.Blk (Q : Nat → Prop) : Ty → Prop
  | .dm => True
  | .mk _ _ _ _ _ b _ len _ ps => (0 < len → Q b) ∧ ∀ i, i < len → Ty.Blk Q (ps i)
theorem Ty.Blk.mono {Q R : Nat → Prop} (hQR : ∀ b, Q b → R b) : ∀ {t : Ty}, t.Blk Q → t.Blk R
  | .dm, _ => True.intro
  | .mk _ _ _ _ _ _ _ _ _ _, h => ⟨fun hl => hQR _ (h.1 hl), fun i hi => Ty.Blk.mono hQR (h.2 i hi)⟩
theorem Ty.Blk.and {Q R : Nat → Prop} : ∀ {t : Ty}, t.Blk Q → t.Blk R → t.Blk (fun b => Q b ∧ R b)
  | .dm, _, _ => True.intro
  | .mk _ _ _ _ _ _ _ _ _ _, h, k => ⟨fun hl => ⟨h.1 hl, k.1 hl⟩, fun i hi => Ty.Blk.and (h.2 i hi) (k.2 i hi)⟩
theorem Ty.At.lt {w : World} : ∀ {t : Ty}, t.At w → t.Blk (fun b => b < w.heap.size)
  | .dm, h => h.elim
  | .mk _ _ _ _ _ _ _ _ _ _, h => ⟨fun hl => cell_lt (h.2.2 0 hl).1.c0, fun i hi => Ty.At.lt (h.2.2 i hi).2⟩
theorem Ty.At.agree {w w' : World} {Q : Nat → Prop} (hag : ∀ b, Q b → w'.heap[b]? = w.heap[b]?) : ∀ {t : Ty}, t.At w → t.Blk Q → t.At w'
  | .dm, h, _ => h.elim
  | .mk _ _ _ _ _ b o len _ ps, h, k => ⟨h.1, h.2.1, fun i hi => by
      have e := hag b (k.1 (by omega))
      have C := (h.2.2 i hi).1
      exact ⟨⟨(World.cell?_of_block (w := w) e).trans C.c0, (World.cell?_of_block (w := w) e).trans C.c1, (World.cell?_of_block (w := w) e).trans C.c2, (World.cell?_of_block (w := w) e).trans C.c3, (World.cell?_of_block (w := w) e).trans C.c4⟩, Ty.At.agree hag (h.2.2 i hi).2 (k.2 i hi)⟩⟩

def Ty.vs (t : Ty) : List Value := [.int .i64 t.k, .int .i64 t.l, .slice t.ao t.len t.cap, .int .i64 t.h, .int .i64 t.e]
def flatT (ts : Nat → Ty) : Nat → List Value
  | 0 => []
  | j + 1 => flatT ts j ++ (ts j).vs
theorem flat_len (ts : Nat → Ty) : ∀ j, (flatT ts j).length = j * 5
  | 0 => rfl
  | j + 1 => by
    show (flatT ts j ++ (ts j).vs).length = _
    rw [List.length_append, flat_len ts j]
    show j * 5 + 5 = _
    omega
theorem flat_get (ts : Nat → Ty) : ∀ j i q, i < j → q < 5 → (flatT ts j)[i * 5 + q]? = (ts i).vs[q]?
  | 0, _, _, h, _ => absurd h (Nat.not_lt_zero _)
  | j + 1, i, q, hi, hq => by
    show (flatT ts j ++ (ts j).vs)[i * 5 + q]? = _
    have hl := flat_len ts j
    by_cases e : i = j
    · subst e
      rw [List.getElem?_append_right (by omega), hl]
      congr 1
      omega
    · rw [List.getElem?_append_left (by omega)]
      exact flat_get ts j i q (by omega) hq
theorem flat_congr {ts us : Nat → Ty} : ∀ j, (∀ i, i < j → ts i = us i) → flatT ts j = flatT us j
  | 0, _ => rfl
  | j + 1, h => by
    show flatT ts j ++ (ts j).vs = flatT us j ++ (us j).vs
    rw [flat_congr j (fun i hi => h i (by omega)), h j (by omega)]

/-- A row of j types that v owns, behind w0. -/
structure GRow (w0 wr : World) (v : Value) (j : Nat) (ts : Nat → Ty) : Prop where
  bl : Below w0.heap.size w0 wr
  own : wr.ownsRow w0.heap.size 28 5 v j (flatT ts j)
  at' : ∀ i, i < j → (ts i).At wr
  blk : ∀ i, i < j → (ts i).Blk (fun b => w0.heap.size ≤ b ∧ some b ≠ v.ownBlock)
theorem GRow.start (w : World) (ts : Nat → Ty) : GRow w w (.slice none 0 0) 0 ts :=
  ⟨Below.refl _ _, World.ownsRow_nil _ _ _ _, fun _ h => absurd h (Nat.not_lt_zero _), fun _ h => absurd h (Nat.not_lt_zero _)⟩
theorem own_lt {w : World} {base : Nat} {e : TypeId} {size : Nat} {v : Value} {n : Nat} {xs : List Value} (h : w.ownsRow base e size v n xs) {b : Nat} (hb : v.ownBlock = some b) : b < w.heap.size := by
  obtain ⟨cur, hc⟩ := own_type h hb
  exact (Array.getElem?_eq_some_iff.1 hc).1

theorem GRow.push {w0 wr w1 w3 : World} {v : Value} {j : Nat} {ts : Nat → Ty} {t : Ty} {gg cap : Nat} (h : GRow w0 wr v j ts) (hb : Below wr.heap.size wr w1) (ht : t.At w1) (hk : t.Blk (fun b => wr.heap.size ≤ b))
    (hown : w3.ownsRow w0.heap.size 28 5 (.slice (some ⟨gg, 0, none⟩) (j + 1) cap) (j + 1) (flatT ts j ++ t.vs)) (hgrow : (w1.alloc (tyO t)).grownBy w3 v.ownBlock) (hat : v.ownBlock = some gg ∨ gg = w1.heap.size + 1) :
    GRow w0 w3 (.slice (some ⟨gg, 0, none⟩) (j + 1) cap) (j + 1) (fun i => if i < j then ts i else t) := by
  have s1 := h.bl.size
  have s2 := hb.size
  have ba := below_alloc w1 (tyO t)
  have sz : (w1.alloc (tyO t)).heap.size = w1.heap.size + 1 := alloc_size _ _
  have old1 : ∀ b, b < w1.heap.size → some b ≠ v.ownBlock → w3.heap[b]? = w1.heap[b]? := fun b hb1 hne => (hgrow.block b (by rw [sz]; omega) hne).trans (ba.block b hb1)
  have old : ∀ b, b < wr.heap.size → some b ≠ v.ownBlock → w3.heap[b]? = wr.heap[b]? := fun b hb1 hne => (old1 b (by omega) hne).trans (hb.block b hb1)
  have lt : ∀ b, v.ownBlock = some b → b < wr.heap.size := fun b hb' => own_lt h.own hb'
  have nat : t.At w3 := Ty.At.agree (Q := fun b => wr.heap.size ≤ b ∧ b < w1.heap.size) (fun b hq => old1 b hq.2 (fun e => by have := lt b e.symm; omega)) ht (hk.and ht.lt)
  refine ⟨?_, ?_, fun i hi => ?_, fun i hi => ?_⟩
  · refine ⟨hgrow.os.trans (ba.os.trans (hb.os.trans h.bl.os)), hgrow.tape.trans (ba.tape.trans (hb.tape.trans h.bl.tape)), hgrow.output.trans (ba.output.trans (hb.output.trans h.bl.output)), ?_, fun b hb1 => ?_⟩
    · have := hgrow.size
      omega
    · rw [old b (by omega) (fun e => by have := own_ge h.own e.symm; omega)]
      exact h.bl.block b hb1
  · have e : flatT (fun i => if i < j then ts i else t) (j + 1) = flatT ts j ++ t.vs := by
      show flatT (fun i => if i < j then ts i else t) j ++ (if j < j then ts j else t).vs = _
      rw [flat_congr j (us := ts) (fun i hi => by simp [hi]), if_neg (Nat.lt_irrefl _)]
    rw [e]; exact hown
  · by_cases hij : i < j
    · simp only [hij, if_true]
      exact Ty.At.agree (Q := fun b => (w0.heap.size ≤ b ∧ some b ≠ v.ownBlock) ∧ b < wr.heap.size) (fun b hq => old b hq.2 hq.1.2) (h.at' i hij) ((h.blk i hij).and (h.at' i hij).lt)
    · simp only [hij, if_false]
      exact nat
  · have key : ∀ b, (b < wr.heap.size ∧ some b ≠ v.ownBlock) ∨ (wr.heap.size ≤ b ∧ b < w1.heap.size) → some b ≠ (Value.slice (some ⟨gg, 0, none⟩) (j + 1) cap).ownBlock := fun b hq e => by
      have e' : b = gg := by simpa [Value.ownBlock] using e
      subst e'
      rcases hat with hat | hat
      · rcases hq with hq | hq
        · exact hq.2 hat.symm
        · have := lt b hat; omega
      · rcases hq with hq | hq <;> omega
    by_cases hij : i < j
    · simp only [hij, if_true]
      exact ((h.blk i hij).and (h.at' i hij).lt).mono (fun b hq => ⟨hq.1.1, key b (Or.inl ⟨hq.2, hq.1.2⟩)⟩)
    · simp only [hij, if_false]
      exact (hk.and ht.lt).mono (fun b hq => ⟨by omega, key b (Or.inr hq)⟩)

/-- The row's type. -/
theorem GRow.ty {w0 wr : World} {v : Value} {j : Nat} {ts : Nat → Ty} (h : GRow w0 wr v j ts) (hj : j ≤ 9223372036854775807) : ∃ (ao : Option Addr) (gg cap : Nat), v = .slice ao j cap ∧ ∀ k l hh e, Ty.At wr (.mk k l hh e ao gg 0 j cap ts) ∧ Ty.Blk (fun b => w0.heap.size ≤ b) (.mk k l hh e ao gg 0 j cap ts) := by
  by_cases h0 : 0 < j
  · obtain ⟨gg, cap, rfl, hge, _⟩ := h.own.form h0
    refine ⟨_, gg, cap, rfl, fun k l hh e => ⟨⟨fun _ => rfl, hj, fun i hi => ⟨?_, h.at' i hi⟩⟩, fun _ => hge, fun i hi => (h.blk i hi).mono (fun b hq => hq.1)⟩⟩
    have get : ∀ q, q < 5 → wr.cell? ⟨gg, 0 + i * 5 + q, none⟩ = (ts i).vs[q]? := fun q hq => by
      rw [Nat.zero_add, h.own.cellAt (i * 5 + q) (by omega), flat_get ts j i q hi hq]
    exact ⟨get 0 (by omega), get 1 (by omega), get 2 (by omega), get 3 (by omega), get 4 (by omega)⟩
  · have e : j = 0 := by omega
    subst e
    obtain ⟨_, ⟨rfl, _⟩ | ⟨gb, cap, cur, rfl, hg, _⟩⟩ := h.own
    · exact ⟨none, 0, 0, rfl, fun k l hh e => ⟨⟨fun h => absurd h (Nat.lt_irrefl _), hj, fun _ h => absurd h (Nat.not_lt_zero _)⟩, fun h => absurd h (Nat.lt_irrefl _), fun _ h => absurd h (Nat.not_lt_zero _)⟩⟩
    · exact ⟨_, gb, cap, rfl, fun k l hh e => ⟨⟨fun _ => rfl, hj, fun _ h => absurd h (Nat.not_lt_zero _)⟩, fun h => absurd h (Nat.lt_irrefl _), fun _ h => absurd h (Nat.not_lt_zero _)⟩⟩
end Go.Proofs.Ytgbillimanpmnaa
