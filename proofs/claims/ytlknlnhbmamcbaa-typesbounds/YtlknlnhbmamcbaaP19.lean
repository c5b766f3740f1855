/- Layer 2: the reference's Join, Meet and Raise. -/
import Derived.Test.YtlknlnhbmamcbaaP17
import Derived.Test.YtlknlnhbmamcbaaP18
import Derived.Test.YtlknlnhbmamcbaaP12
namespace Go.Proofs.Ytlknlnhbmamcbaa
open Go.RowKit

/-- What the reference's Join (up) and Meet answer. -/
def RJP (w : World) (n : Strs) (g : Grid) (s t : Ty) (up : Bool) (e : Ending) (w' : World) : Prop :=
  ∃ u : Ty, e = .returned (.tuple #[.agg #[.int .i64 u.k, .int .i64 u.l, .slice u.ao u.len u.cap, .int .i64 u.h, .int .i64 u.e], .bool (bokB n g s t)]) ∧ u.At w' ∧ (bokB n g s t = true → u.same (s.bnd n g t up) = true) ∧ (bokB n g s t = false → u = leafT 0 0) ∧ Below w.heap.size w w'
theorem RJP.intro {w : World} {n : Strs} {g : Grid} {s t : Ty} {up : Bool} {e : Ending} {w' : World} (u : Ty) (h1 : e = .returned (.tuple #[.agg #[.int .i64 u.k, .int .i64 u.l, .slice u.ao u.len u.cap, .int .i64 u.h, .int .i64 u.e], .bool (bokB n g s t)])) (h2 : u.At w') (h4 : bokB n g s t = true → u.same (s.bnd n g t up) = true) (h5 : bokB n g s t = false → u = leafT 0 0) (h6 : Below w.heap.size w w') : RJP w n g s t up e w' := ⟨u, h1, h2, h4, h5, h6⟩
theorem RJP.no {w : World} {n : Strs} {g : Grid} {s t : Ty} {up : Bool} {w' : World} (hk : bokB n g s t = false) (h6 : Below w.heap.size w w') : RJP w n g s t up (.returned (.tuple #[.agg #[.int .i64 0, .int .i64 0, .slice none 0 0, .int .i64 0, .int .i64 0], .bool false])) w' :=
  ⟨leafT 0 0, by rw [hk]; rfl, leaf_at _ _ _, fun h => absurd (hk.symm.trans h) (by decide), fun _ => rfl, h6⟩

set_option maxRecDepth 100000 in
set_option maxHeartbeats 4000000 in
theorem rJoin_any2 (n : Strs) (g : Grid) (s t : Ty) (w : World) (hn : n.At w) (hg : g.At w) (hs : s.At w) (ht : t.At w) :
    Calls Try.prog 22 #[.agg #[.slice n.ao n.len n.cap, .slice g.ao g.len g.cap], .agg #[.int .i64 s.k, .int .i64 s.l, .slice s.ao s.len s.cap, .int .i64 s.h, .int .i64 s.e], .agg #[.int .i64 t.k, .int .i64 t.l, .slice t.ao t.len t.cap, .int .i64 t.h, .int .i64 t.e]] w fun e w' => RJP w n g s t true e w' := by
  have K0 := bbox_new w n g s t
  have HN : Hid (n.At w ∧ g.At w ∧ s.At w ∧ t.At w) := ⟨hn, hg, hs, ht⟩
  clear hn hg hs ht
  unfold latO tyO at *
  have l0 := K0.l.c0
  have l1 := K0.l.c1
  have x0 := K0.x.c0
  have x1 := K0.x.c1
  have x2 := K0.x.c2
  have x3 := K0.x.c3
  have x4 := K0.x.c4
  have H1 := rFormed2_any n g s _ (HN.out.1.kept K0.bl) (HN.out.2.1.kept K0.bl) (HN.out.2.2.1.kept K0.bl)
  go_enter Try.func22, Try.ntmps22
  go_wp2_with fail
  refine H1.mono ?_
  rintro e w1 ⟨rfl, hb1⟩
  have K1 := K0.step hb1
  clear H1 l0 l1 x0 x1 x2 x3 x4 K0 hb1
  cases o1 : okB n g s
  · have HV : Hid (bokB n g s t = false) := by show bokB n g s t = false; unfold bokB; rw [o1]; rfl
    clear o1
    have HR : Hid (Bx w1 (w.heap.size + 3) (leafT 0 0) ∧ ∀ i, i < 5 → w1.frozen? ⟨w.heap.size + 3, i, none⟩ = false) := ⟨K1.r, K1.fr⟩
    have HBE : Hid (Below w.heap.size w (World.put5 w1 (w.heap.size + 3) (.int .i64 0) (.int .i64 0) (.slice none 0 0) (.int .i64 0) (.int .i64 0))) := put5_below (by omega) K1.bl _ _ _ _ _
    clear K1
    go_wp2_with (refine wpList_store5 rfl rfl _ _ rfl (w.heap.size + 3) _ _ _ _ _ rfl rfl rfl rfl rfl rfl rfl HR.out.1 HR.out.2 ?_)
    obtain ⟨e0, e1, e2, e3, e4⟩ := put5_cells (.int .i64 0) (.int .i64 0) (.slice none 0 0) (.int .i64 0) (.int .i64 0) HR.out.1 HR.out.2
    exact bodyPost_ret (v := .tuple #[.agg #[.int .i64 0, .int .i64 0, .slice none 0 0, .int .i64 0, .int .i64 0], .bool false]) (by simp [results, Try.results22, go_sem, e0, e1, e2, e3, e4]) rfl (RJP.no HV.out HBE.out)
  have l0 := K1.l.c0
  have l1 := K1.l.c1
  have y0 := K1.y.c0
  have y1 := K1.y.c1
  have y2 := K1.y.c2
  have y3 := K1.y.c3
  have y4 := K1.y.c4
  have H2 := rFormed2_any n g t _ (HN.out.1.kept K1.bl) (HN.out.2.1.kept K1.bl) (HN.out.2.2.2.kept K1.bl)
  have HO : Hid (okB n g s = true) := o1
  clear o1
  go_wp2_with fail
  refine H2.mono ?_
  rintro e w2 ⟨rfl, hb2⟩
  have K2 := K1.step hb2
  clear H2 l0 l1 y0 y1 y2 y3 y4 K1 hb2
  cases o2 : okB n g t
  · have HV : Hid (bokB n g s t = false) := by show bokB n g s t = false; unfold bokB; rw [HO.out, o2]; rfl
    clear o2
    have HR : Hid (Bx w2 (w.heap.size + 3) (leafT 0 0) ∧ ∀ i, i < 5 → w2.frozen? ⟨w.heap.size + 3, i, none⟩ = false) := ⟨K2.r, K2.fr⟩
    have HBE : Hid (Below w.heap.size w (World.put5 w2 (w.heap.size + 3) (.int .i64 0) (.int .i64 0) (.slice none 0 0) (.int .i64 0) (.int .i64 0))) := put5_below (by omega) K2.bl _ _ _ _ _
    clear K2
    go_wp2_with (refine wpList_store5 rfl rfl _ _ rfl (w.heap.size + 3) _ _ _ _ _ rfl rfl rfl rfl rfl rfl rfl HR.out.1 HR.out.2 ?_)
    obtain ⟨e0, e1, e2, e3, e4⟩ := put5_cells (.int .i64 0) (.int .i64 0) (.slice none 0 0) (.int .i64 0) (.int .i64 0) HR.out.1 HR.out.2
    exact bodyPost_ret (v := .tuple #[.agg #[.int .i64 0, .int .i64 0, .slice none 0 0, .int .i64 0, .int .i64 0], .bool false]) (by simp [results, Try.results22, go_sem, e0, e1, e2, e3, e4]) rfl (RJP.no HV.out HBE.out)
  have HV : Hid (bokB n g s t = s.bok t) := by show bokB n g s t = s.bok t; unfold bokB; rw [HO.out, o2]; rfl
  have q1 := HO.out
  unfold okB at q1 o2
  rw [Bool.and_eq_true] at q1 o2
  obtain ⟨f1, m1⟩ := ok_parts q1.2
  obtain ⟨f2, _⟩ := ok_parts o2.2
  have hD := rbound_any n g q1.1 s t true w2 ⟨1, f1⟩ ⟨1, f2⟩ (by omega) (HN.out.1.kept K2.bl) (HN.out.2.1.kept K2.bl) (HN.out.2.2.1.kept K2.bl) (HN.out.2.2.2.kept K2.bl)
  clear q1 o2 f1 f2 m1 HO
  have l0 := K2.l.c0
  have l1 := K2.l.c1
  have x0 := K2.x.c0
  have x1 := K2.x.c1
  have x2 := K2.x.c2
  have x3 := K2.x.c3
  have x4 := K2.x.c4
  have y0 := K2.y.c0
  have y1 := K2.y.c1
  have y2 := K2.y.c2
  have y3 := K2.y.c3
  have y4 := K2.y.c4
  go_wp2_with fail
  refine hD.mono ?_
  intro e w3 hBP
  obtain ⟨u, rfl, uA, uB, uS, hb3⟩ := hBP
  have N3 := Bx.new w3 u
  have Bx3 := below_alloc w3 (.cells #[.int .i64 u.k, .int .i64 u.l, .slice u.ao u.len u.cap, .int .i64 u.h, .int .i64 u.e] 28)
  have K3 := (K2.step hb3).step Bx3
  have uA3 := uA.kept Bx3
  have HU : Hid (u.Blk (fun b => b ≠ w.heap.size + 3) ∧ (s.bok t = true → u.same (s.bnd n g t true) = true)) := ⟨(uB _ HN.out.2.2.1.lt).mono (fun b hb => by have := K2.sz; rcases hb with h | h <;> omega), uS⟩
  clear K2 hD uA uB uS hb3 Bx3 l0 l1 x0 x1 x2 x3 x4 y0 y1 y2 y3 y4
  generalize hB4 : w3.alloc (.cells #[.int .i64 u.k, .int .i64 u.l, .slice u.ao u.len u.cap, .int .i64 u.h, .int .i64 u.e] 28) = w4 at *
  cases hok : s.bok t
  · rw [hok] at HV
    clear hok
    have HR : Hid (Bx w4 (w.heap.size + 3) (leafT 0 0) ∧ ∀ i, i < 5 → w4.frozen? ⟨w.heap.size + 3, i, none⟩ = false) := ⟨K3.r, K3.fr⟩
    have HBE : Hid (Below w.heap.size w (World.put5 w4 (w.heap.size + 3) (.int .i64 0) (.int .i64 0) (.slice none 0 0) (.int .i64 0) (.int .i64 0))) := put5_below (by omega) K3.bl _ _ _ _ _
    clear K3
    go_wp2_with (refine wpList_store5 rfl rfl _ _ rfl (w.heap.size + 3) _ _ _ _ _ rfl rfl rfl rfl rfl rfl rfl HR.out.1 HR.out.2 ?_)
    obtain ⟨e0, e1, e2, e3, e4⟩ := put5_cells (.int .i64 0) (.int .i64 0) (.slice none 0 0) (.int .i64 0) (.int .i64 0) HR.out.1 HR.out.2
    exact bodyPost_ret (v := .tuple #[.agg #[.int .i64 0, .int .i64 0, .slice none 0 0, .int .i64 0, .int .i64 0], .bool false]) (by simp [results, Try.results22, go_sem, e0, e1, e2, e3, e4]) rfl (RJP.no HV.out HBE.out)
  · rw [hok] at HV
    have HS : Hid (u.same (s.bnd n g t true) = true) := HU.out.2 hok
    clear hok
    have y0 := N3.c0
    have y1 := N3.c1
    have y2 := N3.c2
    have y3 := N3.c3
    have y4 := N3.c4
    have HR : Hid (Bx w4 (w.heap.size + 3) (leafT 0 0) ∧ ∀ i, i < 5 → w4.frozen? ⟨w.heap.size + 3, i, none⟩ = false) := ⟨K3.r, K3.fr⟩
    have HBE : Hid (Below w.heap.size w (World.put5 w4 (w.heap.size + 3) (.int .i64 u.k) (.int .i64 u.l) (.slice u.ao u.len u.cap) (.int .i64 u.h) (.int .i64 u.e))) := put5_below (by omega) K3.bl _ _ _ _ _
    have HA : Hid (u.At (World.put5 w4 (w.heap.size + 3) (.int .i64 u.k) (.int .i64 u.l) (.slice u.ao u.len u.cap) (.int .i64 u.h) (.int .i64 u.e))) := Ty.At.agree (Q := fun b => b ≠ w.heap.size + 3) (fun b hb => put5_heap _ _ _ _ _ _ _ hb) uA3 HU.out.1
    clear K3 N3 uA3
    go_wp2_with (refine wpList_store5 rfl rfl _ _ rfl (w.heap.size + 3) _ _ _ _ _ rfl rfl rfl rfl rfl rfl rfl HR.out.1 HR.out.2 ?_)
    obtain ⟨e0, e1, e2, e3, e4⟩ := put5_cells (.int .i64 u.k) (.int .i64 u.l) (.slice u.ao u.len u.cap) (.int .i64 u.h) (.int .i64 u.e) HR.out.1 HR.out.2
    exact bodyPost_ret (v := .tuple #[.agg #[.int .i64 u.k, .int .i64 u.l, .slice u.ao u.len u.cap, .int .i64 u.h, .int .i64 u.e], .bool true]) (by simp [results, Try.results22, go_sem, e0, e1, e2, e3, e4]) rfl (RJP.intro u (by rw [HV.out]) HA.out (fun _ => HS.out) (fun h => absurd (HV.out.symm.trans h) (by decide)) HBE.out)

set_option maxRecDepth 100000 in
set_option maxHeartbeats 4000000 in
theorem rMeet_any2 (n : Strs) (g : Grid) (s t : Ty) (w : World) (hn : n.At w) (hg : g.At w) (hs : s.At w) (ht : t.At w) :
    Calls Try.prog 24 #[.agg #[.slice n.ao n.len n.cap, .slice g.ao g.len g.cap], .agg #[.int .i64 s.k, .int .i64 s.l, .slice s.ao s.len s.cap, .int .i64 s.h, .int .i64 s.e], .agg #[.int .i64 t.k, .int .i64 t.l, .slice t.ao t.len t.cap, .int .i64 t.h, .int .i64 t.e]] w fun e w' => RJP w n g s t false e w' := by
  have K0 := bbox_new w n g s t
  have HN : Hid (n.At w ∧ g.At w ∧ s.At w ∧ t.At w) := ⟨hn, hg, hs, ht⟩
  clear hn hg hs ht
  unfold latO tyO at *
  have l0 := K0.l.c0
  have l1 := K0.l.c1
  have x0 := K0.x.c0
  have x1 := K0.x.c1
  have x2 := K0.x.c2
  have x3 := K0.x.c3
  have x4 := K0.x.c4
  have H1 := rFormed2_any n g s _ (HN.out.1.kept K0.bl) (HN.out.2.1.kept K0.bl) (HN.out.2.2.1.kept K0.bl)
  go_enter Try.func24, Try.ntmps24
  go_wp2_with fail
  refine H1.mono ?_
  rintro e w1 ⟨rfl, hb1⟩
  have K1 := K0.step hb1
  clear H1 l0 l1 x0 x1 x2 x3 x4 K0 hb1
  cases o1 : okB n g s
  · have HV : Hid (bokB n g s t = false) := by show bokB n g s t = false; unfold bokB; rw [o1]; rfl
    clear o1
    have HR : Hid (Bx w1 (w.heap.size + 3) (leafT 0 0) ∧ ∀ i, i < 5 → w1.frozen? ⟨w.heap.size + 3, i, none⟩ = false) := ⟨K1.r, K1.fr⟩
    have HBE : Hid (Below w.heap.size w (World.put5 w1 (w.heap.size + 3) (.int .i64 0) (.int .i64 0) (.slice none 0 0) (.int .i64 0) (.int .i64 0))) := put5_below (by omega) K1.bl _ _ _ _ _
    clear K1
    go_wp2_with (refine wpList_store5 rfl rfl _ _ rfl (w.heap.size + 3) _ _ _ _ _ rfl rfl rfl rfl rfl rfl rfl HR.out.1 HR.out.2 ?_)
    obtain ⟨e0, e1, e2, e3, e4⟩ := put5_cells (.int .i64 0) (.int .i64 0) (.slice none 0 0) (.int .i64 0) (.int .i64 0) HR.out.1 HR.out.2
    exact bodyPost_ret (v := .tuple #[.agg #[.int .i64 0, .int .i64 0, .slice none 0 0, .int .i64 0, .int .i64 0], .bool false]) (by simp [results, Try.results24, go_sem, e0, e1, e2, e3, e4]) rfl (RJP.no HV.out HBE.out)
  have l0 := K1.l.c0
  have l1 := K1.l.c1
  have y0 := K1.y.c0
  have y1 := K1.y.c1
  have y2 := K1.y.c2
  have y3 := K1.y.c3
  have y4 := K1.y.c4
  have H2 := rFormed2_any n g t _ (HN.out.1.kept K1.bl) (HN.out.2.1.kept K1.bl) (HN.out.2.2.2.kept K1.bl)
  have HO : Hid (okB n g s = true) := o1
  clear o1
  go_wp2_with fail
  refine H2.mono ?_
  rintro e w2 ⟨rfl, hb2⟩
  have K2 := K1.step hb2
  clear H2 l0 l1 y0 y1 y2 y3 y4 K1 hb2
  cases o2 : okB n g t
  · have HV : Hid (bokB n g s t = false) := by show bokB n g s t = false; unfold bokB; rw [HO.out, o2]; rfl
    clear o2
    have HR : Hid (Bx w2 (w.heap.size + 3) (leafT 0 0) ∧ ∀ i, i < 5 → w2.frozen? ⟨w.heap.size + 3, i, none⟩ = false) := ⟨K2.r, K2.fr⟩
    have HBE : Hid (Below w.heap.size w (World.put5 w2 (w.heap.size + 3) (.int .i64 0) (.int .i64 0) (.slice none 0 0) (.int .i64 0) (.int .i64 0))) := put5_below (by omega) K2.bl _ _ _ _ _
    clear K2
    go_wp2_with (refine wpList_store5 rfl rfl _ _ rfl (w.heap.size + 3) _ _ _ _ _ rfl rfl rfl rfl rfl rfl rfl HR.out.1 HR.out.2 ?_)
    obtain ⟨e0, e1, e2, e3, e4⟩ := put5_cells (.int .i64 0) (.int .i64 0) (.slice none 0 0) (.int .i64 0) (.int .i64 0) HR.out.1 HR.out.2
    exact bodyPost_ret (v := .tuple #[.agg #[.int .i64 0, .int .i64 0, .slice none 0 0, .int .i64 0, .int .i64 0], .bool false]) (by simp [results, Try.results24, go_sem, e0, e1, e2, e3, e4]) rfl (RJP.no HV.out HBE.out)
  have HV : Hid (bokB n g s t = s.bok t) := by show bokB n g s t = s.bok t; unfold bokB; rw [HO.out, o2]; rfl
  have q1 := HO.out
  unfold okB at q1 o2
  rw [Bool.and_eq_true] at q1 o2
  obtain ⟨f1, m1⟩ := ok_parts q1.2
  obtain ⟨f2, _⟩ := ok_parts o2.2
  have hD := rbound_any n g q1.1 s t false w2 ⟨1, f1⟩ ⟨1, f2⟩ (by omega) (HN.out.1.kept K2.bl) (HN.out.2.1.kept K2.bl) (HN.out.2.2.1.kept K2.bl) (HN.out.2.2.2.kept K2.bl)
  clear q1 o2 f1 f2 m1 HO
  have l0 := K2.l.c0
  have l1 := K2.l.c1
  have x0 := K2.x.c0
  have x1 := K2.x.c1
  have x2 := K2.x.c2
  have x3 := K2.x.c3
  have x4 := K2.x.c4
  have y0 := K2.y.c0
  have y1 := K2.y.c1
  have y2 := K2.y.c2
  have y3 := K2.y.c3
  have y4 := K2.y.c4
  go_wp2_with fail
  refine hD.mono ?_
  intro e w3 hBP
  obtain ⟨u, rfl, uA, uB, uS, hb3⟩ := hBP
  have N3 := Bx.new w3 u
  have Bx3 := below_alloc w3 (.cells #[.int .i64 u.k, .int .i64 u.l, .slice u.ao u.len u.cap, .int .i64 u.h, .int .i64 u.e] 28)
  have K3 := (K2.step hb3).step Bx3
  have uA3 := uA.kept Bx3
  have HU : Hid (u.Blk (fun b => b ≠ w.heap.size + 3) ∧ (s.bok t = true → u.same (s.bnd n g t false) = true)) := ⟨(uB _ HN.out.2.2.1.lt).mono (fun b hb => by have := K2.sz; rcases hb with h | h <;> omega), uS⟩
  clear K2 hD uA uB uS hb3 Bx3 l0 l1 x0 x1 x2 x3 x4 y0 y1 y2 y3 y4
  generalize hB4 : w3.alloc (.cells #[.int .i64 u.k, .int .i64 u.l, .slice u.ao u.len u.cap, .int .i64 u.h, .int .i64 u.e] 28) = w4 at *
  cases hok : s.bok t
  · rw [hok] at HV
    clear hok
    have HR : Hid (Bx w4 (w.heap.size + 3) (leafT 0 0) ∧ ∀ i, i < 5 → w4.frozen? ⟨w.heap.size + 3, i, none⟩ = false) := ⟨K3.r, K3.fr⟩
    have HBE : Hid (Below w.heap.size w (World.put5 w4 (w.heap.size + 3) (.int .i64 0) (.int .i64 0) (.slice none 0 0) (.int .i64 0) (.int .i64 0))) := put5_below (by omega) K3.bl _ _ _ _ _
    clear K3
    go_wp2_with (refine wpList_store5 rfl rfl _ _ rfl (w.heap.size + 3) _ _ _ _ _ rfl rfl rfl rfl rfl rfl rfl HR.out.1 HR.out.2 ?_)
    obtain ⟨e0, e1, e2, e3, e4⟩ := put5_cells (.int .i64 0) (.int .i64 0) (.slice none 0 0) (.int .i64 0) (.int .i64 0) HR.out.1 HR.out.2
    exact bodyPost_ret (v := .tuple #[.agg #[.int .i64 0, .int .i64 0, .slice none 0 0, .int .i64 0, .int .i64 0], .bool false]) (by simp [results, Try.results24, go_sem, e0, e1, e2, e3, e4]) rfl (RJP.no HV.out HBE.out)
  · rw [hok] at HV
    have HS : Hid (u.same (s.bnd n g t false) = true) := HU.out.2 hok
    clear hok
    have y0 := N3.c0
    have y1 := N3.c1
    have y2 := N3.c2
    have y3 := N3.c3
    have y4 := N3.c4
    have HR : Hid (Bx w4 (w.heap.size + 3) (leafT 0 0) ∧ ∀ i, i < 5 → w4.frozen? ⟨w.heap.size + 3, i, none⟩ = false) := ⟨K3.r, K3.fr⟩
    have HBE : Hid (Below w.heap.size w (World.put5 w4 (w.heap.size + 3) (.int .i64 u.k) (.int .i64 u.l) (.slice u.ao u.len u.cap) (.int .i64 u.h) (.int .i64 u.e))) := put5_below (by omega) K3.bl _ _ _ _ _
    have HA : Hid (u.At (World.put5 w4 (w.heap.size + 3) (.int .i64 u.k) (.int .i64 u.l) (.slice u.ao u.len u.cap) (.int .i64 u.h) (.int .i64 u.e))) := Ty.At.agree (Q := fun b => b ≠ w.heap.size + 3) (fun b hb => put5_heap _ _ _ _ _ _ _ hb) uA3 HU.out.1
    clear K3 N3 uA3
    go_wp2_with (refine wpList_store5 rfl rfl _ _ rfl (w.heap.size + 3) _ _ _ _ _ rfl rfl rfl rfl rfl rfl rfl HR.out.1 HR.out.2 ?_)
    obtain ⟨e0, e1, e2, e3, e4⟩ := put5_cells (.int .i64 u.k) (.int .i64 u.l) (.slice u.ao u.len u.cap) (.int .i64 u.h) (.int .i64 u.e) HR.out.1 HR.out.2
    exact bodyPost_ret (v := .tuple #[.agg #[.int .i64 u.k, .int .i64 u.l, .slice u.ao u.len u.cap, .int .i64 u.h, .int .i64 u.e], .bool true]) (by simp [results, Try.results24, go_sem, e0, e1, e2, e3, e4]) rfl (RJP.intro u (by rw [HV.out]) HA.out (fun _ => HS.out) (fun h => absurd (HV.out.symm.trans h) (by decide)) HBE.out)

/-- What the reference's Raise answers. -/
def RRP (w : World) (r : Ty) (e : Ending) (w' : World) : Prop :=
  ∃ u : Ty, e = .returned (.agg #[.int .i64 u.k, .int .i64 u.l, .slice u.ao u.len u.cap, .int .i64 u.h, .int .i64 u.e]) ∧ u.At w' ∧ u.same r = true ∧ Below w.heap.size w w'
theorem RRP.intro {w : World} {r : Ty} {e : Ending} {w' : World} (u : Ty) (h1 : e = .returned (.agg #[.int .i64 u.k, .int .i64 u.l, .slice u.ao u.len u.cap, .int .i64 u.h, .int .i64 u.e])) (h2 : u.At w') (h4 : u.same r = true) (h5 : Below w.heap.size w w') : RRP w r e w' := ⟨u, h1, h2, h4, h5⟩

set_option maxRecDepth 100000 in
set_option maxHeartbeats 4000000 in
theorem rRaise_any (n : Strs) (g : Grid) (t : Ty) (a : Int) (w : World) (hn : n.At w) (hg : g.At w) (ht : t.At w) :
    Calls Try.prog 26 #[.agg #[.slice n.ao n.len n.cap, .slice g.ao g.len g.cap], .agg #[.int .i64 t.k, .int .i64 t.l, .slice t.ao t.len t.cap, .int .i64 t.h, .int .i64 t.e], .int .i64 a] w fun e w' => RRP w (raiseT n g t a) e w' := by
  have K0 := rbox_new w n g t
  have HN : Hid (n.At w ∧ g.At w ∧ t.At w) := ⟨hn, hg, ht⟩
  clear hn hg ht
  unfold latO tyO at *
  have l0 := K0.l.c0
  have l1 := K0.l.c1
  have x0 := K0.x.c0
  have x1 := K0.x.c1
  have x2 := K0.x.c2
  have x3 := K0.x.c3
  have x4 := K0.x.c4
  have H1 := rFormed2_any n g t _ (HN.out.1.kept K0.bl) (HN.out.2.1.kept K0.bl) (HN.out.2.2.kept K0.bl)
  go_enter Try.func26, Try.ntmps26
  go_wp2_with fail
  refine H1.mono ?_
  rintro e w1 ⟨rfl, hb1⟩
  have K1 := K0.step hb1
  clear H1 l0 l1 x0 x1 x2 x3 x4 K0 hb1
  cases o1 : okB n g t
  · have HV : Hid (raiseT n g t a = leafT 0 0) := by show raiseT n g t a = leafT 0 0; unfold raiseT; rw [o1]; rfl
    clear o1
    have HR : Hid (Bx w1 (w.heap.size + 2) (leafT 0 0) ∧ ∀ i, i < 5 → w1.frozen? ⟨w.heap.size + 2, i, none⟩ = false) := ⟨K1.r, K1.fr⟩
    have HBE : Hid (Below w.heap.size w (World.put5 w1 (w.heap.size + 2) (.int .i64 0) (.int .i64 0) (.slice none 0 0) (.int .i64 0) (.int .i64 0))) := put5_below (by omega) K1.bl _ _ _ _ _
    clear K1
    go_wp2_with (refine wpList_store5 rfl rfl _ _ rfl (w.heap.size + 2) _ _ _ _ _ rfl rfl rfl rfl rfl rfl rfl HR.out.1 HR.out.2 ?_)
    obtain ⟨e0, e1, e2, e3, e4⟩ := put5_cells (.int .i64 0) (.int .i64 0) (.slice none 0 0) (.int .i64 0) (.int .i64 0) HR.out.1 HR.out.2
    exact bodyPost_ret (v := .agg #[.int .i64 0, .int .i64 0, .slice none 0 0, .int .i64 0, .int .i64 0]) (by simp [results, Try.results26, go_sem, e0, e1, e2, e3, e4]) rfl (RRP.intro (leafT 0 0) rfl (leaf_at _ _ _) (by rw [HV.out]; exact same_refl _) HBE.out)
  have l0 := K1.l.c0
  have l1 := K1.l.c1
  have H2 := label_any n g a w1
  have HO : Hid (okB n g t = true) := o1
  clear o1
  go_wp2_with fail
  refine H2.mono ?_
  rintro e w2 ⟨rfl, hb2⟩
  have K2 := K1.step hb2
  clear H2 l0 l1 K1 hb2
  cases o2 : labB n a
  · have HV : Hid (raiseT n g t a = leafT 0 0) := by
      show raiseT n g t a = leafT 0 0
      unfold raiseT
      have e : inR n.len a = labB n a := rfl
      rw [e, o2, Bool.and_false]; rfl
    clear o2
    have HR : Hid (Bx w2 (w.heap.size + 2) (leafT 0 0) ∧ ∀ i, i < 5 → w2.frozen? ⟨w.heap.size + 2, i, none⟩ = false) := ⟨K2.r, K2.fr⟩
    have HBE : Hid (Below w.heap.size w (World.put5 w2 (w.heap.size + 2) (.int .i64 0) (.int .i64 0) (.slice none 0 0) (.int .i64 0) (.int .i64 0))) := put5_below (by omega) K2.bl _ _ _ _ _
    clear K2
    go_wp2_with (refine wpList_store5 rfl rfl _ _ rfl (w.heap.size + 2) _ _ _ _ _ rfl rfl rfl rfl rfl rfl rfl HR.out.1 HR.out.2 ?_)
    obtain ⟨e0, e1, e2, e3, e4⟩ := put5_cells (.int .i64 0) (.int .i64 0) (.slice none 0 0) (.int .i64 0) (.int .i64 0) HR.out.1 HR.out.2
    exact bodyPost_ret (v := .agg #[.int .i64 0, .int .i64 0, .slice none 0 0, .int .i64 0, .int .i64 0]) (by simp [results, Try.results26, go_sem, e0, e1, e2, e3, e4]) rfl (RRP.intro (leafT 0 0) rfl (leaf_at _ _ _) (by rw [HV.out]; exact same_refl _) HBE.out)
  have HV : Hid (raiseT n g t a = t.setL (joinI n g t.l a)) := by
    show raiseT n g t a = t.setL (joinI n g t.l a)
    unfold raiseT
    have e : inR n.len a = labB n a := rfl
    rw [e, o2, HO.out]; rfl
  clear o2 HO
  have l0 := K2.l.c0
  have l1 := K2.l.c1
  have x1 := K2.x.c1
  have H3 := rJoin_any n g t.l a w2 (HN.out.1.kept K2.bl) (HN.out.2.1.kept K2.bl)
  go_wp2_with fail
  refine H3.mono ?_
  rintro e w3 ⟨rfl, hb3⟩
  have K3 := K2.step hb3
  clear H3 l0 l1 x1 K2 hb3
  have x1 := K3.x.c1
  have f1 := K3.fx 1 (by omega)
  have X0 : (w3.setCell ⟨w.heap.size + 1, 1, none⟩ (.int .i64 (joinI n g t.l a))).cell? ⟨w.heap.size + 1, 0, none⟩ = some (.int .i64 t.k) := by rw [World.cell?_setCell_other _ _ _ _ (by simp)]; exact K3.x.c0
  have X1 : (w3.setCell ⟨w.heap.size + 1, 1, none⟩ (.int .i64 (joinI n g t.l a))).cell? ⟨w.heap.size + 1, 1, none⟩ = some (.int .i64 (joinI n g t.l a)) := World.cell?_setCell_same _ _ _ K3.x.c1
  have X2 : (w3.setCell ⟨w.heap.size + 1, 1, none⟩ (.int .i64 (joinI n g t.l a))).cell? ⟨w.heap.size + 1, 2, none⟩ = some (.slice t.ao t.len t.cap) := by rw [World.cell?_setCell_other _ _ _ _ (by simp)]; exact K3.x.c2
  have X3 : (w3.setCell ⟨w.heap.size + 1, 1, none⟩ (.int .i64 (joinI n g t.l a))).cell? ⟨w.heap.size + 1, 3, none⟩ = some (.int .i64 t.h) := by rw [World.cell?_setCell_other _ _ _ _ (by simp)]; exact K3.x.c3
  have X4 : (w3.setCell ⟨w.heap.size + 1, 1, none⟩ (.int .i64 (joinI n g t.l a))).cell? ⟨w.heap.size + 1, 4, none⟩ = some (.int .i64 t.e) := by rw [World.cell?_setCell_other _ _ _ _ (by simp)]; exact K3.x.c4
  have hz : (w3.setCell ⟨w.heap.size + 1, 1, none⟩ (.int .i64 (joinI n g t.l a))).heap[w.heap.size + 2]? = w3.heap[w.heap.size + 2]? := Below.heap_setCell _ _ _ _ (by show w.heap.size + 2 ≠ w.heap.size + 1; omega)
  have HR : Hid (Bx (w3.setCell ⟨w.heap.size + 1, 1, none⟩ (.int .i64 (joinI n g t.l a))) (w.heap.size + 2) (leafT 0 0) ∧ ∀ i, i < 5 → (w3.setCell ⟨w.heap.size + 1, 1, none⟩ (.int .i64 (joinI n g t.l a))).frozen? ⟨w.heap.size + 2, i, none⟩ = false) := ⟨K3.r.agree hz, fun i hi => by rw [World.frozen?_setCell]; exact K3.fr i hi⟩
  have HBE : Hid (Below w.heap.size w (World.put5 (w3.setCell ⟨w.heap.size + 1, 1, none⟩ (.int .i64 (joinI n g t.l a))) (w.heap.size + 2) (.int .i64 t.k) (.int .i64 (joinI n g t.l a)) (.slice t.ao t.len t.cap) (.int .i64 t.h) (.int .i64 t.e))) := put5_below (by omega) (K3.bl.setCell (by show w.heap.size ≤ w.heap.size + 1; omega) _) _ _ _ _ _
  have HA : Hid ((t.setL (joinI n g t.l a)).At (World.put5 (w3.setCell ⟨w.heap.size + 1, 1, none⟩ (.int .i64 (joinI n g t.l a))) (w.heap.size + 2) (.int .i64 t.k) (.int .i64 (joinI n g t.l a)) (.slice t.ao t.len t.cap) (.int .i64 t.h) (.int .i64 t.e))) := setL_at (HN.out.2.2.kept HBE.out)
  clear K3 hz
  go_wp2_with (refine wpList_store5 rfl rfl _ _ rfl (w.heap.size + 2) _ _ _ _ _ rfl rfl rfl rfl rfl rfl rfl HR.out.1 HR.out.2 ?_)
  obtain ⟨e0, e1, e2, e3, e4⟩ := put5_cells (.int .i64 t.k) (.int .i64 (joinI n g t.l a)) (.slice t.ao t.len t.cap) (.int .i64 t.h) (.int .i64 t.e) HR.out.1 HR.out.2
  have hv := setL_v (j := joinI n g t.l a) HN.out.2.2
  exact bodyPost_ret (v := .agg #[.int .i64 t.k, .int .i64 (joinI n g t.l a), .slice t.ao t.len t.cap, .int .i64 t.h, .int .i64 t.e]) (by simp [results, Try.results26, go_sem, e0, e1, e2, e3, e4]) rfl (RRP.intro (t.setL (joinI n g t.l a)) (by rw [hv.1, hv.2.1, hv.2.2.1, hv.2.2.2.1, hv.2.2.2.2.1, hv.2.2.2.2.2.1, hv.2.2.2.2.2.2]) HA.out (by rw [HV.out]; exact same_refl _) HBE.out)
end Go.Proofs.Ytlknlnhbmamcbaa

/- The walk of the statement TypesBounds. -/
namespace Go.Proofs.Ytlknlnhbmamcbaa
open Go.RowKit

/-- The statement's variables: a lattice, two types, and four that were made. -/
structure LBS (w x : World) (n : Strs) (g : Grid) (s t : Ty) (ba bb bc bd : Nat) (a b c d : Ty) : Prop where
  bl : Below w.heap.size w x
  l : Bl x w.heap.size n g
  sx : Bx x (w.heap.size + 1) s
  tx : Bx x (w.heap.size + 2) t
  ax : Bx x ba a
  bx : Bx x bb b
  cx : Bx x bc c
  dx : Bx x bd d
  hn : n.At x
  hg : g.At x
  hs : s.At x
  ht : t.At x
  ha : a.At x
  hb : b.At x
  hc : c.At x
  hd : d.At x
theorem LBS.kept {w x x' : World} {n : Strs} {g : Grid} {s t : Ty} {ba bb bc bd : Nat} {a b c d : Ty} (h : LBS w x n g s t ba bb bc bd a b c d) (k : Below x.heap.size x x') : LBS w x' n g s t ba bb bc bd a b c d :=
  ⟨Below.next h.bl k, h.l.kept k, h.sx.kept k, h.tx.kept k, h.ax.kept k, h.bx.kept k, h.cx.kept k, h.dx.kept k, h.hn.kept k, h.hg.kept k, h.hs.kept k, h.ht.kept k, h.ha.kept k, h.hb.kept k, h.hc.kept k, h.hd.kept k⟩
theorem bounds_same {n : Strs} {g : Grid} {s t a b : Ty} {up : Bool} (h1 : bokB n g s t = true → a.same (s.bnd n g t up) = true) (h2 : bokB n g s t = false → a = leafT 0 0) (k1 : bokB n g s t = true → b.same (s.bnd n g t up) = true) (k2 : bokB n g s t = false → b = leafT 0 0) : a.same b = true := by
  cases h : bokB n g s t
  · rw [h2 h, k2 h]; exact same_refl _
  · exact same_trans _ _ _ (h1 h) (same_symm _ _ (k1 h))

set_option maxRecDepth 100000 in
set_option maxHeartbeats 8000000 in
theorem typesBounds_any (n : Strs) (g : Grid) (s t : Ty) (w : World) (hn : n.At w) (hg : g.At w) (hs : s.At w) (ht : t.At w) :
    Calls Try.prog 5 #[.agg #[.slice n.ao n.len n.cap, .slice g.ao g.len g.cap], .agg #[.int .i64 s.k, .int .i64 s.l, .slice s.ao s.len s.cap, .int .i64 s.h, .int .i64 s.e], .agg #[.int .i64 t.k, .int .i64 t.l, .slice t.ao t.len t.cap, .int .i64 t.h, .int .i64 t.e]] w fun e w' => e = .returned (.bool true) ∧ Below w.heap.size w w' := by
  obtain ⟨L0, X0, Y0, B0⟩ := start_ltt w n g s t
  unfold latO tyO at *
  go_enter Try.func5, Try.ntmps5
  go_wp2_with fail
  refine (awake2_any _).mono ?_
  rintro e w1 ⟨rfl, hb1⟩
  have L1 := L0.kept hb1
  have X1 := X0.kept hb1
  have Y1 := Y0.kept hb1
  have B1 := Below.next B0 hb1
  clear L0 X0 Y0 B0 hb1
  have l0 := L1.c0
  have l1 := L1.c1
  have x0 := X1.c0
  have y0 := Y1.c0
  have x1 := X1.c1
  have y1 := Y1.c1
  have x2 := X1.c2
  have y2 := Y1.c2
  have x3 := X1.c3
  have y3 := Y1.c3
  have x4 := X1.c4
  have y4 := Y1.c4
  go_wp2_with fail
  refine (few_any n g s t _ (hn.kept B1) (hg.kept B1) (hs.kept B1) (ht.kept B1)).mono ?_
  rintro e w2 ⟨rfl, hb2⟩
  have L2 := L1.kept hb2
  have X2 := X1.kept hb2
  have Y2 := Y1.kept hb2
  have B2 := Below.next B1 hb2
  clear L1 X1 Y1 B1 hb2 l0 l1 x0 y0 x1 y1 x2 y2 x3 y3 x4 y4
  cases hfew : fewB n g s t
  · go_wp2_with fail
    refine (awake2_any _).mono ?_
    rintro e w3 ⟨rfl, hb3⟩
    go_wp2
    go_ret
    exact ⟨rfl, Below.next B2 hb3⟩
  clear hfew
  have n2 := hn.kept B2
  have g2 := hg.kept B2
  have s2 := hs.kept B2
  have t2 := ht.kept B2
  clear hn hg hs ht
  have l0 := L2.c0
  have l1 := L2.c1
  have x0 := X2.c0
  have y0 := Y2.c0
  have x1 := X2.c1
  have y1 := Y2.c1
  have x2 := X2.c2
  have y2 := Y2.c2
  have x3 := X2.c3
  have y3 := Y2.c3
  have x4 := X2.c4
  have y4 := Y2.c4
  have hC := Join_any2 n g s t w2 n2 g2 s2 t2
  go_wp2_with fail
  refine hC.mono ?_
  intro e va hJP
  obtain ⟨a, rfl, aA, _, aS, aZ, hbk⟩ := hJP
  clear hC l0 l1 x0 y0 x1 y1 x2 y2 x3 y3 x4 y4
  have Na := Bx.new va a
  have Aa := below_alloc va (.cells #[.int .i64 a.k, .int .i64 a.l, .slice a.ao a.len a.cap, .int .i64 a.h, .int .i64 a.e] 28)
  have Ca := Below.next hbk Aa
  have La := L2.kept Ca
  have Xa := X2.kept Ca
  have Ya := Y2.kept Ca
  have Ba := Below.next B2 Ca
  replace n2 := n2.kept Ca
  replace g2 := g2.kept Ca
  replace s2 := s2.kept Ca
  replace t2 := t2.kept Ca
  replace aA := aA.kept Aa
  have Ha : Hid ((bokB n g s t = true → a.same (s.bnd n g t true) = true) ∧ (bokB n g s t = false → a = leafT 0 0)) := ⟨aS, aZ⟩
  clear aS aZ hbk Aa Ca L2 X2 Y2 B2
  generalize hBa : va.alloc (.cells #[.int .i64 a.k, .int .i64 a.l, .slice a.ao a.len a.cap, .int .i64 a.h, .int .i64 a.e] 28) = ua at *
  have l0 := La.c0
  have l1 := La.c1
  have x0 := Xa.c0
  have y0 := Ya.c0
  have x1 := Xa.c1
  have y1 := Ya.c1
  have x2 := Xa.c2
  have y2 := Ya.c2
  have x3 := Xa.c3
  have y3 := Ya.c3
  have x4 := Xa.c4
  have y4 := Ya.c4
  have hC := rJoin_any2 n g s t ua n2 g2 s2 t2
  go_wp2_with fail
  refine hC.mono ?_
  intro e vb hJP
  obtain ⟨b, rfl, bA, bS, bZ, hbk⟩ := hJP
  clear hC l0 l1 x0 y0 x1 y1 x2 y2 x3 y3 x4 y4 hBa
  have Nb := Bx.new vb b
  have Ab := below_alloc vb (.cells #[.int .i64 b.k, .int .i64 b.l, .slice b.ao b.len b.cap, .int .i64 b.h, .int .i64 b.e] 28)
  have Cb := Below.next hbk Ab
  have Lb := La.kept Cb
  have Xb := Xa.kept Cb
  have Yb := Ya.kept Cb
  have Bb := Below.next Ba Cb
  replace n2 := n2.kept Cb
  replace g2 := g2.kept Cb
  replace s2 := s2.kept Cb
  replace t2 := t2.kept Cb
  replace bA := bA.kept Ab
  replace aA := aA.kept Cb
  replace Na := Na.kept Cb
  have Hb : Hid ((bokB n g s t = true → b.same (s.bnd n g t true) = true) ∧ (bokB n g s t = false → b = leafT 0 0)) := ⟨bS, bZ⟩
  clear bS bZ hbk Ab Cb La Xa Ya Ba
  generalize hBb : vb.alloc (.cells #[.int .i64 b.k, .int .i64 b.l, .slice b.ao b.len b.cap, .int .i64 b.h, .int .i64 b.e] 28) = ub at *
  have l0 := Lb.c0
  have l1 := Lb.c1
  have x0 := Xb.c0
  have y0 := Yb.c0
  have x1 := Xb.c1
  have y1 := Yb.c1
  have x2 := Xb.c2
  have y2 := Yb.c2
  have x3 := Xb.c3
  have y3 := Yb.c3
  have x4 := Xb.c4
  have y4 := Yb.c4
  have hC := Meet_any2 n g s t ub n2 g2 s2 t2
  go_wp2_with fail
  refine hC.mono ?_
  intro e vc hJP
  obtain ⟨c, rfl, cA, _, cS, cZ, hbk⟩ := hJP
  clear hC l0 l1 x0 y0 x1 y1 x2 y2 x3 y3 x4 y4 hBb
  have Nc := Bx.new vc c
  have Ac := below_alloc vc (.cells #[.int .i64 c.k, .int .i64 c.l, .slice c.ao c.len c.cap, .int .i64 c.h, .int .i64 c.e] 28)
  have Cc := Below.next hbk Ac
  have Lc := Lb.kept Cc
  have Xc := Xb.kept Cc
  have Yc := Yb.kept Cc
  have Bc := Below.next Bb Cc
  replace n2 := n2.kept Cc
  replace g2 := g2.kept Cc
  replace s2 := s2.kept Cc
  replace t2 := t2.kept Cc
  replace cA := cA.kept Ac
  replace aA := aA.kept Cc
  replace Na := Na.kept Cc
  replace bA := bA.kept Cc
  replace Nb := Nb.kept Cc
  have Hc : Hid ((bokB n g s t = true → c.same (s.bnd n g t false) = true) ∧ (bokB n g s t = false → c = leafT 0 0)) := ⟨cS, cZ⟩
  clear cS cZ hbk Ac Cc Lb Xb Yb Bb
  generalize hBc : vc.alloc (.cells #[.int .i64 c.k, .int .i64 c.l, .slice c.ao c.len c.cap, .int .i64 c.h, .int .i64 c.e] 28) = uc at *
  have l0 := Lc.c0
  have l1 := Lc.c1
  have x0 := Xc.c0
  have y0 := Yc.c0
  have x1 := Xc.c1
  have y1 := Yc.c1
  have x2 := Xc.c2
  have y2 := Yc.c2
  have x3 := Xc.c3
  have y3 := Yc.c3
  have x4 := Xc.c4
  have y4 := Yc.c4
  have hC := rMeet_any2 n g s t uc n2 g2 s2 t2
  go_wp2_with fail
  refine hC.mono ?_
  intro e vd hJP
  obtain ⟨d, rfl, dA, dS, dZ, hbk⟩ := hJP
  clear hC l0 l1 x0 y0 x1 y1 x2 y2 x3 y3 x4 y4 hBc
  have Nd := Bx.new vd d
  have Ad := below_alloc vd (.cells #[.int .i64 d.k, .int .i64 d.l, .slice d.ao d.len d.cap, .int .i64 d.h, .int .i64 d.e] 28)
  have Cd := Below.next hbk Ad
  have Ld := Lc.kept Cd
  have Xd := Xc.kept Cd
  have Yd := Yc.kept Cd
  have Bd := Below.next Bc Cd
  replace n2 := n2.kept Cd
  replace g2 := g2.kept Cd
  replace s2 := s2.kept Cd
  replace t2 := t2.kept Cd
  replace dA := dA.kept Ad
  replace aA := aA.kept Cd
  replace Na := Na.kept Cd
  replace bA := bA.kept Cd
  replace Nb := Nb.kept Cd
  replace cA := cA.kept Cd
  replace Nc := Nc.kept Cd
  have Hd : Hid ((bokB n g s t = true → d.same (s.bnd n g t false) = true) ∧ (bokB n g s t = false → d = leafT 0 0)) := ⟨dS, dZ⟩
  clear dS dZ hbk Ad Cd Lc Xc Yc Bc
  generalize hBd : vd.alloc (.cells #[.int .i64 d.k, .int .i64 d.l, .slice d.ao d.len d.cap, .int .i64 d.h, .int .i64 d.e] 28) = ud at *
  have S0 : LBS w ud n g s t _ _ _ _ a b c d := ⟨Bd, Ld, Xd, Yd, Na, Nb, Nc, Nd, n2, g2, s2, t2, aA, bA, cA, dA⟩
  have E1 : Hid (a.same b = true) := bounds_same Ha.out.1 Ha.out.2 Hb.out.1 Hb.out.2
  have E2 : Hid (c.same d = true) := bounds_same Hc.out.1 Hc.out.2 Hd.out.1 Hd.out.2
  clear Bd Ld Xd Yd Na Nb Nc Nd n2 g2 s2 t2 aA bA cA dA Ha Hb Hc Hd
  go_upto_region 7 with fail
  clear hBd
  have H1 : ∀ u, Below ud.heap.size ud u → Calls Try.prog 20 #[.agg #[.int .i64 a.k, .int .i64 a.l, .slice a.ao a.len a.cap, .int .i64 a.h, .int .i64 a.e], .agg #[.int .i64 b.k, .int .i64 b.l, .slice b.ao b.len b.cap, .int .i64 b.h, .int .i64 b.e]] u fun e w' => e = .returned (.bool true) ∧ Below u.heap.size u w' := fun u hu => by
    have := rSame_any2 a b u (S0.kept hu).ha (S0.kept hu).hb
    rwa [E1.out] at this
  have H2 : ∀ u, Below ud.heap.size ud u → Calls Try.prog 20 #[.agg #[.int .i64 c.k, .int .i64 c.l, .slice c.ao c.len c.cap, .int .i64 c.h, .int .i64 c.e], .agg #[.int .i64 d.k, .int .i64 d.l, .slice d.ao d.len d.cap, .int .i64 d.h, .int .i64 d.e]] u fun e w' => e = .returned (.bool true) ∧ Below u.heap.size u w' := fun u hu => by
    have := rSame_any2 c d u (S0.kept hu).hc (S0.kept hu).hd
    rwa [E2.out] at this
  have H3 := fun u (hu : Below ud.heap.size ud u) => Raise_any n g s t.l u (S0.kept hu).hn (S0.kept hu).hg (S0.kept hu).hs
  have H4 := fun u (hu : Below ud.heap.size ud u) => rRaise_any n g s t.l u (S0.kept hu).hn (S0.kept hu).hg (S0.kept hu).hs
  have H5 : ∀ (y z : Ty) u, y.At u → z.At u → y.same (raiseT n g s t.l) = true → z.same (raiseT n g s t.l) = true → Calls Try.prog 20 #[.agg #[.int .i64 y.k, .int .i64 y.l, .slice y.ao y.len y.cap, .int .i64 y.h, .int .i64 y.e], .agg #[.int .i64 z.k, .int .i64 z.l, .slice z.ao z.len z.cap, .int .i64 z.h, .int .i64 z.e]] u fun e w' => e = .returned (.bool true) ∧ Below u.heap.size u w' := fun y z u yA zA yS zS => by
    have := rSame_any2 y z u yA zA
    rwa [same_trans _ _ _ yS (same_symm _ _ zS)] at this
  have D0 : Below ud.heap.size ud ud.drew := (Below.refl _ _).drew
  have key := fun u (hu : Below ud.heap.size ud u) => (⟨(S0.kept hu).l.c0, (S0.kept hu).l.c1, (S0.kept hu).sx.c0, (S0.kept hu).sx.c1, (S0.kept hu).sx.c2, (S0.kept hu).sx.c3, (S0.kept hu).sx.c4, (S0.kept hu).tx.c1, (S0.kept hu).ax.c0, (S0.kept hu).ax.c1, (S0.kept hu).ax.c2, (S0.kept hu).ax.c3, (S0.kept hu).ax.c4, (S0.kept hu).bx.c0, (S0.kept hu).bx.c1, (S0.kept hu).bx.c2, (S0.kept hu).bx.c3, (S0.kept hu).bx.c4, (S0.kept hu).cx.c0, (S0.kept hu).cx.c1, (S0.kept hu).cx.c2, (S0.kept hu).cx.c3, (S0.kept hu).cx.c4, (S0.kept hu).dx.c0, (S0.kept hu).dx.c1, (S0.kept hu).dx.c2, (S0.kept hu).dx.c3, (S0.kept hu).dx.c4⟩ : (fun q : World => q.cell? ⟨w.heap.size, 0, none⟩ = some (.slice n.ao n.len n.cap) ∧ q.cell? ⟨w.heap.size, 1, none⟩ = some (.slice g.ao g.len g.cap) ∧ q.cell? ⟨w.heap.size + 1, 0, none⟩ = some (.int .i64 s.k) ∧ q.cell? ⟨w.heap.size + 1, 1, none⟩ = some (.int .i64 s.l) ∧ q.cell? ⟨w.heap.size + 1, 2, none⟩ = some (.slice s.ao s.len s.cap) ∧ q.cell? ⟨w.heap.size + 1, 3, none⟩ = some (.int .i64 s.h) ∧ q.cell? ⟨w.heap.size + 1, 4, none⟩ = some (.int .i64 s.e) ∧ q.cell? ⟨w.heap.size + 2, 1, none⟩ = some (.int .i64 t.l) ∧ q.cell? ⟨va.heap.size, 0, none⟩ = some (.int .i64 a.k) ∧ q.cell? ⟨va.heap.size, 1, none⟩ = some (.int .i64 a.l) ∧ q.cell? ⟨va.heap.size, 2, none⟩ = some (.slice a.ao a.len a.cap) ∧ q.cell? ⟨va.heap.size, 3, none⟩ = some (.int .i64 a.h) ∧ q.cell? ⟨va.heap.size, 4, none⟩ = some (.int .i64 a.e) ∧ q.cell? ⟨vb.heap.size, 0, none⟩ = some (.int .i64 b.k) ∧ q.cell? ⟨vb.heap.size, 1, none⟩ = some (.int .i64 b.l) ∧ q.cell? ⟨vb.heap.size, 2, none⟩ = some (.slice b.ao b.len b.cap) ∧ q.cell? ⟨vb.heap.size, 3, none⟩ = some (.int .i64 b.h) ∧ q.cell? ⟨vb.heap.size, 4, none⟩ = some (.int .i64 b.e) ∧ q.cell? ⟨vc.heap.size, 0, none⟩ = some (.int .i64 c.k) ∧ q.cell? ⟨vc.heap.size, 1, none⟩ = some (.int .i64 c.l) ∧ q.cell? ⟨vc.heap.size, 2, none⟩ = some (.slice c.ao c.len c.cap) ∧ q.cell? ⟨vc.heap.size, 3, none⟩ = some (.int .i64 c.h) ∧ q.cell? ⟨vc.heap.size, 4, none⟩ = some (.int .i64 c.e) ∧ q.cell? ⟨vd.heap.size, 0, none⟩ = some (.int .i64 d.k) ∧ q.cell? ⟨vd.heap.size, 1, none⟩ = some (.int .i64 d.l) ∧ q.cell? ⟨vd.heap.size, 2, none⟩ = some (.slice d.ao d.len d.cap) ∧ q.cell? ⟨vd.heap.size, 3, none⟩ = some (.int .i64 d.h) ∧ q.cell? ⟨vd.heap.size, 4, none⟩ = some (.int .i64 d.e)) u)
  have hS := key _ D0
  have HS0 : Hid (LBS w ud n g s t _ _ _ _ a b c d) := S0
  clear S0
  go_region_held3 (fun q : World => q.cell? ⟨w.heap.size, 0, none⟩ = some (.slice n.ao n.len n.cap) ∧ q.cell? ⟨w.heap.size, 1, none⟩ = some (.slice g.ao g.len g.cap) ∧ q.cell? ⟨w.heap.size + 1, 0, none⟩ = some (.int .i64 s.k) ∧ q.cell? ⟨w.heap.size + 1, 1, none⟩ = some (.int .i64 s.l) ∧ q.cell? ⟨w.heap.size + 1, 2, none⟩ = some (.slice s.ao s.len s.cap) ∧ q.cell? ⟨w.heap.size + 1, 3, none⟩ = some (.int .i64 s.h) ∧ q.cell? ⟨w.heap.size + 1, 4, none⟩ = some (.int .i64 s.e) ∧ q.cell? ⟨w.heap.size + 2, 1, none⟩ = some (.int .i64 t.l) ∧ q.cell? ⟨va.heap.size, 0, none⟩ = some (.int .i64 a.k) ∧ q.cell? ⟨va.heap.size, 1, none⟩ = some (.int .i64 a.l) ∧ q.cell? ⟨va.heap.size, 2, none⟩ = some (.slice a.ao a.len a.cap) ∧ q.cell? ⟨va.heap.size, 3, none⟩ = some (.int .i64 a.h) ∧ q.cell? ⟨va.heap.size, 4, none⟩ = some (.int .i64 a.e) ∧ q.cell? ⟨vb.heap.size, 0, none⟩ = some (.int .i64 b.k) ∧ q.cell? ⟨vb.heap.size, 1, none⟩ = some (.int .i64 b.l) ∧ q.cell? ⟨vb.heap.size, 2, none⟩ = some (.slice b.ao b.len b.cap) ∧ q.cell? ⟨vb.heap.size, 3, none⟩ = some (.int .i64 b.h) ∧ q.cell? ⟨vb.heap.size, 4, none⟩ = some (.int .i64 b.e) ∧ q.cell? ⟨vc.heap.size, 0, none⟩ = some (.int .i64 c.k) ∧ q.cell? ⟨vc.heap.size, 1, none⟩ = some (.int .i64 c.l) ∧ q.cell? ⟨vc.heap.size, 2, none⟩ = some (.slice c.ao c.len c.cap) ∧ q.cell? ⟨vc.heap.size, 3, none⟩ = some (.int .i64 c.h) ∧ q.cell? ⟨vc.heap.size, 4, none⟩ = some (.int .i64 c.e) ∧ q.cell? ⟨vd.heap.size, 0, none⟩ = some (.int .i64 d.k) ∧ q.cell? ⟨vd.heap.size, 1, none⟩ = some (.int .i64 d.l) ∧ q.cell? ⟨vd.heap.size, 2, none⟩ = some (.slice d.ao d.len d.cap) ∧ q.cell? ⟨vd.heap.size, 3, none⟩ = some (.int .i64 d.h) ∧ q.cell? ⟨vd.heap.size, 4, none⟩ = some (.int .i64 d.e)) (first | with_reducible assumption | with_reducible exact key _ D0) ((first
    | (go_at_call 20; with_reducible refine (H1 _ D0).mono ?_; rintro e w11 ⟨rfl, hb11⟩; have C1 := Below.next D0 hb11; have hS11 := key _ C1)
    | (go_at_call 20; with_reducible refine (H2 _ C1).mono ?_; rintro e w12 ⟨rfl, hb12⟩; have C2 := Below.next C1 hb12; have hS12 := key _ C2)
    | (go_at_call 25; refine (H3 _ (by first | with_reducible exact C4 | with_reducible exact C2)).mono ?_; intro e w13 hRP; obtain ⟨y, rfl, yA, _, yS, hb13⟩ := hRP; have C3 : Below ud.heap.size ud w13 := (by first | exact Below.next C4 hb13 | exact Below.next C2 hb13); have hS13 := key _ C3; have HY : Hid (y.same (raiseT n g s t.l) = true) := yS; clear yS)
    | (go_at_call 26; refine (H4 _ (by first | with_reducible exact C3 | with_reducible exact C2)).mono ?_; intro e w14 hRP; obtain ⟨z, rfl, zA, zS, hb14⟩ := hRP; have C4 : Below ud.heap.size ud w14 := (by first | exact Below.next C3 hb14 | exact Below.next C2 hb14); have hS14 := key _ C4; have HZ : Hid (z.same (raiseT n g s t.l) = true) := zS; clear zS)
    | (go_at_call 20; refine (H5 y z _ (by first | with_reducible exact yA | with_reducible exact yA.kept hb14) (by first | with_reducible exact zA | with_reducible exact zA.kept hb13) HY.out HZ.out).mono ?_; rintro e w15 ⟨rfl, hb15⟩; have C5 : Below ud.heap.size ud w15 := (by first | exact Below.next C4 hb15 | exact Below.next C3 hb15); have hS15 := key _ C5)))
  all_goals
    go_wp2
    go_ret
    exact ⟨rfl, (HS0.out.kept C5).bl⟩
end Go.Proofs.Ytlknlnhbmamcbaa
