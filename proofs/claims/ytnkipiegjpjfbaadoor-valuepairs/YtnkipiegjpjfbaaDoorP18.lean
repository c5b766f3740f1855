/- Layer 3: the walk of the statement ValuePairs. -/
import Derived.Test.YtnkipiegjpjfbaaDoorP16
import Derived.Test.YtnkipiegjpjfbaaDoorP17
import Derived.Test.YtnkipiegjpjfbaaDoorP2
import Derived.ProofKit
import Derived.Deep.Grids
import Derived.Lib.SmallJoins
import Derived.Test.YtnkipiegjpjfbaaDoorP7
namespace Go.Proofs.YtnkipiegjpjfbaaDoor
open Go.RowKit

/-- A variable that holds a type and a value. -/
structure Bt (w : World) (B : Nat) (t : Ty) (v : Vl) : Prop where
  c0 : w.cell? ⟨B, 0, none⟩ = some (.int .i64 t.k)
  c1 : w.cell? ⟨B, 1, none⟩ = some (.int .i64 t.l)
  c2 : w.cell? ⟨B, 2, none⟩ = some (.slice t.ao t.len t.cap)
  c3 : w.cell? ⟨B, 3, none⟩ = some (.int .i64 t.h)
  c4 : w.cell? ⟨B, 4, none⟩ = some (.int .i64 t.e)
  c5 : w.cell? ⟨B, 5, none⟩ = some (.int .i64 v.k)
  c6 : w.cell? ⟨B, 6, none⟩ = some (.int .i64 v.m)
  c7 : w.cell? ⟨B, 7, none⟩ = some (.slice v.ao v.len v.cap)
theorem Bt.kept {w w' : World} {B : Nat} {t : Ty} {v : Vl} (h : Bt w B t v) (hb : Below w.heap.size w w') : Bt w' B t v := ⟨up hb h.c0, up hb h.c1, up hb h.c2, up hb h.c3, up hb h.c4, up hb h.c5, up hb h.c6, up hb h.c7⟩
def tdO (t : Ty) (v : Vl) : Obj := .cells #[.int .i64 t.k, .int .i64 t.l, .slice t.ao t.len t.cap, .int .i64 t.h, .int .i64 t.e, .int .i64 v.k, .int .i64 v.m, .slice v.ao v.len v.cap] 45
theorem Bt.new (w : World) (t : Ty) (v : Vl) : Bt (w.alloc (tdO t v)) w.heap.size t v := by
  constructor <;> simp [tdO]
/-- The statement's variables. -/
structure VB (w z : World) (n : Strs) (g : Grid) (fs : Fs) (cs : Cs) (s t : Ty) (v u : Vl) : Prop where
  bl : Below w.heap.size w z
  o : Bw z w.heap.size n g fs cs
  x : Bt z (w.heap.size + 1) s v
  y : Bt z (w.heap.size + 2) t u
  wo : Wo z n g fs cs
  hs : s.At z
  ht : t.At z
  hv : v.At z
  hu : u.At z
  tab : Tab z
theorem VB.step {w z z' : World} {n : Strs} {g : Grid} {fs : Fs} {cs : Cs} {s t : Ty} {v u : Vl} (h : VB w z n g fs cs s t v u) (hb : Below z.heap.size z z') : VB w z' n g fs cs s t v u :=
  ⟨Below.next h.bl hb, h.o.kept hb, h.x.kept hb, h.y.kept hb, h.wo.kept hb, h.hs.kept hb, h.ht.kept hb, h.hv.kept hb, h.hu.kept hb, h.tab.kept hb⟩
theorem VB.new {w : World} {n : Strs} {g : Grid} {fs : Fs} {cs : Cs} {s t : Ty} {v u : Vl} (hw : Wo w n g fs cs) (hs : s.At w) (ht : t.At w) (hv : v.At w) (hu : u.At w) (hT : Tab w) : VB w (((w.alloc (woO n g fs cs)).alloc (tdO s v)).alloc (tdO t u)) n g fs cs s t v u := by
  have b1 := below_alloc w (woO n g fs cs)
  have b2 := below_alloc (w.alloc (woO n g fs cs)) (tdO s v)
  have b3 := below_alloc ((w.alloc (woO n g fs cs)).alloc (tdO s v)) (tdO t u)
  have e1 : (w.alloc (woO n g fs cs)).heap.size = w.heap.size + 1 := alloc_size _ _
  have e2 : ((w.alloc (woO n g fs cs)).alloc (tdO s v)).heap.size = w.heap.size + 2 := by rw [alloc_size, e1]
  have X0 := (Bt.new (w.alloc (woO n g fs cs)) s v).kept b3
  have Y0 := Bt.new ((w.alloc (woO n g fs cs)).alloc (tdO s v)) t u
  rw [e1] at X0
  rw [e2] at Y0
  have B0 := Below.next (Below.next b1 b2) b3
  exact ⟨B0, (Bw.new w n g fs cs).kept (Below.next b2 b3), X0, Y0, hw.kept B0, hs.kept B0, ht.kept B0, hv.kept B0, hu.kept B0, hT.kept B0⟩

/-- A row of two values. -/
def vrow2 (v u : Vl) : Obj := .cells #[.int .i64 v.k, .int .i64 v.m, .slice v.ao v.len v.cap, .int .i64 u.k, .int .i64 u.m, .slice u.ao u.len u.cap] 24
theorem vrow2_at (w : World) (v u : Vl) (hv : v.At w) (hu : u.At w) : Vl.At (w.alloc (vrow2 v u)) (.mk 3 0 (some ⟨w.heap.size, 0, none⟩) w.heap.size 0 2 2 (fun i => if i = 0 then v else u)) := by
  have b := below_alloc w (vrow2 v u)
  refine ⟨fun _ => rfl, by omega, fun i hi => ?_⟩
  match i, hi with
  | 0, _ => exact ⟨by constructor <;> simp [vrow2], hv.kept b⟩
  | 1, _ => exact ⟨by constructor <;> simp [vrow2], hu.kept b⟩
theorem trow2_at (w : World) (s t : Ty) (hs : s.At w) (ht : t.At w) : Ty.At (w.alloc (row2 s t)) (.mk 3 0 0 0 (some ⟨w.heap.size, 0, none⟩) w.heap.size 0 2 2 (fun i => if i = 0 then s else t)) := row2_at w s t hs ht

set_option maxRecDepth 100000 in
set_option maxHeartbeats 8000000 in
theorem valuePairs_any (n : Strs) (g : Grid) (fs : Fs) (cs : Cs) (s t : Ty) (v u : Vl) (w : World) (hw : Wo w n g fs cs) (hs : s.At w) (ht : t.At w) (hv : v.At w) (hu : u.At w) (hT : Tab w) :
    Calls Tryd.prog 7 #[.agg #[.slice n.ao n.len n.cap, .slice g.ao g.len g.cap, .slice fs.ao fs.len fs.cap, .slice cs.ao cs.len cs.cap], .agg #[.int .i64 s.k, .int .i64 s.l, .slice s.ao s.len s.cap, .int .i64 s.h, .int .i64 s.e, .int .i64 v.k, .int .i64 v.m, .slice v.ao v.len v.cap], .agg #[.int .i64 t.k, .int .i64 t.l, .slice t.ao t.len t.cap, .int .i64 t.h, .int .i64 t.e, .int .i64 u.k, .int .i64 u.m, .slice u.ao u.len u.cap]] w fun e w' => e = .returned (.bool true) ∧ Below w.heap.size w w' := by
  have K0 := VB.new hw hs ht hv hu hT
  clear hw hs ht hv hu hT
  unfold woO tdO at K0
  go_enter Tryd.func7, Tryd.ntmps7
  go_wp2_with fail
  refine (vawake_any _ K0.tab).mono ?_
  rintro e w1 ⟨rfl, hb1⟩
  have K1 := K0.step hb1
  clear K0 hb1
  have o0 := K1.o.c0
  have o1 := K1.o.c1
  have o2 := K1.o.c2
  have o3 := K1.o.c3
  have x0 := K1.x.c0
  have x1 := K1.x.c1
  have x2 := K1.x.c2
  have x3 := K1.x.c3
  have x4 := K1.x.c4
  have x5 := K1.x.c5
  have x6 := K1.x.c6
  have x7 := K1.x.c7
  go_wp2_with fail
  refine (vfew_any n g fs cs s v _ K1.wo K1.hs K1.hv).mono ?_
  rintro e w2 ⟨r1, rfl, hr1, hb2⟩
  have K2 := K1.step hb2
  have HR1 : Hid (r1 = true → (∀ i, i < cs.len → (cs.t i).nodes ≤ 40) ∧ s.nodes ≤ 40 ∧ v.nodes ≤ 2000) := hr1
  clear K1 hb2 hr1 o0 o1 o2 o3 x0 x1 x2 x3 x4 x5 x6 x7
  cases r1
  · go_wp2_with fail
    refine (vawake_any _ K2.tab).mono ?_
    rintro e w3 ⟨rfl, hb3⟩
    go_wp2
    go_ret
    exact ⟨rfl, (K2.step hb3).bl⟩
  have HCN : Hid (∀ i, i < cs.len → (cs.t i).nodes ≤ 40) := (HR1.out rfl).1
  clear HR1
  have o0 := K2.o.c0
  have o1 := K2.o.c1
  have o2 := K2.o.c2
  have o3 := K2.o.c3
  have y0 := K2.y.c0
  have y1 := K2.y.c1
  have y2 := K2.y.c2
  have y3 := K2.y.c3
  have y4 := K2.y.c4
  have y5 := K2.y.c5
  have y6 := K2.y.c6
  have y7 := K2.y.c7
  go_wp2_with fail
  refine (vfew_any n g fs cs t u _ K2.wo K2.ht K2.hu).mono ?_
  rintro e w3 ⟨r2, rfl, _, hb3⟩
  have K3 := K2.step hb3
  clear K2 hb3 o0 o1 o2 o3 y0 y1 y2 y3 y4 y5 y6 y7
  cases r2
  · go_wp2_with fail
    refine (vawake_any _ K3.tab).mono ?_
    rintro e w4 ⟨rfl, hb4⟩
    go_wp2
    go_ret
    exact ⟨rfl, (K3.step hb4).bl⟩
  have o0 := K3.o.c0
  have o1 := K3.o.c1
  go_wp2_with fail
  refine (rformed_any n g _ K3.wo.hn K3.wo.hg).mono ?_
  rintro e w4 ⟨rfl, hb4⟩
  have K4 := K3.step hb4
  clear K3 hb4 o0 o1
  cases hF : formedB n g
  · clear hF
    go_wp2_with fail
    refine (vawake_any _ K4.tab).mono ?_
    rintro e w5 ⟨rfl, hb5⟩
    go_wp2
    go_ret
    exact ⟨rfl, (K4.step hb5).bl⟩
  clear hF
  have HK4 : Hid (VB w w4 n g fs cs s t v u) := K4
  have b1 := below_alloc w4 (row2 s t)
  have TA := trow2_at w4 s t K4.hs K4.ht
  have b2 := below_alloc (w4.alloc (row2 s t)) (.cells #[.int .i64 3, .int .i64 0, .slice (some ⟨w4.heap.size, 0, none⟩) 2 2, .int .i64 0, .int .i64 0] 43)
  have NX := Bx.new (w4.alloc (row2 s t)) (.mk 3 0 0 0 (some ⟨w4.heap.size, 0, none⟩) w4.heap.size 0 2 2 (fun i => if i = 0 then s else t))
  have e1 : (w4.alloc (row2 s t)).heap.size = w4.heap.size + 1 := alloc_size _ _
  rw [e1] at NX
  have HK5 : Hid (VB w ((w4.alloc (row2 s t)).alloc (.cells #[.int .i64 3, .int .i64 0, .slice (some ⟨w4.heap.size, 0, none⟩) 2 2, .int .i64 0, .int .i64 0] 43)) n g fs cs s t v u ∧ Bx ((w4.alloc (row2 s t)).alloc (.cells #[.int .i64 3, .int .i64 0, .slice (some ⟨w4.heap.size, 0, none⟩) 2 2, .int .i64 0, .int .i64 0] 43)) (w4.heap.size + 1) (.mk 3 0 0 0 (some ⟨w4.heap.size, 0, none⟩) w4.heap.size 0 2 2 (fun i => if i = 0 then s else t)) ∧ Ty.At ((w4.alloc (row2 s t)).alloc (.cells #[.int .i64 3, .int .i64 0, .slice (some ⟨w4.heap.size, 0, none⟩) 2 2, .int .i64 0, .int .i64 0] 43)) (.mk 3 0 0 0 (some ⟨w4.heap.size, 0, none⟩) w4.heap.size 0 2 2 (fun i => if i = 0 then s else t))) := ⟨(K4.step b1).step b2, NX, TA.kept b2⟩
  have x0 := K4.x.c0
  have x1 := K4.x.c1
  have x2 := K4.x.c2
  have x3 := K4.x.c3
  have x4 := K4.x.c4
  have y0 := K4.y.c0
  have y1 := K4.y.c1
  have y2 := K4.y.c2
  have y3 := K4.y.c3
  have y4 := K4.y.c4
  clear b1 b2 NX TA e1 K4 HK4
  unfold row2 at HK5
  go_upto_region 4 with fail
  clear x0 x1 x2 x3 x4 y0 y1 y2 y3 y4
  generalize hw5 : (w4.alloc (.cells #[.int .i64 s.k, .int .i64 s.l, .slice s.ao s.len s.cap, .int .i64 s.h, .int .i64 s.e, .int .i64 t.k, .int .i64 t.l, .slice t.ao t.len t.cap, .int .i64 t.h, .int .i64 t.e] 43)).alloc (.cells #[.int .i64 3, .int .i64 0, .slice (some ⟨w4.heap.size, 0, none⟩) 2 2, .int .i64 0, .int .i64 0] 43) = w5 at HK5 ⊢
  generalize hA5 : w4.heap.size = A5 at HK5 ⊢
  clear hA5 hw5
  have b1 := below_alloc w5 (vrow2 v u)
  have VA := vrow2_at w5 v u HK5.out.1.hv HK5.out.1.hu
  have b2 := below_alloc (w5.alloc (vrow2 v u)) (.cells #[.int .i64 3, .int .i64 0, .slice (some ⟨w5.heap.size, 0, none⟩) 2 2] 24)
  have NV := Bv.new (w5.alloc (vrow2 v u)) (.mk 3 0 (some ⟨w5.heap.size, 0, none⟩) w5.heap.size 0 2 2 (fun i => if i = 0 then v else u))
  have e1 : (w5.alloc (vrow2 v u)).heap.size = w5.heap.size + 1 := alloc_size _ _
  rw [e1] at NV
  have HK6 : Hid (VB w ((w5.alloc (vrow2 v u)).alloc (.cells #[.int .i64 3, .int .i64 0, .slice (some ⟨w5.heap.size, 0, none⟩) 2 2] 24)) n g fs cs s t v u ∧ Bx ((w5.alloc (vrow2 v u)).alloc (.cells #[.int .i64 3, .int .i64 0, .slice (some ⟨w5.heap.size, 0, none⟩) 2 2] 24)) (A5 + 1) (.mk 3 0 0 0 (some ⟨A5, 0, none⟩) A5 0 2 2 (fun i => if i = 0 then s else t)) ∧ Ty.At ((w5.alloc (vrow2 v u)).alloc (.cells #[.int .i64 3, .int .i64 0, .slice (some ⟨w5.heap.size, 0, none⟩) 2 2] 24)) (.mk 3 0 0 0 (some ⟨A5, 0, none⟩) A5 0 2 2 (fun i => if i = 0 then s else t)) ∧ Bv ((w5.alloc (vrow2 v u)).alloc (.cells #[.int .i64 3, .int .i64 0, .slice (some ⟨w5.heap.size, 0, none⟩) 2 2] 24)) (w5.heap.size + 1) (.mk 3 0 (some ⟨w5.heap.size, 0, none⟩) w5.heap.size 0 2 2 (fun i => if i = 0 then v else u)) ∧ Vl.At ((w5.alloc (vrow2 v u)).alloc (.cells #[.int .i64 3, .int .i64 0, .slice (some ⟨w5.heap.size, 0, none⟩) 2 2] 24)) (.mk 3 0 (some ⟨w5.heap.size, 0, none⟩) w5.heap.size 0 2 2 (fun i => if i = 0 then v else u))) := ⟨(HK5.out.1.step b1).step b2, (HK5.out.2.1.kept b1).kept b2, (HK5.out.2.2.kept b1).kept b2, NV, VA.kept b2⟩
  have x5 := HK5.out.1.x.c5
  have x6 := HK5.out.1.x.c6
  have x7 := HK5.out.1.x.c7
  have y5 := HK5.out.1.y.c5
  have y6 := HK5.out.1.y.c6
  have y7 := HK5.out.1.y.c7
  clear b1 b2 NV VA e1 HK5
  unfold vrow2 at HK6
  go_upto_region 5 with fail
  clear x5 x6 x7 y5 y6 y7
  generalize hw6 : (w5.alloc (.cells #[.int .i64 v.k, .int .i64 v.m, .slice v.ao v.len v.cap, .int .i64 u.k, .int .i64 u.m, .slice u.ao u.len u.cap] 24)).alloc (.cells #[.int .i64 3, .int .i64 0, .slice (some ⟨w5.heap.size, 0, none⟩) 2 2] 24) = w6 at HK6 ⊢
  generalize hA6 : w5.heap.size = A6 at HK6 ⊢
  clear hA6 hw6
  have H1 : Calls Tryd.prog 24 #[.agg #[.slice n.ao n.len n.cap, .slice g.ao g.len g.cap], .agg #[.int .i64 3, .int .i64 0, .slice (some ⟨A5, 0, none⟩) 2 2, .int .i64 0, .int .i64 0]] w6 fun e w' => e = .returned (.bool (okB n g (.mk 3 0 0 0 (some ⟨A5, 0, none⟩) A5 0 2 2 (fun i => if i = 0 then s else t)))) ∧ Below w6.heap.size w6 w' := Formed2_any n g (.mk 3 0 0 0 (some ⟨A5, 0, none⟩) A5 0 2 2 (fun i => if i = 0 then s else t)) w6 HK6.out.1.wo.hn HK6.out.1.wo.hg HK6.out.2.2.1
  have o0 := HK6.out.1.o.c0
  have o1 := HK6.out.1.o.c1
  have x0 : w6.cell? ⟨A5 + 1, 0, none⟩ = some (.int .i64 3) := HK6.out.2.1.c0
  have x1 : w6.cell? ⟨A5 + 1, 1, none⟩ = some (.int .i64 0) := HK6.out.2.1.c1
  have x2 : w6.cell? ⟨A5 + 1, 2, none⟩ = some (.slice (some ⟨A5, 0, none⟩) 2 2) := HK6.out.2.1.c2
  have x3 : w6.cell? ⟨A5 + 1, 3, none⟩ = some (.int .i64 0) := HK6.out.2.1.c3
  have x4 : w6.cell? ⟨A5 + 1, 4, none⟩ = some (.int .i64 0) := HK6.out.2.1.c4
  go_wp2_with fail
  refine H1.mono ?_
  rintro e w7 ⟨rfl, hb7⟩
  have HK7 : Hid (VB w w7 n g fs cs s t v u ∧ Bx w7 (A5 + 1) (.mk 3 0 0 0 (some ⟨A5, 0, none⟩) A5 0 2 2 (fun i => if i = 0 then s else t)) ∧ Ty.At w7 (.mk 3 0 0 0 (some ⟨A5, 0, none⟩) A5 0 2 2 (fun i => if i = 0 then s else t)) ∧ Bv w7 (A6 + 1) (.mk 3 0 (some ⟨A6, 0, none⟩) A6 0 2 2 (fun i => if i = 0 then v else u)) ∧ Vl.At w7 (.mk 3 0 (some ⟨A6, 0, none⟩) A6 0 2 2 (fun i => if i = 0 then v else u))) := ⟨HK6.out.1.step hb7, HK6.out.2.1.kept hb7, HK6.out.2.2.1.kept hb7, HK6.out.2.2.2.1.kept hb7, HK6.out.2.2.2.2.kept hb7⟩
  clear o0 o1 x0 x1 x2 x3 x4 H1 HK6 hb7
  have HFT : Hid (∀ (a : World), VB w a n g fs cs s t v u → Ty.At a (.mk 3 0 0 0 (some ⟨A5, 0, none⟩) A5 0 2 2 (fun i => if i = 0 then s else t)) → Vl.At a (.mk 3 0 (some ⟨A6, 0, none⟩) A6 0 2 2 (fun i => if i = 0 then v else u)) → Calls Tryd.prog 20 #[.agg #[.slice n.ao n.len n.cap, .slice g.ao g.len g.cap], .slice fs.ao fs.len fs.cap, .slice cs.ao cs.len cs.cap, .agg #[.int .i64 3, .int .i64 0, .slice (some ⟨A5, 0, none⟩) 2 2, .int .i64 0, .int .i64 0], .agg #[.int .i64 3, .int .i64 0, .slice (some ⟨A6, 0, none⟩) 2 2]] a fun e w' => e = .returned (.bool (fitB n g fs cs (.mk 3 0 0 0 (some ⟨A5, 0, none⟩) A5 0 2 2 (fun i => if i = 0 then s else t)) (.mk 3 0 (some ⟨A6, 0, none⟩) A6 0 2 2 (fun i => if i = 0 then v else u)))) ∧ Below a.heap.size a w') := fun a h1 h2 h3 => Fits_any n g fs cs (.mk 3 0 0 0 (some ⟨A5, 0, none⟩) A5 0 2 2 (fun i => if i = 0 then s else t)) (.mk 3 0 (some ⟨A6, 0, none⟩) A6 0 2 2 (fun i => if i = 0 then v else u)) a h1.wo h2 h3 HCN.out
  cases hok : okB n g (.mk 3 0 0 0 (some ⟨A5, 0, none⟩) A5 0 2 2 (fun i => if i = 0 then s else t))
  · have HE : Hid (fitB n g fs cs (.mk 3 0 0 0 (some ⟨A5, 0, none⟩) A5 0 2 2 (fun i => if i = 0 then s else t)) (.mk 3 0 (some ⟨A6, 0, none⟩) A6 0 2 2 (fun i => if i = 0 then v else u)) = false) := fitB_no (by rw [hok]; rfl)
    clear hok
    have hC := HFT.out w7 HK7.out.1 HK7.out.2.2.1 HK7.out.2.2.2.2
    rw [HE.out] at hC
    have o0 := HK7.out.1.o.c0
    have o1 := HK7.out.1.o.c1
    have o2 := HK7.out.1.o.c2
    have o3 := HK7.out.1.o.c3
    have x0 : w7.cell? ⟨A5 + 1, 0, none⟩ = some (.int .i64 3) := HK7.out.2.1.c0
    have x1 : w7.cell? ⟨A5 + 1, 1, none⟩ = some (.int .i64 0) := HK7.out.2.1.c1
    have x2 : w7.cell? ⟨A5 + 1, 2, none⟩ = some (.slice (some ⟨A5, 0, none⟩) 2 2) := HK7.out.2.1.c2
    have x3 : w7.cell? ⟨A5 + 1, 3, none⟩ = some (.int .i64 0) := HK7.out.2.1.c3
    have x4 : w7.cell? ⟨A5 + 1, 4, none⟩ = some (.int .i64 0) := HK7.out.2.1.c4
    have v0 : w7.cell? ⟨A6 + 1, 0, none⟩ = some (.int .i64 3) := HK7.out.2.2.2.1.c0
    have v1 : w7.cell? ⟨A6 + 1, 1, none⟩ = some (.int .i64 0) := HK7.out.2.2.2.1.c1
    have v2 : w7.cell? ⟨A6 + 1, 2, none⟩ = some (.slice (some ⟨A6, 0, none⟩) 2 2) := HK7.out.2.2.2.1.c2
    go_wp2_with fail
    refine hC.mono ?_
    rintro e w8 ⟨rfl, hb8⟩
    go_wp2
    go_ret
    exact ⟨rfl, (HK7.out.1.step hb8).bl⟩
  have H2 : Calls Tryd.prog 14 #[.agg #[.int .i64 3, .int .i64 0, .slice (some ⟨A6, 0, none⟩) 2 2]] w7 fun e w' => e = .returned (.bool (Vl.ok (.mk 3 0 (some ⟨A6, 0, none⟩) A6 0 2 2 (fun i => if i = 0 then v else u)))) ∧ Below w7.heap.size w7 w' := vFormed_any (.mk 3 0 (some ⟨A6, 0, none⟩) A6 0 2 2 (fun i => if i = 0 then v else u)) w7 HK7.out.2.2.2.2
  have v0 : w7.cell? ⟨A6 + 1, 0, none⟩ = some (.int .i64 3) := HK7.out.2.2.2.1.c0
  have v1 : w7.cell? ⟨A6 + 1, 1, none⟩ = some (.int .i64 0) := HK7.out.2.2.2.1.c1
  have v2 : w7.cell? ⟨A6 + 1, 2, none⟩ = some (.slice (some ⟨A6, 0, none⟩) 2 2) := HK7.out.2.2.2.1.c2
  have HOK : Hid (okB n g (.mk 3 0 0 0 (some ⟨A5, 0, none⟩) A5 0 2 2 (fun i => if i = 0 then s else t)) = true) := hok
  clear hok
  go_wp2_with fail
  refine H2.mono ?_
  rintro e w8 ⟨rfl, hb8⟩
  have HK8 : Hid (VB w w8 n g fs cs s t v u ∧ Bx w8 (A5 + 1) (.mk 3 0 0 0 (some ⟨A5, 0, none⟩) A5 0 2 2 (fun i => if i = 0 then s else t)) ∧ Ty.At w8 (.mk 3 0 0 0 (some ⟨A5, 0, none⟩) A5 0 2 2 (fun i => if i = 0 then s else t)) ∧ Bv w8 (A6 + 1) (.mk 3 0 (some ⟨A6, 0, none⟩) A6 0 2 2 (fun i => if i = 0 then v else u)) ∧ Vl.At w8 (.mk 3 0 (some ⟨A6, 0, none⟩) A6 0 2 2 (fun i => if i = 0 then v else u))) := ⟨HK7.out.1.step hb8, HK7.out.2.1.kept hb8, HK7.out.2.2.1.kept hb8, HK7.out.2.2.2.1.kept hb8, HK7.out.2.2.2.2.kept hb8⟩
  clear v0 v1 v2 H2 HK7 hb8
  cases hvo : Vl.ok (.mk 3 0 (some ⟨A6, 0, none⟩) A6 0 2 2 (fun i => if i = 0 then v else u))
  · have HE : Hid (fitB n g fs cs (.mk 3 0 0 0 (some ⟨A5, 0, none⟩) A5 0 2 2 (fun i => if i = 0 then s else t)) (.mk 3 0 (some ⟨A6, 0, none⟩) A6 0 2 2 (fun i => if i = 0 then v else u)) = false) := fitB_no (by rw [hvo, Bool.and_false])
    clear hvo
    have hC := HFT.out w8 HK8.out.1 HK8.out.2.2.1 HK8.out.2.2.2.2
    rw [HE.out] at hC
    have o0 := HK8.out.1.o.c0
    have o1 := HK8.out.1.o.c1
    have o2 := HK8.out.1.o.c2
    have o3 := HK8.out.1.o.c3
    have x0 : w8.cell? ⟨A5 + 1, 0, none⟩ = some (.int .i64 3) := HK8.out.2.1.c0
    have x1 : w8.cell? ⟨A5 + 1, 1, none⟩ = some (.int .i64 0) := HK8.out.2.1.c1
    have x2 : w8.cell? ⟨A5 + 1, 2, none⟩ = some (.slice (some ⟨A5, 0, none⟩) 2 2) := HK8.out.2.1.c2
    have x3 : w8.cell? ⟨A5 + 1, 3, none⟩ = some (.int .i64 0) := HK8.out.2.1.c3
    have x4 : w8.cell? ⟨A5 + 1, 4, none⟩ = some (.int .i64 0) := HK8.out.2.1.c4
    have v0 : w8.cell? ⟨A6 + 1, 0, none⟩ = some (.int .i64 3) := HK8.out.2.2.2.1.c0
    have v1 : w8.cell? ⟨A6 + 1, 1, none⟩ = some (.int .i64 0) := HK8.out.2.2.2.1.c1
    have v2 : w8.cell? ⟨A6 + 1, 2, none⟩ = some (.slice (some ⟨A6, 0, none⟩) 2 2) := HK8.out.2.2.2.1.c2
    go_wp2_with fail
    refine hC.mono ?_
    rintro e w9 ⟨rfl, hb9⟩
    go_wp2
    go_ret
    exact ⟨rfl, (HK8.out.1.step hb9).bl⟩
  have HE : Hid (fitB n g fs cs (.mk 3 0 0 0 (some ⟨A5, 0, none⟩) A5 0 2 2 (fun i => if i = 0 then s else t)) (.mk 3 0 (some ⟨A6, 0, none⟩) A6 0 2 2 (fun i => if i = 0 then v else u)) = (fitB n g fs cs s v && fitB n g fs cs t u)) := fit_pair HOK.out hvo
  clear hvo
  have HKD : Hid (s.k ≠ v.k → fitB n g fs cs s v = false) := fun h => fitB_kind h
  go_wp2
  have F1 := fun a (ha : Below w8.heap.size w8 a) => Fits_any n g fs cs s v a (HK8.out.1.wo.kept ha) (HK8.out.1.hs.kept ha) (HK8.out.1.hv.kept ha) HCN.out
  have F2 := fun a (ha : Below w8.heap.size w8 a) => Fits_any n g fs cs t u a (HK8.out.1.wo.kept ha) (HK8.out.1.ht.kept ha) (HK8.out.1.hu.kept ha) HCN.out
  generalize fitB n g fs cs s v = P at HE HKD F1
  generalize fitB n g fs cs t u = Q at HE F2
  have o0 := fun z => Gr.cell z HK8.out.1.o.c0
  have o1 := fun z => Gr.cell z HK8.out.1.o.c1
  have o2 := fun z => Gr.cell z HK8.out.1.o.c2
  have o3 := fun z => Gr.cell z HK8.out.1.o.c3
  have x0 := fun z => Gr.cell z HK8.out.1.x.c0
  have x1 := fun z => Gr.cell z HK8.out.1.x.c1
  have x2 := fun z => Gr.cell z HK8.out.1.x.c2
  have x3 := fun z => Gr.cell z HK8.out.1.x.c3
  have x4 := fun z => Gr.cell z HK8.out.1.x.c4
  have x5 := fun z => Gr.cell z HK8.out.1.x.c5
  have x6 := fun z => Gr.cell z HK8.out.1.x.c6
  have x7 := fun z => Gr.cell z HK8.out.1.x.c7
  have y0 := fun z => Gr.cell z HK8.out.1.y.c0
  have y1 := fun z => Gr.cell z HK8.out.1.y.c1
  have y2 := fun z => Gr.cell z HK8.out.1.y.c2
  have y3 := fun z => Gr.cell z HK8.out.1.y.c3
  have y4 := fun z => Gr.cell z HK8.out.1.y.c4
  have y5 := fun z => Gr.cell z HK8.out.1.y.c5
  have y6 := fun z => Gr.cell z HK8.out.1.y.c6
  have y7 := fun z => Gr.cell z HK8.out.1.y.c7
  have hNE : Nonempty (Gr w8) := ⟨⟨_, Below.refl _ _⟩⟩
  refine wp_region_gr (by kernel_rfl) (by kernel_rfl) ?_
  repeat (first | go_big_quiet_step ((go_at_call 20; first | with_reducible exact Calls.gr _ (F1 _ (Gr.bl _)) | with_reducible exact Calls.gr _ (F2 _ (Gr.bl _)))))
  refine wpQuiet_nil ?_
  rintro w9 ⟨q9, rfl⟩
  have B9 := q9.bl
  generalize q9.w = w9 at B9 ⊢
  clear q9 hNE o0 o1 o2 o3 x0 x1 x2 x3 x4 x5 x6 x7 y0 y1 y2 y3 y4 y5 y6 y7 F1 F2
  have HK9 : Hid (VB w w9 n g fs cs s t v u ∧ Bx w9 (A5 + 1) (.mk 3 0 0 0 (some ⟨A5, 0, none⟩) A5 0 2 2 (fun i => if i = 0 then s else t)) ∧ Ty.At w9 (.mk 3 0 0 0 (some ⟨A5, 0, none⟩) A5 0 2 2 (fun i => if i = 0 then s else t)) ∧ Bv w9 (A6 + 1) (.mk 3 0 (some ⟨A6, 0, none⟩) A6 0 2 2 (fun i => if i = 0 then v else u)) ∧ Vl.At w9 (.mk 3 0 (some ⟨A6, 0, none⟩) A6 0 2 2 (fun i => if i = 0 then v else u))) := ⟨HK8.out.1.step B9, HK8.out.2.1.kept B9, HK8.out.2.2.1.kept B9, HK8.out.2.2.2.1.kept B9, HK8.out.2.2.2.2.kept B9⟩
  have hC := HFT.out w9 HK9.out.1 HK9.out.2.2.1 HK9.out.2.2.2.2
  rw [HE.out] at hC
  clear HK8 B9 HE HFT
  have o0 := HK9.out.1.o.c0
  have o1 := HK9.out.1.o.c1
  have o2 := HK9.out.1.o.c2
  have o3 := HK9.out.1.o.c3
  have z0 := HK9.out.1.x.c0
  have z5 := HK9.out.1.x.c5
  have x0 : w9.cell? ⟨A5 + 1, 0, none⟩ = some (.int .i64 3) := HK9.out.2.1.c0
  have x1 : w9.cell? ⟨A5 + 1, 1, none⟩ = some (.int .i64 0) := HK9.out.2.1.c1
  have x2 : w9.cell? ⟨A5 + 1, 2, none⟩ = some (.slice (some ⟨A5, 0, none⟩) 2 2) := HK9.out.2.1.c2
  have x3 : w9.cell? ⟨A5 + 1, 3, none⟩ = some (.int .i64 0) := HK9.out.2.1.c3
  have x4 : w9.cell? ⟨A5 + 1, 4, none⟩ = some (.int .i64 0) := HK9.out.2.1.c4
  have v0 : w9.cell? ⟨A6 + 1, 0, none⟩ = some (.int .i64 3) := HK9.out.2.2.2.1.c0
  have v1 : w9.cell? ⟨A6 + 1, 1, none⟩ = some (.int .i64 0) := HK9.out.2.2.2.1.c1
  have v2 : w9.cell? ⟨A6 + 1, 2, none⟩ = some (.slice (some ⟨A6, 0, none⟩) 2 2) := HK9.out.2.2.2.1.c2
  by_cases hkk : s.k = v.k
  · have bk : (s.k != v.k) = false := by simp [hkk]
    clear hkk HKD
    cases P
    · go_wp2_with fail
      refine hC.mono ?_
      rintro e w10 ⟨rfl, hb10⟩
      go_wp2
      go_ret
      exact ⟨rfl, (HK9.out.1.step hb10).bl⟩
    · go_wp2_with fail
      refine hC.mono ?_
      rintro e w10 ⟨rfl, hb10⟩
      go_wp2
      go_ret
      exact ⟨ret_bool (by cases Q <;> rfl), (HK9.out.1.step hb10).bl⟩
  · have bk : (s.k != v.k) = true := by simp [hkk]
    have hP := HKD.out hkk
    subst hP
    clear hkk HKD
    go_wp2_with fail
    refine hC.mono ?_
    rintro e w10 ⟨rfl, hb10⟩
    go_wp2
    go_ret
    exact ⟨rfl, (HK9.out.1.step hb10).bl⟩
end Go.Proofs.YtnkipiegjpjfbaaDoor

/- A lattice that comes in, opened into its names and its table. -/
namespace Go.Proofs.YtnkipiegjpjfbaaDoor
open Go.ChangeShapes Go.WideShapes Go.ChangeAt Go.RowKit Go.Deep Go.Joins

theorem Tryd.own : ownKnob Tryd.prog.godebug = none := by kernel_rfl
theorem Tryd.laidOut : laidOutB Tryd.prog = true := by kernel_rfl
theorem Tryd.cellsString : Tryd.prog.cellsOf 9 = 1 := by kernel_rfl
theorem Tryd.cellsBool : Tryd.prog.cellsOf 4 = 1 := by kernel_rfl
theorem Tryd.cellsRow : Tryd.prog.cellsOf 75 = 1 := by kernel_rfl
theorem Tryd.cellsLat : Tryd.prog.cellsOf 36 = 2 := by kernel_rfl
theorem addr_plain (b off i : Nat) : (⟨b, off, none⟩ : Addr).add i = ⟨b, off + i, none⟩ := by unfold Addr.add; split <;> simp_all

section
variable {H : Type} {enc : TypeId × Value → H} {W : World} {base : Nat}

set_option maxRecDepth 100000 in
theorem open_strs {fuel : Nat} {v : Value} {x : DataW H × List MemPlace} (h : DataW.trod enc Tryd.prog W base (fun _ => true) true fuel 33 [v] = some x) :
    ∃ n : Strs, v = .slice n.ao n.len n.cap ∧ n.At W := by
  rcases open_strings Tryd.underlying33 Tryd.underlying9 Tryd.cellsString h with ⟨hcs, _⟩ | ⟨a, len, cap, ss, hcs, _, hl, hm, hz, _, hcell, hws⟩
  · exact ⟨⟨none, 0, 0, 0, 0, fun _ => ByteArray.empty⟩, by simpa using hcs, ⟨Nat.le_refl _, fun h => absurd h (Nat.lt_irrefl _), Nat.zero_le _, fun _ h => absurd h (Nat.not_lt_zero _), fun _ h => absurd h (Nat.not_lt_zero _)⟩⟩
  · have hv : v = .slice (some a) len cap := by simpa using hcs
    simp only [if_true] at hz
    unfold maxLen at hm hws
    refine ⟨⟨some a, a.block, a.off, len, cap, fun i => ss.getD i ByteArray.empty⟩, hv, ⟨hl, fun hp => ?_, Nat.le_trans hl hm, fun i hi => ?_, fun i hi => ?_⟩⟩
    · have hp' : 0 < len := hp
      have hs := World.cell?_spot (hcell 0 (by omega))
      obtain ⟨ab, ao, asp⟩ := a
      have : asp = none := by simpa [Addr.add] using hs
      subst this; rfl
    · have hi' : i < len := hi
      have hs := World.cell?_spot (hcell 0 (by omega))
      obtain ⟨ab, ao, asp⟩ := a
      have : asp = none := by simpa [Addr.add] using hs
      subst this
      have := hcell i (by omega)
      rw [addr_plain] at this
      exact this
    · have hi' : i < len := hi
      have hmem : ss.getD i ByteArray.empty ∈ ss := by
        rw [List.getD_eq_getElem?_getD, List.getElem?_eq_getElem (by omega)]
        exact List.getElem_mem _
      exact hws _ hmem

set_option maxRecDepth 100000 in
theorem open_grid {fuel : Nat} {v : Value} {x : DataW H × List MemPlace} (h : DataW.trod enc Tryd.prog W base (fun _ => true) true fuel 34 [v] = some x) :
    ∃ g : Grid, v = .slice g.ao g.len g.cap ∧ g.At W := by
  rcases open_bool_rows Tryd.underlying34 Tryd.underlying75 Tryd.underlying4 Tryd.cellsRow Tryd.cellsBool h with ⟨hcs, _⟩ | ⟨a, len, cap, A, L, C, B, hcs, _, hl, hm, _, hrows⟩
  · exact ⟨⟨none, 0, 0, 0, 0, fun _ => none, fun _ => 0, fun _ => 0, fun _ => 0, fun _ => 0, fun _ _ => false⟩, by simpa using hcs,
      ⟨Nat.le_refl _, fun h => absurd h (Nat.lt_irrefl _), Nat.zero_le _, fun _ h => absurd h (Nat.not_lt_zero _), fun _ h => absurd h (Nat.not_lt_zero _), fun _ h => absurd h (Nat.not_lt_zero _), fun _ h => absurd h (Nat.not_lt_zero _)⟩⟩
  · have hv : v = .slice (some a) len cap := by simpa using hcs
    unfold maxLen at hm
    have hadr : ∀ r, r < len → 0 < L r → A r = some ⟨((A r).getD default).block, ((A r).getD default).off, none⟩ ∧ ∀ c, c < L r → W.cell? ⟨((A r).getD default).block, ((A r).getD default).off + c, none⟩ = some (.bool (B r c)) := fun r hr hp => by
      obtain ⟨_, h1, _, h3, h4⟩ := hrows r (by omega)
      cases hA : A r with
      | none => have := h3 hA; omega
      | some a' =>
        obtain ⟨ab, ao, asp⟩ := a'
        obtain ⟨_, hcell⟩ := h4 _ hA
        have has : asp = none := by simpa [Addr.add] using World.cell?_spot (hcell 0 (by omega))
        subst has
        exact ⟨rfl, fun c hc => by have := hcell c (by omega); rwa [addr_plain] at this⟩
    have hspot : 0 < len → a = ⟨a.block, a.off, none⟩ := fun hp => by
      have hs := World.cell?_spot (hrows 0 (by omega)).1
      obtain ⟨ab, ao, asp⟩ := a
      have : asp = none := by simpa [Addr.add] using hs
      subst this; rfl
    refine ⟨⟨some a, a.block, a.off, len, cap, A, L, C, fun r => ((A r).getD default).block, fun r => ((A r).getD default).off, B⟩, hv, ⟨hl, fun hp => congrArg some (hspot hp), Nat.le_trans hl hm, fun r hr => ?_, fun r hr => ?_, fun r hr hp => (hadr r hr hp).1, fun r hr c hc => (hadr r hr (Nat.lt_of_le_of_lt (Nat.zero_le _) hc)).2 c hc⟩⟩
    · have hr' : r < len := hr
      obtain ⟨_, h1, h2, _⟩ := hrows r (by omega)
      unfold maxLen at h2
      exact Nat.le_trans h1 h2
    · have hr' : r < len := hr
      have := (hrows r (by omega)).1
      rw [hspot (by omega), addr_plain] at this
      exact this

set_option maxRecDepth 100000 in
theorem open_lat {v : Value} {d : DataW H} {p : List MemPlace} {b0 : Nat} (hv : Value.okWide Tryd.prog W .any b0 36 v) (h : DataW.Trod enc Tryd.prog W base (fun _ => true) true 36 v d p) :
    ∃ (n : Strs) (g : Grid), v = .agg #[.slice n.ao n.len n.cap, .slice g.ao g.len g.cap] ∧ n.At W ∧ g.At W := by
  obtain ⟨c0, c1, y0, y1, m, rfl, _, _, hy0, hy1⟩ := open_agg2 Tryd.underlying36 (by kernel_rfl) Tryd.cellsLat hv h
  obtain ⟨n, rfl, hn⟩ := open_strs hy0
  obtain ⟨g, rfl, hg⟩ := open_grid hy1
  exact ⟨n, g, rfl, hn, hg⟩
end
end Go.Proofs.YtnkipiegjpjfbaaDoor

/- A type that comes in, opened. -/
namespace Go.Proofs.YtnkipiegjpjfbaaDoor
open Go.ChangeShapes Go.WideShapes Go.ChangeAt Go.RowKit Go.Deep Go.Joins

theorem Tryd.cellsInt' : Tryd.prog.cellsOf 3 = 1 := by kernel_rfl
theorem Tryd.cellsTys : Tryd.prog.cellsOf 41 = 1 := by kernel_rfl
theorem Tryd.cellsTy : Tryd.prog.cellsOf 43 = 5 := by kernel_rfl

section
variable {H : Type} {enc : TypeId × Value → H} {W : World} {base : Nat}

def Ty.cs (t : Ty) : List Value := [.int .i64 t.k, .int .i64 t.l, .slice t.ao t.len t.cap, .int .i64 t.h, .int .i64 t.e]

set_option maxRecDepth 100000 in
theorem open_ty : ∀ (fuel : Nat) (cs : List Value) (x : DataW H × List MemPlace), DataW.trod enc Tryd.prog W base (fun _ => true) true fuel 43 cs = some x → ∃ t : Ty, cs = t.cs ∧ t.At W := by
  intro fuel
  induction fuel using Nat.strongRecOn with
  | _ fuel ih =>
    intro cs x h
    obtain ⟨xs, n, rfl, _, hl, hlen, hf⟩ := DataW.trod_struct Tryd.underlying43 h
    rw [Tryd.cellsTy] at hl
    match cs, hl with
    | [c0, c1, c2, c3, c4], _ =>
      have hlen5 : xs.length = 5 := hlen
      match xs, hlen5 with
      | [y0, y1, y2, y3, y4], _ =>
        have f0 : DataW.trod enc Tryd.prog W base (fun _ => true) true n 3 [c0] = some y0 := by simpa [Tryd.cellsInt'] using hf 0 _ rfl
        have f1 : DataW.trod enc Tryd.prog W base (fun _ => true) true n 3 [c1] = some y1 := by simpa [Tryd.cellsInt'] using hf 1 _ rfl
        have f2 : DataW.trod enc Tryd.prog W base (fun _ => true) true n 41 [c2] = some y2 := by simpa [Tryd.cellsTys] using hf 2 _ rfl
        have f3 : DataW.trod enc Tryd.prog W base (fun _ => true) true n 3 [c3] = some y3 := by simpa [Tryd.cellsInt'] using hf 3 _ rfl
        have f4 : DataW.trod enc Tryd.prog W base (fun _ => true) true n 3 [c4] = some y4 := by simpa [Tryd.cellsInt'] using hf 4 _ rfl
        obtain ⟨k, q0, _⟩ := DataW.trod_int Tryd.underlying3 f0
        obtain ⟨l, q1, _⟩ := DataW.trod_int Tryd.underlying3 f1
        obtain ⟨hh, q3, _⟩ := DataW.trod_int Tryd.underlying3 f3
        obtain ⟨e, q4, _⟩ := DataW.trod_int Tryd.underlying3 f4
        simp only [List.cons.injEq, and_true] at q0 q1 q3 q4
        subst q0 q1 q3 q4
        rcases DataW.trod_slice Tryd.underlying41 f2 with ⟨hcs, _⟩ | ⟨a, len, cap, elems, rest, m, hm, hcs, _, _, hlc, hmx, hel, hx, _, _⟩
        · simp only [List.cons.injEq, and_true] at hcs
          subst hcs
          exact ⟨.mk k l hh e none 0 0 0 0 (fun _ => .dm), rfl, ⟨fun h => absurd h (Nat.lt_irrefl _), Nat.zero_le _, fun _ h => absurd h (Nat.not_lt_zero _)⟩⟩
        · simp only [List.cons.injEq, and_true] at hcs
          subst hcs hm
          unfold maxLen at hmx
          have each : ∀ i, i < len → ∃ t : Ty, (∀ j, j < 5 → W.cell? (a.add (i * 5 + j)) = t.cs[j]?) ∧ t.At W := by
            intro i hi
            have h1 := hx i hi
            rw [Tryd.cellsTy] at h1
            cases hc : W.cells? base (a.add (i * 5)) 5 with
            | none => rw [hc] at h1; simp at h1; omega
            | some cs' =>
              rw [hc] at h1
              have h2 : DataW.trod enc Tryd.prog W base (fun _ => true) true m 43 cs' = some elems[i] := by
                rw [List.getElem?_eq_getElem (by omega)] at h1
                simpa using h1
              obtain ⟨t, rfl, hA⟩ := ih m (by omega) cs' _ h2
              obtain ⟨_, _, hcell⟩ := World.cells?_some hc
              exact ⟨t, fun j hj => by rw [← hcell j hj, add_add], hA⟩
          have hspot : 0 < len → a = ⟨a.block, a.off, none⟩ := fun hp => by
            obtain ⟨t, ht, _⟩ := each 0 hp
            have hs := World.cell?_spot (a := a.add (0 * 5 + 0)) (v := .int .i64 t.k) (by rw [ht 0 (by omega)]; rfl)
            obtain ⟨ab, ao, asp⟩ := a
            have : asp = none := by simpa [Addr.add] using hs
            subst this; rfl
          refine ⟨.mk k l hh e (some a) a.block a.off len cap (fun i => if h : i < len then Classical.choose (each i h) else .dm), rfl, ⟨fun hp => congrArg some (hspot hp), by omega, fun i hi => ?_⟩⟩
          simp only [dif_pos hi]
          obtain ⟨ht, hA⟩ := Classical.choose_spec (each i hi)
          generalize Classical.choose (each i hi) = t at ht hA
          have ea := hspot (by omega)
          have get : ∀ j, j < 5 → W.cell? ⟨a.block, a.off + i * 5 + j, none⟩ = t.cs[j]? := fun j hj => by
            have := ht j hj
            rw [ea, addr_plain, ← Nat.add_assoc] at this
            exact this
          exact ⟨⟨get 0 (by omega), get 1 (by omega), get 2 (by omega), get 3 (by omega), get 4 (by omega)⟩, hA⟩
set_option maxRecDepth 100000 in
theorem open_type {v : Value} {d : DataW H} {p : List MemPlace} {b0 : Nat} (hv : Value.okWide Tryd.prog W .any b0 43 v) (h : DataW.Trod enc Tryd.prog W base (fun _ => true) true 43 v d p) :
    ∃ t : Ty, v = .agg #[.int .i64 t.k, .int .i64 t.l, .slice t.ao t.len t.cap, .int .i64 t.h, .int .i64 t.e] ∧ t.At W := by
  obtain ⟨cs, rfl, _⟩ := okWide_struct Tryd.underlying43 hv
  obtain ⟨fuel, hf⟩ := h
  obtain ⟨t, ht, hA⟩ := open_ty fuel _ _ hf
  refine ⟨t, ?_, hA⟩
  have : cs.toList = t.cs := by simpa [Value.cells] using ht
  obtain ⟨l⟩ := cs
  have e : l = t.cs := this
  rw [e]; rfl

end
end Go.Proofs.YtnkipiegjpjfbaaDoor

/- A value that comes in, opened. -/
namespace Go.Proofs.YtnkipiegjpjfbaaDoor
open Go.ChangeShapes Go.WideShapes Go.ChangeAt Go.RowKit Go.Deep Go.Joins

theorem Tryd.cInt : Tryd.prog.cellsOf 3 = 1 := by kernel_rfl
theorem Tryd.cInt64 : Tryd.prog.cellsOf 2 = 1 := by kernel_rfl
theorem Tryd.cVls : Tryd.prog.cellsOf 22 = 1 := by kernel_rfl
theorem Tryd.cVl : Tryd.prog.cellsOf 24 = 3 := by kernel_rfl
theorem addr_vl (b off i : Nat) : (⟨b, off, none⟩ : Addr).add i = ⟨b, off + i, none⟩ := by unfold Addr.add; split <;> simp_all
theorem wf_i64v {n : Int} (h : (Lit.int .i64 n).wf = true) : -9223372036854775808 ≤ n ∧ n ≤ 9223372036854775807 := by
  have h' : IntKind.i64.min ≤ n ∧ n ≤ IntKind.i64.max := by simpa [Lit.wf] using h
  have e1 : IntKind.i64.min = -9223372036854775808 := by decide
  have e2 : IntKind.i64.max = 9223372036854775807 := by decide
  omega

section
variable {H : Type} {enc : TypeId × Value → H} {W : World} {base : Nat}

def Vl.cs (t : Vl) : List Value := [.int .i64 t.k, .int .i64 t.m, .slice t.ao t.len t.cap]

set_option maxRecDepth 100000 in
theorem open_vl : ∀ (fuel : Nat) (cs : List Value) (x : DataW H × List MemPlace), DataW.trod enc Tryd.prog W base (fun _ => true) true fuel 24 cs = some x → ∃ t : Vl, cs = t.cs ∧ t.At W ∧ t.rng := by
  intro fuel
  induction fuel using Nat.strongRecOn with
  | _ fuel ih =>
    intro cs x h
    obtain ⟨xs, n, rfl, _, hl, hlen, hf⟩ := DataW.trod_struct Tryd.underlying24 h
    rw [Tryd.cVl] at hl
    match cs, hl with
    | [c0, c1, c2], _ =>
      have hlen3 : xs.length = 3 := hlen
      match xs, hlen3 with
      | [y0, y1, y2], _ =>
        have f0 : DataW.trod enc Tryd.prog W base (fun _ => true) true n 3 [c0] = some y0 := by simpa [Tryd.cInt] using hf 0 _ rfl
        have f1 : DataW.trod enc Tryd.prog W base (fun _ => true) true n 2 [c1] = some y1 := by simpa [Tryd.cInt64] using hf 1 _ rfl
        have f2 : DataW.trod enc Tryd.prog W base (fun _ => true) true n 22 [c2] = some y2 := by simpa [Tryd.cVls] using hf 2 _ rfl
        obtain ⟨k, q0, _⟩ := DataW.trod_int Tryd.underlying3 f0
        obtain ⟨m0, q1, _, wm⟩ := DataW.trod_int Tryd.underlying2 f1
        simp only [List.cons.injEq, and_true] at q0 q1
        subst q0 q1
        rcases DataW.trod_slice Tryd.underlying22 f2 with ⟨hcs, _⟩ | ⟨a, len, cap, elems, rest, m, hm, hcs, _, _, hlc, hmx, hel, hx, _, _⟩
        · simp only [List.cons.injEq, and_true] at hcs
          subst hcs
          exact ⟨.mk k m0 none 0 0 0 0 (fun _ => .dm), rfl, ⟨fun h => absurd h (Nat.lt_irrefl _), Nat.zero_le _, fun _ h => absurd h (Nat.not_lt_zero _)⟩, ⟨wf_i64v wm, fun _ h => absurd h (Nat.not_lt_zero _)⟩⟩
        · simp only [List.cons.injEq, and_true] at hcs
          subst hcs hm
          unfold maxLen at hmx
          have each : ∀ i, i < len → ∃ t : Vl, (∀ j, j < 3 → W.cell? (a.add (i * 3 + j)) = t.cs[j]?) ∧ t.At W ∧ t.rng := by
            intro i hi
            have h1 := hx i hi
            rw [Tryd.cVl] at h1
            cases hc : W.cells? base (a.add (i * 3)) 3 with
            | none => rw [hc] at h1; simp at h1; omega
            | some cs' =>
              rw [hc] at h1
              have h2 : DataW.trod enc Tryd.prog W base (fun _ => true) true m 24 cs' = some elems[i] := by
                rw [List.getElem?_eq_getElem (by omega)] at h1
                simpa using h1
              obtain ⟨t, rfl, hA⟩ := ih m (by omega) cs' _ h2
              obtain ⟨_, _, hcell⟩ := World.cells?_some hc
              exact ⟨t, fun j hj => by rw [← hcell j hj, add_add], hA⟩
          have hspot : 0 < len → a = ⟨a.block, a.off, none⟩ := fun hp => by
            obtain ⟨t, ht, _⟩ := each 0 hp
            have hs := World.cell?_spot (a := a.add (0 * 3 + 0)) (v := .int .i64 t.k) (by rw [ht 0 (by omega)]; rfl)
            obtain ⟨ab, ao, asp⟩ := a
            have : asp = none := by simpa [Addr.add] using hs
            subst this; rfl
          refine ⟨.mk k m0 (some a) a.block a.off len cap (fun i => if h : i < len then Classical.choose (each i h) else .dm), rfl, ⟨fun hp => congrArg some (hspot hp), by omega, fun i hi => ?_⟩, ⟨wf_i64v wm, fun i hi => ?_⟩⟩
          · simp only [dif_pos hi]
            obtain ⟨ht, hA, _⟩ := Classical.choose_spec (each i hi)
            generalize Classical.choose (each i hi) = t at ht hA
            have ea := hspot (by omega)
            have get : ∀ j, j < 3 → W.cell? ⟨a.block, a.off + i * 3 + j, none⟩ = t.cs[j]? := fun j hj => by
              have := ht j hj
              rw [ea, addr_vl, ← Nat.add_assoc] at this
              exact this
            exact ⟨⟨get 0 (by omega), get 1 (by omega), get 2 (by omega)⟩, hA⟩
          · simp only [dif_pos hi]
            exact (Classical.choose_spec (each i hi)).2.2
set_option maxRecDepth 100000 in
theorem open_value {v : Value} {d : DataW H} {p : List MemPlace} {b0 : Nat} (hv : Value.okWide Tryd.prog W .any b0 24 v) (h : DataW.Trod enc Tryd.prog W base (fun _ => true) true 24 v d p) :
    ∃ t : Vl, v = .agg #[.int .i64 t.k, .int .i64 t.m, .slice t.ao t.len t.cap] ∧ t.At W ∧ t.rng := by
  obtain ⟨cs, rfl, _⟩ := okWide_struct Tryd.underlying24 hv
  obtain ⟨fuel, hf⟩ := h
  obtain ⟨t, ht, hA⟩ := open_vl fuel _ _ hf
  refine ⟨t, ?_, hA⟩
  have : cs.toList = t.cs := by simpa [Value.cells] using ht
  obtain ⟨l⟩ := cs
  have e : l = t.cs := this
  rw [e]; rfl
end
end Go.Proofs.YtnkipiegjpjfbaaDoor
