/- Layer 3: the walk of the statement ValuePairs. -/
import Derived.Test.YtnkipiegjpjfbaaDoorP16
import Derived.Test.YtnkipiegjpjfbaaDoorP17
import Derived.Test.YtnkipiegjpjfbaaDoorP14
import Derived.Deep.AppendLies
import Derived.Laws.AppendOwnNone
namespace Go.Proofs.YtnkipiegjpjfbaaDoor
open Go.RowKit

/-- A variable that holds a type and a value. -/
structure Bt (w : World) (B : Nat) (t : Ty) (v : Vl) : Prop where
  c0 : w.cell? ⟨B, 0, none⟩ = some (.int .i64 t.k)
  c1 : w.cell? ⟨B, 1, none⟩ = some (.int .i64 t.l)
  c2 : w.cell? ⟨B, 2, none⟩ = some (.slice t.ao t.len t.cap)
  c3 : w.cell? ⟨B, 3, none⟩ = some (.int .i64 t.h)
  c4 : w.cell? ⟨B, 4, none⟩ = some (.int .i64 t.e)
  c5 : w.cell? ⟨B, 5, none⟩ = some (.int .i64 v.k)
  c6 : w.cell? ⟨B, 6, none⟩ = some (.int .i64 v.m)
  c7 : w.cell? ⟨B, 7, none⟩ = some (.slice v.ao v.len v.cap)
theorem Bt.kept {w w' : World} {B : Nat} {t : Ty} {v : Vl} (h : Bt w B t v) (hb : Below w.heap.size w w') : Bt w' B t v := ⟨up hb h.c0, up hb h.c1, up hb h.c2, up hb h.c3, up hb h.c4, up hb h.c5, up hb h.c6, up hb h.c7⟩
def tdO (t : Ty) (v : Vl) : Obj := .cells #[.int .i64 t.k, .int .i64 t.l, .slice t.ao t.len t.cap, .int .i64 t.h, .int .i64 t.e, .int .i64 v.k, .int .i64 v.m, .slice v.ao v.len v.cap] 45
theorem Bt.new (w : World) (t : Ty) (v : Vl) : Bt (w.alloc (tdO t v)) w.heap.size t v := by
  constructor <;> simp [tdO]
/-- The statement's variables. -/
structure VB (w z : World) (n : Strs) (g : Grid) (fs : Fs) (cs : Cs) (s t : Ty) (v u : Vl) : Prop where
  bl : Below w.heap.size w z
  o : Bw z w.heap.size n g fs cs
  x : Bt z (w.heap.size + 1) s v
  y : Bt z (w.heap.size + 2) t u
  wo : Wo z n g fs cs
  hs : s.At z
  ht : t.At z
  hv : v.At z
  hu : u.At z
  tab : Tab z
theorem VB.step {w z z' : World} {n : Strs} {g : Grid} {fs : Fs} {cs : Cs} {s t : Ty} {v u : Vl} (h : VB w z n g fs cs s t v u) (hb : Below z.heap.size z z') : VB w z' n g fs cs s t v u :=
  ⟨Below.next h.bl hb, h.o.kept hb, h.x.kept hb, h.y.kept hb, h.wo.kept hb, h.hs.kept hb, h.ht.kept hb, h.hv.kept hb, h.hu.kept hb, h.tab.kept hb⟩
theorem VB.new {w : World} {n : Strs} {g : Grid} {fs : Fs} {cs : Cs} {s t : Ty} {v u : Vl} (hw : Wo w n g fs cs) (hs : s.At w) (ht : t.At w) (hv : v.At w) (hu : u.At w) (hT : Tab w) : VB w (((w.alloc (woO n g fs cs)).alloc (tdO s v)).alloc (tdO t u)) n g fs cs s t v u := by
  have b1 := below_alloc w (woO n g fs cs)
  have b2 := below_alloc (w.alloc (woO n g fs cs)) (tdO s v)
  have b3 := below_alloc ((w.alloc (woO n g fs cs)).alloc (tdO s v)) (tdO t u)
  have e1 : (w.alloc (woO n g fs cs)).heap.size = w.heap.size + 1 := alloc_size _ _
  have e2 : ((w.alloc (woO n g fs cs)).alloc (tdO s v)).heap.size = w.heap.size + 2 := by rw [alloc_size, e1]
  have X0 := (Bt.new (w.alloc (woO n g fs cs)) s v).kept b3
  have Y0 := Bt.new ((w.alloc (woO n g fs cs)).alloc (tdO s v)) t u
  rw [e1] at X0
  rw [e2] at Y0
  have B0 := Below.next (Below.next b1 b2) b3
  exact ⟨B0, (Bw.new w n g fs cs).kept (Below.next b2 b3), X0, Y0, hw.kept B0, hs.kept B0, ht.kept B0, hv.kept B0, hu.kept B0, hT.kept B0⟩

/-- A row of two values. -/
def vrow2 (v u : Vl) : Obj := .cells #[.int .i64 v.k, .int .i64 v.m, .slice v.ao v.len v.cap, .int .i64 u.k, .int .i64 u.m, .slice u.ao u.len u.cap] 24
theorem vrow2_at (w : World) (v u : Vl) (hv : v.At w) (hu : u.At w) : Vl.At (w.alloc (vrow2 v u)) (.mk 3 0 (some ⟨w.heap.size, 0, none⟩) w.heap.size 0 2 2 (fun i => if i = 0 then v else u)) := by
  have b := below_alloc w (vrow2 v u)
  refine ⟨fun _ => rfl, by omega, fun i hi => ?_⟩
  match i, hi with
  | 0, _ => exact ⟨by constructor <;> simp [vrow2], hv.kept b⟩
  | 1, _ => exact ⟨by constructor <;> simp [vrow2], hu.kept b⟩
theorem trow2_at (w : World) (s t : Ty) (hs : s.At w) (ht : t.At w) : Ty.At (w.alloc (row2 s t)) (.mk 3 0 0 0 (some ⟨w.heap.size, 0, none⟩) w.heap.size 0 2 2 (fun i => if i = 0 then s else t)) := row2_at w s t hs ht

set_option maxRecDepth 100000 in
set_option maxHeartbeats 8000000 in
theorem valuePairs_any (n : Strs) (g : Grid) (fs : Fs) (cs : Cs) (s t : Ty) (v u : Vl) (w : World) (hw : Wo w n g fs cs) (hs : s.At w) (ht : t.At w) (hv : v.At w) (hu : u.At w) (hT : Tab w) :
    Calls Tryd.prog 7 #[.agg #[.slice n.ao n.len n.cap, .slice g.ao g.len g.cap, .slice fs.ao fs.len fs.cap, .slice cs.ao cs.len cs.cap], .agg #[.int .i64 s.k, .int .i64 s.l, .slice s.ao s.len s.cap, .int .i64 s.h, .int .i64 s.e, .int .i64 v.k, .int .i64 v.m, .slice v.ao v.len v.cap], .agg #[.int .i64 t.k, .int .i64 t.l, .slice t.ao t.len t.cap, .int .i64 t.h, .int .i64 t.e, .int .i64 u.k, .int .i64 u.m, .slice u.ao u.len u.cap]] w fun e w' => e = .returned (.bool true) ∧ Below w.heap.size w w' := by
  have K0 := VB.new hw hs ht hv hu hT
  clear hw hs ht hv hu hT
  unfold woO tdO at K0
  go_enter Tryd.func7, Tryd.ntmps7
  go_wp2_with fail
  refine (vawake_any _ K0.tab).mono ?_
  rintro e w1 ⟨rfl, hb1⟩
  have K1 := K0.step hb1
  clear K0 hb1
  have o0 := K1.o.c0
  have o1 := K1.o.c1
  have o2 := K1.o.c2
  have o3 := K1.o.c3
  have x0 := K1.x.c0
  have x1 := K1.x.c1
  have x2 := K1.x.c2
  have x3 := K1.x.c3
  have x4 := K1.x.c4
  have x5 := K1.x.c5
  have x6 := K1.x.c6
  have x7 := K1.x.c7
  go_wp2_with fail
  refine (vfew_any n g fs cs s v _ K1.wo K1.hs K1.hv).mono ?_
  rintro e w2 ⟨r1, rfl, hr1, hb2⟩
  have K2 := K1.step hb2
  have HR1 : Hid (r1 = true → (∀ i, i < cs.len → (cs.t i).nodes ≤ 40) ∧ s.nodes ≤ 40 ∧ v.nodes ≤ 2000) := hr1
  clear K1 hb2 hr1 o0 o1 o2 o3 x0 x1 x2 x3 x4 x5 x6 x7
  cases r1
  · go_wp2_with fail
    refine (vawake_any _ K2.tab).mono ?_
    rintro e w3 ⟨rfl, hb3⟩
    go_wp2
    go_ret
    exact ⟨rfl, (K2.step hb3).bl⟩
  have HCN : Hid (∀ i, i < cs.len → (cs.t i).nodes ≤ 40) := (HR1.out rfl).1
  clear HR1
  have o0 := K2.o.c0
  have o1 := K2.o.c1
  have o2 := K2.o.c2
  have o3 := K2.o.c3
  have y0 := K2.y.c0
  have y1 := K2.y.c1
  have y2 := K2.y.c2
  have y3 := K2.y.c3
  have y4 := K2.y.c4
  have y5 := K2.y.c5
  have y6 := K2.y.c6
  have y7 := K2.y.c7
  go_wp2_with fail
  refine (vfew_any n g fs cs t u _ K2.wo K2.ht K2.hu).mono ?_
  rintro e w3 ⟨r2, rfl, _, hb3⟩
  have K3 := K2.step hb3
  clear K2 hb3 o0 o1 o2 o3 y0 y1 y2 y3 y4 y5 y6 y7
  cases r2
  · go_wp2_with fail
    refine (vawake_any _ K3.tab).mono ?_
    rintro e w4 ⟨rfl, hb4⟩
    go_wp2
    go_ret
    exact ⟨rfl, (K3.step hb4).bl⟩
  have o0 := K3.o.c0
  have o1 := K3.o.c1
  go_wp2_with fail
  refine (rformed_any n g _ K3.wo.hn K3.wo.hg).mono ?_
  rintro e w4 ⟨rfl, hb4⟩
  have K4 := K3.step hb4
  clear K3 hb4 o0 o1
  cases hF : formedB n g
  · clear hF
    go_wp2_with fail
    refine (vawake_any _ K4.tab).mono ?_
    rintro e w5 ⟨rfl, hb5⟩
    go_wp2
    go_ret
    exact ⟨rfl, (K4.step hb5).bl⟩
  clear hF
  have HK4 : Hid (VB w w4 n g fs cs s t v u) := K4
  have b1 := below_alloc w4 (row2 s t)
  have TA := trow2_at w4 s t K4.hs K4.ht
  have b2 := below_alloc (w4.alloc (row2 s t)) (.cells #[.int .i64 3, .int .i64 0, .slice (some ⟨w4.heap.size, 0, none⟩) 2 2, .int .i64 0, .int .i64 0] 43)
  have NX := Bx.new (w4.alloc (row2 s t)) (.mk 3 0 0 0 (some ⟨w4.heap.size, 0, none⟩) w4.heap.size 0 2 2 (fun i => if i = 0 then s else t))
  have e1 : (w4.alloc (row2 s t)).heap.size = w4.heap.size + 1 := alloc_size _ _
  rw [e1] at NX
  have HK5 : Hid (VB w ((w4.alloc (row2 s t)).alloc (.cells #[.int .i64 3, .int .i64 0, .slice (some ⟨w4.heap.size, 0, none⟩) 2 2, .int .i64 0, .int .i64 0] 43)) n g fs cs s t v u ∧ Bx ((w4.alloc (row2 s t)).alloc (.cells #[.int .i64 3, .int .i64 0, .slice (some ⟨w4.heap.size, 0, none⟩) 2 2, .int .i64 0, .int .i64 0] 43)) (w4.heap.size + 1) (.mk 3 0 0 0 (some ⟨w4.heap.size, 0, none⟩) w4.heap.size 0 2 2 (fun i => if i = 0 then s else t)) ∧ Ty.At ((w4.alloc (row2 s t)).alloc (.cells #[.int .i64 3, .int .i64 0, .slice (some ⟨w4.heap.size, 0, none⟩) 2 2, .int .i64 0, .int .i64 0] 43)) (.mk 3 0 0 0 (some ⟨w4.heap.size, 0, none⟩) w4.heap.size 0 2 2 (fun i => if i = 0 then s else t))) := ⟨(K4.step b1).step b2, NX, TA.kept b2⟩
  have x0 := K4.x.c0
  have x1 := K4.x.c1
  have x2 := K4.x.c2
  have x3 := K4.x.c3
  have x4 := K4.x.c4
  have y0 := K4.y.c0
  have y1 := K4.y.c1
  have y2 := K4.y.c2
  have y3 := K4.y.c3
  have y4 := K4.y.c4
  clear b1 b2 NX TA e1 K4 HK4
  unfold row2 at HK5
  go_upto_region 4 with fail
  clear x0 x1 x2 x3 x4 y0 y1 y2 y3 y4
  generalize hw5 : (w4.alloc (.cells #[.int .i64 s.k, .int .i64 s.l, .slice s.ao s.len s.cap, .int .i64 s.h, .int .i64 s.e, .int .i64 t.k, .int .i64 t.l, .slice t.ao t.len t.cap, .int .i64 t.h, .int .i64 t.e] 43)).alloc (.cells #[.int .i64 3, .int .i64 0, .slice (some ⟨w4.heap.size, 0, none⟩) 2 2, .int .i64 0, .int .i64 0] 43) = w5 at HK5 ⊢
  generalize hA5 : w4.heap.size = A5 at HK5 ⊢
  clear hA5 hw5
  have b1 := below_alloc w5 (vrow2 v u)
  have VA := vrow2_at w5 v u HK5.out.1.hv HK5.out.1.hu
  have b2 := below_alloc (w5.alloc (vrow2 v u)) (.cells #[.int .i64 3, .int .i64 0, .slice (some ⟨w5.heap.size, 0, none⟩) 2 2] 24)
  have NV := Bv.new (w5.alloc (vrow2 v u)) (.mk 3 0 (some ⟨w5.heap.size, 0, none⟩) w5.heap.size 0 2 2 (fun i => if i = 0 then v else u))
  have e1 : (w5.alloc (vrow2 v u)).heap.size = w5.heap.size + 1 := alloc_size _ _
  rw [e1] at NV
  have HK6 : Hid (VB w ((w5.alloc (vrow2 v u)).alloc (.cells #[.int .i64 3, .int .i64 0, .slice (some ⟨w5.heap.size, 0, none⟩) 2 2] 24)) n g fs cs s t v u ∧ Bx ((w5.alloc (vrow2 v u)).alloc (.cells #[.int .i64 3, .int .i64 0, .slice (some ⟨w5.heap.size, 0, none⟩) 2 2] 24)) (A5 + 1) (.mk 3 0 0 0 (some ⟨A5, 0, none⟩) A5 0 2 2 (fun i => if i = 0 then s else t)) ∧ Ty.At ((w5.alloc (vrow2 v u)).alloc (.cells #[.int .i64 3, .int .i64 0, .slice (some ⟨w5.heap.size, 0, none⟩) 2 2] 24)) (.mk 3 0 0 0 (some ⟨A5, 0, none⟩) A5 0 2 2 (fun i => if i = 0 then s else t)) ∧ Bv ((w5.alloc (vrow2 v u)).alloc (.cells #[.int .i64 3, .int .i64 0, .slice (some ⟨w5.heap.size, 0, none⟩) 2 2] 24)) (w5.heap.size + 1) (.mk 3 0 (some ⟨w5.heap.size, 0, none⟩) w5.heap.size 0 2 2 (fun i => if i = 0 then v else u)) ∧ Vl.At ((w5.alloc (vrow2 v u)).alloc (.cells #[.int .i64 3, .int .i64 0, .slice (some ⟨w5.heap.size, 0, none⟩) 2 2] 24)) (.mk 3 0 (some ⟨w5.heap.size, 0, none⟩) w5.heap.size 0 2 2 (fun i => if i = 0 then v else u))) := ⟨(HK5.out.1.step b1).step b2, (HK5.out.2.1.kept b1).kept b2, (HK5.out.2.2.kept b1).kept b2, NV, VA.kept b2⟩
  have x5 := HK5.out.1.x.c5
  have x6 := HK5.out.1.x.c6
  have x7 := HK5.out.1.x.c7
  have y5 := HK5.out.1.y.c5
  have y6 := HK5.out.1.y.c6
  have y7 := HK5.out.1.y.c7
  clear b1 b2 NV VA e1 HK5
  unfold vrow2 at HK6
  go_upto_region 5 with fail
  clear x5 x6 x7 y5 y6 y7
  generalize hw6 : (w5.alloc (.cells #[.int .i64 v.k, .int .i64 v.m, .slice v.ao v.len v.cap, .int .i64 u.k, .int .i64 u.m, .slice u.ao u.len u.cap] 24)).alloc (.cells #[.int .i64 3, .int .i64 0, .slice (some ⟨w5.heap.size, 0, none⟩) 2 2] 24) = w6 at HK6 ⊢
  generalize hA6 : w5.heap.size = A6 at HK6 ⊢
  clear hA6 hw6
  have H1 : Calls Tryd.prog 24 #[.agg #[.slice n.ao n.len n.cap, .slice g.ao g.len g.cap], .agg #[.int .i64 3, .int .i64 0, .slice (some ⟨A5, 0, none⟩) 2 2, .int .i64 0, .int .i64 0]] w6 fun e w' => e = .returned (.bool (okB n g (.mk 3 0 0 0 (some ⟨A5, 0, none⟩) A5 0 2 2 (fun i => if i = 0 then s else t)))) ∧ Below w6.heap.size w6 w' := Formed2_any n g (.mk 3 0 0 0 (some ⟨A5, 0, none⟩) A5 0 2 2 (fun i => if i = 0 then s else t)) w6 HK6.out.1.wo.hn HK6.out.1.wo.hg HK6.out.2.2.1
  have o0 := HK6.out.1.o.c0
  have o1 := HK6.out.1.o.c1
  have x0 : w6.cell? ⟨A5 + 1, 0, none⟩ = some (.int .i64 3) := HK6.out.2.1.c0
  have x1 : w6.cell? ⟨A5 + 1, 1, none⟩ = some (.int .i64 0) := HK6.out.2.1.c1
  have x2 : w6.cell? ⟨A5 + 1, 2, none⟩ = some (.slice (some ⟨A5, 0, none⟩) 2 2) := HK6.out.2.1.c2
  have x3 : w6.cell? ⟨A5 + 1, 3, none⟩ = some (.int .i64 0) := HK6.out.2.1.c3
  have x4 : w6.cell? ⟨A5 + 1, 4, none⟩ = some (.int .i64 0) := HK6.out.2.1.c4
  go_wp2_with fail
  refine H1.mono ?_
  rintro e w7 ⟨rfl, hb7⟩
  have HK7 : Hid (VB w w7 n g fs cs s t v u ∧ Bx w7 (A5 + 1) (.mk 3 0 0 0 (some ⟨A5, 0, none⟩) A5 0 2 2 (fun i => if i = 0 then s else t)) ∧ Ty.At w7 (.mk 3 0 0 0 (some ⟨A5, 0, none⟩) A5 0 2 2 (fun i => if i = 0 then s else t)) ∧ Bv w7 (A6 + 1) (.mk 3 0 (some ⟨A6, 0, none⟩) A6 0 2 2 (fun i => if i = 0 then v else u)) ∧ Vl.At w7 (.mk 3 0 (some ⟨A6, 0, none⟩) A6 0 2 2 (fun i => if i = 0 then v else u))) := ⟨HK6.out.1.step hb7, HK6.out.2.1.kept hb7, HK6.out.2.2.1.kept hb7, HK6.out.2.2.2.1.kept hb7, HK6.out.2.2.2.2.kept hb7⟩
  clear o0 o1 x0 x1 x2 x3 x4 H1 HK6 hb7
  have HFT : Hid (∀ (a : World), VB w a n g fs cs s t v u → Ty.At a (.mk 3 0 0 0 (some ⟨A5, 0, none⟩) A5 0 2 2 (fun i => if i = 0 then s else t)) → Vl.At a (.mk 3 0 (some ⟨A6, 0, none⟩) A6 0 2 2 (fun i => if i = 0 then v else u)) → Calls Tryd.prog 20 #[.agg #[.slice n.ao n.len n.cap, .slice g.ao g.len g.cap], .slice fs.ao fs.len fs.cap, .slice cs.ao cs.len cs.cap, .agg #[.int .i64 3, .int .i64 0, .slice (some ⟨A5, 0, none⟩) 2 2, .int .i64 0, .int .i64 0], .agg #[.int .i64 3, .int .i64 0, .slice (some ⟨A6, 0, none⟩) 2 2]] a fun e w' => e = .returned (.bool (fitB n g fs cs (.mk 3 0 0 0 (some ⟨A5, 0, none⟩) A5 0 2 2 (fun i => if i = 0 then s else t)) (.mk 3 0 (some ⟨A6, 0, none⟩) A6 0 2 2 (fun i => if i = 0 then v else u)))) ∧ Below a.heap.size a w') := fun a h1 h2 h3 => Fits_any n g fs cs (.mk 3 0 0 0 (some ⟨A5, 0, none⟩) A5 0 2 2 (fun i => if i = 0 then s else t)) (.mk 3 0 (some ⟨A6, 0, none⟩) A6 0 2 2 (fun i => if i = 0 then v else u)) a h1.wo h2 h3 HCN.out
  cases hok : okB n g (.mk 3 0 0 0 (some ⟨A5, 0, none⟩) A5 0 2 2 (fun i => if i = 0 then s else t))
  · have HE : Hid (fitB n g fs cs (.mk 3 0 0 0 (some ⟨A5, 0, none⟩) A5 0 2 2 (fun i => if i = 0 then s else t)) (.mk 3 0 (some ⟨A6, 0, none⟩) A6 0 2 2 (fun i => if i = 0 then v else u)) = false) := fitB_no (by rw [hok]; rfl)
    clear hok
    have hC := HFT.out w7 HK7.out.1 HK7.out.2.2.1 HK7.out.2.2.2.2
    rw [HE.out] at hC
    have o0 := HK7.out.1.o.c0
    have o1 := HK7.out.1.o.c1
    have o2 := HK7.out.1.o.c2
    have o3 := HK7.out.1.o.c3
    have x0 : w7.cell? ⟨A5 + 1, 0, none⟩ = some (.int .i64 3) := HK7.out.2.1.c0
    have x1 : w7.cell? ⟨A5 + 1, 1, none⟩ = some (.int .i64 0) := HK7.out.2.1.c1
    have x2 : w7.cell? ⟨A5 + 1, 2, none⟩ = some (.slice (some ⟨A5, 0, none⟩) 2 2) := HK7.out.2.1.c2
    have x3 : w7.cell? ⟨A5 + 1, 3, none⟩ = some (.int .i64 0) := HK7.out.2.1.c3
    have x4 : w7.cell? ⟨A5 + 1, 4, none⟩ = some (.int .i64 0) := HK7.out.2.1.c4
    have v0 : w7.cell? ⟨A6 + 1, 0, none⟩ = some (.int .i64 3) := HK7.out.2.2.2.1.c0
    have v1 : w7.cell? ⟨A6 + 1, 1, none⟩ = some (.int .i64 0) := HK7.out.2.2.2.1.c1
    have v2 : w7.cell? ⟨A6 + 1, 2, none⟩ = some (.slice (some ⟨A6, 0, none⟩) 2 2) := HK7.out.2.2.2.1.c2
    go_wp2_with fail
    refine hC.mono ?_
    rintro e w8 ⟨rfl, hb8⟩
    go_wp2
    go_ret
    exact ⟨rfl, (HK7.out.1.step hb8).bl⟩
  have H2 : Calls Tryd.prog 14 #[.agg #[.int .i64 3, .int .i64 0, .slice (some ⟨A6, 0, none⟩) 2 2]] w7 fun e w' => e = .returned (.bool (Vl.ok (.mk 3 0 (some ⟨A6, 0, none⟩) A6 0 2 2 (fun i => if i = 0 then v else u)))) ∧ Below w7.heap.size w7 w' := vFormed_any (.mk 3 0 (some ⟨A6, 0, none⟩) A6 0 2 2 (fun i => if i = 0 then v else u)) w7 HK7.out.2.2.2.2
  have v0 : w7.cell? ⟨A6 + 1, 0, none⟩ = some (.int .i64 3) := HK7.out.2.2.2.1.c0
  have v1 : w7.cell? ⟨A6 + 1, 1, none⟩ = some (.int .i64 0) := HK7.out.2.2.2.1.c1
  have v2 : w7.cell? ⟨A6 + 1, 2, none⟩ = some (.slice (some ⟨A6, 0, none⟩) 2 2) := HK7.out.2.2.2.1.c2
  have HOK : Hid (okB n g (.mk 3 0 0 0 (some ⟨A5, 0, none⟩) A5 0 2 2 (fun i => if i = 0 then s else t)) = true) := hok
  clear hok
  go_wp2_with fail
  refine H2.mono ?_
  rintro e w8 ⟨rfl, hb8⟩
  have HK8 : Hid (VB w w8 n g fs cs s t v u ∧ Bx w8 (A5 + 1) (.mk 3 0 0 0 (some ⟨A5, 0, none⟩) A5 0 2 2 (fun i => if i = 0 then s else t)) ∧ Ty.At w8 (.mk 3 0 0 0 (some ⟨A5, 0, none⟩) A5 0 2 2 (fun i => if i = 0 then s else t)) ∧ Bv w8 (A6 + 1) (.mk 3 0 (some ⟨A6, 0, none⟩) A6 0 2 2 (fun i => if i = 0 then v else u)) ∧ Vl.At w8 (.mk 3 0 (some ⟨A6, 0, none⟩) A6 0 2 2 (fun i => if i = 0 then v else u))) := ⟨HK7.out.1.step hb8, HK7.out.2.1.kept hb8, HK7.out.2.2.1.kept hb8, HK7.out.2.2.2.1.kept hb8, HK7.out.2.2.2.2.kept hb8⟩
  clear v0 v1 v2 H2 HK7 hb8
  cases hvo : Vl.ok (.mk 3 0 (some ⟨A6, 0, none⟩) A6 0 2 2 (fun i => if i = 0 then v else u))
  · have HE : Hid (fitB n g fs cs (.mk 3 0 0 0 (some ⟨A5, 0, none⟩) A5 0 2 2 (fun i => if i = 0 then s else t)) (.mk 3 0 (some ⟨A6, 0, none⟩) A6 0 2 2 (fun i => if i = 0 then v else u)) = false) := fitB_no (by rw [hvo, Bool.and_false])
    clear hvo
    have hC := HFT.out w8 HK8.out.1 HK8.out.2.2.1 HK8.out.2.2.2.2
    rw [HE.out] at hC
    have o0 := HK8.out.1.o.c0
    have o1 := HK8.out.1.o.c1
    have o2 := HK8.out.1.o.c2
    have o3 := HK8.out.1.o.c3
    have x0 : w8.cell? ⟨A5 + 1, 0, none⟩ = some (.int .i64 3) := HK8.out.2.1.c0
    have x1 : w8.cell? ⟨A5 + 1, 1, none⟩ = some (.int .i64 0) := HK8.out.2.1.c1
    have x2 : w8.cell? ⟨A5 + 1, 2, none⟩ = some (.slice (some ⟨A5, 0, none⟩) 2 2) := HK8.out.2.1.c2
    have x3 : w8.cell? ⟨A5 + 1, 3, none⟩ = some (.int .i64 0) := HK8.out.2.1.c3
    have x4 : w8.cell? ⟨A5 + 1, 4, none⟩ = some (.int .i64 0) := HK8.out.2.1.c4
    have v0 : w8.cell? ⟨A6 + 1, 0, none⟩ = some (.int .i64 3) := HK8.out.2.2.2.1.c0
    have v1 : w8.cell? ⟨A6 + 1, 1, none⟩ = some (.int .i64 0) := HK8.out.2.2.2.1.c1
    have v2 : w8.cell? ⟨A6 + 1, 2, none⟩ = some (.slice (some ⟨A6, 0, none⟩) 2 2) := HK8.out.2.2.2.1.c2
    go_wp2_with fail
    refine hC.mono ?_
    rintro e w9 ⟨rfl, hb9⟩
    go_wp2
    go_ret
    exact ⟨rfl, (HK8.out.1.step hb9).bl⟩
  have HE : Hid (fitB n g fs cs (.mk 3 0 0 0 (some ⟨A5, 0, none⟩) A5 0 2 2 (fun i => if i = 0 then s else t)) (.mk 3 0 (some ⟨A6, 0, none⟩) A6 0 2 2 (fun i => if i = 0 then v else u)) = (fitB n g fs cs s v && fitB n g fs cs t u)) := fit_pair HOK.out hvo
  clear hvo
  have HKD : Hid (s.k ≠ v.k → fitB n g fs cs s v = false) := fun h => fitB_kind h
  go_wp2
  have F1 := fun a (ha : Below w8.heap.size w8 a) => Fits_any n g fs cs s v a (HK8.out.1.wo.kept ha) (HK8.out.1.hs.kept ha) (HK8.out.1.hv.kept ha) HCN.out
  have F2 := fun a (ha : Below w8.heap.size w8 a) => Fits_any n g fs cs t u a (HK8.out.1.wo.kept ha) (HK8.out.1.ht.kept ha) (HK8.out.1.hu.kept ha) HCN.out
  generalize fitB n g fs cs s v = P at HE HKD F1
  generalize fitB n g fs cs t u = Q at HE F2
  have o0 := fun z => Gr.cell z HK8.out.1.o.c0
  have o1 := fun z => Gr.cell z HK8.out.1.o.c1
  have o2 := fun z => Gr.cell z HK8.out.1.o.c2
  have o3 := fun z => Gr.cell z HK8.out.1.o.c3
  have x0 := fun z => Gr.cell z HK8.out.1.x.c0
  have x1 := fun z => Gr.cell z HK8.out.1.x.c1
  have x2 := fun z => Gr.cell z HK8.out.1.x.c2
  have x3 := fun z => Gr.cell z HK8.out.1.x.c3
  have x4 := fun z => Gr.cell z HK8.out.1.x.c4
  have x5 := fun z => Gr.cell z HK8.out.1.x.c5
  have x6 := fun z => Gr.cell z HK8.out.1.x.c6
  have x7 := fun z => Gr.cell z HK8.out.1.x.c7
  have y0 := fun z => Gr.cell z HK8.out.1.y.c0
  have y1 := fun z => Gr.cell z HK8.out.1.y.c1
  have y2 := fun z => Gr.cell z HK8.out.1.y.c2
  have y3 := fun z => Gr.cell z HK8.out.1.y.c3
  have y4 := fun z => Gr.cell z HK8.out.1.y.c4
  have y5 := fun z => Gr.cell z HK8.out.1.y.c5
  have y6 := fun z => Gr.cell z HK8.out.1.y.c6
  have y7 := fun z => Gr.cell z HK8.out.1.y.c7
  have hNE : Nonempty (Gr w8) := ⟨⟨_, Below.refl _ _⟩⟩
  refine wp_region_gr (by kernel_rfl) (by kernel_rfl) ?_
  repeat (first | go_big_quiet_step ((go_at_call 20; first | with_reducible exact Calls.gr _ (F1 _ (Gr.bl _)) | with_reducible exact Calls.gr _ (F2 _ (Gr.bl _)))))
  refine wpQuiet_nil ?_
  rintro w9 ⟨q9, rfl⟩
  have B9 := q9.bl
  generalize q9.w = w9 at B9 ⊢
  clear q9 hNE o0 o1 o2 o3 x0 x1 x2 x3 x4 x5 x6 x7 y0 y1 y2 y3 y4 y5 y6 y7 F1 F2
  have HK9 : Hid (VB w w9 n g fs cs s t v u ∧ Bx w9 (A5 + 1) (.mk 3 0 0 0 (some ⟨A5, 0, none⟩) A5 0 2 2 (fun i => if i = 0 then s else t)) ∧ Ty.At w9 (.mk 3 0 0 0 (some ⟨A5, 0, none⟩) A5 0 2 2 (fun i => if i = 0 then s else t)) ∧ Bv w9 (A6 + 1) (.mk 3 0 (some ⟨A6, 0, none⟩) A6 0 2 2 (fun i => if i = 0 then v else u)) ∧ Vl.At w9 (.mk 3 0 (some ⟨A6, 0, none⟩) A6 0 2 2 (fun i => if i = 0 then v else u))) := ⟨HK8.out.1.step B9, HK8.out.2.1.kept B9, HK8.out.2.2.1.kept B9, HK8.out.2.2.2.1.kept B9, HK8.out.2.2.2.2.kept B9⟩
  have hC := HFT.out w9 HK9.out.1 HK9.out.2.2.1 HK9.out.2.2.2.2
  rw [HE.out] at hC
  clear HK8 B9 HE HFT
  have o0 := HK9.out.1.o.c0
  have o1 := HK9.out.1.o.c1
  have o2 := HK9.out.1.o.c2
  have o3 := HK9.out.1.o.c3
  have z0 := HK9.out.1.x.c0
  have z5 := HK9.out.1.x.c5
  have x0 : w9.cell? ⟨A5 + 1, 0, none⟩ = some (.int .i64 3) := HK9.out.2.1.c0
  have x1 : w9.cell? ⟨A5 + 1, 1, none⟩ = some (.int .i64 0) := HK9.out.2.1.c1
  have x2 : w9.cell? ⟨A5 + 1, 2, none⟩ = some (.slice (some ⟨A5, 0, none⟩) 2 2) := HK9.out.2.1.c2
  have x3 : w9.cell? ⟨A5 + 1, 3, none⟩ = some (.int .i64 0) := HK9.out.2.1.c3
  have x4 : w9.cell? ⟨A5 + 1, 4, none⟩ = some (.int .i64 0) := HK9.out.2.1.c4
  have v0 : w9.cell? ⟨A6 + 1, 0, none⟩ = some (.int .i64 3) := HK9.out.2.2.2.1.c0
  have v1 : w9.cell? ⟨A6 + 1, 1, none⟩ = some (.int .i64 0) := HK9.out.2.2.2.1.c1
  have v2 : w9.cell? ⟨A6 + 1, 2, none⟩ = some (.slice (some ⟨A6, 0, none⟩) 2 2) := HK9.out.2.2.2.1.c2
  by_cases hkk : s.k = v.k
  · have bk : (s.k != v.k) = false := by simp [hkk]
    clear hkk HKD
    cases P
    · go_wp2_with fail
      refine hC.mono ?_
      rintro e w10 ⟨rfl, hb10⟩
      go_wp2
      go_ret
      exact ⟨rfl, (HK9.out.1.step hb10).bl⟩
    · go_wp2_with fail
      refine hC.mono ?_
      rintro e w10 ⟨rfl, hb10⟩
      go_wp2
      go_ret
      exact ⟨ret_bool (by cases Q <;> rfl), (HK9.out.1.step hb10).bl⟩
  · have bk : (s.k != v.k) = true := by simp [hkk]
    have hP := HKD.out hkk
    subst hP
    clear hkk HKD
    go_wp2_with fail
    refine hC.mono ?_
    rintro e w10 ⟨rfl, hb10⟩
    go_wp2
    go_ret
    exact ⟨rfl, (HK9.out.1.step hb10).bl⟩
end Go.Proofs.YtnkipiegjpjfbaaDoor

/- Layer 3: rows of functions and of cells put one behind the other. -/
namespace Go.Proofs.YtnkipiegjpjfbaaDoor
open Go.RowKit

theorem Tryd.infoFn : (Tryd.prog.info? 98).map (fun i => (i.zero, i.size, i.bytes)) = some (some (.agg #[.int .i64 0, .int .i64 0, .slice none 0 0, .int .i64 0, .int .i64 0, .int .i64 0, .int .i64 0, .slice none 0 0, .int .i64 0, .int .i64 0, .slice none 0 0, .int .i64 0, .int .i64 0, .int .i64 0, .slice none 0 0, .slice none 0 0, .slice none 0 0, .slice none 0 0]), 18, 256) := by kernel_rfl
theorem Tryd.infoCell : (Tryd.prog.info? 53).map (fun i => (i.zero, i.size, i.bytes)) = some (some (.agg #[.int .i64 0, .int .i64 0, .slice none 0 0, .int .i64 0, .int .i64 0, .int .i64 0, .int .i64 0, .slice none 0 0]), 8, 96) := by kernel_rfl

theorem gbr (w : World) (r : Option Nat) : w.grownBy w r := ⟨rfl, rfl, rfl, Nat.le_refl _, fun _ _ _ => rfl⟩
theorem gb_bel {w0 a b : World} {r : Option Nat} (h : Below w0.heap.size w0 a) (hg : a.grownBy b r) (hr : ∀ k, r = some k → w0.heap.size ≤ k) : Below w0.heap.size w0 b := by
  have hs := h.size
  refine ⟨hg.os.trans h.os, hg.tape.trans h.tape, hg.output.trans h.output, Nat.le_trans h.size hg.size, fun k hk => ?_⟩
  rw [hg.block k (by omega) (fun e => by have := hr k e.symm; omega)]
  exact h.block k hk
theorem owb {w : World} {base : Nat} {e : TypeId} {size : Nat} {v : Value} {n : Nat} {xs : List Value} (h : w.ownsRow base e size v n xs) {k : Nat} (hb : v.ownBlock = some k) : base ≤ k ∧ k < w.heap.size := by
  obtain ⟨_, ⟨rfl, _⟩ | ⟨g, cap, cur, rfl, hg, hh, _⟩⟩ := h
  · cases hb
  · have : g = k := by simpa [Value.ownBlock] using hb
    subst this
    exact ⟨hg, (Array.getElem?_eq_some_iff.1 hh).1⟩
theorem owk {w w' : World} {base : Nat} {e : TypeId} {size : Nat} {v : Value} {n : Nat} {xs : List Value} (h : w.ownsRow base e size v n xs) (hb : Below w.heap.size w w') : w'.ownsRow base e size v n xs := by
  have hl := fun k hk => (owb h (k := k) hk).2
  obtain ⟨h0, h⟩ := h
  refine ⟨h0, ?_⟩
  rcases h with ⟨rfl, hn⟩ | ⟨g, cap, cur, rfl, hg, hh, hr⟩
  · exact Or.inl ⟨rfl, hn⟩
  · exact Or.inr ⟨g, cap, cur, rfl, hg, (hb.block g (hl g rfl)).trans hh, hr⟩
theorem owform {w : World} {base : Nat} {e : TypeId} {size : Nat} {v : Value} {n : Nat} {xs : List Value} (h : w.ownsRow base e size v n xs) : ∃ ao cap, v = .slice ao n cap := by
  obtain ⟨_, ⟨rfl, rfl⟩ | ⟨g, cap, cur, rfl, _⟩⟩ := h
  · exact ⟨none, 0, rfl⟩
  · exact ⟨_, cap, rfl⟩

theorem run_append_any {S E : TypeId} {size bytes : Nat} {z : Value} (hu : Tryd.prog.underlying S = some (.slice E)) (hinf : (Tryd.prog.info? E).map (fun i => (i.zero, i.size, i.bytes)) = some (some z, size, bytes)) (hzc : z.cells.size = size) (hpos : 0 < size) (w : World) (ty : TypeId) (base : Nat) (v : Value) (n : Nat) (xs : List Value) (ho : w.ownsRow base E size v n xs) (ao : Option Addr) (m c : Nat) (news : List Value) (hnone : ao = none → m = 0 ∧ c = 0) (hl : news.length = m * size) (hn : ∀ a, ao = some a → ∀ j u, news[j]? = some u → w.cell? (a.add j) = some u) (h1 : ∀ u ∈ news, u.oneCell' = true) (h63 : n + m ≤ maxLen) (hbytes : (n + m) * bytes ≤ 140737488355328) (hb : base ≤ w.heap.size) :
    ∃ v' w', (Builtin.append_ #[S, S] ty #[v, .slice ao m c]).run Tryd.prog w = .ok v' w' ∧ w'.ownsRow base E size v' (n + m) (xs ++ news) ∧ w.grownBy w' v.ownBlock := by
  obtain ⟨i0, hi, hz0, hz1, hz2⟩ := info_parts hinf
  cases ao with
  | none =>
    obtain ⟨rfl, rfl⟩ := hnone rfl
    have hl0 : news = [] := List.eq_nil_of_length_eq_zero (by rw [hl]; omega)
    subst hl0
    refine ⟨v, w, ?_, ?_, gbr _ _⟩
    · exact run_append_owned_none (P := Tryd.prog) w base S ty E i0 size hu hi v n xs ho
    · rw [List.append_nil]; exact ho
  | some a =>
    obtain ⟨v', w', hr, h2, h3, _⟩ := run_append_own (P := Tryd.prog) w base S ty E i0 z size bytes hu hi hz0 hz1 hz2 hzc hpos v n xs ho a m c news hl (hn a rfl) h1 h63 hbytes hb
    exact ⟨v', w', hr, h2, h3⟩
theorem wpList_append_any {S E : TypeId} {size bytes : Nat} {z : Value} (hu : Tryd.prog.underlying S = some (.slice E)) (hinf : (Tryd.prog.info? E).map (fun i => (i.zero, i.size, i.bytes)) = some (some z, size, bytes)) (hzc : z.cells.size = size) (hpos : 0 < size) {w : World} {ops : Array Oper} {rest : List Oper} {o : Oper} {a : Act} {Q : Exit → Act → World → Prop} (hgd : o.guard = none) (s x : Operand)
    (hop : o.op = .call { callee := .builtin .append, args := #[s, x], argTypes := #[S, S] }) (base : Nat) (v : Value) (n : Nat) (xs : List Value) (hs : a.eval s = v) (ho : w.ownsRow base E size v n xs) (ao : Option Addr) (m c : Nat) (news : List Value) (hx : a.eval x = .slice ao m c) (hnone : ao = none → m = 0 ∧ c = 0) (hl : news.length = m * size) (hn : ∀ a, ao = some a → ∀ j u, news[j]? = some u → w.cell? (a.add j) = some u) (h1 : ∀ u ∈ news, u.oneCell' = true) (h63 : n + m ≤ maxLen) (hbytes : (n + m) * bytes ≤ 140737488355328) (hb : base ≤ w.heap.size)
    (h : ∀ v' w', w'.ownsRow base E size v' (n + m) (xs ++ news) → w.grownBy w' v.ownBlock → wpList Tryd.prog ops Q rest (a.put o.dst v') w') : wpList Tryd.prog ops Q (o :: rest) a w := by
  refine wpList_plain hgd fun K hK => ?_
  obtain ⟨v', w', hr, h2, h3⟩ := run_append_any hu hinf hzc hpos w o.type base v n xs ho ao m c news hnone hl hn h1 h63 hbytes hb
  unfold Oper.wp execOp
  simp only [hop, resolve, invoke, builtin, Sem.run_bind, Sem.run_pure, Result.andThen_ok, List.map_toArray, List.map_cons, List.map_nil, hs, hx, hr]
  exact hK _ _ (h v' w' h2 h3)

/-- One behind the other. -/
def flatN (f : Nat → List Value) : Nat → List Value
  | 0 => []
  | k + 1 => flatN f k ++ f k
theorem flatN_len {f : Nat → List Value} {c : Nat} (h : ∀ i, (f i).length = c) : ∀ k, (flatN f k).length = k * c
  | 0 => by simp [flatN]
  | k + 1 => by
    show (flatN f k ++ f k).length = _
    rw [List.length_append, flatN_len h k, h, Nat.add_mul, Nat.one_mul]
theorem flatN_get {f : Nat → List Value} {c : Nat} (h : ∀ i, (f i).length = c) : ∀ k i j, i < k → j < c → (flatN f k)[i * c + j]? = (f i)[j]?
  | 0, i, _, hi, _ => absurd hi (Nat.not_lt_zero _)
  | k + 1, i, j, hi, hj => by
    show (flatN f k ++ f k)[i * c + j]? = _
    have hl := flatN_len h k
    by_cases e : i = k
    · subst e
      rw [List.getElem?_append_right (by rw [hl]; omega), hl]
      congr 1; omega
    · have h2 : i * c + j < k * c := by
        have : (i + 1) * c ≤ k * c := Nat.mul_le_mul_right c (by omega)
        rw [Nat.add_mul, Nat.one_mul] at this
        omega
      rw [List.getElem?_append_left (by rw [hl]; exact h2)]
      exact flatN_get h k i j (by omega) hj
theorem flatN_app (f h : Nat → List Value) (a : Nat) : ∀ b, flatN (fun i => if i < a then f i else h (i - a)) (a + b) = flatN f a ++ flatN h b
  | 0 => by
    rw [Nat.add_zero]
    show _ = flatN f a ++ []
    rw [List.append_nil]
    have key : ∀ k, k ≤ a → flatN (fun i => if i < a then f i else h (i - a)) k = flatN f k := fun k => by
      induction k with
      | zero => intro _; rfl
      | succ k ih =>
        intro hk
        show flatN _ k ++ _ = flatN f k ++ f k
        rw [ih (by omega)]
        simp only [if_pos (show k < a by omega)]
    exact key a (Nat.le_refl _)
  | b + 1 => by
    show flatN _ (a + b) ++ (if a + b < a then f (a + b) else h (a + b - a)) = flatN f a ++ (flatN h b ++ h b)
    rw [flatN_app f h a b, List.append_assoc, if_neg (show ¬ a + b < a by omega), show a + b - a = b by omega]
theorem flatN_mem {f : Nat → List Value} {u : Value} : ∀ k, u ∈ flatN f k → ∃ i, i < k ∧ u ∈ f i
  | 0, h => by cases h
  | k + 1, h => by
    rcases List.mem_append.1 h with h | h
    · obtain ⟨i, hi, hu⟩ := flatN_mem k h
      exact ⟨i, by omega, hu⟩
    · exact ⟨k, by omega, h⟩
theorem adp (b off i : Nat) : (⟨b, off, none⟩ : Addr).add i = ⟨b, off + i, none⟩ := by unfold Addr.add; split <;> simp_all
theorem flatN_cell {f : Nat → List Value} {c : Nat} (h : ∀ i, (f i).length = c) (hc : 0 < c) {w : World} {b o : Nat} {k : Nat} (hr : ∀ i, i < k → w.rangeAt b (o + i * c) (f i)) : ∀ j u, (flatN f k)[j]? = some u → w.cell? ((⟨b, o, none⟩ : Addr).add j) = some u := by
  intro j u hj
  have hlt : j < k * c := by rw [← flatN_len h k]; exact (List.getElem?_eq_some_iff.1 hj).1
  have hi : j / c < k := Nat.div_lt_of_lt_mul (by rw [Nat.mul_comm]; exact hlt)
  have hm : j % c < c := Nat.mod_lt _ hc
  have e : j = j / c * c + j % c := by rw [Nat.mul_comm]; exact (Nat.div_add_mod j c).symm
  rw [e, flatN_get h k _ _ hi hm] at hj
  have := hr (j / c) hi (j % c) u hj
  rw [adp, show o + j = o + j / c * c + j % c by omega]
  exact this
theorem vs_len (f : Fn) : f.vs.length = 18 := rfl
theorem vs_cell (f : Fn) : ∀ u ∈ f.vs, u.oneCell' = true := by
  intro u hu
  have := vs_one f
  simp only [List.all_toArray] at this
  exact List.all_eq_true.1 this u hu
def tvs (t : Ty) (v : Vl) : List Value := [.int .i64 t.k, .int .i64 t.l, .slice t.ao t.len t.cap, .int .i64 t.h, .int .i64 t.e, .int .i64 v.k, .int .i64 v.m, .slice v.ao v.len v.cap]
theorem tvs_len (t : Ty) (v : Vl) : (tvs t v).length = 8 := rfl
theorem tvs_cell (t : Ty) (v : Vl) : ∀ u ∈ tvs t v, u.oneCell' = true := by
  intro u hu
  simp only [tvs, List.mem_cons, List.not_mem_nil, or_false] at hu
  rcases hu with rfl | rfl | rfl | rfl | rfl | rfl | rfl | rfl <;> rfl
theorem tvs_range {w : World} {b o : Nat} {t : Ty} {v : Vl} (h : C5 w b o t) (h' : C3 w b (o + 5) v) : w.rangeAt b o (tvs t v) := fun j u hu => by
  match j, hu with
  | 0, hu => rw [← hu]; exact h.c0
  | 1, hu => rw [← hu]; exact h.c1
  | 2, hu => rw [← hu]; exact h.c2
  | 3, hu => rw [← hu]; exact h.c3
  | 4, hu => rw [← hu]; exact h.c4
  | 5, hu => rw [← hu]; exact h'.c0
  | 6, hu => rw [← hu]; exact h'.c1
  | 7, hu => rw [← hu]; exact h'.c2
  | _ + 8, hu => simp [tvs] at hu

theorem Fs.of_own {w : World} {base : Nat} {v : Value} {n : Nat} {F : Nat → Fn} (h : w.ownsRow base 98 18 v n (flatN (fun i => (F i).vs) n)) (hb : n ≤ 1000) (hA : ∀ i, i < n → (F i).At w) : ∃ s : Fs, v = .slice s.ao s.len s.cap ∧ s.At w ∧ s.len = n ∧ s.f = F := by
  obtain ⟨hl, ⟨rfl, rfl⟩ | ⟨g, cap, cur, rfl, hg, hh, hr⟩⟩ := h
  · exact ⟨⟨none, 0, 0, 0, 0, F⟩, rfl, ⟨fun h => absurd h (Nat.lt_irrefl _), Nat.zero_le _, fun _ h => absurd h (Nat.not_lt_zero _), fun _ h => absurd h (Nat.not_lt_zero _)⟩, rfl, rfl⟩
  · have ho : w.ownsRow base 98 18 (.slice (some ⟨g, 0, none⟩) n cap) n (flatN (fun i => (F i).vs) n) := ⟨hl, Or.inr ⟨g, cap, cur, rfl, hg, hh, hr⟩⟩
    refine ⟨⟨some ⟨g, 0, none⟩, g, 0, n, cap, F⟩, rfl, ⟨fun _ => rfl, by show n ≤ _; omega, fun i hi => ?_, hA⟩, rfl, rfl⟩
    have hi' : i < n := hi
    have get : ∀ j, j < 18 → w.cell? ⟨g, 0 + i * 18 + j, none⟩ = (F i).vs[j]? := fun j hj => by
      rw [Nat.zero_add, ho.cellAt (i * 18 + j) (by omega)]
      exact flatN_get (fun i => vs_len (F i)) n i j hi' hj
    exact ⟨get 0 (by omega), get 1 (by omega), get 2 (by omega), get 3 (by omega), get 4 (by omega), get 5 (by omega), get 6 (by omega), get 7 (by omega), get 8 (by omega), get 9 (by omega), get 10 (by omega), get 11 (by omega), get 12 (by omega), get 13 (by omega), get 14 (by omega), get 15 (by omega), get 16 (by omega), get 17 (by omega)⟩
theorem Cs.of_own {w : World} {base : Nat} {v : Value} {n : Nat} {T : Nat → Ty} {V : Nat → Vl} (h : w.ownsRow base 53 8 v n (flatN (fun i => tvs (T i) (V i)) n)) (hb : n ≤ 1000) (hA : ∀ i, i < n → (T i).At w ∧ (V i).At w) : ∃ s : Cs, v = .slice s.ao s.len s.cap ∧ s.At w ∧ s.len = n ∧ s.t = T := by
  obtain ⟨hl, ⟨rfl, rfl⟩ | ⟨g, cap, cur, rfl, hg, hh, hr⟩⟩ := h
  · exact ⟨⟨none, 0, 0, 0, 0, T, V⟩, rfl, ⟨fun h => absurd h (Nat.lt_irrefl _), Nat.zero_le _, fun _ h => absurd h (Nat.not_lt_zero _), fun _ h => absurd h (Nat.not_lt_zero _), fun _ h => absurd h (Nat.not_lt_zero _), fun _ h => absurd h (Nat.not_lt_zero _)⟩, rfl, rfl⟩
  · have ho : w.ownsRow base 53 8 (.slice (some ⟨g, 0, none⟩) n cap) n (flatN (fun i => tvs (T i) (V i)) n) := ⟨hl, Or.inr ⟨g, cap, cur, rfl, hg, hh, hr⟩⟩
    have get : ∀ i, i < n → ∀ j, j < 8 → w.cell? ⟨g, 0 + i * 8 + j, none⟩ = (tvs (T i) (V i))[j]? := fun i hi j hj => by
      rw [Nat.zero_add, ho.cellAt (i * 8 + j) (by omega)]
      exact flatN_get (fun i => tvs_len (T i) (V i)) n i j hi hj
    refine ⟨⟨some ⟨g, 0, none⟩, g, 0, n, cap, T, V⟩, rfl, ⟨fun _ => rfl, by show n ≤ _; omega, fun i hi => ?_, fun i hi => ?_, fun i hi => (hA i hi).1, fun i hi => (hA i hi).2⟩, rfl, rfl⟩
    · have g' := get i hi
      exact ⟨g' 0 (by omega), g' 1 (by omega), g' 2 (by omega), g' 3 (by omega), g' 4 (by omega)⟩
    · have g' := get i hi
      exact ⟨g' 5 (by omega), g' 6 (by omega), g' 7 (by omega)⟩

/-- With more behind no fit is taken away. -/
theorem fit_more {n : Strs} {g : Grid} {fs fs' : Fs} {cs cs' : Cs} (hl : fs.len ≤ fs'.len) (hf : ∀ i, i < fs.len → fs'.f i = fs.f i) (hcl : cs.len ≤ cs'.len) (hct : ∀ i, i < cs.len → cs'.t i = cs.t i) : ∀ (v : Vl) (t : Ty), v.fm = true → v.fit n g fs cs t = true → v.fit n g fs' cs' t = true := by
  intro v
  induction v with
  | dm => intro t h; cases h
  | mk k m ao b o len cap ps ih =>
    intro t hfm h
    obtain ⟨nd, hp⟩ := vfm_parts hfm
    have e : ∀ (F : Fs) (C : Cs), Vl.fit n g F C (.mk k m ao b o len cap ps) t = ((t.k == k) && (if k = 3 then Vl.fit n g F C (ps 0) (t.ps 0) && Vl.fit n g F C (ps 1) (t.ps 1) else if k = 4 then funB n g F C m len ps t else if k = 5 then decide (m < C.len) && (C.t m.toNat).same (t.ps 0) else true)) := fun _ _ => rfl
    rw [e, Bool.and_eq_true] at h ⊢
    refine ⟨h.1, ?_⟩
    have h2 := h.2
    by_cases k3 : k = 3
    · rw [if_pos k3] at h2 ⊢
      rw [Bool.and_eq_true] at h2 ⊢
      subst k3
      have l2 := nd_pair nd
      exact ⟨ih 0 _ (hp 0 (by omega)) h2.1, ih 1 _ (hp 1 (by omega)) h2.2⟩
    rw [if_neg k3] at h2 ⊢
    by_cases k4 : k = 4
    · rw [if_pos k4] at h2 ⊢
      subst k4
      have m0 := (nd_fun nd).1
      unfold funB at h2 ⊢
      simp only [Bool.and_eq_true, decide_eq_true_eq] at h2 ⊢
      have hm : m.toNat < fs.len := by have := h2.1.1; omega
      rw [hf _ hm]
      refine ⟨⟨by have := h2.1.1; omega, h2.1.2⟩, fun i hi => ?_⟩
      have := h2.2 i hi
      exact ⟨this.1, ih i _ (hp i hi) this.2⟩
    rw [if_neg k4] at h2 ⊢
    by_cases k5 : k = 5
    · rw [if_pos k5] at h2 ⊢
      subst k5
      have m0 := nd_ref nd
      rw [Bool.and_eq_true, decide_eq_true_eq] at h2 ⊢
      have hm : m.toNat < cs.len := by have := h2.1; omega
      rw [hct _ hm]
      exact ⟨by have := h2.1; omega, h2.2⟩
    rw [if_neg k5]
theorem fitB_more {n : Strs} {g : Grid} {fs fs' : Fs} {cs cs' : Cs} {t : Ty} {v : Vl} (hl : fs.len ≤ fs'.len) (hf : ∀ i, i < fs.len → fs'.f i = fs.f i) (hcl : cs.len ≤ cs'.len) (hct : ∀ i, i < cs.len → cs'.t i = cs.t i) (h : fitB n g fs cs t v = true) : fitB n g fs' cs' t v = true := by
  unfold fitB at h ⊢
  rw [Bool.and_eq_true] at h ⊢
  refine ⟨h.1, fit_more hl hf hcl hct v t ?_ h.2⟩
  have := h.1
  rw [Bool.and_eq_true] at this
  have h2 := this.2
  unfold Vl.ok at h2
  rw [Bool.and_eq_true] at h2
  exact h2.2
end Go.Proofs.YtnkipiegjpjfbaaDoor
