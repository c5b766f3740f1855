/- Layer 3: the walk of the statement ValuePairs. -/
import Derived.Test.YtnkipiegjpjfbaaDoorP16
import Derived.Test.YtnkipiegjpjfbaaDoorP17
import Derived.Test.YtnkipiegjpjfbaaDoorP12
import Derived.Deep.RegionHeld3
namespace Go.Proofs.YtnkipiegjpjfbaaDoor
open Go.RowKit

/-- A variable that holds a type and a value. -/
structure Bt (w : World) (B : Nat) (t : Ty) (v : Vl) : Prop where
  c0 : w.cell? ⟨B, 0, none⟩ = some (.int .i64 t.k)
  c1 : w.cell? ⟨B, 1, none⟩ = some (.int .i64 t.l)
  c2 : w.cell? ⟨B, 2, none⟩ = some (.slice t.ao t.len t.cap)
  c3 : w.cell? ⟨B, 3, none⟩ = some (.int .i64 t.h)
  c4 : w.cell? ⟨B, 4, none⟩ = some (.int .i64 t.e)
  c5 : w.cell? ⟨B, 5, none⟩ = some (.int .i64 v.k)
  c6 : w.cell? ⟨B, 6, none⟩ = some (.int .i64 v.m)
  c7 : w.cell? ⟨B, 7, none⟩ = some (.slice v.ao v.len v.cap)
theorem Bt.kept {w w' : World} {B : Nat} {t : Ty} {v : Vl} (h : Bt w B t v) (hb : Below w.heap.size w w') : Bt w' B t v := ⟨up hb h.c0, up hb h.c1, up hb h.c2, up hb h.c3, up hb h.c4, up hb h.c5, up hb h.c6, up hb h.c7⟩
def tdO (t : Ty) (v : Vl) : Obj := .cells #[.int .i64 t.k, .int .i64 t.l, .slice t.ao t.len t.cap, .int .i64 t.h, .int .i64 t.e, .int .i64 v.k, .int .i64 v.m, .slice v.ao v.len v.cap] 45
theorem Bt.new (w : World) (t : Ty) (v : Vl) : Bt (w.alloc (tdO t v)) w.heap.size t v := by
  constructor <;> simp [tdO]
/-- The statement's variables. -/
structure VB (w z : World) (n : Strs) (g : Grid) (fs : Fs) (cs : Cs) (s t : Ty) (v u : Vl) : Prop where
  bl : Below w.heap.size w z
  o : Bw z w.heap.size n g fs cs
  x : Bt z (w.heap.size + 1) s v
  y : Bt z (w.heap.size + 2) t u
  wo : Wo z n g fs cs
  hs : s.At z
  ht : t.At z
  hv : v.At z
  hu : u.At z
  tab : Tab z
theorem VB.step {w z z' : World} {n : Strs} {g : Grid} {fs : Fs} {cs : Cs} {s t : Ty} {v u : Vl} (h : VB w z n g fs cs s t v u) (hb : Below z.heap.size z z') : VB w z' n g fs cs s t v u :=
  ⟨Below.next h.bl hb, h.o.kept hb, h.x.kept hb, h.y.kept hb, h.wo.kept hb, h.hs.kept hb, h.ht.kept hb, h.hv.kept hb, h.hu.kept hb, h.tab.kept hb⟩
theorem VB.new {w : World} {n : Strs} {g : Grid} {fs : Fs} {cs : Cs} {s t : Ty} {v u : Vl} (hw : Wo w n g fs cs) (hs : s.At w) (ht : t.At w) (hv : v.At w) (hu : u.At w) (hT : Tab w) : VB w (((w.alloc (woO n g fs cs)).alloc (tdO s v)).alloc (tdO t u)) n g fs cs s t v u := by
  have b1 := below_alloc w (woO n g fs cs)
  have b2 := below_alloc (w.alloc (woO n g fs cs)) (tdO s v)
  have b3 := below_alloc ((w.alloc (woO n g fs cs)).alloc (tdO s v)) (tdO t u)
  have e1 : (w.alloc (woO n g fs cs)).heap.size = w.heap.size + 1 := alloc_size _ _
  have e2 : ((w.alloc (woO n g fs cs)).alloc (tdO s v)).heap.size = w.heap.size + 2 := by rw [alloc_size, e1]
  have X0 := (Bt.new (w.alloc (woO n g fs cs)) s v).kept b3
  have Y0 := Bt.new ((w.alloc (woO n g fs cs)).alloc (tdO s v)) t u
  rw [e1] at X0
  rw [e2] at Y0
  have B0 := Below.next (Below.next b1 b2) b3
  exact ⟨B0, (Bw.new w n g fs cs).kept (Below.next b2 b3), X0, Y0, hw.kept B0, hs.kept B0, ht.kept B0, hv.kept B0, hu.kept B0, hT.kept B0⟩

/-- A row of two values. -/
def vrow2 (v u : Vl) : Obj := .cells #[.int .i64 v.k, .int .i64 v.m, .slice v.ao v.len v.cap, .int .i64 u.k, .int .i64 u.m, .slice u.ao u.len u.cap] 24
theorem vrow2_at (w : World) (v u : Vl) (hv : v.At w) (hu : u.At w) : Vl.At (w.alloc (vrow2 v u)) (.mk 3 0 (some ⟨w.heap.size, 0, none⟩) w.heap.size 0 2 2 (fun i => if i = 0 then v else u)) := by
  have b := below_alloc w (vrow2 v u)
  refine ⟨fun _ => rfl, by omega, fun i hi => ?_⟩
  match i, hi with
  | 0, _ => exact ⟨by constructor <;> simp [vrow2], hv.kept b⟩
  | 1, _ => exact ⟨by constructor <;> simp [vrow2], hu.kept b⟩
theorem trow2_at (w : World) (s t : Ty) (hs : s.At w) (ht : t.At w) : Ty.At (w.alloc (row2 s t)) (.mk 3 0 0 0 (some ⟨w.heap.size, 0, none⟩) w.heap.size 0 2 2 (fun i => if i = 0 then s else t)) := row2_at w s t hs ht

set_option maxRecDepth 100000 in
set_option maxHeartbeats 8000000 in
theorem valuePairs_any (n : Strs) (g : Grid) (fs : Fs) (cs : Cs) (s t : Ty) (v u : Vl) (w : World) (hw : Wo w n g fs cs) (hs : s.At w) (ht : t.At w) (hv : v.At w) (hu : u.At w) (hT : Tab w) :
    Calls Tryd.prog 7 #[.agg #[.slice n.ao n.len n.cap, .slice g.ao g.len g.cap, .slice fs.ao fs.len fs.cap, .slice cs.ao cs.len cs.cap], .agg #[.int .i64 s.k, .int .i64 s.l, .slice s.ao s.len s.cap, .int .i64 s.h, .int .i64 s.e, .int .i64 v.k, .int .i64 v.m, .slice v.ao v.len v.cap], .agg #[.int .i64 t.k, .int .i64 t.l, .slice t.ao t.len t.cap, .int .i64 t.h, .int .i64 t.e, .int .i64 u.k, .int .i64 u.m, .slice u.ao u.len u.cap]] w fun e w' => e = .returned (.bool true) ∧ Below w.heap.size w w' := by
  have K0 := VB.new hw hs ht hv hu hT
  clear hw hs ht hv hu hT
  unfold woO tdO at K0
  go_enter Tryd.func7, Tryd.ntmps7
  go_wp2_with fail
  refine (vawake_any _ K0.tab).mono ?_
  rintro e w1 ⟨rfl, hb1⟩
  have K1 := K0.step hb1
  clear K0 hb1
  have o0 := K1.o.c0
  have o1 := K1.o.c1
  have o2 := K1.o.c2
  have o3 := K1.o.c3
  have x0 := K1.x.c0
  have x1 := K1.x.c1
  have x2 := K1.x.c2
  have x3 := K1.x.c3
  have x4 := K1.x.c4
  have x5 := K1.x.c5
  have x6 := K1.x.c6
  have x7 := K1.x.c7
  go_wp2_with fail
  refine (vfew_any n g fs cs s v _ K1.wo K1.hs K1.hv).mono ?_
  rintro e w2 ⟨r1, rfl, hr1, hb2⟩
  have K2 := K1.step hb2
  have HR1 : Hid (r1 = true → (∀ i, i < cs.len → (cs.t i).nodes ≤ 40) ∧ s.nodes ≤ 40 ∧ v.nodes ≤ 2000) := hr1
  clear K1 hb2 hr1 o0 o1 o2 o3 x0 x1 x2 x3 x4 x5 x6 x7
  cases r1
  · go_wp2_with fail
    refine (vawake_any _ K2.tab).mono ?_
    rintro e w3 ⟨rfl, hb3⟩
    go_wp2
    go_ret
    exact ⟨rfl, (K2.step hb3).bl⟩
  have HCN : Hid (∀ i, i < cs.len → (cs.t i).nodes ≤ 40) := (HR1.out rfl).1
  clear HR1
  have o0 := K2.o.c0
  have o1 := K2.o.c1
  have o2 := K2.o.c2
  have o3 := K2.o.c3
  have y0 := K2.y.c0
  have y1 := K2.y.c1
  have y2 := K2.y.c2
  have y3 := K2.y.c3
  have y4 := K2.y.c4
  have y5 := K2.y.c5
  have y6 := K2.y.c6
  have y7 := K2.y.c7
  go_wp2_with fail
  refine (vfew_any n g fs cs t u _ K2.wo K2.ht K2.hu).mono ?_
  rintro e w3 ⟨r2, rfl, _, hb3⟩
  have K3 := K2.step hb3
  clear K2 hb3 o0 o1 o2 o3 y0 y1 y2 y3 y4 y5 y6 y7
  cases r2
  · go_wp2_with fail
    refine (vawake_any _ K3.tab).mono ?_
    rintro e w4 ⟨rfl, hb4⟩
    go_wp2
    go_ret
    exact ⟨rfl, (K3.step hb4).bl⟩
  have o0 := K3.o.c0
  have o1 := K3.o.c1
  go_wp2_with fail
  refine (rformed_any n g _ K3.wo.hn K3.wo.hg).mono ?_
  rintro e w4 ⟨rfl, hb4⟩
  have K4 := K3.step hb4
  clear K3 hb4 o0 o1
  cases hF : formedB n g
  · clear hF
    go_wp2_with fail
    refine (vawake_any _ K4.tab).mono ?_
    rintro e w5 ⟨rfl, hb5⟩
    go_wp2
    go_ret
    exact ⟨rfl, (K4.step hb5).bl⟩
  clear hF
  have HK4 : Hid (VB w w4 n g fs cs s t v u) := K4
  have b1 := below_alloc w4 (row2 s t)
  have TA := trow2_at w4 s t K4.hs K4.ht
  have b2 := below_alloc (w4.alloc (row2 s t)) (.cells #[.int .i64 3, .int .i64 0, .slice (some ⟨w4.heap.size, 0, none⟩) 2 2, .int .i64 0, .int .i64 0] 43)
  have NX := Bx.new (w4.alloc (row2 s t)) (.mk 3 0 0 0 (some ⟨w4.heap.size, 0, none⟩) w4.heap.size 0 2 2 (fun i => if i = 0 then s else t))
  have e1 : (w4.alloc (row2 s t)).heap.size = w4.heap.size + 1 := alloc_size _ _
  rw [e1] at NX
  have HK5 : Hid (VB w ((w4.alloc (row2 s t)).alloc (.cells #[.int .i64 3, .int .i64 0, .slice (some ⟨w4.heap.size, 0, none⟩) 2 2, .int .i64 0, .int .i64 0] 43)) n g fs cs s t v u ∧ Bx ((w4.alloc (row2 s t)).alloc (.cells #[.int .i64 3, .int .i64 0, .slice (some ⟨w4.heap.size, 0, none⟩) 2 2, .int .i64 0, .int .i64 0] 43)) (w4.heap.size + 1) (.mk 3 0 0 0 (some ⟨w4.heap.size, 0, none⟩) w4.heap.size 0 2 2 (fun i => if i = 0 then s else t)) ∧ Ty.At ((w4.alloc (row2 s t)).alloc (.cells #[.int .i64 3, .int .i64 0, .slice (some ⟨w4.heap.size, 0, none⟩) 2 2, .int .i64 0, .int .i64 0] 43)) (.mk 3 0 0 0 (some ⟨w4.heap.size, 0, none⟩) w4.heap.size 0 2 2 (fun i => if i = 0 then s else t))) := ⟨(K4.step b1).step b2, NX, TA.kept b2⟩
  have x0 := K4.x.c0
  have x1 := K4.x.c1
  have x2 := K4.x.c2
  have x3 := K4.x.c3
  have x4 := K4.x.c4
  have y0 := K4.y.c0
  have y1 := K4.y.c1
  have y2 := K4.y.c2
  have y3 := K4.y.c3
  have y4 := K4.y.c4
  clear b1 b2 NX TA e1 K4 HK4
  unfold row2 at HK5
  go_upto_region 4 with fail
  clear x0 x1 x2 x3 x4 y0 y1 y2 y3 y4
  generalize hw5 : (w4.alloc (.cells #[.int .i64 s.k, .int .i64 s.l, .slice s.ao s.len s.cap, .int .i64 s.h, .int .i64 s.e, .int .i64 t.k, .int .i64 t.l, .slice t.ao t.len t.cap, .int .i64 t.h, .int .i64 t.e] 43)).alloc (.cells #[.int .i64 3, .int .i64 0, .slice (some ⟨w4.heap.size, 0, none⟩) 2 2, .int .i64 0, .int .i64 0] 43) = w5 at HK5 ⊢
  generalize hA5 : w4.heap.size = A5 at HK5 ⊢
  clear hA5 hw5
  have b1 := below_alloc w5 (vrow2 v u)
  have VA := vrow2_at w5 v u HK5.out.1.hv HK5.out.1.hu
  have b2 := below_alloc (w5.alloc (vrow2 v u)) (.cells #[.int .i64 3, .int .i64 0, .slice (some ⟨w5.heap.size, 0, none⟩) 2 2] 24)
  have NV := Bv.new (w5.alloc (vrow2 v u)) (.mk 3 0 (some ⟨w5.heap.size, 0, none⟩) w5.heap.size 0 2 2 (fun i => if i = 0 then v else u))
  have e1 : (w5.alloc (vrow2 v u)).heap.size = w5.heap.size + 1 := alloc_size _ _
  rw [e1] at NV
  have HK6 : Hid (VB w ((w5.alloc (vrow2 v u)).alloc (.cells #[.int .i64 3, .int .i64 0, .slice (some ⟨w5.heap.size, 0, none⟩) 2 2] 24)) n g fs cs s t v u ∧ Bx ((w5.alloc (vrow2 v u)).alloc (.cells #[.int .i64 3, .int .i64 0, .slice (some ⟨w5.heap.size, 0, none⟩) 2 2] 24)) (A5 + 1) (.mk 3 0 0 0 (some ⟨A5, 0, none⟩) A5 0 2 2 (fun i => if i = 0 then s else t)) ∧ Ty.At ((w5.alloc (vrow2 v u)).alloc (.cells #[.int .i64 3, .int .i64 0, .slice (some ⟨w5.heap.size, 0, none⟩) 2 2] 24)) (.mk 3 0 0 0 (some ⟨A5, 0, none⟩) A5 0 2 2 (fun i => if i = 0 then s else t)) ∧ Bv ((w5.alloc (vrow2 v u)).alloc (.cells #[.int .i64 3, .int .i64 0, .slice (some ⟨w5.heap.size, 0, none⟩) 2 2] 24)) (w5.heap.size + 1) (.mk 3 0 (some ⟨w5.heap.size, 0, none⟩) w5.heap.size 0 2 2 (fun i => if i = 0 then v else u)) ∧ Vl.At ((w5.alloc (vrow2 v u)).alloc (.cells #[.int .i64 3, .int .i64 0, .slice (some ⟨w5.heap.size, 0, none⟩) 2 2] 24)) (.mk 3 0 (some ⟨w5.heap.size, 0, none⟩) w5.heap.size 0 2 2 (fun i => if i = 0 then v else u))) := ⟨(HK5.out.1.step b1).step b2, (HK5.out.2.1.kept b1).kept b2, (HK5.out.2.2.kept b1).kept b2, NV, VA.kept b2⟩
  have x5 := HK5.out.1.x.c5
  have x6 := HK5.out.1.x.c6
  have x7 := HK5.out.1.x.c7
  have y5 := HK5.out.1.y.c5
  have y6 := HK5.out.1.y.c6
  have y7 := HK5.out.1.y.c7
  clear b1 b2 NV VA e1 HK5
  unfold vrow2 at HK6
  go_upto_region 5 with fail
  clear x5 x6 x7 y5 y6 y7
  generalize hw6 : (w5.alloc (.cells #[.int .i64 v.k, .int .i64 v.m, .slice v.ao v.len v.cap, .int .i64 u.k, .int .i64 u.m, .slice u.ao u.len u.cap] 24)).alloc (.cells #[.int .i64 3, .int .i64 0, .slice (some ⟨w5.heap.size, 0, none⟩) 2 2] 24) = w6 at HK6 ⊢
  generalize hA6 : w5.heap.size = A6 at HK6 ⊢
  clear hA6 hw6
  have H1 : Calls Tryd.prog 24 #[.agg #[.slice n.ao n.len n.cap, .slice g.ao g.len g.cap], .agg #[.int .i64 3, .int .i64 0, .slice (some ⟨A5, 0, none⟩) 2 2, .int .i64 0, .int .i64 0]] w6 fun e w' => e = .returned (.bool (okB n g (.mk 3 0 0 0 (some ⟨A5, 0, none⟩) A5 0 2 2 (fun i => if i = 0 then s else t)))) ∧ Below w6.heap.size w6 w' := Formed2_any n g (.mk 3 0 0 0 (some ⟨A5, 0, none⟩) A5 0 2 2 (fun i => if i = 0 then s else t)) w6 HK6.out.1.wo.hn HK6.out.1.wo.hg HK6.out.2.2.1
  have o0 := HK6.out.1.o.c0
  have o1 := HK6.out.1.o.c1
  have x0 : w6.cell? ⟨A5 + 1, 0, none⟩ = some (.int .i64 3) := HK6.out.2.1.c0
  have x1 : w6.cell? ⟨A5 + 1, 1, none⟩ = some (.int .i64 0) := HK6.out.2.1.c1
  have x2 : w6.cell? ⟨A5 + 1, 2, none⟩ = some (.slice (some ⟨A5, 0, none⟩) 2 2) := HK6.out.2.1.c2
  have x3 : w6.cell? ⟨A5 + 1, 3, none⟩ = some (.int .i64 0) := HK6.out.2.1.c3
  have x4 : w6.cell? ⟨A5 + 1, 4, none⟩ = some (.int .i64 0) := HK6.out.2.1.c4
  go_wp2_with fail
  refine H1.mono ?_
  rintro e w7 ⟨rfl, hb7⟩
  have HK7 : Hid (VB w w7 n g fs cs s t v u ∧ Bx w7 (A5 + 1) (.mk 3 0 0 0 (some ⟨A5, 0, none⟩) A5 0 2 2 (fun i => if i = 0 then s else t)) ∧ Ty.At w7 (.mk 3 0 0 0 (some ⟨A5, 0, none⟩) A5 0 2 2 (fun i => if i = 0 then s else t)) ∧ Bv w7 (A6 + 1) (.mk 3 0 (some ⟨A6, 0, none⟩) A6 0 2 2 (fun i => if i = 0 then v else u)) ∧ Vl.At w7 (.mk 3 0 (some ⟨A6, 0, none⟩) A6 0 2 2 (fun i => if i = 0 then v else u))) := ⟨HK6.out.1.step hb7, HK6.out.2.1.kept hb7, HK6.out.2.2.1.kept hb7, HK6.out.2.2.2.1.kept hb7, HK6.out.2.2.2.2.kept hb7⟩
  clear o0 o1 x0 x1 x2 x3 x4 H1 HK6 hb7
  have HFT : Hid (∀ (a : World), VB w a n g fs cs s t v u → Ty.At a (.mk 3 0 0 0 (some ⟨A5, 0, none⟩) A5 0 2 2 (fun i => if i = 0 then s else t)) → Vl.At a (.mk 3 0 (some ⟨A6, 0, none⟩) A6 0 2 2 (fun i => if i = 0 then v else u)) → Calls Tryd.prog 20 #[.agg #[.slice n.ao n.len n.cap, .slice g.ao g.len g.cap], .slice fs.ao fs.len fs.cap, .slice cs.ao cs.len cs.cap, .agg #[.int .i64 3, .int .i64 0, .slice (some ⟨A5, 0, none⟩) 2 2, .int .i64 0, .int .i64 0], .agg #[.int .i64 3, .int .i64 0, .slice (some ⟨A6, 0, none⟩) 2 2]] a fun e w' => e = .returned (.bool (fitB n g fs cs (.mk 3 0 0 0 (some ⟨A5, 0, none⟩) A5 0 2 2 (fun i => if i = 0 then s else t)) (.mk 3 0 (some ⟨A6, 0, none⟩) A6 0 2 2 (fun i => if i = 0 then v else u)))) ∧ Below a.heap.size a w') := fun a h1 h2 h3 => Fits_any n g fs cs (.mk 3 0 0 0 (some ⟨A5, 0, none⟩) A5 0 2 2 (fun i => if i = 0 then s else t)) (.mk 3 0 (some ⟨A6, 0, none⟩) A6 0 2 2 (fun i => if i = 0 then v else u)) a h1.wo h2 h3 HCN.out
  cases hok : okB n g (.mk 3 0 0 0 (some ⟨A5, 0, none⟩) A5 0 2 2 (fun i => if i = 0 then s else t))
  · have HE : Hid (fitB n g fs cs (.mk 3 0 0 0 (some ⟨A5, 0, none⟩) A5 0 2 2 (fun i => if i = 0 then s else t)) (.mk 3 0 (some ⟨A6, 0, none⟩) A6 0 2 2 (fun i => if i = 0 then v else u)) = false) := fitB_no (by rw [hok]; rfl)
    clear hok
    have hC := HFT.out w7 HK7.out.1 HK7.out.2.2.1 HK7.out.2.2.2.2
    rw [HE.out] at hC
    have o0 := HK7.out.1.o.c0
    have o1 := HK7.out.1.o.c1
    have o2 := HK7.out.1.o.c2
    have o3 := HK7.out.1.o.c3
    have x0 : w7.cell? ⟨A5 + 1, 0, none⟩ = some (.int .i64 3) := HK7.out.2.1.c0
    have x1 : w7.cell? ⟨A5 + 1, 1, none⟩ = some (.int .i64 0) := HK7.out.2.1.c1
    have x2 : w7.cell? ⟨A5 + 1, 2, none⟩ = some (.slice (some ⟨A5, 0, none⟩) 2 2) := HK7.out.2.1.c2
    have x3 : w7.cell? ⟨A5 + 1, 3, none⟩ = some (.int .i64 0) := HK7.out.2.1.c3
    have x4 : w7.cell? ⟨A5 + 1, 4, none⟩ = some (.int .i64 0) := HK7.out.2.1.c4
    have v0 : w7.cell? ⟨A6 + 1, 0, none⟩ = some (.int .i64 3) := HK7.out.2.2.2.1.c0
    have v1 : w7.cell? ⟨A6 + 1, 1, none⟩ = some (.int .i64 0) := HK7.out.2.2.2.1.c1
    have v2 : w7.cell? ⟨A6 + 1, 2, none⟩ = some (.slice (some ⟨A6, 0, none⟩) 2 2) := HK7.out.2.2.2.1.c2
    go_wp2_with fail
    refine hC.mono ?_
    rintro e w8 ⟨rfl, hb8⟩
    go_wp2
    go_ret
    exact ⟨rfl, (HK7.out.1.step hb8).bl⟩
  have H2 : Calls Tryd.prog 14 #[.agg #[.int .i64 3, .int .i64 0, .slice (some ⟨A6, 0, none⟩) 2 2]] w7 fun e w' => e = .returned (.bool (Vl.ok (.mk 3 0 (some ⟨A6, 0, none⟩) A6 0 2 2 (fun i => if i = 0 then v else u)))) ∧ Below w7.heap.size w7 w' := vFormed_any (.mk 3 0 (some ⟨A6, 0, none⟩) A6 0 2 2 (fun i => if i = 0 then v else u)) w7 HK7.out.2.2.2.2
  have v0 : w7.cell? ⟨A6 + 1, 0, none⟩ = some (.int .i64 3) := HK7.out.2.2.2.1.c0
  have v1 : w7.cell? ⟨A6 + 1, 1, none⟩ = some (.int .i64 0) := HK7.out.2.2.2.1.c1
  have v2 : w7.cell? ⟨A6 + 1, 2, none⟩ = some (.slice (some ⟨A6, 0, none⟩) 2 2) := HK7.out.2.2.2.1.c2
  have HOK : Hid (okB n g (.mk 3 0 0 0 (some ⟨A5, 0, none⟩) A5 0 2 2 (fun i => if i = 0 then s else t)) = true) := hok
  clear hok
  go_wp2_with fail
  refine H2.mono ?_
  rintro e w8 ⟨rfl, hb8⟩
  have HK8 : Hid (VB w w8 n g fs cs s t v u ∧ Bx w8 (A5 + 1) (.mk 3 0 0 0 (some ⟨A5, 0, none⟩) A5 0 2 2 (fun i => if i = 0 then s else t)) ∧ Ty.At w8 (.mk 3 0 0 0 (some ⟨A5, 0, none⟩) A5 0 2 2 (fun i => if i = 0 then s else t)) ∧ Bv w8 (A6 + 1) (.mk 3 0 (some ⟨A6, 0, none⟩) A6 0 2 2 (fun i => if i = 0 then v else u)) ∧ Vl.At w8 (.mk 3 0 (some ⟨A6, 0, none⟩) A6 0 2 2 (fun i => if i = 0 then v else u))) := ⟨HK7.out.1.step hb8, HK7.out.2.1.kept hb8, HK7.out.2.2.1.kept hb8, HK7.out.2.2.2.1.kept hb8, HK7.out.2.2.2.2.kept hb8⟩
  clear v0 v1 v2 H2 HK7 hb8
  cases hvo : Vl.ok (.mk 3 0 (some ⟨A6, 0, none⟩) A6 0 2 2 (fun i => if i = 0 then v else u))
  · have HE : Hid (fitB n g fs cs (.mk 3 0 0 0 (some ⟨A5, 0, none⟩) A5 0 2 2 (fun i => if i = 0 then s else t)) (.mk 3 0 (some ⟨A6, 0, none⟩) A6 0 2 2 (fun i => if i = 0 then v else u)) = false) := fitB_no (by rw [hvo, Bool.and_false])
    clear hvo
    have hC := HFT.out w8 HK8.out.1 HK8.out.2.2.1 HK8.out.2.2.2.2
    rw [HE.out] at hC
    have o0 := HK8.out.1.o.c0
    have o1 := HK8.out.1.o.c1
    have o2 := HK8.out.1.o.c2
    have o3 := HK8.out.1.o.c3
    have x0 : w8.cell? ⟨A5 + 1, 0, none⟩ = some (.int .i64 3) := HK8.out.2.1.c0
    have x1 : w8.cell? ⟨A5 + 1, 1, none⟩ = some (.int .i64 0) := HK8.out.2.1.c1
    have x2 : w8.cell? ⟨A5 + 1, 2, none⟩ = some (.slice (some ⟨A5, 0, none⟩) 2 2) := HK8.out.2.1.c2
    have x3 : w8.cell? ⟨A5 + 1, 3, none⟩ = some (.int .i64 0) := HK8.out.2.1.c3
    have x4 : w8.cell? ⟨A5 + 1, 4, none⟩ = some (.int .i64 0) := HK8.out.2.1.c4
    have v0 : w8.cell? ⟨A6 + 1, 0, none⟩ = some (.int .i64 3) := HK8.out.2.2.2.1.c0
    have v1 : w8.cell? ⟨A6 + 1, 1, none⟩ = some (.int .i64 0) := HK8.out.2.2.2.1.c1
    have v2 : w8.cell? ⟨A6 + 1, 2, none⟩ = some (.slice (some ⟨A6, 0, none⟩) 2 2) := HK8.out.2.2.2.1.c2
    go_wp2_with fail
    refine hC.mono ?_
    rintro e w9 ⟨rfl, hb9⟩
    go_wp2
    go_ret
    exact ⟨rfl, (HK8.out.1.step hb9).bl⟩
  have HE : Hid (fitB n g fs cs (.mk 3 0 0 0 (some ⟨A5, 0, none⟩) A5 0 2 2 (fun i => if i = 0 then s else t)) (.mk 3 0 (some ⟨A6, 0, none⟩) A6 0 2 2 (fun i => if i = 0 then v else u)) = (fitB n g fs cs s v && fitB n g fs cs t u)) := fit_pair HOK.out hvo
  clear hvo
  have HKD : Hid (s.k ≠ v.k → fitB n g fs cs s v = false) := fun h => fitB_kind h
  go_wp2
  have F1 := fun a (ha : Below w8.heap.size w8 a) => Fits_any n g fs cs s v a (HK8.out.1.wo.kept ha) (HK8.out.1.hs.kept ha) (HK8.out.1.hv.kept ha) HCN.out
  have F2 := fun a (ha : Below w8.heap.size w8 a) => Fits_any n g fs cs t u a (HK8.out.1.wo.kept ha) (HK8.out.1.ht.kept ha) (HK8.out.1.hu.kept ha) HCN.out
  generalize fitB n g fs cs s v = P at HE HKD F1
  generalize fitB n g fs cs t u = Q at HE F2
  have o0 := fun z => Gr.cell z HK8.out.1.o.c0
  have o1 := fun z => Gr.cell z HK8.out.1.o.c1
  have o2 := fun z => Gr.cell z HK8.out.1.o.c2
  have o3 := fun z => Gr.cell z HK8.out.1.o.c3
  have x0 := fun z => Gr.cell z HK8.out.1.x.c0
  have x1 := fun z => Gr.cell z HK8.out.1.x.c1
  have x2 := fun z => Gr.cell z HK8.out.1.x.c2
  have x3 := fun z => Gr.cell z HK8.out.1.x.c3
  have x4 := fun z => Gr.cell z HK8.out.1.x.c4
  have x5 := fun z => Gr.cell z HK8.out.1.x.c5
  have x6 := fun z => Gr.cell z HK8.out.1.x.c6
  have x7 := fun z => Gr.cell z HK8.out.1.x.c7
  have y0 := fun z => Gr.cell z HK8.out.1.y.c0
  have y1 := fun z => Gr.cell z HK8.out.1.y.c1
  have y2 := fun z => Gr.cell z HK8.out.1.y.c2
  have y3 := fun z => Gr.cell z HK8.out.1.y.c3
  have y4 := fun z => Gr.cell z HK8.out.1.y.c4
  have y5 := fun z => Gr.cell z HK8.out.1.y.c5
  have y6 := fun z => Gr.cell z HK8.out.1.y.c6
  have y7 := fun z => Gr.cell z HK8.out.1.y.c7
  have hNE : Nonempty (Gr w8) := ⟨⟨_, Below.refl _ _⟩⟩
  refine wp_region_gr (by kernel_rfl) (by kernel_rfl) ?_
  repeat (first | go_big_quiet_step ((go_at_call 20; first | with_reducible exact Calls.gr _ (F1 _ (Gr.bl _)) | with_reducible exact Calls.gr _ (F2 _ (Gr.bl _)))))
  refine wpQuiet_nil ?_
  rintro w9 ⟨q9, rfl⟩
  have B9 := q9.bl
  generalize q9.w = w9 at B9 ⊢
  clear q9 hNE o0 o1 o2 o3 x0 x1 x2 x3 x4 x5 x6 x7 y0 y1 y2 y3 y4 y5 y6 y7 F1 F2
  have HK9 : Hid (VB w w9 n g fs cs s t v u ∧ Bx w9 (A5 + 1) (.mk 3 0 0 0 (some ⟨A5, 0, none⟩) A5 0 2 2 (fun i => if i = 0 then s else t)) ∧ Ty.At w9 (.mk 3 0 0 0 (some ⟨A5, 0, none⟩) A5 0 2 2 (fun i => if i = 0 then s else t)) ∧ Bv w9 (A6 + 1) (.mk 3 0 (some ⟨A6, 0, none⟩) A6 0 2 2 (fun i => if i = 0 then v else u)) ∧ Vl.At w9 (.mk 3 0 (some ⟨A6, 0, none⟩) A6 0 2 2 (fun i => if i = 0 then v else u))) := ⟨HK8.out.1.step B9, HK8.out.2.1.kept B9, HK8.out.2.2.1.kept B9, HK8.out.2.2.2.1.kept B9, HK8.out.2.2.2.2.kept B9⟩
  have hC := HFT.out w9 HK9.out.1 HK9.out.2.2.1 HK9.out.2.2.2.2
  rw [HE.out] at hC
  clear HK8 B9 HE HFT
  have o0 := HK9.out.1.o.c0
  have o1 := HK9.out.1.o.c1
  have o2 := HK9.out.1.o.c2
  have o3 := HK9.out.1.o.c3
  have z0 := HK9.out.1.x.c0
  have z5 := HK9.out.1.x.c5
  have x0 : w9.cell? ⟨A5 + 1, 0, none⟩ = some (.int .i64 3) := HK9.out.2.1.c0
  have x1 : w9.cell? ⟨A5 + 1, 1, none⟩ = some (.int .i64 0) := HK9.out.2.1.c1
  have x2 : w9.cell? ⟨A5 + 1, 2, none⟩ = some (.slice (some ⟨A5, 0, none⟩) 2 2) := HK9.out.2.1.c2
  have x3 : w9.cell? ⟨A5 + 1, 3, none⟩ = some (.int .i64 0) := HK9.out.2.1.c3
  have x4 : w9.cell? ⟨A5 + 1, 4, none⟩ = some (.int .i64 0) := HK9.out.2.1.c4
  have v0 : w9.cell? ⟨A6 + 1, 0, none⟩ = some (.int .i64 3) := HK9.out.2.2.2.1.c0
  have v1 : w9.cell? ⟨A6 + 1, 1, none⟩ = some (.int .i64 0) := HK9.out.2.2.2.1.c1
  have v2 : w9.cell? ⟨A6 + 1, 2, none⟩ = some (.slice (some ⟨A6, 0, none⟩) 2 2) := HK9.out.2.2.2.1.c2
  by_cases hkk : s.k = v.k
  · have bk : (s.k != v.k) = false := by simp [hkk]
    clear hkk HKD
    cases P
    · go_wp2_with fail
      refine hC.mono ?_
      rintro e w10 ⟨rfl, hb10⟩
      go_wp2
      go_ret
      exact ⟨rfl, (HK9.out.1.step hb10).bl⟩
    · go_wp2_with fail
      refine hC.mono ?_
      rintro e w10 ⟨rfl, hb10⟩
      go_wp2
      go_ret
      exact ⟨ret_bool (by cases Q <;> rfl), (HK9.out.1.step hb10).bl⟩
  · have bk : (s.k != v.k) = true := by simp [hkk]
    have hP := HKD.out hkk
    subst hP
    clear hkk HKD
    go_wp2_with fail
    refine hC.mono ?_
    rintro e w10 ⟨rfl, hb10⟩
    go_wp2
    go_ret
    exact ⟨rfl, (HK9.out.1.step hb10).bl⟩
end Go.Proofs.YtnkipiegjpjfbaaDoor

/- The walk of the statement TypesRaise. -/
namespace Go.Proofs.YtnkipiegjpjfbaaDoor
open Go.RowKit

structure RFacts (n : Strs) (g : Grid) (t : Ty) (a : Int) (x : Ty) : Prop where
  up : belB n g t x = true
  leq : leqB n g a x.l = true
  again : ∀ y : Ty, y.same (raiseT n g x a) = true → y.same x = true
  more : ∀ b : Int, leqB n g a b = true → ∀ (z : Ty) (w : World), z.At w → z.same (raiseT n g t b) = true → belB n g x z = true
theorem leq_labs {n : Strs} {g : Grid} {a b : Int} (h : leqB n g a b = true) : inR n.len a = true ∧ inR n.len b = true ∧ g.B a.toNat b.toNat = true := by
  unfold leqB at h
  rw [Bool.and_eq_true, Bool.and_eq_true, Bool.and_eq_true] at h
  exact ⟨h.1.1.1, h.1.1.2, h.2⟩
theorem raise_facts {n : Strs} {g : Grid} {t : Ty} {a : Int} {x : Ty} {w w' : World} (hok : okB n g t = true) (ha : inR n.len a = true) (tA : t.At w) (xA : x.At w') (hx : x.same (raiseT n g t a) = true) : RFacts n g t a x := by
  have hok' := hok
  unfold okB at hok'
  rw [Bool.and_eq_true] at hok'
  obtain ⟨hF, ht⟩ := hok'
  have P := po_of hF
  have F := fd_ok ht
  obtain ⟨p, hp, hp1⟩ := F.lab
  obtain ⟨q, hq, hq1⟩ := inR_nat ha
  have J := (jn_is hF hp1 hq1).2
  have ej : joinI n g t.l a = (Jn g p q : Int) := by rw [hp, hq]; exact joinI_nat hF hp1 hq1
  have er : raiseT n g t a = t.setL (Jn g p q : Int) := by unfold raiseT; rw [hok, ha, ej]; rfl
  generalize Jn g p q = j at J ej er
  have rj : inR n.len (j : Int) = true := by have := J.1; unfold inR; simp; omega
  rw [er] at hx
  have sA : (t.setL (j : Int)).At w := setL_at tA
  have sok := setL_ok ht rj
  have xok : x.ok n.len = true := (same_ok xA sA hx).trans sok
  have FXo := fd_ok xok
  have FS := fd_ok sok
  have xl : x.l = (j : Int) := ((same_iff _ _).1 hx).1.2.1.trans (setL_v (j := (j : Int)) tA).2.1
  have sb := same_bel P x (t.setL (j : Int)) FXo FS hx
  have okx : okB n g x = true := by unfold okB; rw [hF, xok]; rfl
  refine ⟨?_, ?_, fun y hy => ?_, fun b hb z wz zA hz => ?_⟩
  · rw [belB_iff]
    refine ⟨hF, ht, xok, (bel_trans P t (t.setL (j : Int)) x F FS FXo).1 ?_ sb.2⟩
    have := setL_bel P ht hp1 J.1 J.2.1
    rw [← hp, setL_self] at this
    exact this
  · rw [xl, hq, leqB_nat hF hq1 J.1]; exact J.2.2.1
  · have e : raiseT n g x a = x := by
      unfold raiseT
      rw [okx, ha]
      have J2 := (jn_is hF J.1 hq1).2
      have e2 : Jn g j q = j := isJoin_uniq hF J2 ⟨J.1, lq_refl hF J.1, J.2.2.1, fun c _ h1 _ => h1⟩
      have e3 : joinI n g x.l a = x.l := by rw [xl, hq, joinI_nat hF J.1 hq1, e2]
      show x.setL (joinI n g x.l a) = x
      rw [e3, setL_self]
    rw [e] at hy; exact hy
  · obtain ⟨_, hb2, hb3⟩ := leq_labs hb
    obtain ⟨r, hr, hr1⟩ := inR_nat hb2
    rw [hq, hr, Int.toNat_natCast, Int.toNat_natCast] at hb3
    have J2 := (jn_is hF hp1 hr1).2
    have er2 : raiseT n g t b = t.setL (Jn g p r : Int) := by unfold raiseT; rw [hok, hb2, hp, hr, joinI_nat hF hp1 hr1]; rfl
    generalize Jn g p r = j2 at J2 er2
    rw [er2] at hz
    have rj2 : inR n.len (j2 : Int) = true := by have := J2.1; unfold inR; simp; omega
    have s2A : (t.setL (j2 : Int)).At w := setL_at tA
    have s2ok := setL_ok ht rj2
    have zok : z.ok n.len = true := (same_ok zA s2A hz).trans s2ok
    have sb2 := same_bel P z (t.setL (j2 : Int)) (fd_ok zok) (fd_ok s2ok) hz
    have hle : g.B j j2 = true := J.2.2.2 j2 J2.1 J2.2.1 (lq_trans hF hq1 hr1 J2.1 hb3 J2.2.2.1)
    have h1 := setL_bel P ht J.1 J2.1 hle
    have h2 := (bel_trans P x (t.setL (j : Int)) (t.setL (j2 : Int)) FXo FS (fd_ok s2ok)).1 sb.1 h1
    rw [belB_iff]
    exact ⟨hF, xok, zok, (bel_trans P x (t.setL (j2 : Int)) z FXo (fd_ok s2ok) (fd_ok zok)).1 h2 sb2.2⟩
theorem raise_zero {n : Strs} {g : Grid} {t : Ty} {a : Int} (h : (okB n g t && inR n.len a) = false) : raiseT n g t a = leafT 0 0 := by unfold raiseT; rw [h]; rfl

theorem sR_of {q : World} {LB TB XB : Nat} {n : Strs} {g : Grid} {t x : Ty} (L : Bl q LB n g) (T : Bx q TB t) (X : Bx q XB x) : q.cell? ⟨LB, 0, none⟩ = some (.slice n.ao n.len n.cap) ∧ q.cell? ⟨LB, 1, none⟩ = some (.slice g.ao g.len g.cap) ∧ q.cell? ⟨TB, 0, none⟩ = some (.int .i64 t.k) ∧ q.cell? ⟨TB, 1, none⟩ = some (.int .i64 t.l) ∧ q.cell? ⟨TB, 2, none⟩ = some (.slice t.ao t.len t.cap) ∧ q.cell? ⟨TB, 3, none⟩ = some (.int .i64 t.h) ∧ q.cell? ⟨TB, 4, none⟩ = some (.int .i64 t.e) ∧ q.cell? ⟨XB, 0, none⟩ = some (.int .i64 x.k) ∧ q.cell? ⟨XB, 1, none⟩ = some (.int .i64 x.l) ∧ q.cell? ⟨XB, 2, none⟩ = some (.slice x.ao x.len x.cap) ∧ q.cell? ⟨XB, 3, none⟩ = some (.int .i64 x.h) ∧ q.cell? ⟨XB, 4, none⟩ = some (.int .i64 x.e) :=
  ⟨L.c0, L.c1, T.c0, T.c1, T.c2, T.c3, T.c4, X.c0, X.c1, X.c2, X.c3, X.c4⟩

end Go.Proofs.YtnkipiegjpjfbaaDoor

/- Layer 3: what fits a type fits every type above it, as data. -/
namespace Go.Proofs.YtnkipiegjpjfbaaDoor
open Go.RowKit

theorem fit_mk (n : Strs) (g : Grid) (fs : Fs) (cs : Cs) (k m : Int) (ao : Option Addr) (b o len cap : Nat) (ps : Nat → Vl) (t : Ty) : Vl.fit n g fs cs (.mk k m ao b o len cap ps) t = ((t.k == k) && (if k = 3 then Vl.fit n g fs cs (ps 0) (t.ps 0) && Vl.fit n g fs cs (ps 1) (t.ps 1) else if k = 4 then funB n g fs cs m len ps t else if k = 5 then decide (m < cs.len) && (cs.t m.toNat).same (t.ps 0) else true)) := rfl
theorem bel_mk {le : Nat → Nat → Bool} {s t : Ty} (h : s.bel le true t = true) : s.k = t.k ∧ (if s.k = 3 then (s.ps 0).bel le true (t.ps 0) && (s.ps 1).bel le true (t.ps 1) else if s.k = 4 then (((s.ps 0).bel le false (t.ps 0) && (s.ps 1).bel le true (t.ps 1)) && le t.h.toNat s.h.toNat) && excB le s.e t.e else if s.k = 5 then (s.ps 0).same (t.ps 0) else true) = true := by
  rcases s with _ | ⟨k, l, hh, e, ao, b, o, len, cap, ps⟩
  · cases h
  · have h' : (((k == t.k) && le l.toNat t.l.toNat) && (if k = 3 then Ty.bel le (ps 0) true (t.ps 0) && Ty.bel le (ps 1) true (t.ps 1) else if k = 4 then ((Ty.bel le (ps 0) false (t.ps 0) && Ty.bel le (ps 1) true (t.ps 1)) && le t.h.toNat hh.toNat) && excB le e t.e else if k = 5 then Ty.same (ps 0) (t.ps 0) else true)) = true := h
    rw [Bool.and_eq_true, Bool.and_eq_true, beq_iff_eq] at h'
    exact ⟨h'.1.1, h'.2⟩
theorem okB_len {n : Strs} {g : Grid} {t : Ty} (h : okB n g t = true) : (t.len : Int) = arityI t.k := by
  unfold okB at h
  rw [Bool.and_eq_true] at h
  exact (fm_arity (ok_parts h.2).1).1
theorem fit_up {n : Strs} {g : Grid} {fs : Fs} {cs : Cs} : ∀ (v : Vl) (s t : Ty), okB n g s = true → okB n g t = true → s.bel g.B true t = true → v.fit n g fs cs s = true → v.fit n g fs cs t = true := by
  intro v
  induction v with
  | dm => intro s t _ _ _ h; cases h
  | mk k m ao b o len cap ps ih =>
    intro s t hs ht hb h
    rw [fit_mk, Bool.and_eq_true, beq_iff_eq] at h
    obtain ⟨hk, h⟩ := h
    obtain ⟨hkt, hb2⟩ := bel_mk hb
    have htk : t.k = k := hkt.symm.trans hk
    rw [fit_mk, Bool.and_eq_true, beq_iff_eq]
    refine ⟨htk, ?_⟩
    by_cases k3 : k = 3
    · rw [if_pos k3] at h ⊢
      rw [if_pos (hk.trans k3), Bool.and_eq_true] at hb2
      rw [Bool.and_eq_true] at h ⊢
      have l1 : s.len = 2 := by have := okB_len hs; rw [hk, k3] at this; have e : arityI 3 = 2 := rfl; omega
      have l2 : t.len = 2 := by have := okB_len ht; rw [htk, k3] at this; have e : arityI 3 = 2 := rfl; omega
      exact ⟨ih 0 _ _ (okB_part hs (by omega)) (okB_part ht (by omega)) hb2.1 h.1, ih 1 _ _ (okB_part hs (by omega)) (okB_part ht (by omega)) hb2.2 h.2⟩
    rw [if_neg k3] at h ⊢
    by_cases k4 : k = 4
    · rw [if_pos k4] at h ⊢
      unfold funB at h ⊢
      simp only [Bool.and_eq_true] at h ⊢
      refine ⟨⟨h.1.1, h.1.2.1, ?_⟩, h.2⟩
      have hbs := h.1.2.2
      rw [belB_iff] at hbs ⊢
      have hto : t.ok n.len = true := by unfold okB at ht; rw [Bool.and_eq_true] at ht; exact ht.2
      exact ⟨hbs.1, hbs.2.1, hto, (bel_trans (po_of hbs.1) _ s t (fd_ok hbs.2.1) (fd_ok hbs.2.2.1) (fd_ok hto)).1 hbs.2.2.2 hb⟩
    rw [if_neg k4] at h ⊢
    by_cases k5 : k = 5
    · rw [if_pos k5] at h ⊢
      rw [if_neg (by omega), if_neg (by omega), if_pos (hk.trans k5)] at hb2
      rw [Bool.and_eq_true] at h ⊢
      exact ⟨h.1, same_trans _ _ _ h.2 hb2⟩
    rw [if_neg k5]
theorem fitB_up {n : Strs} {g : Grid} {fs : Fs} {cs : Cs} {s t : Ty} {v : Vl} (hb : belB n g s t = true) (h : fitB n g fs cs s v = true) : fitB n g fs cs t v = true := by
  rw [belB_iff] at hb
  unfold fitB at h ⊢
  simp only [Bool.and_eq_true] at h ⊢
  have ht : okB n g t = true := by unfold okB; rw [hb.1, hb.2.2.1]; rfl
  exact ⟨⟨ht, h.1.2⟩, fit_up v s t h.1.1 ht hb.2.2.2 h.2⟩
theorem fitB_ok {n : Strs} {g : Grid} {fs : Fs} {cs : Cs} {t : Ty} {v : Vl} (h : fitB n g fs cs t v = true) : okB n g t = true := by
  unfold fitB at h
  simp only [Bool.and_eq_true] at h
  exact h.1.1
end Go.Proofs.YtnkipiegjpjfbaaDoor
