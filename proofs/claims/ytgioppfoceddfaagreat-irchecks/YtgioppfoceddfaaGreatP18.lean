import Derived.Test.YtgioppfoceddfaaGreatP15
set_option maxRecDepth 100000
set_option maxHeartbeats 32000000
namespace Go.Proofs.YtgioppfoceddfaaGreat
section
open Go.RowKit
def CtU (n:Strs)(gb go gcap:Nat)(gA:Nat→Option Addr)(gL gC gAB gAO:Nat→Nat)(gB:Nat→Nat→Bool)(a b:Ty)(r:Bool):Prop:=∀u:World,n.At u→(zdw n.len gb go gcap gA gL gC gAB gAO gB).At u→a.At u→b.At u →
 Calls Tryz.prog 62 #[.agg #[.slice n.ao n.len n.cap,.slice (some ⟨gb,go,none⟩) n.len gcap],.agg #[.int .i64 a.k,.int .i64 a.l,.slice a.ao a.len a.cap,.int .i64 a.h,.int .i64 a.e],.agg #[.int .i64 b.k,.int .i64 b.l,.slice b.ao b.len b.cap,.int .i64 b.h,.int .i64 b.e]] u fun e w'=>e=.returned (.bool r)∧Below u.heap.size u w'
theorem zkh (n:Strs)(gb go gcap:Nat)(gA:Nat→Option Addr)(gL gC gAB gAO:Nat→Nat)(gB:Nat→Nat→Bool)(hF:Hid (zaf n (zdw n.len gb go gcap gA gL gC gAB gAO gB)=true))(sk sl sh se:Int)(sao:Option Addr)(sb so slen scap:Nat)(sps:Nat→Ty)(tk tl th te:Int)(tao:Option Addr)(tb to' tlen tcap:Nat)(tps:Nat→Ty)
  (gs:Gd n.len (.mk sk sl sh se sao sb so slen scap sps)) (gt:Gd n.len (.mk tk tl th te tao tb to' tlen tcap tps)) (p0 p1:Bool) (hp0:sk=3∧tk=3→CtU n gb go gcap gA gL gC gAB gAO gB (sps 0) (tps 0) p0) (hf0:sk=4∧tk=4→CtU n gb go gcap gA gL gC gAB gAO gB (tps 0) (sps 0) p0) (hp1:(sk=3∧tk=3)∨(sk=4∧tk=4)→CtU n gb go gcap gA gL gC gAB gAO gB (sps 1) (tps 1) p1) :
  CtU n gb go gcap gA gL gC gAB gAO gB (.mk sk sl sh se sao sb so slen scap sps) (.mk tk tl th te tao tb to' tlen tcap tps) (zem gB (.mk sk sl sh se sao sb so slen scap sps) (.mk tk tl th te tao tb to' tlen tcap tps) p0 p1):=by
 intro w hn hg hs ht;obtain⟨L0,X0,Y0,B0⟩:=zgn w n (zdw n.len gb go gcap gA gL gC gAB gAO gB) (.mk sk sl sh se sao sb so slen scap sps) (.mk tk tl th te tao tb to' tlen tcap tps);have hn0:=hn.kept B0;have hg0:=hg.kept B0;have hs0:=hs.kept B0;have ht0:=ht.kept B0;have n1:0<slen→sao=some ⟨sb,so,none⟩:=hs.nil;have n2:0<tlen→tao=some ⟨tb,to',none⟩:=ht.nil;obtain⟨x,hx,hx1⟩:∃k:Nat,sl=k∧k<n.len:=zbv gs.lab;obtain⟨y,hy,hy1⟩:∃k:Nat,tl=k∧k<n.len:=zbv gt.lab;subst hx hy;have a1:(slen:Int)=zan sk:=gs.ar;have a2:(tlen:Int)=zan tk:=gt.ar;have bn1:bndI n.len sk sh se=true:=gs.bnd;have bn2:bndI n.len tk th te=true:=gt.bnd;have HV:Hid (zem gB (.mk sk x sh se sao sb so slen scap sps) (.mk tk y th te tao tb to' tlen tcap tps) p0 p1=(((sk==tk)&&gB x y)&&(if sk=3 then p0&&p1 else if sk=4 then ((p0&&p1)&&gB th.toNat sh.toNat)&&excB gB se te else if sk=5 then (sps 0).same (tps 0) else true))):=rfl;generalize zem gB (.mk sk x sh se sao sb so slen scap sps) (.mk tk y th te tao tb to' tlen tcap tps) p0 p1=V at HV ⊢;show Calls Tryz.prog 62 #[.agg #[.slice n.ao n.len n.cap,.slice (some ⟨gb,go,none⟩) n.len gcap],.agg #[.int .i64 sk,.int .i64 x,.slice sao slen scap,.int .i64 sh,.int .i64 se],.agg #[.int .i64 tk,.int .i64 y,.slice tao tlen tcap,.int .i64 th,.int .i64 te]] w fun e w'=>e=.returned (.bool V)∧Below w.heap.size w w'
 clear hn hg hs ht gs gt;unfold latO tyO zdw at *;simp only[Ty.k,Ty.l,Ty.h,Ty.e,Ty.ao,Ty.len,Ty.cap] at B0 L0 X0 Y0 hn0 hg0 hs0 ht0;obtain⟨o0,o1⟩:=zd3 hF.out hg0 hx1 hy1;have ix:(x:Int)<n.len:=by omega
 have iy:(y:Int)<n.len:=by omega
 have l0:=fun x=>Gr.cell x L0.c0;have l1:=fun x=>Gr.cell x L0.c1;have x0:=fun x=>Gr.cell x X0.c0;have x1:=fun x=>Gr.cell x X0.c1;have x2:=fun x=>Gr.cell x X0.c2;have x3:=fun x=>Gr.cell x X0.c3;have x4:=fun x=>Gr.cell x X0.c4;have y0:=fun x=>Gr.cell x Y0.c0;have y1:=fun x=>Gr.cell x Y0.c1;have y2:=fun x=>Gr.cell x Y0.c2;have y3:=fun x=>Gr.cell x Y0.c3;have y4:=fun x=>Gr.cell x Y0.c4;simp only[Ty.k,Ty.l,Ty.h,Ty.e,Ty.ao,Ty.len,Ty.cap] at x0 x1 x2 x3 x4 y0 y1 y2 y3 y4;have u0:=fun x=>Gr.cell x o0;have u1:=fun x=>Gr.cell x o1;have hNE:Nonempty (Gr (((w.alloc (.cells #[.slice n.ao n.len n.cap,.slice (some ⟨gb,go,none⟩) n.len gcap] 25)).alloc (.cells #[.int .i64 sk,.int .i64 x,.slice sao slen scap,.int .i64 sh,.int .i64 se] 38)).alloc (.cells #[.int .i64 tk,.int .i64 y,.slice tao tlen tcap,.int .i64 th,.int .i64 te] 38))):=⟨⟨_,Below.refl _ _⟩⟩;by_cases hk:sk=tk
 ·subst hk;have bk:(sk != sk)=false:=by simp
  cases hle:gB x y
  ·have HW:Hid (V=false):=by show V=false;rw[HV.out,hle,Bool.and_false,Bool.false_and]
   rw[hle] at u1;clear HV hp0 hf0 hp1;go_enter Tryz.func62,Tryz.ntmps62
   go_wp2;refine zag (by kernel_rfl) (by kernel_rfl) ?_;repeat (first | go_big_quiet_step (fail))
   refine wpQuiet_nil ?_;rintro w4 ⟨x4w,rfl⟩;have B4:=x4w.bl;generalize x4w.w=w4 at B4 ⊢;clear x4w u0 u1 hNE l0 l1 x0 x1 x2 x3 x4 y0 y1 y2 y3 y4;go_wp2;go_ret;exact⟨zab HW.out.symm,Below.next B0 B4⟩
  ·have HV2:Hid (V=(if sk=3 then p0&&p1 else if sk=4 then ((p0&&p1)&&gB th.toNat sh.toNat)&&excB gB se te else if sk=5 then (sps 0).same (tps 0) else true)):=by show V=_;rw[HV.out,hle,beq_self_eq_true,Bool.true_and,Bool.true_and]
   rw[hle] at u1;clear HV hle;by_cases k3:sk=3
   ·subst k3;have HV:Hid (V=(p0&&p1)):=HV2.out;have e1:slen=2:=by have h:=a1;simp[zan] at h;omega
    have e2:tlen=2:=by have h:=a2;simp[zan] at h;omega
    subst e1 e2;have g1:=n1 (by omega);have g2:=n2 (by omega);subst g1 g2;have z0:=hp0 ⟨rfl,rfl⟩;have z1:=hp1 (Or.inl ⟨rfl,rfl⟩);clear HV2 n1 n2 a1 a2 hp0 hf0 hp1;go_enter Tryz.func62,Tryz.ntmps62
    go_wp2;refine zag (by kernel_rfl) (by kernel_rfl) ?_;repeat (first | go_big_quiet_step (fail))
    refine wpQuiet_nil ?_;rintro w4 ⟨x4w,rfl⟩;have B4:=x4w.bl;generalize x4w.w=w4 at B4 ⊢;clear x4w u0 u1 hNE l0 l1 x0 x1 x2 x3 x4 y0 y1 y2 y3 y4;have L4:=L0.kept B4;have X4:=X0.kept B4;have Y4:=Y0.kept B4;have B5:=Below.next B0 B4;have hn4:=hn0.kept B4;have hg4:=hg0.kept B4;have hs4:=hs0.kept B4;have ht4:=ht0.kept B4;clear L0 X0 Y0 B0 B4 hn0 hg0 hs0 ht0 o0 o1;have C0:C5 w4 sb so (sps 0):=hs4.cells (i:=0) (by show 0<2;omega)
    have C1:C5 w4 sb (so+5) (sps 1):=hs4.cells (i:=1) (by show 1<2;omega)
    have D0:C5 w4 tb to' (tps 0):=ht4.cells (i:=0) (by show 0<2;omega)
    have D1:C5 w4 tb (to'+5) (tps 1):=ht4.cells (i:=1) (by show 1<2;omega)
    have P0:(sps 0).At w4:=hs4.part (i:=0) (by show 0<2;omega)
    have P1:(sps 1).At w4:=hs4.part (i:=1) (by show 1<2;omega)
    have R0:(tps 0).At w4:=ht4.part (i:=0) (by show 0<2;omega)
    have R1:(tps 1).At w4:=ht4.part (i:=1) (by show 1<2;omega)
    have H0:∀u,Below w4.heap.size w4 u→Calls Tryz.prog 62 #[.agg #[.slice n.ao n.len n.cap,.slice (some ⟨gb,go,none⟩) n.len gcap],.agg #[.int .i64 (sps 0).k,.int .i64 (sps 0).l,.slice (sps 0).ao (sps 0).len (sps 0).cap,.int .i64 (sps 0).h,.int .i64 (sps 0).e],.agg #[.int .i64 (tps 0).k,.int .i64 (tps 0).l,.slice (tps 0).ao (tps 0).len (tps 0).cap,.int .i64 (tps 0).h,.int .i64 (tps 0).e]] u fun e w'=>e=.returned (.bool p0)∧Below u.heap.size u w':=fun u hu=>z0 u (hn4.kept hu) (hg4.kept hu) (P0.kept hu) (R0.kept hu);have H1:∀u,Below w4.heap.size w4 u→Calls Tryz.prog 62 #[.agg #[.slice n.ao n.len n.cap,.slice (some ⟨gb,go,none⟩) n.len gcap],.agg #[.int .i64 (sps 1).k,.int .i64 (sps 1).l,.slice (sps 1).ao (sps 1).len (sps 1).cap,.int .i64 (sps 1).h,.int .i64 (sps 1).e],.agg #[.int .i64 (tps 1).k,.int .i64 (tps 1).l,.slice (tps 1).ao (tps 1).len (tps 1).cap,.int .i64 (tps 1).h,.int .i64 (tps 1).e]] u fun e w'=>e=.returned (.bool p1)∧Below u.heap.size u w':=fun u hu=>z1 u (hn4.kept hu) (hg4.kept hu) (P1.kept hu) (R1.kept hu);have l0:=fun x=>Gr.cell x L4.c0;have l1:=fun x=>Gr.cell x L4.c1;have x0:=fun x=>Gr.cell x X4.c0;have x1:=fun x=>Gr.cell x X4.c1;have x2:=fun x=>Gr.cell x X4.c2;have x3:=fun x=>Gr.cell x X4.c3;have x4:=fun x=>Gr.cell x X4.c4;have y0:=fun x=>Gr.cell x Y4.c0;have y1:=fun x=>Gr.cell x Y4.c1;have y2:=fun x=>Gr.cell x Y4.c2;have y3:=fun x=>Gr.cell x Y4.c3;have y4:=fun x=>Gr.cell x Y4.c4;have c0:=fun x=>Gr.cell x C0.c0;have c1:=fun x=>Gr.cell x C0.c1;have c2:=fun x=>Gr.cell x C0.c2;have c3:=fun x=>Gr.cell x C0.c3;have c4:=fun x=>Gr.cell x C0.c4;have d0:=fun x=>Gr.cell x C1.c0;have d1:=fun x=>Gr.cell x C1.c1;have d2:=fun x=>Gr.cell x C1.c2;have d3:=fun x=>Gr.cell x C1.c3;have d4:=fun x=>Gr.cell x C1.c4;have e0:=fun x=>Gr.cell x D0.c0;have e1:=fun x=>Gr.cell x D0.c1;have e2:=fun x=>Gr.cell x D0.c2;have e3:=fun x=>Gr.cell x D0.c3;have e4:=fun x=>Gr.cell x D0.c4;have f0:=fun x=>Gr.cell x D1.c0;have f1:=fun x=>Gr.cell x D1.c1;have f2:=fun x=>Gr.cell x D1.c2;have f3:=fun x=>Gr.cell x D1.c3
    have f4:=fun x=>Gr.cell x D1.c4;simp only[Ty.k,Ty.l,Ty.h,Ty.e,Ty.ao,Ty.len,Ty.cap] at x0 x1 x2 x3 x4 y0 y1 y2 y3 y4;have hNE:Nonempty (Gr w4):=⟨⟨_,Below.refl _ _⟩⟩;have x0':=X4.c0;simp only[Ty.k] at x0';clear C0 C1 D0 D1 hs4 ht4 z0 z1;cases p0
    ·have HW:Hid (V=false):=HV.out;go_wp2;refine zag (by kernel_rfl) (by kernel_rfl) ?_;repeat (first | go_big_quiet_step ((go_at_call 62;with_reducible exact Calls.gr _ (H0 _ (Gr.bl _)))))
     refine wpQuiet_nil ?_;rintro w6 ⟨x6w,rfl⟩;have B6:=x6w.bl;generalize x6w.w=w6 at B6 ⊢;clear x6w hNE l0 l1 x0 x1 x2 x3 x4 y0 y1 y2 y3 y4;go_wp2;go_ret;exact⟨zab HW.out.symm,Below.next B5 B6⟩
    ·have HW:Hid (V=p1):=HV.out;go_wp2;refine zag (by kernel_rfl) (by kernel_rfl) ?_;repeat (first | go_big_quiet_step ((first | (go_at_call 62;with_reducible exact Calls.gr _ (H0 _ (Gr.bl _))) | (go_at_call 62;with_reducible exact Calls.gr _ (H1 _ (Gr.bl _))))))
     refine wpQuiet_nil ?_;rintro w6 ⟨x6w,rfl⟩;have B6:=x6w.bl;generalize x6w.w=w6 at B6 ⊢;clear x6w hNE l0 l1 x0 x1 x2 x3 x4 y0 y1 y2 y3 y4;go_wp2;go_ret;exact⟨zab HW.out.symm,Below.next B5 B6⟩
   by_cases k4:sk=4
   ·subst k4;have HV:Hid (V=(((p0&&p1)&&gB th.toNat sh.toNat)&&excB gB se te)):=HV2.out;have e1:slen=2:=by have h:=a1;simp[zan] at h;omega
    have e2:tlen=2:=by have h:=a2;simp[zan] at h;omega
    subst e1 e2;have g1:=n1 (by omega);have g2:=n2 (by omega);subst g1 g2;have z0:=hf0 ⟨rfl,rfl⟩;have z1:=hp1 (Or.inr ⟨rfl,rfl⟩);obtain⟨r1,r2⟩:=bnd4 bn1;obtain⟨r3,r4⟩:=bnd4 bn2;obtain⟨xh,hxh,hxh1⟩:∃k:Nat,sh=k∧k<n.len:=zbv r1;obtain⟨yh,hyh,hyh1⟩:∃k:Nat,th=k∧k<n.len:=zbv r3;subst hxh hyh;have ixh:(xh:Int)<n.len:=by omega
    have iyh:(yh:Int)<n.len:=by omega
    have HR:Hid ((se=-1∨inR n.len se=true)∧(te=-1∨inR n.len te=true)):=⟨r2,r4⟩;clear HV2 n1 n2 a1 a2 hp0 hf0 hp1 k3 bn1 bn2 r1 r2 r3 r4;go_enter Tryz.func62,Tryz.ntmps62
    go_wp2;refine zag (by kernel_rfl) (by kernel_rfl) ?_;repeat (first | go_big_quiet_step (fail))
    refine wpQuiet_nil ?_;rintro w4 ⟨x4w,rfl⟩;have B4:=x4w.bl;generalize x4w.w=w4 at B4 ⊢;clear x4w u0 u1 hNE l0 l1 x0 x1 x2 x3 x4 y0 y1 y2 y3 y4;have L4:=L0.kept B4;have X4:=X0.kept B4;have Y4:=Y0.kept B4;have B5:=Below.next B0 B4;have hn4:=hn0.kept B4;have hg4:=hg0.kept B4;have hs4:=hs0.kept B4;have ht4:=ht0.kept B4;clear L0 X0 Y0 B0 B4 hn0 hg0 hs0 ht0 o0 o1;have C0:C5 w4 sb so (sps 0):=hs4.cells (i:=0) (by show 0<2;omega)
    have C1:C5 w4 sb (so+5) (sps 1):=hs4.cells (i:=1) (by show 1<2;omega)
    have D0:C5 w4 tb to' (tps 0):=ht4.cells (i:=0) (by show 0<2;omega)
    have D1:C5 w4 tb (to'+5) (tps 1):=ht4.cells (i:=1) (by show 1<2;omega)
    have P0:(sps 0).At w4:=hs4.part (i:=0) (by show 0<2;omega)
    have P1:(sps 1).At w4:=hs4.part (i:=1) (by show 1<2;omega)
    have R0:(tps 0).At w4:=ht4.part (i:=0) (by show 0<2;omega)
    have R1:(tps 1).At w4:=ht4.part (i:=1) (by show 1<2;omega)
    have HV3:Hid (V=(((p0&&p1)&&gB yh xh)&&excB gB se te)):=HV.out;clear HV hs4 ht4;have l0:=fun x=>Gr.cell x L4.c0;have l1:=fun x=>Gr.cell x L4.c1;have x0:=fun x=>Gr.cell x X4.c0;have x1:=fun x=>Gr.cell x X4.c1;have x2:=fun x=>Gr.cell x X4.c2;have x3:=fun x=>Gr.cell x X4.c3;have x4:=fun x=>Gr.cell x X4.c4;have y0:=fun x=>Gr.cell x Y4.c0;have y1:=fun x=>Gr.cell x Y4.c1;have y2:=fun x=>Gr.cell x Y4.c2;have y3:=fun x=>Gr.cell x Y4.c3;have y4:=fun x=>Gr.cell x Y4.c4;simp only[Ty.k,Ty.l,Ty.h,Ty.e,Ty.ao,Ty.len,Ty.cap] at x0 x1 x2 x3 x4 y0 y1 y2 y3 y4;have hNE:Nonempty (Gr w4):=⟨⟨_,Below.refl _ _⟩⟩;have x0':=X4.c0;simp only[Ty.k] at x0';cases q1:(se==-1)
    ·cases q2:(te != -1)
     ·have HX:Hid (excB gB se te=false):=by show excB gB se te=false;unfold excB;rw[q1,q2];rfl
      go_wp2;refine zag (by kernel_rfl) (by kernel_rfl) ?_;repeat (first | go_big_quiet_step (fail))
      refine wpQuiet_nil ?_;rintro w6 ⟨x6w,rfl⟩;have B6:=x6w.bl;generalize x6w.w=w6 at B6 ⊢;clear x6w hNE l0 l1 x0 x1 x2 x3 x4 y0 y1 y2 y3 y4;have L6:=L4.kept B6;have X6:=X4.kept B6;have Y6:=Y4.kept B6;have B7:=Below.next B5 B6;clear L4 X4 Y4;have l0:=fun x=>Gr.cell x L6.c0;have l1:=fun x=>Gr.cell x L6.c1;have x0:=fun x=>Gr.cell x X6.c0;have x1:=fun x=>Gr.cell x X6.c1;have x2:=fun x=>Gr.cell x X6.c2;have x3:=fun x=>Gr.cell x X6.c3;have x4:=fun x=>Gr.cell x X6.c4;have y0:=fun x=>Gr.cell x Y6.c0;have y1:=fun x=>Gr.cell x Y6.c1;have y2:=fun x=>Gr.cell x Y6.c2;have y3:=fun x=>Gr.cell x Y6.c3;have y4:=fun x=>Gr.cell x Y6.c4;simp only[Ty.k,Ty.l,Ty.h,Ty.e,Ty.ao,Ty.len,Ty.cap] at x0 x1 x2 x3 x4 y0 y1 y2 y3 y4;have hNE:Nonempty (Gr w6):=⟨⟨_,Below.refl _ _⟩⟩;have HW:Hid (V=false):=by show V=false;rw[HV3.out,HX.out,Bool.and_false]
      go_wp2;refine zag (by kernel_rfl) (by kernel_rfl) ?_;repeat (first | go_big_quiet_step (fail))
      refine wpQuiet_nil ?_;rintro w8 ⟨x8w,rfl⟩;have B8:=x8w.bl;generalize x8w.w=w8 at B8 ⊢;clear x8w hNE l0 l1 x0 x1 x2 x3 x4 y0 y1 y2 y3 y4;go_wp2;go_ret;exact⟨zab HW.out.symm,Below.next B7 B8⟩
     ·obtain⟨ea,hea,hea1⟩:∃k:Nat,se=k∧k<n.len:=zbv (by
       rcases HR.out.1 with h | h
       ·rw[h] at q1;cases q1
       ·exact h)
      obtain⟨eb,heb,heb1⟩:∃k:Nat,te=k∧k<n.len:=zbv (by
       rcases HR.out.2 with h | h
       ·rw[h] at q2;cases q2
       ·exact h)
      subst hea heb;have iea:(ea:Int)<n.len:=by omega
      have ieb:(eb:Int)<n.len:=by omega
      have HX0:Hid (excB gB ea eb=gB ea eb):=by show excB gB ea eb=gB ea eb;unfold excB;rw[q1,q2];simp
      obtain⟨m0,m1⟩:=zd3 hF.out hg4 hea1 heb1;have v0:=fun x=>Gr.cell x m0;have v1:=fun x=>Gr.cell x m1;cases q3:gB ea eb
      ·have HX:Hid (excB gB ea eb=false):=HX0.out.trans q3;rw[q3] at v1;clear HX0 q3;go_wp2;refine zag (by kernel_rfl) (by kernel_rfl) ?_;repeat (first | go_big_quiet_step (fail))
       refine wpQuiet_nil ?_;rintro w6 ⟨x6w,rfl⟩;have B6:=x6w.bl;generalize x6w.w=w6 at B6 ⊢;clear x6w hNE l0 l1 x0 x1 x2 x3 x4 y0 y1 y2 y3 y4 v0 v1;clear m0 m1;have L6:=L4.kept B6;have X6:=X4.kept B6;have Y6:=Y4.kept B6;have B7:=Below.next B5 B6;clear L4 X4 Y4;have l0:=fun x=>Gr.cell x L6.c0;have l1:=fun x=>Gr.cell x L6.c1;have x0:=fun x=>Gr.cell x X6.c0;have x1:=fun x=>Gr.cell x X6.c1;have x2:=fun x=>Gr.cell x X6.c2;have x3:=fun x=>Gr.cell x X6.c3;have x4:=fun x=>Gr.cell x X6.c4;have y0:=fun x=>Gr.cell x Y6.c0;have y1:=fun x=>Gr.cell x Y6.c1;have y2:=fun x=>Gr.cell x Y6.c2;have y3:=fun x=>Gr.cell x Y6.c3;have y4:=fun x=>Gr.cell x Y6.c4;simp only[Ty.k,Ty.l,Ty.h,Ty.e,Ty.ao,Ty.len,Ty.cap] at x0 x1 x2 x3 x4 y0 y1 y2 y3 y4;have hNE:Nonempty (Gr w6):=⟨⟨_,Below.refl _ _⟩⟩;have HW:Hid (V=false):=by show V=false;rw[HV3.out,HX.out,Bool.and_false]
       go_wp2;refine zag (by kernel_rfl) (by kernel_rfl) ?_;repeat (first | go_big_quiet_step (fail))
       refine wpQuiet_nil ?_;rintro w8 ⟨x8w,rfl⟩;have B8:=x8w.bl;generalize x8w.w=w8 at B8 ⊢;clear x8w hNE l0 l1 x0 x1 x2 x3 x4 y0 y1 y2 y3 y4;go_wp2;go_ret;exact⟨zab HW.out.symm,Below.next B7 B8⟩
      ·have HX:Hid (excB gB ea eb=true):=HX0.out.trans q3;rw[q3] at v1;clear HX0 q3;go_wp2;refine zag (by kernel_rfl) (by kernel_rfl) ?_;repeat (first | go_big_quiet_step (fail))
       refine wpQuiet_nil ?_;rintro w6 ⟨x6w,rfl⟩;have B6:=x6w.bl;generalize x6w.w=w6 at B6 ⊢;clear x6w hNE l0 l1 x0 x1 x2 x3 x4 y0 y1 y2 y3 y4 v0 v1;clear m0 m1;have L6:=L4.kept B6;have X6:=X4.kept B6;have Y6:=Y4.kept B6;have B7:=Below.next B5 B6;clear L4 X4 Y4;have l0:=fun x=>Gr.cell x L6.c0;have l1:=fun x=>Gr.cell x L6.c1;have x0:=fun x=>Gr.cell x X6.c0;have x1:=fun x=>Gr.cell x X6.c1;have x2:=fun x=>Gr.cell x X6.c2;have x3:=fun x=>Gr.cell x X6.c3;have x4:=fun x=>Gr.cell x X6.c4;have y0:=fun x=>Gr.cell x Y6.c0;have y1:=fun x=>Gr.cell x Y6.c1;have y2:=fun x=>Gr.cell x Y6.c2;have y3:=fun x=>Gr.cell x Y6.c3;have y4:=fun x=>Gr.cell x Y6.c4;simp only[Ty.k,Ty.l,Ty.h,Ty.e,Ty.ao,Ty.len,Ty.cap] at x0 x1 x2 x3 x4 y0 y1 y2 y3 y4;have hNE:Nonempty (Gr w6):=⟨⟨_,Below.refl _ _⟩⟩;have hn6:=hn4.kept B6;have hg6:=hg4.kept B6;have P06:=P0.kept B6;have P16:=P1.kept B6;have R06:=R0.kept B6;have R16:=R1.kept B6;have C06:=C0.kept B6;have C16:=C1.kept B6;have D06:=D0.kept B6;have D16:=D1.kept B6;have c0:=fun x=>Gr.cell x C06.c0;have c1:=fun x=>Gr.cell x C06.c1;have c2:=fun x=>Gr.cell x C06.c2;have c3:=fun x=>Gr.cell x C06.c3;have c4:=fun x=>Gr.cell x C06.c4;have d0:=fun x=>Gr.cell x C16.c0;have d1:=fun x=>Gr.cell x C16.c1;have d2:=fun x=>Gr.cell x C16.c2;have d3:=fun x=>Gr.cell x C16.c3;have d4:=fun x=>Gr.cell x C16.c4;have e0:=fun x=>Gr.cell x D06.c0;have e1:=fun x=>Gr.cell x D06.c1;have e2:=fun x=>Gr.cell x D06.c2;have e3:=fun x=>Gr.cell x D06.c3;have e4:=fun x=>Gr.cell x D06.c4;have f0:=fun x=>Gr.cell x D16.c0;have f1:=fun x=>Gr.cell x D16.c1;have f2:=fun x=>Gr.cell x D16.c2;have f3:=fun x=>Gr.cell x D16.c3;have f4:=fun x=>Gr.cell x D16.c4;obtain⟨o0,o1⟩:=zd3 hF.out hg6 hyh1 hxh1;have u0:=fun x=>Gr.cell x o0;have u1:=fun x=>Gr.cell x o1;have H0:∀u,Below w6.heap.size w6 u→Calls Tryz.prog 62 #[.agg #[.slice n.ao n.len n.cap,.slice (some ⟨gb,go,none⟩) n.len gcap],.agg #[.int .i64 (tps 0).k,.int .i64 (tps 0).l,.slice (tps 0).ao (tps 0).len (tps 0).cap,.int .i64 (tps 0).h,.int .i64 (tps 0).e],.agg #[.int .i64 (sps 0).k,.int .i64 (sps 0).l,.slice (sps 0).ao (sps 0).len (sps 0).cap,.int .i64 (sps 0).h,.int .i64 (sps 0).e]] u fun e w'=>e=.returned (.bool p0)∧Below u.heap.size u w':=fun u hu=>z0 u (hn6.kept hu) (hg6.kept hu) (R06.kept hu) (P06.kept hu)
       have H1:∀u,Below w6.heap.size w6 u→Calls Tryz.prog 62 #[.agg #[.slice n.ao n.len n.cap,.slice (some ⟨gb,go,none⟩) n.len gcap],.agg #[.int .i64 (sps 1).k,.int .i64 (sps 1).l,.slice (sps 1).ao (sps 1).len (sps 1).cap,.int .i64 (sps 1).h,.int .i64 (sps 1).e],.agg #[.int .i64 (tps 1).k,.int .i64 (tps 1).l,.slice (tps 1).ao (tps 1).len (tps 1).cap,.int .i64 (tps 1).h,.int .i64 (tps 1).e]] u fun e w'=>e=.returned (.bool p1)∧Below u.heap.size u w':=fun u hu=>z1 u (hn6.kept hu) (hg6.kept hu) (P16.kept hu) (R16.kept hu);have HV4:Hid (V=((p0&&p1)&&gB yh xh)):=by show V=_;rw[HV3.out,HX.out,Bool.and_true]
       clear C0 C1 D0 D1 C06 C16 D06 D16 HV3;cases hh:gB yh xh
       ·have HW:Hid (V=false):=by show V=false;rw[HV4.out,hh,Bool.and_false]
        rw[hh] at u1;go_wp2;refine zag (by kernel_rfl) (by kernel_rfl) ?_;repeat (first | go_big_quiet_step (fail))
        refine wpQuiet_nil ?_;rintro w8 ⟨x8w,rfl⟩;have B8:=x8w.bl;generalize x8w.w=w8 at B8 ⊢;clear x8w hNE l0 l1 x0 x1 x2 x3 x4 y0 y1 y2 y3 y4 u0 u1;go_wp2;go_ret;exact⟨zab HW.out.symm,Below.next B7 B8⟩
       ·cases p0
        ·have HW:Hid (V=false):=by show V=false;rw[HV4.out,Bool.false_and,Bool.false_and]
         rw[hh] at u1;go_wp2;refine zag (by kernel_rfl) (by kernel_rfl) ?_;repeat (first | go_big_quiet_step (((go_at_call 62;with_reducible exact Calls.gr _ (H0 _ (Gr.bl _))))))
         refine wpQuiet_nil ?_;rintro w8 ⟨x8w,rfl⟩;have B8:=x8w.bl;generalize x8w.w=w8 at B8 ⊢;clear x8w hNE l0 l1 x0 x1 x2 x3 x4 y0 y1 y2 y3 y4 u0 u1;go_wp2;go_ret;exact⟨zab HW.out.symm,Below.next B7 B8⟩
        ·have HW:Hid (V=p1):=by show V=p1;rw[HV4.out,hh,Bool.true_and,Bool.and_true]
         rw[hh] at u1;go_wp2;refine zag (by kernel_rfl) (by kernel_rfl) ?_;repeat (first | go_big_quiet_step ((first | (go_at_call 62;with_reducible exact Calls.gr _ (H0 _ (Gr.bl _))) | (go_at_call 62;with_reducible exact Calls.gr _ (H1 _ (Gr.bl _))))))
         refine wpQuiet_nil ?_;rintro w8 ⟨x8w,rfl⟩;have B8:=x8w.bl;generalize x8w.w=w8 at B8 ⊢;clear x8w hNE l0 l1 x0 x1 x2 x3 x4 y0 y1 y2 y3 y4 u0 u1;go_wp2;go_ret;exact⟨zab HW.out.symm,Below.next B7 B8⟩
    ·have HX:Hid (excB gB se te=true):=by show excB gB se te=true;unfold excB;rw[q1];rfl
     go_wp2;refine zag (by kernel_rfl) (by kernel_rfl) ?_;repeat (first | go_big_quiet_step (fail))
     refine wpQuiet_nil ?_;rintro w6 ⟨x6w,rfl⟩;have B6:=x6w.bl;generalize x6w.w=w6 at B6 ⊢;clear x6w hNE l0 l1 x0 x1 x2 x3 x4 y0 y1 y2 y3 y4;have L6:=L4.kept B6;have X6:=X4.kept B6;have Y6:=Y4.kept B6;have B7:=Below.next B5 B6;clear L4 X4 Y4;have l0:=fun x=>Gr.cell x L6.c0;have l1:=fun x=>Gr.cell x L6.c1;have x0:=fun x=>Gr.cell x X6.c0;have x1:=fun x=>Gr.cell x X6.c1;have x2:=fun x=>Gr.cell x X6.c2;have x3:=fun x=>Gr.cell x X6.c3;have x4:=fun x=>Gr.cell x X6.c4;have y0:=fun x=>Gr.cell x Y6.c0;have y1:=fun x=>Gr.cell x Y6.c1;have y2:=fun x=>Gr.cell x Y6.c2;have y3:=fun x=>Gr.cell x Y6.c3;have y4:=fun x=>Gr.cell x Y6.c4;simp only[Ty.k,Ty.l,Ty.h,Ty.e,Ty.ao,Ty.len,Ty.cap] at x0 x1 x2 x3 x4 y0 y1 y2 y3 y4;have hNE:Nonempty (Gr w6):=⟨⟨_,Below.refl _ _⟩⟩;have hn6:=hn4.kept B6;have hg6:=hg4.kept B6;have P06:=P0.kept B6;have P16:=P1.kept B6;have R06:=R0.kept B6;have R16:=R1.kept B6;have C06:=C0.kept B6;have C16:=C1.kept B6;have D06:=D0.kept B6;have D16:=D1.kept B6;have c0:=fun x=>Gr.cell x C06.c0;have c1:=fun x=>Gr.cell x C06.c1;have c2:=fun x=>Gr.cell x C06.c2;have c3:=fun x=>Gr.cell x C06.c3;have c4:=fun x=>Gr.cell x C06.c4;have d0:=fun x=>Gr.cell x C16.c0;have d1:=fun x=>Gr.cell x C16.c1;have d2:=fun x=>Gr.cell x C16.c2;have d3:=fun x=>Gr.cell x C16.c3;have d4:=fun x=>Gr.cell x C16.c4;have e0:=fun x=>Gr.cell x D06.c0;have e1:=fun x=>Gr.cell x D06.c1;have e2:=fun x=>Gr.cell x D06.c2;have e3:=fun x=>Gr.cell x D06.c3;have e4:=fun x=>Gr.cell x D06.c4;have f0:=fun x=>Gr.cell x D16.c0;have f1:=fun x=>Gr.cell x D16.c1;have f2:=fun x=>Gr.cell x D16.c2;have f3:=fun x=>Gr.cell x D16.c3;have f4:=fun x=>Gr.cell x D16.c4;obtain⟨o0,o1⟩:=zd3 hF.out hg6 hyh1 hxh1;have u0:=fun x=>Gr.cell x o0;have u1:=fun x=>Gr.cell x o1;have H0:∀u,Below w6.heap.size w6 u→Calls Tryz.prog 62 #[.agg #[.slice n.ao n.len n.cap,.slice (some ⟨gb,go,none⟩) n.len gcap],.agg #[.int .i64 (tps 0).k,.int .i64 (tps 0).l,.slice (tps 0).ao (tps 0).len (tps 0).cap,.int .i64 (tps 0).h,.int .i64 (tps 0).e],.agg #[.int .i64 (sps 0).k,.int .i64 (sps 0).l,.slice (sps 0).ao (sps 0).len (sps 0).cap,.int .i64 (sps 0).h,.int .i64 (sps 0).e]] u fun e w'=>e=.returned (.bool p0)∧Below u.heap.size u w':=fun u hu=>z0 u (hn6.kept hu) (hg6.kept hu) (R06.kept hu) (P06.kept hu)
     have H1:∀u,Below w6.heap.size w6 u→Calls Tryz.prog 62 #[.agg #[.slice n.ao n.len n.cap,.slice (some ⟨gb,go,none⟩) n.len gcap],.agg #[.int .i64 (sps 1).k,.int .i64 (sps 1).l,.slice (sps 1).ao (sps 1).len (sps 1).cap,.int .i64 (sps 1).h,.int .i64 (sps 1).e],.agg #[.int .i64 (tps 1).k,.int .i64 (tps 1).l,.slice (tps 1).ao (tps 1).len (tps 1).cap,.int .i64 (tps 1).h,.int .i64 (tps 1).e]] u fun e w'=>e=.returned (.bool p1)∧Below u.heap.size u w':=fun u hu=>z1 u (hn6.kept hu) (hg6.kept hu) (P16.kept hu) (R16.kept hu);have HV4:Hid (V=((p0&&p1)&&gB yh xh)):=by show V=_;rw[HV3.out,HX.out,Bool.and_true]
     clear C0 C1 D0 D1 C06 C16 D06 D16 HV3;cases hh:gB yh xh
     ·have HW:Hid (V=false):=by show V=false;rw[HV4.out,hh,Bool.and_false]
      rw[hh] at u1;go_wp2;refine zag (by kernel_rfl) (by kernel_rfl) ?_;repeat (first | go_big_quiet_step (fail))
      refine wpQuiet_nil ?_;rintro w8 ⟨x8w,rfl⟩;have B8:=x8w.bl;generalize x8w.w=w8 at B8 ⊢;clear x8w hNE l0 l1 x0 x1 x2 x3 x4 y0 y1 y2 y3 y4 u0 u1;go_wp2;go_ret;exact⟨zab HW.out.symm,Below.next B7 B8⟩
     ·cases p0
      ·have HW:Hid (V=false):=by show V=false;rw[HV4.out,Bool.false_and,Bool.false_and]
       rw[hh] at u1;go_wp2;refine zag (by kernel_rfl) (by kernel_rfl) ?_;repeat (first | go_big_quiet_step (((go_at_call 62;with_reducible exact Calls.gr _ (H0 _ (Gr.bl _))))))
       refine wpQuiet_nil ?_;rintro w8 ⟨x8w,rfl⟩;have B8:=x8w.bl;generalize x8w.w=w8 at B8 ⊢;clear x8w hNE l0 l1 x0 x1 x2 x3 x4 y0 y1 y2 y3 y4 u0 u1;go_wp2;go_ret;exact⟨zab HW.out.symm,Below.next B7 B8⟩
      ·have HW:Hid (V=p1):=by show V=p1;rw[HV4.out,hh,Bool.true_and,Bool.and_true]
       rw[hh] at u1;go_wp2;refine zag (by kernel_rfl) (by kernel_rfl) ?_;repeat (first | go_big_quiet_step ((first | (go_at_call 62;with_reducible exact Calls.gr _ (H0 _ (Gr.bl _))) | (go_at_call 62;with_reducible exact Calls.gr _ (H1 _ (Gr.bl _))))))
       refine wpQuiet_nil ?_;rintro w8 ⟨x8w,rfl⟩;have B8:=x8w.bl;generalize x8w.w=w8 at B8 ⊢;clear x8w hNE l0 l1 x0 x1 x2 x3 x4 y0 y1 y2 y3 y4 u0 u1;go_wp2;go_ret;exact⟨zab HW.out.symm,Below.next B7 B8⟩
   by_cases k5:sk=5
   ·subst k5;have HV:Hid (V=(sps 0).same (tps 0)):=HV2.out;have e1:slen=1:=by have h:=a1;simp[zan] at h;omega
    have e2:tlen=1:=by have h:=a2;simp[zan] at h;omega
    subst e1 e2;have g1:=n1 (by omega);have g2:=n2 (by omega);subst g1 g2;clear HV2 n1 n2 a1 a2 hp0 hf0 hp1 k3 k4;go_enter Tryz.func62,Tryz.ntmps62
    go_wp2;refine zag (by kernel_rfl) (by kernel_rfl) ?_;repeat (first | go_big_quiet_step (fail))
    refine wpQuiet_nil ?_;rintro w4 ⟨x4w,rfl⟩;have B4:=x4w.bl;generalize x4w.w=w4 at B4 ⊢;clear x4w u0 u1 hNE l0 l1 x0 x1 x2 x3 x4 y0 y1 y2 y3 y4;have L4:=L0.kept B4;have X4:=X0.kept B4;have Y4:=Y0.kept B4;have B5:=Below.next B0 B4;have hn4:=hn0.kept B4;have hg4:=hg0.kept B4;have hs4:=hs0.kept B4;have ht4:=ht0.kept B4;clear L0 X0 Y0 B0 B4 hn0 hg0 hs0 ht0 o0 o1;have C0:C5 w4 sb so (sps 0):=hs4.cells (i:=0) (by show 0<1;omega)
    have D0:C5 w4 tb to' (tps 0):=ht4.cells (i:=0) (by show 0<1;omega)
    have P0:(sps 0).At w4:=hs4.part (i:=0) (by show 0<1;omega)
    have R0:(tps 0).At w4:=ht4.part (i:=0) (by show 0<1;omega)
    have HW:Hid (V=(sps 0).same (tps 0)):=HV.out;have l0:=fun x=>Gr.cell x L4.c0;have l1:=fun x=>Gr.cell x L4.c1;have x0:=fun x=>Gr.cell x X4.c0;have x1:=fun x=>Gr.cell x X4.c1;have x2:=fun x=>Gr.cell x X4.c2;have x3:=fun x=>Gr.cell x X4.c3;have x4:=fun x=>Gr.cell x X4.c4;have y0:=fun x=>Gr.cell x Y4.c0;have y1:=fun x=>Gr.cell x Y4.c1;have y2:=fun x=>Gr.cell x Y4.c2;have y3:=fun x=>Gr.cell x Y4.c3;have y4:=fun x=>Gr.cell x Y4.c4;have c0:=fun x=>Gr.cell x C0.c0;have c1:=fun x=>Gr.cell x C0.c1;have c2:=fun x=>Gr.cell x C0.c2;have c3:=fun x=>Gr.cell x C0.c3;have c4:=fun x=>Gr.cell x C0.c4;have e0:=fun x=>Gr.cell x D0.c0;have e1:=fun x=>Gr.cell x D0.c1;have e2:=fun x=>Gr.cell x D0.c2;have e3:=fun x=>Gr.cell x D0.c3;have e4:=fun x=>Gr.cell x D0.c4;simp only[Ty.k,Ty.l,Ty.h,Ty.e,Ty.ao,Ty.len,Ty.cap] at x0 x1 x2 x3 x4 y0 y1 y2 y3 y4;have hNE:Nonempty (Gr w4):=⟨⟨_,Below.refl _ _⟩⟩;have x0':=X4.c0;simp only[Ty.k] at x0';clear C0 D0 hs4 ht4 HV;go_wp2;refine zag (by kernel_rfl) (by kernel_rfl) ?_;repeat (first | go_big_quiet_step ((go_at_call 44;exact Calls.gr _ (zhk (sps 0) (tps 0) _ (P0.kept (Gr.bl _)) (R0.kept (Gr.bl _))))))
    refine wpQuiet_nil ?_;rintro w6 ⟨x6w,rfl⟩;have B6:=x6w.bl;generalize x6w.w=w6 at B6 ⊢;clear x6w hNE l0 l1 x0 x1 x2 x3 x4 y0 y1 y2 y3 y4;go_wp2;go_ret;exact⟨zab HW.out.symm,Below.next B5 B6⟩
   ·have HW:Hid (V=true):=by show V=true;rw[HV2.out,if_neg k3,if_neg k4,if_neg k5]
    have b3:(sk==3)=false:=beq_eq_false_iff_ne.2 k3;have b4:(sk==4)=false:=beq_eq_false_iff_ne.2 k4;have b5:(sk==5)=false:=beq_eq_false_iff_ne.2 k5;clear HV2 n1 n2 a1 a2 hp0 hf0 hp1 k3 k4 k5;go_enter Tryz.func62,Tryz.ntmps62
    go_wp2;refine zag (by kernel_rfl) (by kernel_rfl) ?_;repeat (first | go_big_quiet_step (fail))
    refine wpQuiet_nil ?_;rintro w4 ⟨x4w,rfl⟩;have B4:=x4w.bl;generalize x4w.w=w4 at B4 ⊢;clear x4w u0 u1 hNE l0 l1 x0 x1 x2 x3 x4 y0 y1 y2 y3 y4;have L4:=L0.kept B4;have X4:=X0.kept B4;have Y4:=Y0.kept B4;have B5:=Below.next B0 B4;have hn4:=hn0.kept B4;have hg4:=hg0.kept B4;have hs4:=hs0.kept B4;have ht4:=ht0.kept B4;clear L0 X0 Y0 B0 B4 hn0 hg0 hs0 ht0 o0 o1;have x0':=X4.c0;simp only[Ty.k] at x0';go_wp2;go_ret;exact⟨zab HW.out.symm,B5⟩
 ·have bk:(sk != tk)=true:=by simp[hk]
  have HW:Hid (V=false):=by show V=false;rw[HV.out,beq_eq_false_iff_ne.2 hk];rfl
  clear HV;go_enter Tryz.func62,Tryz.ntmps62
  go_wp2;refine zag (by kernel_rfl) (by kernel_rfl) ?_;repeat (first | go_big_quiet_step (fail))
  refine wpQuiet_nil ?_;rintro w4 ⟨x4w,rfl⟩;have B4:=x4w.bl;generalize x4w.w=w4 at B4 ⊢;clear x4w u0 u1 hNE l0 l1 x0 x1 x2 x3 x4 y0 y1 y2 y3 y4;go_wp2;go_ret;exact⟨zab HW.out.symm,Below.next B0 B4⟩
theorem zvp (n:Strs)(gb go gcap:Nat)(gA:Nat→Option Addr)(gL gC gAB gAO:Nat→Nat)(gB:Nat→Nat→Bool)(hF:Hid (zaf n (zdw n.len gb go gcap gA gL gC gAB gAO gB)=true)) :
  ∀s t:Ty,(∃d,s.fm n.len d=true)→(∃d,t.fm n.len d=true)→s.nodes≤1000→t.nodes≤1000→CtU n gb go gcap gA gL gC gAB gAO gB s t (s.bel gB true t)∧CtU n gb go gcap gA gL gC gAB gAO gB t s (s.bel gB false t):=by
 intro s
 induction s with
 | dm=>intro t ⟨d,hd⟩;cases hd
 | mk sk sl sh se sao sb so slen scap sps ih =>
  intro t ⟨d,hd⟩ ⟨d',hd'⟩ h1 h2;rcases t with _ | ⟨tk,tl,th,te,tao,tb,to',tlen,tcap,tps⟩
  ·cases hd'
  obtain⟨gs,_,cs⟩:=zi0 hd;obtain⟨gt,_,ct⟩:=zi0 hd';have a1:(slen:Int)=zan sk:=gs.ar;have a2:(tlen:Int)=zan tk:=gt.ar;have sub:∀i,i<slen→i<tlen→CtU n gb go gcap gA gL gC gAB gAO gB (sps i) (tps i) ((sps i).bel gB true (tps i))∧CtU n gb go gcap gA gL gC gAB gAO gB (tps i) (sps i) ((sps i).bel gB false (tps i)):=fun i hi hi' =>
   ih i (tps i) ⟨_,cs i hi⟩ ⟨_,ct i hi'⟩ (by have:(sps i).nodes<_:=zdg (t:=.mk sk sl sh se sao sb so slen scap sps) hi;omega) (by have:(tps i).nodes<_:=zdg (t:=.mk tk tl th te tao tb to' tlen tcap tps) hi';omega)
  have two:∀k:Int,(k=3∨k=4)→zan k=2:=fun k h=>zhv h;refine⟨?_,?_⟩
  ·rw[zh8 _ _ _ (by intro h;cases h)]
   refine zkh n gb go gcap gA gL gC gAB gAO gB hF sk sl sh se sao sb so slen scap sps tk tl th te tao tb to' tlen tcap tps gs gt _ _ (fun h=>?_) (fun h=>?_) (fun h=>?_)
   ·obtain⟨rfl,rfl⟩:=h;have:=two 3 (Or.inl rfl);exact (sub 0 (by omega) (by omega)).1
   ·obtain⟨rfl,rfl⟩:=h;have:=two 4 (Or.inr rfl);exact (sub 0 (by omega) (by omega)).2
   ·rcases h with ⟨rfl,rfl⟩ | ⟨rfl,rfl⟩
    ·have:=two 3 (Or.inl rfl);exact (sub 1 (by omega) (by omega)).1
    ·have:=two 4 (Or.inr rfl);exact (sub 1 (by omega) (by omega)).1
  ·rw[zk2 _ _ _ (by intro h;cases h)]
   refine zkh n gb go gcap gA gL gC gAB gAO gB hF tk tl th te tao tb to' tlen tcap tps sk sl sh se sao sb so slen scap sps gt gs _ _ (fun h=>?_) (fun h=>?_) (fun h=>?_)
   ·obtain⟨rfl,rfl⟩:=h;have:=two 3 (Or.inl rfl);exact (sub 0 (by omega) (by omega)).2
   ·obtain⟨rfl,rfl⟩:=h;have:=two 4 (Or.inr rfl);exact (sub 0 (by omega) (by omega)).1
   ·rcases h with ⟨rfl,rfl⟩ | ⟨rfl,rfl⟩
    ·have:=two 3 (Or.inl rfl);exact (sub 1 (by omega) (by omega)).2
    ·have:=two 4 (Or.inr rfl);exact (sub 1 (by omega) (by omega)).2
theorem zcw (n:Strs)(g:Grid)(s t:Ty)(w:World)(hn:n.At w)(hg:g.At w)(hs:s.At w)(ht:t.At w) :
  Calls Tryz.prog 31 #[.agg #[.slice n.ao n.len n.cap,.slice g.ao g.len g.cap],.agg #[.int .i64 s.k,.int .i64 s.l,.slice s.ao s.len s.cap,.int .i64 s.h,.int .i64 s.e],.agg #[.int .i64 t.k,.int .i64 t.l,.slice t.ao t.len t.cap,.int .i64 t.h,.int .i64 t.e]] w fun e w'=>e=.returned (.bool (belB n g s t))∧Below w.heap.size w w':=by
 obtain⟨L0,X0,Y0,B0⟩:=zgn w n g s t;have hs0:=zco n g s _ (hn.kept B0) (hg.kept B0) (hs.kept B0);have HN:Hid (n.At w∧g.At w∧s.At w∧t.At w):=⟨hn,hg,hs,ht⟩;unfold latO tyO at *;cases h1:okB n g s
 ·have HV:Hid (belB n g s t=false):=by
   show belB n g s t=false
   unfold belB okB at *;cases hf:zaf n g
   ·rfl
   ·rw[hf,Bool.true_and] at h1;rw[h1];rfl
  rw[h1] at hs0;clear hn hg hs ht h1;go_enter Tryz.func31,Tryz.ntmps31
  go_wp2_with fail
  refine hs0.mono ?_;rintro e w1 ⟨rfl,hb1⟩;go_wp2;go_ret;exact⟨zab HV.out.symm,Below.next B0 hb1⟩
 rw[h1] at hs0;have h1':=h1;unfold okB at h1';rw[Bool.and_eq_true] at h1';have HF:Hid (zaf n g=true∧s.ok n.len=true):=h1';have hnil:=hg.nil (by have:=zav h1'.1;omega)
 have hfp:=zav h1'.1;have HG:Hid (g.ao=some ⟨g.gb,g.go,none⟩∧g.len=n.len):=⟨hnil,hfp.1⟩;clear hn hs ht h1 h1' hnil hfp hg;go_enter Tryz.func31,Tryz.ntmps31
 go_wp2_with fail
 refine hs0.mono ?_;rintro e w1 ⟨rfl,hb1⟩;have L1:=L0.kept hb1;have X1:=X0.kept hb1;have Y1:=Y0.kept hb1;have B1:=Below.next B0 hb1;have ht1:=zco n g t _ (HN.out.1.kept B1) (HN.out.2.1.kept B1) (HN.out.2.2.2.kept B1);clear L0 X0 Y0 B0 hb1 hs0;have l0:=L1.c0;have l1:=L1.c1;have y0:=Y1.c0;have y1:=Y1.c1;have y2:=Y1.c2;have y3:=Y1.c3;have y4:=Y1.c4;cases h2:okB n g t
 ·have HV:Hid (belB n g s t=false):=by
   show belB n g s t=false
   unfold belB;unfold okB at h2;rw[HF.out.1,Bool.true_and] at h2;rw[h2];simp
  rw[h2] at ht1;clear h2;go_wp2_with fail
  refine ht1.mono ?_;rintro e w2 ⟨rfl,hb2⟩;go_wp2;go_ret;exact⟨zab HV.out.symm,Below.next B1 hb2⟩
 ·have h2':t.ok n.len=true:=by
   unfold okB at h2;rw[HF.out.1,Bool.true_and] at h2;exact h2
  have HV:Hid (belB n g s t=s.bel g.B true t):=by
   show belB n g s t=_
   unfold belB;rw[HF.out.1,HF.out.2,h2'];rfl
  obtain⟨f1,n1⟩:=zeq HF.out.2;obtain⟨f2,n2⟩:=zeq h2';have hC:∀u,n.At u→g.At u→s.At u→t.At u→Calls Tryz.prog 62 #[.agg #[.slice n.ao n.len n.cap,.slice g.ao g.len g.cap],.agg #[.int .i64 s.k,.int .i64 s.l,.slice s.ao s.len s.cap,.int .i64 s.h,.int .i64 s.e],.agg #[.int .i64 t.k,.int .i64 t.l,.slice t.ao t.len t.cap,.int .i64 t.h,.int .i64 t.e]] u fun e w'=>e=.returned (.bool (s.bel g.B true t))∧Below u.heap.size u w':=by
   have hF:=HF.out.1;have hG:=HG.out;clear l0 l1 y0 y1 y2 y3 y4 L1 X1 Y1 ht1 HV HG HN HF h2 B1;obtain⟨gao,gb,go,glen,gcap,gA,gL,gC,gAB,gAO,gB⟩:=g;have e1:gao=some ⟨gb,go,none⟩:=hG.1;have e2:glen=n.len:=hG.2;subst e1 e2;exact (zvp n gb go gcap gA gL gC gAB gAO gB hF s t ⟨1,f1⟩ ⟨1,f2⟩ (by omega) (by omega)).1
  rw[h2] at ht1;clear h2 h2' f1 f2 n1 n2;go_wp2_with fail
  refine ht1.mono ?_;rintro e w2 ⟨rfl,hb2⟩;have L2:=L1.kept hb2;have X2:=X1.kept hb2;have Y2:=Y1.kept hb2;have B2:=Below.next B1 hb2;have hD:=hC w2 (HN.out.1.kept B2) (HN.out.2.1.kept B2) (HN.out.2.2.1.kept B2) (HN.out.2.2.2.kept B2);clear L1 X1 Y1 hb2 ht1 hC l0 l1 y0 y1 y2 y3 y4;have l0:=L2.c0;have l1:=L2.c1;have x0:=X2.c0;have x1:=X2.c1;have x2:=X2.c2;have x3:=X2.c3;have x4:=X2.c4;have y0:=Y2.c0;have y1:=Y2.c1;have y2:=Y2.c2;have y3:=Y2.c3;have y4:=Y2.c4;go_wp2_with fail
  refine hD.mono ?_;rintro e w3 ⟨rfl,hb3⟩;go_wp2;go_ret;exact⟨zab HV.out.symm,Below.next B2 hb3⟩
end
end Go.Proofs.YtgioppfoceddfaaGreat
