import Derived.Test.YtfobijdkoeifjaaGreatDoorP9
import Derived.Test.YtfobijdkoeifjaaGreatDoorP3
set_option maxRecDepth 100000
set_option maxHeartbeats 32000000
namespace Go.Proofs.YtfobijdkoeifjaaGreatDoor
section
open Go.RowKit
def Ct (n:Strs)(gb go gcap:Nat)(gA:Nat→Option Addr)(gL gC gAB gAO:Nat→Nat)(gB:Nat→Nat→Bool)(a b:Ty)(r:Bool):Prop:=∀u:World,n.At u→(zet n.len gb go gcap gA gL gC gAB gAO gB).At u→a.At u→b.At u →
 Calls Tryz.prog 184 #[.agg #[.slice n.ao n.len n.cap,.slice (some ⟨gb,go,none⟩) n.len gcap],.agg #[.int .i64 a.k,.int .i64 a.l,.slice a.ao a.len a.cap,.int .i64 a.h,.int .i64 a.e],.agg #[.int .i64 b.k,.int .i64 b.l,.slice b.ao b.len b.cap,.int .i64 b.h,.int .i64 b.e]] u fun e w'=>e=.returned (.bool r)∧Below u.heap.size u w'
structure Gd (N:Nat)(t:Ty):Prop where
 ar:(t.len:Int)=zaz t.k
 lab:inR N t.l=true
 bnd:bndI N t.k t.h t.e=true
def zeu (le:Nat→Nat→Bool)(s t:Ty)(p0 p1:Bool):Bool:=((s.k==t.k)&&le s.l.toNat t.l.toNat)&&(if s.k=3 then p0&&p1 else if s.k=4 then ((p0&&p1)&&le t.h.toNat s.h.toNat)&&excB le s.e t.e else if s.k=5 then (s.ps 0).same (t.ps 0) else true)
theorem bnd4 {N:Nat}{h e:Int}(hb:bndI N 4 h e=true):inR N h=true∧(e=-1∨inR N e=true):=by
 unfold bndI at hb;rw[if_pos rfl,Bool.and_eq_true,Bool.or_eq_true] at hb;exact⟨hb.1,hb.2.imp (fun h=>by simpa using h) (fun h=>h)⟩
theorem zjn (n:Strs)(gb go gcap:Nat)(gA:Nat→Option Addr)(gL gC gAB gAO:Nat→Nat)(gB:Nat→Nat→Bool)(hF:Hid (zae n (zet n.len gb go gcap gA gL gC gAB gAO gB)=true))(sk sl sh se:Int)(sao:Option Addr)(sb so slen scap:Nat)(sps:Nat→Ty)(tk tl th te:Int)(tao:Option Addr)(tb to' tlen tcap:Nat)(tps:Nat→Ty)
  (gs:Gd n.len (.mk sk sl sh se sao sb so slen scap sps)) (gt:Gd n.len (.mk tk tl th te tao tb to' tlen tcap tps)) (p0 p1:Bool) (hp0:sk=3∧tk=3→Ct n gb go gcap gA gL gC gAB gAO gB (sps 0) (tps 0) p0) (hf0:sk=4∧tk=4→Ct n gb go gcap gA gL gC gAB gAO gB (tps 0) (sps 0) p0) (hp1:(sk=3∧tk=3)∨(sk=4∧tk=4)→Ct n gb go gcap gA gL gC gAB gAO gB (sps 1) (tps 1) p1) (hpn:sk=5→(sps 0).pn≤1000) :
  Ct n gb go gcap gA gL gC gAB gAO gB (.mk sk sl sh se sao sb so slen scap sps) (.mk tk tl th te tao tb to' tlen tcap tps) (zeu gB (.mk sk sl sh se sao sb so slen scap sps) (.mk tk tl th te tao tb to' tlen tcap tps) p0 p1):=by
 intro w hn hg hs ht;obtain⟨L0,X0,Y0,B0⟩:=zku w n (zet n.len gb go gcap gA gL gC gAB gAO gB) (.mk sk sl sh se sao sb so slen scap sps) (.mk tk tl th te tao tb to' tlen tcap tps);have hn0:=hn.kept B0;have hg0:=hg.kept B0;have hs0:=hs.kept B0;have ht0:=ht.kept B0;have n1:0<slen→sao=some ⟨sb,so,none⟩:=hs.nil;have n2:0<tlen→tao=some ⟨tb,to',none⟩:=ht.nil;obtain⟨x,hx,hx1⟩:∃k:Nat,sl=k∧k<n.len:=zb6 gs.lab;obtain⟨y,hy,hy1⟩:∃k:Nat,tl=k∧k<n.len:=zb6 gt.lab;subst hx hy;have a1:(slen:Int)=zaz sk:=gs.ar;have a2:(tlen:Int)=zaz tk:=gt.ar;have bn1:bndI n.len sk sh se=true:=gs.bnd;have bn2:bndI n.len tk th te=true:=gt.bnd;have HV:Hid (zeu gB (.mk sk x sh se sao sb so slen scap sps) (.mk tk y th te tao tb to' tlen tcap tps) p0 p1=(((sk==tk)&&gB x y)&&(if sk=3 then p0&&p1 else if sk=4 then ((p0&&p1)&&gB th.toNat sh.toNat)&&excB gB se te else if sk=5 then (sps 0).same (tps 0) else true))):=rfl;generalize zeu gB (.mk sk x sh se sao sb so slen scap sps) (.mk tk y th te tao tb to' tlen tcap tps) p0 p1=V at HV ⊢;show Calls Tryz.prog 184 #[.agg #[.slice n.ao n.len n.cap,.slice (some ⟨gb,go,none⟩) n.len gcap],.agg #[.int .i64 sk,.int .i64 x,.slice sao slen scap,.int .i64 sh,.int .i64 se],.agg #[.int .i64 tk,.int .i64 y,.slice tao tlen tcap,.int .i64 th,.int .i64 te]] w fun e w'=>e=.returned (.bool V)∧Below w.heap.size w w'
 clear hn hg hs ht gs gt;unfold latO tyO zet at *;simp only[Ty.k,Ty.l,Ty.h,Ty.e,Ty.ao,Ty.len,Ty.cap] at B0 L0 X0 Y0 hn0 hg0 hs0 ht0;obtain⟨o0,o1⟩:=zha hF.out hg0 hx1 hy1;have ix:(x:Int)<n.len:=by omega
 have iy:(y:Int)<n.len:=by omega
 have l0:=fun x=>Gr.cell x L0.c0;have l1:=fun x=>Gr.cell x L0.c1;have x0:=fun x=>Gr.cell x X0.c0;have x1:=fun x=>Gr.cell x X0.c1;have x2:=fun x=>Gr.cell x X0.c2;have x3:=fun x=>Gr.cell x X0.c3;have x4:=fun x=>Gr.cell x X0.c4;have y0:=fun x=>Gr.cell x Y0.c0;have y1:=fun x=>Gr.cell x Y0.c1;have y2:=fun x=>Gr.cell x Y0.c2;have y3:=fun x=>Gr.cell x Y0.c3;have y4:=fun x=>Gr.cell x Y0.c4;simp only[Ty.k,Ty.l,Ty.h,Ty.e,Ty.ao,Ty.len,Ty.cap] at x0 x1 x2 x3 x4 y0 y1 y2 y3 y4;have u0:=fun x=>Gr.cell x o0;have u1:=fun x=>Gr.cell x o1;have hNE:Nonempty (Gr (((w.alloc (.cells #[.slice n.ao n.len n.cap,.slice (some ⟨gb,go,none⟩) n.len gcap] 25)).alloc (.cells #[.int .i64 sk,.int .i64 x,.slice sao slen scap,.int .i64 sh,.int .i64 se] 38)).alloc (.cells #[.int .i64 tk,.int .i64 y,.slice tao tlen tcap,.int .i64 th,.int .i64 te] 38))):=⟨⟨_,Below.refl _ _⟩⟩;by_cases hk:sk=tk
 ·subst hk;have bk:(sk != sk)=false:=by simp
  cases hle:gB x y
  ·have HW:Hid (V=false):=by show V=false;rw[HV.out,hle,Bool.and_false,Bool.false_and]
   rw[hle] at u1;clear HV hp0 hf0 hp1 hpn;go_enter Tryz.func184,Tryz.ntmps184
   go_wp2;refine zah (by kernel_rfl) (by kernel_rfl) ?_;repeat (first | go_big_quiet_step (fail))
   refine wpQuiet_nil ?_;rintro w4 ⟨x4w,rfl⟩;have B4:=x4w.bl;generalize x4w.w=w4 at B4 ⊢;clear x4w u0 u1 hNE l0 l1 x0 x1 x2 x3 x4 y0 y1 y2 y3 y4;go_wp2;go_ret;exact⟨zab HW.out.symm,Below.next B0 B4⟩
  ·have HV2:Hid (V=(if sk=3 then p0&&p1 else if sk=4 then ((p0&&p1)&&gB th.toNat sh.toNat)&&excB gB se te else if sk=5 then (sps 0).same (tps 0) else true)):=by show V=_;rw[HV.out,hle,beq_self_eq_true,Bool.true_and,Bool.true_and]
   rw[hle] at u1;clear HV hle;by_cases k3:sk=3
   ·subst k3;have HV:Hid (V=(p0&&p1)):=HV2.out;have e1:slen=2:=by have h:=a1;simp[zaz] at h;omega
    have e2:tlen=2:=by have h:=a2;simp[zaz] at h;omega
    subst e1 e2;have g1:=n1 (by omega);have g2:=n2 (by omega);subst g1 g2;have z0:=hp0 ⟨rfl,rfl⟩;have z1:=hp1 (Or.inl ⟨rfl,rfl⟩);clear HV2 n1 n2 a1 a2 hp0 hf0 hp1 hpn;go_enter Tryz.func184,Tryz.ntmps184
    go_wp2;refine zah (by kernel_rfl) (by kernel_rfl) ?_;repeat (first | go_big_quiet_step (fail))
    refine wpQuiet_nil ?_;rintro w4 ⟨x4w,rfl⟩;have B4:=x4w.bl;generalize x4w.w=w4 at B4 ⊢;clear x4w u0 u1 hNE l0 l1 x0 x1 x2 x3 x4 y0 y1 y2 y3 y4;have L4:=L0.kept B4;have X4:=X0.kept B4;have Y4:=Y0.kept B4;have B5:=Below.next B0 B4;have hn4:=hn0.kept B4;have hg4:=hg0.kept B4;have hs4:=hs0.kept B4;have ht4:=ht0.kept B4;clear L0 X0 Y0 B0 B4 hn0 hg0 hs0 ht0 o0 o1;have C0:C5 w4 sb so (sps 0):=hs4.cells (i:=0) (by show 0<2;omega)
    have C1:C5 w4 sb (so+5) (sps 1):=hs4.cells (i:=1) (by show 1<2;omega)
    have D0:C5 w4 tb to' (tps 0):=ht4.cells (i:=0) (by show 0<2;omega)
    have D1:C5 w4 tb (to'+5) (tps 1):=ht4.cells (i:=1) (by show 1<2;omega)
    have P0:(sps 0).At w4:=hs4.part (i:=0) (by show 0<2;omega)
    have P1:(sps 1).At w4:=hs4.part (i:=1) (by show 1<2;omega)
    have R0:(tps 0).At w4:=ht4.part (i:=0) (by show 0<2;omega)
    have R1:(tps 1).At w4:=ht4.part (i:=1) (by show 1<2;omega)
    have H0:∀u,Below w4.heap.size w4 u→Calls Tryz.prog 184 #[.agg #[.slice n.ao n.len n.cap,.slice (some ⟨gb,go,none⟩) n.len gcap],.agg #[.int .i64 (sps 0).k,.int .i64 (sps 0).l,.slice (sps 0).ao (sps 0).len (sps 0).cap,.int .i64 (sps 0).h,.int .i64 (sps 0).e],.agg #[.int .i64 (tps 0).k,.int .i64 (tps 0).l,.slice (tps 0).ao (tps 0).len (tps 0).cap,.int .i64 (tps 0).h,.int .i64 (tps 0).e]] u fun e w'=>e=.returned (.bool p0)∧Below u.heap.size u w':=fun u hu=>z0 u (hn4.kept hu) (hg4.kept hu) (P0.kept hu) (R0.kept hu);have H1:∀u,Below w4.heap.size w4 u→Calls Tryz.prog 184 #[.agg #[.slice n.ao n.len n.cap,.slice (some ⟨gb,go,none⟩) n.len gcap],.agg #[.int .i64 (sps 1).k,.int .i64 (sps 1).l,.slice (sps 1).ao (sps 1).len (sps 1).cap,.int .i64 (sps 1).h,.int .i64 (sps 1).e],.agg #[.int .i64 (tps 1).k,.int .i64 (tps 1).l,.slice (tps 1).ao (tps 1).len (tps 1).cap,.int .i64 (tps 1).h,.int .i64 (tps 1).e]] u fun e w'=>e=.returned (.bool p1)∧Below u.heap.size u w':=fun u hu=>z1 u (hn4.kept hu) (hg4.kept hu) (P1.kept hu) (R1.kept hu);have l0:=fun x=>Gr.cell x L4.c0;have l1:=fun x=>Gr.cell x L4.c1;have x0:=fun x=>Gr.cell x X4.c0;have x1:=fun x=>Gr.cell x X4.c1;have x2:=fun x=>Gr.cell x X4.c2;have x3:=fun x=>Gr.cell x X4.c3;have x4:=fun x=>Gr.cell x X4.c4;have y0:=fun x=>Gr.cell x Y4.c0;have y1:=fun x=>Gr.cell x Y4.c1;have y2:=fun x=>Gr.cell x Y4.c2;have y3:=fun x=>Gr.cell x Y4.c3;have y4:=fun x=>Gr.cell x Y4.c4;have c0:=fun x=>Gr.cell x C0.c0;have c1:=fun x=>Gr.cell x C0.c1;have c2:=fun x=>Gr.cell x C0.c2;have c3:=fun x=>Gr.cell x C0.c3;have c4:=fun x=>Gr.cell x C0.c4;have d0:=fun x=>Gr.cell x C1.c0;have d1:=fun x=>Gr.cell x C1.c1;have d2:=fun x=>Gr.cell x C1.c2;have d3:=fun x=>Gr.cell x C1.c3;have d4:=fun x=>Gr.cell x C1.c4;have e0:=fun x=>Gr.cell x D0.c0;have e1:=fun x=>Gr.cell x D0.c1;have e2:=fun x=>Gr.cell x D0.c2;have e3:=fun x=>Gr.cell x D0.c3;have e4:=fun x=>Gr.cell x D0.c4;have f0:=fun x=>Gr.cell x D1.c0;have f1:=fun x=>Gr.cell x D1.c1;have f2:=fun x=>Gr.cell x D1.c2;have f3:=fun x=>Gr.cell x D1.c3
    have f4:=fun x=>Gr.cell x D1.c4;simp only[Ty.k,Ty.l,Ty.h,Ty.e,Ty.ao,Ty.len,Ty.cap] at x0 x1 x2 x3 x4 y0 y1 y2 y3 y4;have hNE:Nonempty (Gr w4):=⟨⟨_,Below.refl _ _⟩⟩;have x0':=X4.c0;simp only[Ty.k] at x0';clear C0 C1 D0 D1 hs4 ht4 z0 z1;cases p0
    ·have HW:Hid (V=false):=HV.out;go_wp2;refine zah (by kernel_rfl) (by kernel_rfl) ?_;repeat (first | go_big_quiet_step ((go_at_call 184;with_reducible exact Calls.gr _ (H0 _ (Gr.bl _)))))
     refine wpQuiet_nil ?_;rintro w6 ⟨x6w,rfl⟩;have B6:=x6w.bl;generalize x6w.w=w6 at B6 ⊢;clear x6w hNE l0 l1 x0 x1 x2 x3 x4 y0 y1 y2 y3 y4;go_wp2;go_ret;exact⟨zab HW.out.symm,Below.next B5 B6⟩
    ·have HW:Hid (V=p1):=HV.out;go_wp2;refine zah (by kernel_rfl) (by kernel_rfl) ?_;repeat (first | go_big_quiet_step ((first | (go_at_call 184;with_reducible exact Calls.gr _ (H0 _ (Gr.bl _))) | (go_at_call 184;with_reducible exact Calls.gr _ (H1 _ (Gr.bl _))))))
     refine wpQuiet_nil ?_;rintro w6 ⟨x6w,rfl⟩;have B6:=x6w.bl;generalize x6w.w=w6 at B6 ⊢;clear x6w hNE l0 l1 x0 x1 x2 x3 x4 y0 y1 y2 y3 y4;go_wp2;go_ret;exact⟨zab HW.out.symm,Below.next B5 B6⟩
   by_cases k4:sk=4
   ·subst k4;have HV:Hid (V=(((p0&&p1)&&gB th.toNat sh.toNat)&&excB gB se te)):=HV2.out;have e1:slen=2:=by have h:=a1;simp[zaz] at h;omega
    have e2:tlen=2:=by have h:=a2;simp[zaz] at h;omega
    subst e1 e2;have g1:=n1 (by omega);have g2:=n2 (by omega);subst g1 g2;have z0:=hf0 ⟨rfl,rfl⟩;have z1:=hp1 (Or.inr ⟨rfl,rfl⟩);obtain⟨r1,r2⟩:=bnd4 bn1;obtain⟨r3,r4⟩:=bnd4 bn2;obtain⟨xh,hxh,hxh1⟩:∃k:Nat,sh=k∧k<n.len:=zb6 r1;obtain⟨yh,hyh,hyh1⟩:∃k:Nat,th=k∧k<n.len:=zb6 r3;subst hxh hyh;have ixh:(xh:Int)<n.len:=by omega
    have iyh:(yh:Int)<n.len:=by omega
    have HR:Hid ((se=-1∨inR n.len se=true)∧(te=-1∨inR n.len te=true)):=⟨r2,r4⟩;clear HV2 n1 n2 a1 a2 hp0 hf0 hp1 hpn k3 bn1 bn2 r1 r2 r3 r4;go_enter Tryz.func184,Tryz.ntmps184
    go_wp2;refine zah (by kernel_rfl) (by kernel_rfl) ?_;repeat (first | go_big_quiet_step (fail))
    refine wpQuiet_nil ?_;rintro w4 ⟨x4w,rfl⟩;have B4:=x4w.bl;generalize x4w.w=w4 at B4 ⊢;clear x4w u0 u1 hNE l0 l1 x0 x1 x2 x3 x4 y0 y1 y2 y3 y4;have L4:=L0.kept B4;have X4:=X0.kept B4;have Y4:=Y0.kept B4;have B5:=Below.next B0 B4;have hn4:=hn0.kept B4;have hg4:=hg0.kept B4;have hs4:=hs0.kept B4;have ht4:=ht0.kept B4;clear L0 X0 Y0 B0 B4 hn0 hg0 hs0 ht0 o0 o1;have C0:C5 w4 sb so (sps 0):=hs4.cells (i:=0) (by show 0<2;omega)
    have C1:C5 w4 sb (so+5) (sps 1):=hs4.cells (i:=1) (by show 1<2;omega)
    have D0:C5 w4 tb to' (tps 0):=ht4.cells (i:=0) (by show 0<2;omega)
    have D1:C5 w4 tb (to'+5) (tps 1):=ht4.cells (i:=1) (by show 1<2;omega)
    have P0:(sps 0).At w4:=hs4.part (i:=0) (by show 0<2;omega)
    have P1:(sps 1).At w4:=hs4.part (i:=1) (by show 1<2;omega)
    have R0:(tps 0).At w4:=ht4.part (i:=0) (by show 0<2;omega)
    have R1:(tps 1).At w4:=ht4.part (i:=1) (by show 1<2;omega)
    obtain⟨o0,o1⟩:=zha hF.out hg4 hyh1 hxh1;have u0:=fun x=>Gr.cell x o0;have u1:=fun x=>Gr.cell x o1;have H0:∀u,Below w4.heap.size w4 u→Calls Tryz.prog 184 #[.agg #[.slice n.ao n.len n.cap,.slice (some ⟨gb,go,none⟩) n.len gcap],.agg #[.int .i64 (tps 0).k,.int .i64 (tps 0).l,.slice (tps 0).ao (tps 0).len (tps 0).cap,.int .i64 (tps 0).h,.int .i64 (tps 0).e],.agg #[.int .i64 (sps 0).k,.int .i64 (sps 0).l,.slice (sps 0).ao (sps 0).len (sps 0).cap,.int .i64 (sps 0).h,.int .i64 (sps 0).e]] u fun e w'=>e=.returned (.bool p0)∧Below u.heap.size u w':=fun u hu=>z0 u (hn4.kept hu) (hg4.kept hu) (R0.kept hu) (P0.kept hu);have H1:∀u,Below w4.heap.size w4 u→Calls Tryz.prog 184 #[.agg #[.slice n.ao n.len n.cap,.slice (some ⟨gb,go,none⟩) n.len gcap],.agg #[.int .i64 (sps 1).k,.int .i64 (sps 1).l,.slice (sps 1).ao (sps 1).len (sps 1).cap,.int .i64 (sps 1).h,.int .i64 (sps 1).e],.agg #[.int .i64 (tps 1).k,.int .i64 (tps 1).l,.slice (tps 1).ao (tps 1).len (tps 1).cap,.int .i64 (tps 1).h,.int .i64 (tps 1).e]] u fun e w'=>e=.returned (.bool p1)∧Below u.heap.size u w':=fun u hu=>z1 u (hn4.kept hu) (hg4.kept hu) (P1.kept hu) (R1.kept hu);have HX:∀u,Below w4.heap.size w4 u→Calls Tryz.prog 224 #[.agg #[.slice n.ao n.len n.cap,.slice (some ⟨gb,go,none⟩) n.len gcap],.int .i64 se,.int .i64 te] u fun e w'=>e=.returned (.bool (excB gB se te))∧Below u.heap.size u w':=fun u hu=>zmh n gb go gcap gA gL gC gAB gAO gB hF se te u (hg4.kept hu) HR.out.1 HR.out.2;have l0:=fun x=>Gr.cell x L4.c0;have l1:=fun x=>Gr.cell x L4.c1;have x0:=fun x=>Gr.cell x X4.c0;have x1:=fun x=>Gr.cell x X4.c1;have x2:=fun x=>Gr.cell x X4.c2;have x3:=fun x=>Gr.cell x X4.c3;have x4:=fun x=>Gr.cell x X4.c4;have y0:=fun x=>Gr.cell x Y4.c0;have y1:=fun x=>Gr.cell x Y4.c1;have y2:=fun x=>Gr.cell x Y4.c2;have y3:=fun x=>Gr.cell x Y4.c3;have y4:=fun x=>Gr.cell x Y4.c4;have c0:=fun x=>Gr.cell x C0.c0;have c1:=fun x=>Gr.cell x C0.c1;have c2:=fun x=>Gr.cell x C0.c2;have c3:=fun x=>Gr.cell x C0.c3;have c4:=fun x=>Gr.cell x C0.c4
    have d0:=fun x=>Gr.cell x C1.c0;have d1:=fun x=>Gr.cell x C1.c1;have d2:=fun x=>Gr.cell x C1.c2;have d3:=fun x=>Gr.cell x C1.c3;have d4:=fun x=>Gr.cell x C1.c4;have e0:=fun x=>Gr.cell x D0.c0;have e1:=fun x=>Gr.cell x D0.c1;have e2:=fun x=>Gr.cell x D0.c2;have e3:=fun x=>Gr.cell x D0.c3;have e4:=fun x=>Gr.cell x D0.c4;have f0:=fun x=>Gr.cell x D1.c0;have f1:=fun x=>Gr.cell x D1.c1;have f2:=fun x=>Gr.cell x D1.c2;have f3:=fun x=>Gr.cell x D1.c3;have f4:=fun x=>Gr.cell x D1.c4;simp only[Ty.k,Ty.l,Ty.h,Ty.e,Ty.ao,Ty.len,Ty.cap] at x0 x1 x2 x3 x4 y0 y1 y2 y3 y4;have hNE:Nonempty (Gr w4):=⟨⟨_,Below.refl _ _⟩⟩;have x0':=X4.c0;simp only[Ty.k] at x0';have HV3:Hid (V=(((p0&&p1)&&gB yh xh)&&excB gB se te)):=HV.out;clear C0 C1 D0 D1 hs4 ht4 z0 z1 HV;cases p0
    ·have HW:Hid (V=false):=HV3.out;go_wp2;refine zah (by kernel_rfl) (by kernel_rfl) ?_;repeat (first | go_big_quiet_step (((go_at_call 184;with_reducible exact Calls.gr _ (H0 _ (Gr.bl _))))))
     refine wpQuiet_nil ?_;rintro w6 ⟨x6w,rfl⟩;have B6:=x6w.bl;generalize x6w.w=w6 at B6 ⊢;clear x6w hNE l0 l1 x0 x1 x2 x3 x4 y0 y1 y2 y3 y4 u0 u1;go_wp2;go_ret;exact⟨zab HW.out.symm,Below.next B5 B6⟩
    ·cases p1
     ·have HW:Hid (V=false):=HV3.out;go_wp2;refine zah (by kernel_rfl) (by kernel_rfl) ?_;repeat (first | go_big_quiet_step ((first | (go_at_call 184;with_reducible exact Calls.gr _ (H0 _ (Gr.bl _))) | (go_at_call 184;with_reducible exact Calls.gr _ (H1 _ (Gr.bl _))))))
      refine wpQuiet_nil ?_;rintro w6 ⟨x6w,rfl⟩;have B6:=x6w.bl;generalize x6w.w=w6 at B6 ⊢;clear x6w hNE l0 l1 x0 x1 x2 x3 x4 y0 y1 y2 y3 y4 u0 u1;go_wp2;go_ret;exact⟨zab HW.out.symm,Below.next B5 B6⟩
     ·cases hh:gB yh xh
      ·have HW:Hid (V=false):=by show V=false;rw[HV3.out,hh];rfl
       rw[hh] at u1;go_wp2;refine zah (by kernel_rfl) (by kernel_rfl) ?_;repeat (first | go_big_quiet_step ((first | (go_at_call 184;with_reducible exact Calls.gr _ (H0 _ (Gr.bl _))) | (go_at_call 184;with_reducible exact Calls.gr _ (H1 _ (Gr.bl _))))))
       refine wpQuiet_nil ?_;rintro w6 ⟨x6w,rfl⟩;have B6:=x6w.bl;generalize x6w.w=w6 at B6 ⊢;clear x6w hNE l0 l1 x0 x1 x2 x3 x4 y0 y1 y2 y3 y4 u0 u1;go_wp2;go_ret;exact⟨zab HW.out.symm,Below.next B5 B6⟩
      ·have HW:Hid (V=excB gB se te):=by show V=_;rw[HV3.out,hh];rfl
       rw[hh] at u1;clear HV3 hh;generalize excB gB se te=X at HX HW;go_wp2;refine zah (by kernel_rfl) (by kernel_rfl) ?_;repeat (first | go_big_quiet_step ((first | (go_at_call 184;with_reducible exact Calls.gr _ (H0 _ (Gr.bl _))) | (go_at_call 184;with_reducible exact Calls.gr _ (H1 _ (Gr.bl _))) | (go_at_call 224;with_reducible exact Calls.gr _ (HX _ (Gr.bl _))))))
       refine wpQuiet_nil ?_;rintro w6 ⟨x6w,rfl⟩;have B6:=x6w.bl;generalize x6w.w=w6 at B6 ⊢;clear x6w hNE l0 l1 x0 x1 x2 x3 x4 y0 y1 y2 y3 y4 u0 u1;go_wp2;go_ret;exact⟨zab HW.out.symm,Below.next B5 B6⟩
   by_cases k5:sk=5
   ·subst k5;have HV:Hid (V=(sps 0).same (tps 0)):=HV2.out;have e1:slen=1:=by have h:=a1;simp[zaz] at h;omega
    have e2:tlen=1:=by have h:=a2;simp[zaz] at h;omega
    subst e1 e2;have g1:=n1 (by omega);have g2:=n2 (by omega);subst g1 g2;have hpn5:=hpn rfl;clear HV2 n1 n2 a1 a2 hp0 hf0 hp1 hpn k3 k4;go_enter Tryz.func184,Tryz.ntmps184
    go_wp2;refine zah (by kernel_rfl) (by kernel_rfl) ?_;repeat (first | go_big_quiet_step (fail))
    refine wpQuiet_nil ?_;rintro w4 ⟨x4w,rfl⟩;have B4:=x4w.bl;generalize x4w.w=w4 at B4 ⊢;clear x4w u0 u1 hNE l0 l1 x0 x1 x2 x3 x4 y0 y1 y2 y3 y4;have L4:=L0.kept B4;have X4:=X0.kept B4;have Y4:=Y0.kept B4;have B5:=Below.next B0 B4;have hn4:=hn0.kept B4;have hg4:=hg0.kept B4;have hs4:=hs0.kept B4;have ht4:=ht0.kept B4;clear L0 X0 Y0 B0 B4 hn0 hg0 hs0 ht0 o0 o1;have C0:C5 w4 sb so (sps 0):=hs4.cells (i:=0) (by show 0<1;omega)
    have D0:C5 w4 tb to' (tps 0):=ht4.cells (i:=0) (by show 0<1;omega)
    have P0:(sps 0).At w4:=hs4.part (i:=0) (by show 0<1;omega)
    have R0:(tps 0).At w4:=ht4.part (i:=0) (by show 0<1;omega)
    have HW:Hid (V=(sps 0).same (tps 0)):=HV.out;have l0:=fun x=>Gr.cell x L4.c0;have l1:=fun x=>Gr.cell x L4.c1;have x0:=fun x=>Gr.cell x X4.c0;have x1:=fun x=>Gr.cell x X4.c1;have x2:=fun x=>Gr.cell x X4.c2;have x3:=fun x=>Gr.cell x X4.c3;have x4:=fun x=>Gr.cell x X4.c4;have y0:=fun x=>Gr.cell x Y4.c0;have y1:=fun x=>Gr.cell x Y4.c1;have y2:=fun x=>Gr.cell x Y4.c2;have y3:=fun x=>Gr.cell x Y4.c3;have y4:=fun x=>Gr.cell x Y4.c4;have c0:=fun x=>Gr.cell x C0.c0;have c1:=fun x=>Gr.cell x C0.c1;have c2:=fun x=>Gr.cell x C0.c2;have c3:=fun x=>Gr.cell x C0.c3;have c4:=fun x=>Gr.cell x C0.c4;have e0:=fun x=>Gr.cell x D0.c0;have e1:=fun x=>Gr.cell x D0.c1;have e2:=fun x=>Gr.cell x D0.c2;have e3:=fun x=>Gr.cell x D0.c3;have e4:=fun x=>Gr.cell x D0.c4;simp only[Ty.k,Ty.l,Ty.h,Ty.e,Ty.ao,Ty.len,Ty.cap] at x0 x1 x2 x3 x4 y0 y1 y2 y3 y4;have hNE:Nonempty (Gr w4):=⟨⟨_,Below.refl _ _⟩⟩;have x0':=X4.c0;simp only[Ty.k] at x0';clear C0 D0 hs4 ht4 HV;go_wp2;refine zah (by kernel_rfl) (by kernel_rfl) ?_;repeat (first | go_big_quiet_step ((go_at_call 136;exact Calls.gr _ (zln (sps 0) (tps 0) _ (P0.kept (Gr.bl _)) (R0.kept (Gr.bl _)) hpn5))))
    refine wpQuiet_nil ?_;rintro w6 ⟨x6w,rfl⟩;have B6:=x6w.bl;generalize x6w.w=w6 at B6 ⊢;clear x6w hNE l0 l1 x0 x1 x2 x3 x4 y0 y1 y2 y3 y4;go_wp2;go_ret;exact⟨zab HW.out.symm,Below.next B5 B6⟩
   ·have HW:Hid (V=true):=by show V=true;rw[HV2.out,if_neg k3,if_neg k4,if_neg k5]
    have b3:(sk==3)=false:=beq_eq_false_iff_ne.2 k3;have b4:(sk==4)=false:=beq_eq_false_iff_ne.2 k4;have b5:(sk==5)=false:=beq_eq_false_iff_ne.2 k5;clear HV2 n1 n2 a1 a2 hp0 hf0 hp1 hpn k3 k4 k5;go_enter Tryz.func184,Tryz.ntmps184
    go_wp2;refine zah (by kernel_rfl) (by kernel_rfl) ?_;repeat (first | go_big_quiet_step (fail))
    refine wpQuiet_nil ?_;rintro w4 ⟨x4w,rfl⟩;have B4:=x4w.bl;generalize x4w.w=w4 at B4 ⊢;clear x4w u0 u1 hNE l0 l1 x0 x1 x2 x3 x4 y0 y1 y2 y3 y4;have L4:=L0.kept B4;have X4:=X0.kept B4;have Y4:=Y0.kept B4;have B5:=Below.next B0 B4;have hn4:=hn0.kept B4;have hg4:=hg0.kept B4;have hs4:=hs0.kept B4;have ht4:=ht0.kept B4;clear L0 X0 Y0 B0 B4 hn0 hg0 hs0 ht0 o0 o1;have x0':=X4.c0;simp only[Ty.k] at x0';go_wp2;go_ret;exact⟨zab HW.out.symm,B5⟩
 ·have bk:(sk != tk)=true:=by simp[hk]
  have HW:Hid (V=false):=by show V=false;rw[HV.out,beq_eq_false_iff_ne.2 hk];rfl
  clear HV;go_enter Tryz.func184,Tryz.ntmps184
  go_wp2;refine zah (by kernel_rfl) (by kernel_rfl) ?_;repeat (first | go_big_quiet_step (fail))
  refine wpQuiet_nil ?_;rintro w4 ⟨x4w,rfl⟩;have B4:=x4w.bl;generalize x4w.w=w4 at B4 ⊢;clear x4w u0 u1 hNE l0 l1 x0 x1 x2 x3 x4 y0 y1 y2 y3 y4;go_wp2;go_ret;exact⟨zab HW.out.symm,Below.next B0 B4⟩
theorem zl6 {N d:Nat}{t:Ty}(h:t.fm N d=true):Gd N t∧d≤6∧∀i,i<t.len→(t.ps i).fm N (d+1)=true:=by
 rcases t with _ | ⟨k,l,h',e,ao,b,o,len,cap,ps⟩
 ·cases h
 rw[zeg] at h;simp only[Bool.and_eq_true,decide_eq_true_eq,beq_iff_eq] at h;exact⟨⟨h.1.1.1.2,h.1.1.2,h.1.2⟩,h.1.1.1.1,h.2⟩
theorem zc6 {t:Ty}{i:Nat}(h:i<t.len):(t.ps i).nodes<t.nodes:=by
 rw[zff t];have:=zge (fun i=>(t.ps i).nodes) h;unfold Ty.pn;omega
theorem zlj {k:Int}(h:k=3∨k=4):zaz k=2:=by rcases h with h | h <;> subst h <;> rfl
theorem zj4 (le:Nat→Nat→Bool)(s t:Ty)(hs:s≠.dm):s.bel le true t=zeu le s t (if s.k=4 then (s.ps 0).bel le false (t.ps 0) else (s.ps 0).bel le true (t.ps 0)) ((s.ps 1).bel le true (t.ps 1)):=by
 rcases s with _ | ⟨k,l,h,e,ao,b,o,len,cap,ps⟩
 ·exact absurd rfl hs
 clear hs;show (((k==t.k)&&le l.toNat t.l.toNat)&&(if k=3 then (ps 0).bel le true (t.ps 0)&&(ps 1).bel le true (t.ps 1) else if k=4 then (((ps 0).bel le false (t.ps 0)&&(ps 1).bel le true (t.ps 1))&&le t.h.toNat h.toNat)&&excB le e t.e else if k=5 then (ps 0).same (t.ps 0) else true))=(((k==t.k)&&le l.toNat t.l.toNat)&&(if k=3 then (if k=4 then (ps 0).bel le false (t.ps 0) else (ps 0).bel le true (t.ps 0))&&(ps 1).bel le true (t.ps 1) else if k=4 then (((if k=4 then (ps 0).bel le false (t.ps 0) else (ps 0).bel le true (t.ps 0))&&(ps 1).bel le true (t.ps 1))&&le t.h.toNat h.toNat)&&excB le e t.e else if k=5 then (ps 0).same (t.ps 0) else true))
 by_cases h3:k=3
 ·subst h3;rfl
 ·by_cases h4:k=4
  ·subst h4;rfl
  ·simp only[if_neg h3,if_neg h4]
theorem zm8 (le:Nat→Nat→Bool)(s t:Ty)(hs:s≠.dm):s.bel le false t=zeu le t s (if t.k=4 then (s.ps 0).bel le true (t.ps 0) else (s.ps 0).bel le false (t.ps 0)) ((s.ps 1).bel le false (t.ps 1)):=by
 rcases s with _ | ⟨k,l,h,e,ao,b,o,len,cap,ps⟩
 ·exact absurd rfl hs
 clear hs;show (((t.k==k)&&le t.l.toNat l.toNat)&&(if t.k=3 then (ps 0).bel le false (t.ps 0)&&(ps 1).bel le false (t.ps 1) else if t.k=4 then (((ps 0).bel le true (t.ps 0)&&(ps 1).bel le false (t.ps 1))&&le h.toNat t.h.toNat)&&excB le t.e e else if t.k=5 then (t.ps 0).same (ps 0) else true))=(((t.k==k)&&le t.l.toNat l.toNat)&&(if t.k=3 then (if t.k=4 then (ps 0).bel le true (t.ps 0) else (ps 0).bel le false (t.ps 0))&&(ps 1).bel le false (t.ps 1) else if t.k=4 then (((if t.k=4 then (ps 0).bel le true (t.ps 0) else (ps 0).bel le false (t.ps 0))&&(ps 1).bel le false (t.ps 1))&&le h.toNat t.h.toNat)&&excB le t.e e else if t.k=5 then (t.ps 0).same (ps 0) else true))
 by_cases h3:t.k=3
 ·simp only[if_pos h3,if_neg (show ¬t.k=4 by omega)]
 ·by_cases h4:t.k=4
  ·simp only[if_pos h4,if_neg h3]
  ·simp only[if_neg h3,if_neg h4]
theorem zth (n:Strs)(gb go gcap:Nat)(gA:Nat→Option Addr)(gL gC gAB gAO:Nat→Nat)(gB:Nat→Nat→Bool)(hF:Hid (zae n (zet n.len gb go gcap gA gL gC gAB gAO gB)=true)) :
  ∀s t:Ty,(∃d,s.fm n.len d=true)→(∃d,t.fm n.len d=true)→s.nodes≤1000→t.nodes≤1000→Ct n gb go gcap gA gL gC gAB gAO gB s t (s.bel gB true t)∧Ct n gb go gcap gA gL gC gAB gAO gB t s (s.bel gB false t):=by
 intro s
 induction s with
 | dm=>intro t ⟨d,hd⟩;cases hd
 | mk sk sl sh se sao sb so slen scap sps ih =>
  intro t ⟨d,hd⟩ ⟨d',hd'⟩ h1 h2;rcases t with _ | ⟨tk,tl,th,te,tao,tb,to',tlen,tcap,tps⟩
  ·cases hd'
  obtain⟨gs,_,cs⟩:=zl6 hd;obtain⟨gt,_,ct⟩:=zl6 hd';have a1:(slen:Int)=zaz sk:=gs.ar;have a2:(tlen:Int)=zaz tk:=gt.ar;have sub:∀i,i<slen→i<tlen→Ct n gb go gcap gA gL gC gAB gAO gB (sps i) (tps i) ((sps i).bel gB true (tps i))∧Ct n gb go gcap gA gL gC gAB gAO gB (tps i) (sps i) ((sps i).bel gB false (tps i)):=fun i hi hi' =>
   ih i (tps i) ⟨_,cs i hi⟩ ⟨_,ct i hi'⟩ (by have:(sps i).nodes<_:=zc6 (t:=.mk sk sl sh se sao sb so slen scap sps) hi;omega) (by have:(tps i).nodes<_:=zc6 (t:=.mk tk tl th te tao tb to' tlen tcap tps) hi';omega)
  have two:∀k:Int,(k=3∨k=4)→zaz k=2:=fun k h=>zlj h;have pnS:sk=5→(sps 0).pn≤1000:=fun h=>by
   subst h;have h5:zaz 5=1:=rfl;have hh:(sps 0).nodes<_:=zc6 (t:=.mk 5 sl sh se sao sb so slen scap sps) (i:=0) (by show 0<slen;omega)
   have:=zff (sps 0);omega
  have pnT:tk=5→(tps 0).pn≤1000:=fun h=>by
   subst h;have h5:zaz 5=1:=rfl;have hh:(tps 0).nodes<_:=zc6 (t:=.mk 5 tl th te tao tb to' tlen tcap tps) (i:=0) (by show 0<tlen;omega)
   have:=zff (tps 0);omega
  refine⟨?_,?_⟩
  ·rw[zj4 _ _ _ (by intro h;cases h)]
   refine zjn n gb go gcap gA gL gC gAB gAO gB hF sk sl sh se sao sb so slen scap sps tk tl th te tao tb to' tlen tcap tps gs gt _ _ (fun h=>?_) (fun h=>?_) (fun h=>?_) pnS
   ·obtain⟨rfl,rfl⟩:=h;have:=two 3 (Or.inl rfl);exact (sub 0 (by omega) (by omega)).1
   ·obtain⟨rfl,rfl⟩:=h;have:=two 4 (Or.inr rfl);exact (sub 0 (by omega) (by omega)).2
   ·rcases h with ⟨rfl,rfl⟩ | ⟨rfl,rfl⟩
    ·have:=two 3 (Or.inl rfl);exact (sub 1 (by omega) (by omega)).1
    ·have:=two 4 (Or.inr rfl);exact (sub 1 (by omega) (by omega)).1
  ·rw[zm8 _ _ _ (by intro h;cases h)]
   refine zjn n gb go gcap gA gL gC gAB gAO gB hF tk tl th te tao tb to' tlen tcap tps sk sl sh se sao sb so slen scap sps gt gs _ _ (fun h=>?_) (fun h=>?_) (fun h=>?_) pnT
   ·obtain⟨rfl,rfl⟩:=h;have:=two 3 (Or.inl rfl);exact (sub 0 (by omega) (by omega)).2
   ·obtain⟨rfl,rfl⟩:=h;have:=two 4 (Or.inr rfl);exact (sub 0 (by omega) (by omega)).1
   ·rcases h with ⟨rfl,rfl⟩ | ⟨rfl,rfl⟩
    ·have:=two 3 (Or.inl rfl);exact (sub 1 (by omega) (by omega)).2
    ·have:=two 4 (Or.inr rfl);exact (sub 1 (by omega) (by omega)).2
def belB (n:Strs)(g:Grid)(s t:Ty):Bool:=(zae n g&&(s.ok n.len&&t.ok n.len))&&s.bel g.B true t
theorem zdm {N:Nat}{t:Ty}(h:t.ok N=true):t.fm N 1=true∧t.nodes≤40:=by
 unfold Ty.ok at h;rw[Bool.and_eq_true,decide_eq_true_eq] at h;exact h
theorem zp4 (n:Strs)(g:Grid)(s t:Ty)(w:World)(hn:n.At w)(hg:g.At w)(hs:s.At w)(ht:t.At w) :
  Calls Tryz.prog 137 #[.agg #[.slice n.ao n.len n.cap,.slice g.ao g.len g.cap],.agg #[.int .i64 s.k,.int .i64 s.l,.slice s.ao s.len s.cap,.int .i64 s.h,.int .i64 s.e],.agg #[.int .i64 t.k,.int .i64 t.l,.slice t.ao t.len t.cap,.int .i64 t.h,.int .i64 t.e]] w fun e w'=>e=.returned (.bool (belB n g s t))∧Below w.heap.size w w':=by
 obtain⟨L0,X0,Y0,B0⟩:=zku w n g s t;have R1:=zpf _ s t (hs.kept B0) (ht.kept B0);have B1:=zac (((w.alloc (latO n g)).alloc (tyO s)).alloc (tyO t)) (row2 s t);have hA:=zg4 n g _ _ _ _ _ _ _ ((hn.kept B0).kept B1) ((hg.kept B0).kept B1) R1;rw[alloc_size,alloc_size,alloc_size] at hA;have HE:Hid ((zae n g&&decide (∀i,i<2→Ty.ok n.len ((fun i=>if i=0 then s else t) i)=true))=(zae n g&&(s.ok n.len&&t.ok n.len))):=by
  show (zae n g&&decide (∀i,i<2→Ty.ok n.len ((fun i=>if i=0 then s else t) i)=true))=(zae n g&&(s.ok n.len&&t.ok n.len))
  congr 1
  rw[Bool.eq_iff_iff,decide_eq_true_eq,Bool.and_eq_true];exact⟨fun h=>⟨h 0 (by omega),h 1 (by omega)⟩,fun h i hi=>by
   by_cases e:i=0
   ·subst e;exact h.1
   ·have e1:i=1:=by omega
    subst e1;exact h.2⟩
 rw[HE.out] at hA;have L1:=L0.kept B1;have X1:=X0.kept B1;have Y1:=Y0.kept B1;have B2:=Below.next B0 B1;clear HE R1 L0 X0 Y0 B0 B1;unfold latO tyO row2 at *;cases hq:(zae n g&&(s.ok n.len&&t.ok n.len))
 ·have HV:Hid (belB n g s t=false):=by show belB n g s t=false;unfold belB;rw[hq];rfl
  rw[hq] at hA;go_enter Tryz.func137,Tryz.ntmps137
  go_wp2_with fail
  refine hA.mono ?_;rintro e w1 ⟨rfl,hb1⟩;go_wp2;go_ret;exact⟨zab HV.out.symm,Below.next B2 hb1⟩
 ·have HV:Hid (belB n g s t=s.bel g.B true t):=by show belB n g s t=_;unfold belB;rw[hq];rfl
  rw[hq] at hA;have hq':=hq;rw[Bool.and_eq_true,Bool.and_eq_true] at hq';obtain⟨f1,n1⟩:=zdm hq'.2.1;obtain⟨f2,n2⟩:=zdm hq'.2.2;have hfp:=zas hq'.1;have hC:∀u,n.At u→g.At u→s.At u→t.At u→Calls Tryz.prog 184 #[.agg #[.slice n.ao n.len n.cap,.slice g.ao g.len g.cap],.agg #[.int .i64 s.k,.int .i64 s.l,.slice s.ao s.len s.cap,.int .i64 s.h,.int .i64 s.e],.agg #[.int .i64 t.k,.int .i64 t.l,.slice t.ao t.len t.cap,.int .i64 t.h,.int .i64 t.e]] u fun e w'=>e=.returned (.bool (s.bel g.B true t))∧Below u.heap.size u w':=by
   have hF:=hq'.1;have hnil:=hg.nil (by omega);obtain⟨gao,gb,go,glen,gcap,gA,gL,gC,gAB,gAO,gB⟩:=g;have e1:gao=some ⟨gb,go,none⟩:=hnil;have e2:glen=n.len:=hfp.1;subst e1 e2;exact (zth n gb go gcap gA gL gC gAB gAO gB hF s t ⟨1,f1⟩ ⟨1,f2⟩ (by omega) (by omega)).1
  have HN:Hid (n.At w∧g.At w∧s.At w∧t.At w):=⟨hn,hg,hs,ht⟩;clear hq hq' f1 f2 n1 n2 hfp hn hg hs ht;go_enter Tryz.func137,Tryz.ntmps137
  go_wp2_with fail
  refine hA.mono ?_;rintro e w1 ⟨rfl,hb1⟩;have L2:=L1.kept hb1;have X2:=X1.kept hb1;have Y2:=Y1.kept hb1;have B3:=Below.next B2 hb1;have l0:=L2.c0;have l1:=L2.c1;have x0:=X2.c0;have x1:=X2.c1;have x2:=X2.c2;have x3:=X2.c3;have x4:=X2.c4;have y0:=Y2.c0;have y1:=Y2.c1;have y2:=Y2.c2;have y3:=Y2.c3;have y4:=Y2.c4;have hD:=hC w1 (HN.out.1.kept B3) (HN.out.2.1.kept B3) (HN.out.2.2.1.kept B3) (HN.out.2.2.2.kept B3);clear L1 X1 Y1 hb1 hA hC;go_wp2_with fail
  refine hD.mono ?_;rintro e w2 ⟨rfl,hb2⟩;go_wp2;go_ret;exact⟨zab HV.out.symm,Below.next B3 hb2⟩
theorem zp8 {n:Strs}{ao:Option Addr}{gg len cap:Nat}{s:Nat→ByteArray}{R:Nat→Nat}{M:Nat→Nat→Bool}(h1:n.len=len)(h2:n.s=s):zae n (zdj ao gg len cap R M)=zez len s M:=by
 obtain⟨ao,b,o,l,c,s'⟩:=n;simp only at h1 h2;subst h1 h2;rfl
structure Lt2 (n:Strs)(g:Grid)(w:World):Prop where
 nat:n.At w
 gat:g.At w
 fd:zae n g=true
 two:n.len=2
 le:g.B 0 1=true
 rows:∀r,r<g.len→g.A r≠none
theorem zut (w:World) :
  Calls Tryz.prog 26 #[.slice (some ⟨w.heap.size,0,none⟩) 2 2,.slice (some ⟨w.heap.size+1,0,none⟩) 1 1] ((w.alloc (.cells #[.string ⟨#[108,111,119]⟩,.string ⟨#[104,105,103,104]⟩] 9)).alloc (.cells #[.int .i64 0,.int .i64 1] 73))
   fun e w'=>∃(n:Strs) (g:Grid),e=.returned (.tuple #[.agg #[.slice n.ao n.len n.cap,.slice g.ao g.len g.cap],.int .i64 0])∧Lt2 n g w'∧Below w.heap.size w w':=by
 refine (zsw (awkN w.heap.size) (awkP (w.heap.size+1)) (awkW w) (zwx w) (zwu w) (Or.inr rfl)).mono ?_;rintro e w1 ⟨er,n',g',rfl,hM,hb1⟩;have h0:er=0:=hM.er.trans (awk_e _ _);subst h0;obtain⟨h1,h2,ao,gg,cap,R,rfl⟩:=hM.yes rfl;refine⟨n',_,rfl,⟨hM.nat,hM.gat,?_,h1,?_,fun r _=>by simp[zdj]⟩,(zj6 w).trans (hb1.mono (zj6 w).size)⟩
 ·rw[zp8 h1 h2];have he:=awk_e w.heap.size (w.heap.size+1);unfold zcd at he;split at he
  ·cases he
  ·split at he
   ·cases he
   ·split at he
    ·cases he
    ·rename_i h;simpa using h
 ·show zcw (awkP (w.heap.size+1)) 2 0 1=true
  refine zgd 2 _ 2 0 1 (by omega) (by omega) ?_;unfold prsM;rw[Bool.or_eq_true,decide_eq_true_eq];exact Or.inr ⟨0,by show 0<1;omega,rfl,rfl⟩
def zaa (k l:Int):Ty:=.mk k l 0 0 none 0 0 0 0 (fun _=>.dm)
theorem zav (k l:Int)(w:World):(zaa k l).At w:=⟨fun h=>absurd h (Nat.lt_irrefl _),Nat.zero_le _,fun _ h=>absurd h (Nat.not_lt_zero _)⟩
theorem zdd (l:Int)(N:Nat)(h:inR N l=true):(zaa 1 l).ok N=true:=by
 unfold Ty.ok zaa;rw[zeg,h];rfl
end
end Go.Proofs.YtfobijdkoeifjaaGreatDoor
