import Derived.Test.YtfobijdkoeifjaaGreatDoorP36
import Derived.Test.YtfobijdkoeifjaaGreatDoorP12
import Derived.Test.YtfobijdkoeifjaaGreatDoorP23
import Derived.Test.YtfobijdkoeifjaaGreatDoorP5
set_option maxRecDepth 100000
set_option maxHeartbeats 32000000
namespace Go.Proofs.YtfobijdkoeifjaaGreatDoor
section
open Go Go.RowKit
def Sm (m:Nat)(t:Ty):Prop:=t.Nd∧t.nodes≤m
theorem Sm.up {m k:Nat}{t:Ty}(h:Sm m t)(hk:m≤k):Sm k t:=⟨h.1,Nat.le_trans h.2 hk⟩
theorem zik (k l:Int){m:Nat}(hm:1≤m):Sm m (zaa k l):=⟨fun i hi=>absurd hi (Nat.not_lt_zero i),hm⟩
theorem znc {j:Int}:∀{t:Ty},t.Nd→(t.setL j).Nd
 | .dm,h=>h
 | .mk _ _ _ _ _ _ _ _ _ _,h=>h
theorem zc4 {n:Strs}{g:Grid}{t:Ty}{a:Int}{m:Nat}(hm:1≤m)(h:Sm m t):Sm m (zak n g t a):=by
 refine⟨?_,zfv hm h.2⟩;unfold zak;split
 ·exact znc h.1
 ·exact (zik 0 0 hm).1
theorem zw4 {m:Nat}:∀{t:Ty} {i:Nat},Sm m t→i<t.len→Sm m (t.ps i)
 | .dm,_,h,_=>h.1.elim
 | .mk _ _ _ _ _ _ _ _ _ _,_,h,hi=>⟨h.1 _ hi,Nat.le_trans (Nat.le_of_lt (zc6 hi)) h.2⟩
theorem zsk {k l h e:Int}{p q:Ty}{a b m:Nat}(hp:Sm a p)(hq:Sm b q)(hm:1+(a+b)≤m):Sm m (mk2 k l h e p q):=by
 refine⟨fun i _=>?_,?_⟩
 ·show (if i=0 then p else q).Nd
  by_cases h0:i=0
  ·rw[if_pos h0];exact hp.1
  ·rw[if_neg h0];exact hq.1
 ·have h1:=hp.2;have h2:=hq.2;show 1+(0+(if 0=0 then p else q).nodes+(if 1=0 then p else q).nodes)≤m
  rw[if_pos rfl,if_neg (by omega)];omega
theorem sm_mk1 {k l:Int}{p:Ty}{a m:Nat}(hp:Sm a p)(hm:1+a≤m):Sm m (mk1 k l p):=by
 refine⟨fun i _=>hp.1,?_⟩;have h1:=hp.2;show 1+(0+p.nodes)≤m
 omega
theorem zr6 {n:Strs}{g:Grid}{f:Fn}(hp:Sm 40 f.p)(hr:Sm 40 f.r):Sm 100 (zee n g f):=zc4 (by omega) (zsk hp hr (by omega))
theorem zwk {m:Nat}{k:Int}{t:Ty}(hm:1≤m)(h:Sm m t):Sm m (zb0 k t):=by
 unfold zb0;split
 ·exact zik _ _ hm
 ·exact h
theorem zfo {N:Nat}{t:Ty}(h:t.ok N=true)(hn:t.Nd):Sm 40 t:=⟨hn,(zdm h).2⟩
theorem zvh:∀{t:Ty},t.zr=true→t.nodes=1
 | .dm,_=>rfl
 | .mk _ _ _ _ _ _ _ len _ ps,h=>by
  unfold Ty.zr at h;simp only[Bool.and_eq_true,decide_eq_true_eq] at h;have e:len=0:=h.1.1.2;subst e;rfl
theorem ok_ar {N:Nat}{t:Ty}(h:t.ok N=true):(t.len:Int)=zaz t.k:=by
 have:=(zdm h).1;cases t with
 | dm=>cases this
 | mk k l hh e ao b o len cap ps =>
  rw[zeg] at this;simp only[Bool.and_eq_true,decide_eq_true_eq,beq_iff_eq] at this;exact this.1.1.1.2
theorem tk_ge (op:Int):0≤tkF op∧tkF op≤2:=by
 unfold tkF;generalize op.toNat=k;by_cases h:k<28
 ·have:∀k:Fin 28,0≤tkL.getD k.1 0∧tkL.getD k.1 0≤2:=by decide
  exact this ⟨k,h⟩
 ·rw[List.getD_eq_getElem?_getD,List.getElem?_eq_none (by show 28≤k;omega)]
  exact⟨by decide,by decide⟩
structure Wvf (c:Kl)(f:Cf):Prop where
 fm:f.fm c.n.len=true
 br:f.brk c.fs.len c.n.len=0
 at_:∃w,f.At w
 cap:∀p,p<f.pt.len→(f.pt.x p).st.len≤(f.pt.x p).st.cap
 fs:∀i,i<c.fs.len→(c.fs.x i).fm c.n.len=true∧∃w,(c.fs.x i).At w
structure Fa (N:Nat)(f:Cf):Prop where
 sl:1≤f.sl∧f.sl≤250
 cl:f.c.len≤16
 cd:f.cd.len≤2000
 hd:f.hd.len≤2000
 p:f.p.ok N=true
 r:f.r.ok N=true
 c:∀i,i<f.c.len→(f.c.ps i).ok N=true
 ins:∀i,i<f.cd.len→(f.cd.x i).fm N=true
 pt:∀i,i<f.pt.len→(f.pt.x i).fm N f.sl=true
 han:∀i,i<f.hd.len→(f.hd.x i).fm=true
 rg:∀i,i<f.rg.len→(f.rg.x i).fm=true
theorem Cf.fa {N:Nat}{f:Cf}(h:f.fm N=true):Fa N f:=by
 unfold Cf.fm Cf.bnds Cf.few at h;simp only[Bool.and_eq_true,Bool.or_eq_true,decide_eq_true_eq] at h;obtain⟨⟨⟨⟨⟨_,_⟩,s1⟩,s2⟩,f1,f2,f3,f4,f5⟩,⟨p1,p2⟩,a1,a2,a3,a4,a5⟩:=h;exact⟨⟨s1,s2⟩,f1,f2,f3,p1,p2,a1,a2,a3,a4,a5⟩
structure Pa (N:Nat)(sl:Int)(p:Pt):Prop where
 s8:p.st.len≤8
 sl:(p.sl.len:Int)=sl
 st:∀i,i<p.st.len→(p.st.ps i).ok N=true
 so:∀i,i<p.sl.len→(p.sl.ps i).zr=true∨(p.sl.ps i).ok N=true
theorem Pt.pa {N:Nat}{sl:Int}{p:Pt}(h:p.fm N sl=true):Pa N sl p:=by
 unfold Pt.fm at h;simp only[Bool.and_eq_true,Bool.or_eq_true,decide_eq_true_eq] at h;obtain⟨⟨⟨⟨h1,h2⟩,_⟩,h4⟩,h5⟩:=h;exact⟨h1,h2,h4,h5⟩
theorem In.rng {N:Nat}{x:In}(h:x.fm N=true):(1≤x.op∧x.op≤27)∧(x.op=20→x.t.ok N=true):=by
 unfold In.fm at h;simp only[Bool.and_eq_true,decide_eq_true_eq] at h;refine⟨h.1,fun e=>?_⟩;have:=h.2;rw[if_pos e] at this;simp only[Bool.and_eq_true,decide_eq_true_eq] at this;exact this.2
theorem zop {c:Kl}{f:Cf}{p:Nat}(hp:p<f.cd.len)(hx:1≤(f.cd.x p).op∧(f.cd.x p).op≤27):(popV c f p).1=if (f.cd.x p).op=17 then (if btw (f.cd.x p).a 0 c.fs.len=true then ((c.fs.x (f.cd.x p).a.toNat).c.len:Int) else 0) else tkF (f.cd.x p).op:=by
 unfold popV;rw[if_neg (by omega),Int.toNat_natCast];unfold popI;rw[if_neg (by omega)];split
 ·split <;> rfl
 ·rfl
theorem okv_of {c:Kl}{f:Cf}(h:Wvf c f){p:Nat}(hp:p<f.cd.len):Okv ⟨c,f,p⟩:=by
 have F:=Cf.fa h.fm;have W:=Cf.wf h.br;obtain⟨w,hA⟩:=h.at_;have hpt:f.pt.len=f.cd.len:=W.pts;have P:=Pt.pa (F.pt p (by omega));have hx:=In.rng (F.ins p hp);obtain⟨⟨⟨_,B2⟩,B3⟩,B4⟩:=Cf.brk_zero h.br;have hN:=zop (c:=c) hp hx.1;have AP:=hA.pt.each p (by omega);have nS:∀i,i<(f.pt.x p).st.len→Sm 40 ((f.pt.x p).st.ps i):=fun i hi=>zfo (P.st i hi) (AP.st.part hi).nd;have nL:∀i,i<(f.pt.x p).sl.len→Sm 40 ((f.pt.x p).sl.ps i):=fun i hi=>by
  refine⟨(AP.sl.part hi).nd,?_⟩;rcases P.so i hi with h | h
  ·rw[zvh h];omega
  ·exact (zdm h).2
 have nh:(f.cd.x p).nhB c.fs.len c.n.len f.sl f.cd.len p=true:=by
  unfold Cf.codB Cf.codA at B2;simp only[Bool.and_eq_true,decide_eq_true_eq] at B2;exact B2.1 p hp
 have a17:(f.cd.x p).op=17→0≤(f.cd.x p).a∧(f.cd.x p).a<c.fs.len:=fun e=>by
  unfold In.nhB at nh;rw[if_neg (by omega),if_pos e] at nh;unfold btw at nh
  simpa using nh
 have a3:(f.cd.x p).op=3∨(f.cd.x p).op=4→0≤(f.cd.x p).a∧(f.cd.x p).a<f.sl:=fun e=>by
  unfold In.nhB at nh;rw[if_pos e] at nh;unfold btw at nh
  simpa using nh
 have hge:0≤(popV c f p).1∧(popV c f p).1≤16:=by
  rw[hN];split
  ·rename_i e
   have ha:=a17 e;split
   ·have:=(Cf.fa (h.fs (f.cd.x p).a.toNat (by omega)).1).cl;omega
   ·omega
  ·have:=tk_ge (f.cd.x p).op;omega
 have hn0:(popV c f p).1=((Vp.mk c f p).need:Int):=by
  show _=(((popV c f p).1.toNat:Nat):Int)
  omega
 have hnT:(f.cd.x p).op≠17→((Vp.mk c f p).need:Int)=tkF (f.cd.x p).op:=fun e=>by rw[←hn0,hN,if_neg e]
 have hn17:(f.cd.x p).op=17→(Vp.mk c f p).need=(c.fs.x (f.cd.x p).a.toNat).c.len:=fun e=>by
  have ha:=a17 e;have:((Vp.mk c f p).need:Int)=((c.fs.x (f.cd.x p).a.toNat).c.len:Int):=by rw[←hn0,hN,if_pos e,if_pos (by unfold btw;simp;omega)]
  omega
 have hop:∀k:Nat,k<28→k≠17→(f.cd.x p).op=(k:Int)→((Vp.mk c f p).need:Int)=tkL.getD k 0:=fun k hk h17 e=>by
  rw[hnT (by omega),e];unfold tkF;rw[Int.toNat_natCast]
 generalize hv:Vp.mk c f p=v at *;have vop:v.op=(f.cd.x p).op:=by rw[←hv];rfl
 have va:v.a=(f.cd.x p).a:=by rw[←hv];rfl
 have vpt:v.pt=f.pt.x p:=by rw[←hv];rfl
 have vf:v.f=f:=by rw[←hv]
 have vc:v.c=c:=by rw[←hv]
 have vp:v.p=p:=by rw[←hv]
 have vins:v.ins=f.cd.x p:=by rw[←hv];rfl
 have tkS:v.need≤v.pt.st.len→∀i,i<v.need→Sm 40 (v.tk i)∧(v.tk i).ok c.n.len=true:=fun hl i hi=>by
  have:v.left+i<(f.pt.x p).st.len:=by
   have e:v.left=v.pt.st.len - v.need:=rfl;rw[vpt] at e hl;omega
  have e:v.tk i=(f.pt.x p).st.ps (v.left+i):=by rw[←vpt];rfl
  rw[e];exact⟨nS _ this,P.st _ this⟩
 have VD:v.need≤v.pt.st.len→Vd v:=fun hl=>by
  refine⟨fun e=>?_,fun e=>?_,fun e=>?_,fun e=>?_,fun e=>?_,fun e=>?_,fun e=>?_,fun i hi=>?_,fun i hi=>?_,fun w hw=>?_,?_⟩
  ·rw[vop] at e;rcases e with e | e | e | e | e
   ·have:=hop 13 (by omega) (by omega) e;simp[tkL] at this;omega
   ·have:=hop 15 (by omega) (by omega) e;simp[tkL] at this;omega
   ·have:=hop 16 (by omega) (by omega) e;simp[tkL] at this;omega
   ·have:=hop 20 (by omega) (by omega) e;simp[tkL] at this;omega
   ·have:=hop 21 (by omega) (by omega) e;simp[tkL] at this;omega
  ·rw[vop] at e;have:=hop 14 (by omega) (by omega) e;simp[tkL] at this;omega
  ·rw[vop] at e;rcases e with e | e
   ·have:=hop 19 (by omega) (by omega) e;simp[tkL] at this;omega
   ·have q:(f.cd.x p).op=6∨(f.cd.x p).op=7∨(f.cd.x p).op=8∨(f.cd.x p).op=9∨(f.cd.x p).op=10∨(f.cd.x p).op=11∨(f.cd.x p).op=12:=by omega
    rcases q with q | q | q | q | q | q | q
    ·have:=hop 6 (by omega) (by omega) q;simp[tkL] at this;omega
    ·have:=hop 7 (by omega) (by omega) q;simp[tkL] at this;omega
    ·have:=hop 8 (by omega) (by omega) q;simp[tkL] at this;omega
    ·have:=hop 9 (by omega) (by omega) q;simp[tkL] at this;omega
    ·have:=hop 10 (by omega) (by omega) q;simp[tkL] at this;omega
    ·have:=hop 11 (by omega) (by omega) q;simp[tkL] at this;omega
    ·have:=hop 12 (by omega) (by omega) q;simp[tkL] at this;omega
  ·rw[vop] at e;rcases e with e | e | e | e | e
   ·have:=hop 4 (by omega) (by omega) e;simp[tkL] at this;omega
   ·have:=hop 23 (by omega) (by omega) e;simp[tkL] at this;omega
   ·have:=hop 25 (by omega) (by omega) e;simp[tkL] at this;omega
   ·have:=hop 26 (by omega) (by omega) e;simp[tkL] at this;omega
   ·have:=hop 27 (by omega) (by omega) e;simp[tkL] at this;omega
  ·rw[vop] at e;have:=hop 22 (by omega) (by omega) e;simp[tkL] at this;omega
  ·rw[vop] at e;have ha:=a3 e;refine⟨(f.cd.x p).a.toNat,by rw[va];omega,?_⟩
   have:=P.sl;rw[vpt];omega
  ·rw[vop] at e;have ha:=a17 e;exact⟨(f.cd.x p).a.toNat,by rw[va];omega,by rw[vc];omega,by rw[vc];exact hn17 e⟩
  ·exact ((tkS hl i hi).1.up (by omega)).2
  ·have:=ok_ar (tkS hl i hi).2;refine⟨fun e=>?_,fun e=>?_,fun e=>?_⟩
   ·rw[e] at this;simp[zaz] at this;omega
   ·rw[e] at this;simp[zaz] at this;omega
   ·rw[e] at this;simp[zaz] at this;omega
  ·rw[vf] at hw;rw[vins];exact (hw.cd.each p hp).t
  ·rw[vop];exact hx.1
 have sS:v.need≤v.pt.st.len→∀i,i<v.st0.n→Sm 1000 (v.st0.x i):=fun hl i hi=>by
  have e:v.st0.x i=(f.pt.x p).st.ps i:=by rw[←vpt];rfl
  have e2:v.left=v.pt.st.len - v.need:=rfl;have e3:v.st0.n=v.left:=rfl;rw[e];rw[vpt] at e2;exact (nS i (by omega)).up (by omega)
 have sL:∀i,i<v.sl0.n→Sm 1000 (v.sl0.x i):=fun i hi=>by
  have e:v.sl0.x i=(f.pt.x p).sl.ps i:=by rw[←vpt];rfl
  have e3:v.sl0.n=(f.pt.x p).sl.len:=by rw[←vpt];rfl
  rw[e];exact (nL i (by omega)).up (by omega)
 have sG:∀i,i<c.fs.len→Sm 100 (v.sigT (c.fs.x i)):=fun i hi=>by
  obtain⟨h1,w',h2⟩:=h.fs i hi;have FF:=Cf.fa h1;exact zr6 (f:=(c.fs.x i).fn) (zfo FF.p h2.p.nd) (zfo FF.r h2.r.nd)
 have sF:Sm 100 (v.sigT v.f):=by
  rw[vf];exact zr6 (f:=f.fn) (zfo F.p hA.p.nd) (zfo F.r hA.r.nd)
 have sM:v.need≤v.pt.st.len→Sm 100 v.makT.1:=fun hl=>by
  have D:=VD hl;have L:∀k l,Sm 100 (zaa k l):=fun k l=>zik k l (by omega);have T:∀i,i<v.need→Sm 40 (v.tk i):=fun i hi=>(tkS hl i hi).1;have PT:∀i j,i<v.need→j<(v.tk i).len→Sm 100 ((v.tk i).ps j):=fun i j hi hj=>(zw4 (T i hi) hj).up (by omega);unfold Vp.makT;by_cases o1:v.op=1
  ·rw[if_pos o1];exact L _ _
  rw[if_neg o1];by_cases o2:v.op=2
  ·rw[if_pos o2];exact L _ _
  rw[if_neg o2];by_cases o3:v.op=3
  ·rw[if_pos o3];obtain⟨na,e,hna⟩:=D.a3 (Or.inl o3);show Sm 100 (v.pt.sl.ps v.a.toNat)
   rw[e,Int.toNat_natCast,vpt];rw[vpt] at hna;exact (nL na hna).up (by omega)
  rw[if_neg o3];by_cases o:v.op=13
  ·rw[if_pos o];exact zwk (by omega) ((T 0 (D.n1 (Or.inl o))).up (by omega))
  rw[if_neg o];clear o;by_cases o:v.op=14
  ·rw[if_pos o];have:=D.n2 o;exact zsk (T 0 (by omega)) (T 1 (by omega)) (by omega)
  rw[if_neg o];clear o;by_cases o:v.op=15
  ·rw[if_pos o];have hn:=D.n1 (Or.inr (Or.inl o));show Sm 100 (v.sideT 0)
   unfold Vp.sideT;by_cases hk:((v.tk 0).k != 3)=true
   ·rw[if_pos hk];exact L _ _
   ·rw[if_neg hk];have hk3:(v.tk 0).k=3:=by simpa using hk
    exact zc4 (by omega) (PT 0 0 hn (by rw[(D.ar 0 hn).1 hk3];omega))
  rw[if_neg o];clear o;by_cases o:v.op=16
  ·rw[if_pos o];have hn:=D.n1 (Or.inr (Or.inr (Or.inl o)));show Sm 100 (v.sideT 1)
   unfold Vp.sideT;by_cases hk:((v.tk 0).k != 3)=true
   ·rw[if_pos hk];exact L _ _
   ·rw[if_neg hk];have hk3:(v.tk 0).k=3:=by simpa using hk
    exact zc4 (by omega) (PT 0 1 hn (by rw[(D.ar 0 hn).1 hk3];omega))
  rw[if_neg o];clear o;by_cases o:v.op=17
  ·rw[if_pos o];obtain⟨na,e,hna,_⟩:=D.a17 o;show Sm 100 v.closT
   unfold Vp.closT;by_cases hk:v.capsB=true
   ·rw[if_pos hk,e,Int.toNat_natCast,vc];rw[vc] at hna;exact sG na hna
   ·rw[if_neg hk];exact L _ _
  rw[if_neg o];clear o;by_cases o:v.op=18
  ·rw[if_pos o];exact sF
  rw[if_neg o];clear o;by_cases o:v.op=19
  ·rw[if_pos o];have hn:=D.n3 (Or.inl o);show Sm 100 v.callT.1
   unfold Vp.callT;by_cases hk:((v.tk 0).k != 4||!(v.blw (v.tk 1) ((v.tk 0).ps 0)))=true
   ·rw[if_pos hk];exact L _ _
   rw[if_neg hk];have hk4:(v.tk 0).k=4:=by
    simp only[Bool.or_eq_true,bne_iff_ne,ne_eq,not_or] at hk;exact Classical.not_not.1 hk.1
   by_cases hq:(v.leq v.lab (v.tk 0).h&&v.leq v.f.h (v.tk 0).h)=true
   ·rw[if_pos hq];exact zc4 (by omega) (PT 0 1 (by omega) (by rw[(D.ar 0 (by omega)).2.1 hk4];omega))
   ·rw[if_neg hq];exact L _ _
  rw[if_neg o];clear o;by_cases o:v.op=20
  ·rw[if_pos o];show Sm 100 v.cellT
   unfold Vp.cellT;by_cases hk:v.blw (v.tk 0) v.ins.t=true
   ·rw[if_pos hk];have h20:(f.cd.x p).op=20:=by rw[←vop];exact o
    have:Sm 40 v.ins.t:=by rw[vins];exact zfo (hx.2 h20) (hA.cd.each p hp).t.nd
    exact sm_mk1 this (by omega)
   ·rw[if_neg hk];exact L _ _
  rw[if_neg o];clear o;by_cases o:v.op=21
  ·rw[if_pos o];have hn:=D.n1 (Or.inr (Or.inr (Or.inr (Or.inr o))));show Sm 100 v.heldT
   unfold Vp.heldT;by_cases hk:((v.tk 0).k != 5)=true
   ·rw[if_pos hk];exact L _ _
   ·rw[if_neg hk];have hk5:(v.tk 0).k=5:=by simpa using hk
    exact zc4 (by omega) (PT 0 0 hn (by rw[(D.ar 0 hn).2.2 hk5];omega))
  rw[if_neg o];show Sm 100 v.reckT.1
  unfold Vp.reckT;by_cases hk:((v.tk 0).k != 1||(v.tk 1).k != 1)=true
  ·rw[if_pos hk];exact L _ _
  ·rw[if_neg hk];exact L _ _
 have SS:v.need≤v.pt.st.len→(∀i,i<v.done.st.n→Sm 1000 (v.done.st.x i))∧∀i,i<v.done.sl.n→Sm 1000 (v.done.sl.x i):=fun hl=>by
  have D:=VD hl;have lift:∀k,∀i,i<v.st0.n→Sm 1000 ((v.st0.lift v.c.n v.c.g k).x i):=fun k i hi=>zc4 (by omega) (sS hl i hi);unfold Vp.done;by_cases o:v.op=4
  ·rw[if_pos o];refine⟨sS hl,fun i hi=>?_⟩;show Sm 1000 (if i=v.a.toNat then v.raise (v.tk 0) v.env else v.sl0.x i)
   by_cases hi2:i=v.a.toNat
   ·rw[if_pos hi2];exact zc4 (by omega) ((tkS hl 0 (D.n4 (Or.inl o))).1.up (by omega))
   ·rw[if_neg hi2];exact sL i hi
  rw[if_neg o];clear o;by_cases o:v.op=5∨v.op=24
  ·rw[if_pos o];exact⟨sS hl,sL⟩
  rw[if_neg o];clear o;by_cases o:v.op=22
  ·rw[if_pos o];exact⟨sS hl,sL⟩
  rw[if_neg o];clear o;by_cases o:v.op=23
  ·rw[if_pos o];exact⟨sS hl,sL⟩
  rw[if_neg o];clear o;by_cases o:v.op=25
  ·rw[if_pos o];exact⟨lift _,sL⟩
  rw[if_neg o];clear o;by_cases o:v.op=26
  ·rw[if_pos o];exact⟨sS hl,sL⟩
  rw[if_neg o];clear o;by_cases o:v.op=27
  ·rw[if_pos o];exact⟨sS hl,sL⟩
  rw[if_neg o];refine⟨fun i hi=>?_,sL⟩;unfold Vp.mkD at hi ⊢;have rs:Sm 1000 (v.raise v.makT.1 (v.both v.env v.makT.2)):=zc4 (by omega) ((sM hl).up (by omega));have:∀s:Tq,s.n=v.st0.n→(∀i,i<s.n→Sm 1000 (s.x i))→i<(s.push (v.raise v.makT.1 (v.both v.env v.makT.2))).n→Sm 1000 ((s.push (v.raise v.makT.1 (v.both v.env v.makT.2))).x i):=fun s hs hx hi=>by
   show Sm 1000 (if i=s.n then v.raise v.makT.1 (v.both v.env v.makT.2) else s.x i)
   by_cases ne:i=s.n
   ·rw[if_pos ne];exact rs
   ·rw[if_neg ne];have:i<s.n+1:=hi;exact hx i (by omega)
  refine this _ ?_ ?_ hi
  ·split <;> rfl
  ·split
   ·exact sS hl
   ·exact lift _
 refine⟨?_,?_,?_,?_,?_,?_,VD,?_,?_,?_,fun hl=>(SS hl).1,fun hl=>(SS hl).2,?_,?_,?_,?_⟩
 ·rw[vf];exact hpt
 ·rw[vpt];have:=P.s8;omega
 ·rw[vpt];have:=P.sl;have:=F.sl;omega
 ·rw[vpt];exact h.cap p (by omega)
 ·rw[vc,vf,vp];exact hn0
 ·omega
 ·rw[vf];have:=F.cd;omega
 ·rw[vf,vpt];intro q hq;have:=P.sl;have:=(Pt.pa (F.pt q hq)).sl;omega
 ·rw[vpt];intro i hi;have:=(nL i hi).2;exact Nat.le_trans zea (by omega)
 ·rw[vf,vp];intro hh;unfold Cf.han at hh ⊢;cases e:(List.range f.hd.len).find? (f.hit p) with
  | none=>rw[e] at hh;exact absurd rfl hh
  | some i =>
   have hi:i<f.hd.len:=by
    have:=List.mem_of_find?_eq_some e
    simpa using this
   have h1:=W.han i hi;have h2:=F.han i hi;unfold Hn.fm shB at h2;simp only[Bool.and_eq_true,decide_eq_true_eq] at h2;exact⟨(f.hd.x i).at_.toNat,by show (f.hd.x i).at_=_;omega,by omega⟩
 ·rw[vf];exact⟨fun i hi ho=>(W.jmp i hi ho).1,fun i hi=>(W.han i hi).1,F.cd⟩
 ·rw[vf];have:=F.hd;omega
 ·rw[vf];intro i hi j hj;unfold Cf.regB at B4;simp only[decide_eq_true_eq] at B4;have h1:=(B4 i hi).2;unfold Rn.plcB at h1;simp only[decide_eq_true_eq] at h1;have h2:=(h1 j hj).1.2;have h3:=F.rg i hi;unfold Rn.fm at h3;simp only[Bool.and_eq_true,decide_eq_true_eq] at h3;have h4:=h3.2 j hj;unfold shB at h4;simp only[Bool.and_eq_true,decide_eq_true_eq] at h4;exact⟨((f.rg.x i).ps.x j).toNat,by omega,by omega⟩
theorem okf_of {c:Kl}{f:Cf}(h:Wvf c f):Okf c f:=by
 have F:=Cf.fa h.fm;have W:=Cf.wf h.br;obtain⟨w,hA⟩:=h.at_;obtain⟨⟨⟨B1,_⟩,_⟩,_⟩:=Cf.brk_zero h.br;unfold Cf.cntB at B1;simp only[Bool.and_eq_true,decide_eq_true_eq] at B1;have s:=F.sl;refine⟨by omega,by omega,by omega,by omega,?_,fun i hi=>?_,fun p hp=>okv_of h hp⟩
 ·have:=(Pt.pa (F.pt 0 (by omega))).sl;omega
 ·have:Sm 40 (f.begSl.x i):=by
   show Sm 40 (if i=0 then f.p else if i - 1<f.c.len then f.c.ps (i - 1) else zaa 0 0)
   split
   ·exact zfo F.p hA.p.nd
   split
   ·rename_i hk
    exact zfo (F.c _ hk) (hA.c.part hk).nd
   ·exact zik _ _ (by omega)
  exact Nat.le_trans zea (Nat.le_trans this.2 (by omega))
theorem Kl.wvf {c:Kl}{w:World}(hc:c.At w)(hf:c.fm=true)(hb:∀i,i<c.fs.len→c.brk i=0)(hcap:∀i,i<c.fs.len→∀p,p<(c.fs.x i).pt.len→((c.fs.x i).pt.x p).st.len≤((c.fs.x i).pt.x p).st.cap){k:Nat}(hk:k<c.fs.len):Wvf c (c.fs.x k):=by
 unfold Kl.fm at hf;simp only[Bool.and_eq_true,decide_eq_true_eq] at hf;exact⟨hf.2.2 k hk,hb k hk,⟨w,hc.fs.each k hk⟩,hcap k hk,fun i hi=>⟨hf.2.2 i hi,w,hc.fs.each i hi⟩⟩
theorem VkR.of_ch {c:Kl}{k r e:Int}(h:ChR c k r e)(he:e≠0):VkR c k (-1) e :=
 ⟨fun hf=>⟨⟨(h.form hf).1.1,rfl⟩,(h.form hf).2⟩,fun hf j hj h1 h2=>⟨⟨(h.bad hf j hj h1 h2).1.1,rfl⟩,(h.bad hf j hj h1 h2).2⟩,fun hf hb=>absurd (h.ok hf hb).2 he,fun hf hb=>absurd (h.ok hf hb).2 he⟩
theorem VkR.at_ {c:Kl}(hf:c.fm=true)(hb:∀i,i<c.fs.len→c.brk i=0){j:Nat}(hj:j<c.fs.len)(h1:c.ref j≠-1)(h2:∀i,i<j→c.ref i=-1):VkR c j (c.ref j) 11 :=
 ⟨fun h=>(by rw[hf] at h;cases h),fun _ i hi h=>absurd (hb i hi) h,fun _ _ k hk k1 k2=>by
  have:k=j:=by
   rcases Nat.lt_trichotomy k j with h4 | h4 | h4
   ·exact absurd (h2 k h4) k1
   ·exact h4
   ·exact absurd (k2 j h4) h1
  subst this;exact⟨⟨rfl,rfl⟩,rfl⟩,fun _ _ h=>absurd (h j hj) h1⟩
theorem VkR.all {c:Kl}(hf:c.fm=true)(hb:∀i,i<c.fs.len→c.brk i=0)(h2:∀i,i<c.fs.len→c.ref i=-1):VkR c 0 0 0 :=
 ⟨fun h=>(by rw[hf] at h;cases h),fun _ i hi h=>absurd (hb i hi) h,fun _ _ j hj h=>absurd (h2 j hj) h,fun _ _ _=>⟨⟨rfl,rfl⟩,rfl⟩⟩
theorem zcf {N a:Nat}(h:a<N):inR N (a:Int)=true:=by
 unfold inR;simp
 exact h
theorem jn_up {n:Strs}{g:Grid}{a b:Nat}(hF:zae n g=true)(ha:a<n.len)(hb:b<n.len)(h:Lq g a b):Jn g a b=b:=jn_eq hF ha hb ⟨hb,h,zbs hF hb,fun _ _ _ h=>h⟩
theorem jn_dn {n:Strs}{g:Grid}{a b:Nat}(hF:zae n g=true)(ha:a<n.len)(hb:b<n.len)(h:Lq g a b):Jn g b a=b:=jn_eq hF hb ha ⟨hb,zbs hF hb,h,fun _ _ h _=>h⟩
theorem zw3 {n:Strs}{g:Grid}{a:Nat}(hF:zae n g=true)(ha:a<n.len):zan n g a (-1)=a:=by
 unfold zan;rw[if_pos rfl,if_neg (by omega),zfr hF ha ha,jn_up hF ha ha (zbs hF ha)]
theorem zhm {n:Strs}{g:Grid}{a e:Nat}(hF:zae n g=true)(ha:a<n.len)(he:e<n.len):zak n g (zaa 1 a) e=zaa 1 (Jn g a e:Nat):=by
 unfold zak okB;rw[hF,zdd _ _ (zcf ha),zcf he];show (zaa 1 a).setL (zb3 n g a e)=_
 rw[zfr hF ha he];rfl
theorem zf8 {n:Strs}{g:Grid}{a b:Nat}(hF:zae n g=true)(ha:a<n.len)(hb:b<n.len):blw n g (zaa 1 a) (zaa 1 b)=g.B a b:=by
 unfold blw;by_cases e:a=b
 ·subst e;rw[zaj,show g.B a a=true from zbs hF ha];rfl
 ·have h1:(zaa 1 (a:Int)).same (zaa 1 (b:Int))=false:=by
   cases h:(zaa 1 (a:Int)).same (zaa 1 (b:Int))
   ·rfl
   ·unfold zaa at h;rw[za4] at h;have:(a:Int)=b:=h.1.2.1;omega
  rw[h1];unfold belB;rw[hF,zdd _ _ (zcf ha),zdd _ _ (zcf hb)];show (false||((true&&(true&&true))&&((((1:Int)==1)&&g.B (a:Int).toNat (b:Int).toNat)&&true)))=g.B a b
  simp
theorem zo2 {n:Strs}{g:Grid}{a b:Nat}(hF:zae n g=true)(ha:a<n.len)(hb:b<n.len):slB n g (zaa 1 a) (zaa 1 b)=g.B a b:=by
 unfold slB;rw[zf8 hF ha hb];rfl
theorem zwi (n:Strs)(g:Grid):I64 (botI n g):=by
 cases hF:zae n g
 ·unfold botI;rw[hF,if_neg Bool.noConfusion];exact⟨by decide,by decide⟩
 ·obtain⟨m,hm,hm1,_⟩:=znl hF;have:=(zas hF).2.2.1;rw[hm];exact⟨by omega,by omega⟩
theorem zv2 (n:Strs)(g:Grid):I64 (topI n g):=by
 cases hF:zae n g
 ·unfold topI;rw[hF,if_neg Bool.noConfusion];exact⟨by decide,by decide⟩
 ·obtain⟨m,hm,hm1,_⟩:=zre hF;have:=(zas hF).2.2.1;rw[hm];exact⟨by omega,by omega⟩
def stCf (p r:Ty)(h x:Int)(cd:Rw In)(pt:Rw Pt):Cf:=⟨p,r,zaa 0 0,h,x,1,cd,zgg ⟨0,0,0⟩,pt,zgg ⟨0,0,zgg 0⟩⟩
def stKl (n:Strs)(g:Grid)(b:Nat)(f:Cf):Kl:=⟨n,g,⟨some ⟨b,0,none⟩,b,0,1,1,fun _=>f⟩⟩
structure StP (p:Ty)(e:Int)(n:Nat)(S:Nat→Ty)(pt:Rw Pt):Prop where
 len:pt.len=n
 st:∀i,i<n→(pt.x i).st=S i
 sl:∀i,i<n→(pt.x i).sl.len=1∧(pt.x i).sl.ps 0=p
 env:∀i,i<n→(pt.x i).env=e
structure StG (n:Strs)(g:Grid)(a b e:Nat)(cd:Rw In)(S:Nat→Ty):Prop where
 fd:zae n g=true
 a:a<n.len
 b:b<n.len
 e:e<n.len
 pos:0<cd.len
 few:cd.len≤2000
 ins:∀i,i<cd.len→(cd.x i).fm n.len=true
 ok:∀i,i<cd.len→(cd.x i).nhB 1 n.len 1 cd.len i=true
 last:(cd.x (cd.len - 1)).op=27
 s8:∀i,i<cd.len→(S i).len≤8
 st:∀i,i<cd.len→∀j,j<(S i).len→((S i).ps j).ok n.len=true
section
variable {n:Strs} {g:Grid} {a b e:Nat} {cd:Rw In} {S:Nat→Ty} {pt:Rw Pt} {bk:Nat}
theorem st_fm (h:StG n g a b e cd S)(hp:StP (zaa 1 a) e cd.len S pt):(stKl n g bk (stCf (zaa 1 a) (zaa 1 b) (botI n g) (topI n g) cd pt)).fm=true:=by
 obtain⟨m,hm,hm1,_⟩:=znl h.fd;obtain⟨t,ht,ht1,_⟩:=zre h.fd;unfold Kl.fm;show (zae n g&&_)=true
 rw[h.fd];simp only[Bool.true_and,Bool.and_eq_true,decide_eq_true_eq];refine⟨⟨Nat.le_refl _,by show 1≤60;omega⟩,fun i _=>?_⟩
 show (stCf (zaa 1 a) (zaa 1 b) (botI n g) (topI n g) cd pt).fm n.len=true
 rw[hm,ht];unfold Cf.fm Cf.few Cf.bnds;simp only[Bool.and_eq_true,Bool.or_eq_true,decide_eq_true_eq];refine⟨⟨⟨⟨⟨zcf hm1,Or.inr (zcf ht1)⟩,by show (1:Int)≤1;omega⟩,by show (1:Int)≤250;omega⟩,by show 0≤16;omega,h.few,by show 0≤2000;omega,by show pt.len≤2000;rw[hp.len];exact h.few,by show 0≤2000;omega⟩,⟨zdd _ _ (zcf h.a),zdd _ _ (zcf h.b)⟩,fun i hi=>absurd hi (Nat.not_lt_zero _),h.ins,fun i hi=>?_,fun i hi=>absurd hi (Nat.not_lt_zero _),fun i hi=>absurd hi (Nat.not_lt_zero _)⟩
 have hi':i<cd.len:=by rw[←hp.len];exact hi
 show (pt.x i).fm n.len 1=true
 unfold Pt.fm;rw[hp.st i hi',hp.env i hi',(hp.sl i hi').1];simp only[Bool.and_eq_true,Bool.or_eq_true,decide_eq_true_eq];refine⟨⟨⟨⟨h.s8 i hi',rfl⟩,zcf h.e⟩,h.st i hi'⟩,fun j hj=>Or.inr ?_⟩;have:j=0:=by omega
 rw[this,(hp.sl i hi').2];exact zdd _ _ (zcf h.a)
theorem zta (h:StG n g a b e cd S)(hp:StP (zaa 1 a) e cd.len S pt):(stCf (zaa 1 a) (zaa 1 b) (botI n g) (topI n g) cd pt).brk 1 n.len=0:=by
 refine Cf.brk_of ?_ ?_ (decide_eq_true fun i hi=>absurd hi (Nat.not_lt_zero _)) (decide_eq_true fun i hi=>absurd hi (Nat.not_lt_zero _))
 ·unfold Cf.cntB;simp only[Bool.and_eq_true,decide_eq_true_eq];exact⟨⟨h.pos,hp.len⟩,by show ((0:Nat):Int)<1;omega⟩
 ·unfold Cf.codB Cf.codA zj8;simp only[Bool.and_eq_true,Bool.or_eq_true,decide_eq_true_eq];exact⟨h.ok,Or.inl h.last⟩
end
theorem zm3 (f:Cf)(p:Int):f.bare.han p=-1:=Cf.han_miss fun i hi=>absurd hi (Nat.not_lt_zero i)
theorem zle {v:Vp}(ho:nxO v.op=true)(h1:v.op≠24)(h2:v.op≠25)(hp:v.p+1<v.f.cd.len):v.goesB=v.fit v.done.st v.done.sl (v.p+1):=by
 have hm:∀a,a ∈ v.f.bare.ws noBl v.p↔a=((v.p+1:Nat):Int):=fun a=>by
  rw[zfa]
  constructor
  ·rintro ⟨q,rfl,hq,h | h | h⟩
   ·rw[h.1]
   ·rcases h.1 with h | h
    ·exact absurd h h1
    ·exact absurd h h2
   ·have:=h.2;rw[zm3] at this;omega
  ·rintro rfl;exact⟨_,rfl,hp,Or.inl ⟨rfl,ho⟩⟩
 unfold Vp.goesB;rw[Bool.eq_iff_iff];simp only[decide_eq_true_eq]
 constructor
 ·intro h;have:=h _ ((hm _).2 rfl);rw[Int.toNat_natCast] at this;exact this
 ·intro h a ha;rw[(hm a).1 ha,Int.toNat_natCast];exact h
theorem zk2 {v:Vp}(ho:v.op=27):v.goesB=true:=by
 have e:(v.f.cd.x v.p).op=27:=ho;unfold Vp.goesB;simp only[decide_eq_true_eq];intro a ha;obtain⟨q,rfl,hq,h | h | h⟩:=zfa.1 ha
 ·have h3:nxO (v.f.cd.x v.p).op=true:=h.2;rw[e] at h3;exact absurd h3 (by decide)
 ·have h3:(v.f.cd.x v.p).op=24∨(v.f.cd.x v.p).op=25:=h.1;omega
 ·have:=h.2;rw[zm3] at this;omega
theorem zfs {v:Vp}(hn:v.need≤v.pt.st.len)(hk:v.done.k=-1)(hp:v.done.p=-1):v.acc=(v.done.ok&&v.goesB):=by
 unfold Vp.acc Vp.caughtB Vp.contB;rw[decide_eq_true hn,if_pos hp,if_pos hk];simp
theorem zh5 {v:Vp}(hp:v.p<v.f.cd.len)(hr:1≤v.op∧v.op≤27)(h17:v.op≠17):v.need=(tkF v.op).toNat:=by
 have:(popV v.c v.f v.p).1=tkF v.op:=by
  rw[zop (c:=v.c) hp hr];exact if_neg h17
 show (popV v.c v.f v.p).1.toNat=_
 rw[this]
theorem zs4 {v:Vp}(ho:v.op=3):v.done=⟨true,v.st0.push (v.raise (v.pt.sl.ps v.a.toNat) (v.both v.env (-1))),v.sl0,-1,-1⟩:=by
 have hm:v.makT=(v.pt.sl.ps v.a.toNat,-1):=by
  unfold Vp.makT;rw[if_neg (by omega),if_neg (by omega),if_pos ho]
 unfold Vp.done;rw[if_neg (by omega),if_neg (by omega),if_neg (by omega),if_neg (by omega),if_neg (by omega),if_neg (by omega),if_neg (by omega)];unfold Vp.mkD;rw[hm,if_pos rfl]
theorem zun {v:Vp}(ho:v.op=23):v.done=⟨v.outB,v.st0,v.sl0,-1,-1⟩:=by
 unfold Vp.done;rw[if_neg (by omega),if_neg (by omega),if_neg (by omega),if_pos ho]
theorem zny {v:Vp}(ho:v.op=27):v.done=⟨decide (v.left=0)&&v.blw (v.raise (v.tk 0) v.env) v.f.r,v.st0,v.sl0,-1,-1⟩:=by
 unfold Vp.done;rw[if_neg (by omega),if_neg (by omega),if_neg (by omega),if_neg (by omega),if_neg (by omega),if_neg (by omega),if_pos ho]
section
variable {n:Strs} {g:Grid} {a b e:Nat} {cd:Rw In} {S:Nat→Ty} {pt:Rw Pt} {bk p:Nat}
theorem zm4 (h:StG n g a b e cd S)(hp:StP (zaa 1 a) e cd.len S pt){i j:Nat}(hi:i<cd.len)(hj:j<cd.len):∀k,k<(pt.x i).sl.len→slB n g ((pt.x i).sl.ps k) ((pt.x j).sl.ps k)=true:=fun k hk=>by
 have:k=0:=by rw[(hp.sl i hi).1] at hk;omega
 rw[this,(hp.sl i hi).2,(hp.sl j hj).2,zo2 h.fd h.a h.a];exact zbs h.fd h.a
theorem zjf (h:StG n g a b e cd S)(hp:StP (zaa 1 a) e cd.len S pt)(hq:p+1<cd.len)(ho:(cd.x p).op=3)(ha0:(cd.x p).a=0)(h0:(S p).len=0) :
  (Vp.mk (stKl n g bk (stCf (zaa 1 a) (zaa 1 b) (botI n g) (topI n g) cd pt)) (stCf (zaa 1 a) (zaa 1 b) (botI n g) (topI n g) cd pt) p).acc=(decide (1=(S (p+1)).len)&&blw n g (zaa 1 (Jn g a e:Nat)) ((S (p+1)).ps 0)):=by
 generalize hv:Vp.mk (stKl n g bk (stCf (zaa 1 a) (zaa 1 b) (botI n g) (topI n g) cd pt)) (stCf (zaa 1 a) (zaa 1 b) (botI n g) (topI n g) cd pt) p=v;have o1:v.op=3:=by rw[←hv];exact ho
 have hpt:v.pt=pt.x p:=by rw[←hv];rfl
 have hst:v.pt.st.len=0:=by rw[hpt,hp.st p (by omega)];exact h0
 have hcd:v.f.cd=cd:=by rw[←hv];rfl
 have hvp:v.p=p:=by rw[←hv]
 have hn:v.need=0:=by
  rw[zh5 (by rw[hcd,hvp];omega) (by omega) (by omega),o1]
  rfl
 have hD:=zs4 o1;have hx:v.raise (v.pt.sl.ps v.a.toNat) (v.both v.env (-1))=zaa 1 (Jn g a e:Nat):=by
  have e1:v.a=0:=by rw[←hv];exact ha0
  have e2:v.env=e:=by rw[←hv];exact hp.env p (by omega)
  rw[e1,e2,hpt,show (0:Int).toNat=0 from rfl,(hp.sl p (by omega)).2];have e3:v.both (e:Int) (-1)=e:=by rw[←hv];exact zw3 h.fd h.e
  rw[e3];rw[←hv];exact zhm h.fd h.a h.e
 rw[hx] at hD;rw[zfs (by omega) (by rw[hD]) (by rw[hD]),zle (by rw[o1];rfl) (by omega) (by omega) (by rw[hcd,hvp];exact hq),hD]
 have hl:v.left=0:=by show v.pt.st.len - v.need=0;omega
 show (true&&fitP v.c.n v.c.g (v.f.pt.x (v.p+1)) (v.st0.push (zaa 1 (Jn g a e:Nat))) v.sl0)=_
 have hc:v.c.n=n∧v.c.g=g:=by rw[←hv];exact⟨rfl,rfl⟩
 have hfp:v.f.pt=pt:=by rw[←hv];rfl
 rw[hc.1,hc.2,hfp,hvp];unfold fitP;rw[hp.st (p+1) hq];have s1:decide (∀i,i<v.sl0.n→slB n g (v.sl0.x i) ((pt.x (p+1)).sl.ps i)=true)=true:=decide_eq_true fun i hi=>by
  have e1:v.sl0.x i=(pt.x p).sl.ps i:=by rw[←hpt];rfl
  have e2:v.sl0.n=(pt.x p).sl.len:=by rw[←hpt];rfl
  rw[e1];exact zm4 h hp (by omega) hq i (by omega)
 have s2:(v.st0.push (zaa 1 (Jn g a e:Nat))).n=1:=by show v.left+1=1;omega
 have s3:(v.st0.push (zaa 1 (Jn g a e:Nat))).x 0=zaa 1 (Jn g a e:Nat):=by
  show (if 0=v.left then zaa 1 (Jn g a e:Nat) else v.pt.st.ps 0)=_
  rw[if_pos hl.symm]
 have s4:decide (∀i,i<(v.st0.push (zaa 1 (Jn g a e:Nat))).n→blw n g ((v.st0.push (zaa 1 (Jn g a e:Nat))).x i) ((S (p+1)).ps i)=true)=blw n g (zaa 1 (Jn g a e:Nat)) ((S (p+1)).ps 0):=by
  rw[Bool.eq_iff_iff];simp only[decide_eq_true_eq];rw[s2]
  constructor
  ·intro k;have:=k 0 (by omega);rw[s3] at this;exact this
  ·intro k i hi;have:i=0:=by omega
   rw[this,s3];exact k
 rw[s1,s4,s2];simp
theorem zw2 (h:StG n g a b e cd S)(hp:StP (zaa 1 a) e cd.len S pt)(hq:p<cd.len)(ho:(cd.x p).op=27)(h0:(S p).len=1){m:Nat}(hm:m<n.len)(hS:(S p).ps 0=zaa 1 m) :
  (Vp.mk (stKl n g bk (stCf (zaa 1 a) (zaa 1 b) (botI n g) (topI n g) cd pt)) (stCf (zaa 1 a) (zaa 1 b) (botI n g) (topI n g) cd pt) p).acc=g.B (Jn g m e) b:=by
 generalize hv:Vp.mk (stKl n g bk (stCf (zaa 1 a) (zaa 1 b) (botI n g) (topI n g) cd pt)) (stCf (zaa 1 a) (zaa 1 b) (botI n g) (topI n g) cd pt) p=v;have o1:v.op=27:=by rw[←hv];exact ho
 have hpt:v.pt=pt.x p:=by rw[←hv];rfl
 have hst:v.pt.st.len=1:=by rw[hpt,hp.st p (by omega)];exact h0
 have hcd:v.f.cd=cd:=by rw[←hv];rfl
 have hvp:v.p=p:=by rw[←hv]
 have hn:v.need=1:=by
  rw[zh5 (by rw[hcd,hvp];omega) (by omega) (by omega),o1]
  rfl
 have hD:=zny o1;rw[zfs (by omega) (by rw[hD]) (by rw[hD]),zk2 o1,hD];have hl:v.left=0:=by show v.pt.st.len - v.need=0;omega
 show ((decide (v.left=0)&&v.blw (v.raise (v.tk 0) v.env) v.f.r)&&true)=_
 rw[decide_eq_true hl];have et:v.tk 0=zaa 1 m:=by
  show v.pt.st.ps (v.left+0)=_
  rw[hl,hpt,hp.st p hq];exact hS
 have ee:v.env=e:=by rw[←hv];exact hp.env p hq
 have er:v.f.r=zaa 1 b:=by rw[←hv];rfl
 have e1:v.raise (zaa 1 m) e=zaa 1 (Jn g m e:Nat):=by rw[←hv];exact zhm h.fd hm h.e
 rw[et,ee,er,e1];have:v.blw (zaa 1 (Jn g m e:Nat)) (zaa 1 b)=g.B (Jn g m e) b:=by rw[←hv];exact zf8 h.fd (zmb h.fd hm h.e) h.b
 rw[this];simp
theorem zrz (h:StG n g a b e cd S)(hp:StP (zaa 1 a) e cd.len S pt)(h0:(S 0).len=0):(stCf (zaa 1 a) (zaa 1 b) (botI n g) (topI n g) cd pt).begB (stKl n g bk (stCf (zaa 1 a) (zaa 1 b) (botI n g) (topI n g) cd pt))=true:=by
 have hpos:=h.pos;show fitP n g (pt.x 0) ⟨0,fun _=>.dm⟩ (stCf (zaa 1 a) (zaa 1 b) (botI n g) (topI n g) cd pt).begSl=true
 unfold fitP;rw[hp.st 0 hpos];simp only[Bool.and_eq_true,decide_eq_true_eq];refine⟨⟨h0.symm,fun i hi=>absurd hi (Nat.not_lt_zero i)⟩,fun i hi=>?_⟩;have:i=0:=by have:i<(1:Int).toNat:=hi;omega
 rw[this,(hp.sl 0 hpos).2];show slB n g (zaa 1 a) (zaa 1 a)=true
 rw[zo2 h.fd h.a h.a];exact zbs h.fd h.a
end
theorem VkR.st {n:Strs}{g:Grid}{bk:Nat}{f:Cf}{k m x:Int}(h:VkR (stKl n g bk f) k m x)(hf:(stKl n g bk f).fm=true)(hb:f.brk 1 n.len=0):(f.ref (stKl n g bk f)=-1→(k=0∧m=0)∧x=0)∧(f.ref (stKl n g bk f)≠-1→(k=0∧m=f.ref (stKl n g bk f))∧x=11):=by
 have hb':∀i,i<(stKl n g bk f).fs.len→(stKl n g bk f).brk i=0:=fun _ _=>hb;refine⟨fun hr=>h.ok hf hb' (fun _ _=>hr),fun hr=>?_⟩;have:=h.no hf hb' 0 (by show 0<1;omega) hr (fun i hi=>absurd hi (Nat.not_lt_zero i))
 exact this
theorem zgb {N:Nat}{a:Int}(h:inR N a=true):∃k:Nat,a=k∧k<N:=by
 unfold inR at h;simp only[Bool.and_eq_true,decide_eq_true_eq] at h;exact⟨a.toNat,by omega,by omega⟩
end
end Go.Proofs.YtfobijdkoeifjaaGreatDoor
