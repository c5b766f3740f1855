import Derived.Test.YtfobijdkoeifjaaGreatDoorP38
import Derived.Test.YtfobijdkoeifjaaGreatDoorP40
import Derived.Test.YtfobijdkoeifjaaGreatDoorP20
import Derived.Deep.CutBlock
import Derived.Deep.DeepCutAuto
import Derived.BigQuiet
set_option maxRecDepth 100000
set_option maxHeartbeats 32000000
namespace Go.Proofs.YtfobijdkoeifjaaGreatDoor
section
open Go Go.RowKit
theorem zkv {f:Cf}(h:f.regB=true){i:Nat}:∀{d:Nat},i+d+1<f.rg.len→(f.rg.x i).at_<(f.rg.x (i+d+1)).at_
 | 0,hi=>by
  unfold Cf.regB at h;simp only[decide_eq_true_eq] at h;exact (h (i+1) hi).1.1.1
 | d+1,hi=>by
  have h1:=zkv h (i:=i) (d:=d) (by omega);unfold Cf.regB at h;simp only[decide_eq_true_eq] at h;have h2:(f.rg.x (i+d+1)).at_<(f.rg.x (i+d+1+1)).at_:=(h (i+d+1+1) hi).1.1.1;exact Int.lt_trans h1 h2
theorem at_one {f:Cf}(h:f.regB=true){i j:Nat}(hi:i<f.rg.len)(hj:j<f.rg.len)(e:(f.rg.x i).at_=(f.rg.x j).at_):i=j:=by
 rcases Nat.lt_trichotomy i j with q | q | q
 ·have:=zkv h (i:=i) (d:=j - i - 1) (by omega);rw[show i+(j - i - 1)+1=j by omega] at this;omega
 ·exact q
 ·have:=zkv h (i:=j) (d:=i - j - 1) (by omega);rw[show j+(i - j - 1)+1=i by omega] at this;omega
theorem zmp {N:Nat}{a:Int}(h:inR N a=true):∃k:Nat,a=k∧k<N:=by
 unfold inR at h;simp only[Bool.and_eq_true,decide_eq_true_eq] at h;exact⟨a.toNat,by omega,by omega⟩
theorem ok_lab {N:Nat}{t:Ty}(h:t.ok N=true):inR N t.l=true:=by
 have:=(zc1 h).1;cases t with
 | dm=>cases this
 | mk k l hh e ao b o len cap ps =>
  rw[zd1] at this;simp only[Bool.and_eq_true] at this;exact this.1.1.2
theorem blw_no {n:Strs}{g:Grid}{t:Ty}(h:t.ok n.len=true):blw n g (zab 0 0) t=false:=by
 unfold blw;have h1:(zab 0 0).same t=false:=by
  cases hs:(zab 0 0).same t
  ·rfl
  ·unfold zab at hs;rw[za7] at hs;have e1:(0:Int)=t.k:=hs.1.1;have:=ok_ar h;rw[←e1] at this;simp[zay] at this
 rw[h1];unfold belB;have h2:(zab 0 0).ok n.len=false:=rfl;rw[h2];simp
structure RgPv (c:Kl)(f:Cf)(p i:Nat):Prop where
 lt:i<f.rg.len
 at_:(f.rg.x i).at_=p
 one:∀j,j<f.rg.len→(f.rg.x j).at_=p→j=i
 hold:f.hold f.calls (f.rg.x i)=0
 st:0<(f.pt.x p).st.len
 pl:∀k,k<(f.rg.x i).ps.len→∃q:Nat,(f.rg.x i).ps.x k=q∧q<f.pt.len∧leqB c.n c.g ((f.pt.x p).st.ps ((f.pt.x p).st.len - 1)).l (f.pt.x q).env=true∧leqB c.n c.g (f.pt.x p).env (f.pt.x q).env=true
theorem ztt {c:Kl}{f:Cf}(h:Wvf c f)(hF:zae c.n c.g=true){p:Nat}(hp:p<f.cd.len)(hacc:(Vp.mk c f p).acc=true)(ho:(f.cd.x p).op=25∨(f.cd.x p).op=9∨(f.cd.x p).op=10):∃i,RgPv c f p i:=by
 have F:=Cf.fa h.fm;have W:=Cf.wf h.br;have O:=zr3 h hp;obtain⟨_,B4⟩:=Cf.brk_zero h.br;have hpt:f.pt.len=f.cd.len:=W.pts;have P:=Pt.pa (F.pt p (by omega));have envR:∀q,q<f.pt.len→∃k:Nat,(f.pt.x q).env=k∧k<c.n.len:=fun q hq=>by
  have:=F.pt q hq;unfold Pt.fm at this;simp only[Bool.and_eq_true,decide_eq_true_eq] at this;exact zmp this.1.1.2
 have hx:=In.rng (F.ins p hp);generalize hv:Vp.mk c f p=v at *;have vop:v.op=(f.cd.x p).op:=by rw[←hv];rfl
 have vpt:v.pt=f.pt.x p:=by rw[←hv];rfl
 have vf:v.f=f:=by rw[←hv]
 have vc:v.c=c:=by rw[←hv]
 have vp:v.p=p:=by rw[←hv]
 have hneed:v.need=(tkF v.op).toNat:=zkl (by rw[vf,vp];exact hp) (by rw[vop];exact hx.1) (by rw[vop];omega)
 unfold Vp.acc at hacc;simp only[Bool.and_eq_true,decide_eq_true_eq] at hacc;obtain⟨hn,hok,hgo,_,hcon⟩:=hacc;have D:=O.vd hn;have n1:1≤v.need:=by
  rw[hneed,vop];rcases ho with e | e | e <;> rw[e] <;> decide
 have hst:0<(f.pt.x p).st.len:=by rw[←vpt];omega
 obtain⟨e,he,he1⟩:=envR p (by omega);obtain⟨l,hl,hl1⟩:=zmp (ok_lab (P.st ((f.pt.x p).st.len - 1) (by omega)))
 -- K is the join of the top's label and the Env
 have hk:v.done.k=(Jn c.g l e:Nat):=by
  have eb:v.both l e=(Jn c.g l e:Nat):=by
   rw[←hv];show zan c.n c.g l e=_
   unfold zan;rw[if_neg (by omega),if_neg (by omega),zfo hF hl1 he1]
  have ev:v.env=e:=by rw[←he,←vpt];rfl
  rcases ho with o | o
  ·have o':v.op=25:=by rw[vop];exact o
   have nd:v.need=1:=by rw[hneed,o'];rfl
   have et:(v.tk 0).l=l:=by
    rw[←hl,←vpt];show (v.pt.st.ps (v.pt.st.len - v.need+0)).l=_
    rw[nd];rfl
   have:v.done.k=v.lab:=by
    unfold Vp.done;rw[if_neg (by omega),if_neg (by omega),if_neg (by omega),if_neg (by omega),if_pos o']
   rw[this];unfold Vp.lab;rw[et,ev,eb]
  ·have o':v.op=9∨v.op=10:=by rw[vop];exact o
   have nd:v.need=2:=by rw[hneed];rcases o' with q | q <;> rw[q] <;> rfl
   have et:(v.tk 1).l=l:=by
    rw[←hl,←vpt];show (v.pt.st.ps (v.pt.st.len - v.need+1)).l=_
    rw[nd,show v.pt.st.len - 2+1=v.pt.st.len - 1 by omega]
   have hm:v.makT=v.reckT:=by
    unfold Vp.makT;rw[if_neg (by omega),if_neg (by omega),if_neg (by omega),if_neg (by omega),if_neg (by omega),if_neg (by omega),if_neg (by omega),if_neg (by omega),if_neg (by omega),if_neg (by omega),if_neg (by omega),if_neg (by omega)]
   have hd:v.done=v.mkD:=by
    unfold Vp.done;rw[if_neg (by omega),if_neg (by omega),if_neg (by omega),if_neg (by omega),if_neg (by omega),if_neg (by omega),if_neg (by omega)]
   have hlast:p+1<f.cd.len:=by
    rcases Nat.lt_or_ge (p+1) f.cd.len with q | q
    ·exact q
    ·have e1:f.cd.len - 1=p:=by omega
     have:=W.last;rw[e1] at this;rw[vop] at o';omega
   by_cases hq:((v.tk 0).k != 1||(v.tk 1).k != 1)=true
   ·exfalso
    have hr:v.reckT=(zab 0 0,-1):=by unfold Vp.reckT;rw[if_pos hq]
    rw[zlp (by rcases o' with q | q <;> rw[q] <;> rfl) (by omega) (by omega) (by rw[vf,vp];exact hlast),hd] at hgo
    have hD:v.mkD=⟨true,v.st0.push (v.raise (zab 0 0) (v.both v.env (-1))),v.sl0,-1,-1⟩:=by
     unfold Vp.mkD;rw[hm,hr,if_pos rfl]
    rw[hD] at hgo;have hra:v.raise (zab 0 0) (v.both v.env (-1))=zab 0 0:=by
     show zal v.c.n v.c.g (zab 0 0) _=_
     unfold zal okB;rw[show (zab 0 0).ok v.c.n.len=false from rfl];simp
    rw[hra] at hgo;have hgo':fitP v.c.n v.c.g (v.f.pt.x (v.p+1)) (v.st0.push (zab 0 0)) v.sl0=true:=hgo;rw[vc,vf,vp] at hgo';unfold fitP at hgo';simp only[Bool.and_eq_true,decide_eq_true_eq] at hgo';obtain⟨⟨g1,g2⟩,_⟩:=hgo';have g1':v.left+1=(f.pt.x (p+1)).st.len:=g1;have P1:=Pt.pa (F.pt (p+1) (by omega));have g3:=g2 v.left (by show v.left<v.left+1;omega)
    have g4:(v.st0.push (zab 0 0)).x v.left=zab 0 0:=by
     show (if v.left=v.left then zab 0 0 else _)=_
     rw[if_pos rfl]
    rw[g4,blw_no (P1.st v.left (by omega))] at g3;cases g3
   ·rw[hd];have:v.reckT.2=v.both (v.tk 1).l v.env:=by
     unfold Vp.reckT;rw[if_neg hq];show (if v.op=9∨v.op=10 then v.both (v.tk 1).l v.env else -1)=_
     rw[if_pos o']
    show v.makT.2=_
    rw[hm,this,et,ev,eb]
 unfold Vp.contB at hcon;rw[if_neg (by rw[hk];omega)] at hcon
 rw[vf,vp] at hcon;cases hf:(List.range f.rg.len).find? (fun i=>decide ((f.rg.x i).at_=p)) with
 | none=>rw[hf] at hcon;cases hcon
 | some i =>
  rw[hf] at hcon;have hi:i<f.rg.len:=by simpa using List.mem_of_find?_eq_some hf
  have ha:(f.rg.x i).at_=p:=by simpa using List.find?_some hf
  have hcon':v.regT (f.rg.x i)=true:=hcon;unfold Vp.regT Vp.secB at hcon';rw[vf] at hcon';simp only[Bool.and_eq_true,decide_eq_true_eq] at hcon';refine⟨i,hi,ha,fun j hj e=>at_one B4 hj hi (by rw[e,ha]),hcon'.1,hst,fun k hk'=>?_⟩;have hr:=O.rps;rw[vf] at hr;obtain⟨q,hq,hq1⟩:=hr i hi k hk';obtain⟨m,hm,hm1⟩:=envR q hq1;have h2:=hcon'.2 k hk';rw[hq,Int.toNat_natCast,hm,hk] at h2;have el:∀x y:Int,v.leq x y=leqB c.n c.g x y:=fun x y=>by rw[←hv];rfl
  rw[el] at h2;have h3:leqB c.n c.g (Jn c.g l e:Nat) m=true:=h2;have J:=zh5 hF hl1 he1;rw[zjg hF J.2.1 hm1] at h3;refine⟨q,hq,hq1,?_,?_⟩
  ·rw[hl,hm,zjg hF hl1 hm1];exact zeb hF hl1 J.2.1 hm1 J.2.2.1 h3
  ·rw[he,hm,zjg hF he1 hm1];exact zeb hF he1 J.2.1 hm1 J.2.2.2.1 h3
theorem zxe {c:Kl}{f:Cf}(h:f.ref c=-1):∀p,p<f.cd.len→(Vp.mk c f p).acc=true:=by
 unfold Cf.ref at h;split at h
 ·exact absurd h (by omega)
 ·rename_i hb
  rcases zhd (fun i=>!(Vp.mk c f i).acc) f.cd.len with h1 | ⟨j,h1,h2,h3⟩
  ·intro p hp;have:=h1 p hp
   simpa using this
  ·rw[zdm h1 h2 h3] at h;exact absurd h (by show (j:Int)≠-1;omega)
structure Vg (w:World)(c:Kl)(f:Cf)(BF:Nat)(g:Rw Bool)(u:World):Prop where
 bl:Below w.heap.size w u
 bC:Blk u w.heap.size c.cs 28
 bF:Blk u BF f.vs 44
 f:f.At u
 g:BlAt u g
theorem Vg.kept {w:World}{c:Kl}{f:Cf}{BF:Nat}{g:Rw Bool}{u u':World}(h:Vg w c f BF g u)(hb:Below u.heap.size u u'):Vg w c f BF g u':=⟨Below.next h.bl hb,h.bC.kept hb,h.bF.kept hb,Cf.At.kept hb h.f,h.g.kept hb⟩
structure Vq (c:Kl)(f:Cf):Prop where
 rg:∀p,p<f.cd.len→(f.cd.x p).op=25∨(f.cd.x p).op=9∨(f.cd.x p).op=10→∃i,RgPv c f p i
 pt:f.pt.len=f.cd.len
 few:f.cd.len≤2000
 rl:f.rg.len≤2000
 pl:∀i,i<f.rg.len→(f.rg.x i).ps.len≤2000
 ag:Agd f
 hd:f.hd.len≤100000
theorem vq_of {c:Kl}{f:Cf}(h:Wvf c f)(hF:zae c.n c.g=true)(hr:f.ref c=-1):Vq c f:=by
 have F:=Cf.fa h.fm;have W:=Cf.wf h.br;have hrl:f.rg.len≤2000:=by
  have:=h.fm;unfold Cf.fm Cf.few at this;simp only[Bool.and_eq_true,decide_eq_true_eq] at this;exact this.1.2.2.2.2.2
 refine⟨fun p hp ho=>ztt h hF hp (zxe hr p hp) ho,W.pts,F.cd,hrl,fun i hi=>?_,⟨fun i hi ho=>(W.jmp i hi ho).1,fun i hi=>(W.han i hi).1,F.cd⟩,by have:=F.hd;omega⟩
 have:=F.rg i hi;unfold Rn.fm at this;simp only[Bool.and_eq_true,decide_eq_true_eq] at this;exact this.1.2
theorem ziq (c:Kl)(w:World)(hc:c.At w)(hcap:c.Cap)(hO:Og w)(hT:Pg2 w):Calls Tryz.prog 6 #[.agg #[.slice c.n.ao c.n.len c.n.cap,.slice c.g.ao c.g.len c.g.cap,.slice c.fs.ao c.fs.len c.fs.cap]] w fun e w'=>e=.returned (.bool true)∧Below w.heap.size w w':=by
 have B0:=zac w (.cells #[.slice c.n.ao c.n.len c.n.cap,.slice c.g.ao c.g.len c.g.cap,.slice c.fs.ao c.fs.len c.fs.cap] 28);have b:=Blk.new w c.cs 28;have H0:=hyd (show Below w.heap.size w _∧Blk _ w.heap.size c.cs 28 from ⟨B0,b⟩);have HD:=hyd (show c.At w∧(Og w∧Pg2 w)∧c.Cap from ⟨hc,⟨hO,hT⟩,hcap⟩);have h0:=zci _ (hO.kept B0) (hT.kept B0);have hbd:=hc.fs.bound;clear B0 b hc hO hT hcap;go_enter Tryz.func6,Tryz.ntmps6
 go_wp2_with fail
 refine h0.mono ?_;rintro _ u1 ⟨rfl,hb⟩;have H1:=hyd (show Below w.heap.size w u1∧Blk u1 w.heap.size c.cs 28 from ⟨Below.next H0.out.1 hb,H0.out.2.kept hb⟩);clear h0 hb H0;have c0:=H1.out.2.cell 0 rfl;have c1:=H1.out.2.cell 1 rfl;have c2:=H1.out.2.cell 2 rfl;have h0:=zgq c 900 u1 (Kl.At.kept H1.out.1 HD.out.1);go_wp2_with fail
 refine h0.mono ?_;rintro e u2 ⟨⟨bb,rfl,_⟩,hb⟩;have H2:=hyd (show Below w.heap.size w u2∧Blk u2 w.heap.size c.cs 28 from ⟨Below.next H1.out.1 hb,H1.out.2.kept hb⟩);clear h0 hb H1 c0 c1 c2;cases bb
 ·have h0:=zci u2 (HD.out.2.1.1.kept H2.out.1) (HD.out.2.1.2.kept H2.out.1);go_wp2_with fail
  refine h0.mono ?_;rintro _ u3 ⟨rfl,hb⟩;have H3:=hyd (Below.next H2.out.1 hb);clear h0 hb;go_wp2;go_ret;exact⟨rfl,H3.out⟩
 have c0:=H2.out.2.cell 0 rfl;have c1:=H2.out.2.cell 1 rfl;have c2:=H2.out.2.cell 2 rfl;have h0:=zdg c u2 (Kl.At.kept H2.out.1 HD.out.1) HD.out.2.2 (HD.out.2.1.1.kept H2.out.1) (HD.out.2.1.2.kept H2.out.1);go_wp2_with fail
 refine h0.mono ?_;rintro e u3 ⟨⟨k',a',er,rfl,hR⟩,hb⟩;have H3:=hyd (show Below w.heap.size w u3∧Blk u3 w.heap.size c.cs 28 from ⟨Below.next H2.out.1 hb,H2.out.2.kept hb⟩);have HR:=hyd hR;clear h0 hb hR H2 c0 c1 c2;by_cases he:er=0
 case neg =>
  have e1:(er != 0)=true:=by simpa using he
  clear he HR;go_wp2;go_ret;exact⟨rfl,H3.out.1⟩
 subst he;have HQ:Hid (∀k,k<c.fs.len→Vq c (c.fs.x k)):=fun k hk=>by
  rcases HR.out.cases with ⟨_,_,g⟩ | ⟨_,j,_,_,_,_,g⟩ | ⟨_,_,j,_,_,_,_,g⟩ | ⟨g0,gb,gr,_,g⟩
  ·omega
  ·omega
  ·omega
  ·have hF:zae c.n c.g=true:=by
    unfold Kl.fm at g0;simp only[Bool.and_eq_true] at g0;exact g0.1
   exact vq_of (Kl.wvf HD.out.1 g0 gb HD.out.2.2 hk) hF (gr k hk)
 clear HR;have c2:0<c.fs.len→u3.cell? ⟨w.heap.size,2,none⟩=some (.slice (some ⟨c.fs.b,c.fs.o,none⟩) c.fs.len c.fs.cap):=fun h=>by rw[←HD.out.1.fs.nil h];exact H3.out.2.cell 2 rfl
 clear c2;go_wp2;go_loopw [6] (fun i wr=>∃(k:Nat),k≤c.fs.len∧i=.int .i64 k∧(Below w.heap.size w wr∧Blk wr w.heap.size c.cs 28)) (fun i _=>c.fs.len - (intOf i).toNat)
 case atStart=>exact⟨0,Nat.zero_le _,rfl,H3.out⟩
 case round =>
  clear H3;obtain⟨k,hk,rfl,hB⟩:=hrel;have HB:=hyd hB;clear hB;have c2:=HB.out.2.cell 2 rfl;by_cases hlt:k<c.fs.len
  ·have ik:(k:Int)<c.fs.len:=by omega
   have r0:=zaf (HD.out.1.fs.row k hlt) HB.out.1;rw[HD.out.1.fs.nil (by omega)] at c2;have HF:=hyd (Cf.At.kept HB.out.1 (HD.out.1.fs.each k hlt));have HV:=hyd (HQ.out k hlt);have HCL:=hyd (fun v (h:c.At v)=>zjk c k v h hlt HV.out.pt (by have:=HV.out.few;omega))
   have HK:=hyd hlt;clear hlt;generalize c.fs.x k=f at *;go_upto_region 10 with (first | (refine wpList_load_mid rfl 44 (.tmp 42) rfl c.fs.b (c.fs.o+k*18) (by kernel_rfl) f.vs _ r0 Tryz.underlying44 rfl (by kernel_rfl) ?_) | (refine zao rfl rfl 44 rfl (.tmp 7) (.tmp 43) rfl z_fn (alloc_fn _) rfl f.vs.toArray (by kernel_rfl) (by kernel_rfl) rfl (by kernel_rfl) (by simpa using f.vs_one) ?_))
   try simp only[Act.put,zA,zB,zC]
   have B1:=zac wr (.cells f.vs.toArray 44);have HU:=hyd (show (Below w.heap.size w (wr.alloc (.cells f.vs.toArray 44))∧Blk (wr.alloc (.cells f.vs.toArray 44)) w.heap.size c.cs 28)∧Blk (wr.alloc (.cells f.vs.toArray 44)) wr.heap.size f.vs 44∧f.At (wr.alloc (.cells f.vs.toArray 44)) from ⟨⟨Below.next HB.out.1 B1,HB.out.2.kept B1⟩,Blk.new wr _ _,Cf.At.kept B1 HF.out⟩);clear r0 HF HB B1 c2;generalize wr.alloc (.cells f.vs.toArray 44)=U at *;generalize wr.heap.size=BF at *;have c0:=HU.out.1.2.cell 0 rfl;have c1:=HU.out.1.2.cell 1 rfl;have c2:=HU.out.1.2.cell 2 rfl;have h0:Calls Tryz.prog 13 #[.agg #[.slice c.n.ao c.n.len c.n.cap,.slice c.g.ao c.g.len c.g.cap,.slice c.fs.ao c.fs.len c.fs.cap],.int .i64 k] U (CaP f U):=HCL.out U (Kl.At.kept HU.out.1.1 HD.out.1);go_wp2_with fail
   refine h0.mono ?_;clear h0;rintro _ u4 ⟨BG,rfl,⟨hG,hge⟩,hb⟩;have HG:=hyd (show Vg w c f BF ⟨some ⟨BG,0,none⟩,BG,0,f.cd.len,f.cd.len,f.callB⟩ u4 from ⟨Below.next HU.out.1.1 hb,HU.out.1.2.kept hb,HU.out.2.1.kept hb,Cf.At.kept hb HU.out.2.2,zkf hG (by have:=HV.out.few;omega)⟩)
   clear hb hG hge HU HCL c0 c1 c2;have f14:=HG.out.bF.cell 14 rfl;have hbf:f.cd.len≤2000:=HV.out.few;go_wp2;go_loopw [9] (fun i wr=>∃(p:Nat),p≤f.cd.len∧i=.int .i64 p∧Vg w c f BF ⟨some ⟨BG,0,none⟩,BG,0,f.cd.len,f.cd.len,f.callB⟩ wr) (fun i _=>f.cd.len - (intOf i).toNat)
   case atStart=>exact⟨0,Nat.zero_le _,rfl,HG.out⟩
   case round =>
    obtain⟨p,hp,rfl,hG⟩:=hrel;clear f14;have HG1:=hyd hG;clear HG hG;have f14:=HG1.out.bF.cell 14 rfl;by_cases hpl:p<f.cd.len
    ·have ip:(p:Int)<f.cd.len:=by omega
     have ip2:(p:Int)<f.pt.len:=by have:=HV.out.pt;omega
     have HP:=hyd hpl;have HM:=hyd (HV.out.rg p hpl);have f16:wr.cell? ⟨BF,16,none⟩=some (.slice (some ⟨f.pt.b,f.pt.o,none⟩) f.pt.len f.pt.cap):=by rw[←HG1.out.f.pt.nil (by omega)];exact HG1.out.bF.cell 16 rfl
     have d0:wr.cell? ⟨f.cd.b,f.cd.o+p*7,none⟩=some (.int .i64 (f.cd.x p).op):=HG1.out.f.cd.row p hpl 0 _ rfl;have p0:wr.cell? ⟨f.pt.b,f.pt.o+p*3,none⟩=some (.slice (f.pt.x p).st.ao (f.pt.x p).st.len (f.pt.x p).st.cap):=HG1.out.f.pt.row p (by omega) 0 _ rfl;rw[HG1.out.f.cd.nil (by omega)] at f14;clear hpl;generalize (f.cd.x p).op=op at *;go_upto_region 15 with fail
     clear f16 p0 ip2;go_cut [84] (fun cc wx=>cc=.bool ((op != 25&&op != 9)&&op != 10)∧Hid (Vg w c f BF ⟨some ⟨BG,0,none⟩,BG,0,f.cd.len,f.cd.len,f.callB⟩ wx))
     case first =>
      by_cases o1:op=25
      ·subst o1;go_wp2;go_meet
       case rel=>exact⟨rfl,HG1⟩
      have n1:(op != 25)=true:=by simpa using o1
      by_cases o2:op=9
      ·subst o2;clear o1 n1;go_wp2;go_meet
       case rel=>exact⟨rfl,HG1⟩
      have n2:(op != 9)=true:=by simpa using o2
      go_wp2;go_meet
      case rel=>exact⟨by rw[n1,n2];rfl,HG1⟩
     case rest =>
      obtain⟨rfl,hI⟩:=hcut;have HG2:=hyd hI.out;clear hI HG1 f14 d0;by_cases hbr:op=25∨op=9∨op=10
      case neg =>
       have eb:((op != 25&&op != 9)&&op != 10)=true:=by
        have n1:op≠25:=fun h=>hbr (Or.inl h);have n2:op≠9:=fun h=>hbr (Or.inr (Or.inl h));have n3:op≠10:=fun h=>hbr (Or.inr (Or.inr h));simp[n1,n2,n3]
       rw[eb];clear eb hbr HM;go_wp2;go_roundw
       case rel=>exact⟨p+1,by omega,by go_num,HG2.out⟩
       case measure=>simp[intOf];omega
      have eb:((op != 25&&op != 9)&&op != 10)=false:=by
       rcases hbr with h | h | h <;> rw[h] <;> rfl
      obtain⟨i0,hR⟩:=HM.out hbr;have HR:=hyd hR;rw[eb];clear eb hbr HM hR;rw[(HG2.out.f.pt.each p (by have:=HP.out;have:=HV.out.pt;omega)).st.nil HR.out.st]
      have f17:=HG2.out.bF.cell 17 rfl;have hrl:f.rg.len≤2000:=HV.out.rl;go_wp2;go_loopw [11,12] (fun a b wr=>∃(i:Nat),i≤f.rg.len∧b=.int .i64 i∧a=.bool (decide (i0<i))∧Vg w c f BF ⟨some ⟨BG,0,none⟩,BG,0,f.cd.len,f.cd.len,f.callB⟩ wr) (fun _ b _=>f.rg.len - (intOf b).toNat)
      case atStart=>exact⟨0,Nat.zero_le _,rfl,rfl,HG2.out⟩
      case round =>
       obtain⟨i,hi,rfl,rfl,hG⟩:=hrel;clear f17;have HG3:=hyd hG;clear HG2 hG;have f17:=HG3.out.bF.cell 17 rfl;by_cases hil:i<f.rg.len
       ·have ii:(i:Int)<f.rg.len:=by omega
        have r0:=HG3.out.f.rg.row i hil;have HX:=hyd (show (f.rg.x i).At wr from HG3.out.f.rg.each i hil);have HIL:=hyd hil;have HXL:=hyd (HV.out.pl i hil);rw[HG3.out.f.rg.nil (by omega)] at f17;have HE:Hid ((f.rg.x i).at_=p→i=i0):=HR.out.one i hil;have HN:Hid (i=i0→(f.rg.x i).at_=p):=fun e=>by rw[e];exact HR.out.at_
        have HPL:Hid (i=i0→f.hold f.calls (f.rg.x i)=0∧∀k,k<(f.rg.x i).ps.len→∃q:Nat,(f.rg.x i).ps.x k=q∧q<f.pt.len∧leqB c.n c.g ((f.pt.x p).st.ps ((f.pt.x p).st.len - 1)).l (f.pt.x q).env=true∧leqB c.n c.g (f.pt.x p).env (f.pt.x q).env=true):=fun e=>by subst e;exact⟨HR.out.hold,HR.out.pl⟩
        clear hil;generalize f.rg.x i=x at *;go_upto_region 21 with (first | (refine wpList_load_mid rfl 53 (.tmp 95) rfl f.rg.b (f.rg.o+i*3) (by kernel_rfl) x.vs _ r0 Tryz.underlying53 rfl (by kernel_rfl) ?_) | (refine zao rfl rfl 53 rfl (.tmp 13) (.tmp 96) rfl z_rn (zgi _) rfl x.vs.toArray (by kernel_rfl) (by kernel_rfl) rfl (by kernel_rfl) (by simpa using x.vs_one) ?_))
        try simp only[Act.put,zA,zB,zC]
        have B1:=zac wr (.cells x.vs.toArray 53);have HG4:=hyd (show Vg w c f BF ⟨some ⟨BG,0,none⟩,BG,0,f.cd.len,f.cd.len,f.callB⟩ (wr.alloc (.cells x.vs.toArray 53))∧Blk (wr.alloc (.cells x.vs.toArray 53)) wr.heap.size x.vs 53∧x.At (wr.alloc (.cells x.vs.toArray 53)) from ⟨HG3.out.kept B1,Blk.new wr _ _,HX.out.kept B1⟩);clear r0 HX HG3 B1 f17;generalize wr.alloc (.cells x.vs.toArray 53)=U2 at *;generalize wr.heap.size=BX at *;have x0:=HG4.out.2.1.cell 0 rfl;by_cases hat:x.at_=p
        case neg =>
         have e1:(x.at_ != (p:Int))=true:=by simpa using hat
         have ne:i≠i0:=fun h=>hat (HN.out h);have ed:decide (i0<i)=decide (i0<i+1):=by
          by_cases q:i0<i
          ·rw[decide_eq_true q,decide_eq_true (by omega)]
          ·rw[decide_eq_false q,decide_eq_false (by omega)]
         have HED:=hyd ed;have HNE:=hyd ne;clear hat ed ne HE HN HPL;go_wp2;go_roundw
         case rel=>exact⟨i+1,by have:=HIL.out;omega,by go_num,by rw[HED.out],HG4.out.1⟩
         case measure=>have:=HIL.out;simp[intOf];omega
        have e0:i=i0:=HE.out hat;have HI0:=hyd e0;have HH:=hyd (HPL.out e0);rw[hat] at x0;clear HE HN HPL e0 hat;have rF:=HG4.out.1.bF.range;have rX:=HG4.out.2.1.range;have h0:=ziz f ⟨some ⟨BG,0,none⟩,BG,0,f.cd.len,f.cd.len,f.callB⟩ x U2 HG4.out.1.f HG4.out.1.g HG4.out.2.2 HV.out.ag HV.out.hd;rw[show f.hold ⟨some ⟨BG,0,none⟩,BG,0,f.cd.len,f.cd.len,f.callB⟩ x=0 from (zo9 rfl rfl).trans HH.out.1] at h0;go_wp2_with (first | (refine wpList_load_mid rfl 44 (.tmp 7) rfl BF 0 (by kernel_rfl) f.vs _ rF Tryz.underlying44 rfl (by kernel_rfl) ?_) | (refine wpList_load_mid rfl 53 (.tmp 13) rfl BX 0 (by kernel_rfl) x.vs _ rX Tryz.underlying53 rfl (by kernel_rfl) ?_))
        refine h0.mono ?_;clear h0;rintro _ u7 ⟨rfl,hb⟩;have HG5:=hyd (show Vg w c f BF ⟨some ⟨BG,0,none⟩,BG,0,f.cd.len,f.cd.len,f.callB⟩ u7∧Blk u7 BX x.vs 53∧x.At u7 from ⟨HG4.out.1.kept hb,HG4.out.2.1.kept hb,HG4.out.2.2.kept hb⟩);clear hb HG4 rF rX x0;have x2:=HG5.out.2.1.cell 2 rfl;have hxl:x.ps.len≤2000:=HXL.out;go_wp2;go_loopw [14] (fun b wr=>∃(n:Nat),n≤x.ps.len∧b=.int .i64 n∧Vg w c f BF ⟨some ⟨BG,0,none⟩,BG,0,f.cd.len,f.cd.len,f.callB⟩ wr∧Blk wr BX x.vs 53∧x.At wr) (fun b _=>x.ps.len - (intOf b).toNat)
        case atStart=>exact⟨0,Nat.zero_le _,rfl,HG5.out.1,HG5.out.2.1,HG5.out.2.2⟩
        case round =>
         obtain⟨n,hn,rfl,hG⟩:=hrel;clear x2;have HG6:=hyd hG;clear HG5 hG;have x2:=HG6.out.2.1.cell 2 rfl;by_cases hnl:n<x.ps.len
         ·have inn:(n:Int)<x.ps.len:=by omega
          have HNL:=hyd hnl;obtain⟨q,hq,hq1,hl1,hl2⟩:=HH.out.2 n hnl;have HQN:=hyd (show x.ps.x n=q∧q<f.pt.len from ⟨hq,hq1⟩);have iq:(q:Int)<f.pt.len:=by omega
          have HLE:=hyd (show leqB c.n c.g ((f.pt.x p).st.ps ((f.pt.x p).st.len - 1)).l (f.pt.x q).env=true∧leqB c.n c.g (f.pt.x p).env (f.pt.x q).env=true from ⟨hl1,hl2⟩);clear hq hq1 hl1 hl2 hnl;go_upto_region 26 with fail
          clear x2;have f16:∀y:Gr wr,y.w.cell? ⟨BF,16,none⟩=some (.slice (some ⟨f.pt.b,f.pt.o,none⟩) f.pt.len f.pt.cap):=fun y=>by rw[←HG6.out.1.f.pt.nil (by have:=HQN.out.2;omega)];exact y.cell (HG6.out.1.bF.cell 16 rfl)
          have x2:∀y:Gr wr,y.w.cell? ⟨BX,2,none⟩=some (.slice (some ⟨x.ps.b,x.ps.o,none⟩) x.ps.len x.ps.cap):=fun y=>by rw[←HG6.out.2.2.ps.nil (by have:=HNL.out;omega)];exact y.cell (HG6.out.2.1.cell 2 rfl)
          have xq:∀y:Gr wr,y.w.cell? ⟨x.ps.b,x.ps.o+n,none⟩=some (.int .i64 q):=fun y=>by
           have h:=HG6.out.2.2.ps.row n HNL.out 0 _ rfl;rw[HQN.out.1,Nat.mul_one,Nat.add_zero] at h;exact y.cell h
          have pe:∀y:Gr wr,y.w.cell? ⟨f.pt.b,f.pt.o+q*3+2,none⟩=some (.int .i64 (f.pt.x q).env):=fun y=>y.cell (HG6.out.1.f.pt.row q HQN.out.2 2 _ rfl);have hNE:Nonempty (Gr wr):=⟨⟨_,Below.refl _ _⟩⟩;generalize (f.pt.x q).env=eq at *;refine zah (by kernel_rfl) (by kernel_rfl) ?_;iterate 11 go_big_quiet_step (fail)
          refine wpQuiet_nil ?_;rintro y1 ⟨yg,rfl⟩;have Bg:=yg.bl;generalize yg.w=y1 at Bg ⊢;have HG7:=hyd (show Vg w c f BF ⟨some ⟨BG,0,none⟩,BG,0,f.cd.len,f.cd.len,f.callB⟩ y1∧Blk y1 BX x.vs 53∧x.At y1 from ⟨HG6.out.1.kept Bg,HG6.out.2.1.kept Bg,HG6.out.2.2.kept Bg⟩);clear yg Bg HG6 f16 x2 xq pe hNE iq;go_upto_region 27 with fail
          have f16:∀y:Gr y1,y.w.cell? ⟨BF,16,none⟩=some (.slice (some ⟨f.pt.b,f.pt.o,none⟩) f.pt.len f.pt.cap):=fun y=>by rw[←HG7.out.1.f.pt.nil (by have:=HQN.out.2;omega)];exact y.cell (HG7.out.1.bF.cell 16 rfl)
          have c0:∀y:Gr y1,y.w.cell? ⟨w.heap.size,0,none⟩=some (.slice c.n.ao c.n.len c.n.cap):=fun y=>y.cell (HG7.out.1.bC.cell 0 rfl);have c1:∀y:Gr y1,y.w.cell? ⟨w.heap.size,1,none⟩=some (.slice c.g.ao c.g.len c.g.cap):=fun y=>y.cell (HG7.out.1.bC.cell 1 rfl);have hpp:p<f.pt.len:=by have:=HP.out;have:=HV.out.pt;omega
          have ip2:(p:Int)<f.pt.len:=by omega
          have pe:∀y:Gr y1,y.w.cell? ⟨f.pt.b,f.pt.o+p*3+2,none⟩=some (.int .i64 (f.pt.x p).env):=fun y=>y.cell (HG7.out.1.f.pt.row p hpp 2 _ rfl);have tl:∀y:Gr y1,y.w.cell? ⟨(f.pt.x p).st.b,(f.pt.x p).st.o+((f.pt.x p).st.len - 1)*5+1,none⟩=some (.int .i64 ((f.pt.x p).st.ps ((f.pt.x p).st.len - 1)).l):=fun y=>y.cell ((HG7.out.1.f.pt.each p hpp).st.cells (by have:=HR.out.st;omega)).c1
          have hst:0<(f.pt.x p).st.len:=HR.out.st;have hsb:=(HG7.out.1.f.pt.each p hpp).st.bound;have hL1:∀y:Gr y1,Calls Tryz.prog 17 #[.agg #[.slice c.n.ao c.n.len c.n.cap,.slice c.g.ao c.g.len c.g.cap],.int .i64 ((f.pt.x p).st.ps ((f.pt.x p).st.len - 1)).l,.int .i64 eq] y.w fun e w'=>e=.returned (.bool true)∧Below y.w.heap.size y.w w':=fun y=>by
           have h:=zkx c.n c.g ((f.pt.x p).st.ps ((f.pt.x p).st.len - 1)).l eq y.w (HD.out.1.n.kept (Below.next HG7.out.1.bl y.bl)) (HD.out.1.g.kept (Below.next HG7.out.1.bl y.bl));rw[HLE.out.1] at h;exact h
          have hL2:∀y:Gr y1,Calls Tryz.prog 17 #[.agg #[.slice c.n.ao c.n.len c.n.cap,.slice c.g.ao c.g.len c.g.cap],.int .i64 (f.pt.x p).env,.int .i64 eq] y.w fun e w'=>e=.returned (.bool true)∧Below y.w.heap.size y.w w':=fun y=>by
           have h:=zkx c.n c.g (f.pt.x p).env eq y.w (HD.out.1.n.kept (Below.next HG7.out.1.bl y.bl)) (HD.out.1.g.kept (Below.next HG7.out.1.bl y.bl));rw[HLE.out.2] at h;exact h
          have hNE:Nonempty (Gr y1):=⟨⟨_,Below.refl _ _⟩⟩;clear HLE;generalize (f.pt.x p).env=ep at *;generalize ((f.pt.x p).st.ps ((f.pt.x p).st.len - 1)).l=lp at *;have i0':(0:Int)≤((f.pt.x p).st.len:Int) - 1:=by omega
          have i1':((f.pt.x p).st.len:Int) - 1<(f.pt.x p).st.len:=by omega
          have i2':(((f.pt.x p).st.len:Int) - 1).toNat=(f.pt.x p).st.len - 1:=by omega
          have e0:(((f.pt.x p).st.len:Int)==0)=false:=by simp;omega
          refine zah (by kernel_rfl) (by kernel_rfl) ?_;iterate 14 go_big_quiet_step (fail)
          go_big_quiet_step ((go_at_call 17;exact Calls.gr _ (hL1 _)))
          iterate 12 go_big_quiet_step (fail)
          go_big_quiet_step ((go_at_call 17;exact Calls.gr _ (hL2 _)))
          iterate 2 go_big_quiet_step (fail)
          refine wpQuiet_nil ?_;rintro y2 ⟨yg,rfl⟩;have Bg:=yg.bl;generalize yg.w=y2 at Bg ⊢;have HG8:=hyd (show Vg w c f BF ⟨some ⟨BG,0,none⟩,BG,0,f.cd.len,f.cd.len,f.callB⟩ y2∧Blk y2 BX x.vs 53∧x.At y2 from ⟨HG7.out.1.kept Bg,HG7.out.2.1.kept Bg,HG7.out.2.2.kept Bg⟩);clear yg Bg HG7 f16 c0 c1 pe tl hL1 hL2 hNE i0' i1' i2' e0 ip2 hsb hst;go_wp2;go_roundw
          case rel=>exact⟨n+1,by have:=HNL.out;omega,by go_num,HG8.out.1,HG8.out.2.1,HG8.out.2.2⟩
          case measure=>have:=HNL.out;simp[intOf];omega
         ·have inn:¬(n:Int)<x.ps.len:=by omega
          have ed:decide (i0<i+1)=true:=decide_eq_true (by have:=HI0.out;omega)
          have HED:=hyd ed;clear ed;go_wp2;go_roundw
          case rel=>exact⟨i+1,by have:=HIL.out;omega,by go_num,by rw[HED.out],HG6.out.1⟩
          case measure=>have:=HIL.out;simp[intOf];omega
       ·have ii:¬(i:Int)<f.rg.len:=by omega
        have ed:decide (i0<i)=true:=decide_eq_true (by have:=HR.out.lt;omega)
        rw[ed];clear ed;go_wp2;go_roundw
        case rel=>exact⟨p+1,by have:=HP.out;omega,by go_num,HG3.out⟩
        case measure=>have:=HP.out;simp[intOf];omega
    ·have ip:¬(p:Int)<f.cd.len:=by omega
     go_wp2;go_roundw
     case rel=>exact⟨k+1,by have:=HK.out;omega,by go_num,HG1.out.bl,HG1.out.bC⟩
     case measure=>have:=HK.out;simp[intOf];omega
  ·have ik:¬(k:Int)<c.fs.len:=by omega
   go_wp2;go_ret;exact⟨rfl,HB.out.1⟩
end
end Go.Proofs.YtfobijdkoeifjaaGreatDoor
