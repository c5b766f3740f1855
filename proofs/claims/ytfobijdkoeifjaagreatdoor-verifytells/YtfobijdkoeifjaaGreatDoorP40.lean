import Derived.Test.YtfobijdkoeifjaaGreatDoorP39
import Derived.Test.YtfobijdkoeifjaaGreatDoorP10
set_option maxRecDepth 100000
set_option maxHeartbeats 32000000
namespace Go.Proofs.YtfobijdkoeifjaaGreatDoor
section
open Go Go.RowKit
theorem ziy (k l:Int):(zaa k l).Nd:=fun i hi=>absurd hi (Nat.not_lt_zero i)
section
variable {n:Strs} {g:Grid} {u:Ty} {m:Nat}
theorem zhe {a:Int}(h:u.same (zaa 1 a)=true):u.k=1∧u.l=a∧u.len=0:=by
 cases u with
 | dm=>unfold zaa at h;cases h
 | mk k l hh e ao b o len cap ps =>
  unfold zaa at h;rw[za4] at h;exact⟨h.1.1,h.1.2.1,h.1.2.2.2.2⟩
theorem zqw {N:Nat}{a:Int}(hu:u.Nd)(h:u.same (zaa 1 a)=true):u.ok N=(zaa 1 a).ok N:=by
 have k:=zdz (N:=N) u (zaa 1 a) hu (ziy 1 a) h;unfold Ty.ok;rw[k.1,k.2]
theorem zrb {e:Nat}(hF:zae n g=true)(hm:m<n.len)(he:e<n.len)(hu:u.Nd)(h:u.same (zaa 1 m)=true):(zak n g u e).Nd∧(zak n g u e).same (zaa 1 (Jn g m e:Nat))=true:=by
 have hl:=(zhe h).2.1;have e1:zak n g u e=u.setL (Jn g m e:Nat):=by
  unfold zak okB;rw[hF,zqw hu h,zdd _ _ (zcf hm),zcf he,hl,zfr hF hm he];rfl
 rw[e1];refine⟨znc hu,?_⟩;cases u with
 | dm=>exact hu.elim
 | mk k l hh e' ao b o len cap ps =>
  unfold zaa at h ⊢;rw[za4] at h;show Ty.same (.mk k (Jn g m e:Nat) hh e' ao b o len cap ps) _=true
  rw[za4];exact⟨⟨h.1.1,rfl,h.1.2.2⟩,h.2⟩
end
section
variable {n:Strs} {g:Grid} {a b e:Nat} {cd:Rw In} {S:Nat→Ty} {pt:Rw Pt} {bk p:Nat}
theorem zu2 (h:StG n g a b e cd S)(hp:StP (zaa 1 a) e cd.len S pt)(hq:p<cd.len)(ho:(cd.x p).op=27)(h0:(S p).len=1){m:Nat}(hm:m<n.len)(hN:((S p).ps 0).Nd)(hS:((S p).ps 0).same (zaa 1 m)=true) :
  (Vp.mk (stKl n g bk (stCf (zaa 1 a) (zaa 1 b) (botI n g) (topI n g) cd pt)) (stCf (zaa 1 a) (zaa 1 b) (botI n g) (topI n g) cd pt) p).acc=g.B (Jn g m e) b:=by
 generalize hv:Vp.mk (stKl n g bk (stCf (zaa 1 a) (zaa 1 b) (botI n g) (topI n g) cd pt)) (stCf (zaa 1 a) (zaa 1 b) (botI n g) (topI n g) cd pt) p=v;have o1:v.op=27:=by rw[←hv];exact ho
 have hpt:v.pt=pt.x p:=by rw[←hv];rfl
 have hst:v.pt.st.len=1:=by rw[hpt,hp.st p (by omega)];exact h0
 have hcd:v.f.cd=cd:=by rw[←hv];rfl
 have hvp:v.p=p:=by rw[←hv]
 have hn:v.need=1:=by
  rw[zh5 (by rw[hcd,hvp];omega) (by omega) (by omega),o1]
  rfl
 have hD:=zny o1;rw[zfs (by omega) (by rw[hD]) (by rw[hD]),zk2 o1,hD];have hl:v.left=0:=by show v.pt.st.len - v.need=0;omega
 show ((decide (v.left=0)&&v.blw (v.raise (v.tk 0) v.env) v.f.r)&&true)=_
 rw[decide_eq_true hl];have et:v.tk 0=(S p).ps 0:=by
  show v.pt.st.ps (v.left+0)=_
  rw[hl,hpt,hp.st p hq]
 have ee:v.env=e:=by rw[←hv];exact hp.env p hq
 have er:v.f.r=zaa 1 b:=by rw[←hv];rfl
 have R:=zrb h.fd hm h.e hN hS;have:v.blw (v.raise ((S p).ps 0) e) (zaa 1 b)=g.B (Jn g m e) b:=by
  rw[←hv];show blw n g (zak n g ((S p).ps 0) e) (zaa 1 b)=_
  rw[ze3 R.1 (ziy _ _) R.2];exact zf8 h.fd (zmb h.fd hm h.e) h.b
 rw[et,ee,er,this];simp
theorem zvg (h:StG n g a b e cd S)(hp:StP (zaa 1 a) e cd.len S pt)(hq:p+1<cd.len)(ho:(cd.x p).op=23){t:Nat}(ht:t<n.len)(hto:(cd.x p).a=t)(h0:(S p).len=1){m:Nat}(hm:m<n.len)(hS:((S p).ps 0).same (zaa 1 m)=true)(h1:(S (p+1)).len=0) :
  (Vp.mk (stKl n g bk (stCf (zaa 1 a) (zaa 1 b) (botI n g) (topI n g) cd pt)) (stCf (zaa 1 a) (zaa 1 b) (botI n g) (topI n g) cd pt) p).acc=(g.B m t&&g.B e t):=by
 generalize hv:Vp.mk (stKl n g bk (stCf (zaa 1 a) (zaa 1 b) (botI n g) (topI n g) cd pt)) (stCf (zaa 1 a) (zaa 1 b) (botI n g) (topI n g) cd pt) p=v;have o1:v.op=23:=by rw[←hv];exact ho
 have hpt:v.pt=pt.x p:=by rw[←hv];rfl
 have hst:v.pt.st.len=1:=by rw[hpt,hp.st p (by omega)];exact h0
 have hcd:v.f.cd=cd:=by rw[←hv];rfl
 have hvp:v.p=p:=by rw[←hv]
 have hn:v.need=1:=by
  rw[zh5 (by rw[hcd,hvp];omega) (by omega) (by omega),o1]
  rfl
 have hD:=zun o1;rw[zfs (by omega) (by rw[hD]) (by rw[hD]),zle (by rw[o1];rfl) (by omega) (by omega) (by rw[hcd,hvp];exact hq),hD]
 have hl:v.left=0:=by show v.pt.st.len - v.need=0;omega
 show (v.outB&&fitP v.c.n v.c.g (v.f.pt.x (v.p+1)) v.st0 v.sl0)=_
 have hc:v.c.n=n∧v.c.g=g:=by rw[←hv];exact⟨rfl,rfl⟩
 have hfp:v.f.pt=pt:=by rw[←hv];rfl
 have hfit:fitP v.c.n v.c.g (v.f.pt.x (v.p+1)) v.st0 v.sl0=true:=by
  rw[hc.1,hc.2,hfp,hvp];unfold fitP;rw[hp.st (p+1) hq];simp only[Bool.and_eq_true,decide_eq_true_eq];refine⟨⟨by show v.left=_;omega,fun i hi=>?_⟩,fun i hi=>?_⟩
  ·have:i<v.left:=hi;omega
  ·have e1:v.sl0.x i=(pt.x p).sl.ps i:=by rw[←hpt];rfl
   have e2:v.sl0.n=(pt.x p).sl.len:=by rw[←hpt];rfl
   rw[e1];exact zm4 h hp (by omega) hq i (by omega)
 rw[hfit];have et:v.tk 0=(S p).ps 0:=by
  show v.pt.st.ps (v.left+0)=_
  rw[hl,hpt,hp.st p (by omega)]
 have ee:v.env=e:=by rw[←hv];exact hp.env p (by omega)
 have ea:v.a=t:=by rw[←hv];exact hto
 obtain⟨z,hz,hz1,hz2⟩:=znl h.fd;have eh:v.f.h=z:=by rw[←hv];exact hz
 have lq:∀x y:Nat,x<n.len→y<n.len→v.leq x y=g.B x y:=fun x y hx hy=>by rw[←hv];exact zjc h.fd hx hy
 unfold Vp.outB;rw[et,ee,ea,eh,(zhe hS).1,(zhe hS).2.1,lq e t h.e ht,lq z t hz1 ht,lq m t hm ht,show g.B z t=true from hz2 t ht];simp
end
def tlL (x:Int):List In:=[vi 3 0,vi 23 x,vi 3 0,vi 27 0]
def tlS (b1 b2:Nat)(u:Ty):List Ty:=[zaa 0 0,.mk 0 0 0 0 (some ⟨b1,0,none⟩) b1 0 1 1 (fun _=>u),zaa 0 0,.mk 0 0 0 0 (some ⟨b2,0,none⟩) b2 0 1 1 (fun _=>u)]
section
variable {n:Strs} {g:Grid} {a e t b bc bs b1 b2 k:Nat} {u:Ty} {pt:Rw Pt}
structure TlH (n:Strs)(g:Grid)(a e t b:Nat)(u:Ty):Prop where
 fd:zae n g=true
 ha:a<n.len
 he:e<n.len
 ht:t<n.len
 hb:b<n.len
 nd:u.Nd
 sm:u.same (zaa 1 (Jn g a e:Nat))=true
theorem zpc (h:zae n g=true):n.len≤8:=(zas h).2.2.1
theorem tlG (h:TlH n g a e t b u):StG n g a b e (lsR bc (vi 0 0) (tlL t)) (lsR bs (zaa 0 0) (tlS b1 b2 u)).x:=by
 have h8:=zpc h.fd;have ht:=h.ht;have uo:u.ok n.len=true:=by rw[zqw h.nd h.sm];exact zdd _ _ (zcf (zmb h.fd h.ha h.he))
 have c4:∀i,i<4→i=0∨i=1∨i=2∨i=3:=fun i hi=>by omega
 refine⟨h.fd,h.ha,h.hb,h.he,by show 0<4;omega,by show 4≤2000;omega,fun i hi=>?_,fun i hi=>?_,rfl,fun i hi=>?_,fun i hi=>?_⟩
 ·rcases c4 i hi with rfl | rfl | rfl | rfl
  ·rfl
  ·show (true&&(true&&shB (t:Int)))=true
   unfold shB;simp
   omega
  ·rfl
  ·rfl
 ·rcases c4 i hi with rfl | rfl | rfl | rfl
  ·rfl
  ·show btw (t:Int) 0 n.len=true
   unfold btw;simp
   omega
  ·rfl
  ·rfl
 ·rcases c4 i hi with rfl | rfl | rfl | rfl
  ·show 0≤8;omega
  ·show 1≤8;omega
  ·show 0≤8;omega
  ·show 1≤8;omega
 ·rcases c4 i hi with rfl | rfl | rfl | rfl
  ·exact fun j hj=>absurd hj (Nat.not_lt_zero j)
  ·exact fun j _=>uo
  ·exact fun j hj=>absurd hj (Nat.not_lt_zero j)
  ·exact fun j _=>uo
theorem tl_ref (h:TlH n g a e t b u)(hp:StP (zaa 1 a) e (lsR bc (vi 0 0) (tlL t)).len (lsR bs (zaa 0 0) (tlS b1 b2 u)).x pt) :
  (stCf (zaa 1 a) (zaa 1 b) (botI n g) (topI n g) (lsR bc (vi 0 0) (tlL t)) pt).ref (stKl n g k (stCf (zaa 1 a) (zaa 1 b) (botI n g) (topI n g) (lsR bc (vi 0 0) (tlL t)) pt))=if g.B (Jn g a e) t=false then 1 else if g.B (Jn g a e) b=false then 3 else -1:=by
 have G:=tlG (bc:=bc) (bs:=bs) (b1:=b1) (b2:=b2) h;have J:=zh4 h.fd h.ha h.he;have hJ:Jn g a e<n.len:=J.2.1;have hload:blw n g (zaa 1 (Jn g a e:Nat)) u=true:=by
  rw[zsl h.nd (ziy _ _) h.sm,zf8 h.fd hJ hJ];exact zbs h.fd hJ
 have q0:=zjf (bk:=k) (p:=0) G hp (by show 1<4;omega) rfl rfl rfl
 have q1:=zvg (bk:=k) (p:=1) (t:=t) (m:=Jn g a e) G hp (by show 2<4;omega) rfl h.ht rfl rfl hJ h.sm rfl
 have q2:=zjf (bk:=k) (p:=2) G hp (by show 3<4;omega) rfl rfl rfl
 have q3:=zu2 (bk:=k) (p:=3) (m:=Jn g a e) G hp (by show 3<4;omega) rfl rfl hJ h.nd h.sm
 have e0:(decide (1=((lsR bs (zaa 0 0) (tlS b1 b2 u)).x (0+1)).len)&&blw n g (zaa 1 (Jn g a e:Nat)) (((lsR bs (zaa 0 0) (tlS b1 b2 u)).x (0+1)).ps 0))=true:=by
  show (decide (1=1)&&blw n g (zaa 1 (Jn g a e:Nat)) u)=true
  rw[hload];rfl
 have e2:(decide (1=((lsR bs (zaa 0 0) (tlS b1 b2 u)).x (2+1)).len)&&blw n g (zaa 1 (Jn g a e:Nat)) (((lsR bs (zaa 0 0) (tlS b1 b2 u)).x (2+1)).ps 0))=true:=by
  show (decide (1=1)&&blw n g (zaa 1 (Jn g a e:Nat)) u)=true
  rw[hload];rfl
 have q0':=q0.trans e0;have q2':=q2.trans e2;have hJJ:Jn g (Jn g a e) e=Jn g a e:=jn_dn h.fd h.he hJ J.2.2.2.1;rw[hJJ] at q3;have hEt:(g.B (Jn g a e) t&&g.B e t)=g.B (Jn g a e) t:=by
  cases hB:g.B (Jn g a e) t
  ·rfl
  ·rw[show g.B e t=true from zfc h.fd h.he hJ h.ht J.2.2.2.1 hB];rfl
 rw[hEt] at q1;have hbeg:(stCf (zaa 1 a) (zaa 1 b) (botI n g) (topI n g) (lsR bc (vi 0 0) (tlL t)) pt).begB (stKl n g k (stCf (zaa 1 a) (zaa 1 b) (botI n g) (topI n g) (lsR bc (vi 0 0) (tlL t)) pt))=true:=zrz (bk:=k) G hp rfl;unfold Cf.ref;rw[if_neg (by rw[hbeg];exact Bool.noConfusion)]
 cases h1:g.B (Jn g a e) t
 ·rw[if_pos rfl];rw[h1] at q1;have hm:(List.range (stCf (zaa 1 a) (zaa 1 b) (botI n g) (topI n g) (lsR bc (vi 0 0) (tlL t)) pt).cd.len).find? (fun i=>!(Vp.mk (stKl n g k (stCf (zaa 1 a) (zaa 1 b) (botI n g) (topI n g) (lsR bc (vi 0 0) (tlL t)) pt)) (stCf (zaa 1 a) (zaa 1 b) (botI n g) (topI n g) (lsR bc (vi 0 0) (tlL t)) pt) i).acc)=some 1:=zed (by show 1<4;omega) (congrArg not q1) (fun i hi=>by
   have:i=0:=by omega
   subst this;exact congrArg not q0')
  rw[hm];rfl
 ·rw[if_neg Bool.noConfusion];rw[h1] at q1;cases h2:g.B (Jn g a e) b
  ·rw[if_pos rfl];rw[h2] at q3;have hm:(List.range (stCf (zaa 1 a) (zaa 1 b) (botI n g) (topI n g) (lsR bc (vi 0 0) (tlL t)) pt).cd.len).find? (fun i=>!(Vp.mk (stKl n g k (stCf (zaa 1 a) (zaa 1 b) (botI n g) (topI n g) (lsR bc (vi 0 0) (tlL t)) pt)) (stCf (zaa 1 a) (zaa 1 b) (botI n g) (topI n g) (lsR bc (vi 0 0) (tlL t)) pt) i).acc)=some 3:=zed (by show 3<4;omega) (congrArg not q3) (fun i hi=>by
    match i,hi with
    | 0,_=>exact congrArg not q0'
    | 1,_=>exact congrArg not q1
    | 2,_=>exact congrArg not q2')
   rw[hm];rfl
  ·rw[if_neg Bool.noConfusion];rw[h2] at q3;have hm:(List.range (stCf (zaa 1 a) (zaa 1 b) (botI n g) (topI n g) (lsR bc (vi 0 0) (tlL t)) pt).cd.len).find? (fun i=>!(Vp.mk (stKl n g k (stCf (zaa 1 a) (zaa 1 b) (botI n g) (topI n g) (lsR bc (vi 0 0) (tlL t)) pt)) (stCf (zaa 1 a) (zaa 1 b) (botI n g) (topI n g) (lsR bc (vi 0 0) (tlL t)) pt) i).acc)=none:=zfk fun i hi=>by
    have hi4:i<4:=hi
    match i,hi4 with
    | 0,_=>exact congrArg not q0'
    | 1,_=>exact congrArg not q1
    | 2,_=>exact congrArg not q2'
    | 3,_=>exact congrArg not q3
   rw[hm]
end
structure Wn (w w':World)(B:Nat):Prop where
 nil:∀o v,w.cell? ⟨B,o,none⟩=some v→v=.slice none 0 0
 few:w.cell? ⟨B,3,none⟩=none
 oth:∀b,b≠B→w'.heap[b]?=w.heap[b]?
theorem Wn.cell {w w':World}{B b o:Nat}{v:Value}(h:Wn w w' B)(hb:b≠B)(hv:w.cell? ⟨b,o,none⟩=some v):w'.cell? ⟨b,o,none⟩=some v:=by
 rw[World.cell?_of_block (w:=w) (h.oth b hb)];exact hv
theorem Wn.ne {w w':World}{B b o:Nat}{x:Int}(h:Wn w w' B)(hv:w.cell? ⟨b,o,none⟩=some (.int .i64 x)):b≠B:=fun e=>by
 subst e;have:=h.nil o _ hv;cases this
theorem zps {w w':World}{B:Nat}(h:Wn w w' B):∀{t:Ty},t.At w→t.At w'
 | .dm,k=>k.elim
 | .mk _ _ _ _ _ b o len _ ps,k=>⟨k.1,k.2.1,fun i hi=>by
  have c:=(k.2.2 i hi).1;have hb:b≠B:=h.ne c.c0;exact⟨⟨h.cell hb c.c0,h.cell hb c.c1,h.cell hb c.c2,h.cell hb c.c3,h.cell hb c.c4⟩,zps h (k.2.2 i hi).2⟩⟩
theorem zsz {w w':World}{B b o k:Nat}{vs:List Value}{x:Int}(h:Wn w w' B)(hr:w.rangeAt b o vs)(hx:vs[k]?=some (.int .i64 x)):w'.rangeAt b o vs:=fun j v hv=>h.cell (h.ne (hr k _ hx)) (hr j v hv)
theorem pts_wn {w w':World}{B:Nat}{pt:Rw Pt}(h:Wn w w' B)(hp:PtsAt w pt):PtsAt w' pt :=
 ⟨hp.nil,hp.bound,fun i hi=>zsz (k:=2) h (hp.row i hi) rfl,fun i hi=>⟨zps h (hp.each i hi).st,zps h (hp.each i hi).sl,(hp.each i hi).env⟩⟩
theorem st_wn {w w':World}{B bk:Nat}{n:Strs}{g:Grid}{a b:Int}{hh xx:Int}{cd:Rw In}{pt:Rw Pt}(h:Wn w w' B)(hn:n.At w')(hg:g.At w')(hcd:InsAt w' cd)(hA:(stKl n g bk (stCf (zaa 1 a) (zaa 1 b) hh xx cd pt)).At w):(stKl n g bk (stCf (zaa 1 a) (zaa 1 b) hh xx cd pt)).At w':=by
 have F:=hA.fs.each 0 (by show 0<1;omega)
 refine⟨hn,hg,⟨hA.fs.nil,hA.fs.bound,fun i hi=>zsz (k:=0) h (hA.fs.row i hi) rfl,fun i hi=>?_⟩⟩;exact⟨zav _ _ _,zav _ _ _,zav _ _ _,F.h,F.e,F.sl,hcd,zd6 _ _ _ _ _,pts_wn h F.pt,zd6 _ _ _ _ _⟩
theorem wn_of {w w':World}{B:Nat}{vs:List Value}(hb:Blk w B zK 28)(W:WroteB w w' B vs 28):Wn w w' B:=by
 refine⟨fun o v hv=>?_,?_,W.other⟩
 ·unfold Blk at hb;have h1:w.cell? ⟨B,o,none⟩=zK[o]?:=by
   simp[World.cell?,hb]
  rw[h1] at hv
  match o,hv with
  | 0,hv=>exact (Option.some.inj hv).symm
  | 1,hv=>exact (Option.some.inj hv).symm
  | 2,hv=>exact (Option.some.inj hv).symm
  | o+3,hv=>simp[zK] at hv
 ·unfold Blk at hb;simp[World.cell?,hb,zK]
theorem zqc (b1 b2:Nat)(w:World):(Instr.buildSlice 62 4 #[(0,.slice none 0 0),(1,.slice (some ⟨b1,0,none⟩) 1 1),(2,.slice none 0 0),(3,.slice (some ⟨b2,0,none⟩) 1 1)]).run Tryz.prog w=.ok (.slice (some ⟨w.heap.size,0,none⟩) 4 4) (w.alloc (.cells #[.slice none 0 0,.slice (some ⟨b1,0,none⟩) 1 1,.slice none 0 0,.slice (some ⟨b2,0,none⟩) 1 1] 36)):=by kernel_rfl
theorem zt5 (w:World):(Instr.alloc 28 true (.tuple #[])).run Tryz.prog w=.ok (.pointer (some ⟨w.heap.size,0,none⟩)) (w.alloc (.cells zK.toArray 28)):=by
 have hz:(Tryz.prog.info? 28).map (·.zero)=some (some (.agg zK.toArray)):=by kernel_rfl
 cases hq:Tryz.prog.info? 28 with
 | none=>rw[hq] at hz;simp at hz
 | some i =>
  rw[hq] at hz;simp at hz
  simp[Instr.alloc,newVar,newRow,zeroValue,typeInfo,hq,hz,Value.cells]
theorem tl_cd {w:World}{bc:Nat}{t:Nat}(h:Blk w bc ((tlL t).flatMap In.vs) 50)(ht:t≤1000):InsAt w (lsR bc (vi 0 0) (tlL t)):=zji (vs:=In.vs) (z:=7) (A:=In.At) (fun _=>rfl) (vi 0 0) (tlL t) h (by show 4≤1000;omega) (fun x hx=>by
 unfold tlL at hx;simp only[List.mem_cons,List.not_mem_nil,or_false] at hx;have h3:I64 3:=zc2 rfl;have h0:I64 0:=zc2 rfl;rcases hx with rfl | rfl | rfl | rfl
 ·exact zh6 h3 h0 w
 ·exact zh6 (zc2 rfl) ⟨by omega,by omega⟩ w
 ·exact zh6 h3 h0 w
 ·exact zh6 (zc2 rfl) h0 w)
theorem u1_at {w:World}{b:Nat}{u:Ty}(h:Blk w b u.vs 38)(hu:u.At w):(Ty.mk 0 0 0 0 (some ⟨b,0,none⟩) b 0 1 1 (fun _=>u)).At w:=by
 refine⟨fun _=>rfl,by show (1:Nat)≤_;omega,fun i hi=>?_⟩
 have hi0:i=0:=by have:i<1:=hi;omega
 subst hi0;exact⟨⟨h.cell 0 rfl,h.cell 1 rfl,h.cell 2 rfl,h.cell 3 rfl,h.cell 4 rfl⟩,hu⟩
theorem tl_sk {w:World}{bs b1 b2:Nat}{u:Ty}(h:Blk w bs ((tlS b1 b2 u).flatMap skV) 36)(h1:Blk w b1 u.vs 38)(h2:Blk w b2 u.vs 38)(hu:u.At w):SkAt w (lsR bs (zaa 0 0) (tlS b1 b2 u)):=zji (vs:=skV) (z:=1) (A:=fun w t=>t.At w∧t.len≤t.cap) (fun _=>rfl) (zaa 0 0) (tlS b1 b2 u) h (by show 4≤1000;omega) (fun x hx=>by
 unfold tlS at hx;simp only[List.mem_cons,List.not_mem_nil,or_false] at hx;rcases hx with rfl | rfl | rfl | rfl
 ·exact⟨zav _ _ _,by show 0≤0;omega⟩
 ·exact⟨u1_at h1 hu,by show 1≤1;omega⟩
 ·exact⟨zav _ _ _,by show 0≤0;omega⟩
 ·exact⟨u1_at h2 hu,by show 1≤1;omega⟩)
theorem zbg {vs:List (Option Value)}{k j:Nat}{x v:Value}(h:(vs.set k (some x))[j]?=some (some v)):(j=k∧v=x)∨vs[j]?=some (some v):=by
 by_cases e:k=j
 ·subst e;rw[List.getElem?_set_self'] at h;cases hv:vs[k]? with
  | none=>rw[hv] at h;cases h
  | some o =>
   rw[hv] at h;have:some x=some v:=by simpa using h
   exact Or.inl ⟨rfl,(Option.some.inj this).symm⟩
 ·rw[List.getElem?_set_ne e] at h;exact Or.inr h
def nmV (a:Int):Value:=.agg #[.int .i64 1,.int .i64 a,.slice none 0 0,.int .i64 0,.int .i64 0]
def TlC (n:Strs)(g:Grid)(a e t b:Nat)(bc:Nat)(u:Ty)(v:Value)(w:World):Prop:=∃(bk bs b1 b2:Nat) (pt:Rw Pt),v=.agg #[.slice n.ao n.len n.cap,.slice g.ao g.len g.cap,.slice (some ⟨bk,0,none⟩) 1 1]∧(stKl n g bk (stCf (zaa 1 a) (zaa 1 b) (botI n g) (topI n g) (lsR bc (vi 0 0) (tlL t)) pt)).At w∧StP (zaa 1 a) e (lsR bc (vi 0 0) (tlL t)).len (lsR bs (zaa 0 0) (tlS b1 b2 u)).x pt∧(∀i,i<pt.len→(pt.x i).st.len≤(pt.x i).st.cap)
structure I11 (U:World)(n:Strs)(g:Grid)(a e t b bc:Nat)(u:Ty)(vs:List (Option Value))(w:World):Prop where
 bl:Below U.heap.size U w
 v0:∀v,vs[0]?=some (some v)→v=nmV a
 v1:∀v,vs[1]?=some (some v)→v=nmV b
 v2:∀v,vs[2]?=some (some v)→∃B:Nat,v=.slice (some ⟨B,0,none⟩) 1 1∧Blk w B u.vs 38
 v3:∀v,vs[3]?=some (some v)→∃B:Nat,v=.slice (some ⟨B,0,none⟩) 1 1∧Blk w B u.vs 38
 v4:∀v,vs[4]?=some (some v)→∃B b1 b2:Nat,v=.slice (some ⟨B,0,none⟩) 4 4∧Blk w B ((tlS b1 b2 u).flatMap skV) 36∧Blk w b1 u.vs 38∧Blk w b2 u.vs 38
 v5:∀v,vs[5]?=some (some v)→TlC n g a e t b bc u v w
 v6:∀v,vs[6]?=some (some v)→∃B:Nat,v=.pointer (some ⟨B,0,none⟩)∧Blk w B zK 28∧U.heap.size≤B
section
variable {U:World} {n:Strs} {g:Grid} {a e t b bc:Nat} {u:Ty} {vs:List (Option Value)} {w w':World}
theorem I11.kept (h:I11 U n g a e t b bc u vs w)(hb:Below w.heap.size w w'):I11 U n g a e t b bc u vs w':=by
 refine⟨Below.next h.bl hb,h.v0,h.v1,fun v hv=>?_,fun v hv=>?_,fun v hv=>?_,fun v hv=>?_,fun v hv=>?_⟩
 ·obtain⟨B,h1,h2⟩:=h.v2 v hv;exact⟨B,h1,h2.kept hb⟩
 ·obtain⟨B,h1,h2⟩:=h.v3 v hv;exact⟨B,h1,h2.kept hb⟩
 ·obtain⟨B,b1,b2,h1,h2,h3,h4⟩:=h.v4 v hv;exact⟨B,b1,b2,h1,h2.kept hb,h3.kept hb,h4.kept hb⟩
 ·obtain⟨bk,bs,b1,b2,pt,h1,h2,h3,h4⟩:=h.v5 v hv;exact⟨bk,bs,b1,b2,pt,h1,Kl.At.kept hb h2,h3,h4⟩
 ·obtain⟨B,h1,h2,h3⟩:=h.v6 v hv;exact⟨B,h1,h2.kept hb,h3⟩
theorem I11.set (h:I11 U n g a e t b bc u vs w)(k:Nat)(x:Value)(h0:k=0→x=nmV a)(h1:k=1→x=nmV b)(h2:k=2→∃B:Nat,x=.slice (some ⟨B,0,none⟩) 1 1∧Blk w B u.vs 38)(h3:k=3→∃B:Nat,x=.slice (some ⟨B,0,none⟩) 1 1∧Blk w B u.vs 38)
  (h4:k=4→∃B b1 b2:Nat,x=.slice (some ⟨B,0,none⟩) 4 4∧Blk w B ((tlS b1 b2 u).flatMap skV) 36∧Blk w b1 u.vs 38∧Blk w b2 u.vs 38) (h5:k=5→TlC n g a e t b bc u x w) (h6:k=6→∃B:Nat,x=.pointer (some ⟨B,0,none⟩)∧Blk w B zK 28∧U.heap.size≤B):I11 U n g a e t b bc u (vs.set k (some x)) w:=by
 refine⟨h.bl,fun v hv=>?_,fun v hv=>?_,fun v hv=>?_,fun v hv=>?_,fun v hv=>?_,fun v hv=>?_,fun v hv=>?_⟩
 ·rcases zbg hv with ⟨q,rfl⟩ | q
  ·exact h0 q.symm
  ·exact h.v0 v q
 ·rcases zbg hv with ⟨q,rfl⟩ | q
  ·exact h1 q.symm
  ·exact h.v1 v q
 ·rcases zbg hv with ⟨q,rfl⟩ | q
  ·exact h2 q.symm
  ·exact h.v2 v q
 ·rcases zbg hv with ⟨q,rfl⟩ | q
  ·exact h3 q.symm
  ·exact h.v3 v q
 ·rcases zbg hv with ⟨q,rfl⟩ | q
  ·exact h4 q.symm
  ·exact h.v4 v q
 ·rcases zbg hv with ⟨q,rfl⟩ | q
  ·exact h5 q.symm
  ·exact h.v5 v q
 ·rcases zbg hv with ⟨q,rfl⟩ | q
  ·exact h6 q.symm
  ·exact h.v6 v q
end
end
end Go.Proofs.YtfobijdkoeifjaaGreatDoor
