import Derived.Test.YtfobijdkoeifjaaGreatDoorP38
import Derived.Test.YtfobijdkoeifjaaGreatDoorP14
import Derived.Test.YtfobijdkoeifjaaGreatDoorP40
import Derived.Test.YtfobijdkoeifjaaGreatDoorP20
set_option maxRecDepth 100000
set_option maxHeartbeats 32000000
namespace Go.Proofs.YtfobijdkoeifjaaGreatDoor
section
open Go Go.RowKit
section
variable {c:Kl} {f:Cf} {s:Rw Cf} {p:Nat}
theorem ztp (hp:p<f.cd.len)(hr:1≤(f.cd.x p).op∧(f.cd.x p).op≤27)(h17:(f.cd.x p).op=17→0≤(f.cd.x p).a∧(f.cd.x p).a<c.fs.len)(hl:c.fs.len≤s.len)(hx:∀i,i<c.fs.len→s.x i=c.fs.x i) :
  (Vp.mk ⟨c.n,c.g,s⟩ f p).acc=(Vp.mk c f p).acc:=by
 have hF:(f.cd.x p).op=17→s.x (f.cd.x p).a.toNat=c.fs.x (f.cd.x p).a.toNat:=fun o=>hx _ (by have:=h17 o;omega)
 have hneed:(Vp.mk ⟨c.n,c.g,s⟩ f p).need=(Vp.mk c f p).need:=by
  show (popV ⟨c.n,c.g,s⟩ f p).1.toNat=(popV c f p).1.toNat
  rw[zh6 (c:=⟨c.n,c.g,s⟩) hp hr,zh6 (c:=c) hp hr];by_cases o:(f.cd.x p).op=17
  ·have h:=h17 o;rw[if_pos o,if_pos o,if_pos (by unfold btw;simp;show (0≤(f.cd.x p).a)∧(f.cd.x p).a<(s.len:Int);omega),if_pos (by unfold btw;simp;omega)]
   show ((s.x (f.cd.x p).a.toNat).c.len:Int).toNat=_
   rw[hF o]
  ·rw[if_neg o,if_neg o]
 have hleft:(Vp.mk ⟨c.n,c.g,s⟩ f p).left=(Vp.mk c f p).left:=by
  unfold Vp.left;rw[hneed];rfl
 have htk:(Vp.mk ⟨c.n,c.g,s⟩ f p).tk=(Vp.mk c f p).tk:=by
  funext i
  unfold Vp.tk;rw[hleft];rfl
 have hreck:(Vp.mk ⟨c.n,c.g,s⟩ f p).reckT=(Vp.mk c f p).reckT:=by unfold Vp.reckT;rw[htk];rfl
 have hside:(Vp.mk ⟨c.n,c.g,s⟩ f p).sideT=(Vp.mk c f p).sideT:=by funext i;unfold Vp.sideT;rw[htk];rfl
 have hlab:(Vp.mk ⟨c.n,c.g,s⟩ f p).lab=(Vp.mk c f p).lab:=by unfold Vp.lab;rw[htk];rfl
 have hcall:(Vp.mk ⟨c.n,c.g,s⟩ f p).callT=(Vp.mk c f p).callT:=by unfold Vp.callT;rw[htk,hlab];rfl
 have hcell:(Vp.mk ⟨c.n,c.g,s⟩ f p).cellT=(Vp.mk c f p).cellT:=by unfold Vp.cellT;rw[htk];rfl
 have hheld:(Vp.mk ⟨c.n,c.g,s⟩ f p).heldT=(Vp.mk c f p).heldT:=by unfold Vp.heldT;rw[htk];rfl
 have hset:(Vp.mk ⟨c.n,c.g,s⟩ f p).setB=(Vp.mk c f p).setB:=by unfold Vp.setB;rw[htk];rfl
 have hout:(Vp.mk ⟨c.n,c.g,s⟩ f p).outB=(Vp.mk c f p).outB:=by unfold Vp.outB;rw[htk];rfl
 have hclos:(f.cd.x p).op=17→(Vp.mk ⟨c.n,c.g,s⟩ f p).closT=(Vp.mk c f p).closT:=fun o=>by
  have hcaps:(Vp.mk ⟨c.n,c.g,s⟩ f p).capsB=(Vp.mk c f p).capsB:=by
   unfold Vp.capsB;rw[hneed,htk];show decide (∀i,i<(Vp.mk c f p).need→(Vp.mk c f p).blw ((Vp.mk c f p).tk i) ((s.x (f.cd.x p).a.toNat).c.ps i)=true)=_
   rw[hF o];rfl
  unfold Vp.closT;rw[hcaps];show (if (Vp.mk c f p).capsB=true then (Vp.mk c f p).sigT (s.x (f.cd.x p).a.toNat) else zab 0 0)=_
  rw[hF o];rfl
 have hst0:(Vp.mk ⟨c.n,c.g,s⟩ f p).st0=(Vp.mk c f p).st0:=by unfold Vp.st0;rw[hleft];rfl
 have hmak:(Vp.mk ⟨c.n,c.g,s⟩ f p).makT=(Vp.mk c f p).makT:=by
  unfold Vp.makT;rw[hreck,hside,hcall,hcell,hheld,htk];by_cases o:(f.cd.x p).op=17
  ·rw[hclos o];rfl
  ·have o1:¬(Vp.mk ⟨c.n,c.g,s⟩ f p).op=17:=o;have o2:¬(Vp.mk c f p).op=17:=o;simp only[if_neg o1,if_neg o2];rfl
 have hdone:(Vp.mk ⟨c.n,c.g,s⟩ f p).done=(Vp.mk c f p).done:=by
  unfold Vp.done Vp.mkD;rw[hset,hout,hlab,hmak,hst0,htk,hleft];rfl
 have hgoes:(Vp.mk ⟨c.n,c.g,s⟩ f p).goesB=(Vp.mk c f p).goesB:=by unfold Vp.goesB;rw[hdone];rfl
 have hcau:(Vp.mk ⟨c.n,c.g,s⟩ f p).caughtB=(Vp.mk c f p).caughtB:=by unfold Vp.caughtB;rw[hdone];rfl
 have hcon:(Vp.mk ⟨c.n,c.g,s⟩ f p).contB=(Vp.mk c f p).contB:=by
  have hreg:(Vp.mk ⟨c.n,c.g,s⟩ f p).regT=(Vp.mk c f p).regT:=by
   funext r
   unfold Vp.regT Vp.secB;rw[hdone];rfl
  unfold Vp.contB;rw[hdone,hreg]
 unfold Vp.acc;rw[hneed,hdone,hgoes,hcau,hcon];rfl
end
theorem zpk {p q:Nat→Bool}{n:Nat}(h:∀i,i<n→p i=q i):(List.range n).find? p=(List.range n).find? q:=by
 rcases zhd p n with h1 | ⟨j,h1,h2,h3⟩
 ·rw[zep h1,zep fun i hi=>by rw[←h i hi];exact h1 i hi]
 ·rw[zdm h1 h2 h3,zdm h1 (by rw[←h j h1];exact h2) fun i hi=>by rw[←h i (by omega)];exact h3 i hi]
theorem zu3 {c:Kl}{f:Cf}{s:Rw Cf}(hf:f.fm c.n.len=true)(hb:f.brk c.fs.len c.n.len=0)(hl:c.fs.len≤s.len)(hx:∀i,i<c.fs.len→s.x i=c.fs.x i):f.ref ⟨c.n,c.g,s⟩=f.ref c:=by
 have F:=Cf.fa hf;obtain⟨⟨⟨_,B2⟩,_⟩,_⟩:=Cf.brk_zero hb;unfold Cf.codB Cf.codA at B2;simp only[Bool.and_eq_true,decide_eq_true_eq] at B2;have hacc:∀i,i<f.cd.len→(!(Vp.mk ⟨c.n,c.g,s⟩ f i).acc)=!(Vp.mk c f i).acc:=fun i hi=>by
  rw[ztp hi (In.rng (F.ins i hi)).1 (fun o=>?_) hl hx];have:=B2.1 i hi;unfold In.nhB at this;rw[if_neg (by omega),if_pos o] at this;unfold btw at this
  simpa using this
 unfold Cf.ref;rw[zpk hacc];rfl
theorem btw_up {a lo hi hi':Int}(h:btw a lo hi=true)(hh:hi≤hi'):btw a lo hi'=true:=by
 unfold btw at h ⊢;simp only[Bool.and_eq_true,decide_eq_true_eq] at h ⊢;omega
theorem Cf.codB_up {nf nf' nl:Nat}{f:Cf}(h:f.codB nf nl=true)(hh:nf≤nf'):f.codB nf' nl=true:=by
 unfold Cf.codB Cf.codA at h ⊢;simp only[Bool.and_eq_true,decide_eq_true_eq] at h ⊢;refine⟨fun i hi=>?_,h.2⟩;have h1:=h.1 i hi;unfold In.nhB at h1 ⊢;by_cases o1:(f.cd.x i).op=3∨(f.cd.x i).op=4
 ·rw[if_pos o1] at h1 ⊢;exact h1
 rw[if_neg o1] at h1 ⊢;by_cases o2:(f.cd.x i).op=17
 ·rw[if_pos o2] at h1 ⊢;exact btw_up h1 (by omega)
 rw[if_neg o2] at h1 ⊢;exact h1
theorem Cf.brk_up {nf nf' nl:Nat}{f:Cf}(hh:nf≤nf')(h:f.brk nf nl≠2):f.brk nf' nl=f.brk nf nl:=by
 unfold Cf.brk at h ⊢;cases h1:f.cntB
 ·rfl
 ·cases h2:f.codB nf nl
  ·rw[h1,h2] at h;exact absurd rfl h
  ·rw[Cf.codB_up h2 hh]
theorem zq2 {c:Kl}{m s:Rw Cf}(hl:s.len=c.fs.len+m.len)(hx:s.x=Rw.cat c.fs m){k a e k' a' e':Int}(h:VkR c k a e)(h':VkR ⟨c.n,c.g,s⟩ k' a' e')(h0:e=0):e'=9∨e'=0∨(e'=11∧(c.fs.len:Int)≤k'∧-1≤a'):=by
 have hs:∀i,i<c.fs.len→s.x i=c.fs.x i:=fun i hi=>by rw[hx];exact if_pos hi
 obtain⟨hf,hb,hr⟩:c.fm=true∧(∀i,i<c.fs.len→c.brk i=0)∧(∀i,i<c.fs.len→c.ref i=-1):=by
  rcases h.cases with ⟨_,_,g⟩ | ⟨_,j,_,_,_,_,g⟩ | ⟨_,_,j,_,_,_,_,g⟩ | ⟨g0,gb,gr,_,g⟩
  ·omega
  ·omega
  ·omega
  ·exact⟨g0,gb,gr⟩
 have hF:∀i,i<c.fs.len→(c.fs.x i).fm c.n.len=true:=by
  unfold Kl.fm at hf;simp only[Bool.and_eq_true,decide_eq_true_eq] at hf;exact hf.2.2
 have ub:∀i,i<c.fs.len→(Kl.mk c.n c.g s).brk i=0:=fun i hi=>by
  show (s.x i).brk s.len c.n.len=0
  rw[hs i hi,Cf.brk_up (nf:=c.fs.len) (by omega) (by rw[show (c.fs.x i).brk c.fs.len c.n.len=0 from hb i hi];decide)]
  exact hb i hi
 have ur:∀i,i<c.fs.len→(Kl.mk c.n c.g s).ref i=-1:=fun i hi=>by
  show (s.x i).ref ⟨c.n,c.g,s⟩=-1
  rw[hs i hi,zu3 (hF i hi) (hb i hi) (by omega) hs];exact hr i hi
 rcases h'.cases with ⟨_,_,g⟩ | ⟨_,j,g1,g2,g3,⟨g4,g5⟩,g6⟩ | ⟨_,gb,j,g1,g2,g3,⟨g4,g5⟩,g6⟩ | ⟨_,_,_,_,g⟩
 ·exact Or.inl g
 ·refine Or.inr (Or.inr ⟨g6,?_,by omega⟩);rcases Nat.lt_or_ge j c.fs.len with q | q
  ·exact absurd (ub j q) g2
  ·omega
 ·refine Or.inr (Or.inr ⟨g6,?_,?_⟩)
  ·rcases Nat.lt_or_ge j c.fs.len with q | q
   ·exact absurd (ur j q) g2
   ·omega
  ·have hp:0<(s.x j).cd.len:=(Cf.wf (gb j g1)).pos;have:=Cf.ref_rng (c:=⟨c.n,c.g,s⟩) (f:=s.x j) hp g2;rw[g5];show -1≤(s.x j).ref ⟨c.n,c.g,s⟩
   omega
 ·exact Or.inr (Or.inl g)
theorem zv0 {c:Kl}{m s:Rw Cf}(hl:s.len=c.fs.len+m.len)(hx:s.x=Rw.cat c.fs m)(hc:c.Cap)(hm:∀i,i<m.len→(m.x i).Cap):(Kl.mk c.n c.g s).Cap:=fun i hi=>by
 have hi':i<s.len:=hi;show (s.x i).Cap
 rw[hx];show (if i<c.fs.len then c.fs.x i else m.x (i - c.fs.len)).Cap
 split
 ·exact hc i (by assumption)
 ·exact hm _ (by omega)
theorem znp {w w':World}{B:Nat}{c:List Value}{t:TypeId}{r:Option Nat}(h:Blk w B c t)(hg:w.grownBy w' r)(hr:some B≠r):Blk w' B c t:=by
 unfold Blk;rw[hg.block B h.lt hr];exact h
structure Ff (w:World)(c:Kl)(D:Nat)(v:Value)(u:World):Prop where
 bl:Below w.heap.size w u
 bC:Blk u w.heap.size c.cs 28
 bD:Blk u D [.slice c.n.ao c.n.len c.n.cap,.slice c.g.ao c.g.len c.g.cap,v] 28
 ge:w.heap.size<D
theorem Ff.kept {w:World}{c:Kl}{D:Nat}{v:Value}{u u':World}(h:Ff w c D v u)(hb:Below u.heap.size u u'):Ff w c D v u':=⟨Below.next h.bl hb,h.bC.kept hb,h.bD.kept hb,h.ge⟩
theorem Ff.grown {w:World}{c:Kl}{D:Nat}{v:Value}{u u':World}{r:Option Nat}(h:Ff w c D v u)(hg:u.grownBy u' r)(hr:∀k,r=some k→D<k):Ff w c D v u' :=
 ⟨zb4 h.bl hg (fun k hk=>by have:=hr k hk;have:=h.ge;omega),znp h.bC hg (fun e=>by have:=hr _ e.symm;have:=h.ge;omega),znp h.bD hg (fun e=>by have:=hr _ e.symm;omega),h.ge⟩
theorem Ff.set {w:World}{c:Kl}{D:Nat}{v:Value}{u:World}(h:Ff w c D v u)(v':Value):Ff w c D v' (u.setCell ⟨D,2,none⟩ v')∧∀b,b≠D→(u.setCell ⟨D,2,none⟩ v').heap[b]?=u.heap[b]?:=by
 have W:=zcc (i:=2) h.bD v';have hge:=h.ge;exact⟨⟨W.below (by omega) h.bl,W.keep h.bC (by omega),W.blk,h.ge⟩,W.other⟩
theorem zk0 (c:Kl)(m:Rw Cf)(w:World)(hc:c.At w)(hm:CfsAt w m∧(m.ao=none→m.len=0∧m.cap=0))(hnc:c.fs.ao=none→c.fs.len=0∧c.fs.cap=0)(hcap:c.Cap)(hmcap:∀i,i<m.len→(m.x i).Cap)(hO:Og w)(hT:Pg2 w):Calls Tryz.prog 5 #[.agg #[.slice c.n.ao c.n.len c.n.cap,.slice c.g.ao c.g.len c.g.cap,.slice c.fs.ao c.fs.len c.fs.cap],.slice m.ao m.len m.cap] w fun e w'=>e=.returned (.bool true)∧Below w.heap.size w w':=by
 have B0:=zac w (.cells #[.slice c.n.ao c.n.len c.n.cap,.slice c.g.ao c.g.len c.g.cap,.slice c.fs.ao c.fs.len c.fs.cap] 28);have b:=Blk.new w c.cs 28;have H0:=hyd (show Below w.heap.size w _∧Blk _ w.heap.size c.cs 28 from ⟨B0,b⟩);have HD:=hyd (show c.At w∧Og w∧CfsAt w m from ⟨hc,hO,hm.1⟩);have HC:=hyd (show Pg2 w∧c.Cap∧∀i,i<m.len→(m.x i).Cap from ⟨hT,hcap,hmcap⟩);have HNN:=hyd (show (c.fs.ao=none→c.fs.len=0∧c.fs.cap=0)∧(m.ao=none→m.len=0∧m.cap=0) from ⟨hnc,hm.2⟩);have h0:=zci _ (hO.kept B0) (hT.kept B0);clear B0 b hc hO hm hnc hcap hmcap hT;go_enter Tryz.func5,Tryz.ntmps5
 go_wp2_with fail
 refine h0.mono ?_;rintro _ u1 ⟨rfl,hb⟩;have H1:=hyd (show Below w.heap.size w u1∧Blk u1 w.heap.size c.cs 28 from ⟨Below.next H0.out.1 hb,H0.out.2.kept hb⟩);clear h0 hb H0;have c0:=H1.out.2.cell 0 rfl;have c1:=H1.out.2.cell 1 rfl;have c2:=H1.out.2.cell 2 rfl;have h0:=zgq c 400 u1 (Kl.At.kept H1.out.1 HD.out.1);go_wp2_with fail
 refine h0.mono ?_;rintro e u2 ⟨⟨bb,rfl,hl1⟩,hb⟩;have H2:=hyd (show Below w.heap.size w u2∧Blk u2 w.heap.size c.cs 28 from ⟨Below.next H1.out.1 hb,H1.out.2.kept hb⟩);have HL1:=hyd hl1;clear h0 hb H1 c0 c1 c2 hl1;cases bb
 ·have h0:=zci u2 (HD.out.2.1.kept H2.out.1) (HC.out.1.kept H2.out.1);go_wp2_with fail
  refine h0.mono ?_;rintro _ u3 ⟨rfl,hb⟩;have H3:=hyd (Below.next H2.out.1 hb);clear h0 hb;go_wp2;go_ret;exact⟨rfl,H3.out⟩
 have c0:=H2.out.2.cell 0 rfl;have c1:=H2.out.2.cell 1 rfl;have h0:=zgq ⟨c.n,c.g,m⟩ 400 u2 ⟨HD.out.1.n.kept H2.out.1,HD.out.1.g.kept H2.out.1,HD.out.2.2.kept H2.out.1⟩;go_wp2_with fail
 refine Calls.mono h0 ?_;rintro e u3 ⟨⟨bb,rfl,hl2⟩,hb⟩;have H3:=hyd (show Below w.heap.size w u3∧Blk u3 w.heap.size c.cs 28 from ⟨Below.next H2.out.1 hb,H2.out.2.kept hb⟩);have HL2:Hid (bb=true→m.len≤70):=hl2;clear h0 hb H2 hl2 c0 c1;cases bb
 ·have h0:=zci u3 (HD.out.2.1.kept H3.out.1) (HC.out.1.kept H3.out.1);go_wp2_with fail
  refine h0.mono ?_;rintro _ u4 ⟨rfl,hb⟩;have H4:=hyd (Below.next H3.out.1 hb);clear h0 hb;go_wp2;go_ret;exact⟨rfl,H4.out⟩
 have HLN:=hyd (show c.fs.len≤70∧m.len≤70 from ⟨HL1.out (by simp),HL2.out (by simp)⟩);clear HL1 HL2;have c0:=H3.out.2.cell 0 rfl;have c1:=H3.out.2.cell 1 rfl;have c2:=H3.out.2.cell 2 rfl;have h0:=zdg c u3 (Kl.At.kept H3.out.1 HD.out.1) HC.out.2.1 (HD.out.2.1.kept H3.out.1) (HC.out.1.kept H3.out.1);go_wp2_with fail
 refine h0.mono ?_;rintro e u4 ⟨⟨k,r,er,rfl,hR⟩,hb⟩;have H4:=hyd (show Below w.heap.size w u4∧Blk u4 w.heap.size c.cs 28 from ⟨Below.next H3.out.1 hb,H3.out.2.kept hb⟩);have HR:=hyd hR;clear h0 hb hR H3 c0 c1 c2;have c0:=H4.out.2.cell 0 rfl;have c1:=H4.out.2.cell 1 rfl;have c2:=H4.out.2.cell 2 rfl;have HF4:=hyd (show Ff w c u4.heap.size (.slice c.fs.ao c.fs.len c.fs.cap) (u4.alloc (.cells #[.slice c.n.ao c.n.len c.n.cap,.slice c.g.ao c.g.len c.g.cap,.slice c.fs.ao c.fs.len c.fs.cap] 28)) from ⟨Below.next H4.out.1 (zac _ _),H4.out.2.kept (zac _ _),Blk.new u4 [.slice c.n.ao c.n.len c.n.cap,.slice c.g.ao c.g.len c.g.cap,.slice c.fs.ao c.fs.len c.fs.cap] 28,H4.out.2.lt⟩);go_upto_region 5 with fail
 clear c0 c1 c2;have c2:=HF4.out.bD.cell 2 rfl;have g2:=HF4.out.bD.frozen 2;have HF5:=hyd (HF4.out.set (.slice none 0 0)).1;generalize u4.alloc (.cells #[.slice c.n.ao c.n.len c.n.cap,.slice c.g.ao c.g.len c.g.cap,.slice c.fs.ao c.fs.len c.fs.cap] 28)=u5 at *;generalize u4.heap.size=D at *;go_upto_region 6 with fail
 clear c2 g2 HF4 H4;generalize u5.setCell ⟨D,2,none⟩ (.slice none 0 0)=u6 at *;have c2:=HF5.out.bC.cell 2 rfl;have d2:=HF5.out.bD.cell 2 rfl;have hE:=World.ownsRow_nil u6 u6.heap.size 44 18;go_upto_region 7 with ((at_builtin;refine zcl Tryz.underlying26 Tryz.infoFn14 rfl (by decide) rfl _ _ rfl u6.heap.size (.slice none 0 0) 0 [] rfl hE c.fs.ao c.fs.len c.fs.cap (rowR Cf.vs c.fs) rfl HNN.out.1 (zjc Cf.vs_len c.fs) (zk1 Cf.vs_len (by decide) (HD.out.1.fs.kept HF5.out.bl)) (zm2 Cf.vs_one c.fs) (by have:=HLN.out.1;unfold maxLen;omega) (by have:=HLN.out.1;omega) (Nat.le_refl _) ?_;intro v7 w5 h5 g5;have HO5:Hid (w5.ownsRow u6.heap.size 44 18 v7 c.fs.len (rowR Cf.vs c.fs)∧Ff w c D (.slice none 0 0) w5∧u6.heap.size≤w5.heap.size):=⟨by rw[Nat.zero_add] at h5;exact h5,HF5.out.grown g5 (fun k hk=>by cases hk),g5.size⟩;obtain⟨a7,c7,hv7⟩:=zf5 HO5.out.1;subst hv7;clear h5 g5 d2;have d2:=HO5.out.2.1.bD.cell 2 rfl;have g2:=HO5.out.2.1.bD.frozen 2))
 have HLT:=hyd HF5.out.bD.lt;have HF6:=hyd (show Ff w c D (.slice a7 c.fs.len c7) _∧(w5.setCell ⟨D,2,none⟩ (.slice a7 c.fs.len c7)).ownsRow u6.heap.size 44 18 (.slice a7 c.fs.len c7) c.fs.len (rowR Cf.vs c.fs)∧u6.heap.size≤(w5.setCell ⟨D,2,none⟩ (.slice a7 c.fs.len c7)).heap.size from ⟨(HO5.out.2.1.set _).1,zdl HO5.out.1 (fun b hb=>(HO5.out.2.1.set _).2 b (fun e=>by have:=(owb HO5.out.1 hb).1;have:=HLT.out;omega)),by have:=HO5.out.2.2;simpa [World.setCell] using this⟩)
 clear d2 g2 c2 hE HO5;generalize w5.setCell ⟨D,2,none⟩ (.slice a7 c.fs.len c7)=u7 at *;have d2:=HF6.out.1.bD.cell 2 rfl;have hE:=HF6.out.2.1;go_upto_region 8 with ((at_builtin;refine zcl Tryz.underlying26 Tryz.infoFn14 rfl (by decide) rfl _ _ rfl u6.heap.size (.slice a7 c.fs.len c7) c.fs.len (rowR Cf.vs c.fs) rfl hE m.ao m.len m.cap (rowR Cf.vs m) rfl HNN.out.2 (zjc Cf.vs_len m) (zk1 Cf.vs_len (by decide) (HD.out.2.2.kept HF6.out.1.bl)) (zm2 Cf.vs_one m) (by have:=HLN.out;unfold maxLen;omega) (by have:=HLN.out;omega) HF6.out.2.2 ?_;intro v8 w6 h6 g6;have HO6:Hid (w6.ownsRow u6.heap.size 44 18 v8 (c.fs.len+m.len) (rowR Cf.vs c.fs++rowR Cf.vs m)∧Ff w c D (.slice a7 c.fs.len c7) w6):=⟨h6,HF6.out.1.grown g6 (fun k hk=>by have:=(owb HF6.out.2.1 hk).1;have:=HLT.out;omega)⟩;obtain⟨a8,c8,hv8⟩:=zf5 HO6.out.1;subst hv8;clear h6 g6 d2;have d2:=HO6.out.2.bD.cell 2 rfl;have g2:=HO6.out.2.bD.frozen 2))
 have HF7:=hyd (show Ff w c D (.slice a8 (c.fs.len+m.len) c8) _∧(w6.setCell ⟨D,2,none⟩ (.slice a8 (c.fs.len+m.len) c8)).ownsRow u6.heap.size 44 18 (.slice a8 (c.fs.len+m.len) c8) (c.fs.len+m.len) (rowR Cf.vs c.fs++rowR Cf.vs m) from ⟨(HO6.out.2.set _).1,zdl HO6.out.1 (fun b hb=>(HO6.out.2.set _).2 b (fun e=>by have:=(owb HO6.out.1 hb).1;have:=HLT.out;omega))⟩)
 clear d2 g2 hE HO6 HF6;generalize w6.setCell ⟨D,2,none⟩ (.slice a8 (c.fs.len+m.len) c8)=u8 at *;have HA:Hid (∃s:Rw Cf,(.slice a8 (c.fs.len+m.len) c8:Value)=.slice s.ao s.len s.cap∧CfsAt u8 s∧s.len=c.fs.len+m.len∧s.x=Rw.cat c.fs m):=by
  refine Rw.of_own Cf.vs_len (base:=u6.heap.size) (e:=44) ?_ (by have:=HLN.out;omega) (fun i hi=>?_)
  ·rw[zth];exact HF7.out.2
  ·show (if i<c.fs.len then c.fs.x i else m.x (i - c.fs.len)).At u8
   split
   ·exact (HD.out.1.fs.kept HF7.out.1.bl).each i (by assumption)
   ·exact (HD.out.2.2.kept HF7.out.1.bl).each _ (by omega)
 obtain⟨s,hs,hsA,hsl,hsx⟩:=HA.out;clear HA;have HF8:=hyd HF7.out.1;clear HF7;rw[hs] at HF8;have HSS:=hyd (show s.len=c.fs.len+m.len∧s.x=Rw.cat c.fs m from ⟨hsl,hsx⟩);have h0:=zdg ⟨c.n,c.g,s⟩ u8 ⟨HD.out.1.n.kept HF8.out.bl,HD.out.1.g.kept HF8.out.bl,hsA⟩ (zv0 HSS.out.1 HSS.out.2 HC.out.2.1 HC.out.2.2) (HD.out.2.1.kept HF8.out.bl) (HC.out.1.kept HF8.out.bl);have d0:=HF8.out.bD.cell 0 rfl;have d1:=HF8.out.bD.cell 1 rfl;have d2:=HF8.out.bD.cell 2 rfl;clear hs hsA hsl hsx;go_wp2_with fail
 refine Calls.mono h0 ?_;rintro e u9 ⟨⟨k',r',er',rfl,hR'⟩,hb⟩;have HM:=hyd (zq2 (c:=c) (m:=m) HSS.out.1 HSS.out.2 HR.out hR');have H9:=hyd (HF8.out.kept hb);clear h0 hb hR' HR d0 d1 d2 HF8 HSS;by_cases he:er=0
 ·subst he;rcases HM.out rfl with h | h | ⟨h1,h2,h3⟩
  ·subst h;clear HM;go_wp2;go_ret;exact⟨rfl,H9.out.bl⟩
  ·subst h;clear HM;go_wp2;go_ret;exact⟨rfl,H9.out.bl⟩
  ·subst h1;clear HM;have c2:=H9.out.bC.cell 2 rfl;go_wp2;go_ret;exact⟨rfl,H9.out.bl⟩
 ·have e1:(er != 0)=true:=by simpa using he
  clear HM he;go_wp2;go_ret;exact⟨rfl,H9.out.bl⟩
end
end Go.Proofs.YtfobijdkoeifjaaGreatDoor
