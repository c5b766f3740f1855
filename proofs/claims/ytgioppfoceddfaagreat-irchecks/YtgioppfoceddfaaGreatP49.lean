import Derived.Test.YtgioppfoceddfaaGreatP44
import Derived.Test.YtgioppfoceddfaaGreatP24
import Derived.Test.YtgioppfoceddfaaGreatP30
import Derived.Test.YtgioppfoceddfaaGreatP16
import Derived.Test.YtgioppfoceddfaaGreatP47
import Derived.Test.YtgioppfoceddfaaGreatP46
import Derived.Test.YtgioppfoceddfaaGreatP45
import Derived.Test.YtgioppfoceddfaaGreatP48
set_option maxRecDepth 100000
set_option maxHeartbeats 32000000
namespace Go.Proofs.YtgioppfoceddfaaGreat
section
open Go Go.RowKit
theorem R1.grown {w0:World}{j:Jd}{v p:Nat}{ok:Bool}{r:Rst}{nd:Nd}{w u u':World}{row:Option Nat}(h:R1 w0 j v p ok r nd w u)(hg:u.grownBy u' row)(hr:∀k,row=some k→w.heap.size+1≤k):R1 w0 j v p ok r nd w u':=by
 have l:=h.l;have key:∀{B:Nat} {c:List Value} {t:TypeId},Blk u B c t→B≤w.heap.size→Blk u' B c t:=fun {B c t} hb hB=>by
  unfold Blk;rw[hg.block B hb.lt (fun e=>by have:=hr B e.symm;omega)]
  exact hb
 have hf:Foot (Tri v p r.q) u u'∨True:=Or.inr trivial;have bl:Below w0.heap.size w0 u':=by
  have hb:=h.g.x.bl;refine⟨hg.os.trans hb.os,hg.tape.trans hb.tape,hg.output.trans hb.output,Nat.le_trans hb.size hg.size,fun k hk=>?_⟩;rw[hg.block k (Nat.lt_of_lt_of_le hk hb.size) (fun e=>by have:=hr k e.symm;omega)]
  exact hb.block k hk
 refine⟨⟨⟨bl,key h.g.x.W (by omega),key h.g.x.S (by omega),?_,h.g.x.lv,h.g.x.lp,h.g.x.lq⟩,?_⟩,key h.N (Nat.le_refl _),l⟩
 ·obtain⟨ys,hy⟩:=h.g.x.R;exact⟨ys,key hy (by omega)⟩
 ·have f:=h.g.f;refine⟨hg.os.trans f.os,hg.tape.trans f.tape,hg.output.trans f.output,Nat.le_trans f.size hg.size,fun k hk hn=>?_⟩;rw[hg.block k (Nat.lt_of_lt_of_le hk f.size) (fun e=>by have:=hr k e.symm;omega)]
  exact f.block k hk hn
theorem zg6 {w w':World}{base:Nat}{e:TypeId}{size:Nat}{v:Value}{n:Nat}{xs:List Value}(h:w.ownsRow base e size v n xs)(ag:∀b,base≤b→b<w.heap.size→w'.heap[b]?=w.heap[b]?):w'.ownsRow base e size v n xs:=zrn h ag
def pr3 (bt:Int)(v:Value):List Value:=[.int .i64 3,.int .i64 bt,v,.int .i64 0,.int .i64 0]
theorem zv7 {w:World}{base:Nat}{v:Value}{p q:Ty}{bt:Int}(h:w.ownsRow base 38 5 v 2 (([]++p.vs)++q.vs))(hp:p.At w)(hq:q.At w):∃T:Ty,pr3 bt v=T.vs∧T.At w∧T.same (mk2 3 bt 0 0 p q)=true:=by
 obtain⟨hl,⟨rfl,e⟩ | ⟨g,cap,cur,rfl,hg,hh,hnc,hr⟩⟩:=h
 ·omega
 ·have ho:w.ownsRow base 38 5 (.slice (some ⟨g,0,none⟩) 2 cap) 2 (([]++p.vs)++q.vs):=⟨hl,Or.inr ⟨g,cap,cur,rfl,hg,hh,hnc,hr⟩⟩;refine⟨.mk 3 bt 0 0 (some ⟨g,0,none⟩) g 0 2 cap (fun i=>if i=0 then p else q),rfl,⟨fun _=>rfl,by decide,fun i hi=>⟨?_,?_⟩⟩,?_⟩
  ·refine zga fun k u hu=>?_;have hk:k<5:=by
    have h5:(if i=0 then p else q).vs.length=5:=rfl;rw[←h5];exact (List.getElem?_eq_some_iff.1 hu).1
   show w.cell? ⟨g,0+i*5+k,none⟩=some u
   rw[Nat.zero_add,ho.cellAt (i*5+k) (by omega)]
   match i,hi with
   | 0,_ =>
    have hu':p.vs[k]?=some u:=hu;rw[List.nil_append,Nat.zero_mul,Nat.zero_add,List.getElem?_append_left (by show k<5;exact hk)]
    exact hu'
   | 1,_ =>
    have hu':q.vs[k]?=some u:=hu;rw[List.nil_append,List.getElem?_append_right (by show 5≤1*5+k;omega)]
    have e:1*5+k - p.vs.length=k:=by show 1*5+k - 5=k;omega
    rw[e];exact hu'
  ·show (if i=0 then p else q).At w
   split
   ·exact hp
   ·exact hq
  ·rw[zbb];exact⟨⟨rfl,rfl,rfl,rfl,rfl⟩,fun i _=>same_refl _⟩
theorem zuw {w:World}{base:Nat}{e:TypeId}{size:Nat}{v:Value}{n:Nat}{xs:List Value}(h:w.ownsRow base e size v n xs)(hn:0<n):base≤w.heap.size:=by
 obtain⟨hl,⟨rfl,e⟩ | ⟨g,cap,cur,rfl,hg,hh,_⟩⟩:=h
 ·omega
 ·have:=(Array.getElem?_eq_some_iff.1 hh).1;omega
theorem zvx (w0:World)(j:Jd)(nd:Nd)(d:Nat)(v p:Nat)(r:Rst)(w:World)(hd:Dt w0 j)(hbt:j.bot=botI j.n j.g)(hx:Rx w0 j v p true r w)(hm:r.m=j.f.slots.len)(hdst:nd.h.dst=d)(hi:d<r.m)(a b:Nat)(ha:nd.h.a=a)(hb:nd.h.b=b)(hia:a<r.m)(hib:b<r.m)(hop:nd.h.op=6) :
  Calls Tryz.prog 61 #[.pointer (some ⟨v,0,none⟩),.pointer (some ⟨p,0,none⟩),.agg nd.vs.toArray] w fun e w'=>e=.returned (.tuple #[])∧zde w0 j nd d v p r w w':=by
 have HO:=hid hop;have HBT:=hid hbt;have HD:=hid (show Dt w0 j∧r.m=j.f.slots.len∧nd.h.dst=d∧d<r.m from ⟨hd,hm,hdst,hi⟩);have HR:=hid (R1.new nd hx);have HA:=hid (show nd.h.a=a∧nd.h.b=b∧a<r.m∧b<r.m from ⟨ha,hb,hia,hib⟩);clear hx hm hd hdst hi hop hbt ha hb hia hib;go_enter Tryz.func61,Tryz.ntmps61
 go_upto_region 1 with fail
 generalize (w.alloc (.cells nd.vs.toArray 86))=w1 at *;have c0:=HR.out.g.x.cw 0 (x:=.slice j.n.ao j.n.len j.n.cap) rfl;have c1:=HR.out.g.x.cw 1 (x:=.slice j.g.ao j.g.len j.g.cap) rfl;have hB:=zas j.n j.g w1 (HD.out.1.n.kept HR.out.g.x.bl) (HD.out.1.g.kept HR.out.g.x.bl);go_wp2_with fail
 refine hB.mono ?_;rintro _ w2 ⟨rfl,hb2⟩;have HR2:=hid (HR.out.kept hb2);clear hB hb2 HR c0 c1;rw[←HBT.out];have n0:=HR2.out.N.cell 0 (v:=.int .i64 6) (by rw[←HO.out];rfl)
 go_upto_region 14 with fail
 clear n0;have hbn:=zac w2 (.cells (pr3 j.bot (.slice none 0 0)).toArray 38);have HR3:=hid (show R1 w0 j v p true r nd w (w2.alloc (.cells (pr3 j.bot (.slice none 0 0)).toArray 38))∧Blk (w2.alloc (.cells (pr3 j.bot (.slice none 0 0)).toArray 38)) w2.heap.size (pr3 j.bot (.slice none 0 0)) 38 from ⟨HR2.out.kept hbn,Blk.new w2 _ _⟩);have HB7:=hid (show w.heap.size+1≤w2.heap.size from HR2.out.base);clear hbn HR2;unfold pr3 at HR3;go_upto_region 15 with fail
 generalize (w2.alloc (.cells [Value.int .i64 3,.int .i64 j.bot,.slice none 0 0,.int .i64 0,.int .i64 0].toArray 38))=w3 at *;generalize w2.heap.size=B7 at *;replace HR3:Hid (R1 w0 j v p true r nd w w3∧Blk w3 B7 (pr3 j.bot (.slice none 0 0)) 38∧True):=⟨HR3.out.1,HR3.out.2,trivial⟩;have D1:=(Below.refl w3.heap.size w3).drew;have HRd1:=hid (show R1 w0 j v p true r nd w w3.drew∧Blk w3.drew B7 (pr3 j.bot (.slice none 0 0)) 38 from ⟨HR3.out.1.kept D1,HR3.out.2.1.kept D1⟩);have pa:∀x1:Wd (fun q=>Blk q w.heap.size nd.vs 86∧Blk q B7 (pr3 j.bot (.slice none 0 0)) 38),x1.w.cell? ⟨w.heap.size,2,none⟩=some (.int .i64 a):=fun x1=>x1.2.1.cell 2 (by rw[←HA.out.1];rfl)
 have pv:∀x1:Wd (fun q=>Blk q w.heap.size nd.vs 86∧Blk q B7 (pr3 j.bot (.slice none 0 0)) 38),x1.w.cell? ⟨B7,2,none⟩=some (.slice none 0 0):=fun x1=>x1.2.2.cell 2 rfl;have hCN:∀q,(∃x1:Wd (fun q=>Blk q w.heap.size nd.vs 86∧Blk q B7 (pr3 j.bot (.slice none 0 0)) 38),q=x1.w)→q.rangeAt w.heap.size 0 nd.vs:=by rintro _ ⟨x1,rfl⟩;exact x1.2.1.range
 have hNE:Nonempty (Wd (fun q=>Blk q w.heap.size nd.vs 86∧Blk q B7 (pr3 j.bot (.slice none 0 0)) 38)):=⟨⟨_,HR3.out.1.N,HR3.out.2.1⟩⟩;refine zaw (fun q=>Blk q w.heap.size nd.vs 86∧Blk q B7 (pr3 j.bot (.slice none 0 0)) 38) 11 [0,1,2,3,4,5,6] 5 (by kernel_rfl) rfl (by kernel_rfl) ⟨HRd1.out.1.N,HRd1.out.2⟩ ?_;simp only[List.filterMap,zD,zE];iterate 4 go_big_quiet_step (fail)
 go_big_quiet_want;refine zaa 86 (.tmp 5) rfl w.heap.size 0 (by kernel_rfl) nd.vs _ hCN Tryz.underlying86 rfl (by kernel_rfl) ?_;simp only[Act.put,zA,zB,zC];go_big_quiet_on;iterate 2 go_big_quiet_step (fail)
 refine wpQuiet_nil ?_;clear pa pv hCN hNE D1 HR3;generalize w3.drew=a1 at *;refine zaj (rs:=[7]) (by kernel_rfl) (by simp) ?_;refine AllReadyL.cons rfl (fun K hK=>?_) AllReadyL.nil;rw[if_pos (by rfl)];go_simp;refine (HRd1.out.1.read HD.out.1 HD.out.2.1 HA.out.2.2.1).mono ?_;rintro _ b1 ⟨rfl,h1,hs1,hk1⟩;have HRe1:=hid (show R1 w0 j v p (true&&r.set a) r nd w b1∧Blk b1 B7 (pr3 j.bot (.slice none 0 0)) 38 from ⟨h1,by unfold Blk;rw[hk1 B7 HB7.out (HRd1.out.2).lt];exact HRd1.out.2⟩)
 refine hK.out _ _ (fun _=>⟨HRe1.out.1.N,HRe1.out.2⟩) ?_;clear hK K;clear h1 hs1 hk1 HRd1;refine zaj (rs:=[8]) (by kernel_rfl) (by simp) ?_;refine AllReadyL.cons rfl (fun K hK=>?_) AllReadyL.nil;rw[if_pos (by rfl)];have hsl:=zel (j.read nd a) b1;have hbn:=zac b1 (.cells (j.read nd a).vs.toArray 38);have HRf1:=hid (show (R1 w0 j v p (true&&r.set a) r nd w (b1.alloc (.cells (j.read nd a).vs.toArray 38))∧Blk (b1.alloc (.cells (j.read nd a).vs.toArray 38)) B7 (pr3 j.bot (.slice none 0 0)) 38)∧Blk (b1.alloc (.cells (j.read nd a).vs.toArray 38)) b1.heap.size (j.read nd a).vs 38 from ⟨⟨HRe1.out.1.kept hbn,(HRe1.out.2).kept hbn⟩,Blk.new b1 _ _⟩);refine zbe 36 1 #[(0,.tmp 80)] rfl #[(0,.agg (j.read nd a).vs.toArray)] (by kernel_rfl) hsl ?_;refine hK.out _ _ (fun _=>⟨HRf1.out.1.1.N,HRf1.out.1.2⟩) ?_;clear hK K;clear hsl hbn HRe1;generalize (b1.alloc (.cells (j.read nd a).vs.toArray 38))=c1 at *;generalize b1.heap.size=BS1 at *;refine zaj (rs:=[9]) (by kernel_rfl) (by simp) ?_;refine AllReadyL.cons rfl (fun K hK=>?_) AllReadyL.nil;rw[if_pos (by rfl)];refine zff Tryz.underlying36 Tryz.infoTy5 rfl (by decide) (.tmp 74) (.tmp 81) rfl c1.heap.size (.slice none 0 0) 0 [] (by kernel_rfl) (World.ownsRow_nil _ _ _ _) (some ⟨BS1,0,none⟩) 1 1 (j.read nd a).vs (by kernel_rfl) (fun h=>by cases h) rfl (fun a ha i u hu=>by have e:a=⟨BS1,0,none⟩:=(Option.some.inj ha).symm;subst e;rw[adp,Nat.zero_add];exact (HRf1.out.2).cell i hu) (fun u hu=>List.all_eq_true.1 (j.read nd a).vs_one u hu) (by decide) (by decide) (Nat.le_refl _) ?_
 intro v1 d1 ho hg;have hbd:Below c1.heap.size c1 d1:=(Below.refl _ _).grown hg (Nat.le_refl _) (fun k hk=>by cases hk);have HRg1:=hid (show R1 w0 j v p (true&&r.set a) r nd w d1∧Blk d1 B7 (pr3 j.bot (.slice none 0 0)) 38∧d1.ownsRow c1.heap.size 38 5 v1 1 ([]++(j.read nd a).vs)∧w.heap.size+1≤c1.heap.size∧c1.heap.size≤d1.heap.size∧B7<c1.heap.size from ⟨HRf1.out.1.1.kept hbd,HRf1.out.1.2.kept hbd,ho,HRf1.out.1.1.base,hbd.size,HRf1.out.1.2.lt⟩);refine hK.out _ _ (fun _=>⟨HRg1.out.1.N,HRg1.out.2.1⟩) ?_;clear hK K;clear ho hg HRf1 hbd;obtain⟨ao1,cp1,hv1⟩:=zj2 HRg1.out.2.2.1;subst hv1;refine zaj (rs:=[10]) (by kernel_rfl) (by simp) ?_;refine AllReadyL.cons rfl (fun K hK=>?_) AllReadyL.nil;rw[if_pos (by rfl)];go_simp;refine hK.out _ _ (fun _=>⟨HRg1.out.1.N,HRg1.out.2.1⟩) ?_;clear hK K;refine zaj (rs:=[11]) (by kernel_rfl) (by simp) ?_;refine AllReadyL.cons rfl (fun K hK=>?_) AllReadyL.nil;rw[if_pos (by rfl)];have cc:=HRg1.out.2.1.cell 2 (v:=(.slice none 0 0)) rfl;have ff:=HRg1.out.2.1.frozen 2;have WW:=WroteB.cellR HRg1.out.2.1 2 (.slice ao1 1 cp1);have HBSx:=hid (show w.heap.size+1≤c1.heap.size∧c1.heap.size≤d1.heap.size from ⟨HRg1.out.2.2.2.1,HRg1.out.2.2.2.2.1⟩);have HB7b:=hid (show B7<c1.heap.size from HRg1.out.2.2.2.2.2);have HRh1:=hid (show R1 w0 j v p (true&&r.set a) r nd w (d1.setCell ⟨B7,2,none⟩ (.slice ao1 1 cp1))∧Blk (d1.setCell ⟨B7,2,none⟩ (.slice ao1 1 cp1)) B7 (pr3 j.bot (.slice ao1 1 cp1)) 38∧(d1.setCell ⟨B7,2,none⟩ (.slice ao1 1 cp1)).ownsRow c1.heap.size 38 5 (.slice ao1 1 cp1) 1 ([]++(j.read nd a).vs)∧c1.heap.size≤(d1.setCell ⟨B7,2,none⟩ (.slice ao1 1 cp1)).heap.size from ⟨HRg1.out.1.other WW HB7.out,WW.blk,zg6 HRg1.out.2.2.1 (fun b hb _=>WW.other b (by have:=HB7b.out;omega)),by rw[WW.size];exact HBSx.out.2⟩)
 go_simp;refine hK.out _ _ (fun h=>absurd rfl h) ?_;clear hK K;refine zbc (by kernel_rfl) ?_ _;refine⟨(fun c hc=>by cases hc),?_⟩;clear cc ff WW HRg1;generalize (d1.setCell ⟨B7,2,none⟩ (.slice ao1 1 cp1))=e1 at *;have HBS:=hid (show w.heap.size+1≤c1.heap.size∧c1.heap.size≤e1.heap.size from ⟨HBSx.out.1,HRh1.out.2.2.2⟩);clear HBSx;generalize c1.heap.size=bs at *;generalize hok1:(true&&r.set a)=ok1 at *;have HKo1:=hid hok1;clear hok1;go_upto_region 16 with fail
 have D1:=(Below.refl e1.heap.size e1).drew;have HRd2:=hid (show R1 w0 j v p ok1 r nd w e1.drew∧Blk e1.drew B7 (pr3 j.bot (.slice ao1 1 cp1)) 38∧e1.drew.ownsRow bs 38 5 (.slice ao1 1 cp1) 1 ([]++(j.read nd a).vs) from ⟨HRh1.out.1.kept D1,HRh1.out.2.1.kept D1,owk HRh1.out.2.2.1 D1⟩);have pa:∀x1:Wd (fun q=>Blk q w.heap.size nd.vs 86∧Blk q B7 (pr3 j.bot (.slice ao1 1 cp1)) 38),x1.w.cell? ⟨w.heap.size,3,none⟩=some (.int .i64 b):=fun x1=>x1.2.1.cell 3 (by rw[←HA.out.2.1];rfl)
 have pv:∀x1:Wd (fun q=>Blk q w.heap.size nd.vs 86∧Blk q B7 (pr3 j.bot (.slice ao1 1 cp1)) 38),x1.w.cell? ⟨B7,2,none⟩=some (.slice ao1 1 cp1):=fun x1=>x1.2.2.cell 2 rfl;have hCN:∀q,(∃x1:Wd (fun q=>Blk q w.heap.size nd.vs 86∧Blk q B7 (pr3 j.bot (.slice ao1 1 cp1)) 38),q=x1.w)→q.rangeAt w.heap.size 0 nd.vs:=by rintro _ ⟨x1,rfl⟩;exact x1.2.1.range
 have hNE:Nonempty (Wd (fun q=>Blk q w.heap.size nd.vs 86∧Blk q B7 (pr3 j.bot (.slice ao1 1 cp1)) 38)):=⟨⟨_,HRh1.out.1.N,HRh1.out.2.1⟩⟩;refine zaw (fun q=>Blk q w.heap.size nd.vs 86∧Blk q B7 (pr3 j.bot (.slice ao1 1 cp1)) 38) 11 [0,1,2,3,4,5,6] 5 (by kernel_rfl) rfl (by kernel_rfl) ⟨HRd2.out.1.N,HRd2.out.2.1⟩ ?_;simp only[List.filterMap,zD,zE];iterate 4 go_big_quiet_step (fail)
 go_big_quiet_want;refine zaa 86 (.tmp 5) rfl w.heap.size 0 (by kernel_rfl) nd.vs _ hCN Tryz.underlying86 rfl (by kernel_rfl) ?_;simp only[Act.put,zA,zB,zC];go_big_quiet_on;iterate 2 go_big_quiet_step (fail)
 refine wpQuiet_nil ?_;clear pa pv hCN hNE D1 HRh1;generalize e1.drew=a2 at *;refine zaj (rs:=[7]) (by kernel_rfl) (by simp) ?_;refine AllReadyL.cons rfl (fun K hK=>?_) AllReadyL.nil;rw[if_pos (by rfl)];go_simp;refine (HRd2.out.1.read HD.out.1 HD.out.2.1 HA.out.2.2.2).mono ?_;rintro _ b2 ⟨rfl,h1,hs1,hk1⟩;have HRe2:=hid (show R1 w0 j v p (ok1&&r.set b) r nd w b2∧Blk b2 B7 (pr3 j.bot (.slice ao1 1 cp1)) 38∧b2.ownsRow bs 38 5 (.slice ao1 1 cp1) 1 ([]++(j.read nd a).vs) from ⟨h1,by unfold Blk;rw[hk1 B7 HB7.out (HRd2.out.2.1).lt];exact HRd2.out.2.1,zg6 HRd2.out.2.2 (fun b hb hlt=>hk1 b (Nat.le_trans HBS.out.1 hb) hlt)⟩)
 refine hK.out _ _ (fun _=>⟨HRe2.out.1.N,HRe2.out.2.1⟩) ?_;clear hK K;clear h1 hs1 hk1 HRd2;refine zaj (rs:=[8]) (by kernel_rfl) (by simp) ?_;refine AllReadyL.cons rfl (fun K hK=>?_) AllReadyL.nil;rw[if_pos (by rfl)];have hsl:=zel (j.read nd b) b2;have hbn:=zac b2 (.cells (j.read nd b).vs.toArray 38);have HRf2:=hid (show (R1 w0 j v p (ok1&&r.set b) r nd w (b2.alloc (.cells (j.read nd b).vs.toArray 38))∧Blk (b2.alloc (.cells (j.read nd b).vs.toArray 38)) B7 (pr3 j.bot (.slice ao1 1 cp1)) 38)∧Blk (b2.alloc (.cells (j.read nd b).vs.toArray 38)) b2.heap.size (j.read nd b).vs 38∧(b2.alloc (.cells (j.read nd b).vs.toArray 38)).ownsRow bs 38 5 (.slice ao1 1 cp1) 1 ([]++(j.read nd a).vs) from ⟨⟨HRe2.out.1.kept hbn,(HRe2.out.2.1).kept hbn⟩,Blk.new b2 _ _,owk HRe2.out.2.2 hbn⟩);refine zbe 36 1 #[(0,.tmp 91)] rfl #[(0,.agg (j.read nd b).vs.toArray)] (by kernel_rfl) hsl ?_;refine hK.out _ _ (fun _=>⟨HRf2.out.1.1.N,HRf2.out.1.2⟩) ?_;clear hK K;clear hsl hbn HRe2;generalize (b2.alloc (.cells (j.read nd b).vs.toArray 38))=c2 at *;generalize b2.heap.size=BS2 at *;refine zaj (rs:=[9]) (by kernel_rfl) (by simp) ?_;refine AllReadyL.cons rfl (fun K hK=>?_) AllReadyL.nil;rw[if_pos (by rfl)];refine zff Tryz.underlying36 Tryz.infoTy5 rfl (by decide) (.tmp 85) (.tmp 92) rfl bs (.slice ao1 1 cp1) 1 ([]++(j.read nd a).vs) (by kernel_rfl) HRf2.out.2.2 (some ⟨BS2,0,none⟩) 1 1 (j.read nd b).vs (by kernel_rfl) (fun h=>by cases h) rfl (fun a ha i u hu=>by have e:a=⟨BS2,0,none⟩:=(Option.some.inj ha).symm;subst e;rw[adp,Nat.zero_add];exact (HRf2.out.2.1).cell i hu) (fun u hu=>List.all_eq_true.1 (j.read nd b).vs_one u hu) (by decide) (by decide) (zuw HRf2.out.2.2 (by decide)) ?_
 intro v2 d2 ho hg;have HRg2:=hid (show R1 w0 j v p (ok1&&r.set b) r nd w d2∧Blk d2 B7 (pr3 j.bot (.slice ao1 1 cp1)) 38∧d2.ownsRow bs 38 5 v2 2 (([]++(j.read nd a).vs)++(j.read nd b).vs) from ⟨HRf2.out.1.1.grown hg (fun m hm=>Nat.le_trans HBS.out.1 (owb HRf2.out.2.2 hm).1),by unfold Blk;rw[hg.block B7 HRf2.out.1.2.lt (fun e=>by have:=(owb HRf2.out.2.2 e.symm).1;have:=HB7b.out;omega)];exact HRf2.out.1.2,ho⟩)
 refine hK.out _ _ (fun _=>⟨HRg2.out.1.N,HRg2.out.2.1⟩) ?_;clear hK K;clear ho hg HRf2;obtain⟨ao2,cp2,hv2⟩:=zj2 HRg2.out.2.2;subst hv2;refine zaj (rs:=[10]) (by kernel_rfl) (by simp) ?_;refine AllReadyL.cons rfl (fun K hK=>?_) AllReadyL.nil;rw[if_pos (by rfl)];go_simp;refine hK.out _ _ (fun _=>⟨HRg2.out.1.N,HRg2.out.2.1⟩) ?_;clear hK K;refine zaj (rs:=[11]) (by kernel_rfl) (by simp) ?_;refine AllReadyL.cons rfl (fun K hK=>?_) AllReadyL.nil;rw[if_pos (by rfl)];have cc:=HRg2.out.2.1.cell 2 (v:=(.slice ao1 1 cp1)) rfl;have ff:=HRg2.out.2.1.frozen 2;have WW:=WroteB.cellR HRg2.out.2.1 2 (.slice ao2 2 cp2);have HRh2:=hid (show R1 w0 j v p (ok1&&r.set b) r nd w (d2.setCell ⟨B7,2,none⟩ (.slice ao2 2 cp2))∧Blk (d2.setCell ⟨B7,2,none⟩ (.slice ao2 2 cp2)) B7 (pr3 j.bot (.slice ao2 2 cp2)) 38∧(d2.setCell ⟨B7,2,none⟩ (.slice ao2 2 cp2)).ownsRow bs 38 5 (.slice ao2 2 cp2) 2 (([]++(j.read nd a).vs)++(j.read nd b).vs) from ⟨HRg2.out.1.other WW HB7.out,WW.blk,zg6 HRg2.out.2.2 (fun b hb _=>WW.other b (by have:=HB7b.out;omega))⟩)
 go_simp;refine hK.out _ _ (fun h=>absurd rfl h) ?_;clear hK K;refine zbc (by kernel_rfl) ?_ _;refine⟨(fun c hc=>by cases hc),?_⟩;clear cc ff WW HRg2;generalize (d2.setCell ⟨B7,2,none⟩ (.slice ao2 2 cp2))=e2 at *;generalize hok2:(ok1&&r.set b)=ok2 at *;have HKo2:=hid hok2;clear hok2;obtain⟨T,hT,hTA,hTS⟩:=zv7 (bt:=j.bot) HRh2.out.2.2 ((zc9 nd HD.out.1 (by have h1:=HA.out.2.2.1;have h2:=HD.out.2.1;omega)).kept HRh2.out.1.g.x.bl) ((zc9 nd HD.out.1 (by have h1:=HA.out.2.2.2;have h2:=HD.out.2.1;omega)).kept HRh2.out.1.g.x.bl)
 have HT:=hid (show T.At e2∧T.same (mk2 3 j.bot 0 0 (j.read nd a) (j.read nd b))=true from ⟨hTA,hTS⟩);have bN:=HRh2.out.1.N;have bT:=HRh2.out.2.1;rw[hT] at bT;clear hT hTA hTS;go_wp2_with (first | (refine wpList_load_mid rfl 86 (.tmp 5) rfl w.heap.size 0 (by kernel_rfl) nd.vs _ bN.range Tryz.underlying86 rfl (by kernel_rfl) ?_) | (refine wpList_load_mid rfl 38 (.tmp 7) rfl B7 0 (by kernel_rfl) T.vs _ bT.range Tryz.underlying38 rfl (by kernel_rfl) ?_))
 refine (zaz w0 j nd T (-1) d v p ok2 r e2 HD.out.1 HRh2.out.1.g.x HD.out.2.1 HD.out.2.2.1 HD.out.2.2.2 HT.out.1).mono ?_;rintro _ f2 ⟨rfl,hg⟩;have HR9:=hid (HRh2.out.1.next hg rfl);clear hg;go_wp2;go_end0;refine⟨rfl,_,_,HR9.out.g,rfl,rfl,⟨?_,fun _=>by rw[zo7 HO.out]⟩⟩;rw[zo7 HO.out,zcl r (by have:=HO.out;omega) HA.out.1 HA.out.2.1,←HKo2.out,←HKo1.out,HA.out.1,HA.out.2.1]
 have tn:(mk2 3 j.bot 0 0 (j.read nd a) (j.read nd b)).Nd:=ziw (zc9 nd HD.out.1 (by have h1:=HA.out.2.2.1;have h2:=HD.out.2.1;omega)).nd (zc9 nd HD.out.1 (by have h1:=HA.out.2.2.2;have h2:=HD.out.2.1;omega)).nd
 rw[zck (zbf HT.out.1.nd) (zbf tn) (zch HT.out.1.nd tn HT.out.2)];rfl
theorem zsx (w0:World)(j:Jd)(nd:Nd)(v p:Nat)(r:Rst)(o:Option Sta)(w:World)(hK:Kn w0 j)(hx:Rx w0 j v p true r w)(hop:nd.h.op=16)(hw:∀u,Rx w0 j v p true r u→Calls Tryz.prog 101 #[.pointer (some ⟨v,0,none⟩),.pointer (some ⟨p,0,none⟩),.agg nd.vs.toArray] u fun e w'=>e=.returned (.tuple #[])∧StpR w0 j v p r o u w') :
  Calls Tryz.prog 61 #[.pointer (some ⟨v,0,none⟩),.pointer (some ⟨p,0,none⟩),.agg nd.vs.toArray] w fun e w'=>e=.returned (.tuple #[])∧StpR w0 j v p r o w w':=by
 have HO:=hid hop;have HK:=hid hK;have HW:=hid hw;have HR:=hid (R1.new nd hx);clear hx hop hK hw;go_enter Tryz.func61,Tryz.ntmps61
 go_upto_region 1 with fail
 generalize (w.alloc (.cells nd.vs.toArray 86))=w1 at *;have c0:=HR.out.g.x.cw 0 (x:=.slice j.n.ao j.n.len j.n.cap) rfl;have c1:=HR.out.g.x.cw 1 (x:=.slice j.g.ao j.g.len j.g.cap) rfl;have hB:=zas j.n j.g w1 (HK.out.d.n.kept HR.out.g.x.bl) (HK.out.d.g.kept HR.out.g.x.bl);go_wp2_with fail
 refine hB.mono ?_;rintro _ w2 ⟨rfl,hb2⟩;have HR2:=hid (HR.out.kept hb2);clear hB hb2 HR c0 c1;have n0:=HR2.out.N.cell 0 (v:=.int .i64 16) (by rw[←HO.out];rfl)
 go_upto_region 43 with fail
 clear n0;have bN:=HR2.out.N;go_wp2_with (first | (refine wpList_load_mid rfl 86 (.tmp 5) rfl w.heap.size 0 (by kernel_rfl) nd.vs _ bN.range Tryz.underlying86 rfl (by kernel_rfl) ?_))
 refine (HW.out w2 HR2.out.g.x).mono ?_;rintro _ w3 ⟨rfl,ok3,r3,hg,hq,hs⟩;have HR3:=hid (show R1 w0 j v p ok3 r3 nd w w3∧(r3.q=r.q∧r3.m=r.m)∧ok3=o.isSome∧∀s',o=some s'→Rel r3 s' from ⟨HR2.out.next hg hq.1,hq,hs⟩);clear hg hq hs;go_wp2;go_end0;exact⟨rfl,ok3,r3,HR3.out.1.g,HR3.out.2.1,HR3.out.2.2⟩
theorem zrf (w0:World)(j:Jd)(nd:Nd)(v p:Nat)(r:Rst)(o:Option Sta)(w:World)(hK:Kn w0 j)(hx:Rx w0 j v p true r w)(hop:nd.h.op=17)(hw:∀u,Rx w0 j v p true r u→Calls Tryz.prog 101 #[.pointer (some ⟨v,0,none⟩),.pointer (some ⟨p,0,none⟩),.agg nd.vs.toArray] u fun e w'=>e=.returned (.tuple #[])∧StpR w0 j v p r o u w') :
  Calls Tryz.prog 61 #[.pointer (some ⟨v,0,none⟩),.pointer (some ⟨p,0,none⟩),.agg nd.vs.toArray] w fun e w'=>e=.returned (.tuple #[])∧StpR w0 j v p r o w w':=by
 have HO:=hid hop;have HK:=hid hK;have HW:=hid hw;have HR:=hid (R1.new nd hx);clear hx hop hK hw;go_enter Tryz.func61,Tryz.ntmps61
 go_upto_region 1 with fail
 generalize (w.alloc (.cells nd.vs.toArray 86))=w1 at *;have c0:=HR.out.g.x.cw 0 (x:=.slice j.n.ao j.n.len j.n.cap) rfl;have c1:=HR.out.g.x.cw 1 (x:=.slice j.g.ao j.g.len j.g.cap) rfl;have hB:=zas j.n j.g w1 (HK.out.d.n.kept HR.out.g.x.bl) (HK.out.d.g.kept HR.out.g.x.bl);go_wp2_with fail
 refine hB.mono ?_;rintro _ w2 ⟨rfl,hb2⟩;have HR2:=hid (HR.out.kept hb2);clear hB hb2 HR c0 c1;have n0:=HR2.out.N.cell 0 (v:=.int .i64 17) (by rw[←HO.out];rfl)
 go_upto_region 43 with fail
 clear n0;have bN:=HR2.out.N;go_wp2_with (first | (refine wpList_load_mid rfl 86 (.tmp 5) rfl w.heap.size 0 (by kernel_rfl) nd.vs _ bN.range Tryz.underlying86 rfl (by kernel_rfl) ?_))
 refine (HW.out w2 HR2.out.g.x).mono ?_;rintro _ w3 ⟨rfl,ok3,r3,hg,hq,hs⟩;have HR3:=hid (show R1 w0 j v p ok3 r3 nd w w3∧(r3.q=r.q∧r3.m=r.m)∧ok3=o.isSome∧∀s',o=some s'→Rel r3 s' from ⟨HR2.out.next hg hq.1,hq,hs⟩);clear hg hq hs;go_wp2;go_end0;exact⟨rfl,ok3,r3,HR3.out.1.g,HR3.out.2.1,HR3.out.2.2⟩
theorem zi6 {r:Rst}{s:Sta}{l:List Int}{m:Nat}(hr:Rel r s)(hg:s.gone=false)(hm:r.m=m)(hl:slotsB m l=true):l.all (fun i=>r.set i.toNat)=l.all (fun i=>s.set i.toNat):=by
 rw[Bool.eq_iff_iff,List.all_eq_true,List.all_eq_true];have key:∀x ∈ l,r.set x.toNat=s.set x.toNat:=fun x hx=>hr.2 hg x.toNat (by have h:=zc8 hl hx;rw[hm];omega)
 exact⟨fun h x hx=>by rw[←key x hx];exact h x hx,fun h x hx=>by rw[key x hx];exact h x hx⟩
theorem zsg {j:Jd}{nd:Nd}{d:Nat}{r r':Rst}{s:Sta}{ok':Bool}(hr:Rel r s)(hg:s.gone=false)(hm:r.m=j.f.slots.len)(hl:slotsB j.f.slots.len nd.h.rds=true)(hd:nd.h.dst=d)(h:ze6 j nd d r ok' r'):ok'=(if nd.h.rds.all (fun i=>s.set i.toNat)=true then j.make nd s else none).isSome∧∀s',(if nd.h.rds.all (fun i=>s.set i.toNat)=true then j.make nd s else none)=some s'→Rel r' s':=by
 obtain⟨h1,h2⟩:=h;rw[zi6 hr hg hm hl] at h1;have hd':nd.h.dst.toNat=d:=by rw[hd];rfl
 cases q1:nd.h.rds.all (fun i=>s.set i.toNat)
 ·rw[q1] at h1;rw[if_neg (by simp)];exact⟨h1,fun s' h=>by cases h⟩
 ·rw[q1] at h1;rw[if_pos rfl];unfold Jd.make;rw[hd'];cases q2:belB j.n j.g (zai j.n j.g (j.makes nd).1 (zad j.n j.g nd.h.env (j.makes nd).2)) (j.f.slots.ps d)
  ·rw[q2] at h1;rw[if_neg (by simp)];exact⟨h1,fun s' h=>by cases h⟩
  ·rw[q2] at h1;rw[if_pos rfl];have e:=h2 h1;refine⟨h1,fun s' h=>?_⟩;rw[←Option.some.inj h,e];refine⟨⟨?_,?_,hr.1.2.2⟩,fun _ i hi=>?_⟩
   ·show zad j.n j.g r.at_ _=_;rw[hr.1.1]
   ·show zad j.n j.g r.x _=_;rw[hr.1.2.1]
   ·show upd r.set d i=upd s.set d i
    unfold upd;split
    ·rfl
    ·exact hr.2 hg i hi
theorem zrd {j:Jd}{nd:Nd}{s:Sta}(h:nd.h.op≤13):stpO j nd s=j.make nd s:=by
 unfold stpO;rw[if_neg (by omega),if_neg (by omega),if_neg (by omega),if_neg (by omega),if_neg (by omega)]
theorem zwi {w0:World}{j:Jd}(hK:Kn w0 j)(nd:Nd)(hA:nd.At w0)(hs:nd.shp j.n j.g j.fns.len j.f.slots.len=true)(hb:nd.h.op=16∨nd.h.op=17→zen w0 j nd.bd∧zen w0 j nd.el):zkd w0 j nd:=by
 intro v p r s w hx hr hg hl hm;obtain⟨hrd,hwr,hne⟩:=zhf hA hs;have hop:=zlf hne;have toNat:∀{x:Int},0≤x∧x<j.f.slots.len→∃a:Nat,x=a∧a<r.m:=fun {x} h=>⟨x.toNat,by omega,by omega⟩;have dst:nd.h.wrs=true→∃d:Nat,nd.h.dst=d∧d<r.m:=fun h=>toNat (hwr h);have rd1:(nd.h.op=3∨nd.h.op=5∨nd.h.op=7∨nd.h.op=8∨nd.h.op=12∨nd.h.op=13∨nd.h.op=15∨nd.h.op=16∨nd.h.op=18)→∃a:Nat,nd.h.a=a∧a<r.m:=fun h=>by
  have e:nd.h.rds=[nd.h.a]:=by unfold Hd.rds;rw[if_pos h]
  rw[e] at hrd;exact toNat (zc8 hrd (List.mem_singleton.2 rfl))
 have rd2:(nd.h.op=4∨nd.h.op=6∨nd.h.op=11∨nd.h.op=14)→(∃a:Nat,nd.h.a=a∧a<r.m)∧∃b:Nat,nd.h.b=b∧b<r.m:=fun h=>by
  have e:nd.h.rds=[nd.h.a,nd.h.b]:=by unfold Hd.rds;rw[if_neg (by omega),if_pos h]
  rw[e] at hrd;exact⟨toNat (zc8 hrd (by simp)),toNat (zc8 hrd (by simp))⟩
 have wrs:nd.h.op≠14→nd.h.op≠15→nd.h.op≠16→nd.h.op≠18→nd.h.wrs=true:=fun h1 h2 h3 h4=>by unfold Hd.wrs;simp[h1,h2,h3,h4]
 have mk:∀{d:Nat},nd.h.op≤13→nd.h.dst=d→(Calls Tryz.prog 61 #[.pointer (some ⟨v,0,none⟩),.pointer (some ⟨p,0,none⟩),.agg nd.vs.toArray] w fun e w'=>e=.returned (.tuple #[])∧zde w0 j nd d v p r w w')→Calls Tryz.prog 61 #[.pointer (some ⟨v,0,none⟩),.pointer (some ⟨p,0,none⟩),.agg nd.vs.toArray] w fun e w'=>e=.returned (.tuple #[])∧StpR w0 j v p r (if nd.h.rds.all (fun i=>s.set i.toNat)=true then stpO j nd s else none) w w':=fun {d} ho hd h=>h.mono fun e w' ⟨h1,ok',r',h2,h3,h4,h5⟩=>by
  have:=zsg hr hg hm hrd hd h5;rw[zrd ho];exact⟨h1,ok',r',h2,⟨h3,h4⟩,this⟩
 rcases (show nd.h.op=1∨nd.h.op=2∨nd.h.op=3∨nd.h.op=4∨nd.h.op=5∨nd.h.op=6∨nd.h.op=7∨nd.h.op=8∨nd.h.op=9∨nd.h.op=10∨nd.h.op=11∨nd.h.op=12∨nd.h.op=13∨nd.h.op=14∨nd.h.op=15∨nd.h.op=16∨nd.h.op=17∨nd.h.op=18 by omega) with h | h | h | h | h | h | h | h | h | h | h | h | h | h | h | h | h | h
 ·obtain⟨d,hd,hi⟩:=dst (wrs (by omega) (by omega) (by omega) (by omega));exact mk (by omega) hd (zvu w0 j nd d v p r w hK.d hK.bt hx hm hd hi h)
 ·obtain⟨d,hd,hi⟩:=dst (wrs (by omega) (by omega) (by omega) (by omega));exact mk (by omega) hd (zwa w0 j nd d v p r w hK.d hK.bt hx hm hd hi h)
 ·obtain⟨d,hd,hi⟩:=dst (wrs (by omega) (by omega) (by omega) (by omega));obtain⟨a,ha,hia⟩:=rd1 (by omega);exact mk (by omega) hd (zv8 w0 j nd d v p r w hK.d hK.bt hx hm hd hi a ha hia h)
 ·obtain⟨d,hd,hi⟩:=dst (wrs (by omega) (by omega) (by omega) (by omega));obtain⟨⟨a,ha,hia⟩,b,hb',hib⟩:=rd2 (by omega);have hN:6≤nd.h.n∧nd.h.n≤12:=by
   have hne':=hne;unfold needB at hne';rw[if_neg (by omega),if_pos h] at hne'
   simpa using hne'
  exact mk (by omega) hd (zuy w0 j nd d v p r w hK.d hK.bt hx hm hd hi a b ha hb' hia hib hN h)
 ·obtain⟨d,hd,hi⟩:=dst (wrs (by omega) (by omega) (by omega) (by omega));obtain⟨a,ha,hia⟩:=rd1 (by omega);exact mk (by omega) hd (zvq w0 j nd d v p r w hK.d hK.bt hx hm hd hi a ha hia h)
 ·obtain⟨d,hd,hi⟩:=dst (wrs (by omega) (by omega) (by omega) (by omega));obtain⟨⟨a,ha,hia⟩,b,hb',hib⟩:=rd2 (by omega);exact mk (by omega) hd (zvx w0 j nd d v p r w hK.d hK.bt hx hm hd hi a b ha hb' hia hib h)
 ·obtain⟨d,hd,hi⟩:=dst (wrs (by omega) (by omega) (by omega) (by omega));obtain⟨a,ha,hia⟩:=rd1 (by omega);exact mk (by omega) hd (zug w0 j nd d v p r w hK.d hK.bt hx hm hd hi a ha hia h)
 ·obtain⟨d,hd,hi⟩:=dst (wrs (by omega) (by omega) (by omega) (by omega));obtain⟨a,ha,hia⟩:=rd1 (by omega);exact mk (by omega) hd (zu0 w0 j nd d v p r w hK.d hK.bt hx hm hd hi a ha hia h)
 ·obtain⟨d,hd,hi⟩:=dst (wrs (by omega) (by omega) (by omega) (by omega));have hn:=zkf hne h;have hai:∀i,i<nd.h.ar.len→∃a:Nat,nd.h.ar.f i=a∧a<r.m:=fun i hi=>by
   have e:nd.h.rds=(List.range nd.h.ar.len).map nd.h.ar.f:=by unfold Hd.rds;rw[if_neg (by omega),if_neg (by omega),if_pos h]
   rw[e] at hrd;exact toNat (zc8 hrd (List.mem_map.2 ⟨i,List.mem_range.2 hi,rfl⟩))
  exact mk (by omega) hd (zv5 w0 j nd d v p r w hK.d hK.bt hx hm hd hi nd.h.n.toNat (by omega) (by omega) hA.ar hai h)
 ·obtain⟨d,hd,hi⟩:=dst (wrs (by omega) (by omega) (by omega) (by omega));exact mk (by omega) hd (zt3 w0 j nd d v p r w hK.d hK.bt hx hm hd hi h)
 ·obtain⟨d,hd,hi⟩:=dst (wrs (by omega) (by omega) (by omega) (by omega));obtain⟨⟨a,ha,hia⟩,b,hb',hib⟩:=rd2 (by omega);exact mk (by omega) hd (zsk w0 j nd d v p r w hK.d hK.bt hx hm hd hi a b ha hb' hia hib h)
 ·obtain⟨d,hd,hi⟩:=dst (wrs (by omega) (by omega) (by omega) (by omega));obtain⟨a,ha,hia⟩:=rd1 (by omega);exact mk (by omega) hd (zt8 w0 j nd d v p r w hK.d hK.bt hx hm hd hi a ha hia hA.t h)
 ·obtain⟨d,hd,hi⟩:=dst (wrs (by omega) (by omega) (by omega) (by omega));obtain⟨a,ha,hia⟩:=rd1 (by omega);exact mk (by omega) hd (ztn w0 j nd d v p r w hK.d hK.bt hx hm hd hi a ha hia h)
 ·obtain⟨⟨a,ha,hia⟩,b,hb',hib⟩:=rd2 (by omega);refine (ztl w0 j nd v p r w hK.d hK.bt hx hm a b ha hia hb' hib h).mono fun e w' ⟨h1,h2⟩=>⟨h1,_,r,h2,⟨rfl,rfl⟩,?_⟩;have e0:stpO j nd s=if j.sets nd=true then some s else none:=by unfold stpO;rw[if_pos h]
  rw[e0,←zi6 hr hg hm hrd,zcl r (by omega) ha hb'];cases r.set a&&r.set b
  ·exact⟨rfl,fun s' h=>by cases h⟩
  ·cases j.sets nd
   ·exact⟨rfl,fun s' h=>by cases h⟩
   ·exact⟨rfl,fun s' h=>by rw[←Option.some.inj h];exact hr⟩
 ·obtain⟨a,ha,hia⟩:=rd1 (by omega);refine (zr2 w0 j nd v p r w hK.d hK.bt hx hm a ha hia h).mono fun e w' ⟨h1,h2⟩=>⟨h1,_,r,h2,⟨rfl,rfl⟩,?_⟩;have e0:stpO j nd s=if j.tells nd=true then some s else none:=by unfold stpO;rw[if_neg (by omega),if_pos h]
  rw[e0,←zi6 hr hg hm hrd,zey r (by omega) ha];cases r.set a
  ·exact⟨rfl,fun s' h=>by cases h⟩
  ·cases j.tells nd
   ·exact⟨rfl,fun s' h=>by cases h⟩
   ·exact⟨rfl,fun s' h=>by rw[←Option.some.inj h];exact hr⟩
 ·obtain⟨a,ha,hia⟩:=rd1 (by omega);obtain⟨e1,e2⟩:=zfe hne (Or.inl h);obtain⟨b1,b2⟩:=hb (Or.inl h);have e0:stpO j nd s=chO j nd s:=by unfold stpO;rw[if_neg (by omega),if_neg (by omega),if_pos h]
  rw[e0,no_all h ha];exact zsx w0 j nd v p r _ w hK hx h (fun u hu=>zsy w0 j nd v p r s u hK hu hr hg hl hm a ha hia h hA e1 e2 b1 b2)
 ·obtain⟨d,hd,hi⟩:=dst (wrs (by omega) (by omega) (by omega) (by omega));obtain⟨e1,e2⟩:=zfe hne (Or.inr h);obtain⟨b1,b2⟩:=hb (Or.inr h);have e0:stpO j nd s=atO j nd s:=by unfold stpO;rw[if_neg (by omega),if_neg (by omega),if_neg (by omega),if_pos h]
  have e3:nd.h.rds=[]:=by unfold Hd.rds;rw[if_neg (by omega),if_neg (by omega),if_neg (by omega)]
  have e4:(if ([]:List Int).all (fun i=>s.set i.toNat)=true then atO j nd s else none)=atO j nd s:=rfl;rw[e0,e3,e4];exact zrf w0 j nd v p r _ w hK hx h (fun u hu=>zrr w0 j nd v p r s u hK hu hr hg hl hm d hd hi h hA e1 e2 b1 b2)
 ·obtain⟨a,ha,hia⟩:=rd1 (by omega);refine (ztb w0 j nd v p r w hK.d hK.bt hx hm a ha hia h).mono fun e w' ⟨h1,xl,h2,h3⟩=>⟨h1,_,_,h2,⟨rfl,rfl⟩,?_⟩;have e0:stpO j nd s=raO j nd s:=by unfold stpO;rw[if_neg (by omega),if_neg (by omega),if_neg (by omega),if_neg (by omega),if_pos h]
  rw[e0,←zi6 hr hg hm hrd,zey r (by omega) ha];unfold raO;rw[ha];cases r.set a
  ·exact⟨rfl,fun s' h=>by cases h⟩
  ·by_cases hk:(j.read nd a).k=1
   ·rw[if_pos rfl,if_pos hk];refine⟨by simp[hk],fun s' h=>?_⟩;rw[←Option.some.inj h,h3 hk];refine⟨⟨hr.1.1,?_,rfl⟩,fun h=>by cases h⟩;show zad j.n j.g r.x _=_
    rw[hr.1.2.1]
   ·rw[if_pos rfl,if_neg hk];exact⟨by simp[hk],fun s' h=>by cases h⟩
end
end Go.Proofs.YtgioppfoceddfaaGreat
