import Derived.Test.YtgioppfoceddfaaGreatP44
import Derived.Test.YtgioppfoceddfaaGreatP34
set_option maxRecDepth 100000
set_option maxHeartbeats 32000000
namespace Go.Proofs.YtgioppfoceddfaaGreat
section
open Go Go.RowKit
def KU2 (k:Int)(t u:Ty)(w':World):Prop:=u.At w'∧(t.k=k→u=t)∧zan k≤u.len∧(t.k≠k→∀i,u.ps i=leafT 0 0)
theorem zqp (w0:World)(j:Jd)(v p:Nat)(ok:Bool)(r:Rst)(t:Ty)(k:Int)(w:World)(hx:Rx w0 j v p ok r w)(ht:t.At w0)(ha:t.k=k→(t.len:Int)=zan k)(hk:zan k≤2) :
  Calls Tryz.prog 98 #[.pointer (some ⟨v,0,none⟩),.agg t.vs.toArray,.int .i64 k] w fun e w'=>∃u:Ty,e=.returned (.agg u.vs.toArray)∧KU2 k t u w'∧Rg w0 j v p (ok&&(t.k==k)) r w w':=by
 by_cases q:t.k=k
 ·refine (zki v t k w q).mono ?_;rintro e w' ⟨rfl,hb⟩;have e1:(ok&&(t.k==k))=ok:=by simp[q]
  exact⟨t,rfl,⟨ht.kept (Below.next hx.bl hb),fun _=>rfl,by have:=ha q;omega,fun h=>absurd q h⟩,by rw[e1];exact Rg.of hx hb⟩
 ·have H:=zar [.cells t.vs.toArray 38,.cells zTv.toArray 38] w;have B0:=zap [.cells t.vs.toArray 38,.cells zTv.toArray 38] w;have SZ:=za9 [.cells t.vs.toArray 38,.cells zTv.toArray 38] w;simp only[List.foldl,List.length] at H B0 SZ;have bJ:Blk _ w.heap.size t.vs 38:=H 0 (by simp);have bZ:Blk _ (w.heap.size+1) zTv 38:=H 1 (by simp);have HG:=hid (Rg.of hx B0);have HL:=hid hx.lts;have HZ:=hid bZ;have HS:=hid SZ;have HQ:=hid q;have HK:=hid hk;have c0:=bJ.cell 0 (v:=.int .i64 t.k) rfl;have q1:(t.k != k)=true:=by simp[q]
  have c19:=HG.out.x.cw 19 (x:=.bool ok) rfl;have f19:=HG.out.x.W.frozen 19;clear H bJ bZ SZ hx ht ha q B0 hk;unfold zTv at *;go_enter Tryz.func98,Tryz.ntmps98
  go_upto_region 2 with fail
  generalize ((w.alloc (.cells t.vs.toArray 38)).alloc (.cells #[.int .i64 0,.int .i64 0,.slice none 0 0,.int .i64 0,.int .i64 0] 38))=w1 at *;have HG2:=hid (HG.out.wv (ok':=false) (WroteB.cellR HG.out.x.W 19 (.bool false)));have HZ2:=hid ((WroteB.cellR HG.out.x.W 19 (.bool false)).keep HZ.out (by have:=HL.out;omega))
  have HS2:Hid ((w1.setCell ⟨v,19,none⟩ (.bool false)).heap.size=w.heap.size+2):=by show _=_;rw[(WroteB.cellR HG.out.x.W 19 (.bool false)).size];exact HS.out
  go_upto_region 3 with fail
  generalize w1.setCell ⟨v,19,none⟩ (.bool false)=w2 at *;clear c0 c19 f19 HG HZ HS;have hmk:=zke w2;have hb2:=zac w2 (.cells zz10.toArray 38);have HG3:=hid (HG2.out.kept hb2);have bZ3:=HZ2.out.kept hb2;have HK3:=hid (Blk.new w2 zz10 38);clear hb2 HG2 HZ2;go_wp2_with (refine zae rfl rfl 38 (.tmp 6) (.tmp 15) rfl (w.heap.size+1) (kzT w2.heap.size).vs (by kernel_rfl) (by kernel_rfl) rfl bZ3 rfl (by kernel_rfl) ?_;intro w4 W4);have z0:=W4.blk.cell 0 (v:=.int .i64 0) rfl;have z1:=W4.blk.cell 1 (v:=.int .i64 0) rfl;have z2:=W4.blk.cell 2 (v:=.slice (some ⟨w2.heap.size,0,none⟩) 2 2) rfl;have z3:=W4.blk.cell 3 (v:=.int .i64 0) rfl;have z4:=W4.blk.cell 4 (v:=.int .i64 0) rfl;have HG4:=hid (HG3.out.other W4 (by have:=HL.out;omega) (by have:=HL.out;omega) (by have:=HL.out;omega) (by omega) (by have:=HL.out;omega))
  have e1:(ok&&(t.k==k))=false:=by simp[HQ.out]
  refine bodyPost_ret (v:=.agg (kzT w2.heap.size).vs.toArray) (by simp[results,Tryz.results98,go_sem,z0,z1,z2,z3,z4,Ty.vs,kzT,Ty.k,Ty.l,Ty.ao,Ty.len,Ty.cap,Ty.h,Ty.e]) rfl ⟨kzT w2.heap.size,rfl,⟨zsm (W4.keep HK3.out (by have:=HS2.out;omega)),fun h=>absurd h HQ.out,?_,fun _ _=>rfl⟩,by rw[e1];exact HG4.out⟩
  exact HK.out
theorem R1.kind2 {w0:World}{j:Jd}{v p:Nat}{ok:Bool}{r:Rst}{nd:Nd}{w u:World}(h:R1 w0 j v p ok r nd w u)(hd:Dt w0 j)(hm:r.m=j.f.slots.len){a:Nat}(ha:a<r.m)(k:Int)(hk:k≠0)(hk2:zan k≤2):Calls Tryz.prog 98 #[.pointer (some ⟨v,0,none⟩),.agg (j.read nd a).vs.toArray,.int .i64 k] u fun e w'=>(∃x:Ty,e=.returned (.agg x.vs.toArray)∧KU2 k (j.read nd a) x w')∧R1 w0 j v p (ok&&((j.read nd a).k==k)) r nd w w'∧u.heap.size≤w'.heap.size∧∀b,w.heap.size+1≤b→b<u.heap.size→w'.heap[b]?=u.heap[b]? :=
 (zqp w0 j v p ok r (j.read nd a) k u h.g.x (zc9 nd hd (by omega)) (zj7 nd hk) hk2).mono fun _ _ ⟨x,h1,h2,h3⟩=>⟨⟨x,h1,h2⟩,h.next h3 rfl,h.keep h3 rfl⟩
def SS2 (w0:World)(j:Jd)(v p:Nat)(r:Rst)(nd:Nd)(x1 x2:Ty)(B1 B2:Nat)(w q:World):Prop:=∃ok,R2 w0 j v p ok r nd x1 x2 B1 B2 w q
theorem ztl (w0:World)(j:Jd)(nd:Nd)(v p:Nat)(r:Rst)(w:World)(hd:Dt w0 j)(hbt:j.bot=botI j.n j.g)(hx:Rx w0 j v p true r w)(hm:r.m=j.f.slots.len)(a b:Nat)(ha:nd.h.a=a)(hia:a<r.m)(hb:nd.h.b=b)(hib:b<r.m)(hop:nd.h.op=14) :
  Calls Tryz.prog 61 #[.pointer (some ⟨v,0,none⟩),.pointer (some ⟨p,0,none⟩),.agg nd.vs.toArray] w fun e w'=>e=.returned (.tuple #[])∧Rg w0 j v p ((r.set a&&r.set b)&&j.sets nd) r w w':=by
 have HO:=hid hop;have HBT:=hid hbt;have HD:=hid (show Dt w0 j∧r.m=j.f.slots.len∧True from ⟨hd,hm,trivial⟩);have HR:=hid (R1.new nd hx);have HA:=hid (show nd.h.a=a∧a<r.m from ⟨ha,hia⟩);have HBB:=hid (show nd.h.b=b∧b<r.m from ⟨hb,hib⟩);clear hx hm hd hop hbt ha hia hb hib;go_enter Tryz.func61,Tryz.ntmps61
 go_upto_region 1 with fail
 generalize (w.alloc (.cells nd.vs.toArray 86))=w1 at *;have c0:=HR.out.g.x.cw 0 (x:=.slice j.n.ao j.n.len j.n.cap) rfl;have c1:=HR.out.g.x.cw 1 (x:=.slice j.g.ao j.g.len j.g.cap) rfl;have hB:=zas j.n j.g w1 (HD.out.1.n.kept HR.out.g.x.bl) (HD.out.1.g.kept HR.out.g.x.bl);go_wp2_with fail
 refine hB.mono ?_;rintro _ w2 ⟨rfl,hb2⟩;have HR2:=hid (HR.out.kept hb2);clear hB hb2 HR c0 c1;rw[←HBT.out];have n0:=HR2.out.N.cell 0 (v:=.int .i64 14) (by rw[←HO.out];rfl)
 go_upto_region 35 with fail
 clear n0;have bN:=HR2.out.N;have na:=HR2.out.N.cell 2 (v:=.int .i64 a) (by rw[←HA.out.1];rfl)
 go_wp2_with (first | (refine wpList_load_mid rfl 86 (.tmp 5) rfl w.heap.size 0 (by kernel_rfl) nd.vs _ bN.range Tryz.underlying86 rfl (by kernel_rfl) ?_))
 refine (HR2.out.read HD.out.1 HD.out.2.1 HA.out.2).mono ?_;rintro _ y1 ⟨rfl,h1,_⟩;have HR3:=hid h1;clear h1 bN na HR2;go_wp2_with fail
 refine (HR3.out.kind2 HD.out.1 HD.out.2.1 HA.out.2 5 (by decide) (by decide)).mono ?_;rintro _ y2 ⟨⟨x,rfl,hku⟩,h2,_⟩;have hbn:=zac y2 (.cells x.vs.toArray 38);have HR4:=hid (show R1 w0 j v p ((true&&r.set a)&&((j.read nd a).k==5)) r nd w (y2.alloc (.cells x.vs.toArray 38))∧Blk (y2.alloc (.cells x.vs.toArray 38)) y2.heap.size x.vs 38∧x.At (y2.alloc (.cells x.vs.toArray 38))∧w.heap.size+1≤y2.heap.size from ⟨h2.kept hbn,Blk.new y2 x.vs _,hku.1.kept hbn,h2.base⟩);have HX:=hid hku.2;clear h2 hku hbn HR3;go_upto_region 36 with (refine zao rfl rfl 38 rfl (.tmp 10) (.tmp 216) rfl zTv (alloc_ty _) rfl x.vs.toArray (by kernel_rfl) (by kernel_rfl) rfl (by kernel_rfl) (by simpa using x.vs_one) ?_)
 generalize (y2.alloc (.cells x.vs.toArray 38))=y3 at *;simp only[Act.put,zA,zB,zC];generalize y2.heap.size=B8 at *;generalize hok3:((true&&r.set a)&&((j.read nd a).k==5))=ok3 at *;have HK3:=hid hok3;clear hok3;have hxl:0<x.len:=by have h:(zan 5:Int)≤x.len:=HX.out.2.1;have e:zan 5=1:=rfl;omega
 have hxl':(0:Int)<x.len:=by omega
 have hao:=HR4.out.2.2.1.nil hxl;have d2:=HR4.out.2.1.cell 2 (v:=.slice x.ao x.len x.cap) rfl;rw[hao] at d2;have rP:y3.rangeAt x.b (x.o+0*5) (x.ps 0).vs:=C5.row (HR4.out.2.2.1.cells hxl);have hbn:=zac y3 (.cells (x.ps 0).vs.toArray 38);have HR5:=hid (show R2 w0 j v p ok3 r nd x (x.ps 0) B8 y3.heap.size w (y3.alloc (.cells (x.ps 0).vs.toArray 38))∧True from ⟨⟨HR4.out.1.kept hbn,HR4.out.2.1.kept hbn,Blk.new y3 _ _,HR4.out.2.2.2,HR4.out.1.base⟩,trivial⟩);have HP0:Hid (∀u,Below w0.heap.size w0 u→(x.ps 0).At u):=fun u hu=>by
  by_cases hk:(j.read nd a).k=5
  ·have e:=HX.out.1 hk;rw[e] at hxl ⊢;exact ((zc9 nd HD.out.1 (by have h1:=HA.out.2;have h2:=HD.out.2.1;omega)).kept hu).part hxl
  ·rw[HX.out.2.2 hk 0];exact zay _ _ _
 clear hbn;go_upto_region 37 with (first | (refine wpList_load_mid rfl 38 (.tmp 219) rfl x.b (x.o+0*5) (by kernel_rfl) (x.ps 0).vs _ rP Tryz.underlying38 rfl (by kernel_rfl) ?_) | (refine zao rfl rfl 38 rfl (.tmp 11) (.tmp 220) rfl zTv (alloc_ty _) rfl (x.ps 0).vs.toArray (by kernel_rfl) (by kernel_rfl) rfl (by kernel_rfl) (by simpa using (x.ps 0).vs_one) ?_))
 generalize (y3.alloc (.cells (x.ps 0).vs.toArray 38))=y4 at *;simp only[Act.put,zA,zB,zC];generalize y3.heap.size=B9 at *;clear d2 rP hao HR4;have D1:=(Below.refl y4.heap.size y4).drew;have HRd:=hid (show R2 w0 j v p ok3 r nd x (x.ps 0) B8 B9 w y4.drew∧True from ⟨HR5.out.1.kept D1,trivial⟩);have p0:∀x1:Wd (SS2 w0 j v p r nd x (x.ps 0) B8 B9 w),x1.w.cell? ⟨v,0,none⟩=some (.slice j.n.ao j.n.len j.n.cap):=fun x1=>by obtain⟨_,h⟩:=x1.2;exact h.g.g.x.cw 0 rfl
 have p1:∀x1:Wd (SS2 w0 j v p r nd x (x.ps 0) B8 B9 w),x1.w.cell? ⟨v,1,none⟩=some (.slice j.g.ao j.g.len j.g.cap):=fun x1=>by obtain⟨_,h⟩:=x1.2;exact h.g.g.x.cw 1 rfl
 have p14:∀x1:Wd (SS2 w0 j v p r nd x (x.ps 0) B8 B9 w),x1.w.cell? ⟨v,14,none⟩=some (.int .i64 j.f.heap):=fun x1=>by obtain⟨_,h⟩:=x1.2;exact h.g.g.x.cw 14 rfl
 have pb:∀x1:Wd (SS2 w0 j v p r nd x (x.ps 0) B8 B9 w),x1.w.cell? ⟨w.heap.size,3,none⟩=some (.int .i64 b):=fun x1=>by obtain⟨_,h⟩:=x1.2;exact h.g.N.cell 3 (by rw[←HBB.out.1];rfl)
 have q1:∀x1:Wd (SS2 w0 j v p r nd x (x.ps 0) B8 B9 w),x1.w.cell? ⟨B8,1,none⟩=some (.int .i64 x.l):=fun x1=>by obtain⟨_,h⟩:=x1.2;exact h.b1.cell 1 rfl
 have q2:∀x1:Wd (SS2 w0 j v p r nd x (x.ps 0) B8 B9 w),x1.w.cell? ⟨B9,1,none⟩=some (.int .i64 (x.ps 0).l):=fun x1=>by obtain⟨_,h⟩:=x1.2;exact h.b2.cell 1 rfl
 have hCN:∀q,(∃x1:Wd (SS2 w0 j v p r nd x (x.ps 0) B8 B9 w),q=x1.w)→q.rangeAt w.heap.size 0 nd.vs:=by rintro _ ⟨x1,rfl⟩;obtain⟨_,h⟩:=x1.2;exact h.g.N.range
 have hC2:∀q,(∃x1:Wd (SS2 w0 j v p r nd x (x.ps 0) B8 B9 w),q=x1.w)→q.rangeAt B9 0 (x.ps 0).vs:=by rintro _ ⟨x1,rfl⟩;obtain⟨_,h⟩:=x1.2;exact h.b2.range
 have hNE:Nonempty (Wd (SS2 w0 j v p r nd x (x.ps 0) B8 B9 w)):=⟨⟨_,_,HR5.out.1⟩⟩;refine zbi (SS2 w0 j v p r nd x (x.ps 0) B8 B9 w) [0,1,2,3,4,5,6,7,8,9,11] 22 (by kernel_rfl) rfl (by kernel_rfl) (zeh (by kernel_rfl)) ⟨_,HRd.out.1⟩ ?_;simp only[List.filterMap,zD,zE];iterate 7 go_big_quiet_step (fail)
 go_big_quiet_want;refine zaa 86 (.tmp 5) rfl w.heap.size 0 (by kernel_rfl) nd.vs _ hCN Tryz.underlying86 rfl (by kernel_rfl) ?_;simp only[Act.put,zA,zB,zC];go_big_quiet_on;iterate 2 go_big_quiet_step (fail)
 go_big_quiet_want;refine zaa 38 (.tmp 11) rfl B9 0 (by kernel_rfl) (x.ps 0).vs _ hC2 Tryz.underlying38 rfl (by kernel_rfl) ?_;simp only[Act.put,zA,zB,zC];go_big_quiet_on;refine wpQuiet_nil ?_;clear D1 HR5;generalize y4.drew=z0 at *;refine wpAnyH_ready (rs:=[10]) (by kernel_rfl) (by simp) ?_;refine AllReadyH.cons rfl (fun K hK=>?_) AllReadyH.nil;rw[if_pos (by rfl)];go_simp;refine (HRd.out.1.g.read HD.out.1 HD.out.2.1 HBB.out.2).mono ?_;rintro _ z1 ⟨rfl,h1,hs1,hk1⟩;have HRe:Hid (R2 w0 j v p (ok3&&r.set b) r nd x (x.ps 0) B8 B9 w z1∧True):=by
  have k1:Blk z1 B8 x.vs 38:=by unfold Blk;rw[hk1 B8 HRd.out.1.n1 HRd.out.1.b1.lt];exact HRd.out.1.b1
  have k2:Blk z1 B9 (x.ps 0).vs 38:=by unfold Blk;rw[hk1 B9 HRd.out.1.n2 HRd.out.1.b2.lt];exact HRd.out.1.b2
  exact⟨⟨h1,k1,k2,HRd.out.1.n1,HRd.out.1.n2⟩,trivial⟩
 refine hK.out _ _ (⟨_,HRe.out.1⟩) (fun _=>?_);clear hK K;clear h1 hs1 hk1 HRd;generalize hok4:(ok3&&r.set b)=ok4 at *;have HK4:=hid hok4;clear hok4;refine wpAnyH_ready (rs:=[12]) (by kernel_rfl) (by simp) ?_;refine AllReadyH.cons rfl (fun K hK=>?_) AllReadyH.nil;rw[if_pos (by rfl)];go_simp;refine (zcw j.n j.g (j.read nd b) (x.ps 0) z1 (HD.out.1.n.kept HRe.out.1.g.g.x.bl) (HD.out.1.g.kept HRe.out.1.g.g.x.bl) ((zc9 nd HD.out.1 (by have h1:=HBB.out.2;have h2:=HD.out.2.1;omega)).kept HRe.out.1.g.g.x.bl) (HP0.out z1 HRe.out.1.g.g.x.bl)).mono ?_
 rintro _ z2 ⟨rfl,hb2⟩;have HRf:=hid (HRe.out.1.kept hb2);refine hK.out _ _ (⟨_,HRf.out⟩) (fun _=>?_);clear hK K;clear hb2 HRe;generalize hf1:belB j.n j.g (j.read nd b) (x.ps 0)=f1 at *;have HF1:=hid hf1;clear hf1;cases f1
 ·refine zbw [13,14,15,16,17,18] (rest:=14) rfl (by kernel_rfl) (by kernel_rfl) (⟨_,HRf.out⟩) ?_;simp only[List.filterMap,zD,zE];iterate 6 go_big_quiet_step (fail)
  refine wpQuiet_nil ?_;refine wpAnyH_ready (rs:=[19]) (by kernel_rfl) (by simp) ?_;refine AllReadyH.cons rfl (fun K hK=>?_) AllReadyH.nil;rw[if_neg (zaq (by kernel_rfl))];refine hK.out _ _ (⟨_,HRf.out⟩) (fun _=>?_);clear hK K;simp only[Act.put,List.getElem_toArray,List.getElem_cons_zero,List.getElem_cons_succ,zA,zB,zC];refine zbw [20,21,22,23,24,25,26,27,28,29] (rest:=3) rfl (by kernel_rfl) (by kernel_rfl) (⟨_,HRf.out⟩) ?_;simp only[List.filterMap,zD,zE];iterate 10 go_big_quiet_step (fail)
  refine wpQuiet_nil ?_;refine wpAnyH_ready (rs:=[30]) (by kernel_rfl) (by simp) ?_;refine AllReadyH.cons rfl (fun K hK=>?_) AllReadyH.nil;rw[if_neg (zaq (by kernel_rfl))];refine hK.out _ _ (⟨_,HRf.out⟩) (fun _=>?_);clear hK K;simp only[Act.put,List.getElem_toArray,List.getElem_cons_zero,List.getElem_cons_succ,zA,zB,zC];refine zbw [31] (rest:=1) rfl (by kernel_rfl) (by kernel_rfl) (⟨_,HRf.out⟩) ?_;simp only[List.filterMap,zD,zE];iterate 1 go_big_quiet_step (fail)
  refine wpQuiet_nil ?_;refine wpAnyH_ready (rs:=[32]) (by kernel_rfl) (by simp) ?_;refine AllReadyH.cons rfl (fun K hK=>?_) AllReadyH.nil;rw[if_pos (by rfl)];go_simp;refine (za8 j.n j.g j.fns j.f ok4 false v z2 HRf.out.g.g.x.W).mono ?_;rintro _ z9 ⟨rfl,W9⟩;have HR9:=hid (HRf.out.wv W9);refine hK.out _ _ (⟨_,HR9.out⟩) (fun _=>?_);clear hK K;clear W9;refine wpAnyH_done (by kernel_rfl) ?_ _;refine⟨(fun c hc=>by cases hc),?_⟩;go_wp2;go_end0;refine⟨rfl,?_⟩;have e:(((r.set a&&r.set b)&&j.sets nd))=(ok4&&false):=by
   unfold Jd.sets;rw[←HK4.out,←HK3.out,HA.out.1,HBB.out.1];by_cases hk:(j.read nd a).k=5
   ·have hx:=HX.out.1 hk;have h1:=HF1.out;rw[hx] at h1;rw[h1];cases r.set a <;> cases r.set b <;> simp[hk]
   ·have e1:((j.read nd a).k==5)=false:=by simp[hk]
    rw[e1];simp
  rw[e];exact HR9.out.g.g
 ·refine zbw [13,14,15,16,17,18] (rest:=14) rfl (by kernel_rfl) (by kernel_rfl) (⟨_,HRf.out⟩) ?_;simp only[List.filterMap,zD,zE];iterate 6 go_big_quiet_step (fail)
  refine wpQuiet_nil ?_;refine wpAnyH_ready (rs:=[19]) (by kernel_rfl) (by simp) ?_;refine AllReadyH.cons rfl (fun K hK=>?_) AllReadyH.nil;rw[if_pos (by rfl)];go_simp;refine (zcx j.n j.g j.fns j.f ok4 v x.l (x.ps 0).l z2 HRf.out.g.g.x.W (HD.out.1.n.kept HRf.out.g.g.x.bl) (HD.out.1.g.kept HRf.out.g.g.x.bl)).mono ?_;rintro _ z3 ⟨rfl,hb3⟩;have HRg:=hid (HRf.out.kept hb3);refine hK.out _ _ (⟨_,HRg.out⟩) (fun _=>?_);clear hK K;clear hb3 HRf;generalize hf2:leqB j.n j.g x.l (x.ps 0).l=f2 at *;have HF2:=hid hf2;clear hf2;cases f2
  ·refine zbw [20,21,22,23,24,25,26,27,28,29] (rest:=3) rfl (by kernel_rfl) (by kernel_rfl) (⟨_,HRg.out⟩) ?_;simp only[List.filterMap,zD,zE];iterate 10 go_big_quiet_step (fail)
   refine wpQuiet_nil ?_;refine wpAnyH_ready (rs:=[30]) (by kernel_rfl) (by simp) ?_;refine AllReadyH.cons rfl (fun K hK=>?_) AllReadyH.nil;rw[if_neg (zaq (by kernel_rfl))];refine hK.out _ _ (⟨_,HRg.out⟩) (fun _=>?_);clear hK K;simp only[Act.put,List.getElem_toArray,List.getElem_cons_zero,List.getElem_cons_succ,zA,zB,zC];refine zbw [31] (rest:=1) rfl (by kernel_rfl) (by kernel_rfl) (⟨_,HRg.out⟩) ?_;simp only[List.filterMap,zD,zE];iterate 1 go_big_quiet_step (fail)
   refine wpQuiet_nil ?_;refine wpAnyH_ready (rs:=[32]) (by kernel_rfl) (by simp) ?_;refine AllReadyH.cons rfl (fun K hK=>?_) AllReadyH.nil;rw[if_pos (by rfl)];go_simp;refine (za8 j.n j.g j.fns j.f ok4 false v z3 HRg.out.g.g.x.W).mono ?_;rintro _ z9 ⟨rfl,W9⟩;have HR9:=hid (HRg.out.wv W9);refine hK.out _ _ (⟨_,HR9.out⟩) (fun _=>?_);clear hK K;clear W9;refine wpAnyH_done (by kernel_rfl) ?_ _;refine⟨(fun c hc=>by cases hc),?_⟩;go_wp2;go_end0;refine⟨rfl,?_⟩;have e:(((r.set a&&r.set b)&&j.sets nd))=(ok4&&false):=by
    unfold Jd.sets;rw[←HK4.out,←HK3.out,HA.out.1,HBB.out.1];by_cases hk:(j.read nd a).k=5
    ·have hx:=HX.out.1 hk;have h1:=HF1.out;rw[hx] at h1;rw[h1];have h2:=HF2.out;rw[hx] at h2;rw[h2];cases r.set a <;> cases r.set b <;> simp[hk]
    ·have e1:((j.read nd a).k==5)=false:=by simp[hk]
     rw[e1];simp
   rw[e];exact HR9.out.g.g
  ·refine zbw [20,21,22,23,24,25,26,27,28,29] (rest:=3) rfl (by kernel_rfl) (by kernel_rfl) (⟨_,HRg.out⟩) ?_;simp only[List.filterMap,zD,zE];iterate 10 go_big_quiet_step (fail)
   refine wpQuiet_nil ?_;refine wpAnyH_ready (rs:=[30]) (by kernel_rfl) (by simp) ?_;refine AllReadyH.cons rfl (fun K hK=>?_) AllReadyH.nil;rw[if_pos (by rfl)];go_simp;refine (zcx j.n j.g j.fns j.f ok4 v j.f.heap (x.ps 0).l z3 HRg.out.g.g.x.W (HD.out.1.n.kept HRg.out.g.g.x.bl) (HD.out.1.g.kept HRg.out.g.g.x.bl)).mono ?_;rintro _ z4 ⟨rfl,hb4⟩;have HRh:=hid (HRg.out.kept hb4);refine hK.out _ _ (⟨_,HRh.out⟩) (fun _=>?_);clear hK K;clear hb4 HRg;generalize hf3:leqB j.n j.g j.f.heap (x.ps 0).l=f3 at *;have HF3:=hid hf3;clear hf3;refine zbw [31] (rest:=1) rfl (by kernel_rfl) (by kernel_rfl) (⟨_,HRh.out⟩) ?_;simp only[List.filterMap,zD,zE];iterate 1 go_big_quiet_step (fail)
   refine wpQuiet_nil ?_;refine wpAnyH_ready (rs:=[32]) (by kernel_rfl) (by simp) ?_;refine AllReadyH.cons rfl (fun K hK=>?_) AllReadyH.nil;rw[if_pos (by rfl)];go_simp;refine (za8 j.n j.g j.fns j.f ok4 f3 v z4 HRh.out.g.g.x.W).mono ?_;rintro _ z9 ⟨rfl,W9⟩;have HR9:=hid (HRh.out.wv W9);refine hK.out _ _ (⟨_,HR9.out⟩) (fun _=>?_);clear hK K;clear W9;refine wpAnyH_done (by kernel_rfl) ?_ _;refine⟨(fun c hc=>by cases hc),?_⟩;go_wp2;go_end0;refine⟨rfl,?_⟩;have e:(((r.set a&&r.set b)&&j.sets nd))=(ok4&&f3):=by
    unfold Jd.sets;rw[←HK4.out,←HK3.out,HA.out.1,HBB.out.1];by_cases hk:(j.read nd a).k=5
    ·have hx:=HX.out.1 hk;have h1:=HF1.out;rw[hx] at h1;rw[h1];have h2:=HF2.out;rw[hx] at h2;rw[h2];have h3:=HF3.out;rw[hx] at h3;rw[h3];cases r.set a <;> cases r.set b <;> simp[hk]
    ·have e1:((j.read nd a).k==5)=false:=by simp[hk]
     rw[e1];simp
   rw[e];exact HR9.out.g.g
end
end Go.Proofs.YtgioppfoceddfaaGreat
