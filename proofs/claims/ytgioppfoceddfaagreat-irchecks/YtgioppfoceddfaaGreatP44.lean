import Derived.Test.YtgioppfoceddfaaGreatP42
import Derived.Test.YtgioppfoceddfaaGreatP7
set_option maxRecDepth 100000
set_option maxHeartbeats 32000000
namespace Go.Proofs.YtgioppfoceddfaaGreat
section
open Go Go.RowKit
theorem zo1 {j:Jd}{nd:Nd}(hop:nd.h.op=1):j.makes nd=(leafT 1 j.bot,-1):=by unfold Jd.makes;rw[hop];rfl
theorem zo4 {j:Jd}{nd:Nd}(hop:nd.h.op=2):j.makes nd=(leafT 2 j.bot,-1):=by unfold Jd.makes;rw[hop];rfl
theorem zo3 {j:Jd}{nd:Nd}(hop:nd.h.op=3):j.makes nd=(j.read nd nd.h.a,-1):=by unfold Jd.makes;rw[hop];rfl
theorem zpf {j:Jd}{nd:Nd}(hop:nd.h.op=5):j.makes nd=(zby 2 (j.read nd nd.h.a),-1):=by unfold Jd.makes;rw[hop];rfl
theorem zo7 {j:Jd}{nd:Nd}(hop:nd.h.op=6):j.makes nd=(mk2 3 j.bot 0 0 (j.read nd nd.h.a) (j.read nd nd.h.b),-1):=by unfold Jd.makes;rw[hop];rfl
theorem zpa {j:Jd}{nd:Nd}(hop:nd.h.op=7):j.makes nd=(j.side nd 0,-1):=by unfold Jd.makes;rw[hop];rfl
theorem zo2 {j:Jd}{nd:Nd}(hop:nd.h.op=8):j.makes nd=(j.side nd 1,-1):=by unfold Jd.makes;rw[hop];rfl
theorem zni {j:Jd}{nd:Nd}(hop:nd.h.op=10):j.makes nd=(sigT j.n j.g j.f,-1):=by unfold Jd.makes;rw[hop];rfl
theorem znm {j:Jd}{nd:Nd}(hop:nd.h.op=12):j.makes nd=(j.cell nd,-1):=by unfold Jd.makes;rw[hop];rfl
theorem znr {j:Jd}{nd:Nd}(hop:nd.h.op=13):j.makes nd=(j.held nd,-1):=by unfold Jd.makes;rw[hop];rfl
theorem zjw {nd:Nd}(r:Rst)(hop:nd.h.op=1∨nd.h.op=2∨nd.h.op=10∨nd.h.op=17):nd.h.rds.all (fun i=>r.set i.toNat)=true:=by
 unfold Hd.rds;rw[if_neg (by omega),if_neg (by omega),if_neg (by omega)];rfl
theorem zey {nd:Nd}{a:Nat}(r:Rst)(hop:nd.h.op=3∨nd.h.op=5∨nd.h.op=7∨nd.h.op=8∨nd.h.op=12∨nd.h.op=13∨nd.h.op=15∨nd.h.op=16∨nd.h.op=18)(ha:nd.h.a=a):nd.h.rds.all (fun i=>r.set i.toNat)=r.set a:=by
 unfold Hd.rds;rw[if_pos hop,ha];simp
theorem zvu (w0:World)(j:Jd)(nd:Nd)(d:Nat)(v p:Nat)(r:Rst)(w:World)(hd:Dt w0 j)(hbt:j.bot=botI j.n j.g)(hx:Rx w0 j v p true r w)(hm:r.m=j.f.slots.len)(hdst:nd.h.dst=d)(hi:d<r.m)(hop:nd.h.op=1) :
  Calls Tryz.prog 61 #[.pointer (some ⟨v,0,none⟩),.pointer (some ⟨p,0,none⟩),.agg nd.vs.toArray] w fun e w'=>e=.returned (.tuple #[])∧zde w0 j nd d v p r w w':=by
 have HO:=hid hop;have HBT:=hid hbt;have HD:=hid (show Dt w0 j∧r.m=j.f.slots.len∧nd.h.dst=d∧d<r.m from ⟨hd,hm,hdst,hi⟩);have HR:=hid (R1.new nd hx);clear hx hm hd hdst hi hop hbt;go_enter Tryz.func61,Tryz.ntmps61
 go_upto_region 1 with fail
 generalize (w.alloc (.cells nd.vs.toArray 86))=w1 at *;have c0:=HR.out.g.x.cw 0 (x:=.slice j.n.ao j.n.len j.n.cap) rfl;have c1:=HR.out.g.x.cw 1 (x:=.slice j.g.ao j.g.len j.g.cap) rfl;have hB:=zas j.n j.g w1 (HD.out.1.n.kept HR.out.g.x.bl) (HD.out.1.g.kept HR.out.g.x.bl);go_wp2_with fail
 refine hB.mono ?_;rintro _ w2 ⟨rfl,hb2⟩;have HR2:=hid (HR.out.kept hb2);clear hB hb2 HR c0 c1;rw[←HBT.out];have n0:=HR2.out.N.cell 0 (v:=.int .i64 1) (by rw[←HO.out];rfl)
 go_upto_region 4 with fail
 clear n0;have bN:=HR2.out.N;go_wp2_with (first | (refine wpList_load_mid rfl 86 (.tmp 5) rfl w.heap.size 0 (by kernel_rfl) nd.vs _ bN.range Tryz.underlying86 rfl (by kernel_rfl) ?_))
 refine (zaz w0 j nd (leafT 1 j.bot) (-1) d v p true r w2 HD.out.1 HR2.out.g.x HD.out.2.1 HD.out.2.2.1 HD.out.2.2.2 (zay _ _ _)).mono ?_;rintro _ w3 ⟨rfl,hg⟩;have HR3:=hid (HR2.out.next hg rfl);go_wp2;go_end0;exact⟨rfl,_,_,HR3.out.g,rfl,rfl,⟨by rw[zo1 HO.out,zjw r (by have:=HO.out;omega)],fun _=>by rw[zo1 HO.out]⟩⟩
theorem zwa (w0:World)(j:Jd)(nd:Nd)(d:Nat)(v p:Nat)(r:Rst)(w:World)(hd:Dt w0 j)(hbt:j.bot=botI j.n j.g)(hx:Rx w0 j v p true r w)(hm:r.m=j.f.slots.len)(hdst:nd.h.dst=d)(hi:d<r.m)(hop:nd.h.op=2) :
  Calls Tryz.prog 61 #[.pointer (some ⟨v,0,none⟩),.pointer (some ⟨p,0,none⟩),.agg nd.vs.toArray] w fun e w'=>e=.returned (.tuple #[])∧zde w0 j nd d v p r w w':=by
 have HO:=hid hop;have HBT:=hid hbt;have HD:=hid (show Dt w0 j∧r.m=j.f.slots.len∧nd.h.dst=d∧d<r.m from ⟨hd,hm,hdst,hi⟩);have HR:=hid (R1.new nd hx);clear hx hm hd hdst hi hop hbt;go_enter Tryz.func61,Tryz.ntmps61
 go_upto_region 1 with fail
 generalize (w.alloc (.cells nd.vs.toArray 86))=w1 at *;have c0:=HR.out.g.x.cw 0 (x:=.slice j.n.ao j.n.len j.n.cap) rfl;have c1:=HR.out.g.x.cw 1 (x:=.slice j.g.ao j.g.len j.g.cap) rfl;have hB:=zas j.n j.g w1 (HD.out.1.n.kept HR.out.g.x.bl) (HD.out.1.g.kept HR.out.g.x.bl);go_wp2_with fail
 refine hB.mono ?_;rintro _ w2 ⟨rfl,hb2⟩;have HR2:=hid (HR.out.kept hb2);clear hB hb2 HR c0 c1;rw[←HBT.out];have n0:=HR2.out.N.cell 0 (v:=.int .i64 2) (by rw[←HO.out];rfl)
 go_upto_region 6 with fail
 clear n0;have bN:=HR2.out.N;go_wp2_with (first | (refine wpList_load_mid rfl 86 (.tmp 5) rfl w.heap.size 0 (by kernel_rfl) nd.vs _ bN.range Tryz.underlying86 rfl (by kernel_rfl) ?_))
 refine (zaz w0 j nd (leafT 2 j.bot) (-1) d v p true r w2 HD.out.1 HR2.out.g.x HD.out.2.1 HD.out.2.2.1 HD.out.2.2.2 (zay _ _ _)).mono ?_;rintro _ w3 ⟨rfl,hg⟩;have HR3:=hid (HR2.out.next hg rfl);go_wp2;go_end0;exact⟨rfl,_,_,HR3.out.g,rfl,rfl,⟨by rw[zo4 HO.out,zjw r (by have:=HO.out;omega)],fun _=>by rw[zo4 HO.out]⟩⟩
theorem zv8 (w0:World)(j:Jd)(nd:Nd)(d:Nat)(v p:Nat)(r:Rst)(w:World)(hd:Dt w0 j)(hbt:j.bot=botI j.n j.g)(hx:Rx w0 j v p true r w)(hm:r.m=j.f.slots.len)(hdst:nd.h.dst=d)(hi:d<r.m)(a:Nat)(ha:nd.h.a=a)(hia:a<r.m)(hop:nd.h.op=3) :
  Calls Tryz.prog 61 #[.pointer (some ⟨v,0,none⟩),.pointer (some ⟨p,0,none⟩),.agg nd.vs.toArray] w fun e w'=>e=.returned (.tuple #[])∧zde w0 j nd d v p r w w':=by
 have HO:=hid hop;have HBT:=hid hbt;have HD:=hid (show Dt w0 j∧r.m=j.f.slots.len∧nd.h.dst=d∧d<r.m from ⟨hd,hm,hdst,hi⟩);have HR:=hid (R1.new nd hx);have HA:=hid (show nd.h.a=a∧a<r.m from ⟨ha,hia⟩);clear hx hm hd hdst hi hop hbt ha hia;go_enter Tryz.func61,Tryz.ntmps61
 go_upto_region 1 with fail
 generalize (w.alloc (.cells nd.vs.toArray 86))=w1 at *;have c0:=HR.out.g.x.cw 0 (x:=.slice j.n.ao j.n.len j.n.cap) rfl;have c1:=HR.out.g.x.cw 1 (x:=.slice j.g.ao j.g.len j.g.cap) rfl;have hB:=zas j.n j.g w1 (HD.out.1.n.kept HR.out.g.x.bl) (HD.out.1.g.kept HR.out.g.x.bl);go_wp2_with fail
 refine hB.mono ?_;rintro _ w2 ⟨rfl,hb2⟩;have HR2:=hid (HR.out.kept hb2);clear hB hb2 HR c0 c1;rw[←HBT.out];have n0:=HR2.out.N.cell 0 (v:=.int .i64 3) (by rw[←HO.out];rfl)
 go_upto_region 8 with fail
 clear n0;have D1:=(Below.refl w2.heap.size w2).drew;have HRd:=hid (HR2.out.kept D1);have pa:∀x:Wd (fun q=>Blk q w.heap.size nd.vs 86),x.w.cell? ⟨w.heap.size,2,none⟩=some (.int .i64 a):=fun x=>x.2.cell 2 (by rw[←HA.out.1];rfl)
 have hCN:∀q,(∃x:Wd (fun q=>Blk q w.heap.size nd.vs 86),q=x.w)→q.rangeAt w.heap.size 0 nd.vs:=by rintro _ ⟨x,rfl⟩;exact x.2.range
 have hNE:Nonempty (Wd (fun q=>Blk q w.heap.size nd.vs 86)):=⟨⟨_,HR2.out.N⟩⟩;refine zaw (fun q=>Blk q w.heap.size nd.vs 86) 9 [0,1,2,3,4,5,6,7] 2 (by kernel_rfl) rfl (by kernel_rfl) HRd.out.N ?_;simp only[List.filterMap,zD,zE];iterate 2 go_big_quiet_step (fail)
 go_big_quiet_want;refine zaa 86 (.tmp 5) rfl w.heap.size 0 (by kernel_rfl) nd.vs _ hCN Tryz.underlying86 rfl (by kernel_rfl) ?_;simp only[Act.put,zA,zB,zC];go_big_quiet_on;iterate 2 go_big_quiet_step (fail)
 go_big_quiet_want;refine zaa 86 (.tmp 5) rfl w.heap.size 0 (by kernel_rfl) nd.vs _ hCN Tryz.underlying86 rfl (by kernel_rfl) ?_;simp only[Act.put,zA,zB,zC];go_big_quiet_on;iterate 2 go_big_quiet_step (fail)
 refine wpQuiet_nil ?_;clear pa hCN hNE D1 HR2;generalize w2.drew=y0 at *;refine zaj (rs:=[8]) (by kernel_rfl) (by simp) ?_;refine AllReadyL.cons rfl (fun K hK=>?_) AllReadyL.nil;rw[if_pos (by rfl)];go_simp;refine (HRd.out.read HD.out.1 HD.out.2.1 HA.out.2).mono ?_;rintro _ y1 ⟨rfl,h1,_⟩;have HR3:=hid h1;have HT:=hid (show (j.read nd a).At y1 from (zc9 nd HD.out.1 (by have h1:=HA.out.2;have h2:=HD.out.2.1;omega)).kept h1.g.x.bl)
 refine hK.out _ _ (fun _=>HR3.out.N) ?_;clear hK K;clear h1 HRd;refine zaj (rs:=[9]) (by kernel_rfl) (by simp) ?_;refine AllReadyL.cons rfl (fun K hK=>?_) AllReadyL.nil;rw[if_pos (by rfl)];go_simp;refine (zaz w0 j nd (j.read nd a) (-1) d v p (true&&r.set a) r y1 HD.out.1 HR3.out.g.x HD.out.2.1 HD.out.2.2.1 HD.out.2.2.2 HT.out).mono ?_;rintro _ y2 ⟨rfl,hg⟩;have HR4:=hid (HR3.out.next hg rfl);refine hK.out _ _ (fun h=>absurd rfl h) ?_;clear hK K;refine zbc (by kernel_rfl) ?_ _;refine⟨(fun c hc=>by cases hc),?_⟩;clear hg;go_wp2;go_end0;exact⟨rfl,_,_,HR4.out.g,rfl,rfl,⟨by rw[zo3 HO.out,zey r (Or.inl HO.out) HA.out.1,HA.out.1];rfl,fun _=>by rw[zo3 HO.out]⟩⟩
theorem zvq (w0:World)(j:Jd)(nd:Nd)(d:Nat)(v p:Nat)(r:Rst)(w:World)(hd:Dt w0 j)(hbt:j.bot=botI j.n j.g)(hx:Rx w0 j v p true r w)(hm:r.m=j.f.slots.len)(hdst:nd.h.dst=d)(hi:d<r.m)(a:Nat)(ha:nd.h.a=a)(hia:a<r.m)(hop:nd.h.op=5) :
  Calls Tryz.prog 61 #[.pointer (some ⟨v,0,none⟩),.pointer (some ⟨p,0,none⟩),.agg nd.vs.toArray] w fun e w'=>e=.returned (.tuple #[])∧zde w0 j nd d v p r w w':=by
 have HO:=hid hop;have HBT:=hid hbt;have HD:=hid (show Dt w0 j∧r.m=j.f.slots.len∧nd.h.dst=d∧d<r.m from ⟨hd,hm,hdst,hi⟩);have HR:=hid (R1.new nd hx);have HA:=hid (show nd.h.a=a∧a<r.m from ⟨ha,hia⟩);clear hx hm hd hdst hi hop hbt ha hia;go_enter Tryz.func61,Tryz.ntmps61
 go_upto_region 1 with fail
 generalize (w.alloc (.cells nd.vs.toArray 86))=w1 at *;have c0:=HR.out.g.x.cw 0 (x:=.slice j.n.ao j.n.len j.n.cap) rfl;have c1:=HR.out.g.x.cw 1 (x:=.slice j.g.ao j.g.len j.g.cap) rfl;have hB:=zas j.n j.g w1 (HD.out.1.n.kept HR.out.g.x.bl) (HD.out.1.g.kept HR.out.g.x.bl);go_wp2_with fail
 refine hB.mono ?_;rintro _ w2 ⟨rfl,hb2⟩;have HR2:=hid (HR.out.kept hb2);clear hB hb2 HR c0 c1;rw[←HBT.out];have n0:=HR2.out.N.cell 0 (v:=.int .i64 5) (by rw[←HO.out];rfl)
 go_upto_region 12 with fail
 clear n0;have D1:=(Below.refl w2.heap.size w2).drew;have HRd:=hid (HR2.out.kept D1);have pa:∀x:Wd (fun q=>Blk q w.heap.size nd.vs 86),x.w.cell? ⟨w.heap.size,2,none⟩=some (.int .i64 a):=fun x=>x.2.cell 2 (by rw[←HA.out.1];rfl)
 have hCN:∀q,(∃x:Wd (fun q=>Blk q w.heap.size nd.vs 86),q=x.w)→q.rangeAt w.heap.size 0 nd.vs:=by rintro _ ⟨x,rfl⟩;exact x.2.range
 have hNE:Nonempty (Wd (fun q=>Blk q w.heap.size nd.vs 86)):=⟨⟨_,HR2.out.N⟩⟩;refine zaw (fun q=>Blk q w.heap.size nd.vs 86) 11 [0,1,2,3,4,5,6,7,8] 3 (by kernel_rfl) rfl (by kernel_rfl) HRd.out.N ?_;simp only[List.filterMap,zD,zE];iterate 2 go_big_quiet_step (fail)
 go_big_quiet_want;refine zaa 86 (.tmp 5) rfl w.heap.size 0 (by kernel_rfl) nd.vs _ hCN Tryz.underlying86 rfl (by kernel_rfl) ?_;simp only[Act.put,zA,zB,zC];go_big_quiet_on;iterate 3 go_big_quiet_step (fail)
 go_big_quiet_want;refine zaa 86 (.tmp 5) rfl w.heap.size 0 (by kernel_rfl) nd.vs _ hCN Tryz.underlying86 rfl (by kernel_rfl) ?_;simp only[Act.put,zA,zB,zC];go_big_quiet_on;iterate 2 go_big_quiet_step (fail)
 refine wpQuiet_nil ?_;clear pa hCN hNE D1 HR2;generalize w2.drew=y0 at *;refine zaj (rs:=[9]) (by kernel_rfl) (by simp) ?_;refine AllReadyL.cons rfl (fun K hK=>?_) AllReadyL.nil;rw[if_pos (by rfl)];go_simp;refine (HRd.out.read HD.out.1 HD.out.2.1 HA.out.2).mono ?_;rintro _ y1 ⟨rfl,h1,_⟩;have HR3:=hid h1;refine hK.out _ _ (fun _=>HR3.out.N) ?_;clear hK K;clear h1 HRd;refine zaj (rs:=[10]) (by kernel_rfl) (by simp) ?_;refine AllReadyL.cons rfl (fun K hK=>?_) AllReadyL.nil;rw[if_pos (by rfl)];go_simp;refine (HR3.out.kind HD.out.1 HD.out.2.1 HA.out.2 2 (by decide) (by decide)).mono ?_;rintro _ y2 ⟨⟨x,rfl,hku⟩,h2,_⟩;have HR4:=hid h2;have HX:=hid hku;refine hK.out _ _ (fun _=>HR4.out.N) ?_;clear hK K;clear h2 hku HR3;refine zaj (rs:=[11]) (by kernel_rfl) (by simp) ?_;refine AllReadyL.cons rfl (fun K hK=>?_) AllReadyL.nil;rw[if_pos (by rfl)];go_simp;refine (zaz w0 j nd x (-1) d v p ((true&&r.set a)&&((j.read nd a).k==2)) r y2 HD.out.1 HR4.out.g.x HD.out.2.1 HD.out.2.2.1 HD.out.2.2.2 HX.out.1).mono ?_;rintro _ y3 ⟨rfl,hg⟩;have HR5:=hid (HR4.out.next hg rfl);refine hK.out _ _ (fun h=>absurd rfl h) ?_;clear hK K;refine zbc (by kernel_rfl) ?_ _;refine⟨(fun c hc=>by cases hc),?_⟩;clear hg;go_wp2;go_end0;refine⟨rfl,_,_,HR5.out.g,rfl,rfl,⟨?_,fun _=>by rw[zpf HO.out]⟩⟩;rw[zpf HO.out,zey r (by have:=HO.out;omega) HA.out.1,HA.out.1]
 by_cases hk:(j.read nd a).k=2
 ·rw[HX.out.2.1 hk];simp[zby,hk]
 ·have e1:((j.read nd a).k==2)=false:=by simp[hk]
  have e2:zby 2 (j.read nd a)=leafT 0 0:=by unfold zby;rw[if_pos (by simp[hk])]
  rw[e1,e2,zdy];simp
theorem zof (u:Ty)(ρ:Operand→Value)(o:Oper)(x:Operand)(ho:o.op=.field 38 x 1)(hx:ρ x=.agg u.vs.toArray)(w:World):(execOp ρ o).run Tryz.prog w=.ok (.value (.int .i64 u.l)) w:=by
 unfold execOp;rw[ho];simp only[hx];show _=_
 kernel_rfl
theorem zk8 {ops:Array Oper}{rest:List Oper}{o:Oper}{a:Act}{w:World}{Q:Exit→Act→World→Prop}(hgd:o.guard=none)(x:Operand)(ho:o.op=.field 38 x 1)(u:Ty)(hx:a.eval x=.agg u.vs.toArray)
  (h:wpList Tryz.prog ops Q rest (a.put o.dst (.int .i64 u.l)) w):wpList Tryz.prog ops Q (o :: rest) a w:=by
 refine wpList_plain hgd fun _ hK=>?_;unfold Oper.wp;rw[zof u a.eval o x ho hx w];exact hK _ _ h
theorem zle {r r':Rst}{s:Sta}{a:Int}(hr:Rel r s)(hg:s.gone=false)(h:r'.at_=a∧r'.x=-1∧r'.m=r.m∧r'.set=r.set∧r'.here=true):Rel r' ⟨a,-1,s.set,false⟩ :=
 ⟨⟨h.1,h.2.1,h.2.2.2.2⟩,fun _ i hi=>by rw[h.2.2.2.1];exact hr.2 hg i (by rw[←h.2.2.1];exact hi)⟩
theorem no_all {nd:Nd}{s:Sta}{a:Nat}(h:nd.h.op=16)(ha:nd.h.a=a):nd.h.rds.all (fun i=>s.set i.toNat)=s.set a:=by
 unfold Hd.rds;rw[if_pos (by omega),ha];simp
theorem Ws.sub {w0:World}{j:Jd}{v pa pb:Nat}{ok:Bool}{ra rb:Rst}{u u':World}(h:Ws w0 pa ra u)(k:Rg w0 j v pb ok rb u u')(hv:Blk u v (wkV j.n j.g j.fns j.f true) 77∨Blk u v (wkV j.n j.g j.fns j.f false) 77)(h1:pa<pb)(h2:pa<rb.q)(h3:ra.q<pb)(h4:ra.q<rb.q):Ws w0 pa ra u':=by
 have n1:pa≠v:=by rcases hv with hv | hv <;> exact h.S.ne hv (by decide)
 have n2:ra.q≠v:=by obtain⟨ys,hy⟩:=h.R;rcases hv with hv | hv <;> exact hy.ne hv (by decide)
 exact h.foot k.f (fun e=>by rcases e with e | e | e <;> omega) (fun e=>by rcases e with e | e | e <;> omega)
theorem zk4 {o:Option Sta}{f:Sta→Option Sta}(h:false=o.isSome):o.bind f=none:=by
 cases o with
 | none=>rfl
 | some _=>cases h
theorem zsy (w0:World)(j:Jd)(nd:Nd)(v p:Nat)(r:Rst)(s:Sta)(w:World)(hK:Kn w0 j)(hx:Rx w0 j v p true r w)(hr:Rel r s)(hg:s.gone=false)(hl:LabS j.n s)(hm:r.m=j.f.slots.len)(a:Nat)(ha:nd.h.a=a)(hia:a<r.m)(hop:nd.h.op=16)(hA:nd.At w0)(hs1:nd.bd.shp j.n j.g j.fns.len j.f.slots.len=true)(hs2:nd.el.shp j.n j.g j.fns.len j.f.slots.len=true)(hb1:zen w0 j nd.bd)(hb2:zen w0 j nd.el) :
  Calls Tryz.prog 101 #[.pointer (some ⟨v,0,none⟩),.pointer (some ⟨p,0,none⟩),.agg nd.vs.toArray] w fun e w'=>e=.returned (.tuple #[])∧StpR w0 j v p r (if s.set a=true then chO j nd s else none) w w':=by
 have HO:=hid hop;have HKK:=hid (show Kn w0 j∧r.m=j.f.slots.len∧(0<r.m∧r.m≤250) from ⟨hK,hm,by rw[hm];exact hK.m0,by rw[hm];exact hK.m2⟩)
 have HS:=hid (show Rel r s∧s.gone=false∧LabS j.n s from ⟨hr,hg,hl⟩);have HN:=hid (show nd.At w0∧nd.bd.shp j.n j.g j.fns.len j.f.slots.len=true∧nd.el.shp j.n j.g j.fns.len j.f.slots.len=true from ⟨hA,hs1,hs2⟩);have HC:=hid (show zen w0 j nd.bd∧zen w0 j nd.el from ⟨hb1,hb2⟩);have HA:=hid (show nd.h.a=a∧a<r.m from ⟨ha,hia⟩);have HR:=hid (R1.new nd hx);have HSA:=hid (show r.set a=s.set a from hr.2 hg a hia);clear hx hr hg hl hm hop hA hs1 hs2 hb1 hb2 hK ha hia;obtain⟨o,ho⟩:∃o,o=(if s.set a=true then chO j nd s else none):=⟨_,rfl⟩;rw[←ho];have HOO:=hid ho;clear ho;go_enter Tryz.func101,Tryz.ntmps101
 go_upto_region 1 with fail
 generalize (w.alloc (.cells nd.vs.toArray 86))=w1 at *;have n0:=HR.out.N.cell 0 (v:=.int .i64 16) (by rw[←HO.out];rfl)
 have na:=HR.out.N.cell 2 (v:=.int .i64 a) (by rw[←HA.out.1];rfl)
 have bN:=HR.out.N;go_wp2_with (first | (refine wpList_load_mid rfl 86 (.tmp 5) rfl w.heap.size 0 (by kernel_rfl) nd.vs _ bN.range Tryz.underlying86 rfl (by kernel_rfl) ?_))
 refine (HR.out.read HKK.out.1.d HKK.out.2.1 HA.out.2).mono ?_;rintro _ y1 ⟨rfl,h1,_⟩;have HR3:=hid h1;clear h1 bN na n0 HR;go_wp2_with fail
 refine (HR3.out.kind HKK.out.1.d HKK.out.2.1 HA.out.2 2 (by decide) (by decide)).mono ?_;rintro _ y2 ⟨⟨x,rfl,hku⟩,h2,_⟩;have HR4:=hid h2;have HX:=hid hku.2.1;clear h2 hku HR3;go_upto_region 4 with (refine zk8 rfl (.tmp 19) rfl x (by kernel_rfl) ?_)
 try simp only[Act.put,zA,zB,zC]
 generalize hok:((true&&r.set a)&&((j.read nd a).k==2))=ok at *;have HOK:=hid hok;clear hok;have c19:=HR4.out.g.x.cw 19 (x:=.bool ok) rfl;cases ok
 ·go_wp2;refine bodyPost_ret (v:=.tuple #[]) (by kernel_rfl) rfl ?_;have e:o=none:=by
   rw[HOO.out];unfold chO;rw[←HSA.out,HA.out.1];have h:=HOK.out;cases q:r.set a
   ·rfl
   ·rw[if_pos rfl];rw[q] at h;rw[if_neg (by simpa using h)]
  exact⟨rfl,false,r,HR4.out.g,⟨rfl,rfl⟩,by rw[e];rfl,fun s' h=>by rw[e] at h;cases h⟩
 ·have HK2:=hid (show r.set a=true∧(j.read nd a).k=2 from by have h:=HOK.out;simp only[Bool.and_eq_true,beq_iff_eq] at h;exact⟨h.1.2,h.2⟩)
  have ex:=HX.out HK2.out.2;subst ex;have HLA:=hid (show lab j.n (j.read nd a).l from (zgg HKK.out.1 nd (a:=(a:Int)) (by omega) (by have h1:=HA.out.2;have h2:=HKK.out.2.1;omega) (by rw[HK2.out.2];decide)).1)
  replace HOO:Hid (o=(j.list nd.bd ⟨zad j.n j.g s.at_ (j.read nd a).l,-1,s.set,false⟩).bind fun A=>(j.list nd.el ⟨zad j.n j.g s.at_ (j.read nd a).l,-1,s.set,false⟩).bind fun B=>some (j.junc s A B (zad j.n j.g A.x B.x))):=by
   show _=_
   rw[HOO.out,if_pos (by rw[←HSA.out];exact HK2.out.1)]
   unfold chO;rw[HA.out.1,if_pos HK2.out.2]
  generalize (j.read nd a).l=la at *;go_upto_region 5 with fail
  clear c19;go_wp2_with fail
  refine (zgi w0 j la v p true r y2 HKK.out.1.d HR4.out.g.x HKK.out.2.2.1 HKK.out.2.2.2).mono ?_;rintro _ y3 ⟨pa,ra,rfl,hra,hxa,hb3,hpa,hqa⟩;have HR5:=hid (HR4.out.kept hb3);have HXA:=hid (show Rx w0 j v pa true ra y3∧(w.heap.size+1≤pa∧w.heap.size+1≤ra.q)∧ra.m=r.m∧Rel ra ⟨zad j.n j.g s.at_ la,-1,s.set,false⟩ from ⟨hxa,⟨Nat.le_trans HR4.out.base hpa,Nat.le_trans HR4.out.base hqa⟩,hra.2.2.1,zle HS.out.1 HS.out.2.1 ⟨by rw[hra.1,HS.out.1.1.1],hra.2⟩⟩);clear hra hxa hb3 hpa hqa HR4;have n12:=HR5.out.N.cell 12 (v:=.slice nd.bd.ao nd.bd.len nd.bd.cap) rfl;go_wp2_with fail
  refine (HC.out.1 v pa ra ⟨zad j.n j.g s.at_ la,-1,s.set,false⟩ y3 HXA.out.1 HXA.out.2.2.2 ⟨zbj HKK.out.1.fm HS.out.2.2.1 HLA.out,Or.inl rfl⟩ (by rw[HXA.out.2.2.1];exact HKK.out.2.1)).mono ?_
  rintro _ y4 ⟨rfl,okA,rA,hgA,⟨hqA,hmA⟩,hokA,hrelA⟩;have HR6:=hid (HR5.out.sub hgA HXA.out.2.1.1 (by rw[hqA];exact HXA.out.2.1.2))
  have HWA:=hid (show Ws w0 pa rA y4∧(w.heap.size+1≤pa∧w.heap.size+1≤rA.q)∧rA.m=r.m∧pa<y4.heap.size∧rA.q<y4.heap.size from ⟨⟨hgA.x.S,hgA.x.R⟩,⟨HXA.out.2.1.1,by rw[hqA];exact HXA.out.2.1.2⟩,by rw[hmA];exact HXA.out.2.2.1,hgA.x.lts.2.1,hgA.x.lts.2.2.1⟩)
  have HOA:=hid (show okA=(j.list nd.bd ⟨zad j.n j.g s.at_ la,-1,s.set,false⟩).isSome∧∀s',j.list nd.bd ⟨zad j.n j.g s.at_ la,-1,s.set,false⟩=some s'→Rel rA s' from ⟨hokA,hrelA⟩);clear hgA hqA hmA hokA hrelA HXA HR5 n12;have n0:=HR6.out.N.cell 0 (v:=.int .i64 16) (by rw[←HO.out];rfl)
  go_wp2_with fail
  refine (zgi w0 j la v p okA r y4 HKK.out.1.d HR6.out.g.x HKK.out.2.2.1 HKK.out.2.2.2).mono ?_;rintro _ y5 ⟨pb,rb,rfl,hrb,hxb,hb5,hpb,hqb⟩;have HR7:=hid (HR6.out.kept hb5);have HWB:=hid (show Ws w0 pa rA y5 from HWA.out.1.kept hb5);have HXB:=hid (show Rx w0 j v pb okA rb y5∧(y4.heap.size≤pb∧y4.heap.size≤rb.q)∧rb.m=r.m∧Rel rb ⟨zad j.n j.g s.at_ la,-1,s.set,false⟩∧w.heap.size+1≤y4.heap.size from ⟨hxb,⟨hpb,hqb⟩,hrb.2.2.1,zle HS.out.1 HS.out.2.1 ⟨by rw[hrb.1,HS.out.1.1.1],hrb.2⟩,HR6.out.base⟩);clear hrb hxb hb5 hpb hqb HR6 n0;have n0:=HR7.out.N.cell 0 (v:=.int .i64 16) (by rw[←HO.out];rfl)
  have n13:=HR7.out.N.cell 13 (v:=.slice nd.el.ao nd.el.len nd.el.cap) rfl;cases okA
  ·go_wp2_with fail
   refine (zl2 w0 j v pb rb nd.el y5 HXB.out.1).mono ?_;rintro _ y6 ⟨rfl,hgB⟩;have HR8:=hid (HR7.out.sub hgB (Nat.le_trans HXB.out.2.2.2.2 HXB.out.2.1.1) (Nat.le_trans HXB.out.2.2.2.2 HXB.out.2.1.2));clear hgB n0 n13;have c19:=HR8.out.g.x.cw 19 (x:=.bool false) rfl;go_wp2;go_end0;have e:o=none:=by rw[HOO.out];exact zk4 HOA.out.1
   exact⟨rfl,false,r,HR8.out.g,⟨rfl,rfl⟩,by rw[e];rfl,fun s' h=>by rw[e] at h;cases h⟩
  ·go_wp2_with fail
   refine (HC.out.2 v pb rb ⟨zad j.n j.g s.at_ la,-1,s.set,false⟩ y5 HXB.out.1 HXB.out.2.2.2.1 ⟨zbj HKK.out.1.fm HS.out.2.2.1 HLA.out,Or.inl rfl⟩ (by rw[HXB.out.2.2.1];exact HKK.out.2.1)).mono ?_
   rintro _ y6 ⟨rfl,okB,rB,hgB,⟨hqB,hmB⟩,hokB,hrelB⟩;have HR8:=hid (HR7.out.sub hgB (Nat.le_trans HXB.out.2.2.2.2 HXB.out.2.1.1) (by rw[hqB];exact Nat.le_trans HXB.out.2.2.2.2 HXB.out.2.1.2))
   have HWC:=hid (show Ws w0 pa rA y6 from HWB.out.sub hgB (Or.inl HR7.out.g.x.W) (by have h1:=HWA.out.2.2.2.1;have h2:=HXB.out.2.1.1;omega) (by rw[hqB];have h1:=HWA.out.2.2.2.1;have h2:=HXB.out.2.1.2;omega) (by have h1:=HWA.out.2.2.2.2;have h2:=HXB.out.2.1.1;omega) (by rw[hqB];have h1:=HWA.out.2.2.2.2;have h2:=HXB.out.2.1.2;omega))
   have HBB:=hid (show Ws w0 pb rB y6∧(w.heap.size+1≤pb∧w.heap.size+1≤rB.q)∧rB.m=r.m from ⟨⟨hgB.x.S,hgB.x.R⟩,⟨Nat.le_trans HXB.out.2.2.2.2 HXB.out.2.1.1,by rw[hqB];exact Nat.le_trans HXB.out.2.2.2.2 HXB.out.2.1.2⟩,by rw[hmB];exact HXB.out.2.2.1⟩)
   have HOB:=hid (show okB=(j.list nd.el ⟨zad j.n j.g s.at_ la,-1,s.set,false⟩).isSome∧∀s',j.list nd.el ⟨zad j.n j.g s.at_ la,-1,s.set,false⟩=some s'→Rel rB s' from ⟨hokB,hrelB⟩);clear hgB hqB hmB hokB hrelB HXB HWB HR7 n0 n13;have c19:=HR8.out.g.x.cw 19 (x:=.bool okB) rfl;have n0:=HR8.out.N.cell 0 (v:=.int .i64 16) (by rw[←HO.out];rfl)
   obtain⟨A,hA⟩:=Option.isSome_iff_exists.1 HOA.out.1.symm;have HAA:=hid hA;clear hA;cases okB
   ·go_wp2;go_end0;have e:o=none:=by rw[HOO.out,HAA.out];show (j.list nd.el _).bind _=none;exact zk4 HOB.out.1
    exact⟨rfl,false,r,HR8.out.g,⟨rfl,rfl⟩,by rw[e];rfl,fun s' h=>by rw[e] at h;cases h⟩
   ·obtain⟨B,hB⟩:=Option.isSome_iff_exists.1 HOB.out.1.symm;have HB2:=hid hB;clear hB;have HJX:Hid (Jx w0 j v p pa pb true r rA rB y6 y6):=⟨⟨HR8.out.g.x,Foot.refl _ _⟩,HWC.out.S,HWC.out.R,HBB.out.1.S,HBB.out.1.R,by have h1:=HR8.out.l;have h2:=HWA.out.2.1;omega,by have h1:=HR8.out.l;have h2:=HBB.out.2.1;omega,by have h1:=HR8.out.l;have h2:=HWA.out.2.1;omega,by have h1:=HR8.out.l;have h2:=HBB.out.2.1;omega⟩
    go_wp2_with fail
    refine (zqw w0 j v p pa pb true r rA rB y6 HKK.out.1.d HJX.out HWA.out.2.2.1 HBB.out.2.2 HKK.out.2.2.2).mono ?_;rintro _ y7 ⟨rfl,hgJ⟩;have HR9:=hid (HR8.out.next hgJ rfl);clear hgJ c19 n0;go_wp2;go_end0;have e:o=some (j.junc s A B (zad j.n j.g A.x B.x)):=by rw[HOO.out,HAA.out,HB2.out];rfl
    have lA:=zj0 HKK.out.1 HN.out.1.bd HN.out.2.1 HAA.out ⟨zbj HKK.out.1.fm HS.out.2.2.1 HLA.out,Or.inl rfl⟩;have lB:=zj0 HKK.out.1 HN.out.1.el HN.out.2.2 HB2.out ⟨zbj HKK.out.1.fm HS.out.2.2.1 HLA.out,Or.inl rfl⟩;exact⟨rfl,true,_,HR9.out.g,⟨rfl,rfl⟩,by rw[e];rfl,fun s' h=>by rw[e] at h;rw[←Option.some.inj h];exact join16 HKK.out.1 HS.out.1 (HOA.out.2 _ HAA.out) (HOB.out.2 _ HB2.out) HWA.out.2.2.1 HBB.out.2.2 HS.out.2.2 lA lB⟩
theorem wk_row {u:World}{v:Nat}{n:Strs}{g:Grid}{s:Fl}{f:Fc}{ok:Bool}{t:TypeId}(h:Blk u v (wkV n g s f ok) t):u.rangeAt v 3 f.vs:=fun k x hk=>by
 refine h.cell (3+k) ?_;rw[Nat.add_comm];show (f.vs++[Value.bool ok])[k]?=some x
 rw[List.getElem?_append_left (List.getElem?_eq_some_iff.1 hk).1];exact hk
theorem zuy (w0:World)(j:Jd)(nd:Nd)(d:Nat)(v p:Nat)(r:Rst)(w:World)(hd:Dt w0 j)(hbt:j.bot=botI j.n j.g)(hx:Rx w0 j v p true r w)(hm:r.m=j.f.slots.len)(hdst:nd.h.dst=d)(hi:d<r.m)(a b:Nat)(ha:nd.h.a=a)(hb:nd.h.b=b)(hia:a<r.m)(hib:b<r.m)(hN:6≤nd.h.n∧nd.h.n≤12)(hop:nd.h.op=4) :
  Calls Tryz.prog 61 #[.pointer (some ⟨v,0,none⟩),.pointer (some ⟨p,0,none⟩),.agg nd.vs.toArray] w fun e w'=>e=.returned (.tuple #[])∧zde w0 j nd d v p r w w':=by
 have HO:=hid hop;have HBT:=hid hbt;have HD:=hid (show Dt w0 j∧r.m=j.f.slots.len∧nd.h.dst=d∧d<r.m from ⟨hd,hm,hdst,hi⟩);have HR:=hid (R1.new nd hx);have HA:=hid (show nd.h.a=a∧nd.h.b=b∧a<r.m∧b<r.m from ⟨ha,hb,hia,hib⟩);have HNN:=hid hN;clear hx hm hd hdst hi hop hbt ha hb hia hib hN;go_enter Tryz.func61,Tryz.ntmps61
 go_upto_region 1 with fail
 generalize (w.alloc (.cells nd.vs.toArray 86))=w1 at *;have c0:=HR.out.g.x.cw 0 (x:=.slice j.n.ao j.n.len j.n.cap) rfl;have c1:=HR.out.g.x.cw 1 (x:=.slice j.g.ao j.g.len j.g.cap) rfl;have hB:=zas j.n j.g w1 (HD.out.1.n.kept HR.out.g.x.bl) (HD.out.1.g.kept HR.out.g.x.bl);go_wp2_with fail
 refine hB.mono ?_;rintro _ w2 ⟨rfl,hb2⟩;have HR2:=hid (HR.out.kept hb2);clear hB hb2 HR c0 c1;rw[←HBT.out];have n0:=HR2.out.N.cell 0 (v:=.int .i64 4) (by rw[←HO.out];rfl)
 go_upto_region 10 with fail
 clear n0;have bN:=HR2.out.N;go_wp2_with (first | (refine wpList_load_mid rfl 86 (.tmp 5) rfl w.heap.size 0 (by kernel_rfl) nd.vs _ bN.range Tryz.underlying86 rfl (by kernel_rfl) ?_))
 refine (zmg w0 j nd a b d v p r w2 HD.out.1 HR2.out.g.x HD.out.2.1 HA.out.1 HA.out.2.1 HD.out.2.2.1 HA.out.2.2.1 HA.out.2.2.2 HD.out.2.2.2 HO.out HNN.out).mono ?_;rintro _ w3 ⟨rfl,ok3,r3,hg,hq,hm3,hs⟩;have HR3:=hid (show R1 w0 j v p ok3 r3 nd w w3∧r3.q=r.q∧r3.m=r.m∧ze6 j nd d r ok3 r3 from ⟨HR2.out.next hg hq,hq,hm3,hs⟩);clear hg hq hm3 hs;go_wp2;go_end0;exact⟨rfl,ok3,r3,HR3.out.1.g,HR3.out.2.1,HR3.out.2.2.1,HR3.out.2.2.2⟩
theorem zsk (w0:World)(j:Jd)(nd:Nd)(d:Nat)(v p:Nat)(r:Rst)(w:World)(hd:Dt w0 j)(hbt:j.bot=botI j.n j.g)(hx:Rx w0 j v p true r w)(hm:r.m=j.f.slots.len)(hdst:nd.h.dst=d)(hi:d<r.m)(a b:Nat)(ha:nd.h.a=a)(hb:nd.h.b=b)(hia:a<r.m)(hib:b<r.m)(hop:nd.h.op=11) :
  Calls Tryz.prog 61 #[.pointer (some ⟨v,0,none⟩),.pointer (some ⟨p,0,none⟩),.agg nd.vs.toArray] w fun e w'=>e=.returned (.tuple #[])∧zde w0 j nd d v p r w w':=by
 have HO:=hid hop;have HBT:=hid hbt;have HD:=hid (show Dt w0 j∧r.m=j.f.slots.len∧nd.h.dst=d∧d<r.m from ⟨hd,hm,hdst,hi⟩);have HR:=hid (R1.new nd hx);have HA:=hid (show nd.h.a=a∧nd.h.b=b∧a<r.m∧b<r.m from ⟨ha,hb,hia,hib⟩);clear hx hm hd hdst hi hop hbt ha hb hia hib;go_enter Tryz.func61,Tryz.ntmps61
 go_upto_region 1 with fail
 generalize (w.alloc (.cells nd.vs.toArray 86))=w1 at *;have c0:=HR.out.g.x.cw 0 (x:=.slice j.n.ao j.n.len j.n.cap) rfl;have c1:=HR.out.g.x.cw 1 (x:=.slice j.g.ao j.g.len j.g.cap) rfl;have hB:=zas j.n j.g w1 (HD.out.1.n.kept HR.out.g.x.bl) (HD.out.1.g.kept HR.out.g.x.bl);go_wp2_with fail
 refine hB.mono ?_;rintro _ w2 ⟨rfl,hb2⟩;have HR2:=hid (HR.out.kept hb2);clear hB hb2 HR c0 c1;rw[←HBT.out];have n0:=HR2.out.N.cell 0 (v:=.int .i64 11) (by rw[←HO.out];rfl)
 go_upto_region 27 with fail
 clear n0;have bN:=HR2.out.N;go_wp2_with (first | (refine wpList_load_mid rfl 86 (.tmp 5) rfl w.heap.size 0 (by kernel_rfl) nd.vs _ bN.range Tryz.underlying86 rfl (by kernel_rfl) ?_))
 refine (zor w0 j nd a b d v p r w2 HD.out.1 HR2.out.g.x HD.out.2.1 HA.out.1 HA.out.2.1 HD.out.2.2.1 HA.out.2.2.1 HA.out.2.2.2 HD.out.2.2.2 HO.out).mono ?_;rintro _ w3 ⟨rfl,ok3,r3,hg,hq,hm3,hs⟩;have HR3:=hid (show R1 w0 j v p ok3 r3 nd w w3∧r3.q=r.q∧r3.m=r.m∧ze6 j nd d r ok3 r3 from ⟨HR2.out.next hg hq,hq,hm3,hs⟩);clear hg hq hm3 hs;go_wp2;go_end0;exact⟨rfl,ok3,r3,HR3.out.1.g,HR3.out.2.1,HR3.out.2.2.1,HR3.out.2.2.2⟩
theorem zv5 (w0:World)(j:Jd)(nd:Nd)(d:Nat)(v p:Nat)(r:Rst)(w:World)(hd:Dt w0 j)(hbt:j.bot=botI j.n j.g)(hx:Rx w0 j v p true r w)(hm:r.m=j.f.slots.len)(hdst:nd.h.dst=d)(hi:d<r.m)(N:Nat)(hn:nd.h.n=N)(hN:N<j.fns.len)(har:nd.h.ar.At w0)(hai:∀i,i<nd.h.ar.len→∃a:Nat,nd.h.ar.f i=a∧a<r.m)(hop:nd.h.op=9) :
  Calls Tryz.prog 61 #[.pointer (some ⟨v,0,none⟩),.pointer (some ⟨p,0,none⟩),.agg nd.vs.toArray] w fun e w'=>e=.returned (.tuple #[])∧zde w0 j nd d v p r w w':=by
 have HO:=hid hop;have HBT:=hid hbt;have HD:=hid (show Dt w0 j∧r.m=j.f.slots.len∧nd.h.dst=d∧d<r.m from ⟨hd,hm,hdst,hi⟩);have HR:=hid (R1.new nd hx);have HNN:=hid (show nd.h.n=N∧N<j.fns.len∧nd.h.ar.At w0∧(∀i,i<nd.h.ar.len→∃a:Nat,nd.h.ar.f i=a∧a<r.m) from ⟨hn,hN,har,hai⟩);clear hx hm hd hdst hi hop hbt hn hN har hai;go_enter Tryz.func61,Tryz.ntmps61
 go_upto_region 1 with fail
 generalize (w.alloc (.cells nd.vs.toArray 86))=w1 at *;have c0:=HR.out.g.x.cw 0 (x:=.slice j.n.ao j.n.len j.n.cap) rfl;have c1:=HR.out.g.x.cw 1 (x:=.slice j.g.ao j.g.len j.g.cap) rfl;have hB:=zas j.n j.g w1 (HD.out.1.n.kept HR.out.g.x.bl) (HD.out.1.g.kept HR.out.g.x.bl);go_wp2_with fail
 refine hB.mono ?_;rintro _ w2 ⟨rfl,hb2⟩;have HR2:=hid (HR.out.kept hb2);clear hB hb2 HR c0 c1;rw[←HBT.out];have n0:=HR2.out.N.cell 0 (v:=.int .i64 9) (by rw[←HO.out];rfl)
 go_upto_region 23 with fail
 clear n0;have bN:=HR2.out.N;go_wp2_with (first | (refine wpList_load_mid rfl 86 (.tmp 5) rfl w.heap.size 0 (by kernel_rfl) nd.vs _ bN.range Tryz.underlying86 rfl (by kernel_rfl) ?_))
 refine (zn2 w0 j nd d N v p r w2 HD.out.1 HR2.out.g.x HD.out.2.1 HNN.out.1 HNN.out.2.1 HNN.out.2.2.1 HNN.out.2.2.2 HD.out.2.2.1 HD.out.2.2.2 HO.out).mono ?_;rintro _ w3 ⟨rfl,ok3,r3,hg,hq,hm3,hs⟩;have HR3:=hid (show R1 w0 j v p ok3 r3 nd w w3∧r3.q=r.q∧r3.m=r.m∧ze6 j nd d r ok3 r3 from ⟨HR2.out.next hg hq,hq,hm3,hs⟩);clear hg hq hm3 hs;go_wp2;go_end0;exact⟨rfl,ok3,r3,HR3.out.1.g,HR3.out.2.1,HR3.out.2.2.1,HR3.out.2.2.2⟩
theorem zt3 (w0:World)(j:Jd)(nd:Nd)(d:Nat)(v p:Nat)(r:Rst)(w:World)(hd:Dt w0 j)(hbt:j.bot=botI j.n j.g)(hx:Rx w0 j v p true r w)(hm:r.m=j.f.slots.len)(hdst:nd.h.dst=d)(hi:d<r.m)(hop:nd.h.op=10) :
  Calls Tryz.prog 61 #[.pointer (some ⟨v,0,none⟩),.pointer (some ⟨p,0,none⟩),.agg nd.vs.toArray] w fun e w'=>e=.returned (.tuple #[])∧zde w0 j nd d v p r w w':=by
 have HO:=hid hop;have HBT:=hid hbt;have HD:=hid (show Dt w0 j∧r.m=j.f.slots.len∧nd.h.dst=d∧d<r.m from ⟨hd,hm,hdst,hi⟩);have HR:=hid (R1.new nd hx);clear hx hm hd hdst hi hop hbt;go_enter Tryz.func61,Tryz.ntmps61
 go_upto_region 1 with fail
 generalize (w.alloc (.cells nd.vs.toArray 86))=w1 at *;have c0:=HR.out.g.x.cw 0 (x:=.slice j.n.ao j.n.len j.n.cap) rfl;have c1:=HR.out.g.x.cw 1 (x:=.slice j.g.ao j.g.len j.g.cap) rfl;have hB:=zas j.n j.g w1 (HD.out.1.n.kept HR.out.g.x.bl) (HD.out.1.g.kept HR.out.g.x.bl);go_wp2_with fail
 refine hB.mono ?_;rintro _ w2 ⟨rfl,hb2⟩;have HR2:=hid (HR.out.kept hb2);clear hB hb2 HR c0 c1;rw[←HBT.out];have n0:=HR2.out.N.cell 0 (v:=.int .i64 10) (by rw[←HO.out];rfl)
 go_upto_region 25 with fail
 clear n0;have D1:=(Below.refl w2.heap.size w2).drew;have HRd:=hid (HR2.out.kept D1);have p0:∀x:Wd (fun q=>R1 w0 j v p true r nd w q),x.w.cell? ⟨v,0,none⟩=some (.slice j.n.ao j.n.len j.n.cap):=fun x=>x.2.g.x.cw 0 rfl;have p1:∀x:Wd (fun q=>R1 w0 j v p true r nd w q),x.w.cell? ⟨v,1,none⟩=some (.slice j.g.ao j.g.len j.g.cap):=fun x=>x.2.g.x.cw 1 rfl;have hCN:∀q,(∃x:Wd (fun q=>R1 w0 j v p true r nd w q),q=x.w)→q.rangeAt w.heap.size 0 nd.vs:=by rintro _ ⟨x,rfl⟩;exact x.2.N.range
 have hCF:∀q,(∃x:Wd (fun q=>R1 w0 j v p true r nd w q),q=x.w)→q.rangeAt v 3 j.f.vs:=by rintro _ ⟨x,rfl⟩;exact wk_row x.2.g.x.W
 have hNE:Nonempty (Wd (fun q=>R1 w0 j v p true r nd w q)):=⟨⟨_,HR2.out⟩⟩;refine zaw (fun q=>R1 w0 j v p true r nd w q) 12 [0,1,2,3,4,5,6,7,8,9,10] 2 (by kernel_rfl) rfl (by kernel_rfl) HRd.out ?_;simp only[List.filterMap,zD,zE];iterate 2 go_big_quiet_step (fail)
 go_big_quiet_want;refine zaa 86 (.tmp 5) rfl w.heap.size 0 (by kernel_rfl) nd.vs _ hCN Tryz.underlying86 rfl (by kernel_rfl) ?_;simp only[Act.put,zA,zB,zC];go_big_quiet_on;iterate 7 go_big_quiet_step (fail)
 go_big_quiet_want;refine zaa 53 (.tmp 146) rfl v 3 (by kernel_rfl) j.f.vs _ hCF Tryz.underlying53 rfl (by kernel_rfl) ?_;simp only[Act.put,zA,zB,zC];go_big_quiet_on;refine wpQuiet_nil ?_;clear p0 p1 hCN hCF hNE D1 HR2;generalize w2.drew=y0 at *;refine zaj (rs:=[11]) (by kernel_rfl) (by simp) ?_;refine AllReadyL.cons rfl (fun K hK=>?_) AllReadyL.nil;rw[if_pos (by rfl)];go_simp;refine (zju j.n j.g j.f y0 (HD.out.1.n.kept HRd.out.g.x.bl) (HD.out.1.g.kept HRd.out.g.x.bl) (HD.out.1.f.param.kept HRd.out.g.x.bl) (HD.out.1.f.result.kept HRd.out.g.x.bl)).mono ?_;rintro _ y1 ⟨u,rfl,uA,uS,hb1⟩;have HR3:=hid (HRd.out.kept hb1);have HU:=hid (show u.At y1∧u.same (sigT j.n j.g j.f)=true from ⟨uA,uS⟩);refine hK.out _ _ (fun _=>HR3.out) ?_;clear hK K;clear uA uS hb1 HRd;refine zaj (rs:=[12]) (by kernel_rfl) (by simp) ?_;refine AllReadyL.cons rfl (fun K hK=>?_) AllReadyL.nil;rw[if_pos (by rfl)];go_simp;refine (zaz w0 j nd u (-1) d v p true r y1 HD.out.1 HR3.out.g.x HD.out.2.1 HD.out.2.2.1 HD.out.2.2.2 HU.out.1).mono ?_;rintro _ y2 ⟨rfl,hg⟩;have HR4:=hid (HR3.out.next hg rfl);refine hK.out _ _ (fun h=>absurd rfl h) ?_;clear hK K;refine zbc (by kernel_rfl) ?_ _;refine⟨(fun c hc=>by cases hc),?_⟩;clear hg;go_wp2;go_end0;have sn:(sigT j.n j.g j.f).Nd:=zh2 HD.out.1.f;exact⟨rfl,_,_,HR4.out.g,rfl,rfl,⟨by rw[zni HO.out,zjw r (by have:=HO.out;omega)];show _=(true&&belB j.n j.g (zai j.n j.g (sigT j.n j.g j.f) (zad j.n j.g nd.h.env (-1))) (j.f.slots.ps d));rw[zck (zbf HU.out.1.nd) (zbf sn) (zch HU.out.1.nd sn HU.out.2)],fun _=>by rw[zni HO.out]⟩⟩
end
end Go.Proofs.YtgioppfoceddfaaGreat
