import Derived.Test.YtgioppfoceddfaaGreatP44
import Derived.Test.YtgioppfoceddfaaGreatP24
set_option maxRecDepth 100000
set_option maxHeartbeats 32000000
namespace Go.Proofs.YtgioppfoceddfaaGreat
section
open Go Go.RowKit
def SS1 (w0:World)(j:Jd)(v p:Nat)(r:Rst)(nd:Nd)(w q:World):Prop:=∃ok,R1 w0 j v p ok r nd w q
theorem zmi (bt:Int)(B:Nat)(t:Ty)(w:World):(Instr.build 38 #[(0,.int .i64 5),(1,.int .i64 bt),(2,.slice (some ⟨B,0,none⟩) 1 1)]).run Tryz.prog w=.ok (.agg (mkA 5 bt B t).vs.toArray) w:=by kernel_rfl
theorem mk1_nd {k l:Int}{t:Ty}{w:World}(h:t.At w):(mk1 k l t).Nd:=by
 show ∀i,i<1→_
 intro i hi;exact h.nd
theorem zt8 (w0:World)(j:Jd)(nd:Nd)(d:Nat)(v p:Nat)(r:Rst)(w:World)(hd:Dt w0 j)(hbt:j.bot=botI j.n j.g)(hx:Rx w0 j v p true r w)(hm:r.m=j.f.slots.len)(hdst:nd.h.dst=d)(hi:d<r.m)(a:Nat)(ha:nd.h.a=a)(hia:a<r.m)(htt:nd.h.t.At w0)(hop:nd.h.op=12) :
  Calls Tryz.prog 61 #[.pointer (some ⟨v,0,none⟩),.pointer (some ⟨p,0,none⟩),.agg nd.vs.toArray] w fun e w'=>e=.returned (.tuple #[])∧zde w0 j nd d v p r w w':=by
 have HO:=hid hop;have HBT:=hid hbt;have HD:=hid (show Dt w0 j∧r.m=j.f.slots.len∧nd.h.dst=d∧d<r.m from ⟨hd,hm,hdst,hi⟩);have HR:=hid (R1.new nd hx);have HA:=hid (show nd.h.a=a∧a<r.m from ⟨ha,hia⟩);have HTT:=hid htt;clear hx hm hd hdst hi hop hbt ha hia htt;go_enter Tryz.func61,Tryz.ntmps61
 go_upto_region 1 with fail
 generalize (w.alloc (.cells nd.vs.toArray 86))=w1 at *;have c0:=HR.out.g.x.cw 0 (x:=.slice j.n.ao j.n.len j.n.cap) rfl;have c1:=HR.out.g.x.cw 1 (x:=.slice j.g.ao j.g.len j.g.cap) rfl;have hB:=zas j.n j.g w1 (HD.out.1.n.kept HR.out.g.x.bl) (HD.out.1.g.kept HR.out.g.x.bl);go_wp2_with fail
 refine hB.mono ?_;rintro _ w2 ⟨rfl,hb2⟩;have HR2:=hid (HR.out.kept hb2);clear hB hb2 HR c0 c1;rw[←HBT.out];have n0:=HR2.out.N.cell 0 (v:=.int .i64 12) (by rw[←HO.out];rfl)
 go_upto_region 29 with fail
 clear n0;have D1:=(Below.refl w2.heap.size w2).drew;have HRd:=hid (HR2.out.kept D1);have p0:∀x:Wd (SS1 w0 j v p r nd w),x.w.cell? ⟨v,0,none⟩=some (.slice j.n.ao j.n.len j.n.cap):=fun x=>by obtain⟨_,h⟩:=x.2;exact h.g.x.cw 0 rfl
 have p1:∀x:Wd (SS1 w0 j v p r nd w),x.w.cell? ⟨v,1,none⟩=some (.slice j.g.ao j.g.len j.g.cap):=fun x=>by obtain⟨_,h⟩:=x.2;exact h.g.x.cw 1 rfl
 have pa:∀x:Wd (SS1 w0 j v p r nd w),x.w.cell? ⟨w.heap.size,2,none⟩=some (.int .i64 a):=fun x=>by obtain⟨_,h⟩:=x.2;exact h.N.cell 2 (by rw[←HA.out.1];rfl)
 have hCN:∀q,(∃x:Wd (SS1 w0 j v p r nd w),q=x.w)→q.rangeAt w.heap.size 0 nd.vs:=by rintro _ ⟨x,rfl⟩;obtain⟨_,h⟩:=x.2;exact h.N.range
 have hCT:∀q,(∃x:Wd (SS1 w0 j v p r nd w),q=x.w)→q.rangeAt w.heap.size 6 nd.h.t.vs:=by rintro _ ⟨x,rfl⟩;obtain⟨_,h⟩:=x.2;exact zbm h.N 6 rfl rfl rfl rfl rfl
 have hNE:Nonempty (Wd (SS1 w0 j v p r nd w)):=⟨⟨_,_,HR2.out⟩⟩;refine zbi (SS1 w0 j v p r nd w) [0,1,2,3,4,5,6,7,8,9,11,12] 3 (by kernel_rfl) rfl (by kernel_rfl) (zeh (by kernel_rfl)) ⟨_,HRd.out⟩ ?_;simp only[List.filterMap,zD,zE];iterate 7 go_big_quiet_step (fail)
 go_big_quiet_want;refine zaa 86 (.tmp 5) rfl w.heap.size 0 (by kernel_rfl) nd.vs _ hCN Tryz.underlying86 rfl (by kernel_rfl) ?_;simp only[Act.put,zA,zB,zC];go_big_quiet_on;iterate 3 go_big_quiet_step (fail)
 go_big_quiet_want;refine zaa 38 (.tmp 169) rfl w.heap.size 6 (by kernel_rfl) nd.h.t.vs _ hCT Tryz.underlying38 rfl (by kernel_rfl) ?_;simp only[Act.put,zA,zB,zC];go_big_quiet_on;refine wpQuiet_nil ?_;clear p0 p1 pa hCN hCT hNE D1 HR2;generalize w2.drew=y0 at *;refine wpAnyH_ready (rs:=[10]) (by kernel_rfl) (by simp) ?_;refine AllReadyH.cons rfl (fun K hK=>?_) AllReadyH.nil;rw[if_pos (by rfl)];go_simp;refine (HRd.out.read HD.out.1 HD.out.2.1 HA.out.2).mono ?_;rintro _ y1 ⟨rfl,h1,_⟩;have HR3:=hid h1;refine hK.out _ _ (⟨_,HR3.out⟩) (fun _=>?_);clear hK K;clear h1 HRd;refine wpAnyH_ready (rs:=[13]) (by kernel_rfl) (by simp) ?_;refine AllReadyH.cons rfl (fun K hK=>?_) AllReadyH.nil;rw[if_pos (by rfl)];go_simp;refine (zcw j.n j.g (j.read nd a) nd.h.t y1 (HD.out.1.n.kept HR3.out.g.x.bl) (HD.out.1.g.kept HR3.out.g.x.bl) ((zc9 nd HD.out.1 (by have h1:=HA.out.2;have h2:=HD.out.2.1;omega)).kept HR3.out.g.x.bl) (HTT.out.kept HR3.out.g.x.bl)).mono ?_
 rintro _ y2 ⟨rfl,hb2⟩;have HR4:=hid (HR3.out.kept hb2);refine hK.out _ _ (⟨_,HR4.out⟩) (fun _=>?_);clear hK K;clear hb2 HR3;refine wpAnyH_ready (rs:=[14]) (by kernel_rfl) (by simp) ?_;refine AllReadyH.cons rfl (fun K hK=>?_) AllReadyH.nil;rw[if_pos (by rfl)];go_simp;refine (za8 j.n j.g j.fns j.f (true&&r.set a) (belB j.n j.g (j.read nd a) nd.h.t) v y2 HR4.out.g.x.W).mono ?_;rintro _ y3 ⟨rfl,W3⟩;have HR5:Hid (R1 w0 j v p ((true&&r.set a)&&belB j.n j.g (j.read nd a) nd.h.t) r nd w y3):=⟨HR4.out.g.wv W3,W3.keep HR4.out.N (by have:=HR4.out.l;omega),HR4.out.l⟩
 refine hK.out _ _ (⟨_,HR5.out⟩) (fun _=>?_);clear hK K;clear W3 HR4;refine wpAnyH_done (by kernel_rfl) ?_ _;refine⟨(fun c hc=>by cases hc),?_⟩;generalize hok3:((true&&r.set a)&&belB j.n j.g (j.read nd a) nd.h.t)=ok3 at *;have HK3:=hid hok3;clear hok3;have bN:=HR5.out.N;have bT:=zbm HR5.out.N 6 (t:=nd.h.t) rfl rfl rfl rfl rfl;have hsl:=zel nd.h.t y3;have hbn:=zac y3 (.cells nd.h.t.vs.toArray 38);have HR6:=hid (show R1 w0 j v p ok3 r nd w (y3.alloc (.cells nd.h.t.vs.toArray 38))∧(mkA 5 j.bot y3.heap.size nd.h.t).At (y3.alloc (.cells nd.h.t.vs.toArray 38)) from ⟨HR5.out.kept hbn,ztu (HTT.out.kept (HR5.out.kept hbn).g.x.bl) (Blk.new y3 nd.h.t.vs _)⟩);clear hbn;go_wp2_with (first | (refine wpList_load_mid rfl 86 (.tmp 5) rfl w.heap.size 0 (by kernel_rfl) nd.vs _ bN.range Tryz.underlying86 rfl (by kernel_rfl) ?_) | (refine wpList_load_mid rfl 38 (.tmp 177) rfl w.heap.size 6 (by kernel_rfl) nd.h.t.vs _ bT Tryz.underlying38 rfl (by kernel_rfl) ?_) | (refine zd4 rfl 36 1 #[(0,.tmp 178)] rfl #[(0,.agg nd.h.t.vs.toArray)] (by kernel_rfl) hsl ?_) | (refine zbn rfl 38 _ rfl _ (by kernel_rfl) (zmi j.bot y3.heap.size nd.h.t _) ?_))
 clear bN bT hsl HR5;generalize (y3.alloc (.cells nd.h.t.vs.toArray 38))=y4 at *;generalize y3.heap.size=B9 at *;refine (zaz w0 j nd (mkA 5 j.bot B9 nd.h.t) (-1) d v p ok3 r y4 HD.out.1 HR6.out.1.g.x HD.out.2.1 HD.out.2.2.1 HD.out.2.2.2 HR6.out.2).mono ?_;rintro _ y5 ⟨rfl,hg⟩;have HR7:=hid (HR6.out.1.next hg rfl);clear hg;go_wp2;go_end0;refine⟨rfl,_,_,HR7.out.g,rfl,rfl,⟨?_,fun _=>by rw[znm HO.out]⟩⟩;rw[znm HO.out,zey r (by have:=HO.out;omega) HA.out.1,←HK3.out]
 unfold Jd.cell;rw[HA.out.1];have tn:(mk1 5 j.bot nd.h.t).Nd:=mk1_nd HTT.out;rw[zck (zbf HR6.out.2.nd) (zbf tn) (zch HR6.out.2.nd tn znq)];cases hb:belB j.n j.g (j.read nd a) nd.h.t
 ·rw[if_neg (by simp),zdy];simp
 ·rw[if_pos rfl];simp
end
end Go.Proofs.YtgioppfoceddfaaGreat
