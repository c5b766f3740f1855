import Derived.Test.YtgioppfoceddfaaGreatP44
set_option maxRecDepth 100000
set_option maxHeartbeats 32000000
namespace Go.Proofs.YtgioppfoceddfaaGreat
section
open Go Go.RowKit
theorem zr2 (w0:World)(j:Jd)(nd:Nd)(v p:Nat)(r:Rst)(w:World)(hd:Dt w0 j)(hbt:j.bot=botI j.n j.g)(hx:Rx w0 j v p true r w)(hm:r.m=j.f.slots.len)(a:Nat)(ha:nd.h.a=a)(hia:a<r.m)(hop:nd.h.op=15) :
  Calls Tryz.prog 61 #[.pointer (some ⟨v,0,none⟩),.pointer (some ⟨p,0,none⟩),.agg nd.vs.toArray] w fun e w'=>e=.returned (.tuple #[])∧Rg w0 j v p (r.set a&&j.tells nd) r w w':=by
 have HO:=hid hop;have HBT:=hid hbt;have HD:=hid (show Dt w0 j∧r.m=j.f.slots.len∧True from ⟨hd,hm,trivial⟩);have HR:=hid (R1.new nd hx);have HA:=hid (show nd.h.a=a∧a<r.m from ⟨ha,hia⟩);clear hx hm hd hop hbt ha hia;go_enter Tryz.func61,Tryz.ntmps61
 go_upto_region 1 with fail
 generalize (w.alloc (.cells nd.vs.toArray 86))=w1 at *;have c0:=HR.out.g.x.cw 0 (x:=.slice j.n.ao j.n.len j.n.cap) rfl;have c1:=HR.out.g.x.cw 1 (x:=.slice j.g.ao j.g.len j.g.cap) rfl;have hB:=zas j.n j.g w1 (HD.out.1.n.kept HR.out.g.x.bl) (HD.out.1.g.kept HR.out.g.x.bl);go_wp2_with fail
 refine hB.mono ?_;rintro _ w2 ⟨rfl,hb2⟩;have HR2:=hid (HR.out.kept hb2);clear hB hb2 HR c0 c1;rw[←HBT.out];have n0:=HR2.out.N.cell 0 (v:=.int .i64 15) (by rw[←HO.out];rfl)
 go_upto_region 39 with fail
 clear n0;have bN:=HR2.out.N;have na:=HR2.out.N.cell 2 (v:=.int .i64 a) (by rw[←HA.out.1];rfl)
 go_wp2_with (first | (refine wpList_load_mid rfl 86 (.tmp 5) rfl w.heap.size 0 (by kernel_rfl) nd.vs _ bN.range Tryz.underlying86 rfl (by kernel_rfl) ?_))
 refine (HR2.out.read HD.out.1 HD.out.2.1 HA.out.2).mono ?_;rintro _ y1 ⟨rfl,h1,_⟩;have HR3:=hid h1;clear h1 bN na HR2;go_wp2_with fail
 refine (HR3.out.kind HD.out.1 HD.out.2.1 HA.out.2 1 (by decide) (by decide)).mono ?_;rintro _ y2 ⟨⟨x,rfl,hku⟩,h2,_⟩;have hbn:=zac y2 (.cells x.vs.toArray 38);have HR4:=hid (show R1 w0 j v p ((true&&r.set a)&&((j.read nd a).k==1)) r nd w (y2.alloc (.cells x.vs.toArray 38))∧Blk (y2.alloc (.cells x.vs.toArray 38)) y2.heap.size x.vs 38∧x.At (y2.alloc (.cells x.vs.toArray 38))∧w.heap.size+1≤y2.heap.size from ⟨h2.kept hbn,Blk.new y2 x.vs _,hku.1.kept hbn,h2.base⟩);have HX:=hid hku.2;clear h2 hku hbn HR3;go_upto_region 40 with (refine zao rfl rfl 38 rfl (.tmp 12) (.tmp 263) rfl zTv (alloc_ty _) rfl x.vs.toArray (by kernel_rfl) (by kernel_rfl) rfl (by kernel_rfl) (by simpa using x.vs_one) ?_)
 generalize (y2.alloc (.cells x.vs.toArray 38))=y3 at *;simp only[Act.put,zA,zB,zC];generalize y2.heap.size=B8 at *;generalize hok3:((true&&r.set a)&&((j.read nd a).k==1))=ok3 at *;have HK3:=hid hok3;clear hok3;have c14:=HR4.out.1.g.x.cw 14 (x:=.int .i64 j.f.heap) rfl;have d1:=HR4.out.2.1.cell 1 (v:=.int .i64 x.l) rfl;have n4:=HR4.out.1.N.cell 4 (v:=.int .i64 nd.h.n) rfl;have p14:=fun x=>Gr.cell x c14;have q1:=fun x=>Gr.cell x d1;have qn:=fun x=>Gr.cell x n4;have hb2:∀q,Below y3.heap.size y3 q→Calls Tryz.prog 60 #[.pointer (some ⟨v,0,none⟩),.int .i64 x.l,.int .i64 nd.h.n] q fun e w'=>e=.returned (.bool (leqB j.n j.g x.l nd.h.n))∧Below q.heap.size q w':=fun q hq=>zcx j.n j.g j.fns j.f ok3 v _ _ q (HR4.out.1.kept hq).g.x.W (HD.out.1.n.kept (HR4.out.1.kept hq).g.x.bl) (HD.out.1.g.kept (HR4.out.1.kept hq).g.x.bl);have hb3:∀q,Below y3.heap.size y3 q→Calls Tryz.prog 60 #[.pointer (some ⟨v,0,none⟩),.int .i64 j.f.heap,.int .i64 nd.h.n] q fun e w'=>e=.returned (.bool (leqB j.n j.g j.f.heap nd.h.n))∧Below q.heap.size q w':=fun q hq=>zcx j.n j.g j.fns j.f ok3 v _ _ q (HR4.out.1.kept hq).g.x.W (HD.out.1.n.kept (HR4.out.1.kept hq).g.x.bl) (HD.out.1.g.kept (HR4.out.1.kept hq).g.x.bl);have hNE:Nonempty (Gr y3):=⟨⟨_,Below.refl _ _⟩⟩;clear c14 d1 n4;generalize hf1:leqB j.n j.g x.l nd.h.n=f1 at *;have HF1:=hid hf1;clear hf1;generalize hf2:leqB j.n j.g j.f.heap nd.h.n=f2 at *;have HF2:=hid hf2;clear hf2;cases f1
 ·refine zah 18 (by kernel_rfl) (by kernel_rfl) ?_;simp only[List.take,List.drop];iterate 6 go_big_quiet_step (fail)
  go_big_quiet_step ((go_at_call 60;exact Calls.gr _ (hb2 _ (Gr.bl _))))
  iterate 11 go_big_quiet_step (fail)
  refine wpQuiet_nil ?_;rintro y4 ⟨xg,rfl⟩;have Bg:=xg.bl;generalize xg.w=y4 at Bg ⊢;have HR5:=hid (HR4.out.1.kept Bg);clear Bg xg;go_wp2_with fail
  refine (za8 j.n j.g j.fns j.f ok3 false v y4 HR5.out.g.x.W).mono ?_;rintro _ y5 ⟨rfl,W5⟩;have HG6:=hid (HR5.out.g.wv W5);go_wp2;go_end0;refine⟨rfl,?_⟩;have e:(r.set a&&j.tells nd)=(ok3&&false):=by
   unfold Jd.tells;rw[←HK3.out,HA.out.1];by_cases hk:(j.read nd a).k=1
   ·have hx:=HX.out.1 hk;have h1:=HF1.out;rw[hx] at h1;rw[h1,HF2.out];simp[hk]
   ·have e1:((j.read nd a).k==1)=false:=by simp[hk]
    rw[e1];simp
  rw[e];exact HG6.out
 ·refine zah 18 (by kernel_rfl) (by kernel_rfl) ?_;simp only[List.take,List.drop];iterate 6 go_big_quiet_step (fail)
  go_big_quiet_step ((go_at_call 60;exact Calls.gr _ (hb2 _ (Gr.bl _))))
  iterate 9 go_big_quiet_step (fail)
  go_big_quiet_step ((go_at_call 60;exact Calls.gr _ (hb3 _ (Gr.bl _))))
  iterate 1 go_big_quiet_step (fail)
  refine wpQuiet_nil ?_;rintro y4 ⟨xg,rfl⟩;have Bg:=xg.bl;generalize xg.w=y4 at Bg ⊢;have HR5:=hid (HR4.out.1.kept Bg);clear Bg xg;go_wp2_with fail
  refine (za8 j.n j.g j.fns j.f ok3 f2 v y4 HR5.out.g.x.W).mono ?_;rintro _ y5 ⟨rfl,W5⟩;have HG6:=hid (HR5.out.g.wv W5);go_wp2;go_end0;refine⟨rfl,?_⟩;have e:(r.set a&&j.tells nd)=(ok3&&f2):=by
   unfold Jd.tells;rw[←HK3.out,HA.out.1];by_cases hk:(j.read nd a).k=1
   ·have hx:=HX.out.1 hk;have h1:=HF1.out;rw[hx] at h1;rw[h1,HF2.out];simp[hk]
   ·have e1:((j.read nd a).k==1)=false:=by simp[hk]
    rw[e1];simp
  rw[e];exact HG6.out
theorem ztb (w0:World)(j:Jd)(nd:Nd)(v p:Nat)(r:Rst)(w:World)(hd:Dt w0 j)(hbt:j.bot=botI j.n j.g)(hx:Rx w0 j v p true r w)(hm:r.m=j.f.slots.len)(a:Nat)(ha:nd.h.a=a)(hia:a<r.m)(hop:nd.h.op=18) :
  Calls Tryz.prog 61 #[.pointer (some ⟨v,0,none⟩),.pointer (some ⟨p,0,none⟩),.agg nd.vs.toArray] w fun e w'=>e=.returned (.tuple #[])∧∃xl:Int,Rg w0 j v p (r.set a&&((j.read nd a).k==1)) { r with x:=zad j.n j.g r.x xl,here:=false } w w'∧((j.read nd a).k=1→xl=(j.read nd a).l):=by
 have HO:=hid hop;have HBT:=hid hbt;have HD:=hid (show Dt w0 j∧r.m=j.f.slots.len∧True from ⟨hd,hm,trivial⟩);have HR:=hid (R1.new nd hx);have HA:=hid (show nd.h.a=a∧a<r.m from ⟨ha,hia⟩);clear hx hm hd hop hbt ha hia;go_enter Tryz.func61,Tryz.ntmps61
 go_upto_region 1 with fail
 generalize (w.alloc (.cells nd.vs.toArray 86))=w1 at *;have c0:=HR.out.g.x.cw 0 (x:=.slice j.n.ao j.n.len j.n.cap) rfl;have c1:=HR.out.g.x.cw 1 (x:=.slice j.g.ao j.g.len j.g.cap) rfl;have hB:=zas j.n j.g w1 (HD.out.1.n.kept HR.out.g.x.bl) (HD.out.1.g.kept HR.out.g.x.bl);go_wp2_with fail
 refine hB.mono ?_;rintro _ w2 ⟨rfl,hb2⟩;have HR2:=hid (HR.out.kept hb2);clear hB hb2 HR c0 c1;rw[←HBT.out];have n0:=HR2.out.N.cell 0 (v:=.int .i64 18) (by rw[←HO.out];rfl)
 go_upto_region 45 with fail
 clear n0;have bN:=HR2.out.N;have na:=HR2.out.N.cell 2 (v:=.int .i64 a) (by rw[←HA.out.1];rfl)
 go_wp2_with (first | (refine wpList_load_mid rfl 86 (.tmp 5) rfl w.heap.size 0 (by kernel_rfl) nd.vs _ bN.range Tryz.underlying86 rfl (by kernel_rfl) ?_))
 refine (HR2.out.read HD.out.1 HD.out.2.1 HA.out.2).mono ?_;rintro _ y1 ⟨rfl,h1,_⟩;have HR3:=hid h1;clear h1 bN na HR2;go_wp2_with fail
 refine (HR3.out.kind HD.out.1 HD.out.2.1 HA.out.2 1 (by decide) (by decide)).mono ?_;rintro _ y2 ⟨⟨x,rfl,hku⟩,h2,_⟩;have hbn:=zac y2 (.cells x.vs.toArray 38);have HR4:=hid (show R1 w0 j v p ((true&&r.set a)&&((j.read nd a).k==1)) r nd w (y2.alloc (.cells x.vs.toArray 38))∧Blk (y2.alloc (.cells x.vs.toArray 38)) y2.heap.size x.vs 38∧x.At (y2.alloc (.cells x.vs.toArray 38))∧w.heap.size+1≤y2.heap.size from ⟨h2.kept hbn,Blk.new y2 x.vs _,hku.1.kept hbn,h2.base⟩);have HX:=hid hku.2;clear h2 hku hbn HR3;go_upto_region 46 with (refine zao rfl rfl 38 rfl (.tmp 13) (.tmp 299) rfl zTv (alloc_ty _) rfl x.vs.toArray (by kernel_rfl) (by kernel_rfl) rfl (by kernel_rfl) (by simpa using x.vs_one) ?_)
 generalize (y2.alloc (.cells x.vs.toArray 38))=y3 at *;simp only[Act.put,zA,zB,zC];generalize y2.heap.size=B8 at *;generalize hok3:((true&&r.set a)&&((j.read nd a).k==1))=ok3 at *;have HK3:=hid hok3;clear hok3;have D1:=(Below.refl y3.heap.size y3).drew;have HRd:=hid (show R1 w0 j v p ok3 r nd w y3.drew∧Blk y3.drew B8 x.vs 38 from ⟨HR4.out.1.kept D1,HR4.out.2.1.kept D1⟩);have ps:∀x1:Wd (fun q=>Blk q p r.vs 80∧Blk q B8 x.vs 38),x1.w.cell? ⟨p,1,none⟩=some (.int .i64 r.x):=fun x1=>x1.2.1.cell 1 rfl;have pt:∀x1:Wd (fun q=>Blk q p r.vs 80∧Blk q B8 x.vs 38),x1.w.cell? ⟨B8,1,none⟩=some (.int .i64 x.l):=fun x1=>x1.2.2.cell 1 rfl;have hNE:Nonempty (Wd (fun q=>Blk q p r.vs 80∧Blk q B8 x.vs 38)):=⟨⟨_,HR4.out.1.g.x.S,HR4.out.2.1⟩⟩;refine zaw (fun q=>Blk q p r.vs 80∧Blk q B8 x.vs 38) 11 [0,1,2,3,4,5,6,7] 4 (by kernel_rfl) rfl (by kernel_rfl) ⟨HRd.out.1.g.x.S,HRd.out.2⟩ ?_;simp only[List.filterMap,zD,zE];iterate 8 go_big_quiet_step (fail)
 refine wpQuiet_nil ?_;clear ps pt hNE D1 HR4;generalize y3.drew=z0 at *;refine zaj (rs:=[8]) (by kernel_rfl) (by simp) ?_;refine AllReadyL.cons rfl (fun K hK=>?_) AllReadyL.nil;rw[if_pos (by rfl)];go_simp;refine (zbu j.n j.g j.fns j.f ok3 v r.x x.l z0 HRd.out.1.g.x.W (HD.out.1.n.kept HRd.out.1.g.x.bl) (HD.out.1.g.kept HRd.out.1.g.x.bl)).mono ?_;rintro _ z1 ⟨rfl,hb1⟩;have HRe:=hid (show R1 w0 j v p ok3 r nd w z1∧Blk z1 B8 x.vs 38 from ⟨HRd.out.1.kept hb1,HRd.out.2.kept hb1⟩);refine hK.out _ _ (fun _=>⟨HRe.out.1.g.x.S,HRe.out.2⟩) ?_;clear hK K;clear hb1 HRd;refine zaj (rs:=[9]) (by kernel_rfl) (by simp) ?_;refine AllReadyL.cons rfl (fun K hK=>?_) AllReadyL.nil;rw[if_pos (by rfl)];go_simp;refine hK.out _ _ (fun _=>⟨HRe.out.1.g.x.S,HRe.out.2⟩) ?_;clear hK K;refine zaj (rs:=[10]) (by kernel_rfl) (by simp) ?_;refine AllReadyL.cons rfl (fun K hK=>?_) AllReadyL.nil;rw[if_pos (by rfl)];go_simp;refine hK.out _ _ (fun _=>⟨HRe.out.1.g.x.S,HRe.out.2⟩) ?_;clear hK K;refine zaj (rs:=[11]) (by kernel_rfl) (by simp) ?_;refine AllReadyL.cons rfl (fun K hK=>?_) AllReadyL.nil;rw[if_pos (by rfl)];have c1:=HRe.out.1.g.x.cs 1 (x:=.int .i64 r.x) rfl;have f1:=HRe.out.1.g.x.S.frozen 1;have HG1:Hid (Rg w0 j v p ok3 { r with x:=zad j.n j.g r.x x.l } w (z1.setCell ⟨p,1,none⟩ (.int .i64 (zad j.n j.g r.x x.l)))):=HRe.out.1.g.wp _ rfl rfl rfl (WroteB.cellR HRe.out.1.g.x.S 1 (.int .i64 (zad j.n j.g r.x x.l)));go_simp;refine hK.out _ _ (fun h=>absurd rfl h) ?_;clear hK K;refine zbc (by kernel_rfl) ?_ _;refine⟨(fun c hc=>by cases hc),?_⟩;clear c1 f1 HRe;generalize (z1.setCell ⟨p,1,none⟩ (.int .i64 (zad j.n j.g r.x x.l)))=z2 at *;have c3:=HG1.out.x.cs 3 (x:=.bool r.here) rfl;have f3:=HG1.out.x.S.frozen 3;have HG2:Hid (Rg w0 j v p ok3 { r with x:=zad j.n j.g r.x x.l,here:=false } w (z2.setCell ⟨p,3,none⟩ (.bool false))):=HG1.out.wp _ rfl rfl rfl (WroteB.cellR HG1.out.x.S 3 (.bool false));go_wp2;go_end0;refine⟨rfl,x.l,?_,fun hk=>by rw[HX.out.1 hk]⟩
 have e:(r.set a&&((j.read nd a).k==1))=ok3:=by rw[←HK3.out];simp
 rw[e];exact HG2.out
end
end Go.Proofs.YtgioppfoceddfaaGreat
