import Derived.Test.YtfobijdkoeifjaaGreatDoorP25
set_option maxRecDepth 100000
set_option maxHeartbeats 32000000
namespace Go.Proofs.YtfobijdkoeifjaaGreatDoor
section
open Go Go.RowKit
theorem zam {P:Program}{Q:Exit→Act→World→Prop}{o:Oper}{a:Act}{w:World}{K:Act→World→Prop}(t:TypeId)(p x:Operand)(ho:o.op=.store t p x)(hdst:o.dst=none)(B:Nat)(vs c:List Value)(hp:a.eval p=.pointer (some ⟨B,0,none⟩))(hx:a.eval x=.agg vs.toArray)(h1:vs.all (·.oneCell')=true)
  (hb:Blk w B c t) (hl:c.length=vs.length) (hi:(P.info? t).map (·.size)=some vs.toArray.size) (h:∀w',WroteB w w' B vs t→K a w'):o.wp P a w K Q :=
 zhh t p x ho hdst B vs c hp hx h1 hb hl hi (h _ (zd3 hb vs hl))
theorem zh0 {o:Oper}{a:Act}{w:World}{K:Act→World→Prop}{Q:Exit→Act→World→Prop}(ho:o.op=.alloc 38)(h:∀u B,Below w.heap.size w u→Blk u B zT5 38→w.heap.size≤B→K (a.put o.dst (.pointer (some ⟨B,0,none⟩))) u):o.wp Tryz.prog a w K Q:=by
 unfold Oper.wp execOp;simp only[ho,Sem.run_bind,alloc_ty5,Result.andThen_ok,Sem.run_pure];exact h _ _ (zac _ _) (Blk.new _ _ _) (Nat.le_refl _)
structure Rt (w0 w:World)(v:Vp)(g:Rw Bool)(BJ BS:Nat)(tT st sl:Ty)(k p:Int)(s t:Ty)(B1 B2:Nat)(u:World):Prop where
 r:Sr w0 v g BJ BS tT st sl k p u
 bl:Below w.heap.size w u
 z:Blk u w.heap.size zT5 38
 dw:w0.heap.size≤w.heap.size
 b1:Blk u B1 s.vs 38
 b2:Blk u B2 t.vs 38
 n1:w.heap.size<B1
 n2:w.heap.size<B2
 ne:B1≠B2
 s0:s.At w0
 t0:t.At w0
theorem Rt.kept {w0 w:World}{v:Vp}{g:Rw Bool}{BJ BS:Nat}{tT st sl:Ty}{k p:Int}{s t:Ty}{B1 B2:Nat}{u u':World}(h:Rt w0 w v g BJ BS tT st sl k p s t B1 B2 u)(hb:Below u.heap.size u u'):Rt w0 w v g BJ BS tT st sl k p s t B1 B2 u':=⟨h.r.kept hb,Below.next h.bl hb,h.z.kept hb,h.dw,h.b1.kept hb,h.b2.kept hb,h.n1,h.n2,h.ne,h.s0,h.t0⟩
theorem zcg {D:Nat}{r:Ty}{k:Int}{w w':World}(a l:Int)(hr:r=zaa a l)(hb:Below w.heap.size w w'):TkR D r k w (.returned (.tuple #[.agg (zaa a l).vs.toArray,.int .i64 k])) w':=⟨zaa a l,rfl,zav _ _ _,zd4 _ _ _,by rw[hr];exact zaj _,hb⟩
theorem zq9 (w0:World)(v:Vp)(g:Rw Bool)(BJ BS:Nat)(tT st sl:Ty)(k p:Int)(w:World)(h:Sr w0 v g BJ BS tT st sl k p w)(hn:1<v.need):Calls Tryz.prog 194 #[.pointer (some ⟨BS,0,none⟩)] w (TkR w0.heap.size v.reckT.1 v.reckT.2 w):=by
 have B0:=zac w (.cells #[.int .i64 0,.int .i64 0,.slice none 0 0,.int .i64 0,.int .i64 0] 38);have bZ:Blk (w.alloc (.cells #[.int .i64 0,.int .i64 0,.slice none 0 0,.int .i64 0,.int .i64 0] 38)) w.heap.size zT5 38:=Blk.new w _ _;have H1:=hyd (show (Sr w0 v g BJ BS tT st sl k p (w.alloc (.cells #[.int .i64 0,.int .i64 0,.slice none 0 0,.int .i64 0,.int .i64 0] 38))∧Below w.heap.size w (w.alloc (.cells #[.int .i64 0,.int .i64 0,.slice none 0 0,.int .i64 0,.int .i64 0] 38)))∧(Blk (w.alloc (.cells #[.int .i64 0,.int .i64 0,.slice none 0 0,.int .i64 0,.int .i64 0] 38)) w.heap.size zT5 38∧w0.heap.size≤w.heap.size)∧(w.alloc (.cells #[.int .i64 0,.int .i64 0,.slice none 0 0,.int .i64 0,.int .i64 0] 38)).heap.size=w.heap.size+1 from ⟨⟨h.kept B0,B0⟩,⟨bZ,h.bl.size⟩,alloc_size _ _⟩);have HN:=hyd hn;have HE:Hid (v.reckT=if ((v.tk 0).k != 1||(v.tk 1).k != 1)=true then (zaa 0 0,-1) else (zaa (if v.op=11∨v.op=12 then 2 else 1) (zan v.c.n v.c.g (v.tk 0).l (v.tk 1).l),if v.op=9∨v.op=10 then zan v.c.n v.c.g (v.tk 1).l v.env else -1)):=rfl;generalize v.reckT=R at *;clear B0 bZ h hn;go_enter Tryz.func194,Tryz.ntmps194
 go_upto_region 1 with fail
 generalize w.alloc (.cells #[.int .i64 0,.int .i64 0,.slice none 0 0,.int .i64 0,.int .i64 0] 38)=u1 at *;go_cut [4,5] (fun c4 c5 wx=>∃B1 B2:Nat,c4=.pointer (some ⟨B1,0,none⟩)∧c5=.pointer (some ⟨B2,0,none⟩)∧Hid (Rt w0 w v g BJ BS tT st sl k p (v.tk 0) (v.tk 1) B1 B2 wx))
 case first =>
  have D1:=(Below.refl u1.heap.size u1).drew;have c10:∀x:Wd (fun q=>Below u1.heap.size u1 q),x.w.cell? ⟨BS,10,none⟩=some (.slice (some ⟨tT.b,tT.o,none⟩) tT.len tT.cap):=fun x=>by rw[←H1.out.1.1.nil HN.out];exact (H1.out.1.1.kept x.2).b.cell 10 rfl
  have r0:∀u,(∃x:Wd (fun q=>Below u1.heap.size u1 q),u=x.w)→u.rangeAt tT.b (tT.o+0*5) (v.tk 0).vs:=fun _ hC=>by obtain⟨x,rfl⟩:=hC;exact zaf (H1.out.1.1.row (by have:=HN.out;omega)) x.2
  have r1:∀u,(∃x:Wd (fun q=>Below u1.heap.size u1 q),u=x.w)→u.rangeAt tT.b (tT.o+1*5) (v.tk 1).vs:=fun _ hC=>by obtain⟨x,rfl⟩:=hC;exact zaf (H1.out.1.1.row HN.out) x.2
  have i0:(0:Int)<tT.len:=by have:=HN.out;have:=H1.out.1.1.tl;omega
  have i1:(1:Int)<tT.len:=by have:=HN.out;have:=H1.out.1.1.tl;omega
  have hNE:Nonempty (Wd (fun q=>Below u1.heap.size u1 q)):=⟨⟨_,Below.refl _ _⟩⟩;refine zal (fun q=>Below u1.heap.size u1 q) [0,1,2,3,4,5,6,7,8,9,10,11] 4 (by kernel_rfl) rfl (by kernel_rfl) (za7 (by kernel_rfl)) D1 ?_;simp only[List.filterMap,zD,zE];iterate 5 go_big_quiet_step (fail)
  go_big_quiet_want;refine zad 38 (.tmp 11) rfl tT.b (tT.o+0*5) (by kernel_rfl) (v.tk 0).vs _ r0 Tryz.underlying38 rfl (by kernel_rfl) ?_;simp only[Act.put,zA,zB,zC];go_big_quiet_on;iterate 5 go_big_quiet_step (fail)
  go_big_quiet_want;refine zad 38 (.tmp 17) rfl tT.b (tT.o+1*5) (by kernel_rfl) (v.tk 1).vs _ r1 Tryz.underlying38 rfl (by kernel_rfl) ?_;simp only[Act.put,zA,zB,zC];go_big_quiet_on;refine wpQuiet_nil ?_;have HD1:=hyd D1;clear c10 r0 r1 i0 i1 hNE D1;generalize u1.drew=y0 at *;refine ze7 [] [] 12 13 4 5 38 zT5 (zbn [0,1,2,3,4,5,6,7,8,9,10,11] (Array.replicate 16 false)) (by kernel_rfl) alloc_ty5 _ u1.heap.size 2 (fun _ u=>Below u1.heap.size u1 u) (fun vs u h=>h) (fun vs u h=>⟨Below.next h (zac _ _),h.size⟩) (fun vs c oc u q1 q2 hc _ _=>by cases vs <;> simp at hc) ?_ 2 [] none none y0 rfl (by simp) HD1.out (by intro B h;cases h) (by intro B h;cases h) (by intro B h;cases h)
  intro vs B1 B2 u hl hI hb1 hb2 hB1 hB2 hne;obtain rfl:vs=[]:=List.eq_nil_of_length_eq_zero hl;have HB:=hyd (show (Blk u B1 zT5 38∧Blk u B2 zT5 38)∧(u1.heap.size≤B1∧u1.heap.size≤B2∧B1≠B2)∧Below u1.heap.size u1 u from ⟨⟨hb1,hb2⟩,⟨hB1,hB2,hne⟩,hI⟩);clear hl hI hb1 hb2 hB1 hB2 hne HD1;simp only[Fr,putL,putO,Option.map,ptA,Act.put,zA,zB,zC];refine wpAnyH_ready (rs:=[14]) (by kernel_rfl) (by simp) ?_;refine AllReadyH.cons rfl (fun K hK=>?_) AllReadyH.nil;rw[if_pos (by rfl)];refine zam 38 (.tmp 4) (.tmp 12) rfl rfl B1 (v.tk 0).vs zT5 (by kernel_rfl) (by kernel_rfl) (v.tk 0).vs_one HB.out.1.1 rfl (by kernel_rfl) ?_;intro u2 W2;have HB2:=hyd (show (Blk u2 B1 (v.tk 0).vs 38∧Blk u2 B2 zT5 38)∧Below u1.heap.size u1 u2 from ⟨⟨W2.blk,W2.keep HB.out.1.2 (by have:=HB.out.2.1;omega)⟩,W2.below HB.out.2.1.1 HB.out.2.2⟩)
  refine hK.out _ _ HB2.out.2 (fun _=>?_);clear hK K W2;refine wpAnyH_ready (rs:=[15]) (by kernel_rfl) (by simp) ?_;refine AllReadyH.cons rfl (fun K hK=>?_) AllReadyH.nil;rw[if_pos (by rfl)];refine zam 38 (.tmp 5) (.tmp 18) rfl rfl B2 (v.tk 1).vs zT5 (by kernel_rfl) (by kernel_rfl) (v.tk 1).vs_one HB2.out.1.2 rfl (by kernel_rfl) ?_;intro u3 W3;have HB3:=hyd (show (Blk u3 B1 (v.tk 0).vs 38∧Blk u3 B2 (v.tk 1).vs 38)∧Below u1.heap.size u1 u3 from ⟨⟨W3.keep HB2.out.1.1 (by have:=HB.out.2.1;omega),W3.blk⟩,W3.below HB.out.2.1.2.1 HB2.out.2⟩)
  refine hK.out _ _ HB3.out.2 (fun _=>?_);clear hK K W3;refine wpAnyH_done (by kernel_rfl) ?_ _;refine⟨(fun c hc=>by cases hc),?_⟩;go_wp2;go_meet
  case rel=>exact⟨B1,B2,rfl,rfl,⟨H1.out.1.1.kept HB3.out.2,Below.next H1.out.1.2 HB3.out.2,H1.out.2.1.1.kept HB3.out.2,H1.out.2.1.2,HB3.out.1.1,HB3.out.1.2,by have:=HB.out.2.1;have:=H1.out.2.2;omega,by have:=HB.out.2.1;have:=H1.out.2.2;omega,HB.out.2.1.2.2,H1.out.1.1.tk0 (by have:=HN.out;omega),H1.out.1.1.tk0 HN.out⟩⟩
 case rest =>
 obtain⟨B1,B2,rfl,rfl,H2⟩:=hcut;clear H1;generalize v.tk 0=s at *;generalize v.tk 1=t at *;have d0:=H2.out.b1.cell 0 rfl;have e0:=H2.out.b2.cell 0 rfl;by_cases hs:¬s.k=1
 ·have e1:(s.k != 1)=true:=by simpa using hs
  have HE2:Hid (R=(zaa 0 0,-1)):=by show _=_;rw[HE.out,e1];rfl
  have bZ:=H2.out.z;clear hs HE;go_wp2_with (refine zag rfl rfl 38 (.tmp 2) (.tmp 27) rfl w.heap.size (zaa 0 0).vs (by kernel_rfl) (by kernel_rfl) rfl bZ rfl (by kernel_rfl) ?_;intro w2 W2);have rB:=W2.blk.range;exact bodyPost_ret (v:=.tuple #[.agg (zaa 0 0).vs.toArray,.int .i64 (-1)]) (zap (vs:=(zaa 0 0).vs) Tryz.underlying38 rfl (by kernel_rfl) Tryz.results194 rfl rfl rB) rfl (by rw[HE2.out];exact zcg 0 0 rfl (W2.below (by omega) H2.out.bl))
 by_cases ht:¬t.k=1
 ·have e1:(s.k != 1)=false:=by simpa using hs
  have e2:(t.k != 1)=true:=by simpa using ht
  have HE2:Hid (R=(zaa 0 0,-1)):=by show _=_;rw[HE.out,e1,e2];rfl
  have bZ:=H2.out.z;clear hs ht HE;go_wp2_with (refine zag rfl rfl 38 (.tmp 2) (.tmp 27) rfl w.heap.size (zaa 0 0).vs (by kernel_rfl) (by kernel_rfl) rfl bZ rfl (by kernel_rfl) ?_;intro w2 W2);have rB:=W2.blk.range;exact bodyPost_ret (v:=.tuple #[.agg (zaa 0 0).vs.toArray,.int .i64 (-1)]) (zap (vs:=(zaa 0 0).vs) Tryz.underlying38 rfl (by kernel_rfl) Tryz.results194 rfl rfl rB) rfl (by rw[HE2.out];exact zcg 0 0 rfl (W2.below (by omega) H2.out.bl))
 have e1:(s.k != 1)=false:=by simpa using hs
 have e2:(t.k != 1)=false:=by simpa using ht
 have HE2:Hid (R=(zaa (if v.op=11∨v.op=12 then 2 else 1) (zan v.c.n v.c.g s.l t.l),if v.op=9∨v.op=10 then zan v.c.n v.c.g t.l v.env else -1)):=by show _=_;rw[HE.out,e1,e2];rfl
 clear hs ht HE;go_upto_region 4 with fail
 clear e1 e2 d0 e0;go_cut [6] (fun c6 wx=>∃B6:Nat,c6=.pointer (some ⟨B6,0,none⟩)∧Hid (Rt w0 w v g BJ BS tT st sl k p s t B1 B2 wx∧Blk wx B6 (zaa 1 (zan v.c.n v.c.g s.l t.l)).vs 38∧w.heap.size<B6))
 case first =>
  have HV0:=hyd (Below.refl wc.heap.size wc).drew;have q0:∀x:Wd (fun q=>Below wc.heap.size wc q),x.w.cell? ⟨BS,0,none⟩=_:=fun x=>(H2.out.r.b.kept x.2).cell 0 rfl;have q1:∀x:Wd (fun q=>Below wc.heap.size wc q),x.w.cell? ⟨B1,1,none⟩=_:=fun x=>(H2.out.b1.kept x.2).cell 1 rfl;have q2:∀x:Wd (fun q=>Below wc.heap.size wc q),x.w.cell? ⟨B2,1,none⟩=_:=fun x=>(H2.out.b2.kept x.2).cell 1 rfl;have hNE:Nonempty (Wd (fun q=>Below wc.heap.size wc q)):=⟨⟨_,Below.refl _ _⟩⟩;refine zal (fun q=>Below wc.heap.size wc q) [0,1,2,3,4,5,6,7] 4 (by kernel_rfl) rfl (by kernel_rfl) (za7 (by kernel_rfl)) HV0.out ?_;simp only[List.filterMap,zD,zE];iterate 8 go_big_quiet_step (fail)
  refine wpQuiet_nil ?_;clear q0 q1 q2 hNE;generalize wc.drew=v0 at *;refine wpAnyH_ready (rs:=[8,10]) (by kernel_rfl) (by simp) ?_;refine AllReadyH.cons rfl (fun K hK=>?_) (AllReadyH.cons rfl (fun K hK=>?_) (AllReadyH.nil))
  ·rw[if_pos (by rfl)];go_simp;refine (zbq v.c v.f g BJ s.l t.l v0 ((H2.out.r.kept HV0.out).j)).mono ?_;rintro _ v1 ⟨rfl,hb⟩;have HV1:=hyd (Below.next HV0.out hb);refine hK.out _ _ HV1.out (fun _=>?_);clear hK K hb;refine wpAnyH_ready (rs:=[9,10]) (by kernel_rfl) (by simp) ?_;refine AllReadyH.cons rfl (fun K hK=>?_) (AllReadyH.cons rfl (fun K hK=>?_) (AllReadyH.nil))
   ·rw[if_pos (by rfl)];go_simp;refine hK.out _ _ HV1.out (fun _=>?_);clear hK K;refine wpAnyH_ready (rs:=[10]) (by kernel_rfl) (by simp) ?_;refine AllReadyH.cons rfl (fun K hK=>?_) (AllReadyH.nil);rw[if_pos (by rfl)];refine zh0 rfl ?_;intro v3 B6 hb hB hge;have HZ3:=hyd (show (Blk v3 B6 zT5 38∧w.heap.size<B6)∧wc.heap.size≤B6 from ⟨⟨hB,by have:=(H2.out.kept HV1.out).z.lt;omega⟩,by have:=HV1.out.size;omega⟩)
    have HV3:=hyd (Below.next HV1.out hb);refine hK.out _ _ HV3.out (fun _=>?_);clear hK K hb hB hge;go_simp;refine wpAnyH_ready (rs:=[11]) (by kernel_rfl) (by simp) ?_;refine AllReadyH.cons rfl (fun K hK=>?_) (AllReadyH.nil);rw[if_pos (by rfl)];refine zam 38 (.tmp 6) (.tmp 37) rfl rfl B6 (zaa 1 (zan v.c.n v.c.g s.l t.l)).vs zT5 (by kernel_rfl) (by kernel_rfl) rfl HZ3.out.1.1 rfl (by kernel_rfl) ?_;intro v4 W2;have HV4:=hyd (W2.below (B0:=wc.heap.size) (a:=wc) HZ3.out.2 HV3.out);have HS:=hyd (show Blk v4 B6 (zaa 1 (zan v.c.n v.c.g s.l t.l)).vs 38∧w.heap.size<B6 from ⟨W2.blk,HZ3.out.1.2⟩);refine hK.out _ _ HV4.out (fun _=>?_);clear hK K W2;refine wpAnyH_done (by kernel_rfl) ?_ _;refine⟨(fun c hc=>by cases hc),?_⟩;go_wp2;go_meet
    case rel=>exact⟨B6,rfl,⟨H2.out.kept HV4.out,HS.out.1,HS.out.2⟩⟩
   ·rw[if_pos (by rfl)];refine zh0 rfl ?_;intro v2 B6 hb hB hge;have HZ2:=hyd (show (Blk v2 B6 zT5 38∧w.heap.size<B6)∧wc.heap.size≤B6 from ⟨⟨hB,by have:=(H2.out.kept HV1.out).z.lt;omega⟩,by have:=HV1.out.size;omega⟩)
    have HV2:=hyd (Below.next HV1.out hb);refine hK.out _ _ HV2.out (fun _=>?_);clear hK K hb hB hge;go_simp;refine wpAnyH_ready (rs:=[9]) (by kernel_rfl) (by simp) ?_;refine AllReadyH.cons rfl (fun K hK=>?_) (AllReadyH.nil);rw[if_pos (by rfl)];go_simp;refine hK.out _ _ HV2.out (fun _=>?_);clear hK K;refine wpAnyH_ready (rs:=[11]) (by kernel_rfl) (by simp) ?_;refine AllReadyH.cons rfl (fun K hK=>?_) (AllReadyH.nil);rw[if_pos (by rfl)];refine zam 38 (.tmp 6) (.tmp 37) rfl rfl B6 (zaa 1 (zan v.c.n v.c.g s.l t.l)).vs zT5 (by kernel_rfl) (by kernel_rfl) rfl HZ2.out.1.1 rfl (by kernel_rfl) ?_;intro v4 W2;have HV4:=hyd (W2.below (B0:=wc.heap.size) (a:=wc) HZ2.out.2 HV2.out);have HS:=hyd (show Blk v4 B6 (zaa 1 (zan v.c.n v.c.g s.l t.l)).vs 38∧w.heap.size<B6 from ⟨W2.blk,HZ2.out.1.2⟩);refine hK.out _ _ HV4.out (fun _=>?_);clear hK K W2;refine wpAnyH_done (by kernel_rfl) ?_ _;refine⟨(fun c hc=>by cases hc),?_⟩;go_wp2;go_meet
    case rel=>exact⟨B6,rfl,⟨H2.out.kept HV4.out,HS.out.1,HS.out.2⟩⟩
  ·rw[if_pos (by rfl)];refine zh0 rfl ?_;intro v1 B6 hb hB hge;have HZ1:=hyd (show (Blk v1 B6 zT5 38∧w.heap.size<B6)∧wc.heap.size≤B6 from ⟨⟨hB,by have:=(H2.out.kept HV0.out).z.lt;omega⟩,by have:=HV0.out.size;omega⟩)
   have HV1:=hyd (Below.next HV0.out hb);refine hK.out _ _ HV1.out (fun _=>?_);clear hK K hb hB hge;go_simp;refine wpAnyH_ready (rs:=[8]) (by kernel_rfl) (by simp) ?_;refine AllReadyH.cons rfl (fun K hK=>?_) (AllReadyH.nil);rw[if_pos (by rfl)];go_simp;refine (zbq v.c v.f g BJ s.l t.l v1 ((H2.out.r.kept HV1.out).j)).mono ?_;rintro _ v2 ⟨rfl,hb⟩;have HV2:=hyd (Below.next HV1.out hb);have HZ2:=hyd (show (Blk v2 B6 zT5 38∧w.heap.size<B6)∧wc.heap.size≤B6 from ⟨⟨HZ1.out.1.1.kept hb,HZ1.out.1.2⟩,HZ1.out.2⟩);refine hK.out _ _ HV2.out (fun _=>?_);clear hK K hb;refine wpAnyH_ready (rs:=[9]) (by kernel_rfl) (by simp) ?_;refine AllReadyH.cons rfl (fun K hK=>?_) (AllReadyH.nil);rw[if_pos (by rfl)];go_simp;refine hK.out _ _ HV2.out (fun _=>?_);clear hK K;refine wpAnyH_ready (rs:=[11]) (by kernel_rfl) (by simp) ?_;refine AllReadyH.cons rfl (fun K hK=>?_) (AllReadyH.nil);rw[if_pos (by rfl)];refine zam 38 (.tmp 6) (.tmp 37) rfl rfl B6 (zaa 1 (zan v.c.n v.c.g s.l t.l)).vs zT5 (by kernel_rfl) (by kernel_rfl) rfl HZ2.out.1.1 rfl (by kernel_rfl) ?_;intro v4 W2;have HV4:=hyd (W2.below (B0:=wc.heap.size) (a:=wc) HZ2.out.2 HV2.out);have HS:=hyd (show Blk v4 B6 (zaa 1 (zan v.c.n v.c.g s.l t.l)).vs 38∧w.heap.size<B6 from ⟨W2.blk,HZ2.out.1.2⟩);refine hK.out _ _ HV4.out (fun _=>?_);clear hK K W2;refine wpAnyH_done (by kernel_rfl) ?_ _;refine⟨(fun c hc=>by cases hc),?_⟩;go_wp2;go_meet
   case rel=>exact⟨B6,rfl,⟨H2.out.kept HV4.out,HS.out.1,HS.out.2⟩⟩
 case rest =>
 obtain⟨B6,rfl,H3⟩:=hcut;clear H2;generalize zan v.c.n v.c.g s.l t.l=L at *;have d3:=H3.out.1.r.b.cell 3 rfl;generalize v.op=op at *;by_cases o11:op=11
 ·subst o11;have HE3:Hid (R=(zaa 2 L,-1)):=HE2.out;have b6:=H3.out.2.1;have z6:=H3.out.1.z;have h6:=H3.out.2.2;go_wp2_with (first | (refine zbf rfl 3 (.tmp 46) (.const (.int .i64 2)) rfl rfl B6 0 (.int .i64 2) _ _ (by kernel_rfl) (by kernel_rfl) (zaw _ _ (by kernel_rfl) rfl rfl _ _) b6 (by simp[zaa,Ty.vs]) ?_;intro w5 W5;have r6:w5.rangeAt B6 0 (zaa 2 L).vs:=W5.blk.range;have bZ:=W5.keep z6 (by omega);have bl5:=W5.below (by omega) H3.out.1.bl) | (refine wpList_load_mid rfl 38 (.tmp 6) rfl B6 0 (by kernel_rfl) (zaa 2 L).vs _ r6 Tryz.underlying38 rfl (by kernel_rfl) ?_) | (refine zag rfl rfl 38 (.tmp 2) (.tmp 62) rfl w.heap.size (zaa 2 L).vs (by kernel_rfl) (by kernel_rfl) rfl bZ rfl (by kernel_rfl) ?_;intro w2 W2));exact bodyPost_ret (v:=.tuple #[.agg (zaa 2 L).vs.toArray,.int .i64 (-1)]) (zap (vs:=(zaa 2 L).vs) Tryz.underlying38 rfl (by kernel_rfl) Tryz.results194 rfl rfl (W2.blk.range)) rfl (by rw[HE3.out];exact zcg 2 L rfl (W2.below (by omega) bl5))
 by_cases o12:op=12
 ·subst o12;have HE3:Hid (R=(zaa 2 L,-1)):=HE2.out;have b6:=H3.out.2.1;have z6:=H3.out.1.z;have h6:=H3.out.2.2;go_wp2_with (first | (refine zbf rfl 3 (.tmp 46) (.const (.int .i64 2)) rfl rfl B6 0 (.int .i64 2) _ _ (by kernel_rfl) (by kernel_rfl) (zaw _ _ (by kernel_rfl) rfl rfl _ _) b6 (by simp[zaa,Ty.vs]) ?_;intro w5 W5;have r6:w5.rangeAt B6 0 (zaa 2 L).vs:=W5.blk.range;have bZ:=W5.keep z6 (by omega);have bl5:=W5.below (by omega) H3.out.1.bl) | (refine wpList_load_mid rfl 38 (.tmp 6) rfl B6 0 (by kernel_rfl) (zaa 2 L).vs _ r6 Tryz.underlying38 rfl (by kernel_rfl) ?_) | (refine zag rfl rfl 38 (.tmp 2) (.tmp 62) rfl w.heap.size (zaa 2 L).vs (by kernel_rfl) (by kernel_rfl) rfl bZ rfl (by kernel_rfl) ?_;intro w2 W2));exact bodyPost_ret (v:=.tuple #[.agg (zaa 2 L).vs.toArray,.int .i64 (-1)]) (zap (vs:=(zaa 2 L).vs) Tryz.underlying38 rfl (by kernel_rfl) Tryz.results194 rfl rfl (W2.blk.range)) rfl (by rw[HE3.out];exact zcg 2 L rfl (W2.below (by omega) bl5))
 by_cases o9:op=9
 ·subst o9;have HE3:Hid (R=(zaa 1 L,zan v.c.n v.c.g t.l v.env)):=HE2.out;clear HE2;go_upto_region 11 with fail
  have rB:∀u,(∃x:Gr wc,u=x.w)→u.rangeAt B6 0 (zaa 1 L).vs:=fun _ hC=>by obtain⟨x,rfl⟩:=hC;exact zaf H3.out.2.1.range (Gr.bl x)
  have q0:=fun x:Gr wc=>x.cell (H3.out.1.r.b.cell 0 rfl);have q1:=fun x:Gr wc=>x.cell (H3.out.1.r.b.cell 2 rfl);have q2:=fun x:Gr wc=>x.cell (H3.out.1.b2.cell 1 rfl);have hb2:∀x:Gr wc,Calls Tryz.prog 144 #[.pointer (some ⟨BJ,0,none⟩),.int .i64 t.l,.int .i64 v.env] x.w fun e w'=>e=.returned (.int .i64 (zan v.c.n v.c.g t.l v.env))∧Below x.w.heap.size x.w w':=fun x=>zbq v.c v.f g BJ t.l v.env x.w (H3.out.1.r.kept x.bl).j;have hNE:Nonempty (Gr wc):=⟨⟨_,Below.refl _ _⟩⟩;generalize zan v.c.n v.c.g t.l v.env=K at *;refine zat 12 (by kernel_rfl) (by kernel_rfl) ?_;simp only[List.take,List.drop];go_big_quiet_want;refine zad 38 (.tmp 6) rfl B6 0 (by kernel_rfl) (zaa 1 L).vs _ rB Tryz.underlying38 rfl (by kernel_rfl) ?_;simp only[Act.put,zA,zB,zC];go_big_quiet_on;iterate 10 go_big_quiet_step (fail)
  go_big_quiet_step ((go_at_call 144;exact Calls.gr _ (hb2 _)))
  refine wpQuiet_nil ?_;rintro y1 ⟨xg,rfl⟩;have Bg:=xg.bl;generalize xg.w=y1 at Bg ⊢;have H4:=hyd (H3.out.1.kept Bg);have bZ:=H4.out.z;clear xg Bg H3 rB q0 q1 q2 hb2 hNE;go_wp2_with (refine zag rfl rfl 38 (.tmp 2) (.tmp 50) rfl w.heap.size (zaa 1 L).vs (by kernel_rfl) (by kernel_rfl) rfl bZ rfl (by kernel_rfl) ?_;intro w2 W2);exact bodyPost_ret (v:=.tuple #[.agg (zaa 1 L).vs.toArray,.int .i64 K]) (zap (vs:=(zaa 1 L).vs) Tryz.underlying38 rfl (by kernel_rfl) Tryz.results194 rfl rfl (W2.blk.range)) rfl (by rw[HE3.out];exact zcg 1 L rfl (W2.below (by omega) H4.out.bl))
 by_cases o10:op=10
 ·subst o10;have HE3:Hid (R=(zaa 1 L,zan v.c.n v.c.g t.l v.env)):=HE2.out;clear HE2;go_upto_region 11 with fail
  have rB:∀u,(∃x:Gr wc,u=x.w)→u.rangeAt B6 0 (zaa 1 L).vs:=fun _ hC=>by obtain⟨x,rfl⟩:=hC;exact zaf H3.out.2.1.range (Gr.bl x)
  have q0:=fun x:Gr wc=>x.cell (H3.out.1.r.b.cell 0 rfl);have q1:=fun x:Gr wc=>x.cell (H3.out.1.r.b.cell 2 rfl);have q2:=fun x:Gr wc=>x.cell (H3.out.1.b2.cell 1 rfl);have hb2:∀x:Gr wc,Calls Tryz.prog 144 #[.pointer (some ⟨BJ,0,none⟩),.int .i64 t.l,.int .i64 v.env] x.w fun e w'=>e=.returned (.int .i64 (zan v.c.n v.c.g t.l v.env))∧Below x.w.heap.size x.w w':=fun x=>zbq v.c v.f g BJ t.l v.env x.w (H3.out.1.r.kept x.bl).j;have hNE:Nonempty (Gr wc):=⟨⟨_,Below.refl _ _⟩⟩;generalize zan v.c.n v.c.g t.l v.env=K at *;refine zat 12 (by kernel_rfl) (by kernel_rfl) ?_;simp only[List.take,List.drop];go_big_quiet_want;refine zad 38 (.tmp 6) rfl B6 0 (by kernel_rfl) (zaa 1 L).vs _ rB Tryz.underlying38 rfl (by kernel_rfl) ?_;simp only[Act.put,zA,zB,zC];go_big_quiet_on;iterate 10 go_big_quiet_step (fail)
  go_big_quiet_step ((go_at_call 144;exact Calls.gr _ (hb2 _)))
  refine wpQuiet_nil ?_;rintro y1 ⟨xg,rfl⟩;have Bg:=xg.bl;generalize xg.w=y1 at Bg ⊢;have H4:=hyd (H3.out.1.kept Bg);have bZ:=H4.out.z;clear xg Bg H3 rB q0 q1 q2 hb2 hNE;go_wp2_with (refine zag rfl rfl 38 (.tmp 2) (.tmp 50) rfl w.heap.size (zaa 1 L).vs (by kernel_rfl) (by kernel_rfl) rfl bZ rfl (by kernel_rfl) ?_;intro w2 W2);exact bodyPost_ret (v:=.tuple #[.agg (zaa 1 L).vs.toArray,.int .i64 K]) (zap (vs:=(zaa 1 L).vs) Tryz.underlying38 rfl (by kernel_rfl) Tryz.results194 rfl rfl (W2.blk.range)) rfl (by rw[HE3.out];exact zcg 1 L rfl (W2.below (by omega) H4.out.bl))
 have n11:(op==11)=false:=by simpa using o11
 have n12:(op==12)=false:=by simpa using o12
 have n9:(op==9)=false:=by simpa using o9
 have n10:(op==10)=false:=by simpa using o10
 have HE3:Hid (R=(zaa 1 L,-1)):=by show _=_;rw[HE2.out,if_neg (by omega),if_neg (by omega)]
 have r6:wc.rangeAt B6 0 (zaa 1 L).vs:=H3.out.2.1.range;have bZ:=H3.out.1.z;clear o11 o12 o9 o10 HE2;go_wp2_with (first | (refine wpList_load_mid rfl 38 (.tmp 6) rfl B6 0 (by kernel_rfl) (zaa 1 L).vs _ r6 Tryz.underlying38 rfl (by kernel_rfl) ?_) | (refine zag rfl rfl 38 (.tmp 2) (.tmp 62) rfl w.heap.size (zaa 1 L).vs (by kernel_rfl) (by kernel_rfl) rfl bZ rfl (by kernel_rfl) ?_;intro w2 W2));exact bodyPost_ret (v:=.tuple #[.agg (zaa 1 L).vs.toArray,.int .i64 (-1)]) (zap (vs:=(zaa 1 L).vs) Tryz.underlying38 rfl (by kernel_rfl) Tryz.results194 rfl rfl (W2.blk.range)) rfl (by rw[HE3.out];exact zcg 1 L rfl (W2.below (by omega) H3.out.1.bl))
def zP3:List Value:=[.slice none 0 0,.slice none 0 0,.int .i64 0]
theorem zk4 (w:World):(Instr.alloc 48 true (.tuple #[])).run Tryz.prog w=.ok (.pointer (some ⟨w.heap.size,0,none⟩)) (w.alloc (.cells zP3.toArray 48)):=by
 have hz:(Tryz.prog.info? 48).map (·.zero)=some (some (.agg zP3.toArray)):=by kernel_rfl
 cases hq:Tryz.prog.info? 48 with
 | none=>rw[hq] at hz;simp at hz
 | some i =>
  rw[hq] at hz;simp at hz
  simp[Instr.alloc,newVar,newRow,zeroValue,typeInfo,hq,hz,Value.cells,zP3]
def stV (st sl:Ty):List Value:=[.slice st.ao st.len st.cap,.slice sl.ao sl.len sl.cap]
structure Fz (c:Kl)(f:Cf)(g:Rw Bool)(BJ:Nat)(w:World)(st sl:Ty)(q:Pt)(BS BP:Nat)(u:World):Prop where
 bl:Below w.heap.size w u
 j:Jb c f g BJ u
 bS:Blk u BS (stV st sl) 105
 bP:Blk u BP q.vs 48
 st:st.At u
 sl:sl.At u
 q:q.At u
theorem Fz.kept {c:Kl}{f:Cf}{g:Rw Bool}{BJ:Nat}{w:World}{st sl:Ty}{q:Pt}{BS BP:Nat}{u u':World}(h:Fz c f g BJ w st sl q BS BP u)(hb:Below u.heap.size u u'):Fz c f g BJ w st sl q BS BP u':=⟨Below.next h.bl hb,h.j.kept hb,h.bS.kept hb,h.bP.kept hb,h.st.kept hb,h.sl.kept hb,h.q.kept hb⟩
theorem zxn {n:Strs}{g:Grid}{q:Pt}{st sl:Tq}(h:st.n≠q.st.len):fitP n g q st sl=false:=by unfold fitP;rw[decide_eq_false h];rfl
theorem zw6 {n:Strs}{g:Grid}{q:Pt}{st sl:Tq}{i:Nat}(hi:i<st.n)(h:blw n g (st.x i) (q.st.ps i)=false):fitP n g q st sl=false:=by
 unfold fitP;rw[decide_eq_false (p:=∀i,i<st.n→blw n g (st.x i) (q.st.ps i)=true) (fun hh=>by rw[hh i hi] at h;cases h)]
 simp
theorem zww {n:Strs}{g:Grid}{q:Pt}{st sl:Tq}{i:Nat}(hi:i<sl.n)(h:slB n g (sl.x i) (q.sl.ps i)=false):fitP n g q st sl=false:=by
 unfold fitP;rw[decide_eq_false (p:=∀i,i<sl.n→slB n g (sl.x i) (q.sl.ps i)=true) (fun hh=>by rw[hh i hi] at h;cases h)]
 simp
theorem zv9 {n:Strs}{g:Grid}{q:Pt}{st sl:Tq}(h1:st.n=q.st.len)(h2:∀i,i<st.n→blw n g (st.x i) (q.st.ps i)=true)(h3:∀i,i<sl.n→slB n g (sl.x i) (q.sl.ps i)=true):fitP n g q st sl=true:=by
 unfold fitP;rw[decide_eq_true h1,decide_eq_true h2,decide_eq_true h3];rfl
theorem zhp (c:Kl)(f:Cf)(g:Rw Bool)(BJ:Nat)(st sl:Ty)(q:Nat)(w:World)(h:Jb c f g BJ w)(hst:st.At w)(hsl:sl.At w)(hq:q<f.pt.len)(hl:sl.len=(f.pt.x q).sl.len)(hp:∀i,i<st.len→(st.ps i).pn≤1000)(hp2:∀i,i<sl.len→(sl.ps i).pn≤1000):Calls Tryz.prog 59 #[.pointer (some ⟨BJ,0,none⟩),.agg (stV st sl).toArray,.int .i64 q] w fun e w'=>e=.returned (.bool (fitP c.n c.g (f.pt.x q) st.sq sl.sq))∧Below w.heap.size w w':=by
 have B0:=zac w (.cells (stV st sl).toArray 105);have H1:=hyd (show Below w.heap.size w (w.alloc (.cells (stV st sl).toArray 105))∧Blk (w.alloc (.cells (stV st sl).toArray 105)) w.heap.size (stV st sl) 105 from ⟨B0,Blk.new w (stV st sl) 105⟩);have HD:=hyd (show (Jb c f g BJ w∧st.At w∧sl.At w)∧sl.len=(f.pt.x q).sl.len∧(∀i,i<st.len→(st.ps i).pn≤1000)∧(∀i,i<sl.len→(sl.ps i).pn≤1000) from ⟨⟨h,hst,hsl⟩,hl,hp,hp2⟩);have HQ:=hyd (h.f.pt.each q hq);have HN1:Hid (st.len≠(f.pt.x q).st.len→fitP c.n c.g (f.pt.x q) st.sq sl.sq=false):=fun k=>zxn k;have HN2:Hid (∀i,i<st.len→blw c.n c.g (st.ps i) ((f.pt.x q).st.ps i)=false→fitP c.n c.g (f.pt.x q) st.sq sl.sq=false):=fun i hi k=>zw6 (st:=st.sq) hi k;have HN3:Hid (∀i,i<sl.len→slB c.n c.g (sl.ps i) ((f.pt.x q).sl.ps i)=false→fitP c.n c.g (f.pt.x q) st.sq sl.sq=false):=fun i hi k=>zww (sl:=sl.sq) hi k;have HY:Hid (st.len=(f.pt.x q).st.len→(∀i,i<st.len→blw c.n c.g (st.ps i) ((f.pt.x q).st.ps i)=true)→(∀i,i<sl.len→slB c.n c.g (sl.ps i) ((f.pt.x q).sl.ps i)=true)→fitP c.n c.g (f.pt.x q) st.sq sl.sq=true):=fun k1 k2 k3=>zv9 (st:=st.sq) (sl:=sl.sq) k1 k2 k3;have j16:(w.alloc (.cells (stV st sl).toArray 105)).cell? ⟨BJ,19,none⟩=some (.slice (some ⟨f.pt.b,f.pt.o,none⟩) f.pt.len f.pt.cap):=by rw[←h.f.pt.nil (by omega)];exact (h.kept B0).b.cell 19 rfl
 have r0:=zaf (h.f.pt.row q hq) B0;have i0:(q:Int)<f.pt.len:=by omega
 generalize fitP c.n c.g (f.pt.x q) st.sq sl.sq=R at *;generalize f.pt.x q=pt at *;clear B0 h hst hsl hq hl hp hp2;unfold stV at H1 j16 r0 ⊢;go_enter Tryz.func59,Tryz.ntmps59
 go_upto_region 2 with (first | (refine wpList_load_mid rfl 48 (.tmp 18) rfl f.pt.b (f.pt.o+q*3) (by kernel_rfl) pt.vs _ r0 Tryz.underlying48 rfl (by kernel_rfl) ?_) | (refine zao rfl rfl 48 rfl (.tmp 7) (.tmp 19) rfl zP3 (zk4 _) rfl pt.vs.toArray (by kernel_rfl) (by kernel_rfl) rfl (by kernel_rfl) (by simpa using pt.vs_one) ?_))
 simp only[Act.put,zA,zB,zC];have hs1:=alloc_size w (.cells #[.slice st.ao st.len st.cap,.slice sl.ao sl.len sl.cap] 105);generalize hu1:w.alloc (.cells #[.slice st.ao st.len st.cap,.slice sl.ao sl.len sl.cap] 105)=u1 at *;have B1:=zac u1 (.cells pt.vs.toArray 48);have H2:Hid (Fz c f g BJ w st sl pt w.heap.size u1.heap.size (u1.alloc (.cells pt.vs.toArray 48))):=⟨Below.next H1.out.1 B1,HD.out.1.1.kept (Below.next H1.out.1 B1),H1.out.2.kept B1,Blk.new u1 pt.vs _,HD.out.1.2.1.kept (Below.next H1.out.1 B1),HD.out.1.2.2.kept (Below.next H1.out.1 B1),HQ.out.kept (Below.next H1.out.1 B1)⟩;clear B1 H1 j16 r0 i0 hu1 hs1;generalize u1.alloc (.cells pt.vs.toArray 48)=u2 at *;generalize u1.heap.size=BP at *;generalize w.heap.size=BS at H2 ⊢;have s0:=H2.out.bS.cell 0 rfl;have q0:=H2.out.bP.cell 0 rfl;have hbd:=H2.out.st.bound;have hbd2:=H2.out.sl.bound;by_cases hlen:¬st.len=pt.st.len
 ·have HE:=hyd (HN1.out hlen);have e1:((st.len:Int) != (pt.st.len:Int))=true:=by simp;omega
  clear hlen;go_wp2;go_ret;exact⟨zab HE.out.symm,H2.out.bl⟩
 have hlen2:st.len=pt.st.len:=Decidable.not_not.1 hlen;have HLE:=hyd hlen2;have e1:((st.len:Int) != (pt.st.len:Int))=false:=by simp;omega
 clear hlen hlen2 HN1;go_upto_region 4 with fail
 clear e1 q0
 go_upto_block 0 with fail
 go_cut [30] (fun _ wx=>Hid (Fz c f g BJ w st sl pt BS BP wx∧∀i,i<st.len→blw c.n c.g (st.ps i) (pt.st.ps i)=true))
 case first =>
  go_wp2_with fail
  go_loopw [30] (fun i wr=>∃(j:Nat),j≤st.len∧i=.int .i64 j∧Fz c f g BJ w st sl pt BS BP wr∧∀i,i<j→blw c.n c.g (st.ps i) (pt.st.ps i)=true) (fun i _=>st.len - (intOf i).toNat)
  case atStart=>exact⟨0,Nat.zero_le _,rfl,H2.out,fun i hi=>absurd hi (Nat.not_lt_zero _)⟩
  case round =>
   clear H2 s0;obtain⟨j,hj,rfl,hB,hall⟩:=hrel;have HB:=hyd hB;have HL:=hyd hall;clear hB hall;by_cases hlt:j<st.len
   ·have ij:(j:Int)<st.len:=by omega
    have hjp:j<pt.st.len:=by rw[←HLE.out];exact hlt
    have ijp:(j:Int)<pt.st.len:=by omega
    have r0:=zbm HB.out.st hlt;rw[HB.out.st.nil (by omega)];have HYY:=hyd (zbx (P:=fun i=>blw c.n c.g (st.ps i) (pt.st.ps i)=true) HL.out);have HF2:=hyd (HN2.out j hlt);have HS:=hyd (show (st.ps j).At wr∧(pt.st.ps j).At wr∧(st.ps j).pn≤1000 from ⟨HB.out.st.part hlt,HB.out.q.st.part hjp,HD.out.2.2.1 j hlt⟩);have HR2:=hyd (show wr.rangeAt pt.st.b (pt.st.o+j*5) (pt.st.ps j).vs∧pt.st.ao=some ⟨pt.st.b,pt.st.o,none⟩ from ⟨zbm HB.out.q.st hjp,HB.out.q.st.nil (by omega)⟩);have HBL:Hid (∀u,Below wr.heap.size wr u→Jb c f g BJ u→Calls Tryz.prog 97 #[.pointer (some ⟨BJ,0,none⟩),.agg (st.ps j).vs.toArray,.agg (pt.st.ps j).vs.toArray] u fun e w'=>e=.returned (.bool (blw c.n c.g (st.ps j) (pt.st.ps j)))∧Below u.heap.size u w'):=fun u hu hJ=>zct c f g BJ _ _ u hJ (HS.out.1.kept hu) (HS.out.2.1.kept hu) HS.out.2.2;generalize blw c.n c.g (st.ps j) (pt.st.ps j)=bb at *;generalize st.ps j=s at *;generalize pt.st.ps j=t at *;go_upto_region 7 with (first | (refine wpList_load_mid rfl 38 (.tmp 33) rfl st.b (st.o+j*5) (by kernel_rfl) s.vs _ r0 Tryz.underlying38 rfl (by kernel_rfl) ?_) | (refine zdf rfl rfl rfl 38 rfl (.tmp 32) rfl (.tmp 9) (.tmp 34) rfl zT5 (alloc_ty5 _) rfl (.int .i64 j) (by kernel_rfl) s.vs.toArray (by kernel_rfl) (by kernel_rfl) rfl (by kernel_rfl) (by simpa using s.vs_one) ?_))
    simp only[Act.put,zA,zB,zC];have B1:=zac wr (.cells s.vs.toArray 38);have HU:=hyd (show (Fz c f g BJ w st sl pt BS BP (wr.alloc (.cells s.vs.toArray 38))∧Blk (wr.alloc (.cells s.vs.toArray 38)) wr.heap.size s.vs 38)∧Below wr.heap.size wr (wr.alloc (.cells s.vs.toArray 38)) from ⟨⟨HB.out.kept B1,Blk.new wr _ _⟩,B1⟩);have hbl:∀u,Below (wr.alloc (.cells s.vs.toArray 38)).heap.size (wr.alloc (.cells s.vs.toArray 38)) u→Calls Tryz.prog 97 #[.pointer (some ⟨BJ,0,none⟩),.agg s.vs.toArray,.agg t.vs.toArray] u fun e w'=>e=.returned (.bool bb)∧Below u.heap.size u w':=fun u hu=>HBL.out u (Below.next HU.out.2 hu) (HU.out.1.1.j.kept hu);have HBL2:=hyd hbl;have HRW:=hyd (zaf HR2.out.1 B1);have HRN:=hyd HR2.out.2;clear r0 B1 HBL hbl HB HR2 HS;have HU1:=hyd HU.out.1;clear HU;generalize wr.alloc (.cells s.vs.toArray 38)=U at *;generalize wr.heap.size=BV at *;have p0:∀x:Gr U,x.w.cell? ⟨BP,0,none⟩=some (.slice (some ⟨pt.st.b,pt.st.o,none⟩) pt.st.len pt.st.cap):=fun x=>x.cell (by rw[←HRN.out];exact HU1.out.1.bP.cell 0 rfl)
    have rS:∀u,(∃x:Gr U,u=x.w)→u.rangeAt BV 0 s.vs:=fun _ hC=>by obtain⟨x,rfl⟩:=hC;exact zaf (HU1.out.2.range) (Gr.bl x)
    have rT:∀u,(∃x:Gr U,u=x.w)→u.rangeAt pt.st.b (pt.st.o+j*5) t.vs:=fun _ hC=>by obtain⟨x,rfl⟩:=hC;exact zaf (HRW.out) (Gr.bl x)
    have hb2:∀x:Gr U,Calls Tryz.prog 97 #[.pointer (some ⟨BJ,0,none⟩),.agg s.vs.toArray,.agg t.vs.toArray] x.w fun e w'=>e=.returned (.bool bb)∧Below x.w.heap.size x.w w':=fun x=>HBL2.out x.w x.bl;have hNE:Nonempty (Gr U):=⟨⟨_,Below.refl _ _⟩⟩;refine zah (by kernel_rfl) (by kernel_rfl) ?_;go_big_quiet_step (fail)
    go_big_quiet_want;refine zad 38 (.tmp 9) rfl BV 0 (by kernel_rfl) s.vs _ rS Tryz.underlying38 rfl (by kernel_rfl) ?_;simp only[Act.put,zA,zB,zC];go_big_quiet_on;iterate 4 go_big_quiet_step (fail)
    go_big_quiet_want;refine zad 38 (.tmp 40) rfl pt.st.b (pt.st.o+j*5) (by kernel_rfl) t.vs _ rT Tryz.underlying38 rfl (by kernel_rfl) ?_;simp only[Act.put,zA,zB,zC];go_big_quiet_on;go_big_quiet_step ((go_at_call 97;exact Calls.gr _ (hb2 _)))
    go_big_quiet_step (fail)
    refine wpQuiet_nil ?_;rintro y1 ⟨xg,rfl⟩;have Bg:=xg.bl;generalize xg.w=y1 at Bg ⊢;have HU2:=hyd (HU1.out.1.kept Bg);clear xg Bg HU1 p0 rS rT hb2 hNE HRW HBL2;cases bb
    ·have HE:=hyd (HF2.out (by simp));go_wp2;go_ret;exact⟨zab HE.out.symm,HU2.out.bl⟩
    ·have HE:=hyd (HYY.out (by simp));clear HL HF2 HYY HRN;go_wp2;go_roundw
     case rel=>exact⟨j+1,by omega,by go_num,HU2.out,HE.out⟩
     case measure=>simp[intOf];omega
   ·have ij:¬(j:Int)<st.len:=by omega
    go_wp2;go_meet
    case rel=>exact⟨HB.out,fun i hi=>HL.out i (by omega)⟩
 case rest =>
 clear H2 s0;have HC:=hyd hcut.out.1;have HA1:=hyd hcut.out.2;clear hcut;have s1:=HC.out.bS.cell 1 rfl;go_wp2;go_loopw [48] (fun i wr=>∃(j:Nat),j≤sl.len∧i=.int .i64 j∧Fz c f g BJ w st sl pt BS BP wr∧∀i,i<j→slB c.n c.g (sl.ps i) (pt.sl.ps i)=true) (fun i _=>sl.len - (intOf i).toNat)
 case atStart=>exact⟨0,Nat.zero_le _,rfl,HC.out,fun i hi=>absurd hi (Nat.not_lt_zero _)⟩
 case round =>
  clear HC s1;obtain⟨j,hj,rfl,hB,hall⟩:=hrel;have HB:=hyd hB;have HL:=hyd hall;clear hB hall;by_cases hlt:j<sl.len
  ·have ij:(j:Int)<sl.len:=by omega
   have hjp:j<pt.sl.len:=by rw[←HD.out.2.1];exact hlt
   have ijp:(j:Int)<pt.sl.len:=by omega
   have r0:=zbm HB.out.sl hlt;rw[HB.out.sl.nil (by omega)];have HYY:=hyd (zbx (P:=fun i=>slB c.n c.g (sl.ps i) (pt.sl.ps i)=true) HL.out);have HF2:=hyd (HN3.out j hlt);have HS:=hyd (show (sl.ps j).At wr∧(pt.sl.ps j).At wr∧(sl.ps j).pn≤1000 from ⟨HB.out.sl.part hlt,HB.out.q.sl.part hjp,HD.out.2.2.2 j hlt⟩);have HR2:=hyd (show wr.rangeAt pt.sl.b (pt.sl.o+j*5) (pt.sl.ps j).vs∧pt.sl.ao=some ⟨pt.sl.b,pt.sl.o,none⟩ from ⟨zbm HB.out.q.sl hjp,HB.out.q.sl.nil (by omega)⟩);have HSB:Hid (slB c.n c.g (sl.ps j) (pt.sl.ps j)=(decide ((pt.sl.ps j).k=0)||blw c.n c.g (sl.ps j) (pt.sl.ps j))):=rfl;generalize slB c.n c.g (sl.ps j) (pt.sl.ps j)=sb at *;have HBL:Hid (∀u,Below wr.heap.size wr u→Jb c f g BJ u→Calls Tryz.prog 97 #[.pointer (some ⟨BJ,0,none⟩),.agg (sl.ps j).vs.toArray,.agg (pt.sl.ps j).vs.toArray] u fun e w'=>e=.returned (.bool (blw c.n c.g (sl.ps j) (pt.sl.ps j)))∧Below u.heap.size u w'):=fun u hu hJ=>zct c f g BJ _ _ u hJ (HS.out.1.kept hu) (HS.out.2.1.kept hu) HS.out.2.2;generalize blw c.n c.g (sl.ps j) (pt.sl.ps j)=bb at *;generalize sl.ps j=s at *;generalize pt.sl.ps j=t at *;go_upto_region 13 with (first | (refine wpList_load_mid rfl 38 (.tmp 51) rfl sl.b (sl.o+j*5) (by kernel_rfl) s.vs _ r0 Tryz.underlying38 rfl (by kernel_rfl) ?_) | (refine zdf rfl rfl rfl 38 rfl (.tmp 50) rfl (.tmp 11) (.tmp 52) rfl zT5 (alloc_ty5 _) rfl (.int .i64 j) (by kernel_rfl) s.vs.toArray (by kernel_rfl) (by kernel_rfl) rfl (by kernel_rfl) (by simpa using s.vs_one) ?_))
   simp only[Act.put,zA,zB,zC];have B1:=zac wr (.cells s.vs.toArray 38);have HU:=hyd (show (Fz c f g BJ w st sl pt BS BP (wr.alloc (.cells s.vs.toArray 38))∧Blk (wr.alloc (.cells s.vs.toArray 38)) wr.heap.size s.vs 38)∧Below wr.heap.size wr (wr.alloc (.cells s.vs.toArray 38)) from ⟨⟨HB.out.kept B1,Blk.new wr _ _⟩,B1⟩);have hbl:∀u,Below (wr.alloc (.cells s.vs.toArray 38)).heap.size (wr.alloc (.cells s.vs.toArray 38)) u→Calls Tryz.prog 97 #[.pointer (some ⟨BJ,0,none⟩),.agg s.vs.toArray,.agg t.vs.toArray] u fun e w'=>e=.returned (.bool bb)∧Below u.heap.size u w':=fun u hu=>HBL.out u (Below.next HU.out.2 hu) (HU.out.1.1.j.kept hu);have HBL2:=hyd hbl;have HRW:=hyd (zaf HR2.out.1 B1);have HRN:=hyd HR2.out.2;clear r0 B1 HBL hbl HB HR2 HS;have HU1:=hyd HU.out.1;clear HU;generalize wr.alloc (.cells s.vs.toArray 38)=U at *;generalize wr.heap.size=BV at *;have p1:∀x:Gr U,x.w.cell? ⟨BP,1,none⟩=some (.slice (some ⟨pt.sl.b,pt.sl.o,none⟩) pt.sl.len pt.sl.cap):=fun x=>x.cell (by rw[←HRN.out];exact HU1.out.1.bP.cell 1 rfl)
   have rS:∀u,(∃x:Gr U,u=x.w)→u.rangeAt BV 0 s.vs:=fun _ hC=>by obtain⟨x,rfl⟩:=hC;exact zaf (HU1.out.2.range) (Gr.bl x)
   have rT:∀u,(∃x:Gr U,u=x.w)→u.rangeAt pt.sl.b (pt.sl.o+j*5) t.vs:=fun _ hC=>by obtain⟨x,rfl⟩:=hC;exact zaf (HRW.out) (Gr.bl x)
   have hb2:∀x:Gr U,Calls Tryz.prog 97 #[.pointer (some ⟨BJ,0,none⟩),.agg s.vs.toArray,.agg t.vs.toArray] x.w fun e w'=>e=.returned (.bool bb)∧Below x.w.heap.size x.w w':=fun x=>HBL2.out x.w x.bl;have hNE:Nonempty (Gr U):=⟨⟨_,Below.refl _ _⟩⟩;have r5k:∀x:Gr U,x.w.cell? ⟨pt.sl.b,pt.sl.o+j*5,none⟩=some (.int .i64 t.k):=fun x=>by have:=x.cell (HRW.out 0 _ rfl);simpa using this
   by_cases hk0:t.k=0
   ·have e0:(t.k != 0)=false:=by simpa using hk0
    have HS1:Hid (sb=true):=by show _=_;rw[HSB.out,decide_eq_true hk0];rfl
    rw[HS1.out] at HYY;clear hk0 HF2;refine zah (by kernel_rfl) (by kernel_rfl) ?_;iterate 18 go_big_quiet_step (fail)
    refine wpQuiet_nil ?_;rintro y1 ⟨xg,rfl⟩;have Bg:=xg.bl;generalize xg.w=y1 at Bg ⊢;have HU2:=hyd (HU1.out.1.kept Bg);clear xg Bg HU1 p1 rS rT hb2 hNE HRW HBL2;have HE:=hyd (HYY.out (by simp));clear HL HYY HRN HSB r5k e0;go_wp2;go_roundw
    case rel=>exact⟨j+1,by omega,by go_num,HU2.out,HE.out⟩
    case measure=>simp[intOf];omega
   ·have e0:(t.k != 0)=true:=by simpa using hk0
    have HS1:Hid (sb=bb):=by show _=_;rw[HSB.out,decide_eq_false hk0];rfl
    rw[HS1.out] at HYY HF2;clear hk0 HSB HS1;refine zah (by kernel_rfl) (by kernel_rfl) ?_;iterate 9 go_big_quiet_step (fail)
    go_big_quiet_want;refine zad 38 (.tmp 11) rfl BV 0 (by kernel_rfl) s.vs _ rS Tryz.underlying38 rfl (by kernel_rfl) ?_;simp only[Act.put,zA,zB,zC];go_big_quiet_on;iterate 4 go_big_quiet_step (fail)
    go_big_quiet_want;refine zad 38 (.tmp 66) rfl pt.sl.b (pt.sl.o+j*5) (by kernel_rfl) t.vs _ rT Tryz.underlying38 rfl (by kernel_rfl) ?_;simp only[Act.put,zA,zB,zC];go_big_quiet_on;go_big_quiet_step ((go_at_call 97;exact Calls.gr _ (hb2 _)))
    iterate 2 go_big_quiet_step (fail)
    refine wpQuiet_nil ?_;rintro y1 ⟨xg,rfl⟩;have Bg:=xg.bl;generalize xg.w=y1 at Bg ⊢;have HU2:=hyd (HU1.out.1.kept Bg);clear xg Bg HU1 p1 rS rT hb2 hNE HRW HBL2;clear r5k e0;cases bb
    ·have HE:=hyd (HF2.out (by simp));go_wp2;go_ret;exact⟨zab HE.out.symm,HU2.out.bl⟩
    ·have HE:=hyd (HYY.out (by simp));clear HL HF2 HYY HRN;go_wp2;go_roundw
     case rel=>exact⟨j+1,by omega,by go_num,HU2.out,HE.out⟩
     case measure=>simp[intOf];omega
  ·have ij:¬(j:Int)<sl.len:=by omega
   have HE:=hyd (HY.out HLE.out HA1.out (fun i hi=>HL.out i (by omega)));go_wp2;go_ret;exact⟨zab HE.out.symm,HB.out.bl⟩
end
end Go.Proofs.YtfobijdkoeifjaaGreatDoor
