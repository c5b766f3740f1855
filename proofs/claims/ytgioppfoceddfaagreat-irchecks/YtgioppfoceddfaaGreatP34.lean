import Derived.Test.YtgioppfoceddfaaGreatP33
set_option maxRecDepth 100000
set_option maxHeartbeats 32000000
namespace Go.Proofs.YtgioppfoceddfaaGreat
section
open Go Go.RowKit
theorem R2.wv {w0:World}{j:Jd}{v p:Nat}{ok ok':Bool}{r:Rst}{nd:Nd}{x1 x2:Ty}{B1 B2:Nat}{w u u':World}(h:R2 w0 j v p ok r nd x1 x2 B1 B2 w u)(W:WroteB u u' v (wkV j.n j.g j.fns j.f ok') 77):R2 w0 j v p ok' r nd x1 x2 B1 B2 w u' :=
 ⟨⟨h.g.g.wv W,W.keep h.g.N (by have:=h.g.l;omega),h.g.l⟩,W.keep h.b1 (by have:=h.g.l;have:=h.n1;omega),W.keep h.b2 (by have:=h.g.l;have:=h.n2;omega),h.n1,h.n2⟩
theorem znf {j:Jd}{nd:Nd}{a b:Nat}(hop:nd.h.op=11)(ha:nd.h.a=a)(hb:nd.h.b=b)(h1:(j.read nd a).k=4)(h2:belB j.n j.g (j.read nd b) ((j.read nd a).ps 0)=true)(h3:leqB j.n j.g (j.read nd a).l (j.read nd a).h=true)(h4:leqB j.n j.g j.f.heap (j.read nd a).h=true):j.makes nd=(zai j.n j.g ((j.read nd a).ps 1) (j.read nd a).l,if (j.read nd a).e=-1 then -1 else zad j.n j.g (j.read nd a).e (j.read nd a).l):=by
 unfold Jd.makes;rw[hop];show j.called nd=_
 unfold Jd.called;rw[ha,hb,h1,h2,h3,h4];rfl
theorem zrw {j:Jd}{nd:Nd}{a b d:Nat}{r r':Rst}{k0 b1 b2 b3:Bool}(hop:nd.h.op=11)(ha:nd.h.a=a)(hb:nd.h.b=b)(hk:k0=(((true&&r.set a)&&((j.read nd a).k==4))&&r.set b))(h1:k0=true→b1=belB j.n j.g (j.read nd b) ((j.read nd a).ps 0))(h2:k0=true→b2=leqB j.n j.g (j.read nd a).l (j.read nd a).h)(h3:k0=true→b3=leqB j.n j.g j.f.heap (j.read nd a).h)(h:(k0&&(((k0&&b1)&&b2)&&b3))=false):ze6 j nd d r false r':=by
 refine⟨?_,fun h=>by cases h⟩;rw[zcl r (Or.inr (Or.inr (Or.inl hop))) ha hb];by_cases hz:j.makes nd=(leafT 0 0,-1)
 ·rw[hz,zdy];simp
 ·have hc:((j.read nd a).k != 4||!(belB j.n j.g (j.read nd b) ((j.read nd a).ps 0))||!(leqB j.n j.g (j.read nd a).l (j.read nd a).h&&leqB j.n j.g j.f.heap (j.read nd a).h))=false:=by
   cases q:((j.read nd a).k != 4||!(belB j.n j.g (j.read nd b) ((j.read nd a).ps 0))||!(leqB j.n j.g (j.read nd a).l (j.read nd a).h&&leqB j.n j.g j.f.heap (j.read nd a).h))
   ·rfl
   ·exfalso
    apply hz
    unfold Jd.makes;rw[hop];show j.called nd=_
    unfold Jd.called;rw[ha,hb,if_pos q]
  simp only[Bool.or_eq_false_iff,Bool.not_eq_false',Bool.and_eq_true,bne_eq_false_iff_eq] at hc;obtain⟨⟨c1,c2⟩,c3,c4⟩:=hc;cases s1:r.set a <;> cases s2:r.set b
  ·rfl
  ·rfl
  ·rfl
  ·exfalso
   have e:k0=true:=by rw[hk,s1,s2,c1];rfl
   rw[h1 e,h2 e,h3 e,c2,c3,c4,e] at h;cases h
theorem zor (w0:World)(j:Jd)(nd:Nd)(a b d v p:Nat)(r:Rst)(w:World)(hd:Dt w0 j)(hx:Rx w0 j v p true r w)(hm:r.m=j.f.slots.len)(ha:nd.h.a=a)(hb:nd.h.b=b)(hdst:nd.h.dst=d)(hia:a<r.m)(hib:b<r.m)(hi:d<r.m)(hop:nd.h.op=11) :
  Calls Tryz.prog 100 #[.pointer (some ⟨v,0,none⟩),.pointer (some ⟨p,0,none⟩),.agg nd.vs.toArray] w fun e w'=>e=.returned (.tuple #[])∧∃ok' r',Rg w0 j v p ok' r' w w'∧r'.q=r.q∧r'.m=r.m∧ze6 j nd d r ok' r':=by
 have HO:=hid hop;have HD:=hid (show Dt w0 j∧r.m=j.f.slots.len∧(a<r.m∧b<r.m)∧nd.h.dst=d∧d<r.m from ⟨hd,hm,⟨hia,hib⟩,hdst,hi⟩);have HE:=hid (show nd.h.a=a∧nd.h.b=b from ⟨ha,hb⟩);have HR:=hid (R1.new nd hx);clear hx hm hd ha hb hdst hia hib hi hop;go_enter Tryz.func100,Tryz.ntmps100
 go_upto_region 1 with fail
 generalize (w.alloc (.cells nd.vs.toArray 86))=w1 at *;go_cut [6,7] (fun c6 c7 wx=>∃B0 B1:Nat,c6=.pointer (some ⟨B0,0,none⟩)∧c7=.pointer (some ⟨B1,0,none⟩)∧∃(x1:Ty),Hid (R2 w0 j v p (((true&&r.set a)&&((j.read nd a).k==4))&&r.set b) r nd x1 (j.read nd b) B0 B1 w wx)∧Hid ((j.read nd a).k=4→x1=j.read nd a))
 case first =>
  have D1:=(Below.refl w1.heap.size w1).drew;have hCN:∀q,(∃x:Wd (fun q=>Blk q w.heap.size nd.vs 86),q=x.w)→q.rangeAt w.heap.size 0 nd.vs:=by rintro _ ⟨x,rfl⟩;exact x.2.range
  have pa:∀x:Wd (fun q=>Blk q w.heap.size nd.vs 86),x.w.cell? ⟨w.heap.size,2,none⟩=some (.int .i64 a):=fun x=>x.2.cell 2 (by rw[←HE.out.1];rfl)
  have pb:∀x:Wd (fun q=>Blk q w.heap.size nd.vs 86),x.w.cell? ⟨w.heap.size,3,none⟩=some (.int .i64 b):=fun x=>x.2.cell 3 (by rw[←HE.out.2];rfl)
  have hNE:Nonempty (Wd (fun q=>Blk q w.heap.size nd.vs 86)):=⟨⟨_,HR.out.N⟩⟩;have HR2:=hid (HR.out.kept D1);refine zal (fun q=>Blk q w.heap.size nd.vs 86) [0,1,2,3,4,5,8,9,10,11,12] 7 (by kernel_rfl) rfl (by kernel_rfl) (zbt (by kernel_rfl)) HR2.out.N ?_;simp only[List.filterMap,zD,zE];iterate 3 go_big_quiet_step (fail)
  go_big_quiet_want;refine zaa 86 (.tmp 5) rfl w.heap.size 0 (by kernel_rfl) nd.vs _ hCN Tryz.underlying86 rfl (by kernel_rfl) ?_;simp only[Act.put,zA,zB,zC];go_big_quiet_on;iterate 4 go_big_quiet_step (fail)
  go_big_quiet_want;refine zaa 86 (.tmp 5) rfl w.heap.size 0 (by kernel_rfl) nd.vs _ hCN Tryz.underlying86 rfl (by kernel_rfl) ?_;simp only[Act.put,zA,zB,zC];go_big_quiet_on;iterate 2 go_big_quiet_step (fail)
  refine wpQuiet_nil ?_;clear pa pb hCN hNE D1 HR;generalize w1.drew=y0 at *;refine zix [6,7,13] [15,16,22] 14 15 6 7 38 zTv (zb0 [0,1,2,3,4,5,8,9,10,11,12] (Array.replicate 18 false)) (by kernel_rfl) alloc_ty _ (w.heap.size+1) 2 (Iv4 w0 j v p r nd a b w) (fun vs u h=>by obtain⟨_,h⟩:=h.r1;exact h.N) (fun vs u h=>⟨h.kept (zac _ _),by obtain⟨_,h⟩:=h.r1;exact h.base⟩) ?_ ?_ 5 [] none none y0 rfl (by simp) HR2.out (by intro B h;cases h) (by intro B h;cases h) (by intro B h;cases h)
  ·intro vs c oc u q1 q2 hc hoc hI
   match vs,hc,hI with
   | [],hc,hI =>
    have e:=(Option.some.inj hc).symm;subst e;have e:=(Option.some.inj hoc).symm;subst e;refine⟨96,#[.pointer (some ⟨v,0,none⟩),.pointer (some ⟨p,0,none⟩),.agg nd.vs.toArray,.int .i64 a],by cases q1 <;> cases q2 <;> kernel_rfl,?_⟩
    exact (R1.read hI HD.out.1 HD.out.2.1 HD.out.2.2.1.1).mono fun e w' ⟨h1,h2,h3⟩=>⟨_,h1,⟨rfl,h2⟩,h3⟩
   | [v1],hc,hI =>
    have e:=(Option.some.inj hc).symm;subst e;have e:=(Option.some.inj hoc).symm;subst e;obtain⟨rfl,hI⟩:=hI;refine⟨98,#[.pointer (some ⟨v,0,none⟩),.agg (j.read nd a).vs.toArray,.int .i64 4],by cases q1 <;> cases q2 <;> kernel_rfl,?_⟩
    exact (R1.kind hI HD.out.1 HD.out.2.1 HD.out.2.2.1.1 4 (by decide) (by decide)).mono fun e w' ⟨⟨x,h1,hk⟩,h2,h3⟩=>⟨_,h1,⟨⟨x,rfl,hk.2.1⟩,h2⟩,h3⟩
   | [v1,v2],hc,hI =>
    have e:=(Option.some.inj hc).symm;subst e;have e:=(Option.some.inj hoc).symm;subst e;obtain⟨hx,hI⟩:=hI;refine⟨96,#[.pointer (some ⟨v,0,none⟩),.pointer (some ⟨p,0,none⟩),.agg nd.vs.toArray,.int .i64 b],by cases q1 <;> cases q2 <;> kernel_rfl,?_⟩
    exact (R1.read hI HD.out.1 HD.out.2.1 HD.out.2.2.1.2).mono fun e w' ⟨h1,h2,h3⟩=>⟨_,h1,⟨hx,rfl,h2⟩,h3⟩
   | _ :: _ :: _ :: _,hc,_=>simp at hc
  ·intro vs B1 B2 u hl hI hb1 hb2 hB1 hB2 hne
   match vs,hl,hI with
   | [v1,v2,v3],_,hI =>
    obtain⟨⟨x1,rfl,hx1⟩,rfl,hI⟩:=hI;have HX:=hid hx1;have HI:=hid hI;have HB:=hid (show (Blk u B1 zTv 38∧Blk u B2 zTv 38)∧w.heap.size+1≤B1∧w.heap.size+1≤B2∧B1≠B2 from ⟨⟨hb1,hb2⟩,hB1,hB2,hne⟩);clear hx1 hI hb1 hb2 hB1 hB2 hne;simp only[Fr,putL,putO,Option.map,ptA,Act.put,zA,zB,zC];refine wpAnyH_ready (rs:=[16]) (by kernel_rfl) (by simp) ?_;refine AllReadyH.cons rfl (fun K hK=>?_) AllReadyH.nil;rw[if_pos (by rfl)];refine zak 38 (.tmp 6) (.tmp 16) rfl rfl B1 x1.vs zTv (by kernel_rfl) (by kernel_rfl) x1.vs_one HB.out.1.1 rfl (by kernel_rfl) ?_;intro u2 W2;have HI2:=hid (HI.out.other W2 HB.out.2.1);have HB2:=hid (show Blk u2 B1 x1.vs 38∧Blk u2 B2 zTv 38 from ⟨W2.blk,W2.keep HB.out.1.2 (by have:=HB.out.2;omega)⟩)
    refine hK.out _ _ HI2.out.N (fun _=>?_);clear hK K W2 HI;refine wpAnyH_ready (rs:=[17]) (by kernel_rfl) (by simp) ?_;refine AllReadyH.cons rfl (fun K hK=>?_) AllReadyH.nil;rw[if_pos (by rfl)];refine zak 38 (.tmp 7) (.tmp 22) rfl rfl B2 (j.read nd b).vs zTv (by kernel_rfl) (by kernel_rfl) (j.read nd b).vs_one HB2.out.2 rfl (by kernel_rfl) ?_;intro u3 W3;have HI3:=hid (HI2.out.other W3 HB.out.2.2.1);have HB3:=hid (show Blk u3 B1 x1.vs 38∧Blk u3 B2 (j.read nd b).vs 38 from ⟨W3.keep HB2.out.1 (by have:=HB.out.2;omega),W3.blk⟩)
    refine hK.out _ _ HI3.out.N (fun _=>?_);clear hK K W3 HI2 HB2;refine wpAnyH_done (by kernel_rfl) ?_ _;refine⟨(fun c hc=>by cases hc),?_⟩;go_wp2;go_meet
    case rel=>exact⟨B1,B2,rfl,rfl,x1,⟨HI3.out,HB3.out.1,HB3.out.2,HB.out.2.1,HB.out.2.2.1⟩,HX.out⟩
 case rest =>
  obtain⟨B0,B1,rfl,rfl,x1,hR,hx1⟩:=hcut;clear HR;have HR:=hR;have HX:=hx1;clear hR hx1;generalize hok:(((true&&r.set a)&&((j.read nd a).k==4))&&r.set b)=k0 at *;have HK:=hid hok.symm;clear hok;go_upto_region 2 with fail
  go_cut [8] (fun _ wx=>∃kk:Bool,Hid (R2 w0 j v p kk r nd x1 (j.read nd b) B0 B1 w wx)∧Hid (kk=(k0&&(((k0&&belB j.n j.g (j.read nd b) ((j.read nd a).ps 0))&&leqB j.n j.g (j.read nd a).l (j.read nd a).h)&&leqB j.n j.g j.f.heap (j.read nd a).h))))
  case first =>
   have c19:=HR.out.g.g.x.cw 19 (x:=.bool k0) rfl;have p19:=fun x=>Gr.cell x c19;have hNE:Nonempty (Gr wc):=⟨⟨_,Below.refl _ _⟩⟩;clear c19;cases k0
   ·refine zah 36 (by kernel_rfl) (by kernel_rfl) ?_;simp only[List.take,List.drop];iterate 36 go_big_quiet_step (fail)
    refine wpQuiet_nil ?_;rintro w5 ⟨x5,rfl⟩;have B5:=x5.bl;generalize x5.w=w5 at B5 ⊢;have HR5:=hid (HR.out.kept B5);clear B5 x5;go_wp2_with fail
    refine (za8 j.n j.g j.fns j.f false false v w5 HR5.out.g.g.x.W).mono ?_;rintro _ w6 ⟨rfl,W6⟩;have HR6:Hid (R2 w0 j v p (false&&false) r nd x1 (j.read nd b) B0 B1 w w6):=HR5.out.wv W6;go_wp2;go_meet
    case rel=>exact⟨_,HR6.out,rfl⟩
   ·have HS:=hid (show (r.set a=true∧r.set b=true)∧(j.read nd a).k=4 from by have h:=HK.out.symm;simp only[Bool.and_eq_true,beq_iff_eq] at h;exact⟨⟨h.1.1.2,h.2⟩,h.1.2⟩)
    have e1:=HX.out HS.out.2;subst e1;have hlen:((j.read nd a).len:Int)=2:=zj7 nd (by decide) HS.out.2;have HAt:=hid (show (j.read nd a).At wc∧(j.read nd b).At wc∧1<(j.read nd a).len from ⟨(zc9 nd HD.out.1 (by have:=HD.out.2;omega)).kept HR.out.g.g.x.bl,(zc9 nd HD.out.1 (by have:=HD.out.2;omega)).kept HR.out.g.g.x.bl,by omega⟩)
    have hao:=HAt.out.1.nil (by omega);have hln:(0:Int)<(j.read nd a).len:=by omega
    clear hlen;have c0:=HR.out.g.g.x.cw 0 (x:=.slice j.n.ao j.n.len j.n.cap) rfl;have c1:=HR.out.g.g.x.cw 1 (x:=.slice j.g.ao j.g.len j.g.cap) rfl;have c14:=HR.out.g.g.x.cw 14 (x:=.int .i64 j.f.heap) rfl;have d1:=HR.out.b1.cell 1 (v:=.int .i64 (j.read nd a).l) rfl;have d2:=HR.out.b1.cell 2 (v:=.slice (j.read nd a).ao (j.read nd a).len (j.read nd a).cap) rfl;have d3:=HR.out.b1.cell 3 (v:=.int .i64 (j.read nd a).h) rfl;rw[hao] at d2;have p0:=fun x=>Gr.cell x c0;have p1:=fun x=>Gr.cell x c1;have p14:=fun x=>Gr.cell x c14;have q1:=fun x=>Gr.cell x d1;have q2:=fun x=>Gr.cell x d2;have q3:=fun x=>Gr.cell x d3;have hT2:∀u,(∃x:Gr wc,u=x.w)→u.rangeAt B1 0 (j.read nd b).vs:=by rintro _ ⟨x,rfl⟩;exact (HR.out.b2.kept x.bl).range
    have hP0:∀u,(∃x:Gr wc,u=x.w)→u.rangeAt (j.read nd a).b ((j.read nd a).o+0*5) ((j.read nd a).ps 0).vs:=by rintro _ ⟨x,rfl⟩;exact C5.row ((HAt.out.1.kept x.bl).cells (by have:=HAt.out.2.2;omega))
    have hb1:∀q,Below wc.heap.size wc q→Calls Tryz.prog 31 #[.agg #[.slice j.n.ao j.n.len j.n.cap,.slice j.g.ao j.g.len j.g.cap],.agg (j.read nd b).vs.toArray,.agg ((j.read nd a).ps 0).vs.toArray] q fun e w'=>e=.returned (.bool (belB j.n j.g (j.read nd b) ((j.read nd a).ps 0)))∧Below q.heap.size q w':=fun q hq=>zcw j.n j.g (j.read nd b) ((j.read nd a).ps 0) q (HD.out.1.n.kept (HR.out.g.g.x.kept hq).bl) (HD.out.1.g.kept (HR.out.g.g.x.kept hq).bl) (HAt.out.2.1.kept hq) ((HAt.out.1.kept hq).part (by have:=HAt.out.2.2;omega))
    have hb2:∀q,Below wc.heap.size wc q→Calls Tryz.prog 60 #[.pointer (some ⟨v,0,none⟩),.int .i64 (j.read nd a).l,.int .i64 (j.read nd a).h] q fun e w'=>e=.returned (.bool (leqB j.n j.g (j.read nd a).l (j.read nd a).h))∧Below q.heap.size q w':=fun q hq=>zcx j.n j.g j.fns j.f true v _ _ q (HR.out.g.g.x.kept hq).W (HD.out.1.n.kept (HR.out.g.g.x.kept hq).bl) (HD.out.1.g.kept (HR.out.g.g.x.kept hq).bl);have hb3:∀q,Below wc.heap.size wc q→Calls Tryz.prog 60 #[.pointer (some ⟨v,0,none⟩),.int .i64 j.f.heap,.int .i64 (j.read nd a).h] q fun e w'=>e=.returned (.bool (leqB j.n j.g j.f.heap (j.read nd a).h))∧Below q.heap.size q w':=fun q hq=>zcx j.n j.g j.fns j.f true v _ _ q (HR.out.g.g.x.kept hq).W (HD.out.1.n.kept (HR.out.g.g.x.kept hq).bl) (HD.out.1.g.kept (HR.out.g.g.x.kept hq).bl);clear c0 c1 c14 d1 d2 d3 hao HX;generalize belB j.n j.g (j.read nd b) ((j.read nd a).ps 0)=f1 at *;generalize leqB j.n j.g (j.read nd a).l (j.read nd a).h=f2 at *;generalize leqB j.n j.g j.f.heap (j.read nd a).h=f3 at *;cases f1
    ·refine zah 36 (by kernel_rfl) (by kernel_rfl) ?_;simp only[List.take,List.drop];iterate 10 go_big_quiet_step (fail)
     go_big_quiet_want;refine zaa 38 (.tmp 7) rfl B1 0 (by kernel_rfl) (j.read nd b).vs _ hT2 Tryz.underlying38 rfl (by kernel_rfl) ?_;simp only[Act.put,zA,zB,zC];go_big_quiet_on;iterate 3 go_big_quiet_step (fail)
     go_big_quiet_want;refine zaa 38 (.tmp 36) rfl (j.read nd a).b ((j.read nd a).o+0*5) (by kernel_rfl) ((j.read nd a).ps 0).vs _ hP0 Tryz.underlying38 rfl (by kernel_rfl) ?_;simp only[Act.put,zA,zB,zC];go_big_quiet_on;go_big_quiet_step ((go_at_call 31;exact Calls.gr _ (hb1 _ (Gr.bl _))))
     iterate 20 go_big_quiet_step (fail)
     refine wpQuiet_nil ?_;rintro w5 ⟨x5,rfl⟩;have B5:=x5.bl;generalize x5.w=w5 at B5 ⊢;have HR5:=hid (HR.out.kept B5);clear B5 x5;go_wp2_with fail
     refine (za8 j.n j.g j.fns j.f true false v w5 HR5.out.g.g.x.W).mono ?_;rintro _ w6 ⟨rfl,W6⟩;have HR6:Hid (R2 w0 j v p (true&&false) r nd (j.read nd a) (j.read nd b) B0 B1 w w6):=HR5.out.wv W6;go_wp2;go_meet
     case rel=>exact⟨_,HR6.out,(by show _=_;simp)⟩
    ·cases f2
     ·refine zah 36 (by kernel_rfl) (by kernel_rfl) ?_;simp only[List.take,List.drop];iterate 10 go_big_quiet_step (fail)
      go_big_quiet_want;refine zaa 38 (.tmp 7) rfl B1 0 (by kernel_rfl) (j.read nd b).vs _ hT2 Tryz.underlying38 rfl (by kernel_rfl) ?_;simp only[Act.put,zA,zB,zC];go_big_quiet_on;iterate 3 go_big_quiet_step (fail)
      go_big_quiet_want;refine zaa 38 (.tmp 36) rfl (j.read nd a).b ((j.read nd a).o+0*5) (by kernel_rfl) ((j.read nd a).ps 0).vs _ hP0 Tryz.underlying38 rfl (by kernel_rfl) ?_;simp only[Act.put,zA,zB,zC];go_big_quiet_on;go_big_quiet_step ((go_at_call 31;exact Calls.gr _ (hb1 _ (Gr.bl _))))
      iterate 7 go_big_quiet_step (fail)
      go_big_quiet_step ((go_at_call 60;exact Calls.gr _ (hb2 _ (Gr.bl _))))
      iterate 12 go_big_quiet_step (fail)
      refine wpQuiet_nil ?_;rintro w5 ⟨x5,rfl⟩;have B5:=x5.bl;generalize x5.w=w5 at B5 ⊢;have HR5:=hid (HR.out.kept B5);clear B5 x5;go_wp2_with fail
      refine (za8 j.n j.g j.fns j.f true false v w5 HR5.out.g.g.x.W).mono ?_;rintro _ w6 ⟨rfl,W6⟩;have HR6:Hid (R2 w0 j v p (true&&false) r nd (j.read nd a) (j.read nd b) B0 B1 w w6):=HR5.out.wv W6;go_wp2;go_meet
      case rel=>exact⟨_,HR6.out,(by show _=_;simp)⟩
     ·refine zah 36 (by kernel_rfl) (by kernel_rfl) ?_;simp only[List.take,List.drop];iterate 10 go_big_quiet_step (fail)
      go_big_quiet_want;refine zaa 38 (.tmp 7) rfl B1 0 (by kernel_rfl) (j.read nd b).vs _ hT2 Tryz.underlying38 rfl (by kernel_rfl) ?_;simp only[Act.put,zA,zB,zC];go_big_quiet_on;iterate 3 go_big_quiet_step (fail)
      go_big_quiet_want;refine zaa 38 (.tmp 36) rfl (j.read nd a).b ((j.read nd a).o+0*5) (by kernel_rfl) ((j.read nd a).ps 0).vs _ hP0 Tryz.underlying38 rfl (by kernel_rfl) ?_;simp only[Act.put,zA,zB,zC];go_big_quiet_on;go_big_quiet_step ((go_at_call 31;exact Calls.gr _ (hb1 _ (Gr.bl _))))
      iterate 7 go_big_quiet_step (fail)
      go_big_quiet_step ((go_at_call 60;exact Calls.gr _ (hb2 _ (Gr.bl _))))
      iterate 10 go_big_quiet_step (fail)
      go_big_quiet_step ((go_at_call 60;exact Calls.gr _ (hb3 _ (Gr.bl _))))
      iterate 1 go_big_quiet_step (fail)
      refine wpQuiet_nil ?_;rintro w5 ⟨x5,rfl⟩;have B5:=x5.bl;generalize x5.w=w5 at B5 ⊢;have HR5:=hid (HR.out.kept B5);clear B5 x5;go_wp2_with fail
      refine (za8 j.n j.g j.fns j.f true f3 v w5 HR5.out.g.g.x.W).mono ?_;rintro _ w6 ⟨rfl,W6⟩;have HR6:Hid (R2 w0 j v p (true&&f3) r nd (j.read nd a) (j.read nd b) B0 B1 w w6):=HR5.out.wv W6;go_wp2;go_meet
      case rel=>exact⟨_,HR6.out,(by show _=_;simp)⟩
  case rest =>
   clear HR;obtain⟨kk,hR,hkk⟩:=hcut;have HR:=hR;have HKK:=hkk;clear hR hkk;have c19:=HR.out.g.g.x.cw 19 (x:=.bool kk) rfl;cases kk
   ·go_wp2;refine bodyPost_ret (v:=.tuple #[]) (by kernel_rfl) rfl ?_;exact⟨rfl,false,r,HR.out.g.g,rfl,rfl,zrw HO.out HE.out.1 HE.out.2 HK.out (fun _=>rfl) (fun _=>rfl) (fun _=>rfl) HKK.out.symm⟩
   ·have HS0:=hid (show k0=true∧belB j.n j.g (j.read nd b) ((j.read nd a).ps 0)=true∧leqB j.n j.g (j.read nd a).l (j.read nd a).h=true∧leqB j.n j.g j.f.heap (j.read nd a).h=true from by have h:=HKK.out.symm;simp only[Bool.and_eq_true] at h;exact⟨h.1,h.2.1.1.2,h.2.1.2,h.2.2⟩)
    have HS:=hid (show (j.read nd a).k=4∧r.set a=true∧r.set b=true from by have h:=HK.out.symm.trans HS0.out.1;simp only[Bool.and_eq_true,beq_iff_eq] at h;exact⟨h.1.2,h.1.1.2,h.2⟩)
    have HM:=hid (znf HO.out HE.out.1 HE.out.2 HS.out.1 HS0.out.2.1 HS0.out.2.2.1 HS0.out.2.2.2);have e1:=HX.out HS.out.1;subst e1;have d4:=HR.out.b1.cell 4 (v:=.int .i64 (j.read nd a).e) rfl;have d1:=HR.out.b1.cell 1 (v:=.int .i64 (j.read nd a).l) rfl;clear HX HS0 HKK HK;go_upto_region 5 with fail
    by_cases he:(j.read nd a).e=-1
    ·replace HM:Hid (j.makes nd=(zai j.n j.g ((j.read nd a).ps 1) (j.read nd a).l,-1)):=by show _=_;rw[HM.out,if_pos he]
     have en:((j.read nd a).e != -1)=false:=by simp[he]
     clear he;generalize (j.read nd a).e=ev at *;go_upto_region 7 with fail
     have HAt:=hid (show (j.read nd a).At wc∧1<(j.read nd a).len from ⟨(zc9 nd HD.out.1 (by have:=HD.out.2;omega)).kept HR.out.g.g.x.bl,by have h:((j.read nd a).len:Int)=2:=zj7 nd (by decide) HS.out.1;omega⟩)
     have hao:=HAt.out.1.nil (by have:=HAt.out.2;omega)
     have hln:(1:Int)<(j.read nd a).len:=by have:=HAt.out.2;omega
     have c0:=HR.out.g.g.x.cw 0 (x:=.slice j.n.ao j.n.len j.n.cap) rfl;have c1:=HR.out.g.g.x.cw 1 (x:=.slice j.g.ao j.g.len j.g.cap) rfl;have d1:=HR.out.b1.cell 1 (v:=.int .i64 (j.read nd a).l) rfl;have d2:=HR.out.b1.cell 2 (v:=.slice (j.read nd a).ao (j.read nd a).len (j.read nd a).cap) rfl;rw[hao] at d2;have p0:=fun x=>Gr.cell x c0;have p1:=fun x=>Gr.cell x c1;have q1:=fun x=>Gr.cell x d1;have q2:=fun x=>Gr.cell x d2;have hN:∀u,(∃x:Gr wc,u=x.w)→u.rangeAt w.heap.size 0 nd.vs:=by rintro _ ⟨x,rfl⟩;exact (HR.out.g.N.kept x.bl).range
     have hP1:∀u,(∃x:Gr wc,u=x.w)→u.rangeAt (j.read nd a).b ((j.read nd a).o+1*5) ((j.read nd a).ps 1).vs:=by rintro _ ⟨x,rfl⟩;exact C5.row ((HAt.out.1.kept x.bl).cells HAt.out.2)
     have hbR:∀q,Below wc.heap.size wc q→Calls Tryz.prog 32 #[.agg #[.slice j.n.ao j.n.len j.n.cap,.slice j.g.ao j.g.len j.g.cap],.agg ((j.read nd a).ps 1).vs.toArray,.int .i64 (j.read nd a).l] q fun e w'=>e=.returned (.agg (zai j.n j.g ((j.read nd a).ps 1) (j.read nd a).l).vs.toArray)∧Below q.heap.size q w':=fun q hq=>(zc6 j.n j.g ((j.read nd a).ps 1) (j.read nd a).l q (HD.out.1.n.kept (HR.out.g.g.x.kept hq).bl) (HD.out.1.g.kept (HR.out.g.g.x.kept hq).bl) ((HAt.out.1.kept hq).part HAt.out.2)).mono fun _ _ h=>⟨h.1,h.2.2⟩;have hNE:Nonempty (Gr wc):=⟨⟨_,Below.refl _ _⟩⟩;clear c0 c1 d1 d2 hao;refine zah 15 (by kernel_rfl) (by kernel_rfl) ?_;simp only[List.take,List.drop];iterate 2 go_big_quiet_step (fail)
     go_big_quiet_want;refine zaa 86 (.tmp 5) rfl w.heap.size 0 (by kernel_rfl) nd.vs _ hN Tryz.underlying86 rfl (by kernel_rfl) ?_;simp only[Act.put,zA,zB,zC];go_big_quiet_on;iterate 7 go_big_quiet_step (fail)
     go_big_quiet_want;refine zaa 38 (.tmp 83) rfl (j.read nd a).b ((j.read nd a).o+1*5) (by kernel_rfl) ((j.read nd a).ps 1).vs _ hP1 Tryz.underlying38 rfl (by kernel_rfl) ?_;simp only[Act.put,zA,zB,zC];go_big_quiet_on;iterate 2 go_big_quiet_step (fail)
     go_big_quiet_step ((go_at_call 32;exact Calls.gr _ (hbR _ (Gr.bl _))))
     iterate 1 go_big_quiet_step (fail)
     refine wpQuiet_nil ?_;rintro w8 ⟨x8,rfl⟩;have B8:=x8.bl;generalize x8.w=w8 at B8 ⊢;have HR8:=hid (HR.out.kept B8);have HT8:=hid (show (zai j.n j.g ((j.read nd a).ps 1) (j.read nd a).l).At w8 from zd0 ((HAt.out.1.part HAt.out.2).kept B8));clear B8 x8 p0 p1 q1 q2 hN hP1 hbR hNE HR HAt hln;generalize zai j.n j.g ((j.read nd a).ps 1) (j.read nd a).l=T at *;go_wp2_with fail
     refine (zaz w0 j nd T (-1) d v p true r w8 HD.out.1 HR8.out.g.g.x HD.out.2.1 HD.out.2.2.2.1 HD.out.2.2.2.2 HT8.out).mono ?_;rintro _ w9 ⟨rfl,hg9⟩;have HR9:=hid (HR8.out.g.next hg9 rfl);go_wp2;go_end0;exact⟨rfl,_,_,HR9.out.g,rfl,rfl,⟨by rw[HM.out,zcl r (Or.inr (Or.inr (Or.inl HO.out))) HE.out.1 HE.out.2,HS.out.2.1,HS.out.2.2];rfl,fun _=>by rw[HM.out]⟩⟩
    ·replace HM:Hid (j.makes nd=(zai j.n j.g ((j.read nd a).ps 1) (j.read nd a).l,zad j.n j.g (j.read nd a).e (j.read nd a).l)):=by show _=_;rw[HM.out,if_neg he]
     have en:((j.read nd a).e != -1)=true:=by simp[he]
     clear he;have hB:=zbu j.n j.g j.fns j.f true v (j.read nd a).e (j.read nd a).l wc HR.out.g.g.x.W (HD.out.1.n.kept HR.out.g.g.x.bl) (HD.out.1.g.kept HR.out.g.g.x.bl);go_wp2_with fail
     refine hB.mono ?_;rintro _ u1 ⟨rfl,hb1⟩;have HR1:=hid (HR.out.kept hb1);clear hB hb1 HR d1 d4 c19;have HR:=HR1;clear HR1;generalize zad j.n j.g (j.read nd a).e (j.read nd a).l=kv at *;go_upto_region 7 with fail
     have HAt:=hid (show (j.read nd a).At u1∧1<(j.read nd a).len from ⟨(zc9 nd HD.out.1 (by have:=HD.out.2;omega)).kept HR.out.g.g.x.bl,by have h:((j.read nd a).len:Int)=2:=zj7 nd (by decide) HS.out.1;omega⟩)
     have hao:=HAt.out.1.nil (by have:=HAt.out.2;omega)
     have hln:(1:Int)<(j.read nd a).len:=by have:=HAt.out.2;omega
     have c0:=HR.out.g.g.x.cw 0 (x:=.slice j.n.ao j.n.len j.n.cap) rfl;have c1:=HR.out.g.g.x.cw 1 (x:=.slice j.g.ao j.g.len j.g.cap) rfl;have d1:=HR.out.b1.cell 1 (v:=.int .i64 (j.read nd a).l) rfl;have d2:=HR.out.b1.cell 2 (v:=.slice (j.read nd a).ao (j.read nd a).len (j.read nd a).cap) rfl;rw[hao] at d2;have p0:=fun x=>Gr.cell x c0;have p1:=fun x=>Gr.cell x c1;have q1:=fun x=>Gr.cell x d1;have q2:=fun x=>Gr.cell x d2;have hN:∀u,(∃x:Gr u1,u=x.w)→u.rangeAt w.heap.size 0 nd.vs:=by rintro _ ⟨x,rfl⟩;exact (HR.out.g.N.kept x.bl).range
     have hP1:∀u,(∃x:Gr u1,u=x.w)→u.rangeAt (j.read nd a).b ((j.read nd a).o+1*5) ((j.read nd a).ps 1).vs:=by rintro _ ⟨x,rfl⟩;exact C5.row ((HAt.out.1.kept x.bl).cells HAt.out.2)
     have hbR:∀q,Below u1.heap.size u1 q→Calls Tryz.prog 32 #[.agg #[.slice j.n.ao j.n.len j.n.cap,.slice j.g.ao j.g.len j.g.cap],.agg ((j.read nd a).ps 1).vs.toArray,.int .i64 (j.read nd a).l] q fun e w'=>e=.returned (.agg (zai j.n j.g ((j.read nd a).ps 1) (j.read nd a).l).vs.toArray)∧Below q.heap.size q w':=fun q hq=>(zc6 j.n j.g ((j.read nd a).ps 1) (j.read nd a).l q (HD.out.1.n.kept (HR.out.g.g.x.kept hq).bl) (HD.out.1.g.kept (HR.out.g.g.x.kept hq).bl) ((HAt.out.1.kept hq).part HAt.out.2)).mono fun _ _ h=>⟨h.1,h.2.2⟩;have hNE:Nonempty (Gr u1):=⟨⟨_,Below.refl _ _⟩⟩;clear c0 c1 d1 d2 hao;refine zah 15 (by kernel_rfl) (by kernel_rfl) ?_;simp only[List.take,List.drop];iterate 2 go_big_quiet_step (fail)
     go_big_quiet_want;refine zaa 86 (.tmp 5) rfl w.heap.size 0 (by kernel_rfl) nd.vs _ hN Tryz.underlying86 rfl (by kernel_rfl) ?_;simp only[Act.put,zA,zB,zC];go_big_quiet_on;iterate 7 go_big_quiet_step (fail)
     go_big_quiet_want;refine zaa 38 (.tmp 83) rfl (j.read nd a).b ((j.read nd a).o+1*5) (by kernel_rfl) ((j.read nd a).ps 1).vs _ hP1 Tryz.underlying38 rfl (by kernel_rfl) ?_;simp only[Act.put,zA,zB,zC];go_big_quiet_on;iterate 2 go_big_quiet_step (fail)
     go_big_quiet_step ((go_at_call 32;exact Calls.gr _ (hbR _ (Gr.bl _))))
     iterate 1 go_big_quiet_step (fail)
     refine wpQuiet_nil ?_;rintro w8 ⟨x8,rfl⟩;have B8:=x8.bl;generalize x8.w=w8 at B8 ⊢;have HR8:=hid (HR.out.kept B8);have HT8:=hid (show (zai j.n j.g ((j.read nd a).ps 1) (j.read nd a).l).At w8 from zd0 ((HAt.out.1.part HAt.out.2).kept B8));clear B8 x8 p0 p1 q1 q2 hN hP1 hbR hNE HR HAt hln;generalize zai j.n j.g ((j.read nd a).ps 1) (j.read nd a).l=T at *;go_wp2_with fail
     refine (zaz w0 j nd T kv d v p true r w8 HD.out.1 HR8.out.g.g.x HD.out.2.1 HD.out.2.2.2.1 HD.out.2.2.2.2 HT8.out).mono ?_;rintro _ w9 ⟨rfl,hg9⟩;have HR9:=hid (HR8.out.g.next hg9 rfl);go_wp2;go_end0;exact⟨rfl,_,_,HR9.out.g,rfl,rfl,⟨by rw[HM.out,zcl r (Or.inr (Or.inr (Or.inl HO.out))) HE.out.1 HE.out.2,HS.out.2.1,HS.out.2.2];rfl,fun _=>by rw[HM.out]⟩⟩
end
end Go.Proofs.YtgioppfoceddfaaGreat
