import Derived.Test.YtgioppfoceddfaaGreatP30
set_option maxRecDepth 100000
set_option maxHeartbeats 32000000
namespace Go.Proofs.YtgioppfoceddfaaGreat
section
open Go Go.RowKit
structure Jx (w0:World)(j:Jd)(v p pa pb:Nat)(ok:Bool)(r ra rb:Rst)(w u:World):Prop where
 g:Rg w0 j v p ok r w u
 A:Blk u pa ra.vs 80
 AR:∃ys,Blk u ra.q (zda ra.set ra.m++ys) 4
 B:Blk u pb rb.vs 80
 BR:∃ys,Blk u rb.q (zda rb.set rb.m++ys) 4
 n1:pa≠p
 n2:pb≠p
 n3:ra.q≠r.q
 n4:rb.q≠r.q
theorem Jx.kept {w0:World}{j:Jd}{v p pa pb:Nat}{ok:Bool}{r ra rb:Rst}{w u u':World}(h:Jx w0 j v p pa pb ok r ra rb w u)(hb:Below u.heap.size u u'):Jx w0 j v p pa pb ok r ra rb w u' :=
 ⟨h.g.kept hb,h.A.kept hb,by obtain⟨ys,hy⟩:=h.AR;exact⟨ys,hy.kept hb⟩,h.B.kept hb,by obtain⟨ys,hy⟩:=h.BR;exact⟨ys,hy.kept hb⟩,h.n1,h.n2,h.n3,h.n4⟩
theorem Jx.wp {w0:World}{j:Jd}{v p pa pb:Nat}{ok:Bool}{r ra rb:Rst}(r':Rst){w u u':World}(h:Jx w0 j v p pa pb ok r ra rb w u)(hq:r'.q=r.q)(hm:r'.m=r.m)(hs:r'.set=r.set)(W:WroteB u u' p r'.vs 80):Jx w0 j v p pa pb ok r' ra rb w u' :=
 ⟨h.g.wp r' hq hm hs W,W.keep h.A h.n1,by obtain⟨ys,hy⟩:=h.AR;exact⟨ys,W.keep hy (hy.ne h.g.x.S (by decide))⟩,W.keep h.B h.n2,by obtain⟨ys,hy⟩:=h.BR;exact⟨ys,W.keep hy (hy.ne h.g.x.S (by decide))⟩,h.n1,h.n2,by rw[hq];exact h.n3,by rw[hq];exact h.n4⟩
theorem Jx.wq {w0:World}{j:Jd}{v p pa pb:Nat}{ok:Bool}{r ra rb:Rst}(r':Rst){w u:World}(i:Nat)(b:Bool)(h:Jx w0 j v p pa pb ok r ra rb w u)(hi:i<r.m)(hv:r'.vs=r.vs)(hq:r'.q=r.q)(hm:r'.m=r.m)(hs:r'.set=fun k=>if k=i then b else r.set k):Jx w0 j v p pa pb ok r' ra rb w (u.setCell ⟨r.q,i,none⟩ (.bool b)):=by
 have h1:=h.g.wq r' i b hi hv hq hm hs;obtain⟨ys,hy⟩:=h.g.x.R;have W:=WroteB.cellR hy i (.bool b);exact⟨h1,W.keep h.A (h.A.ne hy (by decide)),by obtain⟨zs,hz⟩:=h.AR;exact⟨zs,W.keep hz h.n3⟩,W.keep h.B (h.B.ne hy (by decide)),by obtain⟨zs,hz⟩:=h.BR;exact⟨zs,W.keep hz h.n4⟩,h.n1,h.n2,by rw[hq];exact h.n3,by rw[hq];exact h.n4⟩
theorem Jx.ca {w0:World}{j:Jd}{v p pa pb:Nat}{ok:Bool}{r ra rb:Rst}{w u:World}(h:Jx w0 j v p pa pb ok r ra rb w u){i:Nat}(hi:i<ra.m):u.cell? ⟨ra.q,i,none⟩=some (.bool (ra.set i)):=by obtain⟨ys,hy⟩:=h.AR;exact hy.cell i (zew _ hi ys)
theorem Jx.cb {w0:World}{j:Jd}{v p pa pb:Nat}{ok:Bool}{r ra rb:Rst}{w u:World}(h:Jx w0 j v p pa pb ok r ra rb w u){i:Nat}(hi:i<rb.m):u.cell? ⟨rb.q,i,none⟩=some (.bool (rb.set i)):=by obtain⟨ys,hy⟩:=h.BR;exact hy.cell i (zew _ hi ys)
def jset (ra rb:Rst)(i:Nat):Bool:=(ra.set i||!ra.here)&&(rb.set i||!rb.here)
def jk (r ra rb:Rst)(k:Nat):Rst:={ r with set:=fun i=>if i<k then jset ra rb i else r.set i }
def Rst.bx (r:Rst)(j:Jd)(x:Int):Rst:={ r with x:=zad j.n j.g r.x x }
def Rst.ba (r:Rst)(j:Jd)(x:Int):Rst:={ r with at_:=zad j.n j.g r.at_ x }
theorem zox (R ra rb:Rst):jk R ra rb 0=R:=rfl
theorem zb7 {R ra rb:Rst}{k:Nat}{b:Bool}(h:jset ra rb k=b):(jk R ra rb (k+1)).set=fun i=>if i=k then b else (jk R ra rb k).set i:=by
 funext i
 show (if i<k+1 then jset ra rb i else R.set i)=if i=k then b else if i<k then jset ra rb i else R.set i
 by_cases e:i=k
 ·subst e;rw[if_pos (by omega),if_pos rfl,h]
 ·rw[if_neg e];by_cases e2:i<k
  ·rw[if_pos (by omega),if_pos e2]
  ·rw[if_neg (by omega),if_neg e2]
theorem zqm (w0:World)(j:Jd)(v p pa pb:Nat)(ok:Bool)(r ra rb:Rst)(w:World)(hd:Dt w0 j)(hx:Jx w0 j v p pa pb ok r ra rb w w)(hma:ra.m=r.m)(hmb:rb.m=r.m)(hm:r.m≤250) :
  Calls Tryz.prog 129 #[.pointer (some ⟨v,0,none⟩),.pointer (some ⟨p,0,none⟩),.pointer (some ⟨pa,0,none⟩),.pointer (some ⟨pb,0,none⟩),.bool false] w fun e w'=>e=.returned (.tuple #[])∧Rg w0 j v p ok (jk { ((r).bx j rb.x).ba j rb.x with here:=ra.here||rb.here } ra rb r.m) w w':=by
 have HJ0:=hid hx;have HD:=hid (show Dt w0 j∧ra.m=r.m∧rb.m=r.m∧r.m≤250 from ⟨hd,hma,hmb,hm⟩);clear hx hd hma hmb hm;go_enter Tryz.func129,Tryz.ntmps129
 go_upto_region 3 with fail
 have D0:=(Below.refl w.heap.size w).drew;have HJd0:=hid (HJ0.out.kept D0);have p2:∀x:Wd (fun q=>Blk q p (r).vs 80∧Blk q pb rb.vs 80),x.w.cell? ⟨p,1,none⟩=some (.int .i64 (r).x):=fun x=>x.2.1.cell 1 rfl;have b2:∀x:Wd (fun q=>Blk q p (r).vs 80∧Blk q pb rb.vs 80),x.w.cell? ⟨pb,1,none⟩=some (.int .i64 rb.x):=fun x=>x.2.2.cell 1 rfl;have hNE:Nonempty (Wd (fun q=>Blk q p (r).vs 80∧Blk q pb rb.vs 80)):=⟨⟨_,HJ0.out.g.x.S,HJ0.out.B⟩⟩;refine zaw (fun q=>Blk q p (r).vs 80∧Blk q pb rb.vs 80) 13 [0,1,2,3,4,5,6,7,8,9] 4 (by kernel_rfl) rfl (by kernel_rfl) ⟨HJd0.out.g.x.S,HJd0.out.B⟩ ?_;simp only[List.filterMap,zD,zE];iterate 10 go_big_quiet_step (fail)
 refine wpQuiet_nil ?_;clear p2 b2 hNE D0 HJ0;generalize w.drew=wd0 at *;refine zaj (rs:=[10]) (by kernel_rfl) (by simp) ?_;refine AllReadyL.cons rfl (fun K hK=>?_) AllReadyL.nil;rw[if_pos (by rfl)];go_simp;refine (zbu j.n j.g j.fns j.f ok v (r).x rb.x wd0 HJd0.out.g.x.W (HD.out.1.n.kept HJd0.out.g.x.bl) (HD.out.1.g.kept HJd0.out.g.x.bl)).mono ?_;rintro _ we0 ⟨rfl,hb0⟩;have HJe0:=hid (HJd0.out.kept hb0);refine hK.out _ _ (fun _=>⟨HJe0.out.g.x.S,HJe0.out.B⟩) ?_;clear hK K hb0 HJd0;refine zaj (rs:=[11]) (by kernel_rfl) (by simp) ?_;refine AllReadyL.cons rfl (fun K hK=>?_) AllReadyL.nil;rw[if_pos (by rfl)];go_simp;refine hK.out _ _ (fun _=>⟨HJe0.out.g.x.S,HJe0.out.B⟩) ?_;clear hK K;refine zaj (rs:=[12]) (by kernel_rfl) (by simp) ?_;refine AllReadyL.cons rfl (fun K hK=>?_) AllReadyL.nil;rw[if_pos (by rfl)];go_simp;refine hK.out _ _ (fun _=>⟨HJe0.out.g.x.S,HJe0.out.B⟩) ?_;clear hK K;refine zaj (rs:=[13]) (by kernel_rfl) (by simp) ?_;refine AllReadyL.cons rfl (fun K hK=>?_) AllReadyL.nil;rw[if_pos (by rfl)];have c2:=HJe0.out.g.x.cs 1 (x:=.int .i64 (r).x) rfl;have f2:=HJe0.out.g.x.S.frozen 1;have HJ1:Hid (Jx w0 j v p pa pb ok ((r).bx j rb.x) ra rb w (we0.setCell ⟨p,1,none⟩ (.int .i64 (zad j.n j.g (r).x rb.x)))):=HJe0.out.wp _ rfl rfl rfl (WroteB.cellR HJe0.out.g.x.S 1 (.int .i64 (zad j.n j.g (r).x rb.x)));go_simp;refine hK.out _ _ (fun h=>absurd rfl h) ?_;clear hK K c2 f2 HJe0;generalize we0.setCell ⟨p,1,none⟩ (.int .i64 (zad j.n j.g (r).x rb.x))=u1 at *;refine zbc (by kernel_rfl) ?_ _;refine⟨(fun c hc=>by cases hc),?_⟩;go_upto_region 4 with fail
 have D1:=(Below.refl u1.heap.size u1).drew;have HJd1:=hid (HJ1.out.kept D1);have p2:∀x:Wd (fun q=>Blk q p ((r).bx j rb.x).vs 80∧Blk q pb rb.vs 80),x.w.cell? ⟨p,0,none⟩=some (.int .i64 ((r).bx j rb.x).at_):=fun x=>x.2.1.cell 0 rfl;have b2:∀x:Wd (fun q=>Blk q p ((r).bx j rb.x).vs 80∧Blk q pb rb.vs 80),x.w.cell? ⟨pb,1,none⟩=some (.int .i64 rb.x):=fun x=>x.2.2.cell 1 rfl;have hNE:Nonempty (Wd (fun q=>Blk q p ((r).bx j rb.x).vs 80∧Blk q pb rb.vs 80)):=⟨⟨_,HJ1.out.g.x.S,HJ1.out.B⟩⟩;refine zaw (fun q=>Blk q p ((r).bx j rb.x).vs 80∧Blk q pb rb.vs 80) 13 [0,1,2,3,4,5,6,7,8,9] 4 (by kernel_rfl) rfl (by kernel_rfl) ⟨HJd1.out.g.x.S,HJd1.out.B⟩ ?_;simp only[List.filterMap,zD,zE];iterate 10 go_big_quiet_step (fail)
 refine wpQuiet_nil ?_;clear p2 b2 hNE D1 HJ1;generalize u1.drew=wd1 at *;refine zaj (rs:=[10]) (by kernel_rfl) (by simp) ?_;refine AllReadyL.cons rfl (fun K hK=>?_) AllReadyL.nil;rw[if_pos (by rfl)];go_simp;refine (zbu j.n j.g j.fns j.f ok v ((r).bx j rb.x).at_ rb.x wd1 HJd1.out.g.x.W (HD.out.1.n.kept HJd1.out.g.x.bl) (HD.out.1.g.kept HJd1.out.g.x.bl)).mono ?_;rintro _ we1 ⟨rfl,hb1⟩;have HJe1:=hid (HJd1.out.kept hb1);refine hK.out _ _ (fun _=>⟨HJe1.out.g.x.S,HJe1.out.B⟩) ?_;clear hK K hb1 HJd1;refine zaj (rs:=[11]) (by kernel_rfl) (by simp) ?_;refine AllReadyL.cons rfl (fun K hK=>?_) AllReadyL.nil;rw[if_pos (by rfl)];go_simp;refine hK.out _ _ (fun _=>⟨HJe1.out.g.x.S,HJe1.out.B⟩) ?_;clear hK K;refine zaj (rs:=[12]) (by kernel_rfl) (by simp) ?_;refine AllReadyL.cons rfl (fun K hK=>?_) AllReadyL.nil;rw[if_pos (by rfl)];go_simp;refine hK.out _ _ (fun _=>⟨HJe1.out.g.x.S,HJe1.out.B⟩) ?_;clear hK K;refine zaj (rs:=[13]) (by kernel_rfl) (by simp) ?_;refine AllReadyL.cons rfl (fun K hK=>?_) AllReadyL.nil;rw[if_pos (by rfl)];have c2:=HJe1.out.g.x.cs 0 (x:=.int .i64 ((r).bx j rb.x).at_) rfl;have f2:=HJe1.out.g.x.S.frozen 0;have HJ2:Hid (Jx w0 j v p pa pb ok (((r).bx j rb.x).ba j rb.x) ra rb w (we1.setCell ⟨p,0,none⟩ (.int .i64 (zad j.n j.g ((r).bx j rb.x).at_ rb.x)))):=HJe1.out.wp _ rfl rfl rfl (WroteB.cellR HJe1.out.g.x.S 0 (.int .i64 (zad j.n j.g ((r).bx j rb.x).at_ rb.x)));go_simp;refine hK.out _ _ (fun h=>absurd rfl h) ?_;clear hK K c2 f2 HJe1;generalize we1.setCell ⟨p,0,none⟩ (.int .i64 (zad j.n j.g ((r).bx j rb.x).at_ rb.x))=u2 at *;refine zbc (by kernel_rfl) ?_ _;refine⟨(fun c hc=>by cases hc),?_⟩;go_upto_region 5 with fail
 have a3:=HJ2.out.A.cell 3 (v:=.bool ra.here) rfl;have b3:=HJ2.out.B.cell 3 (v:=.bool rb.here) rfl;have c3:=HJ2.out.g.x.cs 3 (x:=.bool (((r).bx j rb.x).ba j rb.x).here) rfl;have f3:=HJ2.out.g.x.S.frozen 3;have HJ6:Hid (Jx w0 j v p pa pb ok { ((r).bx j rb.x).ba j rb.x with here:=ra.here||rb.here } ra rb w (u2.setCell ⟨p,3,none⟩ (.bool (ra.here||rb.here)))):=HJ2.out.wp _ rfl rfl rfl (WroteB.cellR HJ2.out.g.x.S 3 (.bool (ra.here||rb.here)));go_cut [74] (fun c wx=>Hid (Jx w0 j v p pa pb ok { ((r).bx j rb.x).ba j rb.x with here:=ra.here||rb.here } ra rb w wx))
 case first =>
  cases hh:ra.here
  ·rw[hh] at a3 HJ6;go_wp2;go_meet
   case rel=>rw[hh];exact HJ6.out
  ·rw[hh] at a3 HJ6;go_wp2;go_meet
   case rel=>rw[hh];exact HJ6.out
 case rest =>
  clear HJ6 HJ2 a3 b3 c3 f3;have HJ6:=hid hcut.out;clear hcut;generalize hR:({ ((r).bx j rb.x).ba j rb.x with here:=ra.here||rb.here }:Rst)=R at *;have HR:=hid hR;have HE:=hid (show ra.m=R.m∧rb.m=R.m∧R.m=r.m∧R.m≤250 from by rw[←hR];exact⟨HD.out.2.1,HD.out.2.2.1,rfl,HD.out.2.2.2⟩)
  clear hR;go_wp2;go_loopw [10] (fun i wr=>∃k:Nat,k≤R.m∧i=.int .i64 k∧Jx w0 j v p pa pb ok (jk R ra rb k) ra rb w wr) (fun i _=>R.m - (intOf i).toNat)
  case atStart=>exact⟨0,Nat.zero_le _,rfl,by rw[zox];exact HJ6.out⟩
  case round =>
   clear HJ6;obtain⟨k,hk,rfl,hJ⟩:=hrel;have HJ7:=hid hJ;clear hJ;have s2:=HJ7.out.g.x.cs 2 (x:=.slice (some ⟨R.q,0,none⟩) R.m R.cap) rfl;have hk9:R.m≤250:=HE.out.2.2.2;by_cases hlt:k<R.m
   ·have ij:(k:Int)<R.m:=by omega
    have a2:=HJ7.out.A.cell 2 (v:=.slice (some ⟨ra.q,0,none⟩) ra.m ra.cap) rfl;have a3:=HJ7.out.A.cell 3 (v:=.bool ra.here) rfl;have b2:=HJ7.out.B.cell 2 (v:=.slice (some ⟨rb.q,0,none⟩) rb.m rb.cap) rfl;have b3:=HJ7.out.B.cell 3 (v:=.bool rb.here) rfl;have ea:=HJ7.out.ca (show k<ra.m by have:=HE.out.1;omega)
    have eb:=HJ7.out.cb (show k<rb.m by have:=HE.out.2.1;omega)
    rw[HE.out.1] at a2;rw[HE.out.2.1] at b2;have HV:Hid (jset ra rb k=((ra.set k||!ra.here)&&(rb.set k||!rb.here))):=by show _=_;rfl
    go_upto_region 9 with fail
    generalize ra.set k=sa at *;generalize rb.set k=sb at *;generalize ra.here=ha at *;generalize rb.here=hbb at *;have q2:=fun x=>Gr.cell x s2;have qa2:=fun x=>Gr.cell x a2;have qa3:=fun x=>Gr.cell x a3;have qb2:=fun x=>Gr.cell x b2;have qb3:=fun x=>Gr.cell x b3;have qra:=fun x=>Gr.cell x ea;have qrb:=fun x=>Gr.cell x eb;have hNE:Nonempty (Gr wr):=⟨⟨_,Below.refl _ _⟩⟩;clear s2 a2 a3 b2 b3 ea eb;cases sa
    ·cases ha
     ·cases sb
      ·cases hbb
       ·refine zah 36 (by kernel_rfl) (by kernel_rfl) ?_;simp only[List.take,List.drop];iterate 36 go_big_quiet_step (fail)
        refine wpQuiet_nil ?_;rintro w8 ⟨x8,rfl⟩;have B8:=x8.bl;generalize x8.w=w8 at B8 ⊢;have HJ8:=hid (HJ7.out.kept B8);clear x8 q2 qa2 qa3 qb2 qb3 qra qrb hNE B8;have b0:w8.cell? ⟨R.q,k,none⟩=some (.bool ((jk R ra rb k).set k)):=HJ8.out.g.x.cr (show k<R.m from hlt);have f0:w8.frozen? ⟨R.q,k,none⟩=false:=HJ8.out.g.x.fr k;have HJ9:=hid (HJ8.out.wq (jk R ra rb (k+1)) k true hlt rfl rfl rfl (zb7 HV.out));go_wp2;go_roundw
        case rel=>exact⟨k+1,by omega,by go_num,HJ9.out⟩
        case measure=>simp[intOf];omega
       ·refine zah 36 (by kernel_rfl) (by kernel_rfl) ?_;simp only[List.take,List.drop];iterate 36 go_big_quiet_step (fail)
        refine wpQuiet_nil ?_;rintro w8 ⟨x8,rfl⟩;have B8:=x8.bl;generalize x8.w=w8 at B8 ⊢;have HJ8:=hid (HJ7.out.kept B8);clear x8 q2 qa2 qa3 qb2 qb3 qra qrb hNE B8;have b0:w8.cell? ⟨R.q,k,none⟩=some (.bool ((jk R ra rb k).set k)):=HJ8.out.g.x.cr (show k<R.m from hlt);have f0:w8.frozen? ⟨R.q,k,none⟩=false:=HJ8.out.g.x.fr k;have HJ9:=hid (HJ8.out.wq (jk R ra rb (k+1)) k false hlt rfl rfl rfl (zb7 HV.out));go_wp2;go_roundw
        case rel=>exact⟨k+1,by omega,by go_num,HJ9.out⟩
        case measure=>simp[intOf];omega
      ·refine zah 36 (by kernel_rfl) (by kernel_rfl) ?_;simp only[List.take,List.drop];iterate 36 go_big_quiet_step (fail)
       refine wpQuiet_nil ?_;rintro w8 ⟨x8,rfl⟩;have B8:=x8.bl;generalize x8.w=w8 at B8 ⊢;have HJ8:=hid (HJ7.out.kept B8);clear x8 q2 qa2 qa3 qb2 qb3 qra qrb hNE B8;have b0:w8.cell? ⟨R.q,k,none⟩=some (.bool ((jk R ra rb k).set k)):=HJ8.out.g.x.cr (show k<R.m from hlt);have f0:w8.frozen? ⟨R.q,k,none⟩=false:=HJ8.out.g.x.fr k;have HJ9:=hid (HJ8.out.wq (jk R ra rb (k+1)) k true hlt rfl rfl rfl (zb7 HV.out));go_wp2;go_roundw
       case rel=>exact⟨k+1,by omega,by go_num,HJ9.out⟩
       case measure=>simp[intOf];omega
     ·refine zah 36 (by kernel_rfl) (by kernel_rfl) ?_;simp only[List.take,List.drop];iterate 36 go_big_quiet_step (fail)
      refine wpQuiet_nil ?_;rintro w8 ⟨x8,rfl⟩;have B8:=x8.bl;generalize x8.w=w8 at B8 ⊢;have HJ8:=hid (HJ7.out.kept B8);clear x8 q2 qa2 qa3 qb2 qb3 qra qrb hNE B8;have b0:w8.cell? ⟨R.q,k,none⟩=some (.bool ((jk R ra rb k).set k)):=HJ8.out.g.x.cr (show k<R.m from hlt);have f0:w8.frozen? ⟨R.q,k,none⟩=false:=HJ8.out.g.x.fr k;have HJ9:=hid (HJ8.out.wq (jk R ra rb (k+1)) k false hlt rfl rfl rfl (zb7 HV.out));go_wp2;go_roundw
      case rel=>exact⟨k+1,by omega,by go_num,HJ9.out⟩
      case measure=>simp[intOf];omega
    ·cases sb
     ·cases hbb
      ·refine zah 36 (by kernel_rfl) (by kernel_rfl) ?_;simp only[List.take,List.drop];iterate 36 go_big_quiet_step (fail)
       refine wpQuiet_nil ?_;rintro w8 ⟨x8,rfl⟩;have B8:=x8.bl;generalize x8.w=w8 at B8 ⊢;have HJ8:=hid (HJ7.out.kept B8);clear x8 q2 qa2 qa3 qb2 qb3 qra qrb hNE B8;have b0:w8.cell? ⟨R.q,k,none⟩=some (.bool ((jk R ra rb k).set k)):=HJ8.out.g.x.cr (show k<R.m from hlt);have f0:w8.frozen? ⟨R.q,k,none⟩=false:=HJ8.out.g.x.fr k;have HJ9:=hid (HJ8.out.wq (jk R ra rb (k+1)) k true hlt rfl rfl rfl (zb7 HV.out));go_wp2;go_roundw
       case rel=>exact⟨k+1,by omega,by go_num,HJ9.out⟩
       case measure=>simp[intOf];omega
      ·refine zah 36 (by kernel_rfl) (by kernel_rfl) ?_;simp only[List.take,List.drop];iterate 36 go_big_quiet_step (fail)
       refine wpQuiet_nil ?_;rintro w8 ⟨x8,rfl⟩;have B8:=x8.bl;generalize x8.w=w8 at B8 ⊢;have HJ8:=hid (HJ7.out.kept B8);clear x8 q2 qa2 qa3 qb2 qb3 qra qrb hNE B8;have b0:w8.cell? ⟨R.q,k,none⟩=some (.bool ((jk R ra rb k).set k)):=HJ8.out.g.x.cr (show k<R.m from hlt);have f0:w8.frozen? ⟨R.q,k,none⟩=false:=HJ8.out.g.x.fr k;have HJ9:=hid (HJ8.out.wq (jk R ra rb (k+1)) k false hlt rfl rfl rfl (zb7 HV.out));go_wp2;go_roundw
       case rel=>exact⟨k+1,by omega,by go_num,HJ9.out⟩
       case measure=>simp[intOf];omega
     ·refine zah 36 (by kernel_rfl) (by kernel_rfl) ?_;simp only[List.take,List.drop];iterate 36 go_big_quiet_step (fail)
      refine wpQuiet_nil ?_;rintro w8 ⟨x8,rfl⟩;have B8:=x8.bl;generalize x8.w=w8 at B8 ⊢;have HJ8:=hid (HJ7.out.kept B8);clear x8 q2 qa2 qa3 qb2 qb3 qra qrb hNE B8;have b0:w8.cell? ⟨R.q,k,none⟩=some (.bool ((jk R ra rb k).set k)):=HJ8.out.g.x.cr (show k<R.m from hlt);have f0:w8.frozen? ⟨R.q,k,none⟩=false:=HJ8.out.g.x.fr k;have HJ9:=hid (HJ8.out.wq (jk R ra rb (k+1)) k true hlt rfl rfl rfl (zb7 HV.out));go_wp2;go_roundw
      case rel=>exact⟨k+1,by omega,by go_num,HJ9.out⟩
      case measure=>simp[intOf];omega
   ·have e2:k=R.m:=by omega
    subst e2;have dd:¬(R.m:Int)<R.m:=by omega
    go_wp2;go_end0;exact⟨rfl,by rw[HR.out,←HE.out.2.2.1];exact HJ7.out.g⟩
theorem zqw (w0:World)(j:Jd)(v p pa pb:Nat)(ok:Bool)(r ra rb:Rst)(w:World)(hd:Dt w0 j)(hx:Jx w0 j v p pa pb ok r ra rb w w)(hma:ra.m=r.m)(hmb:rb.m=r.m)(hm:r.m≤250) :
  Calls Tryz.prog 129 #[.pointer (some ⟨v,0,none⟩),.pointer (some ⟨p,0,none⟩),.pointer (some ⟨pa,0,none⟩),.pointer (some ⟨pb,0,none⟩),.bool true] w fun e w'=>e=.returned (.tuple #[])∧Rg w0 j v p ok (jk { (((r.bx j ra.x).ba j ra.x).bx j rb.x).ba j rb.x with here:=ra.here||rb.here } ra rb r.m) w w':=by
 have HJ0:=hid hx;have HD:=hid (show Dt w0 j∧ra.m=r.m∧rb.m=r.m∧r.m≤250 from ⟨hd,hma,hmb,hm⟩);clear hx hd hma hmb hm;go_enter Tryz.func129,Tryz.ntmps129
 go_upto_region 1 with fail
 have D0:=(Below.refl w.heap.size w).drew;have HJd0:=hid (HJ0.out.kept D0);have p2:∀x:Wd (fun q=>Blk q p (r).vs 80∧Blk q pa ra.vs 80),x.w.cell? ⟨p,1,none⟩=some (.int .i64 (r).x):=fun x=>x.2.1.cell 1 rfl;have b2:∀x:Wd (fun q=>Blk q p (r).vs 80∧Blk q pa ra.vs 80),x.w.cell? ⟨pa,1,none⟩=some (.int .i64 ra.x):=fun x=>x.2.2.cell 1 rfl;have hNE:Nonempty (Wd (fun q=>Blk q p (r).vs 80∧Blk q pa ra.vs 80)):=⟨⟨_,HJ0.out.g.x.S,HJ0.out.A⟩⟩;refine zaw (fun q=>Blk q p (r).vs 80∧Blk q pa ra.vs 80) 13 [0,1,2,3,4,5,6,7,8,9] 4 (by kernel_rfl) rfl (by kernel_rfl) ⟨HJd0.out.g.x.S,HJd0.out.A⟩ ?_;simp only[List.filterMap,zD,zE];iterate 10 go_big_quiet_step (fail)
 refine wpQuiet_nil ?_;clear p2 b2 hNE D0 HJ0;generalize w.drew=wd0 at *;refine zaj (rs:=[10]) (by kernel_rfl) (by simp) ?_;refine AllReadyL.cons rfl (fun K hK=>?_) AllReadyL.nil;rw[if_pos (by rfl)];go_simp;refine (zbu j.n j.g j.fns j.f ok v (r).x ra.x wd0 HJd0.out.g.x.W (HD.out.1.n.kept HJd0.out.g.x.bl) (HD.out.1.g.kept HJd0.out.g.x.bl)).mono ?_;rintro _ we0 ⟨rfl,hb0⟩;have HJe0:=hid (HJd0.out.kept hb0);refine hK.out _ _ (fun _=>⟨HJe0.out.g.x.S,HJe0.out.A⟩) ?_;clear hK K hb0 HJd0;refine zaj (rs:=[11]) (by kernel_rfl) (by simp) ?_;refine AllReadyL.cons rfl (fun K hK=>?_) AllReadyL.nil;rw[if_pos (by rfl)];go_simp;refine hK.out _ _ (fun _=>⟨HJe0.out.g.x.S,HJe0.out.A⟩) ?_;clear hK K;refine zaj (rs:=[12]) (by kernel_rfl) (by simp) ?_;refine AllReadyL.cons rfl (fun K hK=>?_) AllReadyL.nil;rw[if_pos (by rfl)];go_simp;refine hK.out _ _ (fun _=>⟨HJe0.out.g.x.S,HJe0.out.A⟩) ?_;clear hK K;refine zaj (rs:=[13]) (by kernel_rfl) (by simp) ?_;refine AllReadyL.cons rfl (fun K hK=>?_) AllReadyL.nil;rw[if_pos (by rfl)];have c2:=HJe0.out.g.x.cs 1 (x:=.int .i64 (r).x) rfl;have f2:=HJe0.out.g.x.S.frozen 1;have HJ1:Hid (Jx w0 j v p pa pb ok (r.bx j ra.x) ra rb w (we0.setCell ⟨p,1,none⟩ (.int .i64 (zad j.n j.g (r).x ra.x)))):=HJe0.out.wp _ rfl rfl rfl (WroteB.cellR HJe0.out.g.x.S 1 (.int .i64 (zad j.n j.g (r).x ra.x)));go_simp;refine hK.out _ _ (fun h=>absurd rfl h) ?_;clear hK K c2 f2 HJe0;generalize we0.setCell ⟨p,1,none⟩ (.int .i64 (zad j.n j.g (r).x ra.x))=u1 at *;refine zbc (by kernel_rfl) ?_ _;refine⟨(fun c hc=>by cases hc),?_⟩;go_upto_region 2 with fail
 have D1:=(Below.refl u1.heap.size u1).drew;have HJd1:=hid (HJ1.out.kept D1);have p2:∀x:Wd (fun q=>Blk q p (r.bx j ra.x).vs 80∧Blk q pa ra.vs 80),x.w.cell? ⟨p,0,none⟩=some (.int .i64 (r.bx j ra.x).at_):=fun x=>x.2.1.cell 0 rfl;have b2:∀x:Wd (fun q=>Blk q p (r.bx j ra.x).vs 80∧Blk q pa ra.vs 80),x.w.cell? ⟨pa,1,none⟩=some (.int .i64 ra.x):=fun x=>x.2.2.cell 1 rfl;have hNE:Nonempty (Wd (fun q=>Blk q p (r.bx j ra.x).vs 80∧Blk q pa ra.vs 80)):=⟨⟨_,HJ1.out.g.x.S,HJ1.out.A⟩⟩;refine zaw (fun q=>Blk q p (r.bx j ra.x).vs 80∧Blk q pa ra.vs 80) 13 [0,1,2,3,4,5,6,7,8,9] 4 (by kernel_rfl) rfl (by kernel_rfl) ⟨HJd1.out.g.x.S,HJd1.out.A⟩ ?_;simp only[List.filterMap,zD,zE];iterate 10 go_big_quiet_step (fail)
 refine wpQuiet_nil ?_;clear p2 b2 hNE D1 HJ1;generalize u1.drew=wd1 at *;refine zaj (rs:=[10]) (by kernel_rfl) (by simp) ?_;refine AllReadyL.cons rfl (fun K hK=>?_) AllReadyL.nil;rw[if_pos (by rfl)];go_simp;refine (zbu j.n j.g j.fns j.f ok v (r.bx j ra.x).at_ ra.x wd1 HJd1.out.g.x.W (HD.out.1.n.kept HJd1.out.g.x.bl) (HD.out.1.g.kept HJd1.out.g.x.bl)).mono ?_;rintro _ we1 ⟨rfl,hb1⟩;have HJe1:=hid (HJd1.out.kept hb1);refine hK.out _ _ (fun _=>⟨HJe1.out.g.x.S,HJe1.out.A⟩) ?_;clear hK K hb1 HJd1;refine zaj (rs:=[11]) (by kernel_rfl) (by simp) ?_;refine AllReadyL.cons rfl (fun K hK=>?_) AllReadyL.nil;rw[if_pos (by rfl)];go_simp;refine hK.out _ _ (fun _=>⟨HJe1.out.g.x.S,HJe1.out.A⟩) ?_;clear hK K;refine zaj (rs:=[12]) (by kernel_rfl) (by simp) ?_;refine AllReadyL.cons rfl (fun K hK=>?_) AllReadyL.nil;rw[if_pos (by rfl)];go_simp;refine hK.out _ _ (fun _=>⟨HJe1.out.g.x.S,HJe1.out.A⟩) ?_;clear hK K;refine zaj (rs:=[13]) (by kernel_rfl) (by simp) ?_;refine AllReadyL.cons rfl (fun K hK=>?_) AllReadyL.nil;rw[if_pos (by rfl)];have c2:=HJe1.out.g.x.cs 0 (x:=.int .i64 (r.bx j ra.x).at_) rfl;have f2:=HJe1.out.g.x.S.frozen 0;have HJ2:Hid (Jx w0 j v p pa pb ok ((r.bx j ra.x).ba j ra.x) ra rb w (we1.setCell ⟨p,0,none⟩ (.int .i64 (zad j.n j.g (r.bx j ra.x).at_ ra.x)))):=HJe1.out.wp _ rfl rfl rfl (WroteB.cellR HJe1.out.g.x.S 0 (.int .i64 (zad j.n j.g (r.bx j ra.x).at_ ra.x)));go_simp;refine hK.out _ _ (fun h=>absurd rfl h) ?_;clear hK K c2 f2 HJe1;generalize we1.setCell ⟨p,0,none⟩ (.int .i64 (zad j.n j.g (r.bx j ra.x).at_ ra.x))=u2 at *;refine zbc (by kernel_rfl) ?_ _;refine⟨(fun c hc=>by cases hc),?_⟩;go_upto_region 3 with fail
 have D2:=(Below.refl u2.heap.size u2).drew;have HJd2:=hid (HJ2.out.kept D2);have p2:∀x:Wd (fun q=>Blk q p ((r.bx j ra.x).ba j ra.x).vs 80∧Blk q pb rb.vs 80),x.w.cell? ⟨p,1,none⟩=some (.int .i64 ((r.bx j ra.x).ba j ra.x).x):=fun x=>x.2.1.cell 1 rfl;have b2:∀x:Wd (fun q=>Blk q p ((r.bx j ra.x).ba j ra.x).vs 80∧Blk q pb rb.vs 80),x.w.cell? ⟨pb,1,none⟩=some (.int .i64 rb.x):=fun x=>x.2.2.cell 1 rfl;have hNE:Nonempty (Wd (fun q=>Blk q p ((r.bx j ra.x).ba j ra.x).vs 80∧Blk q pb rb.vs 80)):=⟨⟨_,HJ2.out.g.x.S,HJ2.out.B⟩⟩;refine zaw (fun q=>Blk q p ((r.bx j ra.x).ba j ra.x).vs 80∧Blk q pb rb.vs 80) 13 [0,1,2,3,4,5,6,7,8,9] 4 (by kernel_rfl) rfl (by kernel_rfl) ⟨HJd2.out.g.x.S,HJd2.out.B⟩ ?_;simp only[List.filterMap,zD,zE];iterate 10 go_big_quiet_step (fail)
 refine wpQuiet_nil ?_;clear p2 b2 hNE D2 HJ2;generalize u2.drew=wd2 at *;refine zaj (rs:=[10]) (by kernel_rfl) (by simp) ?_;refine AllReadyL.cons rfl (fun K hK=>?_) AllReadyL.nil;rw[if_pos (by rfl)];go_simp;refine (zbu j.n j.g j.fns j.f ok v ((r.bx j ra.x).ba j ra.x).x rb.x wd2 HJd2.out.g.x.W (HD.out.1.n.kept HJd2.out.g.x.bl) (HD.out.1.g.kept HJd2.out.g.x.bl)).mono ?_;rintro _ we2 ⟨rfl,hb2⟩;have HJe2:=hid (HJd2.out.kept hb2);refine hK.out _ _ (fun _=>⟨HJe2.out.g.x.S,HJe2.out.B⟩) ?_;clear hK K hb2 HJd2;refine zaj (rs:=[11]) (by kernel_rfl) (by simp) ?_;refine AllReadyL.cons rfl (fun K hK=>?_) AllReadyL.nil;rw[if_pos (by rfl)];go_simp;refine hK.out _ _ (fun _=>⟨HJe2.out.g.x.S,HJe2.out.B⟩) ?_;clear hK K;refine zaj (rs:=[12]) (by kernel_rfl) (by simp) ?_;refine AllReadyL.cons rfl (fun K hK=>?_) AllReadyL.nil;rw[if_pos (by rfl)];go_simp;refine hK.out _ _ (fun _=>⟨HJe2.out.g.x.S,HJe2.out.B⟩) ?_;clear hK K;refine zaj (rs:=[13]) (by kernel_rfl) (by simp) ?_;refine AllReadyL.cons rfl (fun K hK=>?_) AllReadyL.nil;rw[if_pos (by rfl)];have c2:=HJe2.out.g.x.cs 1 (x:=.int .i64 ((r.bx j ra.x).ba j ra.x).x) rfl;have f2:=HJe2.out.g.x.S.frozen 1;have HJ3:Hid (Jx w0 j v p pa pb ok (((r.bx j ra.x).ba j ra.x).bx j rb.x) ra rb w (we2.setCell ⟨p,1,none⟩ (.int .i64 (zad j.n j.g ((r.bx j ra.x).ba j ra.x).x rb.x)))):=HJe2.out.wp _ rfl rfl rfl (WroteB.cellR HJe2.out.g.x.S 1 (.int .i64 (zad j.n j.g ((r.bx j ra.x).ba j ra.x).x rb.x)));go_simp;refine hK.out _ _ (fun h=>absurd rfl h) ?_;clear hK K c2 f2 HJe2;generalize we2.setCell ⟨p,1,none⟩ (.int .i64 (zad j.n j.g ((r.bx j ra.x).ba j ra.x).x rb.x))=u3 at *;refine zbc (by kernel_rfl) ?_ _;refine⟨(fun c hc=>by cases hc),?_⟩;go_upto_region 4 with fail
 have D3:=(Below.refl u3.heap.size u3).drew;have HJd3:=hid (HJ3.out.kept D3);have p2:∀x:Wd (fun q=>Blk q p (((r.bx j ra.x).ba j ra.x).bx j rb.x).vs 80∧Blk q pb rb.vs 80),x.w.cell? ⟨p,0,none⟩=some (.int .i64 (((r.bx j ra.x).ba j ra.x).bx j rb.x).at_):=fun x=>x.2.1.cell 0 rfl;have b2:∀x:Wd (fun q=>Blk q p (((r.bx j ra.x).ba j ra.x).bx j rb.x).vs 80∧Blk q pb rb.vs 80),x.w.cell? ⟨pb,1,none⟩=some (.int .i64 rb.x):=fun x=>x.2.2.cell 1 rfl;have hNE:Nonempty (Wd (fun q=>Blk q p (((r.bx j ra.x).ba j ra.x).bx j rb.x).vs 80∧Blk q pb rb.vs 80)):=⟨⟨_,HJ3.out.g.x.S,HJ3.out.B⟩⟩;refine zaw (fun q=>Blk q p (((r.bx j ra.x).ba j ra.x).bx j rb.x).vs 80∧Blk q pb rb.vs 80) 13 [0,1,2,3,4,5,6,7,8,9] 4 (by kernel_rfl) rfl (by kernel_rfl) ⟨HJd3.out.g.x.S,HJd3.out.B⟩ ?_;simp only[List.filterMap,zD,zE];iterate 10 go_big_quiet_step (fail)
 refine wpQuiet_nil ?_;clear p2 b2 hNE D3 HJ3;generalize u3.drew=wd3 at *;refine zaj (rs:=[10]) (by kernel_rfl) (by simp) ?_;refine AllReadyL.cons rfl (fun K hK=>?_) AllReadyL.nil;rw[if_pos (by rfl)];go_simp;refine (zbu j.n j.g j.fns j.f ok v (((r.bx j ra.x).ba j ra.x).bx j rb.x).at_ rb.x wd3 HJd3.out.g.x.W (HD.out.1.n.kept HJd3.out.g.x.bl) (HD.out.1.g.kept HJd3.out.g.x.bl)).mono ?_;rintro _ we3 ⟨rfl,hb3⟩;have HJe3:=hid (HJd3.out.kept hb3);refine hK.out _ _ (fun _=>⟨HJe3.out.g.x.S,HJe3.out.B⟩) ?_;clear hK K hb3 HJd3;refine zaj (rs:=[11]) (by kernel_rfl) (by simp) ?_;refine AllReadyL.cons rfl (fun K hK=>?_) AllReadyL.nil;rw[if_pos (by rfl)];go_simp;refine hK.out _ _ (fun _=>⟨HJe3.out.g.x.S,HJe3.out.B⟩) ?_;clear hK K;refine zaj (rs:=[12]) (by kernel_rfl) (by simp) ?_;refine AllReadyL.cons rfl (fun K hK=>?_) AllReadyL.nil;rw[if_pos (by rfl)];go_simp;refine hK.out _ _ (fun _=>⟨HJe3.out.g.x.S,HJe3.out.B⟩) ?_;clear hK K;refine zaj (rs:=[13]) (by kernel_rfl) (by simp) ?_;refine AllReadyL.cons rfl (fun K hK=>?_) AllReadyL.nil;rw[if_pos (by rfl)];have c2:=HJe3.out.g.x.cs 0 (x:=.int .i64 (((r.bx j ra.x).ba j ra.x).bx j rb.x).at_) rfl;have f2:=HJe3.out.g.x.S.frozen 0;have HJ4:Hid (Jx w0 j v p pa pb ok ((((r.bx j ra.x).ba j ra.x).bx j rb.x).ba j rb.x) ra rb w (we3.setCell ⟨p,0,none⟩ (.int .i64 (zad j.n j.g (((r.bx j ra.x).ba j ra.x).bx j rb.x).at_ rb.x)))):=HJe3.out.wp _ rfl rfl rfl (WroteB.cellR HJe3.out.g.x.S 0 (.int .i64 (zad j.n j.g (((r.bx j ra.x).ba j ra.x).bx j rb.x).at_ rb.x)));go_simp;refine hK.out _ _ (fun h=>absurd rfl h) ?_;clear hK K c2 f2 HJe3;generalize we3.setCell ⟨p,0,none⟩ (.int .i64 (zad j.n j.g (((r.bx j ra.x).ba j ra.x).bx j rb.x).at_ rb.x))=u4 at *;refine zbc (by kernel_rfl) ?_ _;refine⟨(fun c hc=>by cases hc),?_⟩;go_upto_region 5 with fail
 have a3:=HJ4.out.A.cell 3 (v:=.bool ra.here) rfl;have b3:=HJ4.out.B.cell 3 (v:=.bool rb.here) rfl;have c3:=HJ4.out.g.x.cs 3 (x:=.bool ((((r.bx j ra.x).ba j ra.x).bx j rb.x).ba j rb.x).here) rfl;have f3:=HJ4.out.g.x.S.frozen 3;have HJ6:Hid (Jx w0 j v p pa pb ok { (((r.bx j ra.x).ba j ra.x).bx j rb.x).ba j rb.x with here:=ra.here||rb.here } ra rb w (u4.setCell ⟨p,3,none⟩ (.bool (ra.here||rb.here)))):=HJ4.out.wp _ rfl rfl rfl (WroteB.cellR HJ4.out.g.x.S 3 (.bool (ra.here||rb.here)));go_cut [74] (fun c wx=>Hid (Jx w0 j v p pa pb ok { (((r.bx j ra.x).ba j ra.x).bx j rb.x).ba j rb.x with here:=ra.here||rb.here } ra rb w wx))
 case first =>
  cases hh:ra.here
  ·rw[hh] at a3 HJ6;go_wp2;go_meet
   case rel=>rw[hh];exact HJ6.out
  ·rw[hh] at a3 HJ6;go_wp2;go_meet
   case rel=>rw[hh];exact HJ6.out
 case rest =>
  clear HJ6 HJ4 a3 b3 c3 f3;have HJ6:=hid hcut.out;clear hcut;generalize hR:({ (((r.bx j ra.x).ba j ra.x).bx j rb.x).ba j rb.x with here:=ra.here||rb.here }:Rst)=R at *;have HR:=hid hR;have HE:=hid (show ra.m=R.m∧rb.m=R.m∧R.m=r.m∧R.m≤250 from by rw[←hR];exact⟨HD.out.2.1,HD.out.2.2.1,rfl,HD.out.2.2.2⟩)
  clear hR;go_wp2;go_loopw [10] (fun i wr=>∃k:Nat,k≤R.m∧i=.int .i64 k∧Jx w0 j v p pa pb ok (jk R ra rb k) ra rb w wr) (fun i _=>R.m - (intOf i).toNat)
  case atStart=>exact⟨0,Nat.zero_le _,rfl,by rw[zox];exact HJ6.out⟩
  case round =>
   clear HJ6;obtain⟨k,hk,rfl,hJ⟩:=hrel;have HJ7:=hid hJ;clear hJ;have s2:=HJ7.out.g.x.cs 2 (x:=.slice (some ⟨R.q,0,none⟩) R.m R.cap) rfl;have hk9:R.m≤250:=HE.out.2.2.2;by_cases hlt:k<R.m
   ·have ij:(k:Int)<R.m:=by omega
    have a2:=HJ7.out.A.cell 2 (v:=.slice (some ⟨ra.q,0,none⟩) ra.m ra.cap) rfl;have a3:=HJ7.out.A.cell 3 (v:=.bool ra.here) rfl;have b2:=HJ7.out.B.cell 2 (v:=.slice (some ⟨rb.q,0,none⟩) rb.m rb.cap) rfl;have b3:=HJ7.out.B.cell 3 (v:=.bool rb.here) rfl;have ea:=HJ7.out.ca (show k<ra.m by have:=HE.out.1;omega)
    have eb:=HJ7.out.cb (show k<rb.m by have:=HE.out.2.1;omega)
    rw[HE.out.1] at a2;rw[HE.out.2.1] at b2;have HV:Hid (jset ra rb k=((ra.set k||!ra.here)&&(rb.set k||!rb.here))):=by show _=_;rfl
    go_upto_region 9 with fail
    generalize ra.set k=sa at *;generalize rb.set k=sb at *;generalize ra.here=ha at *;generalize rb.here=hbb at *;have q2:=fun x=>Gr.cell x s2;have qa2:=fun x=>Gr.cell x a2;have qa3:=fun x=>Gr.cell x a3;have qb2:=fun x=>Gr.cell x b2;have qb3:=fun x=>Gr.cell x b3;have qra:=fun x=>Gr.cell x ea;have qrb:=fun x=>Gr.cell x eb;have hNE:Nonempty (Gr wr):=⟨⟨_,Below.refl _ _⟩⟩;clear s2 a2 a3 b2 b3 ea eb;cases sa
    ·cases ha
     ·cases sb
      ·cases hbb
       ·refine zah 36 (by kernel_rfl) (by kernel_rfl) ?_;simp only[List.take,List.drop];iterate 36 go_big_quiet_step (fail)
        refine wpQuiet_nil ?_;rintro w8 ⟨x8,rfl⟩;have B8:=x8.bl;generalize x8.w=w8 at B8 ⊢;have HJ8:=hid (HJ7.out.kept B8);clear x8 q2 qa2 qa3 qb2 qb3 qra qrb hNE B8;have b0:w8.cell? ⟨R.q,k,none⟩=some (.bool ((jk R ra rb k).set k)):=HJ8.out.g.x.cr (show k<R.m from hlt);have f0:w8.frozen? ⟨R.q,k,none⟩=false:=HJ8.out.g.x.fr k;have HJ9:=hid (HJ8.out.wq (jk R ra rb (k+1)) k true hlt rfl rfl rfl (zb7 HV.out));go_wp2;go_roundw
        case rel=>exact⟨k+1,by omega,by go_num,HJ9.out⟩
        case measure=>simp[intOf];omega
       ·refine zah 36 (by kernel_rfl) (by kernel_rfl) ?_;simp only[List.take,List.drop];iterate 36 go_big_quiet_step (fail)
        refine wpQuiet_nil ?_;rintro w8 ⟨x8,rfl⟩;have B8:=x8.bl;generalize x8.w=w8 at B8 ⊢;have HJ8:=hid (HJ7.out.kept B8);clear x8 q2 qa2 qa3 qb2 qb3 qra qrb hNE B8;have b0:w8.cell? ⟨R.q,k,none⟩=some (.bool ((jk R ra rb k).set k)):=HJ8.out.g.x.cr (show k<R.m from hlt);have f0:w8.frozen? ⟨R.q,k,none⟩=false:=HJ8.out.g.x.fr k;have HJ9:=hid (HJ8.out.wq (jk R ra rb (k+1)) k false hlt rfl rfl rfl (zb7 HV.out));go_wp2;go_roundw
        case rel=>exact⟨k+1,by omega,by go_num,HJ9.out⟩
        case measure=>simp[intOf];omega
      ·refine zah 36 (by kernel_rfl) (by kernel_rfl) ?_;simp only[List.take,List.drop];iterate 36 go_big_quiet_step (fail)
       refine wpQuiet_nil ?_;rintro w8 ⟨x8,rfl⟩;have B8:=x8.bl;generalize x8.w=w8 at B8 ⊢;have HJ8:=hid (HJ7.out.kept B8);clear x8 q2 qa2 qa3 qb2 qb3 qra qrb hNE B8;have b0:w8.cell? ⟨R.q,k,none⟩=some (.bool ((jk R ra rb k).set k)):=HJ8.out.g.x.cr (show k<R.m from hlt);have f0:w8.frozen? ⟨R.q,k,none⟩=false:=HJ8.out.g.x.fr k;have HJ9:=hid (HJ8.out.wq (jk R ra rb (k+1)) k true hlt rfl rfl rfl (zb7 HV.out));go_wp2;go_roundw
       case rel=>exact⟨k+1,by omega,by go_num,HJ9.out⟩
       case measure=>simp[intOf];omega
     ·refine zah 36 (by kernel_rfl) (by kernel_rfl) ?_;simp only[List.take,List.drop];iterate 36 go_big_quiet_step (fail)
      refine wpQuiet_nil ?_;rintro w8 ⟨x8,rfl⟩;have B8:=x8.bl;generalize x8.w=w8 at B8 ⊢;have HJ8:=hid (HJ7.out.kept B8);clear x8 q2 qa2 qa3 qb2 qb3 qra qrb hNE B8;have b0:w8.cell? ⟨R.q,k,none⟩=some (.bool ((jk R ra rb k).set k)):=HJ8.out.g.x.cr (show k<R.m from hlt);have f0:w8.frozen? ⟨R.q,k,none⟩=false:=HJ8.out.g.x.fr k;have HJ9:=hid (HJ8.out.wq (jk R ra rb (k+1)) k false hlt rfl rfl rfl (zb7 HV.out));go_wp2;go_roundw
      case rel=>exact⟨k+1,by omega,by go_num,HJ9.out⟩
      case measure=>simp[intOf];omega
    ·cases sb
     ·cases hbb
      ·refine zah 36 (by kernel_rfl) (by kernel_rfl) ?_;simp only[List.take,List.drop];iterate 36 go_big_quiet_step (fail)
       refine wpQuiet_nil ?_;rintro w8 ⟨x8,rfl⟩;have B8:=x8.bl;generalize x8.w=w8 at B8 ⊢;have HJ8:=hid (HJ7.out.kept B8);clear x8 q2 qa2 qa3 qb2 qb3 qra qrb hNE B8;have b0:w8.cell? ⟨R.q,k,none⟩=some (.bool ((jk R ra rb k).set k)):=HJ8.out.g.x.cr (show k<R.m from hlt);have f0:w8.frozen? ⟨R.q,k,none⟩=false:=HJ8.out.g.x.fr k;have HJ9:=hid (HJ8.out.wq (jk R ra rb (k+1)) k true hlt rfl rfl rfl (zb7 HV.out));go_wp2;go_roundw
       case rel=>exact⟨k+1,by omega,by go_num,HJ9.out⟩
       case measure=>simp[intOf];omega
      ·refine zah 36 (by kernel_rfl) (by kernel_rfl) ?_;simp only[List.take,List.drop];iterate 36 go_big_quiet_step (fail)
       refine wpQuiet_nil ?_;rintro w8 ⟨x8,rfl⟩;have B8:=x8.bl;generalize x8.w=w8 at B8 ⊢;have HJ8:=hid (HJ7.out.kept B8);clear x8 q2 qa2 qa3 qb2 qb3 qra qrb hNE B8;have b0:w8.cell? ⟨R.q,k,none⟩=some (.bool ((jk R ra rb k).set k)):=HJ8.out.g.x.cr (show k<R.m from hlt);have f0:w8.frozen? ⟨R.q,k,none⟩=false:=HJ8.out.g.x.fr k;have HJ9:=hid (HJ8.out.wq (jk R ra rb (k+1)) k false hlt rfl rfl rfl (zb7 HV.out));go_wp2;go_roundw
       case rel=>exact⟨k+1,by omega,by go_num,HJ9.out⟩
       case measure=>simp[intOf];omega
     ·refine zah 36 (by kernel_rfl) (by kernel_rfl) ?_;simp only[List.take,List.drop];iterate 36 go_big_quiet_step (fail)
      refine wpQuiet_nil ?_;rintro w8 ⟨x8,rfl⟩;have B8:=x8.bl;generalize x8.w=w8 at B8 ⊢;have HJ8:=hid (HJ7.out.kept B8);clear x8 q2 qa2 qa3 qb2 qb3 qra qrb hNE B8;have b0:w8.cell? ⟨R.q,k,none⟩=some (.bool ((jk R ra rb k).set k)):=HJ8.out.g.x.cr (show k<R.m from hlt);have f0:w8.frozen? ⟨R.q,k,none⟩=false:=HJ8.out.g.x.fr k;have HJ9:=hid (HJ8.out.wq (jk R ra rb (k+1)) k true hlt rfl rfl rfl (zb7 HV.out));go_wp2;go_roundw
      case rel=>exact⟨k+1,by omega,by go_num,HJ9.out⟩
      case measure=>simp[intOf];omega
   ·have e2:k=R.m:=by omega
    subst e2;have dd:¬(R.m:Int)<R.m:=by omega
    go_wp2;go_end0;exact⟨rfl,by rw[HR.out,←HE.out.2.2.1];exact HJ7.out.g⟩
end
end Go.Proofs.YtgioppfoceddfaaGreat
