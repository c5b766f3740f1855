import Derived.Test.YtfobijdkoeifjaaGreatDoorP10
import Derived.Test.YtfobijdkoeifjaaGreatDoorP18
import Derived.Test.YtfobijdkoeifjaaGreatDoorP2
import Derived.Deep.QuietTactic
set_option maxRecDepth 100000
set_option maxHeartbeats 32000000
namespace Go.Proofs.YtfobijdkoeifjaaGreatDoor
section
open Go Go.RowKit
structure FewR (c:Kl)(w:World)(e:Ending)(w':World):Prop where
 ret:∃b:Bool,e=.returned (.bool b)∧(b=true→c.fs.len≤70)
 bl:Below w.heap.size w w'
theorem FewR.no {c:Kl}{w w':World}(h:Below w.heap.size w w'):FewR c w (.returned (.bool false)) w':=⟨⟨false,rfl,fun h=>(by cases h)⟩,h⟩
structure Fzc (w:World)(c:Kl)(f:Cf)(BF:Nat)(u:World):Prop where
 bl:Below w.heap.size w u
 bC:Blk u w.heap.size [.slice c.n.ao c.n.len c.n.cap,.slice c.g.ao c.g.len c.g.cap,.slice c.fs.ao c.fs.len c.fs.cap] 28
 bF:Blk u BF f.vs 44
 f:f.At u
theorem Fzc.kept {w:World}{c:Kl}{f:Cf}{BF:Nat}{u u':World}(h:Fzc w c f BF u)(hb:Below u.heap.size u u'):Fzc w c f BF u':=⟨Below.next h.bl hb,h.bC.kept hb,h.bF.kept hb,Cf.At.kept hb h.f⟩
theorem zgq (c:Kl)(m:Int)(w:World)(hc:c.At w):Calls Tryz.prog 10 #[.agg #[.slice c.n.ao c.n.len c.n.cap,.slice c.g.ao c.g.len c.g.cap,.slice c.fs.ao c.fs.len c.fs.cap],.int .i64 m] w fun e w'=>FewR c w e w':=by
 have B0:=zac w (.cells #[.slice c.n.ao c.n.len c.n.cap,.slice c.g.ao c.g.len c.g.cap,.slice c.fs.ao c.fs.len c.fs.cap] 28);have b:=Blk.new w [.slice c.n.ao c.n.len c.n.cap,.slice c.g.ao c.g.len c.g.cap,.slice c.fs.ao c.fs.len c.fs.cap] 28;have c0:=b.cell 0 rfl;have c1:=b.cell 1 rfl;have c2:=b.cell 2 rfl;have hs:=zrl c.n c.g _ (hc.n.kept B0) (hc.g.kept B0);have HD:=hyd hc;have HB:=hyd (show Below w.heap.size w (w.alloc (.cells #[.slice c.n.ao c.n.len c.n.cap,.slice c.g.ao c.g.len c.g.cap,.slice c.fs.ao c.fs.len c.fs.cap] 28))∧Blk (w.alloc (.cells #[.slice c.n.ao c.n.len c.n.cap,.slice c.g.ao c.g.len c.g.cap,.slice c.fs.ao c.fs.len c.fs.cap] 28)) w.heap.size [.slice c.n.ao c.n.len c.n.cap,.slice c.g.ao c.g.len c.g.cap,.slice c.fs.ao c.fs.len c.fs.cap] 28 from ⟨B0,b⟩);have hbd:c.fs.len≤9223372036854775807:=hc.fs.bound;have hnil:0<c.fs.len→c.fs.ao=some ⟨c.fs.b,c.fs.o,none⟩:=hc.fs.nil;clear hc B0 b;generalize zdh c.n c.g=b0 at *;go_enter Tryz.func10,Tryz.ntmps10
 go_wp2_with fail
 refine hs.mono ?_;rintro _ w1 ⟨rfl,hb1⟩;have HB1:=hyd (show Below w.heap.size w w1∧Blk w1 w.heap.size [.slice c.n.ao c.n.len c.n.cap,.slice c.g.ao c.g.len c.g.cap,.slice c.fs.ao c.fs.len c.fs.cap] 28 from ⟨Below.next HB.out.1 hb1,HB.out.2.kept hb1⟩);have d2:=HB1.out.2.cell 2 rfl;clear hs c0 c1 c2 hb1 HB;cases b0
 ·go_wp2;go_ret;exact FewR.no HB1.out.1
 by_cases hl:70<c.fs.len
 ·have e1:(70:Int)<c.fs.len:=by omega
  go_wp2;go_ret;exact FewR.no HB1.out.1
 have e1:¬(70:Int)<c.fs.len:=by omega
 have HLN:=hyd (show c.fs.len≤70 by omega);have HY:Hid (∀b w',Below w.heap.size w w'→FewR c w (.returned (.bool b)) w'):=fun b w' h=>⟨⟨b,rfl,fun _=>HLN.out⟩,h⟩;go_wp2;clear d2 e1 hl;go_loopw [5,6] (fun x i wr=>∃(n:Int) (j:Nat),x=.int .i64 n∧j≤c.fs.len∧i=.int .i64 j∧Below w.heap.size w wr∧Blk wr w.heap.size [.slice c.n.ao c.n.len c.n.cap,.slice c.g.ao c.g.len c.g.cap,.slice c.fs.ao c.fs.len c.fs.cap] 28) (fun _ i _=>c.fs.len - (intOf i).toNat)
 case atStart=>exact⟨0,0,rfl,Nat.zero_le _,rfl,HB1.out.1,HB1.out.2⟩
 case round =>
  clear HB1;obtain⟨n,j,rfl,hj,rfl,hBl,hBk⟩:=hrel;have d2:=hBk.cell 2 rfl;have HB:=hyd (show Below w.heap.size w wr∧Blk wr w.heap.size _ 28 from ⟨hBl,hBk⟩);clear hBl hBk;by_cases hlt:j<c.fs.len
  ·have ij:(j:Int)<c.fs.len:=by omega
   by_cases hnm:n≤m
   ·have a0:=hnil (by omega);have r0:=zaf (HD.out.fs.row j hlt) HB.out.1;have HF:=hyd (Cf.At.kept HB.out.1 (HD.out.fs.each j hlt));rw[a0] at d2;have HA0:=hyd a0;have hHs:Hid (c.fs.ao=some ⟨c.fs.b,c.fs.o,none⟩):=a0;clear a0;generalize c.fs.x j=f at *;go_upto_region 8 with (first | (refine wpList_load_mid rfl 44 (.tmp 36) rfl c.fs.b (c.fs.o+j*18) (by kernel_rfl) f.vs _ r0 Tryz.underlying44 rfl (by kernel_rfl) ?_) | (refine zao rfl rfl 44 rfl (.tmp 7) (.tmp 37) rfl z_fn (alloc_fn _) rfl f.vs.toArray (by kernel_rfl) (by kernel_rfl) rfl (by kernel_rfl) (by simpa using f.vs_one) ?_))
    have B1:=zac wr (.cells f.vs.toArray 44);have HU:=hyd (show Fzc w c f wr.heap.size (wr.alloc (.cells f.vs.toArray 44)) from ⟨Below.next HB.out.1 B1,HB.out.2.kept B1,Blk.new wr _ _,Cf.At.kept B1 HF.out⟩);clear d2 r0 HF HB B1;generalize wr.alloc (.cells f.vs.toArray 44)=U at *;generalize wr.heap.size=BF at *;have f0:=HU.out.bF.cell 0 rfl;have f1:=HU.out.bF.cell 1 rfl;have f2:=HU.out.bF.cell 2 rfl;have f3:=HU.out.bF.cell 3 rfl;have f4:=HU.out.bF.cell 4 rfl;have f10:=HU.out.bF.cell 10 rfl;have f14:=HU.out.bF.cell 14 rfl;have f15:=HU.out.bF.cell 15 rfl;have hS1:=zeh f.p U HU.out.f.p;generalize decide (f.p.nodes≤40)=s1 at *;generalize f.vs.toArray=V at *;go_wp2_with fail
    refine hS1.mono ?_;rintro _ u1 ⟨rfl,hb1⟩;generalize wrap64 (n+wrap64 (wrap64 (wrap64 (4+(f.c.len:Int))+(f.cd.len:Int))+(f.hd.len:Int)))=n1 at *;have HU1:=hyd (HU.out.kept hb1);clear hS1 hb1 f0 f1 f2 f3 f4 f10 f14 f15 HU;cases s1
    ·go_wp2;go_ret;exact HY.out _ _ HU1.out.bl
    have f5:=HU1.out.bF.cell 5 rfl;have f6:=HU1.out.bF.cell 6 rfl;have f7:=HU1.out.bF.cell 7 rfl;have f8:=HU1.out.bF.cell 8 rfl;have f9:=HU1.out.bF.cell 9 rfl;have hS2:=zeh f.r u1 HU1.out.f.r;generalize decide (f.r.nodes≤40)=s2 at *;go_wp2_with fail
    refine hS2.mono ?_;rintro _ u2 ⟨rfl,hb2⟩;have HU2:=hyd (HU1.out.kept hb2);clear hS2 hb2 f5 f6 f7 f8 f9 HU1;cases s2
    ·go_wp2;go_ret;exact HY.out _ _ HU2.out.bl
    have f10:=HU2.out.bF.cell 10 rfl;have hS3:=zf8 f.c u2 HU2.out.f.c;generalize decide (∀i,i<f.c.len→(f.c.ps i).nodes≤40)=s3 at *;go_wp2_with fail
    refine hS3.mono ?_;rintro _ u3 ⟨rfl,hb3⟩;have HU3:=hyd (HU2.out.kept hb3);clear hS3 hb3 f10 HU2;cases s3
    ·go_wp2;go_ret;exact HY.out _ _ HU3.out.bl
    by_cases hm1:m<n1
    ·go_wp2;go_ret;exact HY.out _ _ HU3.out.bl
    go_wp2;go_loopw [8] (fun k wx=>∃(q:Nat),q≤f.cd.len∧k=.int .i64 q∧Fzc w c f BF wx) (fun k _=>f.cd.len - (intOf k).toNat)
    case atStart=>exact⟨0,Nat.zero_le _,rfl,HU3.out⟩
    case round =>
     clear HU3;obtain⟨q,hq,rfl,hZ⟩:=hrel;have HZ:=hyd hZ;have g14:=hZ.bF.cell 14 rfl;have hbq:f.cd.len≤9223372036854775807:=hZ.f.cd.bound;by_cases hql:q<f.cd.len
     ·have iq:(q:Int)<f.cd.len:=by omega
      rw[hZ.f.cd.nil (by omega)] at g14;have r2:wr.rangeAt f.cd.b (f.cd.o+q*7+2) (f.cd.x q).t.vs:=fun i v hv=>by
       have:=hZ.f.cd.row q hql (i+2) v hv;rw[show f.cd.o+q*7+2+i=f.cd.o+q*7+(i+2) by omega];exact this
      have hS:=zeh (f.cd.x q).t wr (hZ.f.cd.each q hql).t;clear hZ;generalize (f.cd.x q).t=tq at *;generalize decide (tq.nodes≤40)=sb at *;go_wp2_with (refine wpList_load_mid rfl 38 (.tmp 84) rfl f.cd.b (f.cd.o+q*7+2) (by kernel_rfl) tq.vs _ r2 Tryz.underlying38 rfl (by kernel_rfl) ?_)
      refine Calls.mono hS ?_;rintro _ v1 ⟨rfl,hb1⟩;have HZ1:=hyd (HZ.out.kept hb1);clear hS hb1 r2 g14 HZ;cases sb
      ·go_wp2;go_ret;exact HY.out _ _ HZ1.out.bl
      ·go_wp2;go_roundw
       case rel=>exact⟨q+1,by omega,by go_num,HZ1.out⟩
       case measure=>simp[intOf];omega
     ·have e2:q=f.cd.len:=by omega
      subst e2;have dj:¬(f.cd.len:Int)<f.cd.len:=by omega
      clear hZ;go_wp2;clear g14 dj;go_loopw [5,9] (fun x k wx=>∃(n2:Int) (q:Nat),x=.int .i64 n2∧q≤f.pt.len∧k=.int .i64 q∧Fzc w c f BF wx) (fun _ k _=>f.pt.len - (intOf k).toNat)
      case atStart=>exact⟨_,0,rfl,Nat.zero_le _,rfl,HZ.out⟩
      case round =>
       clear HZ;obtain⟨n2,q,rfl,hq,rfl,hZ⟩:=hrel;have HZ:=hyd hZ;have g16:=hZ.bF.cell 16 rfl;have hbq:f.pt.len≤9223372036854775807:=hZ.f.pt.bound;by_cases hql:q<f.pt.len
       ·have iq:(q:Int)<f.pt.len:=by omega
        by_cases hn2:n2≤m
        ·rw[hZ.f.pt.nil (by omega)] at g16;have r0:=hZ.f.pt.row q hql 0 _ rfl;have r1:=hZ.f.pt.row q hql 1 _ rfl;simp only[Nat.add_zero] at r0;have HP:=hyd (hZ.f.pt.each q hql);clear hZ;generalize f.pt.x q=P at *;go_upto_region 19 with fail
         go_quiet (fail)
         have HZq:=hyd (HZ.out.kept (zbf (Below.refl _ _) nq));have HPq:=hyd (Pt.At.kept (zbf (Below.refl _ _) nq) HP.out);have r0q:(wr.drewN nq).cell? ⟨f.pt.b,f.pt.o+q*3,none⟩=some (.slice P.st.ao P.st.len P.st.cap):=r0;have r1q:(wr.drewN nq).cell? ⟨f.pt.b,f.pt.o+q*3+1,none⟩=some (.slice P.sl.ao P.sl.len P.sl.cap):=r1;have g16q:(wr.drewN nq).cell? ⟨BF,16,none⟩=some (.slice (some ⟨f.pt.b,f.pt.o,none⟩) f.pt.len f.pt.cap):=g16;clear r0 r1 g16 HZ HP;generalize wr.drewN nq=W at *;generalize wrap64 (n2+wrap64 (wrap64 (2+(P.st.len:Int))+(P.sl.len:Int)))=n4 at *;by_cases hn4:n4≤m
         ·have hSa:=zf8 P.st W HPq.out.st;generalize decide (∀i,i<P.st.len→(P.st.ps i).nodes≤40)=sa at *;go_wp2_with fail
          refine Calls.mono hSa ?_;rintro _ v1 ⟨rfl,hb1⟩;have HZ1:=hyd (HZq.out.kept hb1);have HP1:=hyd (Pt.At.kept hb1 HPq.out);have r1v:=up hb1 r1q;have g16v:=up hb1 g16q;clear hSa hb1 r0q r1q g16q HZq HPq;cases sa
          ·go_wp2;go_ret;exact HY.out _ _ HZ1.out.bl
          ·have hSb:=zf8 P.sl v1 HP1.out.sl;generalize decide (∀i,i<P.sl.len→(P.sl.ps i).nodes≤40)=sb at *;go_wp2_with fail
           refine Calls.mono hSb ?_;rintro _ v2 ⟨rfl,hb2⟩;have HZ2:=hyd (HZ1.out.kept hb2);clear hSb hb2 r1v g16v HZ1 HP1;cases sb
           ·go_wp2;go_ret;exact HY.out _ _ HZ2.out.bl
           ·go_wp2;go_roundw
            case rel=>exact⟨_,q+1,rfl,by omega,by go_num,HZ2.out⟩
            case measure=>simp[intOf];omega
         ·go_wp2;go_roundw
          case rel=>exact⟨_,q+1,rfl,by omega,by go_num,HZq.out⟩
          case measure=>simp[intOf];omega
        ·clear hZ;go_wp2;clear g16;go_loopw [5,10] (fun x k wx=>∃(n3:Int) (q:Nat),x=.int .i64 n3∧q≤f.rg.len∧k=.int .i64 q∧Fzc w c f BF wx) (fun _ k _=>f.rg.len - (intOf k).toNat)
         case atStart=>exact⟨_,0,rfl,Nat.zero_le _,rfl,HZ.out⟩
         case round =>
          clear HZ;obtain⟨n3,q,rfl,hq,rfl,hZ⟩:=hrel;have HZ:=hyd hZ;have g17:=hZ.bF.cell 17 rfl;have hbq:f.rg.len≤9223372036854775807:=hZ.f.rg.bound;by_cases hql:q<f.rg.len
          ·have iq:(q:Int)<f.rg.len:=by omega
           by_cases hn3:n3≤m
           ·rw[hZ.f.rg.nil (by omega)] at g17;have r2:=hZ.f.rg.row q hql 2 _ rfl;clear hZ;go_wp2;go_roundw
            case rel=>exact⟨_,q+1,rfl,by omega,by go_num,HZ.out⟩
            case measure=>simp[intOf];omega
           ·clear hZ;go_wp2;go_roundw
            case rel=>exact⟨_,j+1,rfl,by omega,by go_num,HZ.out.bl,HZ.out.bC⟩
            case measure=>simp[intOf];omega
          ·have e2:q=f.rg.len:=by omega
           subst e2;have dj:¬(f.rg.len:Int)<f.rg.len:=by omega
           clear hZ;go_wp2;go_roundw
           case rel=>exact⟨_,j+1,rfl,by omega,by go_num,HZ.out.bl,HZ.out.bC⟩
           case measure=>simp[intOf];omega
       ·have e2:q=f.pt.len:=by omega
        subst e2;have dj:¬(f.pt.len:Int)<f.pt.len:=by omega
        clear hZ;go_wp2;clear g16 dj;go_loopw [5,10] (fun x k wx=>∃(n3:Int) (q:Nat),x=.int .i64 n3∧q≤f.rg.len∧k=.int .i64 q∧Fzc w c f BF wx) (fun _ k _=>f.rg.len - (intOf k).toNat)
        case atStart=>exact⟨_,0,rfl,Nat.zero_le _,rfl,HZ.out⟩
        case round =>
         clear HZ;obtain⟨n3,q,rfl,hq,rfl,hZ⟩:=hrel;have HZ:=hyd hZ;have g17:=hZ.bF.cell 17 rfl;have hbq:f.rg.len≤9223372036854775807:=hZ.f.rg.bound;by_cases hql:q<f.rg.len
         ·have iq:(q:Int)<f.rg.len:=by omega
          by_cases hn3:n3≤m
          ·rw[hZ.f.rg.nil (by omega)] at g17;have r2:=hZ.f.rg.row q hql 2 _ rfl;clear hZ;go_wp2;go_roundw
           case rel=>exact⟨_,q+1,rfl,by omega,by go_num,HZ.out⟩
           case measure=>simp[intOf];omega
          ·clear hZ;go_wp2;go_roundw
           case rel=>exact⟨_,j+1,rfl,by omega,by go_num,HZ.out.bl,HZ.out.bC⟩
           case measure=>simp[intOf];omega
         ·have e2:q=f.rg.len:=by omega
          subst e2;have dj:¬(f.rg.len:Int)<f.rg.len:=by omega
          clear hZ;go_wp2;go_roundw
          case rel=>exact⟨_,j+1,rfl,by omega,by go_num,HZ.out.bl,HZ.out.bC⟩
          case measure=>simp[intOf];omega
   ·go_wp2;go_ret;exact HY.out _ _ HB.out.1
  ·have e2:j=c.fs.len:=by omega
   subst e2;have dj:¬(c.fs.len:Int)<c.fs.len:=by omega
   go_wp2;go_ret;exact HY.out _ _ HB.out.1
end
end Go.Proofs.YtfobijdkoeifjaaGreatDoor
