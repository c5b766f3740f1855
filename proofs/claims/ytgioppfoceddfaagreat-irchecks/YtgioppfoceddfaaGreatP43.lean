import Derived.Test.YtgioppfoceddfaaGreatP41
import Derived.Test.YtgioppfoceddfaaGreatP32
import Derived.Test.YtgioppfoceddfaaGreatP25
import Derived.Test.YtgioppfoceddfaaGreatP29
import Derived.Test.YtgioppfoceddfaaGreatP40
import Derived.Test.YtgioppfoceddfaaGreatP10
set_option maxRecDepth 100000
set_option maxHeartbeats 32000000
namespace Go.Proofs.YtgioppfoceddfaaGreat
section
open Go Go.RowKit
structure Rm (w:World)(n:Strs)(g:Grid)(f:Fc)(u:World):Prop where
 bl:Below w.heap.size w u
 L:Blk u w.heap.size (lgV n g) 25
 F:Blk u (w.heap.size+1) f.vs 53
theorem Rm.kept {w:World}{n:Strs}{g:Grid}{f:Fc}{u u':World}(h:Rm w n g f u)(hb:Below u.heap.size u u'):Rm w n g f u':=⟨Below.next h.bl hb,h.L.kept hb,h.F.kept hb⟩
theorem zto (w:World)(n:Strs)(g:Grid)(f:Fc):Rm w n g f ((w.alloc (.cells (lgV n g).toArray 25)).alloc (.cells f.vs.toArray 53)):=by
 have H:=zar [.cells (lgV n g).toArray 25,.cells f.vs.toArray 53] w;have B0:=zap [.cells (lgV n g).toArray 25,.cells f.vs.toArray 53] w;simp only[List.foldl] at H B0;exact⟨B0,H 0 (by simp),H 1 (by simp)⟩
theorem zgr (n:Strs)(g:Grid)(s:Fl)(f:Fc)(b:Ns)(ih:∀i,i<b.len→zds n g s f (b.ps i).bd∧zds n g s f (b.ps i).el):zds n g s f b:=by
 intro w hn hg hb;have HI:=hid (zto w n g f);have HH:=hid (show n.At w∧g.At w∧b.At w from ⟨hn,hg,hb⟩);have HC:=hid ih;have hbd:=hb.bound;obtain⟨R,hR⟩:∃R,R=b.shp n g s.len f.slots.len:=⟨_,rfl⟩;rw[←hR];have HR:Hid (R=decide (∀i,i<b.len→(b.ps i).shp n g s.len f.slots.len=true)):=by show _=_;rw[hR];rfl
 clear hn hg hb ih hR;go_enter Tryz.func46,Tryz.ntmps46
 go_upto_region 1 with fail
 generalize ((w.alloc (.cells (lgV n g).toArray 25)).alloc (.cells f.vs.toArray 53))=w1 at *;go_wp2;go_loopw [9] (fun i wr=>∃k:Nat,k≤b.len∧i=.int .i64 k∧Hid (Rm w n g f wr∧∀i,i<k→(b.ps i).shp n g s.len f.slots.len=true)) (fun i _=>b.len - (intOf i).toNat)
 case atStart=>exact⟨0,by omega,rfl,⟨HI.out,fun i hi=>absurd hi (Nat.not_lt_zero _)⟩⟩
 case round =>
  clear HI;obtain⟨k,hk,rfl,hJ⟩:=hrel;have HJ:=hid hJ.out;clear hJ;by_cases hlt:k<b.len
  ·have ij:(k:Int)<b.len:=by omega
   have hao:=HH.out.2.2.nil (by omega);rw[hao];go_upto_region 4 with fail
   have r0:=fun x:Gr wr=>Gr.cell x (HJ.out.1.L.cell 0 (v:=.slice n.ao n.len n.cap) rfl);have r1:=fun x:Gr wr=>Gr.cell x (HJ.out.1.L.cell 1 (v:=.slice g.ao g.len g.cap) rfl);have hF:∀u',(∃x:Gr wr,u'=x.w)→u'.rangeAt (w.heap.size+1) 0 f.vs:=by rintro _ ⟨x,rfl⟩;exact (HJ.out.1.F.kept x.bl).range
   have hN:∀u',(∃x:Gr wr,u'=x.w)→u'.rangeAt b.b (b.o+k*14) (b.ps k).vs:=by rintro _ ⟨x,rfl⟩;exact ((HH.out.2.2.kept HJ.out.1.bl).kept x.bl).cells k hlt
   have hnd:∀q,Below wr.heap.size wr q→Calls Tryz.prog 79 #[.agg (lgV n g).toArray,.slice s.ao s.len s.cap,.agg f.vs.toArray,.agg (b.ps k).vs.toArray] q fun e w'=>e=.returned (.bool ((b.ps k).shp n g s.len f.slots.len))∧Below q.heap.size q w':=fun q hq=>zrc n g s f (b.ps k) q (HH.out.1.kept (HJ.out.1.kept hq).bl) (HH.out.2.1.kept (HJ.out.1.kept hq).bl) ((HH.out.2.2.part k hlt).kept (HJ.out.1.kept hq).bl) (HC.out k hlt).1 (HC.out k hlt).2;have hNE:Nonempty (Gr wr):=⟨⟨_,Below.refl _ _⟩⟩;clear hao;refine zag (by kernel_rfl) (by kernel_rfl) ?_;iterate 2 go_big_quiet_step (fail)
   go_big_quiet_want;refine zaa 53 (.tmp 6) rfl (w.heap.size+1) 0 (by kernel_rfl) f.vs _ hF Tryz.underlying53 rfl (by kernel_rfl) ?_;simp only[Act.put,zA,zB,zC];go_big_quiet_on;iterate 3 go_big_quiet_step (fail)
   go_big_quiet_want;refine zaa 86 (.tmp 21) rfl b.b (b.o+k*14) (by kernel_rfl) (b.ps k).vs _ hN Tryz.underlying86 rfl (by kernel_rfl) ?_;simp only[Act.put,zA,zB,zC];go_big_quiet_on;go_big_quiet_step ((go_at_call 79;exact Calls.gr _ (hnd _ (Gr.bl _))))
   iterate 1 go_big_quiet_step (fail)
   refine wpQuiet_nil ?_;rintro y1 ⟨xg,rfl⟩;have Bg:=xg.bl;generalize xg.w=y1 at Bg ⊢;have HJ2:=hid (HJ.out.1.kept Bg);clear r0 r1 hF hN hnd hNE xg Bg;cases hq:(b.ps k).shp n g s.len f.slots.len
   ·go_wp2;go_ret;exact⟨zab (by rw[HR.out,decide_eq_false (fun h=>by have:=h k hlt;rw[hq] at this;cases this)]),HJ2.out.bl⟩
   ·go_wp2;go_roundw
    case rel=>exact⟨k+1,by omega,by go_num,⟨HJ2.out,fun i hi=>by
     rcases Nat.lt_or_ge i k with h | h
     ·exact HJ.out.2 i h
     ·have e:i=k:=by omega
      subst e;exact hq⟩⟩
    case measure=>simp[intOf];omega
  ·have ek:k=b.len:=by omega
   subst ek;go_wp2;go_ret;exact⟨zab (by rw[HR.out,decide_eq_true HJ.out.2]),HJ.out.1.bl⟩
theorem zon (n:Strs)(g:Grid)(s:Fl)(f:Fc):∀nd:Nd,zds n g s f nd.bd∧zds n g s f nd.el:=by
 intro nd
 induction nd using Nd.ind with
 | h nd ih1 ih2=>exact⟨zgr n g s f _ ih1,zgr n g s f _ ih2⟩
theorem zqx (n:Strs)(g:Grid)(s:Fl)(f:Fc)(b:Ns):zds n g s f b:=zgr n g s f b fun i _=>zon n g s f (b.ps i)
theorem zij {P:Program}{md:Region.Mode}{ops:Array Oper}{C S:World→Prop}{Q:Exit→Act→World→Prop}{Q':Act→Prop}(hCS:∀w,C w→S w)(hQ:∀a w,C w→Q' a→Q .normal a w):∀(fuel:Nat) (listed:Array Bool) (a:Act) (w:World),C w→wpAnyQ P md ops C Q' fuel listed a→wpAnyH P md ops Q S fuel listed a w
 | 0,_,_,_,hw,h=>⟨h.1,hQ _ _ hw h.2⟩
 | fuel+1,_,_,_,hw,h=>⟨fun h0=>hQ _ _ hw (h.1 h0),fun i hi=>wpOp_of_qOp hw (fun a' w' hw' h'=>⟨hCS _ hw',zij hCS hQ fuel _ a' w' hw' h'⟩) (h.2 i hi)⟩
theorem zic {P:Program}{L:List Oper}{S:World→Prop}{Q:Exit→Act→World→Prop}{fuel:Nat}{listed:Array Bool}{a:Act}{w:World}(k:Nat)(hf:(L.drop k).length=fuel)(hB:(Region.noSelect L.toArray&&Region.lexFrom .any L.toArray (L.drop k).length k listed)=true)(hS:∀u,Below w.heap.size w u→S u)
  (h:wpQuiet P L.toArray (fun u=>∃x:Gr w,u=x.w) (fun a'=>∀u,(∃x:Gr w,u=x.w)→Q .normal a' u) (L.drop k) a):wpAnyH P .any L.toArray Q S fuel listed a w:=by
 rw[Bool.and_eq_true] at hB;subst hf;refine zij (C:=fun u=>∃x:Gr w,u=x.w) (Q':=fun a'=>∀u,(∃x:Gr w,u=x.w)→Q .normal a' u) (fun u hu=>by obtain⟨x,rfl⟩:=hu;exact hS _ x.bl) (fun a' u hu h'=>h' u hu) _ _ _ _ ⟨⟨_,Below.refl _ _⟩,rfl⟩ ?_
 exact wpAnyQ_lex hB.1 (L.drop k) k listed a (fun j=>by simp) hB.2 h
theorem sig_ok {n:Strs}{g:Grid}{f:Fc}{u:Ty}{w w':World}(hu:u.At w)(hf:f.At w')(h:u.same (sigT n g f)=true):okB n g u=((sigT n g f).k==4):=by
 rw[zpc hu.nd (zh2 hf) h,zi1];unfold rsT;split
 ·rename_i h1;rw[h1];rfl
 ·show okB n g (leafT 0 0)=false
  unfold okB;rw[Bool.and_eq_false_iff];exact Or.inr rfl
def shX (n:Strs)(g:Grid)(f:Fc):Bool:=(((!((sigT n g f).k==4)||decide (16<f.caps.len))||decide (250<f.slots.len))||decide (f.slots.len<1+f.caps.len))||((f.out != -1)&&!wthB f.out f.slots.len)
theorem zk9 {p q:Prop} [Decidable p] [Decidable q] (h:p↔¬q):decide p=!decide q:=by
 by_cases hq:q
 ·have hp:¬p:=fun x=>h.1 x hq;simp[hp,hq]
 ·have hp:p:=h.2 hq;simp[hp,hq]
theorem hld_eq {n:Strs}{g:Grid}{m:Int}{f:Fc}{w:World}(hf:f.At w):hldB n g m f=(!shX n g f&&((typ2 n g f&&typ3 f)&&(decide (f.body.rc 64≤4096)&&f.body.shp n g m f.slots.len))):=by
 unfold hldB zcf typ1 shX;rw[znj hf.body,zk9 (p:=16<f.caps.len) (q:=f.caps.len≤16) (by omega),zk9 (p:=250<f.slots.len) (q:=f.slots.len≤250) (by omega),zk9 (p:=f.slots.len<1+f.caps.len) (q:=1+f.caps.len≤f.slots.len) (by omega)];have e:slotsB f.slots.len [f.out]=wthB f.out f.slots.len:=by unfold slotsB;simp
 rw[e];have e2:(f.out != -1)=!(f.out==-1):=rfl;rw[e2];generalize decide (f.caps.len≤16)=b1;generalize decide (f.slots.len≤250)=b2;generalize decide (1+f.caps.len≤f.slots.len)=b3;generalize ((sigT n g f).k==4)=b4;generalize typ2 n g f=b5;generalize typ3 f=b6;generalize decide (f.body.rc 64≤4096)=b7;generalize f.body.shp n g m f.slots.len=b8;generalize (f.out==-1)=b9;generalize wthB f.out f.slots.len=b10
 revert b1 b2 b3 b4 b5 b6 b7 b8 b9 b10
 decide
theorem zop (n:Strs)(g:Grid)(s:Fl)(f:Fc)(w:World)(hn:n.At w)(hg:g.At w)(hf:f.At w):Calls Tryz.prog 21 #[.agg (lgV n g).toArray,.slice s.ao s.len s.cap,.agg f.vs.toArray] w fun e w'=>e=.returned (.bool (hldB n g s.len f))∧Below w.heap.size w w':=by
 have HI:=hid (zto w n g f);have HH:=hid (show n.At w∧g.At w∧f.At w from ⟨hn,hg,hf⟩);obtain⟨R,hR⟩:∃R,R=hldB n g s.len f:=⟨_,rfl⟩;rw[←hR];rw[hld_eq hf] at hR;have HR:=hid hR;have hbs:=hf.slots.bound;have hbc:=hf.caps.bound;clear hn hg hf hR;go_enter Tryz.func21,Tryz.ntmps21
 go_upto_region 1 with fail
 generalize ((w.alloc (.cells (lgV n g).toArray 25)).alloc (.cells f.vs.toArray 53))=w1 at *;obtain⟨X,hX⟩:∃X,X=shX n g f:=⟨_,rfl⟩;rw[←hX] at HR;have HX:=hid hX;clear hX;go_cut [48] (fun c wx=>c=.bool X∧Hid (Rm w n g f wx))
 case first =>
  have r0:∀x:Wd (fun q=>Below w1.heap.size w1 q),x.w.cell? ⟨w.heap.size,0,none⟩=some (.slice n.ao n.len n.cap):=fun x=>(HI.out.L.kept x.2).cell 0 rfl;have r1:∀x:Wd (fun q=>Below w1.heap.size w1 q),x.w.cell? ⟨w.heap.size,1,none⟩=some (.slice g.ao g.len g.cap):=fun x=>(HI.out.L.kept x.2).cell 1 rfl;have hF:∀u',(∃x:Wd (fun q=>Below w1.heap.size w1 q),u'=x.w)→u'.rangeAt (w.heap.size+1) 0 f.vs:=by rintro _ ⟨x,rfl⟩;exact (HI.out.F.kept x.2).range
  have hNE:Nonempty (Wd (fun q=>Below w1.heap.size w1 q)):=⟨⟨_,Below.refl _ _⟩⟩;refine zbi (fun q=>Below w1.heap.size w1 q) [0,1,2] 37 (by kernel_rfl) rfl (by kernel_rfl) (zeh (by kernel_rfl)) ((Below.refl _ _).drew) ?_;simp only[List.filterMap,zD,zE];iterate 2 go_big_quiet_step (fail)
  go_big_quiet_want;refine zaa 53 (.tmp 5) rfl (w.heap.size+1) 0 (by kernel_rfl) f.vs _ hF Tryz.underlying53 rfl (by kernel_rfl) ?_;simp only[Act.put,zA,zB,zC];go_big_quiet_on;refine wpQuiet_nil ?_;clear r0 r1 hF hNE;have HV0:=hid (show Below w1.heap.size w1 w1.drew from (Below.refl _ _).drew);generalize w1.drew=v0 at *;refine wpAnyH_ready (rs:=[3]) (by kernel_rfl) (by simp) ?_;refine AllReadyH.cons rfl (fun K hK=>?_) AllReadyH.nil;rw[if_pos (by rfl)];go_simp;refine (zju n g f v0 (HH.out.1.kept (HI.out.kept HV0.out).bl) (HH.out.2.1.kept (HI.out.kept HV0.out).bl) (HH.out.2.2.param.kept (HI.out.kept HV0.out).bl) (HH.out.2.2.result.kept (HI.out.kept HV0.out).bl)).mono ?_;rintro _ v1 ⟨u,rfl,hu,hsm,hb1⟩;have HV1:=hid (Below.next HV0.out hb1);have HU:=hid (show u.At v1∧okB n g u=((sigT n g f).k==4) from ⟨hu,sig_ok hu HH.out.2.2 hsm⟩);refine hK.out _ _ HV1.out (fun _=>?_);clear hK K hb1 hu hsm HV0;refine wpAnyH_ready (rs:=[4]) (by kernel_rfl) (by simp) ?_;refine AllReadyH.cons rfl (fun K hK=>?_) AllReadyH.nil;rw[if_pos (by rfl)];go_simp;refine (zco n g u v1 (HH.out.1.kept (HI.out.kept HV1.out).bl) (HH.out.2.1.kept (HI.out.kept HV1.out).bl) HU.out.1).mono ?_;rintro _ v2 ⟨rfl,hb2⟩;have HV2:=hid (Below.next HV1.out hb2);refine hK.out _ _ HV2.out (fun _=>?_);clear hK K hb2 HV1;rw[HU.out.2];clear HU;unfold shX at HX;generalize ((sigT n g f).k==4)=sk at *;have HI2:=hid (HI.out.kept HV2.out);have q10:=fun x:Gr v2=>Gr.cell x (HI2.out.F.cell 10 (v:=.slice f.caps.ao f.caps.len f.caps.cap) rfl);have q13:=fun x:Gr v2=>Gr.cell x (HI2.out.F.cell 13 (v:=.slice f.slots.ao f.slots.len f.slots.cap) rfl);have q15:=fun x:Gr v2=>Gr.cell x (HI2.out.F.cell 15 (v:=.int .i64 f.out) rfl);have hF:∀u',(∃x:Gr v2,u'=x.w)→u'.rangeAt (w.heap.size+1) 0 f.vs:=by rintro _ ⟨x,rfl⟩;exact (HI2.out.F.kept x.bl).range
  have hsl:∀q,Below v2.heap.size v2 q→Calls Tryz.prog 43 #[.agg f.vs.toArray,.int .i64 f.out] q fun e w'=>e=.returned (.bool (wthB f.out f.slots.len))∧Below q.heap.size q w':=fun q _=>zfm f _ q;have hNE:Nonempty (Gr v2):=⟨⟨_,Below.refl _ _⟩⟩;generalize wthB f.out f.slots.len=so at *;refine zic 5 rfl (by kernel_rfl) (fun u hu=>Below.next HV2.out hu) ?_;simp only[List.drop];cases sk
  ·iterate 35 go_big_quiet_step (fail)
   refine wpQuiet_nil ?_;rintro y1 ⟨xg,rfl⟩;have Bg:=xg.bl;generalize xg.w=y1 at Bg ⊢;refine⟨(fun c hc=>by cases hc),?_⟩;clear q10 q13 q15 hF hsl hNE;go_wp2;go_meet
   case rel=>exact⟨by rw[HX.out];simp,HI2.out.kept Bg⟩
  ·by_cases p1:16<f.caps.len
   ·have p1x:(f.caps.len:Int)>16:=by omega
    iterate 35 go_big_quiet_step (fail)
    refine wpQuiet_nil ?_;rintro y1 ⟨xg,rfl⟩;have Bg:=xg.bl;generalize xg.w=y1 at Bg ⊢;refine⟨(fun c hc=>by cases hc),?_⟩;clear q10 q13 q15 hF hsl hNE;go_wp2;go_meet
    case rel=>exact⟨by rw[HX.out];simp[p1],HI2.out.kept Bg⟩
   ·have p1x:¬((f.caps.len:Int)>16):=by omega
    by_cases p2:250<f.slots.len
    ·have p2x:(f.slots.len:Int)>250:=by omega
     iterate 35 go_big_quiet_step (fail)
     refine wpQuiet_nil ?_;rintro y1 ⟨xg,rfl⟩;have Bg:=xg.bl;generalize xg.w=y1 at Bg ⊢;refine⟨(fun c hc=>by cases hc),?_⟩;clear q10 q13 q15 hF hsl hNE;go_wp2;go_meet
     case rel=>exact⟨by rw[HX.out];simp[p2],HI2.out.kept Bg⟩
    ·have p2x:¬((f.slots.len:Int)>250):=by omega
     by_cases p3:f.slots.len<1+f.caps.len
     ·have p3x:(f.slots.len:Int)<1+f.caps.len:=by omega
      iterate 35 go_big_quiet_step (fail)
      refine wpQuiet_nil ?_;rintro y1 ⟨xg,rfl⟩;have Bg:=xg.bl;generalize xg.w=y1 at Bg ⊢;refine⟨(fun c hc=>by cases hc),?_⟩;clear q10 q13 q15 hF hsl hNE;go_wp2;go_meet
      case rel=>exact⟨by rw[HX.out];simp[p3],HI2.out.kept Bg⟩
     ·have p3x:¬((f.slots.len:Int)<1+f.caps.len):=by omega
      cases p4:(f.out != -1)
      ·iterate 35 go_big_quiet_step (fail)
       refine wpQuiet_nil ?_;rintro y1 ⟨xg,rfl⟩;have Bg:=xg.bl;generalize xg.w=y1 at Bg ⊢;refine⟨(fun c hc=>by cases hc),?_⟩;clear q10 q13 q15 hF hsl hNE;go_wp2;go_meet
       case rel=>exact⟨by rw[HX.out];simp[p1,p2,p3,p4],HI2.out.kept Bg⟩
      ·iterate 28 go_big_quiet_step (fail)
       go_big_quiet_want;refine zaa 53 (.tmp 5) rfl (w.heap.size+1) 0 (by kernel_rfl) f.vs _ hF Tryz.underlying53 rfl (by kernel_rfl) ?_;simp only[Act.put,zA,zB,zC];go_big_quiet_on;iterate 2 go_big_quiet_step (fail)
       go_big_quiet_step ((go_at_call 43;exact Calls.gr _ (hsl _ (Gr.bl _))))
       iterate 3 go_big_quiet_step (fail)
       refine wpQuiet_nil ?_;rintro y1 ⟨xg,rfl⟩;have Bg:=xg.bl;generalize xg.w=y1 at Bg ⊢;refine⟨(fun c hc=>by cases hc),?_⟩;clear q10 q13 q15 hF hsl hNE;go_wp2;go_meet
       case rel=>exact⟨by rw[HX.out];simp[p1,p2,p3,p4],HI2.out.kept Bg⟩
 case rest =>
  obtain⟨rfl,hI⟩:=hcut;clear HI;have HI:=hid hI.out;clear hI;cases X
  ·replace HR:Hid (R=((typ2 n g f&&typ3 f)&&(decide (f.body.rc 64≤4096)&&f.body.shp n g s.len f.slots.len))):=by show _=_;rw[HR.out];rfl
   have hL:f.caps.len≤16∧f.slots.len≤250∧1+f.caps.len≤f.slots.len:=by
    have h:=HX.out;unfold shX at h;simp only[Bool.false_eq,Bool.or_eq_false_iff,decide_eq_false_iff_not] at h;omega
   clear HX hbs hbc;go_wp2;go_loopw [7] (fun i wr=>∃k:Nat,k≤f.slots.len∧i=.int .i64 k∧Hid (Rm w n g f wr∧∀i,i<k→okB n g (f.slots.ps i)=true)) (fun i _=>f.slots.len - (intOf i).toNat)
   case atStart=>exact⟨0,by omega,rfl,⟨HI.out,fun i hi=>absurd hi (Nat.not_lt_zero _)⟩⟩
   case round =>
    clear HI;obtain⟨k,hk,rfl,hJ⟩:=hrel;have HJ:=hid hJ.out;clear hJ;have hao:=HH.out.2.2.slots.nil (by omega);have f13:wr.cell? ⟨w.heap.size+1,13,none⟩=some (.slice (some ⟨f.slots.b,f.slots.o,none⟩) f.slots.len f.slots.cap):=HJ.out.1.F.cell 13 (by rw[←hao];rfl)
    clear hao;by_cases hlt:k<f.slots.len
    ·have ij:(k:Int)<f.slots.len:=by omega
     go_upto_region 6 with fail
     have q13:=fun x:Gr wr=>Gr.cell x f13;have r0:=fun x:Gr wr=>Gr.cell x (HJ.out.1.L.cell 0 (v:=.slice n.ao n.len n.cap) rfl);have r1:=fun x:Gr wr=>Gr.cell x (HJ.out.1.L.cell 1 (v:=.slice g.ao g.len g.cap) rfl);have hC1:∀u',(∃x:Gr wr,u'=x.w)→u'.rangeAt f.slots.b (f.slots.o+k*5) (f.slots.ps k).vs:=by rintro _ ⟨x,rfl⟩;exact C5.row (((HH.out.2.2.slots.kept HJ.out.1.bl).kept x.bl).cells hlt)
     have hfm:∀q,Below wr.heap.size wr q→Calls Tryz.prog 41 #[.agg #[.slice n.ao n.len n.cap,.slice g.ao g.len g.cap],.agg (f.slots.ps k).vs.toArray] q fun e w'=>e=.returned (.bool (okB n g (f.slots.ps k)))∧Below q.heap.size q w':=fun q hq=>zco n g (f.slots.ps k) q (HH.out.1.kept (HJ.out.1.kept hq).bl) (HH.out.2.1.kept (HJ.out.1.kept hq).bl) ((HH.out.2.2.slots.part hlt).kept (HJ.out.1.kept hq).bl);have hNE:Nonempty (Gr wr):=⟨⟨_,Below.refl _ _⟩⟩;clear f13;refine zag (by kernel_rfl) (by kernel_rfl) ?_;iterate 5 go_big_quiet_step (fail)
     go_big_quiet_want;refine zaa 38 (.tmp 60) rfl f.slots.b (f.slots.o+k*5) (by kernel_rfl) (f.slots.ps k).vs _ hC1 Tryz.underlying38 rfl (by kernel_rfl) ?_;simp only[Act.put,zA,zB,zC];go_big_quiet_on;go_big_quiet_step ((go_at_call 41;exact Calls.gr _ (hfm _ (Gr.bl _))))
     iterate 1 go_big_quiet_step (fail)
     refine wpQuiet_nil ?_;rintro y1 ⟨xg,rfl⟩;have Bg:=xg.bl;generalize xg.w=y1 at Bg ⊢;have HJ2:=hid (HJ.out.1.kept Bg);clear q13 r0 r1 hC1 hfm hNE xg Bg;cases hq:okB n g (f.slots.ps k)
     ·go_wp2;go_ret;exact⟨zab (by rw[HR.out];unfold typ2;rw[decide_eq_false (fun h=>by have:=h k hlt;rw[hq] at this;cases this)];rfl),HJ2.out.bl⟩
     ·go_wp2;go_roundw
      case rel=>exact⟨k+1,by omega,by go_num,⟨HJ2.out,fun i hi=>by
       rcases Nat.lt_or_ge i k with h | h
       ·exact HJ.out.2 i h
       ·have e:i=k:=by omega
        subst e;exact hq⟩⟩
      case measure=>simp[intOf];omega
    ·have ek:k=f.slots.len:=by omega
     subst ek;have HT2:=hid (show typ2 n g f=true from decide_eq_true HJ.out.2);replace HR:Hid (R=(typ3 f&&(decide (f.body.rc 64≤4096)&&f.body.shp n g s.len f.slots.len))):=by show _=_;rw[HR.out,HT2.out];rfl
     have HI:=hid HJ.out.1;clear HJ HT2 hlt hk;go_upto_region 8 with fail
     have q13:=fun x:Gr wr=>Gr.cell x f13;have hz:(0:Int)<f.slots.len:=by omega
     have hC1:∀u',(∃x:Gr wr,u'=x.w)→u'.rangeAt f.slots.b (f.slots.o+0*5) (f.slots.ps 0).vs:=by rintro _ ⟨x,rfl⟩;exact C5.row (((HH.out.2.2.slots.kept HI.out.bl).kept x.bl).cells (by omega))
     have hC2:∀u',(∃x:Gr wr,u'=x.w)→u'.rangeAt (w.heap.size+1) 0 f.param.vs:=by
      rintro _ ⟨x,rfl⟩;have h1:=HI.out.F.kept x.bl;intro i v hv
      match i,hv with
      | 0,hv=>rw[←Option.some.inj hv];exact h1.cell 0 rfl
      | 1,hv=>rw[←Option.some.inj hv];exact h1.cell 1 rfl
      | 2,hv=>rw[←Option.some.inj hv];exact h1.cell 2 rfl
      | 3,hv=>rw[←Option.some.inj hv];exact h1.cell 3 rfl
      | 4,hv=>rw[←Option.some.inj hv];exact h1.cell 4 rfl
      | _+5,hv=>simp[Ty.vs] at hv
     have hsm:∀q,Below wr.heap.size wr q→Calls Tryz.prog 44 #[.agg (f.slots.ps 0).vs.toArray,.agg f.param.vs.toArray] q fun e w'=>e=.returned (.bool ((f.slots.ps 0).same f.param))∧Below q.heap.size q w':=fun q hq=>zhk (f.slots.ps 0) f.param q ((HH.out.2.2.slots.part (by omega)).kept (HI.out.kept hq).bl) (HH.out.2.2.param.kept (HI.out.kept hq).bl);have hNE:Nonempty (Gr wr):=⟨⟨_,Below.refl _ _⟩⟩;unfold typ3 at HR;clear f13;refine zag (by kernel_rfl) (by kernel_rfl) ?_;iterate 3 go_big_quiet_step (fail)
     go_big_quiet_want;refine zaa 38 (.tmp 66) rfl f.slots.b (f.slots.o+0*5) (by kernel_rfl) (f.slots.ps 0).vs _ hC1 Tryz.underlying38 rfl (by kernel_rfl) ?_;simp only[Act.put,zA,zB,zC];go_big_quiet_on;iterate 1 go_big_quiet_step (fail)
     go_big_quiet_want;refine zaa 38 (.tmp 68) rfl (w.heap.size+1) 0 (by kernel_rfl) f.param.vs _ hC2 Tryz.underlying38 rfl (by kernel_rfl) ?_;simp only[Act.put,zA,zB,zC];go_big_quiet_on;go_big_quiet_step ((go_at_call 44;exact Calls.gr _ (hsm _ (Gr.bl _))))
     iterate 1 go_big_quiet_step (fail)
     refine wpQuiet_nil ?_;rintro y1 ⟨xg,rfl⟩;have Bg:=xg.bl;generalize xg.w=y1 at Bg ⊢;have HI2:=hid (HI.out.kept Bg);clear q13 hC1 hC2 hsm hNE xg Bg hz HI;cases hq:(f.slots.ps 0).same f.param
     ·go_wp2;go_ret;exact⟨zab (by rw[HR.out,hq];rfl),HI2.out.bl⟩
     ·replace HR:Hid (R=(decide (∀i,i<f.caps.len→(f.slots.ps (1+i)).same (f.caps.ps i)=true)&&(decide (f.body.rc 64≤4096)&&f.body.shp n g s.len f.slots.len))):=by show _=_;rw[HR.out,hq];rfl
      go_wp2;go_loopw [8] (fun i wr=>∃k:Nat,k≤f.caps.len∧i=.int .i64 k∧Hid (Rm w n g f wr∧∀i,i<k→(f.slots.ps (1+i)).same (f.caps.ps i)=true)) (fun i _=>f.caps.len - (intOf i).toNat)
      case atStart=>exact⟨0,by omega,rfl,⟨HI2.out,fun i hi=>absurd hi (Nat.not_lt_zero _)⟩⟩
      case round =>
       clear HI2;obtain⟨k,hk,rfl,hJ⟩:=hrel;have HJ:=hid hJ.out;clear hJ;by_cases hlt:k<f.caps.len
       ·have ij:(k:Int)<f.caps.len:=by omega
        have ik:(1:Int)+(k:Int)<f.slots.len:=by omega
        have hao:=HH.out.2.2.slots.nil (by omega);have hac:=HH.out.2.2.caps.nil (by omega);have f13:wr.cell? ⟨w.heap.size+1,13,none⟩=some (.slice (some ⟨f.slots.b,f.slots.o,none⟩) f.slots.len f.slots.cap):=HJ.out.1.F.cell 13 (by rw[←hao];rfl)
        have f10:wr.cell? ⟨w.heap.size+1,10,none⟩=some (.slice (some ⟨f.caps.b,f.caps.o,none⟩) f.caps.len f.caps.cap):=HJ.out.1.F.cell 10 (by rw[←hac];rfl)
        clear hao hac;go_upto_region 13 with fail
        have q13:=fun x:Gr wr=>Gr.cell x f13;have q10:=fun x:Gr wr=>Gr.cell x f10;have hC1:∀u',(∃x:Gr wr,u'=x.w)→u'.rangeAt f.slots.b (f.slots.o+(1+k)*5) (f.slots.ps (1+k)).vs:=by rintro _ ⟨x,rfl⟩;exact C5.row (((HH.out.2.2.slots.kept HJ.out.1.bl).kept x.bl).cells (by omega))
        have hC2:∀u',(∃x:Gr wr,u'=x.w)→u'.rangeAt f.caps.b (f.caps.o+k*5) (f.caps.ps k).vs:=by rintro _ ⟨x,rfl⟩;exact C5.row (((HH.out.2.2.caps.kept HJ.out.1.bl).kept x.bl).cells hlt)
        have hsm:∀q,Below wr.heap.size wr q→Calls Tryz.prog 44 #[.agg (f.slots.ps (1+k)).vs.toArray,.agg (f.caps.ps k).vs.toArray] q fun e w'=>e=.returned (.bool ((f.slots.ps (1+k)).same (f.caps.ps k)))∧Below q.heap.size q w':=fun q hq=>zhk (f.slots.ps (1+k)) (f.caps.ps k) q ((HH.out.2.2.slots.part (by omega)).kept (HJ.out.1.kept hq).bl) ((HH.out.2.2.caps.part hlt).kept (HJ.out.1.kept hq).bl);have hNE:Nonempty (Gr wr):=⟨⟨_,Below.refl _ _⟩⟩;clear f13 f10;refine zag (by kernel_rfl) (by kernel_rfl) ?_;iterate 5 go_big_quiet_step (fail)
        go_big_quiet_want;refine zaa 38 (.tmp 83) rfl f.slots.b (f.slots.o+(1+k)*5) (by kernel_rfl) (f.slots.ps (1+k)).vs _ hC1 Tryz.underlying38 rfl (by kernel_rfl) ?_;simp only[Act.put,zA,zB,zC];go_big_quiet_on;iterate 4 go_big_quiet_step (fail)
        go_big_quiet_want;refine zaa 38 (.tmp 88) rfl f.caps.b (f.caps.o+k*5) (by kernel_rfl) (f.caps.ps k).vs _ hC2 Tryz.underlying38 rfl (by kernel_rfl) ?_;simp only[Act.put,zA,zB,zC];go_big_quiet_on;go_big_quiet_step ((go_at_call 44;exact Calls.gr _ (hsm _ (Gr.bl _))))
        iterate 1 go_big_quiet_step (fail)
        refine wpQuiet_nil ?_;rintro y1 ⟨xg,rfl⟩;have Bg:=xg.bl;generalize xg.w=y1 at Bg ⊢;have HJ2:=hid (HJ.out.1.kept Bg);clear q13 q10 hC1 hC2 hsm hNE xg Bg;cases hq2:(f.slots.ps (1+k)).same (f.caps.ps k)
        ·go_wp2;go_ret;exact⟨zab (by rw[HR.out,decide_eq_false (fun h=>by have:=h k hlt;rw[hq2] at this;cases this)];rfl),HJ2.out.bl⟩
        ·go_wp2;go_roundw
         case rel=>exact⟨k+1,by omega,by go_num,⟨HJ2.out,fun i hi=>by
          rcases Nat.lt_or_ge i k with h | h
          ·exact HJ.out.2 i h
          ·have e:i=k:=by omega
           subst e;exact hq2⟩⟩
         case measure=>simp[intOf];omega
       ·have ek:k=f.caps.len:=by omega
        subst ek;have HT3:=hid (show decide (∀i,i<f.caps.len→(f.slots.ps (1+i)).same (f.caps.ps i)=true)=true from decide_eq_true HJ.out.2);replace HR:Hid (R=(decide (f.body.rc 64≤4096)&&f.body.shp n g s.len f.slots.len)):=by show _=_;rw[HR.out,HT3.out];rfl
        have HI:=hid HJ.out.1;clear HJ HT3 hlt hk;have f14:=HI.out.F.cell 14 (v:=.slice f.body.ao f.body.len f.body.cap) rfl;have f10:=HI.out.F.cell 10 (v:=.slice f.caps.ao f.caps.len f.caps.cap) rfl;go_wp2_with fail
        refine (zpr f.body wr (HH.out.2.2.body.kept HI.out.bl)).mono ?_;rintro _ y2 ⟨rfl,hb2⟩;have HI2:=hid (HI.out.kept hb2);clear f14 f10 hb2 HI;by_cases hc:f.body.rc 64≤4096
        ·have hci:((f.body.rc 64:Nat):Int)≤4096:=by omega
         replace HR:Hid (R=f.body.shp n g s.len f.slots.len):=by show _=_;rw[HR.out,decide_eq_true hc];rfl
         have f14:=HI2.out.F.cell 14 (v:=.slice f.body.ao f.body.len f.body.cap) rfl;have l0:=HI2.out.L.cell 0 (v:=.slice n.ao n.len n.cap) rfl;have l1:=HI2.out.L.cell 1 (v:=.slice g.ao g.len g.cap) rfl;have bF:=HI2.out.F;have hc2:=zqx n g s f f.body y2 (HH.out.1.kept HI2.out.bl) (HH.out.2.1.kept HI2.out.bl) (HH.out.2.2.body.kept HI2.out.bl);generalize f.body.rc 64=rc at *;go_wp2_with (first | (refine wpList_load_mid rfl 53 (.tmp 5) rfl (w.heap.size+1) 0 (by kernel_rfl) f.vs _ bF.range Tryz.underlying53 rfl (by kernel_rfl) ?_) | (refine za0 (by kernel_rfl) 53 (.tmp 5) rfl (w.heap.size+1) 0 (by kernel_rfl) f.vs _ bF.range Tryz.underlying53 rfl (by kernel_rfl) ?_))
         refine hc2.mono ?_;rintro _ y3 ⟨rfl,hb3⟩;clear bF l0 l1 f14 hc2;go_wp2;go_ret;exact⟨zab HR.out.symm,Below.next HI2.out.bl hb3⟩
        ·have hci:¬(((f.body.rc 64:Nat):Int)≤4096):=by omega
         replace HR:Hid (R=false):=by show _=_;rw[HR.out,decide_eq_false hc];rfl
         generalize f.body.rc 64=rc at *;go_wp2;go_ret;exact⟨zab HR.out.symm,HI2.out.bl⟩
  ·go_wp2;go_ret;exact⟨zab (by rw[HR.out];rfl),HI.out.bl⟩
end
end Go.Proofs.YtgioppfoceddfaaGreat
