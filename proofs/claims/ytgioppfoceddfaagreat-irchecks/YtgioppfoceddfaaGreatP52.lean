import Derived.Test.YtgioppfoceddfaaGreatP43
import Derived.Test.YtgioppfoceddfaaGreatP51
import Derived.Test.YtgioppfoceddfaaGreatP40
import Derived.Test.YtgioppfoceddfaaGreatP25
import Derived.Test.YtgioppfoceddfaaGreatP37
set_option maxRecDepth 100000
set_option maxHeartbeats 32000000
namespace Go.Proofs.YtgioppfoceddfaaGreat
section
open Go Go.RowKit
theorem zk1 {n:Strs}{g:Grid}{m:Int}{f:Fc}(h:hldB n g m f=true):zaf n g=true:=by
 have h1:=(zd5 h).1.1;unfold zcf typ1 at h1;simp only[Bool.and_eq_true] at h1;have h2:=h1.1.1.2;rw[zi1] at h2;unfold rsT at h2;split at h2
 ·rename_i h3
  unfold okB at h3;rw[Bool.and_eq_true] at h3;exact h3.1
 ·cases h2
structure Rl (w:World)(n:Strs)(g:Grid)(u:World):Prop where
 bl:Below w.heap.size w u
 L:Blk u w.heap.size (lgV n g) 25
theorem Rl.kept {w:World}{n:Strs}{g:Grid}{u u':World}(h:Rl w n g u)(hb:Below u.heap.size u u'):Rl w n g u':=⟨Below.next h.bl hb,h.L.kept hb⟩
theorem ztm (w:World)(n:Strs)(g:Grid):Rl w n g (w.alloc (.cells #[.slice n.ao n.len n.cap,.slice g.ao g.len g.cap] 25)):=⟨zac w _,Blk.new w _ _⟩
theorem zjl (n:Strs)(g:Grid)(l:Fl)(w:World)(hn:n.At w)(hg:g.At w)(hl:l.At w):Calls Tryz.prog 10 #[.agg #[.slice n.ao n.len n.cap,.slice g.ao g.len g.cap],.slice l.ao l.len l.cap] w fun e w'=>e=.returned (.bool (shdB n g l))∧Below w.heap.size w w':=by
 have HI:=hid (ztm w n g);have HH:=hid (show n.At w∧g.At w∧l.At w from ⟨hn,hg,hl⟩);have hbd:=hl.bound;obtain⟨R,hR⟩:∃R,R=shdB n g l:=⟨_,rfl⟩;rw[←hR];have HR:Hid (R=((!(l.len==0)&&decide (l.len≤60))&&decide (∀i,i<l.len→hldB n g l.len (l.ps i)=true))):=by show _=_;rw[hR];rfl
 clear hn hg hl hR;go_enter Tryz.func10,Tryz.ntmps10
 go_upto_region 1 with fail
 generalize (w.alloc (.cells #[.slice n.ao n.len n.cap,.slice g.ao g.len g.cap] 25))=w1 at *;have l0:=HI.out.L.cell 0 (v:=.slice n.ao n.len n.cap) rfl;have l1:=HI.out.L.cell 1 (v:=.slice g.ao g.len g.cap) rfl;have hfm:=zfg n g w1 (HH.out.1.kept HI.out.bl) (HH.out.2.1.kept HI.out.bl);go_wp2_with fail
 refine hfm.mono ?_;rintro _ w2 ⟨rfl,hb2⟩;have HI2:=hid (HI.out.kept hb2);clear l0 l1 hfm hb2 HI;cases hF:zaf n g
 ·have HF:Hid (R=false):=by
   show _=_
   rw[HR.out];rcases Nat.eq_zero_or_pos l.len with h | h
   ·rw[h];rfl
   ·rw[decide_eq_false (p:=∀i,i<l.len→hldB n g l.len (l.ps i)=true) (fun hh=>by have:=zk1 (hh 0 h);rw[hF] at this;cases this),Bool.and_false]
  go_wp2;go_ret;exact⟨zab HF.out.symm,HI2.out.bl⟩
 by_cases h0:l.len=0
 ·have HF:Hid (R=false):=by show _=_;rw[HR.out,h0];rfl
  have h0x:(l.len:Int)<1:=by omega
  go_wp2;go_ret;exact⟨zab HF.out.symm,HI2.out.bl⟩
 have h0x:¬((l.len:Int)<1):=by omega
 by_cases h60:60<l.len
 ·have HF:Hid (R=false):=by show _=_;rw[HR.out,decide_eq_false (p:=l.len≤60) (by omega)];simp
  have h6x:(l.len:Int)>60:=by omega
  go_wp2;go_ret;exact⟨zab HF.out.symm,HI2.out.bl⟩
 have h6x:¬((l.len:Int)>60):=by omega
 have HF:Hid (R=decide (∀i,i<l.len→hldB n g l.len (l.ps i)=true)):=by show _=_;rw[HR.out,decide_eq_true (p:=l.len≤60) (by omega),show (l.len==0)=false by simp;omega];rfl
 clear HR;go_wp2;go_loopw [5] (fun i wr=>∃k:Nat,k≤l.len∧i=.int .i64 k∧Hid (Rl w n g wr∧∀i,i<k→hldB n g l.len (l.ps i)=true)) (fun i _=>l.len - (intOf i).toNat)
 case atStart=>exact⟨0,by omega,rfl,⟨HI2.out,fun i hi=>absurd hi (Nat.not_lt_zero _)⟩⟩
 case round =>
  clear HI2;obtain⟨k,hk,rfl,hJ⟩:=hrel;have HJ:=hid hJ.out;clear hJ;by_cases hlt:k<l.len
  ·have ij:(k:Int)<l.len:=by omega
   have hao:=HH.out.2.2.nil (by omega);rw[hao];go_upto_region 6 with fail
   have r0:=fun x:Gr wr=>Gr.cell x (HJ.out.1.L.cell 0 (v:=.slice n.ao n.len n.cap) rfl);have r1:=fun x:Gr wr=>Gr.cell x (HJ.out.1.L.cell 1 (v:=.slice g.ao g.len g.cap) rfl);have hF:∀u',(∃x:Gr wr,u'=x.w)→u'.rangeAt l.b (l.o+k*16) (l.ps k).vs:=by rintro _ ⟨x,rfl⟩;exact ((HH.out.2.2.kept HJ.out.1.bl).kept x.bl).cells k hlt
   have hnd:∀q,Below wr.heap.size wr q→Calls Tryz.prog 21 #[.agg (lgV n g).toArray,.slice (some ⟨l.b,l.o,none⟩) l.len l.cap,.agg (l.ps k).vs.toArray] q fun e w'=>e=.returned (.bool (hldB n g l.len (l.ps k)))∧Below q.heap.size q w':=fun q hq=>by
    rw[←hao];exact zop n g l (l.ps k) q (HH.out.1.kept (HJ.out.1.kept hq).bl) (HH.out.2.1.kept (HJ.out.1.kept hq).bl) ((HH.out.2.2.part k hlt).kept (HJ.out.1.kept hq).bl)
   have hNE:Nonempty (Gr wr):=⟨⟨_,Below.refl _ _⟩⟩;clear hao;refine zag (by kernel_rfl) (by kernel_rfl) ?_;iterate 5 go_big_quiet_step (fail)
   go_big_quiet_want;refine zaa 53 (.tmp 29) rfl l.b (l.o+k*16) (by kernel_rfl) (l.ps k).vs _ hF Tryz.underlying53 rfl (by kernel_rfl) ?_;simp only[Act.put,zA,zB,zC];go_big_quiet_on;go_big_quiet_step ((go_at_call 21;exact Calls.gr _ (hnd _ (Gr.bl _))))
   iterate 1 go_big_quiet_step (fail)
   refine wpQuiet_nil ?_;rintro y1 ⟨xg,rfl⟩;have Bg:=xg.bl;generalize xg.w=y1 at Bg ⊢;have HJ2:=hid (HJ.out.1.kept Bg);clear r0 r1 hF hnd hNE xg Bg;cases hq:hldB n g l.len (l.ps k)
   ·go_wp2;go_ret;exact⟨zab (by rw[HF.out,decide_eq_false (fun h=>by have:=h k hlt;rw[hq] at this;cases this)]),HJ2.out.bl⟩
   ·go_wp2;go_roundw
    case rel=>exact⟨k+1,by omega,by go_num,⟨HJ2.out,fun i hi=>by
     rcases Nat.lt_or_ge i k with h | h
     ·exact HJ.out.2 i h
     ·have e:i=k:=by omega
      subst e;exact hq⟩⟩
    case measure=>simp[intOf];omega
  ·have ek:k=l.len:=by omega
   subst ek;go_wp2;go_ret;exact⟨zab (by rw[HF.out,decide_eq_true HJ.out.2]),HJ.out.1.bl⟩
theorem shd_kn {n:Strs}{g:Grid}{l:Fl}{w:World}(hs:shdB n g l=true)(hn:n.At w)(hg:g.At w)(hl:l.At w){k:Nat}(hk:k<l.len):Kn w (jdg n g l k):=by
 have hp:=zd5 (zf6 hs hk);exact⟨⟨hn,hg,hl,hl.part k hk⟩,rfl,hp.2.2.1,by show 0<(l.ps k).slots.len;have:=hp.2.2.2;omega,zk1 (zf6 hs hk)⟩
theorem zqg (n:Strs)(g:Grid)(l:Fl)(w:World)(hn:n.At w)(hg:g.At w)(hl:l.At w):Calls Tryz.prog 7 #[.agg #[.slice n.ao n.len n.cap,.slice g.ao g.len g.cap],.slice l.ao l.len l.cap] w fun e w'=>∃x y:Int,e=.returned (.tuple #[.int .i64 x,.int .i64 y])∧ChkR n g l x y∧Below w.heap.size w w':=by
 have HI:=hid (ztm w n g);have HH:=hid (show n.At w∧g.At w∧l.At w from ⟨hn,hg,hl⟩);have hbd:=hl.bound;clear hn hg hl;go_enter Tryz.func7,Tryz.ntmps7
 go_upto_region 1 with fail
 generalize (w.alloc (.cells #[.slice n.ao n.len n.cap,.slice g.ao g.len g.cap] 25))=w1 at *;have l0:=HI.out.L.cell 0 (v:=.slice n.ao n.len n.cap) rfl;have l1:=HI.out.L.cell 1 (v:=.slice g.ao g.len g.cap) rfl;have hsh:=zjl n g l w1 (HH.out.1.kept HI.out.bl) (HH.out.2.1.kept HI.out.bl) (HH.out.2.2.kept HI.out.bl);go_wp2_with fail
 refine hsh.mono ?_;rintro _ w2 ⟨rfl,hb2⟩;have HI2:=hid (HI.out.kept hb2);clear l0 l1 hsh hb2 HI;cases hS:shdB n g l
 ·go_wp2;exact bodyPost_ret (v:=.tuple #[.int .i64 (-1),.int .i64 9]) (by simp[results,Tryz.results7,go_sem]) rfl ⟨-1,9,rfl,Or.inl ⟨hS,rfl,rfl⟩,HI2.out.bl⟩
 ·have HS:=hid hS;clear hS;go_wp2;go_loopw [6] (fun i wr=>∃k:Nat,k≤l.len∧i=.int .i64 k∧Hid (Rl w n g wr∧∀i,i<k→(jdg n g l i).right=true)) (fun i _=>l.len - (intOf i).toNat)
  case atStart=>exact⟨0,by omega,rfl,⟨HI2.out,fun i hi=>absurd hi (Nat.not_lt_zero _)⟩⟩
  case round =>
   clear HI2;obtain⟨k,hk,rfl,hJ⟩:=hrel;have HJ:=hid hJ.out;clear hJ;by_cases hlt:k<l.len
   ·have ij:(k:Int)<l.len:=by omega
    have hp:=zd5 (zf6 HS.out hlt);have hr:=zqs n g l k wr hlt (shd_kn HS.out (HH.out.1.kept HJ.out.1.bl) (HH.out.2.1.kept HJ.out.1.bl) (HH.out.2.2.kept HJ.out.1.bl) hlt) (HH.out.2.2.kept HJ.out.1.bl) hp.1.2.2 hp.2.2.2 hp.2.1;clear hp;have l0:=HJ.out.1.L.cell 0 (v:=.slice n.ao n.len n.cap) rfl;have l1:=HJ.out.1.L.cell 1 (v:=.slice g.ao g.len g.cap) rfl;go_wp2_with fail
    refine hr.mono ?_;rintro _ y1 ⟨rfl,hb1⟩;have HJ2:=hid (HJ.out.1.kept hb1);clear l0 l1 hr hb1;cases hq:(jdg n g l k).right
    ·go_wp2;exact bodyPost_ret (v:=.tuple #[.int .i64 k,.int .i64 11]) (by simp[results,Tryz.results7,go_sem]) rfl ⟨k,11,rfl,Or.inr (Or.inl ⟨HS.out,k,hlt,HJ.out.2,hq,rfl,rfl⟩),HJ2.out.bl⟩
    ·go_wp2;go_roundw
     case rel=>exact⟨k+1,by omega,by go_num,⟨HJ2.out,fun i hi=>by
      rcases Nat.lt_or_ge i k with h | h
      ·exact HJ.out.2 i h
      ·have e:i=k:=by omega
       subst e;exact hq⟩⟩
     case measure=>simp[intOf];omega
   ·have ek:k=l.len:=by omega
    subst ek;go_wp2;exact bodyPost_ret (v:=.tuple #[.int .i64 0,.int .i64 0]) (by simp[results,Tryz.results7,go_sem]) rfl ⟨0,0,rfl,Or.inr (Or.inr ⟨HS.out,HJ.out.2,rfl,rfl⟩),HJ.out.1.bl⟩
structure Lc (w:World)(n:Strs)(g:Grid)(l:Fl)(u:World):Prop where
 bl:Below w.heap.size w u
 L:Blk u w.heap.size [.slice n.ao n.len n.cap,.slice g.ao g.len g.cap] 25
 hn:n.At u
 hg:g.At u
 hl:l.At u
theorem Lc.kept {w:World}{n:Strs}{g:Grid}{l:Fl}{u u':World}(h:Lc w n g l u)(hb:Below u.heap.size u u'):Lc w n g l u':=⟨Below.next h.bl hb,h.L.kept hb,h.hn.kept hb,h.hg.kept hb,h.hl.kept hb⟩
theorem znz (n:Strs)(g:Grid)(l:Fl)(w:World)(hn:n.At w)(hg:g.At w)(hl:l.At w) :
  Calls Tryz.prog 3 #[.agg #[.slice n.ao n.len n.cap,.slice g.ao g.len g.cap],.slice l.ao l.len l.cap] w fun e w'=>e=.returned (.bool true)∧Below w.heap.size w w':=by
 have b0:=zac w (.cells #[.slice n.ao n.len n.cap,.slice g.ao g.len g.cap] 25);have HI:=hid (show Lc w n g l _ from ⟨b0,Blk.new w _ _,hn.kept b0,hg.kept b0,hl.kept b0⟩);clear hn hg hl b0;go_enter Tryz.func3,Tryz.ntmps3
 go_upto_region 1 with fail
 generalize (w.alloc (.cells #[.slice n.ao n.len n.cap,.slice g.ao g.len g.cap] 25))=w1 at *;go_cut [16] (fun c wx=>∃r:Bool,c=.bool r∧Hid (r=false→(l.len≤70∧∀i,i<l.len→(l.ps i).caps.len≤30∧(l.ps i).body.szd))∧Hid (Lc w n g l wx))
 case first =>
  go_wp2_with fail
  refine Calls.mono (zjk w1) ?_;rintro _ w2 ⟨rfl,hb2⟩;have HI2:=hid (HI.out.kept hb2);clear hb2 HI;have e0:=HI2.out.L.cell 0 rfl;have e1:=HI2.out.L.cell 1 rfl;go_wp2_with fail
  refine Calls.mono (zvd n g l w2 HI2.out.hn HI2.out.hg HI2.out.hl) ?_;rintro _ w3 ⟨r1,rfl,hr1,hb3⟩;have HI3:=hid (HI2.out.kept hb3);have HR1:=hid hr1;clear hb3 HI2 hr1 e0 e1;cases r1
  ·go_wp2;go_meet
   case rel=>exact⟨_,rfl,(fun h=>by cases h),HI3.out⟩
  ·have HC:=hid (HR1.out rfl);clear HR1;go_wp2;go_meet
   case rel=>exact⟨_,rfl,(fun _=>HC.out),HI3.out⟩
 case rest =>
  obtain⟨r,rfl,hr,hI⟩:=hcut;clear HI;have HI:=hid hI.out;clear hI;cases r
  ·have HC:=hid (hr.out rfl);clear hr;have e0:=HI.out.L.cell 0 (v:=.slice n.ao n.len n.cap) rfl;have e1:=HI.out.L.cell 1 (v:=.slice g.ao g.len g.cap) rfl;have hck:=zq3 n g l wc HI.out.hn HI.out.hg HI.out.hl (fun i hi=>by have:=(HC.out.2 i hi).1;omega)
   go_upto_region 3 with fail
   go_wp2_with fail
   refine hck.mono ?_;rintro _ w4 ⟨x,y,rfl,hxy,hb4⟩;have HI4:=hid (HI.out.kept hb4);have HXY:=hid hxy;clear hck hxy hb4 HI e0 e1;go_upto_region 4 with fail
   have r0:∀x:Wd (fun q=>Below w4.heap.size w4 q),x.w.cell? ⟨w.heap.size,0,none⟩=some (.slice n.ao n.len n.cap):=fun x=>(HI4.out.L.kept x.2).cell 0 rfl;have r1:∀x:Wd (fun q=>Below w4.heap.size w4 q),x.w.cell? ⟨w.heap.size,1,none⟩=some (.slice g.ao g.len g.cap):=fun x=>(HI4.out.L.kept x.2).cell 1 rfl;have hNE:Nonempty (Wd (fun q=>Below w4.heap.size w4 q)):=⟨⟨_,Below.refl _ _⟩⟩;refine zbi (fun q=>Below w4.heap.size w4 q) [0,1] 7 (by kernel_rfl) rfl (by kernel_rfl) (zeh (by kernel_rfl)) ((Below.refl _ _).drew) ?_;simp only[List.filterMap,zD,zE];iterate 2 go_big_quiet_step (fail)
   refine wpQuiet_nil ?_;clear r0 r1 hNE;have HV0:=hid (show Below w4.heap.size w4 w4.drew from (Below.refl _ _).drew);generalize w4.drew=v0 at *;refine wpAnyH_ready (rs:=[2]) (by kernel_rfl) (by simp) ?_;refine AllReadyH.cons rfl (fun K hK=>?_) AllReadyH.nil;rw[if_pos (by rfl)];go_simp;refine (zkm l v0 (HI4.out.kept HV0.out).hl HC.out.1 (fun i hi=>(HC.out.2 i hi).2)).mono ?_;rintro _ v1 ⟨s,rfl,hp,hb1⟩;have HV1:=hid (Below.next HV0.out hb1);have HP:=hid (show s.At v1∧s.len=l.len∧(∀i,i<l.len→FeV (l.ps i) (s.ps i))∧l.At v0 from ⟨zno (HI4.out.kept HV0.out).hl hb1 hp,hp.len,hp.eq,(HI4.out.kept HV0.out).hl⟩);refine hK.out _ _ HV1.out (fun _=>?_);clear hK K hb1 hp HV0;refine wpAnyH_ready (rs:=[3]) (by kernel_rfl) (by simp) ?_;refine AllReadyH.cons rfl (fun K hK=>?_) AllReadyH.nil;rw[if_pos (by rfl)];go_simp;refine (zqg n g s v1 (HI4.out.kept HV1.out).hn (HI4.out.kept HV1.out).hg HP.out.1).mono ?_;rintro _ v2 ⟨x',y',rfl,hxy',hb2⟩;have HV2:=hid (Below.next HV1.out hb2);have HE:=hid (zw8 HXY.out (zxf HP.out.2.2.2 HP.out.1 HP.out.2.1 HP.out.2.2.1 hxy'));refine hK.out _ _ HV2.out (fun _=>?_);clear hK K hb2 hxy' HV1 HP;obtain⟨ex,ey⟩:=HE.out;subst ex;subst ey;clear HE;have hNE:Nonempty (Gr v2):=⟨⟨_,Below.refl _ _⟩⟩;refine zic 4 rfl (by kernel_rfl) (fun u hu=>Below.next HV2.out hu) ?_;simp only[List.drop];iterate 5 go_big_quiet_step (fail)
   refine wpQuiet_nil ?_;rintro y1 ⟨xg,rfl⟩;have Bg:=xg.bl;generalize xg.w=y1 at Bg ⊢;refine⟨(fun c hc=>by cases hc),?_⟩;have HI5:=hid (HI4.out.kept (Below.next HV2.out Bg));clear Bg xg hNE HV2 HI4 HXY;go_upto_region 5 with fail
   have r0:∀x:Wd (fun q=>Below y1.heap.size y1 q),x.w.cell? ⟨w.heap.size,0,none⟩=some (.slice n.ao n.len n.cap):=fun x=>(HI5.out.L.kept x.2).cell 0 rfl;have r1:∀x:Wd (fun q=>Below y1.heap.size y1 q),x.w.cell? ⟨w.heap.size,1,none⟩=some (.slice g.ao g.len g.cap):=fun x=>(HI5.out.L.kept x.2).cell 1 rfl;have hNE:Nonempty (Wd (fun q=>Below y1.heap.size y1 q)):=⟨⟨_,Below.refl _ _⟩⟩;have dx:(x==x)=true:=by simp
   have dy:(y==y)=true:=by simp
   refine zbi (fun q=>Below y1.heap.size y1 q) [0,1,2,3,4,5,6,7,8,9,10,12,13] 6 (by kernel_rfl) rfl (by kernel_rfl) (zeh (by kernel_rfl)) ((Below.refl _ _).drew) ?_;simp only[List.filterMap,zD,zE];iterate 13 go_big_quiet_step (fail)
   refine wpQuiet_nil ?_;clear r0 r1 hNE dx dy;have HV0:=hid (show Below y1.heap.size y1 y1.drew from (Below.refl _ _).drew);generalize y1.drew=v0 at *;refine wpAnyH_ready (rs:=[11]) (by kernel_rfl) (by simp) ?_;refine AllReadyH.cons rfl (fun K hK=>?_) AllReadyH.nil;rw[if_pos (by rfl)];go_simp;refine (zj5 n g l v0 (HI5.out.kept HV0.out).hn (HI5.out.kept HV0.out).hg (HI5.out.kept HV0.out).hl (fun i hi=>by have:=(HC.out.2 i hi).1;omega)).mono ?_
   rintro _ v1 ⟨rfl,hb1⟩;have HV1:=hid (Below.next HV0.out hb1);refine hK.out _ _ HV1.out (fun _=>?_);clear hK K hb1 HV0;refine wpAnyH_ready (rs:=[14]) (by kernel_rfl) (by simp) ?_;refine AllReadyH.cons rfl (fun K hK=>?_) AllReadyH.nil;rw[if_pos (by rfl)];go_simp;refine (zkm l v1 (HI5.out.kept HV1.out).hl HC.out.1 (fun i hi=>(HC.out.2 i hi).2)).mono ?_;rintro _ v3 ⟨s,rfl,hp,hb1⟩;have HV3:=hid (Below.next HV1.out hb1);have HP:=hid (show s.At v3∧shdB n g s=shdB n g l from ⟨zno (HI5.out.kept HV1.out).hl hb1 hp,zpi (HI5.out.kept HV1.out).hl (zno (HI5.out.kept HV1.out).hl hb1 hp) hp.len hp.eq⟩);refine hK.out _ _ HV3.out (fun _=>?_);clear hK K hb1 hp HV1;refine wpAnyH_ready (rs:=[15]) (by kernel_rfl) (by simp) ?_;refine AllReadyH.cons rfl (fun K hK=>?_) AllReadyH.nil;rw[if_pos (by rfl)];go_simp;refine (zjl n g s v3 (HI5.out.kept HV3.out).hn (HI5.out.kept HV3.out).hg HP.out.1).mono ?_;rintro _ v4 ⟨rfl,hb1⟩;have HV4:=hid (Below.next HV3.out hb1);refine hK.out _ _ HV4.out (fun _=>?_);clear hK K hb1 HV3;rw[HP.out.2];clear HP;generalize shdB n g l=sb at *;have hNE:Nonempty (Gr v4):=⟨⟨_,Below.refl _ _⟩⟩;have db:(sb==sb)=true:=by simp
   refine zic 16 rfl (by kernel_rfl) (fun u hu=>Below.next HV4.out hu) ?_;simp only[List.drop];iterate 3 go_big_quiet_step (fail)
   refine wpQuiet_nil ?_;rintro y2 ⟨xg,rfl⟩;have Bg:=xg.bl;generalize xg.w=y2 at Bg ⊢;refine⟨(fun c hc=>by cases hc),?_⟩;go_wp2;go_ret;exact⟨zab (by simp),Below.next HI5.out.bl (Below.next HV4.out Bg)⟩
  ·go_wp2_with fail
   refine (zjk wc).mono ?_;rintro _ w2 ⟨rfl,hb2⟩;go_wp2;go_ret;exact⟨rfl,Below.next HI.out.bl hb2⟩
end
end Go.Proofs.YtgioppfoceddfaaGreat
