import Derived.Test.YtfobijdkoeifjaaGreatDoorP26
import Derived.Test.YtfobijdkoeifjaaGreatDoorP37
import Derived.Test.YtfobijdkoeifjaaGreatDoorP12
import Derived.Test.YtfobijdkoeifjaaGreatDoorP36
import Derived.Test.YtfobijdkoeifjaaGreatDoorP14
import Derived.Deep.CutBlock
import Derived.Deep.DeepCutAuto
import Derived.BigQuiet
import Derived.Test.YtfobijdkoeifjaaGreatDoorP38
set_option maxRecDepth 100000
set_option maxHeartbeats 32000000
namespace Go.Proofs.YtfobijdkoeifjaaGreatDoor
section
open Go Go.RowKit
def zJd:List Value:=[.slice none 0 0,.slice none 0 0,.slice none 0 0]++(z_fn++[.int .i64 0,.slice none 0 0])
theorem alloc_jd (w:World):(Instr.alloc 78 true (.tuple #[])).run Tryz.prog w=.ok (.pointer (some ⟨w.heap.size,0,none⟩)) (w.alloc (.cells zJd.toArray 78)):=by
 have hz:(Tryz.prog.info? 78).map (·.zero)=some (some (.agg zJd.toArray)):=by kernel_rfl
 cases hq:Tryz.prog.info? 78 with
 | none=>rw[hq] at hz;simp at hz
 | some i =>
  rw[hq] at hz;simp at hz
  simp[Instr.alloc,newVar,newRow,zeroValue,typeInfo,hq,hz,Value.cells]
theorem zf0 {o:Oper}{a:Act}{w:World}{K:Act→World→Prop}{Q:Exit→Act→World→Prop}(ho:o.op=.alloc 78)
  (h:K (a.put o.dst (.pointer (some ⟨w.heap.size,0,none⟩))) (w.alloc (.cells zJd.toArray 78))):o.wp Tryz.prog a w K Q:=by
 unfold Oper.wp execOp;simp only[ho,Sem.run_bind,alloc_jd,Result.andThen_ok,Sem.run_pure];exact h
theorem ze4 (c:Kl)(f:Cf)(g:Rw Bool)(w:World):(Instr.build 78 #[(0,.agg c.cs.toArray),(1,.agg f.vs.toArray),(2,.int .i64 (botI c.n c.g)),(3,.slice g.ao g.len g.cap)]).run Tryz.prog w=.ok (.agg (jvs c f g).toArray) w:=by kernel_rfl
theorem zko (c:Kl)(f:Cf)(g:Rw Bool):(jvs c f g).all (·.oneCell')=true:=by simp[jvs,Cf.vs,Ty.vs,Value.oneCell']
theorem znt {w:World}{BG:Nat}{f:Cf}(h:Blk w BG (bcR f f.cd.len f.cd.len) 4)(hn:f.cd.len≤100000):BlAt w ⟨some ⟨BG,0,none⟩,BG,0,f.cd.len,f.cd.len,f.callB⟩:=by
 refine⟨fun _=>rfl,by show f.cd.len≤_;omega,fun i hi=>?_,fun _ _=>trivial⟩
 have hi':i<f.cd.len:=hi;intro j v hv
 match j,hv with
 | 0,hv =>
  have e:v=.bool (f.callB i):=by simpa [blV] using hv.symm
  subst e;refine h.cell _ ?_;show (bcR f f.cd.len f.cd.len)[0+i*1+0]?=_
  rw[show 0+i*1+0=i by omega];simp[bcR,hi']
 | j+1,hv=>simp[blV] at hv
structure VkP (c:Kl)(w:World)(e:Ending)(w':World):Prop where
 ret:∃k a er:Int,e=.returned (.tuple #[.int .i64 k,.int .i64 a,.int .i64 er])∧VkR c k a er
 bl:Below w.heap.size w w'
theorem zit (c:Kl)(w:World)(hc:c.At w)(hcap:c.Cap)(hO:Og w)(hT:Pg2 w):Calls Tryz.prog 11 #[.agg #[.slice c.n.ao c.n.len c.n.cap,.slice c.g.ao c.g.len c.g.cap,.slice c.fs.ao c.fs.len c.fs.cap]] w (VkP c w):=by
 have B0:=zac w (.cells #[.slice c.n.ao c.n.len c.n.cap,.slice c.g.ao c.g.len c.g.cap,.slice c.fs.ao c.fs.len c.fs.cap] 28);have b:=Blk.new w c.cs 28;have c0:=b.cell 0 rfl;have c1:=b.cell 1 rfl;have c2:=b.cell 2 rfl;have h0:=zn3 c _ (Kl.At.kept B0 hc) (hO.kept B0);have H0:=hyd (show Below w.heap.size w _∧Blk _ w.heap.size c.cs 28 from ⟨B0,b⟩);have HD:=hyd (show c.At w∧c.Cap∧Pg2 w from ⟨hc,hcap,hT⟩);have hbd:=hc.fs.bound;have HNIL:=hyd hc.fs.nil;clear B0 b hc hcap hO hT;go_enter Tryz.func11,Tryz.ntmps11
 go_wp2_with fail
 refine h0.mono ?_;clear h0;rintro _ u1 ⟨⟨k,r,er,rfl,hR⟩,hb⟩;have H1:=hyd (show Below w.heap.size w u1∧Blk u1 w.heap.size c.cs 28 from ⟨Below.next H0.out.1 hb,H0.out.2.kept hb⟩);have HR:=hyd hR;clear hb hR H0 c0 c1 c2;by_cases her:er=0
 case neg =>
  have e1:(er != 0)=true:=by simpa using her
  have HE:=hyd (VkR.of_ch HR.out her);clear her HR;go_wp2;refine bodyPost_ret (zcq rfl _ _ _) rfl ?_;exact⟨⟨_,_,_,rfl,HE.out⟩,H1.out.1⟩
 subst her;have HF:=hyd (HR.out.yes rfl);have hpos:0<c.fs.len:=by
  have h:=HF.out.1;unfold Kl.fm at h;simp only[Bool.and_eq_true,decide_eq_true_eq] at h;exact h.2.1.1
 have HA0:=hyd (HNIL.out hpos);have HOKF:=hyd (fun k hk=>okf_of (Kl.wvf (k:=k) HD.out.1 HF.out.1 HF.out.2 HD.out.2.1 hk));have HWF:=hyd (fun k (hk:k<c.fs.len)=>Cf.wf (HF.out.2 k hk));have HFM:Hid (∀i,i<c.fs.len→(c.fs.x i).cd.len≤2000):=fun i hi=>by
  have h:=HF.out.1;unfold Kl.fm at h;simp only[Bool.and_eq_true,decide_eq_true_eq] at h;exact (Cf.fa (h.2.2 i hi)).cd
 have HAT:=hyd (fun j (hj:j<c.fs.len) h1 h2=>VkR.at_ HF.out.1 HF.out.2 (j:=j) hj h1 h2);have HAL:=hyd (@VkR.all c HF.out.1 HF.out.2);clear HNIL HR HF hpos;have c0:=H1.out.2.cell 0 rfl;have c1:=H1.out.2.cell 1 rfl;have c2:u1.cell? ⟨w.heap.size,2,none⟩=some (.slice (some ⟨c.fs.b,c.fs.o,none⟩) c.fs.len c.fs.cap):=by rw[←HA0.out];exact H1.out.2.cell 2 rfl
 have h0:=zev c.n c.g u1 (HD.out.1.n.kept H1.out.1) (HD.out.1.g.kept H1.out.1);go_wp2_with fail
 refine h0.mono ?_;clear h0;rintro _ u2 ⟨rfl,hb⟩;have H2:=hyd (show Below w.heap.size w u2∧Blk u2 w.heap.size c.cs 28 from ⟨Below.next H1.out.1 hb,H1.out.2.kept hb⟩);clear hb H1 c0 c1 c2;have c2:u2.cell? ⟨w.heap.size,2,none⟩=some (.slice (some ⟨c.fs.b,c.fs.o,none⟩) c.fs.len c.fs.cap):=by rw[←HA0.out];exact H2.out.2.cell 2 rfl
 go_wp2;go_loopw [29] (fun i wr=>∃(j:Nat),j≤c.fs.len∧i=.int .i64 j∧(Below w.heap.size w wr∧Blk wr w.heap.size c.cs 28)∧(∀i,i<j→c.ref i=-1)) (fun i _=>c.fs.len - (intOf i).toNat)
 case atStart=>exact⟨0,Nat.zero_le _,rfl,H2.out,fun i hi=>absurd hi (Nat.not_lt_zero _)⟩
 case round =>
  clear H2 c2;obtain⟨j,hj,rfl,hBl,hall⟩:=hrel;have HB:=hyd hBl;have HL:=hyd hall;clear hBl hall;by_cases hlt:j<c.fs.len
  ·have ij:(j:Int)<c.fs.len:=by omega
   have r0:=zaf (HD.out.1.fs.row j hlt) HB.out.1;have HF:=hyd (Cf.At.kept HB.out.1 (HD.out.1.fs.each j hlt));have HCL:=hyd (fun v (h:c.At v)=>zpl c j v h hlt (HWF.out j hlt).pts (by have:=HFM.out j hlt;omega))
   have HOK:=hyd (HOKF.out j hlt);have HCN:Hid ((c.fs.x j).cd.len≤100000):=by show _≤_;have:=HFM.out j hlt;omega
   have HNO:Hid (c.ref j≠-1→VkR c j (c.ref j) 11):=fun h=>HAT.out j hlt h HL.out;have HY:Hid (c.ref j=-1→∀i,i<j+1→c.ref i=-1):=fun h i hi=>by
    by_cases e:i=j
    ·rw[e];exact h
    ·exact HL.out i (by omega)
   have HQ:Hid (c.ref j=(c.fs.x j).ref c):=rfl;generalize c.fs.x j=f at *;generalize c.ref j=q at *;go_upto_region 8 with (first | (refine wpList_load_mid rfl 44 (.tmp 32) rfl c.fs.b (c.fs.o+j*18) (by kernel_rfl) f.vs _ r0 Tryz.underlying44 rfl (by kernel_rfl) ?_) | (refine zep rfl rfl rfl 44 rfl (.tmp 31) rfl (.tmp 10) (.tmp 33) rfl z_fn (alloc_fn _) rfl (.int .i64 j) (by kernel_rfl) f.vs.toArray (by kernel_rfl) (by kernel_rfl) rfl (by kernel_rfl) (by simpa using f.vs_one) ?_))
   have B1:=zac wr (.cells f.vs.toArray 44);have HU:=hyd (show Sb w c f w.heap.size wr.heap.size (wr.alloc (.cells f.vs.toArray 44)) from ⟨Below.next HB.out.1 B1,HB.out.2.kept B1,Blk.new wr _ _,Cf.At.kept B1 HF.out⟩);clear r0 HF HB B1
   try simp only[Act.put,zA,zB,zC]
   generalize wr.alloc (.cells f.vs.toArray 44)=U at *;generalize wr.heap.size=BF at *;go_cut [11] (fun c11 wx=>∃BJ BG:Nat,c11=.pointer (some ⟨BJ,0,none⟩)∧Hid (Sb w c f w.heap.size BF wx∧Jb c f ⟨some ⟨BG,0,none⟩,BG,0,f.cd.len,f.cd.len,f.callB⟩ BJ wx))
   case first =>
    have rC:∀u,(∃x:Wd (fun q=>Below U.heap.size U q),u=x.w)→u.rangeAt w.heap.size 0 c.cs:=fun _ hC=>by obtain⟨x,rfl⟩:=hC;exact (HU.out.kept x.2).bC.range
    have rF:∀u,(∃x:Wd (fun q=>Below U.heap.size U q),u=x.w)→u.rangeAt BF 0 f.vs:=fun _ hC=>by obtain⟨x,rfl⟩:=hC;exact (HU.out.kept x.2).bF.range
    have hNE:Nonempty (Wd (fun q=>Below U.heap.size U q)):=⟨⟨_,Below.refl _ _⟩⟩;have HV0:=hyd (Below.refl U.heap.size U).drew;refine zal (fun q=>Below U.heap.size U q) [0,1,2,3,4] 4 (by kernel_rfl) rfl (by kernel_rfl) (za7 (by kernel_rfl)) HV0.out ?_;simp only[List.filterMap,zD,zE];go_big_quiet_want;refine zad 28 (.tmp 1) rfl w.heap.size 0 (by kernel_rfl) c.cs _ rC Tryz.underlying28 rfl (by kernel_rfl) ?_;simp only[Act.put,zA,zB,zC];go_big_quiet_on;go_big_quiet_want;refine zad 44 (.tmp 10) rfl BF 0 (by kernel_rfl) f.vs _ rF Tryz.underlying44 rfl (by kernel_rfl) ?_;simp only[Act.put,zA,zB,zC];go_big_quiet_on;go_big_quiet_step (fail)
    go_big_quiet_want;refine zad 28 (.tmp 1) rfl w.heap.size 0 (by kernel_rfl) c.cs _ rC Tryz.underlying28 rfl (by kernel_rfl) ?_;simp only[Act.put,zA,zB,zC];go_big_quiet_on;go_big_quiet_step (fail)
    refine wpQuiet_nil ?_;clear rC rF hNE;generalize U.drew=v0 at *;refine wpAnyH_ready (rs:=[5,7]) (by kernel_rfl) (by simp) ?_;refine AllReadyH.cons rfl (fun K hK=>?_) (AllReadyH.cons rfl (fun K hK=>?_) AllReadyH.nil)
    ·rw[if_pos (by rfl)];go_simp;refine (HCL.out v0 (Kl.At.kept (Below.next HU.out.bl HV0.out) HD.out.1)).mono ?_;rintro _ v1 ⟨BG,rfl,⟨hG,hge⟩,hb⟩;have HV1:=hyd (Below.next HV0.out hb);have HG1:=hyd hG;refine hK.out _ _ HV1.out (fun _=>?_);clear hK K hb hG hge
     try simp only[Act.put,List.getElem_toArray,List.getElem_cons_zero,List.getElem_cons_succ,zA,zB,zC]
     refine wpAnyH_ready (rs:=[6,7]) (by kernel_rfl) (by simp) ?_;refine AllReadyH.cons rfl (fun K hK=>?_) (AllReadyH.cons rfl (fun K hK=>?_) AllReadyH.nil)
     ·rw[if_pos (by rfl)];refine zcr 78 #[(0,.tmp 34),(1,.tmp 35),(2,.tmp 36),(3,.tmp 39)] rfl #[(0,.agg c.cs.toArray),(1,.agg f.vs.toArray),(2,.int .i64 (botI c.n c.g)),(3,.slice (some ⟨BG,0,none⟩) f.cd.len f.cd.len)] (by kernel_rfl) (ze4 c f ⟨some ⟨BG,0,none⟩,BG,0,f.cd.len,f.cd.len,f.callB⟩ v1) ?_;refine hK.out _ _ HV1.out (fun _=>?_)
      try simp only[Act.put,List.getElem_toArray,List.getElem_cons_zero,List.getElem_cons_succ,zA,zB,zC]
      clear hK K;refine wpAnyH_ready (rs:=[7]) (by kernel_rfl) (by simp) ?_;refine AllReadyH.cons rfl (fun K hK=>?_) AllReadyH.nil;rw[if_pos (by rfl)];have hb:=zac v1 (.cells zJd.toArray 78);have HA2:=hyd (show Blk (v1.alloc (.cells zJd.toArray 78)) v1.heap.size zJd 78∧U.heap.size≤v1.heap.size from ⟨Blk.new v1 _ _,HV1.out.size⟩);have HV2:=hyd (Below.next HV1.out hb);have HNE:Hid (BG≠v1.heap.size):=by show _≠_;have:=HG1.out.lt;omega
      have HG2:=hyd (HG1.out.kept hb);refine zf0 rfl ?_;refine hK.out _ _ HV2.out (fun _=>?_);clear hb hK K;generalize v1.alloc (.cells zJd.toArray 78)=v2 at *;generalize v1.heap.size=BA at *
      try simp only[Act.put,List.getElem_toArray,List.getElem_cons_zero,List.getElem_cons_succ,zA,zB,zC]
      refine wpAnyH_ready (rs:=[8]) (by kernel_rfl) (by simp) ?_;refine AllReadyH.cons rfl (fun K hK=>?_) AllReadyH.nil;rw[if_pos (by rfl)];refine zbb 78 (.tmp 11) (.tmp 40) rfl rfl BA (jvs c f ⟨some ⟨BG,0,none⟩,BG,0,f.cd.len,f.cd.len,f.callB⟩) zJd (by kernel_rfl) (by kernel_rfl) (zko c f _) HA2.out.1 rfl (by kernel_rfl) ?_;intro w8 W8;have HW:=hyd (show Below U.heap.size U w8 from W8.below HA2.out.2 HV2.out);have HG8:=hyd (W8.keep HG2.out HNE.out);refine hK.out _ _ HW.out (fun _=>?_);clear hK K;refine wpAnyH_done (by kernel_rfl) ?_ _;refine⟨(fun c hc=>by cases hc),?_⟩;go_wp2;go_meet
      case rel=>exact⟨BA,BG,rfl,HU.out.kept HW.out,⟨W8.blk,Kl.At.kept (Below.next HU.out.bl HW.out) HD.out.1,Cf.At.kept HW.out HU.out.f,znt HG8.out HCN.out⟩⟩
     ·rw[if_pos (by rfl)];have hb:=zac v1 (.cells zJd.toArray 78);have HA2:=hyd (show Blk (v1.alloc (.cells zJd.toArray 78)) v1.heap.size zJd 78∧U.heap.size≤v1.heap.size from ⟨Blk.new v1 _ _,HV1.out.size⟩);have HV2:=hyd (Below.next HV1.out hb);have HNE:Hid (BG≠v1.heap.size):=by show _≠_;have:=HG1.out.lt;omega
      have HG2:=hyd (HG1.out.kept hb);refine zf0 rfl ?_;refine hK.out _ _ HV2.out (fun _=>?_);clear hb hK K;generalize v1.alloc (.cells zJd.toArray 78)=v2 at *;generalize v1.heap.size=BA at *
      try simp only[Act.put,List.getElem_toArray,List.getElem_cons_zero,List.getElem_cons_succ,zA,zB,zC]
      refine wpAnyH_ready (rs:=[6]) (by kernel_rfl) (by simp) ?_;refine AllReadyH.cons rfl (fun K hK=>?_) AllReadyH.nil;rw[if_pos (by rfl)];refine zcr 78 #[(0,.tmp 34),(1,.tmp 35),(2,.tmp 36),(3,.tmp 39)] rfl #[(0,.agg c.cs.toArray),(1,.agg f.vs.toArray),(2,.int .i64 (botI c.n c.g)),(3,.slice (some ⟨BG,0,none⟩) f.cd.len f.cd.len)] (by kernel_rfl) (ze4 c f ⟨some ⟨BG,0,none⟩,BG,0,f.cd.len,f.cd.len,f.callB⟩ v2) ?_;refine hK.out _ _ HV2.out (fun _=>?_)
      try simp only[Act.put,List.getElem_toArray,List.getElem_cons_zero,List.getElem_cons_succ,zA,zB,zC]
      clear hK K;refine wpAnyH_ready (rs:=[8]) (by kernel_rfl) (by simp) ?_;refine AllReadyH.cons rfl (fun K hK=>?_) AllReadyH.nil;rw[if_pos (by rfl)];refine zbb 78 (.tmp 11) (.tmp 40) rfl rfl BA (jvs c f ⟨some ⟨BG,0,none⟩,BG,0,f.cd.len,f.cd.len,f.callB⟩) zJd (by kernel_rfl) (by kernel_rfl) (zko c f _) HA2.out.1 rfl (by kernel_rfl) ?_;intro w8 W8;have HW:=hyd (show Below U.heap.size U w8 from W8.below HA2.out.2 HV2.out);have HG8:=hyd (W8.keep HG2.out HNE.out);refine hK.out _ _ HW.out (fun _=>?_);clear hK K;refine wpAnyH_done (by kernel_rfl) ?_ _;refine⟨(fun c hc=>by cases hc),?_⟩;go_wp2;go_meet
      case rel=>exact⟨BA,BG,rfl,HU.out.kept HW.out,⟨W8.blk,Kl.At.kept (Below.next HU.out.bl HW.out) HD.out.1,Cf.At.kept HW.out HU.out.f,znt HG8.out HCN.out⟩⟩
    ·rw[if_pos (by rfl)];have hb:=zac v0 (.cells zJd.toArray 78);have HA1:=hyd (show Blk (v0.alloc (.cells zJd.toArray 78)) v0.heap.size zJd 78∧U.heap.size≤v0.heap.size from ⟨Blk.new v0 _ _,HV0.out.size⟩);have HV1:=hyd (Below.next HV0.out hb);refine zf0 rfl ?_;refine hK.out _ _ HV1.out (fun _=>?_);clear hb hK K;generalize v0.alloc (.cells zJd.toArray 78)=v1 at *;generalize v0.heap.size=BA at *
     try simp only[Act.put,List.getElem_toArray,List.getElem_cons_zero,List.getElem_cons_succ,zA,zB,zC]
     refine wpAnyH_ready (rs:=[5]) (by kernel_rfl) (by simp) ?_;refine AllReadyH.cons rfl (fun K hK=>?_) AllReadyH.nil;rw[if_pos (by rfl)];go_simp;refine (HCL.out v1 (Kl.At.kept (Below.next HU.out.bl HV1.out) HD.out.1)).mono ?_;rintro _ v2 ⟨BG,rfl,⟨hG,hge⟩,hb⟩;have HV2:=hyd (Below.next HV1.out hb);have HG2:=hyd hG;have HNE:Hid (BG≠BA):=by show _≠_;have:=HA1.out.1.lt;omega
     have HA2:=hyd (show Blk v2 BA zJd 78∧U.heap.size≤BA from ⟨HA1.out.1.kept hb,HA1.out.2⟩);refine hK.out _ _ HV2.out (fun _=>?_);clear hK K hb hG hge
     try simp only[Act.put,List.getElem_toArray,List.getElem_cons_zero,List.getElem_cons_succ,zA,zB,zC]
     refine wpAnyH_ready (rs:=[6]) (by kernel_rfl) (by simp) ?_;refine AllReadyH.cons rfl (fun K hK=>?_) AllReadyH.nil;rw[if_pos (by rfl)];refine zcr 78 #[(0,.tmp 34),(1,.tmp 35),(2,.tmp 36),(3,.tmp 39)] rfl #[(0,.agg c.cs.toArray),(1,.agg f.vs.toArray),(2,.int .i64 (botI c.n c.g)),(3,.slice (some ⟨BG,0,none⟩) f.cd.len f.cd.len)] (by kernel_rfl) (ze4 c f ⟨some ⟨BG,0,none⟩,BG,0,f.cd.len,f.cd.len,f.callB⟩ v2) ?_;refine hK.out _ _ HV2.out (fun _=>?_)
     try simp only[Act.put,List.getElem_toArray,List.getElem_cons_zero,List.getElem_cons_succ,zA,zB,zC]
     clear hK K;refine wpAnyH_ready (rs:=[8]) (by kernel_rfl) (by simp) ?_;refine AllReadyH.cons rfl (fun K hK=>?_) AllReadyH.nil;rw[if_pos (by rfl)];refine zbb 78 (.tmp 11) (.tmp 40) rfl rfl BA (jvs c f ⟨some ⟨BG,0,none⟩,BG,0,f.cd.len,f.cd.len,f.callB⟩) zJd (by kernel_rfl) (by kernel_rfl) (zko c f _) HA2.out.1 rfl (by kernel_rfl) ?_;intro w8 W8;have HW:=hyd (show Below U.heap.size U w8 from W8.below HA2.out.2 HV2.out);have HG8:=hyd (W8.keep HG2.out HNE.out);refine hK.out _ _ HW.out (fun _=>?_);clear hK K;refine wpAnyH_done (by kernel_rfl) ?_ _;refine⟨(fun c hc=>by cases hc),?_⟩;go_wp2;go_meet
     case rel=>exact⟨BA,BG,rfl,HU.out.kept HW.out,⟨W8.blk,Kl.At.kept (Below.next HU.out.bl HW.out) HD.out.1,Cf.At.kept HW.out HU.out.f,znt HG8.out HCN.out⟩⟩
   case rest =>
    obtain⟨BJ,BG,rfl,hI⟩:=hcut;have H4:=hyd hI.out;have h0:=zue c f ⟨some ⟨BG,0,none⟩,BG,0,f.cd.len,f.cd.len,f.callB⟩ BJ wc H4.out.2 (HD.out.2.2.kept H4.out.1.bl) HOK.out rfl rfl;rw[←HQ.out] at h0;clear hI HU HCL HOK HCN HQ;go_wp2_with fail
    refine h0.mono ?_;clear h0;rintro _ u5 ⟨rfl,hb⟩;have H5:=hyd (H4.out.1.kept hb);clear hb H4;by_cases hq:q=-1
    ·have e1:(q != -1)=false:=by simpa using hq
     have HE:=hyd (HY.out hq);clear hq HNO HY;go_wp2;go_roundw
     case rel=>exact⟨j+1,by omega,by go_num,⟨H5.out.bl,H5.out.bC⟩,HE.out⟩
     case measure=>simp[intOf];omega
    ·have e1:(q != -1)=true:=by simpa using hq
     have HE:=hyd (HNO.out hq);clear hq HNO HY;go_wp2;refine bodyPost_ret (zcq rfl _ _ _) rfl ?_;exact⟨⟨_,_,_,rfl,HE.out⟩,H5.out.bl⟩
  ·have e2:¬(j:Int)<c.fs.len:=by omega
   have HE:=hyd (HAL.out (fun i hi=>HL.out i (by omega)));go_wp2;refine bodyPost_ret (zcq rfl _ _ _) rfl ?_;exact⟨⟨_,_,_,rfl,HE.out⟩,HB.out.1⟩
theorem zio {α:Type}{vs:α→List Value}{z:Nat}(hz:∀x,(vs x).length=z)(d:α):∀(l:List α) (i j:Nat),i<l.length→j<z→(l.flatMap vs)[i*z+j]?=(vs (l.getD i d))[j]?
 | [],_,_,h,_=>absurd h (Nat.not_lt_zero _)
 | x :: l,0,j,_,hj=>by
  rw[List.flatMap_cons,Nat.zero_mul,Nat.zero_add,List.getElem?_append_left (by rw[hz];exact hj)]
  rfl
 | x :: l,i+1,j,h,hj=>by
  rw[List.flatMap_cons,List.getElem?_append_right (by rw[hz,Nat.add_mul,Nat.one_mul];omega),hz]
  rw[show (i+1)*z+j - z=i*z+j by rw[Nat.add_mul,Nat.one_mul];omega]
  rw[zio hz d l i j (by simpa using h) hj];rfl
def lsR {α:Type}(b:Nat)(d:α)(l:List α):Rw α:=⟨some ⟨b,0,none⟩,b,0,l.length,l.length,fun i=>l.getD i d⟩
theorem zji {α:Type}{vs:α→List Value}{z:Nat}(hz:∀x,(vs x).length=z){A:World→α→Prop}{w:World}{b:Nat}{T:TypeId}(d:α)(l:List α)(h:Blk w b (l.flatMap vs) T)(hl:l.length≤1000)(hA:∀x ∈ l,A w x):Rw.At z vs A w (lsR b d l):=by
 refine⟨fun _=>rfl,by show l.length≤_;omega,fun i hi=>?_,fun i hi=>?_⟩
 ·intro j v hv;have hj:j<z:=by rw[←hz (l.getD i d)];exact (List.getElem?_eq_some_iff.1 hv).1
  show w.cell? ⟨b,0+i*z+j,none⟩=some v
  rw[Nat.zero_add];refine h.cell _ ?_;rw[zio hz d l i j hi hj];exact hv
 ·have hi':i<l.length:=hi;show A w (l.getD i d)
  rw[List.getD_eq_getElem?_getD,List.getElem?_eq_getElem hi'];exact hA _ (List.getElem_mem hi')
def vi (op a:Int):In:=⟨op,a,zaa 0 0⟩
theorem zh6 {op a:Int}(h:I64 op)(k:I64 a)(w:World):(vi op a).At w:=⟨h,k,zav _ _ _⟩
theorem zc2 {a:Int}(h:(decide (-9223372036854775808≤a)&&decide (a≤9223372036854775807))=true):I64 a:=by
 simp only[Bool.and_eq_true,decide_eq_true_eq] at h;exact h
def s1 (b:Nat)(a:Int):Ty:=.mk 0 0 0 0 (some ⟨b,0,none⟩) b 0 1 1 (fun _=>zaa 1 a)
theorem s1_at {b:Nat}{a:Int}{w:World}(h:Blk w b (zaa 1 a).vs 38):(s1 b a).At w:=by
 refine⟨fun _=>rfl,by show (1:Nat)≤_;omega,fun i hi=>?_⟩
 have hi0:i=0:=by have:i<1:=hi;omega
 subst hi0;exact⟨⟨h.cell 0 rfl,h.cell 1 rfl,h.cell 2 rfl,h.cell 3 rfl,h.cell 4 rfl⟩,zav _ _ _⟩
theorem zcc (a:Int)(w:World):Calls Tryz.prog 22 #[.int .i64 a] w fun e w'=>e=.returned (.agg #[.int .i64 1,.int .i64 a,.slice none 0 0,.int .i64 0,.int .i64 0])∧Below w.heap.size w w':=by
 have B0:=zac w (.cells #[.int .i64 0,.int .i64 0,.slice none 0 0,.int .i64 0,.int .i64 0] 38);have b:=Blk.new w [.int .i64 0,.int .i64 0,.slice none 0 0,.int .i64 0,.int .i64 0] 38;have H0:=hyd B0;have HB:=hyd b;clear B0 b;go_enter Tryz.func22,Tryz.ntmps22
 go_wp2_with (refine zag rfl rfl 38 (.tmp 2) (.tmp 4) rfl w.heap.size [.int .i64 1,.int .i64 a,.slice none 0 0,.int .i64 0,.int .i64 0] (by kernel_rfl) (by kernel_rfl) rfl HB.out rfl (by kernel_rfl) ?_;intro w3 W3);have rB:=W3.blk.range;have H3:=hyd (zce H0.out W3.gb (fun k e=>by have:=Option.some.inj e;omega))
 clear W3 HB H0;exact bodyPost_ret (v:=.agg #[.int .i64 1,.int .i64 a,.slice none 0 0,.int .i64 0,.int .i64 0]) (zax (vs:=[.int .i64 1,.int .i64 a,.slice none 0 0,.int .i64 0,.int .i64 0]) Tryz.underlying38 rfl (by kernel_rfl) Tryz.results22 rfl rB) rfl ⟨rfl,H3.out⟩
def awCd (b:Nat):Rw In:=lsR b (vi 0 0) [vi 3 0,vi 27 0]
def awSk (b1 b2:Nat):Rw Ty:=lsR b2 (zaa 0 0) [zaa 0 0,s1 b1 1]
section
variable {n:Strs} {g:Grid} {w:World} {bc b1 b2 k:Nat} {pt:Rw Pt}
theorem aStG (h:Lt2 n g w)(b:Nat)(hb:b<2):StG n g 1 b 0 (awCd bc) (awSk b1 b2).x:=by
 have e2:=h.two;have c2:∀i,i<(awCd bc).len→i=0∨i=1:=fun i hi=>by have:i<2:=hi;omega
 refine⟨h.fd,by omega,by omega,by omega,by show 0<2;omega,by show 2≤2000;omega,fun i hi=>?_,fun i hi=>?_,rfl,fun i hi=>?_,fun i hi=>?_⟩
 ·rcases c2 i hi with rfl | rfl <;> rfl
 ·rcases c2 i hi with rfl | rfl
  ·show (btw 0 0 1)=true;rfl
  ·rfl
 ·rcases c2 i hi with rfl | rfl
  ·show 0≤8;omega
  ·show 1≤8;omega
 ·rcases c2 i hi with rfl | rfl
  ·exact fun j hj=>absurd hj (Nat.not_lt_zero j)
  ·exact fun j _=>zdd ((1:Nat):Int) _ (zcf (a:=1) (by omega))
theorem a_jn (h:Lt2 n g w):Jn g 1 0=1:=jn_dn h.fd (by have:=h.two;omega) (by have:=h.two;omega) h.le
theorem a_ref (h:Lt2 n g w)(b:Nat)(hb:b<2)(hp:StP (zaa 1 1) 0 (awCd bc).len (awSk b1 b2).x pt):(stCf (zaa 1 1) (zaa 1 b) (botI n g) (topI n g) (awCd bc) pt).ref (stKl n g k (stCf (zaa 1 1) (zaa 1 b) (botI n g) (topI n g) (awCd bc) pt))=if b=1 then -1 else 1:=by
 have e2:=h.two;have G:=aStG (bc:=bc) (b1:=b1) (b2:=b2) h b hb;have q0:=zjf (a:=1) (e:=0) (bk:=k) (p:=0) G hp (by show 1<2;omega) rfl rfl rfl
 have q1:=zw2 (a:=1) (e:=0) (bk:=k) (p:=1) (m:=1) G hp (by show 1<2;omega) rfl rfl (by omega) rfl
 rw[a_jn h] at q0 q1;have q0':(Vp.mk (stKl n g k (stCf (zaa 1 1) (zaa 1 b) (botI n g) (topI n g) (awCd bc) pt)) (stCf (zaa 1 1) (zaa 1 b) (botI n g) (topI n g) (awCd bc) pt) 0).acc=true:=by
  refine q0.trans ?_;show (decide (1=1)&&blw n g (zaa 1 (1:Nat)) (zaa 1 (1:Nat)))=true
  rw[zf8 h.fd (by omega) (by omega),show g.B 1 1=true from zbs h.fd (by omega)];rfl
 have hbeg:(stCf (zaa 1 1) (zaa 1 b) (botI n g) (topI n g) (awCd bc) pt).begB (stKl n g k (stCf (zaa 1 1) (zaa 1 b) (botI n g) (topI n g) (awCd bc) pt))=true:=zrz (a:=1) (bk:=k) (b:=b) G hp rfl;unfold Cf.ref;rw[if_neg (by rw[hbeg];exact Bool.noConfusion)]
 by_cases eb:b=1
 ·subst eb;rw[if_pos rfl];have hm:(List.range (stCf (zaa 1 1) (zaa 1 (1:Nat)) (botI n g) (topI n g) (awCd bc) pt).cd.len).find? (fun i=>!(Vp.mk (stKl n g k (stCf (zaa 1 1) (zaa 1 (1:Nat)) (botI n g) (topI n g) (awCd bc) pt)) (stCf (zaa 1 1) (zaa 1 (1:Nat)) (botI n g) (topI n g) (awCd bc) pt) i).acc)=none:=zfk fun i hi=>by
   have hi2:i<2:=hi
   match i,hi2 with
   | 0,_=>exact congrArg not q0'
   | 1,_=>exact congrArg not (q1.trans (zbs h.fd (by omega)))
  rw[hm]
 ·have eb0:b=0:=by omega
  subst eb0;rw[if_neg (by omega)];have hm:(List.range (stCf (zaa 1 1) (zaa 1 (0:Nat)) (botI n g) (topI n g) (awCd bc) pt).cd.len).find? (fun i=>!(Vp.mk (stKl n g k (stCf (zaa 1 1) (zaa 1 (0:Nat)) (botI n g) (topI n g) (awCd bc) pt)) (stCf (zaa 1 1) (zaa 1 (0:Nat)) (botI n g) (topI n g) (awCd bc) pt) i).acc)=some 1:=zed (by show 1<2;omega) (by
   have:g.B 1 0=false:=by
    cases hB:g.B 1 0
    ·rfl
    ·exact absurd (zic h.fd (by omega) (by omega) hB h.le) (by omega)
   exact congrArg not (q1.trans this)) (fun i hi=>by
   have:i=0:=by omega
   subst this;exact congrArg not q0')
  rw[hm];rfl
end
structure Aw (w:World)(n:Strs)(g:Grid)(BL BC B1 B2:Nat)(u:World):Prop where
 bl:Below w.heap.size w u
 o:Og u∧Pg2 u
 lt:Lt2 n g u
 l:Blk u BL [.slice n.ao n.len n.cap,.slice g.ao g.len g.cap] 25
 c:Blk u BC ([vi 3 0,vi 27 0].flatMap In.vs) 50
 s:Blk u B1 (zaa 1 1).vs 38
 t:Blk u B2 ([zaa 0 0,s1 B1 1].flatMap skV) 36
theorem Lt2.kept {n:Strs}{g:Grid}{w w':World}(h:Lt2 n g w)(hb:Below w.heap.size w w'):Lt2 n g w':=⟨h.nat.kept hb,h.gat.kept hb,h.fd,h.two,h.le,h.rows⟩
section
variable {w:World} {n:Strs} {g:Grid} {BL BC B1 B2:Nat} {u u':World}
theorem Aw.kept (h:Aw w n g BL BC B1 B2 u)(hb:Below u.heap.size u u'):Aw w n g BL BC B1 B2 u':=⟨Below.next h.bl hb,⟨h.o.1.kept hb,h.o.2.kept hb⟩,h.lt.kept hb,h.l.kept hb,h.c.kept hb,h.s.kept hb,h.t.kept hb⟩
theorem Aw.cd (h:Aw w n g BL BC B1 B2 u):InsAt u (awCd BC):=zji (vs:=In.vs) (z:=7) (A:=In.At) (fun _=>rfl) (vi 0 0) [vi 3 0,vi 27 0] h.c (by show 2≤1000;omega) (fun x hx=>by
 simp only[List.mem_cons,List.not_mem_nil,or_false] at hx;rcases hx with rfl | rfl
 ·exact zh6 (zc2 rfl) (zc2 rfl) u
 ·exact zh6 (zc2 rfl) (zc2 rfl) u)
theorem Aw.sk (h:Aw w n g BL BC B1 B2 u):SkAt u (awSk B1 B2):=zji (vs:=skV) (z:=1) (A:=fun w t=>t.At w∧t.len≤t.cap) (fun _=>rfl) (zaa 0 0) [zaa 0 0,s1 B1 1] h.t (by show 2≤1000;omega) (fun x hx=>by
 simp only[List.mem_cons,List.not_mem_nil,or_false] at hx;rcases hx with rfl | rfl
 ·exact⟨zav _ _ _,by show 0≤0;omega⟩
 ·exact⟨s1_at h.s,by show 1≤1;omega⟩)
theorem znn (h:Aw w n g BL BC B1 B2 u){bk:Nat}{pt:Rw Pt}(b:Nat)(hb:b<2)(hA:(stKl n g bk (stCf (zaa 1 1) (zaa 1 b) (botI n g) (topI n g) (awCd BC) pt)).At u)(hp:StP (zaa 1 1) 0 (awCd BC).len (awSk B1 B2).x pt)(hc:∀i,i<pt.len→(pt.x i).st.len≤(pt.x i).st.cap):Calls Tryz.prog 11 #[.agg #[.slice n.ao n.len n.cap,.slice g.ao g.len g.cap,.slice (some ⟨bk,0,none⟩) 1 1]] u fun e w'=>e=.returned (.tuple #[.int .i64 0,.int .i64 (if b=1 then 0 else 1),.int .i64 (if b=1 then 0 else 11)])∧Below u.heap.size u w':=by
 refine (zit (stKl n g bk (stCf (zaa 1 1) (zaa 1 b) (botI n g) (topI n g) (awCd BC) pt)) u hA (fun i _=>hc) h.o.1 h.o.2).mono fun e w' hq=>?_;obtain⟨⟨k,m,x,rfl,hR⟩,hbl⟩:=hq;have G:=aStG (bc:=BC) (b1:=B1) (b2:=B2) h.lt b hb;have hr:=a_ref (k:=bk) h.lt b hb hp;have hV:=hR.st (st_fm G hp) (zta G hp);refine⟨?_,hbl⟩;by_cases eb:b=1
 ·rw[if_pos eb] at hr;obtain⟨⟨rfl,rfl⟩,rfl⟩:=hV.1 hr;rw[if_pos eb,if_pos eb]
 ·rw[if_neg eb] at hr;obtain⟨⟨rfl,hm⟩,rfl⟩:=hV.2 (by rw[hr];omega)
  rw[if_neg eb,if_neg eb,hm,hr]
theorem zuw (h:Aw w n g BL BC B1 B2 u){bk:Nat}{pt:Rw Pt}(hA:(stKl n g bk (stCf (zaa 1 1) (zaa 1 1) (botI n g) (topI n g) (awCd BC) pt)).At u)(hp:StP (zaa 1 1) 0 (awCd BC).len (awSk B1 B2).x pt)(hc:∀i,i<pt.len→(pt.x i).st.len≤(pt.x i).st.cap):Calls Tryz.prog 11 #[.agg #[.slice n.ao n.len n.cap,.slice g.ao g.len g.cap,.slice (some ⟨bk,0,none⟩) 1 1]] u fun e w'=>e=.returned (.tuple #[.int .i64 0,.int .i64 0,.int .i64 0])∧Below u.heap.size u w':=znn h 1 (by omega) hA hp hc
theorem zuz (h:Aw w n g BL BC B1 B2 u){bk:Nat}{pt:Rw Pt}(hA:(stKl n g bk (stCf (zaa 1 1) (zaa 1 0) (botI n g) (topI n g) (awCd BC) pt)).At u)(hp:StP (zaa 1 1) 0 (awCd BC).len (awSk B1 B2).x pt)(hc:∀i,i<pt.len→(pt.x i).st.len≤(pt.x i).st.cap):Calls Tryz.prog 11 #[.agg #[.slice n.ao n.len n.cap,.slice g.ao g.len g.cap,.slice (some ⟨bk,0,none⟩) 1 1]] u fun e w'=>e=.returned (.tuple #[.int .i64 0,.int .i64 1,.int .i64 11])∧Below u.heap.size u w':=znn h 0 (by omega) hA hp hc
end
theorem zfz (w:World)(hO:Og w)(hT:Pg2 w):Calls Tryz.prog 9 #[] w fun e w'=>e=.returned (.bool true)∧Below w.heap.size w w':=by
 have HG:=hyd (show Og w∧Pg2 w from ⟨hO,hT⟩);have hm:=zut w;clear hO hT;go_enter Tryz.func9,Tryz.ntmps9
 go_wp2_with fail
 refine hm.mono ?_;clear hm;rintro _ w1 ⟨n,g,rfl,hL,hb1⟩;have H1:=hyd (show Below w.heap.size w w1∧Lt2 n g w1 from ⟨hb1,hL⟩);clear hL hb1;have A0:=za9 [.cells #[.slice n.ao n.len n.cap,.slice g.ao g.len g.cap] 25,.cells #[.int .i64 3,.int .i64 0,.int .i64 0,.int .i64 0,.slice none 0 0,.int .i64 0,.int .i64 0,.int .i64 27,.int .i64 0,.int .i64 0,.int .i64 0,.slice none 0 0,.int .i64 0,.int .i64 0] 50] w1;have A1:=zbe [.cells #[.slice n.ao n.len n.cap,.slice g.ao g.len g.cap] 25,.cells #[.int .i64 3,.int .i64 0,.int .i64 0,.int .i64 0,.slice none 0 0,.int .i64 0,.int .i64 0,.int .i64 27,.int .i64 0,.int .i64 0,.int .i64 0,.slice none 0 0,.int .i64 0,.int .i64 0] 50] w1;simp only[List.foldl] at A0 A1;have H2:=hyd (show Below w1.heap.size w1 _∧Blk _ w1.heap.size [.slice n.ao n.len n.cap,.slice g.ao g.len g.cap] 25∧Blk _ (w1.heap.size+1) ([vi 3 0,vi 27 0].flatMap In.vs) 50 from ⟨A0,A1 0 (by simp),A1 1 (by simp)⟩);clear A0 A1;have h0:=zcc 1 ((w1.alloc (.cells #[.slice n.ao n.len n.cap,.slice g.ao g.len g.cap] 25)).alloc (.cells #[.int .i64 3,.int .i64 0,.int .i64 0,.int .i64 0,.slice none 0 0,.int .i64 0,.int .i64 0,.int .i64 27,.int .i64 0,.int .i64 0,.int .i64 0,.slice none 0 0,.int .i64 0,.int .i64 0] 50));go_wp2_with fail
 refine h0.mono ?_;clear h0;rintro _ w2 ⟨rfl,hb⟩;have H3:=hyd (show Below w1.heap.size w1 w2∧Blk w2 w1.heap.size [.slice n.ao n.len n.cap,.slice g.ao g.len g.cap] 25∧Blk w2 (w1.heap.size+1) ([vi 3 0,vi 27 0].flatMap In.vs) 50 from ⟨Below.next H2.out.1 hb,H2.out.2.1.kept hb,H2.out.2.2.kept hb⟩);clear hb H2;have A0:=za9 [.cells #[.int .i64 1,.int .i64 1,.slice none 0 0,.int .i64 0,.int .i64 0] 38,.cells #[.slice none 0 0,.slice (some ⟨w2.heap.size,0,none⟩) 1 1] 36] w2;have A1:=zbe [.cells #[.int .i64 1,.int .i64 1,.slice none 0 0,.int .i64 0,.int .i64 0] 38,.cells #[.slice none 0 0,.slice (some ⟨w2.heap.size,0,none⟩) 1 1] 36] w2;simp only[List.foldl] at A0 A1;have HU:=hyd (show Aw w n g w1.heap.size (w1.heap.size+1) w2.heap.size (w2.heap.size+1) _ from ⟨Below.next H1.out.1 (Below.next H3.out.1 A0),⟨HG.out.1.kept (Below.next H1.out.1 (Below.next H3.out.1 A0)),HG.out.2.kept (Below.next H1.out.1 (Below.next H3.out.1 A0))⟩,H1.out.2.kept (Below.next H3.out.1 A0),H3.out.2.1.kept A0,H3.out.2.2.kept A0,A1 0 (by simp),A1 1 (by simp)⟩);clear A0 A1 H1 H3 HG;go_upto_region 4 with fail
 try simp only[Act.put,zA,zB,zC]
 generalize ((w2.alloc (.cells #[.int .i64 1,.int .i64 1,.slice none 0 0,.int .i64 0,.int .i64 0] 38)).alloc (.cells #[.slice none 0 0,.slice (some ⟨w2.heap.size,0,none⟩) 1 1] 36))=U at *;generalize w2.heap.size+1=B2 at *;generalize w2.heap.size=B1 at *;generalize w1.heap.size+1=BC at *;generalize w1.heap.size=BL at *;have l0:∀x:Wd (fun q=>Below U.heap.size U q),x.w.cell? ⟨BL,0,none⟩=some (.slice n.ao n.len n.cap):=fun x=>(HU.out.kept x.2).l.cell 0 rfl;have l1:∀x:Wd (fun q=>Below U.heap.size U q),x.w.cell? ⟨BL,1,none⟩=some (.slice g.ao g.len g.cap):=fun x=>(HU.out.kept x.2).l.cell 1 rfl;have hNE:Nonempty (Wd (fun q=>Below U.heap.size U q)):=⟨⟨_,Below.refl _ _⟩⟩;have HV0a:=hyd (Below.refl U.heap.size U).drew;refine zal (fun q=>Below U.heap.size U q) [0,3,4] 11 (by kernel_rfl) rfl (by kernel_rfl) (za7 (by kernel_rfl)) HV0a.out ?_;simp only[List.filterMap,zD,zE];iterate 3 go_big_quiet_step (fail)
 refine wpQuiet_nil ?_;clear l0 l1 hNE;generalize U.drew=v0a at *;refine wpAnyH_ready (rs:=[1]) (by kernel_rfl) (by simp) ?_;refine AllReadyH.cons rfl (fun K hK=>?_) AllReadyH.nil;rw[if_pos (by rfl)];go_simp;refine (zcc 1 v0a).mono ?_;rintro _ v1a ⟨rfl,hb⟩;have HV1a:=hyd (Below.next HV0a.out hb);clear hb;refine hK.out _ _ HV1a.out (fun _=>?_);clear hK K
 try simp only[Act.put,List.getElem_toArray,List.getElem_cons_zero,List.getElem_cons_succ,zA,zB,zC]
 refine wpAnyH_ready (rs:=[2]) (by kernel_rfl) (by simp) ?_;refine AllReadyH.cons rfl (fun K hK=>?_) AllReadyH.nil;rw[if_pos (by rfl)];go_simp;refine (zcc 1 v1a).mono ?_;rintro _ v2a ⟨rfl,hb⟩;have HV2a:=hyd (Below.next HV1a.out hb);clear hb;refine hK.out _ _ HV2a.out (fun _=>?_);clear hK K
 try simp only[Act.put,List.getElem_toArray,List.getElem_cons_zero,List.getElem_cons_succ,zA,zB,zC]
 refine wpAnyH_ready (rs:=[5]) (by kernel_rfl) (by simp) ?_;refine AllReadyH.cons rfl (fun K hK=>?_) AllReadyH.nil;rw[if_pos (by rfl)];go_simp;have HA2:=hyd (HU.out.kept HV2a.out);have hst:Calls Tryz.prog 23 #[.agg #[.slice n.ao n.len n.cap,.slice g.ao g.len g.cap],.agg #[.int .i64 1,.int .i64 1,.slice none 0 0,.int .i64 0,.int .i64 0],.agg #[.int .i64 1,.int .i64 1,.slice none 0 0,.int .i64 0,.int .i64 0],.int .i64 0,.slice (some ⟨BC,0,none⟩) 2 2,.slice (some ⟨B2,0,none⟩) 2 2] v2a (StR n g (zaa 1 1) (zaa 1 1) 0 (awCd BC) (awSk B1 B2) v2a):=zfh n g (zaa 1 1) (zaa 1 1) 0 (awCd BC) (awSk B1 B2) v2a HA2.out.lt.nat HA2.out.lt.gat (zav _ _ _) (zav _ _ _) (zc2 rfl) HA2.out.cd HA2.out.sk rfl (by show 2≤1000;omega)
 refine hst.mono ?_;clear hst;rintro _ v3a ⟨bk,pt,rfl,hAt,hP,hC,hb⟩;have HV3a:=hyd (Below.next HV2a.out hb);have HS3:=hyd (show (stKl n g bk (stCf (zaa 1 1) (zaa 1 1) (botI n g) (topI n g) (awCd BC) pt)).At v3a∧StP (zaa 1 1) 0 (awCd BC).len (awSk B1 B2).x pt∧(∀i,i<pt.len→(pt.x i).st.len≤(pt.x i).st.cap) from ⟨hAt,hP,hC⟩);have HA3:=hyd (HA2.out.kept hb);clear hb hAt hP hC HA2;refine hK.out _ _ HV3a.out (fun _=>?_);clear hK K
 try simp only[Act.put,List.getElem_toArray,List.getElem_cons_zero,List.getElem_cons_succ,zA,zB,zC]
 refine wpAnyH_ready (rs:=[6]) (by kernel_rfl) (by simp) ?_;refine AllReadyH.cons rfl (fun K hK=>?_) AllReadyH.nil;rw[if_pos (by rfl)];go_simp;have hst:Calls Tryz.prog 11 #[.agg #[.slice n.ao n.len n.cap,.slice g.ao g.len g.cap,.slice (some ⟨bk,0,none⟩) 1 1]] v3a fun e w'=>e=.returned (.tuple #[.int .i64 0,.int .i64 0,.int .i64 0])∧Below v3a.heap.size v3a w':=zuw HA3.out HS3.out.1 HS3.out.2.1 HS3.out.2.2;refine hst.mono ?_;clear hst;rintro _ v4a ⟨rfl,hb⟩;have HV4a:=hyd (Below.next HV3a.out hb);have HA4a:=hyd (HA3.out.kept hb);clear hb HS3 HA3;refine hK.out _ _ HV4a.out (fun _=>?_);clear hK K
 try simp only[Act.put,List.getElem_toArray,List.getElem_cons_zero,List.getElem_cons_succ,zA,zB,zC]
 have hNE:Nonempty (Wd (fun q=>Below U.heap.size U q)):=⟨⟨_,Below.refl _ _⟩⟩;refine zba [7,8,9,10] (rest:=3) rfl (by kernel_rfl) (by kernel_rfl) HV4a.out ?_;simp only[List.filterMap,zD,zE];iterate 4 go_big_quiet_step (fail)
 refine wpQuiet_nil ?_;clear hNE;refine wpAnyH_ready (rs:=[11]) (by kernel_rfl) (by simp) ?_;refine AllReadyH.cons rfl (fun K hK=>?_) AllReadyH.nil;rw[if_pos (by rfl)];go_simp;refine hK.out _ _ HV4a.out (fun _=>?_);clear hK K
 try simp only[Act.put,List.getElem_toArray,List.getElem_cons_zero,List.getElem_cons_succ,zA,zB,zC]
 refine wpAnyH_ready (rs:=[12]) (by kernel_rfl) (by simp) ?_;refine AllReadyH.cons rfl (fun K hK=>?_) AllReadyH.nil;rw[if_pos (by rfl)];go_simp;refine hK.out _ _ HV4a.out (fun _=>?_);clear hK K
 try simp only[Act.put,List.getElem_toArray,List.getElem_cons_zero,List.getElem_cons_succ,zA,zB,zC]
 refine wpAnyH_ready (rs:=[13]) (by kernel_rfl) (by simp) ?_;refine AllReadyH.cons rfl (fun K hK=>?_) AllReadyH.nil;rw[if_pos (by rfl)];go_simp;refine hK.out _ _ HV4a.out (fun _=>?_);clear hK K
 try simp only[Act.put,List.getElem_toArray,List.getElem_cons_zero,List.getElem_cons_succ,zA,zB,zC]
 refine wpAnyH_done (by kernel_rfl) ?_ _;refine⟨(fun c hc=>by cases hc),?_⟩;clear HV0a HV1a HV2a HV3a HV4a HU;go_upto_region 5 with fail
 have l0:∀x:Wd (fun q=>Below v4a.heap.size v4a q),x.w.cell? ⟨BL,0,none⟩=some (.slice n.ao n.len n.cap):=fun x=>(HA4a.out.kept x.2).l.cell 0 rfl;have l1:∀x:Wd (fun q=>Below v4a.heap.size v4a q),x.w.cell? ⟨BL,1,none⟩=some (.slice g.ao g.len g.cap):=fun x=>(HA4a.out.kept x.2).l.cell 1 rfl;have hNE:Nonempty (Wd (fun q=>Below v4a.heap.size v4a q)):=⟨⟨_,Below.refl _ _⟩⟩;have HV0b:=hyd (Below.refl v4a.heap.size v4a).drew;refine zal (fun q=>Below v4a.heap.size v4a q) [0,3,4] 11 (by kernel_rfl) rfl (by kernel_rfl) (za7 (by kernel_rfl)) HV0b.out ?_;simp only[List.filterMap,zD,zE];iterate 3 go_big_quiet_step (fail)
 refine wpQuiet_nil ?_;clear l0 l1 hNE;generalize v4a.drew=v0b at *;refine wpAnyH_ready (rs:=[1]) (by kernel_rfl) (by simp) ?_;refine AllReadyH.cons rfl (fun K hK=>?_) AllReadyH.nil;rw[if_pos (by rfl)];go_simp;refine (zcc 1 v0b).mono ?_;rintro _ v1b ⟨rfl,hb⟩;have HV1b:=hyd (Below.next HV0b.out hb);clear hb;refine hK.out _ _ HV1b.out (fun _=>?_);clear hK K
 try simp only[Act.put,List.getElem_toArray,List.getElem_cons_zero,List.getElem_cons_succ,zA,zB,zC]
 refine wpAnyH_ready (rs:=[2]) (by kernel_rfl) (by simp) ?_;refine AllReadyH.cons rfl (fun K hK=>?_) AllReadyH.nil;rw[if_pos (by rfl)];go_simp;refine (zcc 0 v1b).mono ?_;rintro _ v2b ⟨rfl,hb⟩;have HV2b:=hyd (Below.next HV1b.out hb);clear hb;refine hK.out _ _ HV2b.out (fun _=>?_);clear hK K
 try simp only[Act.put,List.getElem_toArray,List.getElem_cons_zero,List.getElem_cons_succ,zA,zB,zC]
 refine wpAnyH_ready (rs:=[5]) (by kernel_rfl) (by simp) ?_;refine AllReadyH.cons rfl (fun K hK=>?_) AllReadyH.nil;rw[if_pos (by rfl)];go_simp;have HA2:=hyd (HA4a.out.kept HV2b.out);have hst:Calls Tryz.prog 23 #[.agg #[.slice n.ao n.len n.cap,.slice g.ao g.len g.cap],.agg #[.int .i64 1,.int .i64 1,.slice none 0 0,.int .i64 0,.int .i64 0],.agg #[.int .i64 1,.int .i64 0,.slice none 0 0,.int .i64 0,.int .i64 0],.int .i64 0,.slice (some ⟨BC,0,none⟩) 2 2,.slice (some ⟨B2,0,none⟩) 2 2] v2b (StR n g (zaa 1 1) (zaa 1 0) 0 (awCd BC) (awSk B1 B2) v2b):=zfh n g (zaa 1 1) (zaa 1 0) 0 (awCd BC) (awSk B1 B2) v2b HA2.out.lt.nat HA2.out.lt.gat (zav _ _ _) (zav _ _ _) (zc2 rfl) HA2.out.cd HA2.out.sk rfl (by show 2≤1000;omega)
 refine hst.mono ?_;clear hst;rintro _ v3b ⟨bk,pt,rfl,hAt,hP,hC,hb⟩;have HV3b:=hyd (Below.next HV2b.out hb);have HS3:=hyd (show (stKl n g bk (stCf (zaa 1 1) (zaa 1 0) (botI n g) (topI n g) (awCd BC) pt)).At v3b∧StP (zaa 1 1) 0 (awCd BC).len (awSk B1 B2).x pt∧(∀i,i<pt.len→(pt.x i).st.len≤(pt.x i).st.cap) from ⟨hAt,hP,hC⟩);have HA3:=hyd (HA2.out.kept hb);clear hb hAt hP hC HA2;refine hK.out _ _ HV3b.out (fun _=>?_);clear hK K
 try simp only[Act.put,List.getElem_toArray,List.getElem_cons_zero,List.getElem_cons_succ,zA,zB,zC]
 refine wpAnyH_ready (rs:=[6]) (by kernel_rfl) (by simp) ?_;refine AllReadyH.cons rfl (fun K hK=>?_) AllReadyH.nil;rw[if_pos (by rfl)];go_simp;have hst:Calls Tryz.prog 11 #[.agg #[.slice n.ao n.len n.cap,.slice g.ao g.len g.cap,.slice (some ⟨bk,0,none⟩) 1 1]] v3b fun e w'=>e=.returned (.tuple #[.int .i64 0,.int .i64 1,.int .i64 11])∧Below v3b.heap.size v3b w':=zuz HA3.out HS3.out.1 HS3.out.2.1 HS3.out.2.2;refine hst.mono ?_;clear hst;rintro _ v4b ⟨rfl,hb⟩;have HV4b:=hyd (Below.next HV3b.out hb);have HA4b:=hyd (HA3.out.kept hb);clear hb HS3 HA3;refine hK.out _ _ HV4b.out (fun _=>?_);clear hK K
 try simp only[Act.put,List.getElem_toArray,List.getElem_cons_zero,List.getElem_cons_succ,zA,zB,zC]
 have hNE:Nonempty (Wd (fun q=>Below v4a.heap.size v4a q)):=⟨⟨_,Below.refl _ _⟩⟩;refine zba [7,8,9,10] (rest:=3) rfl (by kernel_rfl) (by kernel_rfl) HV4b.out ?_;simp only[List.filterMap,zD,zE];iterate 4 go_big_quiet_step (fail)
 refine wpQuiet_nil ?_;clear hNE;refine wpAnyH_ready (rs:=[11]) (by kernel_rfl) (by simp) ?_;refine AllReadyH.cons rfl (fun K hK=>?_) AllReadyH.nil;rw[if_pos (by rfl)];go_simp;refine hK.out _ _ HV4b.out (fun _=>?_);clear hK K
 try simp only[Act.put,List.getElem_toArray,List.getElem_cons_zero,List.getElem_cons_succ,zA,zB,zC]
 refine wpAnyH_ready (rs:=[12]) (by kernel_rfl) (by simp) ?_;refine AllReadyH.cons rfl (fun K hK=>?_) AllReadyH.nil;rw[if_pos (by rfl)];go_simp;refine hK.out _ _ HV4b.out (fun _=>?_);clear hK K
 try simp only[Act.put,List.getElem_toArray,List.getElem_cons_zero,List.getElem_cons_succ,zA,zB,zC]
 refine wpAnyH_ready (rs:=[13]) (by kernel_rfl) (by simp) ?_;refine AllReadyH.cons rfl (fun K hK=>?_) AllReadyH.nil;rw[if_pos (by rfl)];go_simp;refine hK.out _ _ HV4b.out (fun _=>?_);clear hK K
 try simp only[Act.put,List.getElem_toArray,List.getElem_cons_zero,List.getElem_cons_succ,zA,zB,zC]
 refine wpAnyH_done (by kernel_rfl) ?_ _;refine⟨(fun c hc=>by cases hc),?_⟩;have H9:=hyd HA4b.out.bl;clear HA4b HA4a;go_wp2;go_ret;exact⟨rfl,H9.out⟩
end
end Go.Proofs.YtfobijdkoeifjaaGreatDoor
