import Derived.Test.YtgioppfoceddfaaGreatP24
import Derived.Test.YtgioppfoceddfaaGreatP23
import Derived.Test.YtgioppfoceddfaaGreatP27
set_option maxRecDepth 100000
set_option maxHeartbeats 32000000
namespace Go.Proofs.YtgioppfoceddfaaGreat
section
open Go Go.RowKit
structure Cw (w:World)(j:Jd)(nd:Nd)(f:Fc)(B:Nat)(u:World):Prop where
 M:Mk w j nd u
 F:Blk u B f.vs 41
 n:w.heap.size+3≤B
theorem Cw.kept {w:World}{j:Jd}{nd:Nd}{f:Fc}{B:Nat}{u u':World}(h:Cw w j nd f B u)(hb:Below u.heap.size u u'):Cw w j nd f B u':=⟨h.M.kept hb,h.F.kept hb,h.n⟩
theorem zq0 (D:Nat)(j:Jd)(nd:Nd)(w:World)(hj:j.At w)(hr:nd.h.ar.At w)(hD:D≤w.heap.size)(hN0:0≤nd.h.n)(hN1:nd.h.n<j.fns.len)(hA:∀i,i<nd.h.ar.len→0≤nd.h.ar.f i∧nd.h.ar.f i<j.f.slots.len) :
  Calls Tryz.prog 119 #[.agg j.va,.agg nd.va] w (zbh D (j.closed nd) w):=by
 have HI:=hid (zb5 w j nd hj);obtain⟨m,hm⟩:∃m:Nat,nd.h.n=m:=⟨nd.h.n.toNat,by omega⟩;have hml:m<j.fns.len:=by omega
 have hml':(m:Int)<j.fns.len:=by omega
 have HH:=hid (show j.At w∧nd.h.ar.At w∧D≤w.heap.size∧(∀i,i<nd.h.ar.len→0≤nd.h.ar.f i∧nd.h.ar.f i<j.f.slots.len)∧(j.fns.ps m).At w from ⟨hj,hr,hD,hA,hj.fns.part m hml⟩);have HG:Hid (j.closed nd=if nd.h.ar.len=(j.fns.ps m).caps.len∧∀i,i<nd.h.ar.len→belB j.n j.g (j.read nd (nd.h.ar.f i)) ((j.fns.ps m).caps.ps i)=true then sigT j.n j.g (j.fns.ps m) else leafT 0 0):=by
  show _=_
  unfold Jd.closed;rw[hm,Int.toNat_natCast]
 unfold mkW at HI;have c3:=HI.out.J.cell 3 (v:=.slice j.fns.ao j.fns.len j.fns.cap) rfl;have c4:=HI.out.N.cell 4 (v:=.int .i64 nd.h.n) rfl;rw[hj.fns.nil (by omega)] at c3;rw[hm] at c4;have rF:=(hj.fns.kept HI.out.bl).cells m hml;clear hj hr hD hA hN0 hN1 hm hml;generalize j.fns.ps m=f at *;go_enter Tryz.func119,Tryz.ntmps119
 go_upto_region 1 with fail
 generalize (((w.alloc (.cells j.va 48)).alloc (.cells nd.va 65)).alloc (.cells #[.int .i64 0,.int .i64 0,.slice none 0 0,.int .i64 0,.int .i64 0] 38))=w1 at *;have hN:=zac w1 (.cells f.vs.toArray 41);have HB:=hid (show Cw w j nd f w1.heap.size (w1.alloc (.cells f.vs.toArray 41)) from ⟨HI.out.kept hN,Blk.new w1 _ _,HI.out.sz⟩);clear hN HI;go_upto_region 2 with (first | (refine wpList_load_mid rfl 41 (.tmp 12) rfl j.fns.b (j.fns.o+m*16) (by kernel_rfl) f.vs _ rF Tryz.underlying41 rfl (by kernel_rfl) ?_) | (refine zao rfl rfl 41 rfl (.tmp 5) (.tmp 13) rfl zFv (zf5 _) rfl f.vs.toArray (by kernel_rfl) (by kernel_rfl) rfl (by kernel_rfl) (by simpa using f.va_one) ?_))
 clear rF c3 c4 hml';generalize (w1.alloc (.cells f.vs.toArray 41))=w2 at *;generalize w1.heap.size=BF at *;have c7:=HB.out.M.N.cell 11 (v:=.slice nd.h.ar.ao nd.h.ar.len nd.h.ar.cap) rfl;have d2:=HB.out.F.cell 10 (v:=.slice f.caps.ao f.caps.len f.caps.cap) rfl;cases hq:((nd.h.ar.len:Int) != (f.caps.len:Int))
 ·have HQ:Hid (nd.h.ar.len=f.caps.len):=by
   show _=_
   have:(nd.h.ar.len:Int)=f.caps.len:=by simpa using hq
   omega
  have hnil:0<nd.h.ar.len→nd.h.ar.ao=some ⟨nd.h.ar.b,nd.h.ar.o,none⟩:=HH.out.2.1.nil;have hbd:nd.h.ar.len≤9223372036854775807:=HH.out.2.1.bound;go_upto_region 4 with fail
  clear hq d2;generalize hlen:nd.h.ar.len=len at *;have HL:Hid (nd.h.ar.len=len):=hlen;clear hlen;generalize nd.h.ar.ao=ao at *;generalize nd.h.ar.cap=cap at *;go_wp2;clear c7;go_loopw [25] (fun i wr=>∃(k:Nat),k≤len∧i=.int .i64 k∧(∀i,i<k→belB j.n j.g (j.read nd (nd.h.ar.f i)) (f.caps.ps i)=true)∧Cw w j nd f BF wr) (fun i _=>len - (intOf i).toNat)
  case atStart=>exact⟨0,Nat.zero_le _,rfl,fun i hi=>absurd hi (Nat.not_lt_zero _),HB.out⟩
  case round =>
   clear HB;obtain⟨k,hk,rfl,hall,hB⟩:=hrel;have HA:=hid hall;have HI:=hid hB;clear hall hB;by_cases hlt:k<len
   ·have ij:(k:Int)<len:=by omega
    have a0:=hnil (by omega);subst a0;have ck:=(HH.out.2.1.kept HI.out.M.bl).cell k (by rw[HL.out];exact hlt)
    have HX:=hid (HH.out.2.2.2.1 k hlt);have HCL:=hid (show k<f.caps.len from by have:=HQ.out;omega)
    generalize hx:nd.h.ar.f k=x at *;have HXE:=hid hx;clear hx;go_upto_region 7 with fail
    clear ck;have hC0:∀q,(∃x:Wd (fun q=>Below wr.heap.size wr q),q=x.w)→q.rangeAt w.heap.size 0 j.vs:=by rintro _ ⟨x,rfl⟩;exact (HI.out.M.J.kept x.2).range
    have hC1:∀q,(∃x:Wd (fun q=>Below wr.heap.size wr q),q=x.w)→q.rangeAt (w.heap.size+1) 0 nd.vs:=by rintro _ ⟨x,rfl⟩;exact (HI.out.M.N.kept x.2).range
    have hCT:∀q,(∃x:Wd (fun q=>Below wr.heap.size wr q),q=x.w)→q.rangeAt f.caps.b (f.caps.o+k*5) (f.caps.ps k).vs:=by rintro _ ⟨x,rfl⟩;exact C5.row (((HH.out.2.2.2.2.caps.kept HI.out.M.bl).kept x.2).cells HCL.out)
    have p0:∀x:Wd (fun q=>Below wr.heap.size wr q),x.w.cell? ⟨w.heap.size,0,none⟩=some (.slice j.n.ao j.n.len j.n.cap):=fun x=>(HI.out.M.J.kept x.2).cell 0 rfl;have p1:∀x:Wd (fun q=>Below wr.heap.size wr q),x.w.cell? ⟨w.heap.size,1,none⟩=some (.slice j.g.ao j.g.len j.g.cap):=fun x=>(HI.out.M.J.kept x.2).cell 1 rfl;have p10:∀x:Wd (fun q=>Below wr.heap.size wr q),x.w.cell? ⟨BF,10,none⟩=some (.slice f.caps.ao f.caps.len f.caps.cap):=fun x=>(HI.out.F.kept x.2).cell 10 rfl;rw[HH.out.2.2.2.2.caps.nil (Nat.lt_of_le_of_lt (Nat.zero_le _) HCL.out)] at p10;have hkc:(k:Int)<f.caps.len:=by have:=HCL.out;omega
    have hNE:Nonempty (Wd (fun q=>Below wr.heap.size wr q)):=⟨⟨_,Below.refl _ _⟩⟩;refine zal (fun q=>Below wr.heap.size wr q) [0,1,2,3,4,6,7,8,9,10] 3 (by kernel_rfl) rfl (by kernel_rfl) (zbt (by kernel_rfl)) ((Below.refl _ _).drew) ?_;simp only[List.filterMap,zD,zE];iterate 2 go_big_quiet_step (fail)
    go_big_quiet_want;refine zaa 48 (.tmp 2) rfl _ 0 (by kernel_rfl) j.vs _ hC0 Tryz.underlying48 rfl (by kernel_rfl) ?_;simp only[Act.put,zA,zB,zC];go_big_quiet_on;go_big_quiet_want;refine zaa 65 (.tmp 3) rfl _ 0 (by kernel_rfl) nd.vs _ hC1 Tryz.underlying65 rfl (by kernel_rfl) ?_;simp only[Act.put,zA,zB,zC];go_big_quiet_on;iterate 5 go_big_quiet_step (fail)
    go_big_quiet_want;refine zaa 38 (.tmp 39) rfl f.caps.b (f.caps.o+k*5) (by kernel_rfl) (f.caps.ps k).vs _ hCT Tryz.underlying38 rfl (by kernel_rfl) ?_;simp only[Act.put,zA,zB,zC];go_big_quiet_on;refine wpQuiet_nil ?_;clear hC0 hC1 hCT p0 p1 p10 hNE hkc;have HV0:=hid (show Below wr.heap.size wr wr.drew from (Below.refl _ _).drew);generalize wr.drew=v0 at *;refine wpAnyH_ready (rs:=[5]) (by kernel_rfl) (by simp) ?_;refine AllReadyH.cons rfl (fun K hK=>?_) AllReadyH.nil;rw[if_pos (by rfl)];go_simp;refine (zbk D j nd x v0 (HI.out.M.hj.kept HV0.out) (by have h1:=HI.out.M.sz;have h2:=HH.out.2.2.1;have h3:=HV0.out.size;omega) HX.out.1 HX.out.2).mono ?_
    rintro _ v1 ⟨u,rfl,uA,uB,uS,hb9⟩;have HV1:=hid (Below.next HV0.out hb9);have HU:=hid (show u.At v1∧u.same (j.read nd x)=true from ⟨uA,uS⟩);refine hK.out _ _ HV1.out (fun _=>?_);clear hK K hb9 uA uB uS HV0;refine wpAnyH_ready (rs:=[11]) (by kernel_rfl) (by simp) ?_;refine AllReadyH.cons rfl (fun K hK=>?_) AllReadyH.nil;rw[if_pos (by rfl)];go_simp;refine (zdi j.n j.g u (f.caps.ps k) v1 (HI.out.M.hj.n.kept HV1.out) (HI.out.M.hj.g.kept HV1.out) HU.out.1 (((HH.out.2.2.2.2.caps.kept HI.out.M.bl).kept HV1.out).part HCL.out)).mono ?_;rintro _ v2 ⟨rfl,hb9⟩;have HV2:=hid (Below.next HV1.out hb9);refine hK.out _ _ HV2.out (fun _=>?_);have HE:Hid (belB j.n j.g u (f.caps.ps k)=belB j.n j.g (j.read nd (nd.h.ar.f k)) (f.caps.ps k)):=by
     show _=_
     rw[HXE.out];exact zck HU.out.1.nd (ze2 HH.out.1 HX.out.1 HX.out.2) HU.out.2
    clear hK K hb9 HV1 HU;generalize belB j.n j.g u (f.caps.ps k)=bb at *;refine wpAnyH_ready (rs:=[12]) (by kernel_rfl) (by simp) ?_;refine AllReadyH.cons rfl (fun K hK=>?_) AllReadyH.nil;rw[if_pos (by rfl)];go_simp;refine hK.out _ _ HV2.out (fun _=>?_);clear hK K;refine wpAnyH_done (by kernel_rfl) ?_ _;refine⟨(fun c hc=>by cases hc),?_⟩;have HJ:=hid (HI.out.kept HV2.out);clear HI HV2;cases bb
    ·have HF:Hid (j.closed nd=leafT 0 0):=by
      show _=_
      rw[HG.out,if_neg];rintro ⟨_,h2⟩;have:=h2 k hlt;rw[←HE.out] at this;cases this
     have bZ:=HJ.out.M.Z;go_wp2_with (refine zae rfl rfl 38 (.tmp 4) (.tmp 43) rfl (w.heap.size+2) (leafT 0 0).vs (by kernel_rfl) (by kernel_rfl) rfl bZ rfl (by kernel_rfl) ?_;intro w6 W2);have z0:=W2.blk.cell 0 (v:=.int .i64 0) rfl;have z1:=W2.blk.cell 1 (v:=.int .i64 0) rfl;have z2:=W2.blk.cell 2 (v:=.slice none 0 0) rfl;have z3:=W2.blk.cell 3 (v:=.int .i64 0) rfl;have z4:=W2.blk.cell 4 (v:=.int .i64 0) rfl;exact bodyPost_ret (v:=.agg (leafT 0 0).vs.toArray) (by simp[results,Tryz.results119,go_sem,z0,z1,z2,z3,z4,Ty.vs,leafT,Ty.k,Ty.l,Ty.ao,Ty.len,Ty.cap,Ty.h,Ty.e]) rfl ⟨leafT 0 0,rfl,zay _ _ _,zdz _ _ _,by rw[HF.out];exact same_refl _,W2.below (by omega) HJ.out.M.bl⟩
    ·have HA1:Hid (∀i,i<k+1→belB j.n j.g (j.read nd (nd.h.ar.f i)) (f.caps.ps i)=true):=by
      intro i hi;rcases Nat.lt_or_ge i k with h2 | h2
      ·exact HA.out i h2
      ·have:i=k:=by omega
       subst this;exact HE.out.symm
     go_wp2;go_roundw
     case rel=>exact⟨k+1,by omega,by go_num,HA1.out,HJ.out⟩
     case measure=>simp[intOf];omega
   ·have e2:k=len:=by omega
    subst e2;have d:¬(k:Int)<k:=by omega
    have HF:Hid (j.closed nd=sigT j.n j.g f):=by
     show _=_
     rw[HG.out,if_pos ⟨HQ.out,HA.out⟩]
    have p0:=HI.out.M.J.cell 0 (v:=.slice j.n.ao j.n.len j.n.cap) rfl;have p1:=HI.out.M.J.cell 1 (v:=.slice j.g.ao j.g.len j.g.cap) rfl;have bF:=HI.out.F;have hS:=zlh D j.n j.g f wr HI.out.M.hj.n HI.out.M.hj.g (HH.out.2.2.2.2.kept HI.out.M.bl) (by have h1:=HI.out.M.sz;have h2:=HH.out.2.2.1;omega)
    go_wp2_with (refine wpList_load_mid rfl 41 (.tmp 5) rfl BF 0 (by kernel_rfl) f.vs _ bF.range Tryz.underlying41 rfl (by kernel_rfl) ?_)
    refine Calls.mono hS ?_;rintro _ w5 ⟨v,rfl,vA,vB,vS,hb1⟩;have HI5:=hid (HI.out.M.kept hb1);have HV:Hid (v.At w5∧v.same (j.closed nd)=true∧v.Blk (fun b=>b<D∨w.heap.size+3≤b)):=⟨vA,by rw[HF.out];exact vS,vB.mono (fun b h=>by have h1:=HI.out.M.sz;omega)⟩
    have bZ:=HI5.out.Z;have hD:=HH.out.2.2.1;clear hS vA vB vS hb1 p0 p1 bF HI;go_wp2_with (refine zae rfl rfl 38 (.tmp 4) (.tmp 48) rfl (w.heap.size+2) v.vs (by kernel_rfl) (by kernel_rfl) v.vs_one bZ rfl (by kernel_rfl) ?_;intro w6 W2);have z0:=W2.blk.cell 0 (v:=.int .i64 v.k) rfl;have z1:=W2.blk.cell 1 (v:=.int .i64 v.l) rfl;have z2:=W2.blk.cell 2 (v:=.slice v.ao v.len v.cap) rfl;have z3:=W2.blk.cell 3 (v:=.int .i64 v.h) rfl;have z4:=W2.blk.cell 4 (v:=.int .i64 v.e) rfl;exact bodyPost_ret (v:=.agg v.vs.toArray) (by simp[results,Tryz.results119,go_sem,z0,z1,z2,z3,z4,Ty.vs]) rfl ⟨v,rfl,HV.out.1.wrote HV.out.2.2 W2 (by omega) (by omega),HV.out.2.2.mono (fun b h=>by omega),HV.out.2.1,W2.below (by omega) HI5.out.bl⟩
 ·have HF:Hid (j.closed nd=leafT 0 0):=by
   show _=_
   rw[HG.out,if_neg];rintro ⟨h1,_⟩;rw[h1] at hq;simp at hq
  have bZ:=HB.out.M.Z;go_wp2_with (refine zae rfl rfl 38 (.tmp 4) (.tmp 21) rfl (w.heap.size+2) (leafT 0 0).vs (by kernel_rfl) (by kernel_rfl) rfl bZ rfl (by kernel_rfl) ?_;intro w6 W2);have z0:=W2.blk.cell 0 (v:=.int .i64 0) rfl;have z1:=W2.blk.cell 1 (v:=.int .i64 0) rfl;have z2:=W2.blk.cell 2 (v:=.slice none 0 0) rfl;have z3:=W2.blk.cell 3 (v:=.int .i64 0) rfl;have z4:=W2.blk.cell 4 (v:=.int .i64 0) rfl;exact bodyPost_ret (v:=.agg (leafT 0 0).vs.toArray) (by simp[results,Tryz.results119,go_sem,z0,z1,z2,z3,z4,Ty.vs,leafT,Ty.k,Ty.l,Ty.ao,Ty.len,Ty.cap,Ty.h,Ty.e]) rfl ⟨leafT 0 0,rfl,zay _ _ _,zdz _ _ _,by rw[HF.out];exact same_refl _,W2.below (by omega) HB.out.M.bl⟩
theorem zva (j:Jd)(nd:Nd)(w:World)(hj:j.At w)(ha:0≤nd.h.a)(ha1:nd.h.a<j.f.slots.len)(hb:0≤nd.h.b)(hb1:nd.h.b<j.f.slots.len) :
  Calls Tryz.prog 85 #[.agg j.va,.agg nd.va] w fun e w'=>e=.returned (.bool (j.sets nd))∧Below w.heap.size w w':=by
 have H:=zar [.cells j.va 48,.cells nd.va 65] w;have B0:=zap [.cells j.va 48,.cells nd.va 65] w;have SZ:=za9 [.cells j.va 48,.cells nd.va 65] w;simp only[List.foldl,List.length] at H B0 SZ;have bJ:Blk _ w.heap.size j.vs 48:=H 0 (by simp);have bN:Blk _ (w.heap.size+1) nd.vs 65:=H 1 (by simp);have hj1:=hj.kept B0;clear H;go_enter Tryz.func85,Tryz.ntmps85
 go_upto_region 1 with fail
 generalize ((w.alloc (.cells j.va 48)).alloc (.cells nd.va 65))=w1 at *;have HI:Hid (j.At w1∧Below w.heap.size w w1∧True∧w1.heap.size=w.heap.size+2∧Blk w1 w.heap.size j.vs 48∧Blk w1 (w.heap.size+1) nd.vs 65):=⟨hj1,B0,trivial,SZ,bJ,bN⟩;have HH:Hid (True∧(0≤nd.h.a∧nd.h.a<j.f.slots.len)∧0≤nd.h.b∧nd.h.b<j.f.slots.len):=⟨trivial,⟨ha,ha1⟩,hb,hb1⟩;have HNA:=hid (show (j.read nd nd.h.a).Nd∧(j.read nd nd.h.b).Nd from ⟨ze2 hj ha ha1,ze2 hj hb hb1⟩);clear hj hj1 B0 SZ bJ bN ha ha1 hb hb1;have hC0:∀u,(∃x:Wd (fun u=>Below w1.heap.size w1 u),u=x.w)→u.rangeAt w.heap.size 0 j.vs:=by rintro _ ⟨x,rfl⟩;exact (HI.out.2.2.2.2.1.kept x.2).range
 have hC1:∀u,(∃x:Wd (fun u=>Below w1.heap.size w1 u),u=x.w)→u.rangeAt (w.heap.size+1) 0 nd.vs:=by rintro _ ⟨x,rfl⟩;exact (HI.out.2.2.2.2.2.kept x.2).range
 have p2:∀x:Wd (fun u=>Below w1.heap.size w1 u),x.w.cell? ⟨w.heap.size+1,2,none⟩=some (.int .i64 nd.h.a):=fun x=>(HI.out.2.2.2.2.2.kept x.2).cell 2 rfl;have p3:∀x:Wd (fun u=>Below w1.heap.size w1 u),x.w.cell? ⟨w.heap.size+1,3,none⟩=some (.int .i64 nd.h.b):=fun x=>(HI.out.2.2.2.2.2.kept x.2).cell 3 rfl;have hNE:Nonempty (Wd (fun u=>Below w1.heap.size w1 u)):=⟨⟨_,Below.refl _ _⟩⟩;refine zal (fun u=>Below w1.heap.size w1 u) [0,1,2,3,5,6,7,8] 6 (by kernel_rfl) rfl (by kernel_rfl) (fun j hj=>?_) ((Below.refl _ _).drew) ?_
 ·have hj5:j<8:=hj
  match j,hj5 with
  | 0,_=>exact⟨_,rfl,rfl⟩
  | 1,_=>exact⟨_,rfl,rfl⟩
  | 2,_=>exact⟨_,rfl,rfl⟩
  | 3,_=>exact⟨_,rfl,rfl⟩
  | 4,_=>exact⟨_,rfl,rfl⟩
  | 5,_=>exact⟨_,rfl,rfl⟩
  | 6,_=>exact⟨_,rfl,rfl⟩
  | 7,_=>exact⟨_,rfl,rfl⟩
 simp only[List.filterMap,zD,zE];go_big_quiet_want;refine zaa 48 (.tmp 2) rfl _ 0 (by kernel_rfl) j.vs _ hC0 Tryz.underlying48 rfl (by kernel_rfl) ?_;simp only[Act.put,zA,zB,zC];go_big_quiet_on;go_big_quiet_want;refine zaa 65 (.tmp 3) rfl _ 0 (by kernel_rfl) nd.vs _ hC1 Tryz.underlying65 rfl (by kernel_rfl) ?_;simp only[Act.put,zA,zB,zC];go_big_quiet_on;iterate 2 go_big_quiet_step (fail)
 go_big_quiet_want;refine zaa 48 (.tmp 2) rfl _ 0 (by kernel_rfl) j.vs _ hC0 Tryz.underlying48 rfl (by kernel_rfl) ?_;simp only[Act.put,zA,zB,zC];go_big_quiet_on;go_big_quiet_want;refine zaa 65 (.tmp 3) rfl _ 0 (by kernel_rfl) nd.vs _ hC1 Tryz.underlying65 rfl (by kernel_rfl) ?_;simp only[Act.put,zA,zB,zC];go_big_quiet_on;iterate 2 go_big_quiet_step (fail)
 refine wpQuiet_nil ?_;clear hC0 hC1 p2 p3 hNE;refine zhb (L:=L6) (ff:=0) (d1:=12) (d2:=17) (e1:=5) (e2:=6) ⟨⟨by decide,by decide,by decide,by decide,by decide,by decide⟩,⟨_,rfl,rfl,rfl⟩,⟨_,rfl,rfl,rfl⟩,⟨_,rfl,rfl,rfl,rfl⟩,⟨_,rfl,rfl,rfl,rfl⟩,⟨_,rfl,rfl,rfl,rfl⟩,⟨_,rfl,rfl,rfl,rfl⟩,fun _ _ _ _ _ _=>⟨rfl,rfl,rfl,rfl,rfl,rfl⟩,by kernel_rfl,by kernel_rfl,by kernel_rfl,by kernel_rfl,by kernel_rfl,by kernel_rfl,by kernel_rfl,by kernel_rfl,by kernel_rfl,by kernel_rfl,by kernel_rfl,by kernel_rfl,by kernel_rfl,by kernel_rfl⟩ (D:=0) (w0:=w1) (r1:=j.read nd nd.h.a) (r2:=j.read nd nd.h.b) (by omega) _ #[.agg j.vs.toArray,.agg nd.vs.toArray,.int .i64 nd.h.a] #[.agg j.vs.toArray,.agg nd.vs.toArray,.int .i64 nd.h.b] 89 89 ?_ ?_ ?_ ?_ ?_ ?_ _ ((Below.refl _ _).drew)
 ·intro o2 q1 q2 o u ho;have e:=(Option.some.inj ho).symm;subst e;cases o2 <;> cases q1 <;> cases q2 <;> (show _=_;kernel_rfl)
 ·intro o2 q1 q2 o u ho;have e:=(Option.some.inj ho).symm;subst e;cases o2 <;> cases q1 <;> cases q2 <;> (show _=_;kernel_rfl)
 ·exact fun u hu=>zbk 0 j nd nd.h.a u (HI.out.1.kept hu) (by omega) HH.out.2.1.1 HH.out.2.1.2
 ·exact fun u hu=>zbk 0 j nd nd.h.b u (HI.out.1.kept hu) (by omega) HH.out.2.2.1 HH.out.2.2.2
 ·exact fun t1 t2 B1 B2=>⟨rfl,rfl,rfl,rfl⟩
 intro t1 t2 B1 B2 u hY;refine⟨(fun c hc=>by cases hc),?_⟩;simp only[actS,putO,Option.map,Act.put,tyA,ptA,zA,zB,zC];have HR:Hid (Mj w j nd u∧(Blk u B1 t1.vs 38∧Blk u B2 t2.vs 38)∧(t1.same (j.read nd nd.h.a)=true∧t2.same (j.read nd nd.h.b)=true)∧t1.At u∧t2.At u):=⟨⟨Below.next HI.out.2.1 hY.bl,HI.out.1.kept hY.bl,HI.out.2.2.2.2.1.kept hY.bl,HI.out.2.2.2.2.2.kept hY.bl⟩,⟨hY.b1,hY.b2⟩,⟨hY.s1,hY.s2⟩,hY.a1,hY.a2⟩;clear hY HI;have x0:=HR.out.2.1.1.cell 0 (v:=.int .i64 t1.k) rfl;have HK:=hid (zdn HR.out.2.2.1.1);cases hq:(t1.k != 5)
 ·have HL:=hid (show t1.len=1 from by
   have h1:(j.read nd nd.h.a).k=5:=by rw[←HK.out];simpa using hq
   have h2:=zfd (n:=j.n) (g:=j.g) (t:=j.f.slots.ps nd.h.a.toNat) (a:=nd.h.env) (k:=5) (by decide) h1;have h3:zan 5=1:=by decide
   have h4:(t1.len:Int)=1:=by rw[zdd HR.out.2.2.1.1,←h3];exact h2
   omega)
  have HE:Hid (j.sets nd=(belB j.n j.g t2 (t1.ps 0)&&([t1.l,j.f.heap].all fun a=>leqB j.n j.g a (t1.ps 0).l))):=by
   show _=_
   unfold Jd.sets;have h1:((j.read nd nd.h.a).k==5)=true:=by rw[←HK.out];simpa using hq
   have h0:(t1.ps 0).same ((j.read nd nd.h.a).ps 0)=true:=zgz HR.out.2.2.1.1 (by have:=HL.out;omega)
   rw[h1,←zee HR.out.2.2.1.1,←zee h0,←zck (t:=(j.read nd nd.h.a).ps 0) HR.out.2.2.2.2.nd HNA.out.2 HR.out.2.2.1.2,←zll (t:=t2) (ze7 HR.out.2.2.2.1.nd (by have:=HL.out;omega)) (ze7 HNA.out.1 (by rw[←zdd HR.out.2.2.1.1];have:=HL.out;omega)) h0]
   simp
  have x2:=HR.out.2.1.1.cell 2 (v:=.slice t1.ao t1.len t1.cap) rfl;rw[HR.out.2.2.2.1.nil (by have:=HL.out;omega)] at x2
  have hlt:(0:Int)<t1.len:=by have:=HL.out;omega
  have rP:u.rangeAt t1.b (t1.o+0*5) (t1.ps 0).vs:=C5.row (HR.out.2.2.2.1.cells (by have:=HL.out;omega))
  have HP:=hid (HR.out.2.2.2.1.part (i:=0) (by have:=HL.out;omega))
  generalize t1.ps 0=p at *;have hN:=zac u (.cells p.vs.toArray 38);have HB:=hid (show Mj w j nd (u.alloc (.cells p.vs.toArray 38))∧(Blk (u.alloc (.cells p.vs.toArray 38)) B1 t1.vs 38∧Blk (u.alloc (.cells p.vs.toArray 38)) B2 t2.vs 38∧Blk (u.alloc (.cells p.vs.toArray 38)) u.heap.size p.vs 38)∧t2.At (u.alloc (.cells p.vs.toArray 38))∧p.At (u.alloc (.cells p.vs.toArray 38)) from ⟨HR.out.1.kept hN,⟨HR.out.2.1.1.kept hN,HR.out.2.1.2.kept hN,Blk.new u _ _⟩,HR.out.2.2.2.2.kept hN,HP.out.kept hN⟩);clear hN;go_upto_region 5 with (first | (refine wpList_load_mid rfl 38 (.tmp 23) rfl t1.b (t1.o+0*5) (by kernel_rfl) p.vs _ rP Tryz.underlying38 rfl (by kernel_rfl) ?_) | (refine zao rfl rfl 38 rfl (.tmp 7) (.tmp 24) rfl zTv (alloc_ty _) rfl p.vs.toArray (by kernel_rfl) (by kernel_rfl) rfl (by kernel_rfl) (by simpa using p.vs_one) ?_))
  clear x0 x2 hlt rP HP HR hq;generalize (u.alloc (.cells p.vs.toArray 38))=u2 at *;generalize u.heap.size=B7 at *;have a0:=HB.out.1.J.cell 0 (v:=.slice j.n.ao j.n.len j.n.cap) rfl;have a1:=HB.out.1.J.cell 1 (v:=.slice j.g.ao j.g.len j.g.cap) rfl;have r2:=HB.out.2.1.2.1.range;have r7:=HB.out.2.1.2.2.range;go_wp2_with (first | (refine wpList_load_mid rfl 38 (.tmp 6) rfl B2 0 (by kernel_rfl) t2.vs _ r2 Tryz.underlying38 rfl (by kernel_rfl) ?_) | (refine wpList_load_mid rfl 38 (.tmp 7) rfl B7 0 (by kernel_rfl) p.vs _ r7 Tryz.underlying38 rfl (by kernel_rfl) ?_))
  refine (zdi j.n j.g t2 p u2 HB.out.1.hj.n HB.out.1.hj.g HB.out.2.2.1 HB.out.2.2.2).mono ?_;rintro _ u3 ⟨rfl,hb3⟩;have HC:=hid (show Mj w j nd u3∧(Blk u3 B1 t1.vs 38∧Blk u3 B7 p.vs 38) from ⟨HB.out.1.kept hb3,HB.out.2.1.1.kept hb3,HB.out.2.1.2.2.kept hb3⟩);clear a0 a1 r2 r7 hb3 HB;generalize belB j.n j.g t2 p=bb at *;cases bb
  ·have HF:Hid (j.sets nd=false):=by show _=_;rw[HE.out];rfl
   go_wp2;go_ret;exact⟨zab HF.out.symm,HC.out.1.bl⟩
  ·have HF:Hid (j.sets nd=([t1.l,j.f.heap].all fun a=>leqB j.n j.g a p.l)):=by show _=_;rw[HE.out,Bool.true_and]
   have x1:=HC.out.2.1.cell 1 (v:=.int .i64 t1.l) rfl;have y1:=HC.out.2.2.cell 1 (v:=.int .i64 p.l) rfl;have c15:=HC.out.1.J.cell 15 (v:=.int .i64 j.f.heap) rfl;have bJ:=HC.out.1.J;have hr:=zg8 t1.l j.f.heap u3;have hb:=zac u3 (.cells #[.int .i64 t1.l,.int .i64 j.f.heap] 3);have hL:=IAt.blk (l:=[t1.l,j.f.heap]) (Blk.new u3 [.int .i64 t1.l,.int .i64 j.f.heap] 3) (by simp);have HLb:=hid (ze4 j p.l [t1.l,j.f.heap] _ _ (HC.out.1.hj.n.kept hb) (HC.out.1.hj.g.kept hb) hL);have HX:=hid (Below.next HC.out.1.bl hb);clear hb hL;go_wp2_with (first | (refine za0 (by kernel_rfl) 48 (.tmp 2) rfl w.heap.size 0 (by kernel_rfl) j.vs _ bJ.range Tryz.underlying48 rfl (by kernel_rfl) ?_) | (refine zej (by kernel_rfl) 63 2 #[(0,.tmp 35),(1,.tmp 38)] rfl #[(0,.int .i64 t1.l),(1,.int .i64 j.f.heap)] rfl hr ?_))
   refine HLb.out.mono ?_;rintro _ w4 ⟨rfl,hb4⟩;clear x1 y1 c15 bJ hr HLb;rw[←HF.out];go_wp2;go_ret;exact⟨rfl,Below.next HX.out hb4⟩
 ·have HF:Hid (j.sets nd=false):=by
   show _=_
   unfold Jd.sets;have h1:((j.read nd nd.h.a).k==5)=false:=by
    rw[←HK.out]
    simpa using hq
   rw[h1];rfl
  go_wp2;go_ret;exact⟨zab HF.out.symm,HR.out.1.bl⟩
theorem zrz (j:Jd)(nd:Nd)(s:Sta)(w:World)(hj:j.At w)(hn:nd.At w)(hop:nd.h.op=14)(b:Bool)(o:Option Sta)(ho:o=if b=true then some s else none)(hc:∀u,Below w.heap.size w u→Calls Tryz.prog 85 #[.agg j.vs.toArray,.agg nd.vs.toArray] u fun e w'=>e=.returned (.bool b)∧Below u.heap.size u w'):zcp o j nd s w:=by
 unfold zcp;have HO:=hid ho;clear ho;have HI:=hid (zfl w j nd s hj hn);have c0:=HI.out.N.cell 0 (v:=.int .i64 nd.h.op) rfl;rw[hop] at c0;unfold nwW at HI c0;have HJ:=hid (show j.At w∧nd.At w from ⟨hj,hn⟩);have HP:=hid hc;clear hop hj hn hc;go_enter Tryz.func56,Tryz.ntmps56
 go_upto_region 1 with (refine zbd rfl rfl ?_)
 generalize ((((w.alloc (.cells j.va 48)).alloc (.cells nd.va 65)).alloc (.cells s.va 71)).alloc (.cells Sta.zero.va 71))=w1 at *;go_upto_region 3 with fail
 clear c0;have hC0:∀q,(∃x:Gr w1,q=x.w)→q.rangeAt w.heap.size 0 j.vs:=by rintro _ ⟨x,rfl⟩;exact (HI.out.J.kept x.bl).range
 have hC1:∀q,(∃x:Gr w1,q=x.w)→q.rangeAt (w.heap.size+1) 0 nd.vs:=by rintro _ ⟨x,rfl⟩;exact (HI.out.N.kept x.bl).range
 have hC2:∀q,(∃x:Gr w1,q=x.w)→q.rangeAt (w.heap.size+2) 0 s.vs:=by rintro _ ⟨x,rfl⟩;exact (HI.out.S.kept x.bl).range
 have HBt:∀(x:Gr w1),Calls Tryz.prog 85 #[.agg j.vs.toArray,.agg nd.vs.toArray] x.w fun e w'=>e=.returned (.bool b)∧Below x.w.heap.size x.w w':=fun x=>HP.out x.w (Below.next HI.out.bl x.bl);have hNE:Nonempty (Gr w1):=⟨⟨_,Below.refl _ _⟩⟩;refine zah 4 (by kernel_rfl) (by kernel_rfl) ?_;simp only[List.take,List.drop];go_big_quiet_want;refine zaa 71 (.tmp 5) rfl _ 0 (by kernel_rfl) s.vs _ hC2 Tryz.underlying71 rfl (by rw[Sta.len];kernel_rfl) ?_
 simp only[Act.put,zA,zB,zC];go_big_quiet_on;go_big_quiet_want;refine zaa 48 (.tmp 3) rfl _ 0 (by kernel_rfl) j.vs _ hC0 Tryz.underlying48 rfl (by kernel_rfl) ?_;simp only[Act.put,zA,zB,zC];go_big_quiet_on;go_big_quiet_want;refine zaa 65 (.tmp 4) rfl _ 0 (by kernel_rfl) nd.vs _ hC1 Tryz.underlying65 rfl (by kernel_rfl) ?_;simp only[Act.put,zA,zB,zC];go_big_quiet_on;go_big_quiet_step ((go_at_call 85;exact Calls.gr _ (HBt _)))
 refine wpQuiet_nil ?_;rintro w4 ⟨x4,rfl⟩;have B5:=x4.bl;generalize x4.w=w4 at B5 ⊢;have HC:=hid (HI.out.kept B5);have bZ:=HC.out.Z;clear x4 B5 hC0 hC1 hC2 HBt hNE HI HP;go_wp2_with (refine zae rfl rfl 71 (.tmp 6) (.tmp 15) rfl (w.heap.size+3) s.vs (by kernel_rfl) (by kernel_rfl) (Sta.va_one _) bZ (by rw[Sta.len,Sta.len]) (by simp only[List.size_toArray,Sta.len];kernel_rfl) ?_;intro w5 W);refine bodyPost_ret (v:=.tuple #[.agg s.vs.toArray,.bool b]) (za1 Tryz.results56 rfl rfl W.blk.range) rfl ?_;rw[HO.out];exact zos (W.below (by omega) HC.out.bl)
def SJN (w:World)(j:Jd)(nd:Nd)(q:World):Prop:=Below w.heap.size w q∧Blk q w.heap.size j.vs 48∧Blk q (w.heap.size+1) nd.vs 65
theorem Mk.sjn {w:World}{j:Jd}{nd:Nd}{u:World}(h:Mk w j nd u):SJN w j nd u:=⟨h.bl,h.J,h.N⟩
theorem zxe {k l h e:Int}{B:Nat}{p q:Ty}{Q:Nat→Prop}(hB:Q B)(hp:p.Blk Q)(hq:q.Blk Q):(mkB k l h e B p q).Blk Q:=⟨fun _=>hB,fun i _=>by
 show (if i=0 then p else q).Blk Q
 split
 ·exact hp
 ·exact hq⟩
theorem zwh {k l h e:Int}{p q p' q':Ty}(hp:p.same p'=true)(hq:q.same q'=true):(mk2 k l h e p q).same (mk2 k l h e p' q')=true:=by
 rw[zbb];refine⟨⟨rfl,rfl,rfl,rfl,rfl⟩,fun i _=>?_⟩;show (if i=0 then p else q).same (if i=0 then p' else q')=true
 split
 ·exact hp
 ·exact hq
theorem zrg (D:Nat)(j:Jd)(nd:Nd)(w:World)(hj:j.At w)(hD:D≤w.heap.size)(hop:nd.h.op=6)(ha:0≤nd.h.a)(ha1:nd.h.a<j.f.slots.len)(hb:0≤nd.h.b)(hb1:nd.h.b<j.f.slots.len):zbl D j nd w:=by
 unfold zbl;have HI:=hid (zb5 w j nd hj);have HG:Hid (j.makes nd=(mk2 3 j.bot 0 0 (j.read nd nd.h.a) (j.read nd nd.h.b),-1)):=by show _=_;unfold Jd.makes;rw[hop];rfl
 have HH:=hid (show (0≤nd.h.a∧nd.h.a<j.f.slots.len)∧(0≤nd.h.b∧nd.h.b<j.f.slots.len)∧D≤w.heap.size from ⟨⟨ha,ha1⟩,⟨hb,hb1⟩,hD⟩);have c0:=HI.out.N.cell 0 (v:=.int .i64 nd.h.op) rfl;rw[hop] at c0;unfold mkW at HI c0;clear hop hj ha ha1 hb hb1 hD;go_enter Tryz.func91,Tryz.ntmps91
 go_upto_region 1 with fail
 generalize (((w.alloc (.cells j.va 48)).alloc (.cells nd.va 65)).alloc (.cells #[.int .i64 0,.int .i64 0,.slice none 0 0,.int .i64 0,.int .i64 0] 38))=w1 at *;go_upto_region 14 with fail
 clear c0;have hS:∀q,(∃x:Wd (SJN w j nd),q=x.w)→SJN w j nd q:=by rintro _ ⟨x,rfl⟩;exact x.2
 have p2:∀x:Wd (SJN w j nd),x.w.cell? ⟨w.heap.size,2,none⟩=some (.int .i64 j.bot):=fun x=>x.2.2.1.cell 2 rfl;have q2:∀x:Wd (SJN w j nd),x.w.cell? ⟨w.heap.size+1,2,none⟩=some (.int .i64 nd.h.a):=fun x=>x.2.2.2.cell 2 rfl;have q3:∀x:Wd (SJN w j nd),x.w.cell? ⟨w.heap.size+1,3,none⟩=some (.int .i64 nd.h.b):=fun x=>x.2.2.2.cell 3 rfl;have HV0:=hid (HI.out.kept (Below.refl w1.heap.size w1).drew);have hNE:Nonempty (Wd (SJN w j nd)):=⟨⟨_,HV0.out.sjn⟩⟩;refine zal (SJN w j nd) [0,1,2,3,4,5,7,8,9,10] 6 (by kernel_rfl) rfl (by kernel_rfl) (zbt (by kernel_rfl)) HV0.out.sjn ?_;simp only[List.filterMap,zD,zE];generalize w1.drew=v0 at *;iterate 2 go_big_quiet_step (fail)
 go_big_quiet_want;refine zaa 48 (.tmp 2) rfl _ 0 (by kernel_rfl) j.vs _ (fun q hq=>(hS q hq).2.1.range) Tryz.underlying48 rfl (by kernel_rfl) ?_;simp only[Act.put,zA,zB,zC];go_big_quiet_on;go_big_quiet_want;refine zaa 65 (.tmp 3) rfl _ 0 (by kernel_rfl) nd.vs _ (fun q hq=>(hS q hq).2.2.range) Tryz.underlying65 rfl (by kernel_rfl) ?_;simp only[Act.put,zA,zB,zC];go_big_quiet_on;iterate 2 go_big_quiet_step (fail)
 go_big_quiet_want;refine zaa 48 (.tmp 2) rfl _ 0 (by kernel_rfl) j.vs _ (fun q hq=>(hS q hq).2.1.range) Tryz.underlying48 rfl (by kernel_rfl) ?_;simp only[Act.put,zA,zB,zC];go_big_quiet_on;go_big_quiet_want;refine zaa 65 (.tmp 3) rfl _ 0 (by kernel_rfl) nd.vs _ (fun q hq=>(hS q hq).2.2.range) Tryz.underlying65 rfl (by kernel_rfl) ?_;simp only[Act.put,zA,zB,zC];go_big_quiet_on;iterate 2 go_big_quiet_step (fail)
 refine wpQuiet_nil ?_;clear hS p2 q2 q3 hNE HI;refine wpAnyH_ready (rs:=[6]) (by kernel_rfl) (by simp) ?_;refine AllReadyH.cons rfl (fun K hK=>?_) AllReadyH.nil;rw[if_pos (by rfl)];go_simp;refine (zbk D j nd nd.h.a v0 HV0.out.hj (by have h1:=HV0.out.sz;have h2:=HH.out.2.2;omega) HH.out.1.1 HH.out.1.2).mono ?_
 rintro _ v1 ⟨u1,rfl,uA,uB,uS,hb9⟩;have HV1:=hid (show Mk w j nd v1∧u1.At v1∧u1.Blk (fun b=>b<D∨w.heap.size+3≤b)∧u1.same (j.read nd nd.h.a)=true from ⟨HV0.out.kept hb9,uA,uB.mono (fun b h=>by have:=HV0.out.sz;omega),uS⟩)
 refine hK.out _ _ HV1.out.1.sjn (fun _=>?_);clear hK K hb9 uA uB uS HV0;refine wpAnyH_ready (rs:=[11]) (by kernel_rfl) (by simp) ?_;refine AllReadyH.cons rfl (fun K hK=>?_) AllReadyH.nil;rw[if_pos (by rfl)];go_simp;refine (zbk D j nd nd.h.b v1 HV1.out.1.hj (by have h1:=HV1.out.1.sz;have h2:=HH.out.2.2;omega) HH.out.2.1.1 HH.out.2.1.2).mono ?_
 rintro _ v2 ⟨u2,rfl,uA,uB,uS,hb9⟩;have HV2:=hid (show Mk w j nd v2∧(u1.At v2∧u1.Blk (fun b=>b<D∨w.heap.size+3≤b)∧u1.same (j.read nd nd.h.a)=true)∧(u2.At v2∧u2.Blk (fun b=>b<D∨w.heap.size+3≤b)∧u2.same (j.read nd nd.h.b)=true) from ⟨HV1.out.1.kept hb9,⟨HV1.out.2.1.kept hb9,HV1.out.2.2⟩,⟨uA,uB.mono (fun b h=>by have:=HV1.out.1.sz;omega),uS⟩⟩)
 refine hK.out _ _ HV2.out.1.sjn (fun _=>?_);clear hK K hb9 uA uB uS HV1;refine wpAnyH_ready (rs:=[12]) (by kernel_rfl) (by simp) ?_;refine AllReadyH.cons rfl (fun K hK=>?_) AllReadyH.nil;rw[if_pos (by rfl)];have hrn:=zcc u1 u2 v2;have hb9:=zac v2 (.cells (u1.vs++u2.vs).toArray 38);have HV3:=hid (show Mk w j nd (v2.alloc (.cells (u1.vs++u2.vs).toArray 38))∧(u1.At (v2.alloc (.cells (u1.vs++u2.vs).toArray 38))∧u1.Blk (fun b=>b<D∨w.heap.size+3≤b)∧u1.same (j.read nd nd.h.a)=true)∧(u2.At (v2.alloc (.cells (u1.vs++u2.vs).toArray 38))∧u2.Blk (fun b=>b<D∨w.heap.size+3≤b)∧u2.same (j.read nd nd.h.b)=true)∧Blk (v2.alloc (.cells (u1.vs++u2.vs).toArray 38)) v2.heap.size (u1.vs++u2.vs) 38∧w.heap.size+3≤v2.heap.size from ⟨HV2.out.1.kept hb9,⟨HV2.out.2.1.1.kept hb9,HV2.out.2.1.2⟩,⟨HV2.out.2.2.1.kept hb9,HV2.out.2.2.2⟩,Blk.new v2 _ _,HV2.out.1.sz⟩);refine zbe 36 2 #[(0,.tmp 49),(1,.tmp 54)] rfl #[(0,.agg u1.vs.toArray),(1,.agg u2.vs.toArray)] (by kernel_rfl) hrn ?_;refine hK.out _ _ HV3.out.1.sjn (fun _=>?_);clear hK K hb9 hrn HV2;generalize (v2.alloc (.cells (u1.vs++u2.vs).toArray 38))=v3 at *;generalize v2.heap.size=BS at *;refine wpAnyH_ready (rs:=[13]) (by kernel_rfl) (by simp) ?_;refine AllReadyH.cons rfl (fun K hK=>?_) AllReadyH.nil;rw[if_pos (by rfl)];go_simp;refine hK.out _ _ HV3.out.1.sjn (fun _=>?_);clear hK K;refine wpAnyH_ready (rs:=[14]) (by kernel_rfl) (by simp) ?_;refine AllReadyH.cons rfl (fun K hK=>?_) AllReadyH.nil;rw[if_pos (by rfl)];refine zak 38 (.tmp 4) (.tmp 56) rfl rfl (w.heap.size+2) (mkB 3 j.bot 0 0 BS u1 u2).vs zTv (by kernel_rfl) (by kernel_rfl) rfl HV3.out.1.Z rfl (by kernel_rfl) ?_;intro w6 W2;have HV4:=hid (show SJN w j nd w6∧(mkB 3 j.bot 0 0 BS u1 u2).At w6 from ⟨⟨W2.below (by omega) HV3.out.1.bl,W2.keep HV3.out.1.J (by omega),W2.keep HV3.out.1.N (by omega)⟩,zef (HV3.out.2.1.1.wrote HV3.out.2.1.2.1 W2 (by have:=HH.out.2.2;omega) (by omega)) (HV3.out.2.2.1.1.wrote HV3.out.2.2.1.2.1 W2 (by have:=HH.out.2.2;omega) (by omega)) (W2.keep HV3.out.2.2.2.1 (by have:=HV3.out.2.2.2.2;omega))⟩)
 refine hK.out _ _ HV4.out.1 (fun _=>?_);clear hK K;refine wpAnyH_ready (rs:=[15]) (by kernel_rfl) (by simp) ?_;refine AllReadyH.cons rfl (fun K hK=>?_) AllReadyH.nil;rw[if_pos (by rfl)];go_simp;refine hK.out _ _ HV4.out.1 (fun _=>?_);clear hK K;refine wpAnyH_done (by kernel_rfl) ?_ _;refine⟨(fun c hc=>by cases hc),?_⟩;have z0:=W2.blk.cell 0 (v:=.int .i64 3) rfl;have z1:=W2.blk.cell 1 (v:=.int .i64 j.bot) rfl;have z2:=W2.blk.cell 2 (v:=.slice (some ⟨BS,0,none⟩) 2 2) rfl;have z3:=W2.blk.cell 3 (v:=.int .i64 0) rfl;have z4:=W2.blk.cell 4 (v:=.int .i64 0) rfl;go_wp2;refine bodyPost_ret (v:=.tuple #[.agg (mkB 3 j.bot 0 0 BS u1 u2).vs.toArray,.int .i64 (-1)]) (by simp[results,Tryz.results91,go_sem,z0,z1,z2,z3,z4,Ty.vs,mkB,Ty.k,Ty.l,Ty.ao,Ty.len,Ty.cap,Ty.h,Ty.e]) rfl ?_;rw[HG.out];exact zdl _ HV4.out.2 (zxe (by have:=HV3.out.2.2.2.2;omega) (HV3.out.2.1.2.1.mono (fun b h=>by omega)) (HV3.out.2.2.1.2.1.mono (fun b h=>by omega))) (zb4 _ _ _ mkB_same (zwh HV3.out.2.1.2.2 HV3.out.2.2.1.2.2)) HV4.out.1.1
end
end Go.Proofs.YtgioppfoceddfaaGreat
