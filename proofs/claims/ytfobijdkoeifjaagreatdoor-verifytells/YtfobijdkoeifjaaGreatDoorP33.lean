import Derived.Test.YtfobijdkoeifjaaGreatDoorP28
import Derived.Test.YtfobijdkoeifjaaGreatDoorP14
import Derived.Test.YtfobijdkoeifjaaGreatDoorP9
import Derived.Test.YtfobijdkoeifjaaGreatDoorP31
import Derived.Test.YtfobijdkoeifjaaGreatDoorP25
set_option maxRecDepth 100000
set_option maxHeartbeats 32000000
namespace Go.Proofs.YtfobijdkoeifjaaGreatDoor
section
open Go Go.RowKit
def badB (f:Cf)(x:Rn):Bool:=!f.pl x.at_||(decide (x.join≠-1)&&!f.pl x.join)
def hldB (x:Rn)(p:Nat):Bool:=decide ((p:Int) ∈ x.ps.ls)
theorem zf6 {f:Cf}{g:Rw Bool}{x:Rn}{p:Nat}(hp:p<f.cd.len):styB f g x.join (hldB x) p=true↔f.wit g x p:=by
 unfold styB;rw[decide_eq_true_iff,zst hp]
 constructor
 ·intro h q hq;rcases h q (zfa.2 ⟨q,rfl,hq.2⟩) with h1 | h1
  ·right;unfold hldB at h1;simpa using h1
  ·exact Or.inl h1
 ·intro h b hb;obtain⟨q,rfl,hq⟩:=zfa.1 hb;rcases h q ⟨hp,hq⟩ with h1 | h1
  ·exact Or.inr h1
  ·left;unfold hldB;simpa using h1
theorem znf {f:Cf}{a:Int}(h:f.pl a=true):∃p:Nat,a=p∧p<f.cd.len:=by
 have:=Cf.pl_iff.1 h;exact⟨a.toNat,by omega,by omega⟩
theorem wit_no {f:Cf}{g:Rw Bool}{x:Rn}{a:Int}(h:f.pl a=false):f.wit g x a:=by
 unfold Cf.wit Cf.wsI;rw[if_neg (by rw[h];simp)]
 intro b hb;cases hb
theorem zsh {f:Cf}{g:Rw Bool}{x:Rn}:ehB (hldB x) (styB f g x.join (hldB x)) f.cd.len=true↔¬∃i,i<x.ps.len∧¬f.wit g x (x.ps.x i):=by
 unfold ehB;rw[decide_eq_true_iff]
 constructor
 ·rintro h ⟨i,hi,hw⟩;cases e:f.pl (x.ps.x i)
  ·exact hw (wit_no e)
  ·obtain⟨p,e1,hp⟩:=znf e;rw[e1] at hw;refine hw ((zf6 hp).1 (h p hp ?_));unfold hldB;rw[decide_eq_true_iff,←e1];exact Rw.mem_ls.2 ⟨i,hi,rfl⟩
 ·intro h p hp hm;unfold hldB at hm;rw[decide_eq_true_iff] at hm;obtain⟨i,hi,e⟩:=Rw.mem_ls.1 hm;rw[zf6 hp];by_cases c:f.wit g x p
  ·exact c
  ·exact absurd ⟨i,hi,by rw[e];exact c⟩ h
theorem zrf {f:Cf}{g:Rw Bool}{x:Rn}(hj:x.join≠-1):ehB (hldB x) (remB f g x.join) f.cd.len=true↔¬∃i,i<x.ps.len∧f.lvI g (x.ps.x i)=true:=by
 unfold ehB;rw[decide_eq_true_iff];have hr:∀p,remB f g x.join p=!f.lv g p:=fun p=>by unfold remB;rw[decide_eq_false hj];rfl
 constructor
 ·rintro h ⟨i,hi,hw⟩;cases e:f.pl (x.ps.x i)
  ·unfold Cf.lvI at hw;rw[e] at hw;cases hw
  ·obtain⟨p,e1,hp⟩:=znf e;rw[e1,zhy hp] at hw;have h2:=h p hp (by unfold hldB;rw[decide_eq_true_iff,←e1];exact Rw.mem_ls.2 ⟨i,hi,rfl⟩)
   rw[hr,hw] at h2;cases h2
 ·intro h p hp hm;unfold hldB at hm;rw[decide_eq_true_iff] at hm;obtain⟨i,hi,e⟩:=Rw.mem_ls.1 hm;rw[hr];cases c:f.lv g p
  ·rfl
  ·exact absurd ⟨i,hi,by rw[e,zhy hp];exact c⟩ h
theorem zwz {f:Cf}{g:Rw Bool}{x:Rn}{p:Nat}(hj:x.join=-1):remB f g x.join p=true∧ehB (hldB x) (remB f g x.join) f.cd.len=true:=by
 have hr:∀p,remB f g x.join p=true:=fun p=>by unfold remB;rw[decide_eq_true hj];rfl
 refine⟨hr p,?_⟩;unfold ehB;rw[decide_eq_true_iff];exact fun p _ _=>hr p
theorem zid {f:Cf}{x:Rn}:badB f x=true↔f.pl x.at_=false∨(x.join≠-1∧f.pl x.join=false):=by
 unfold badB;simp
theorem zud {f:Cf}{g:Rw Bool}{x:Rn}(h:badB f x=true):f.hold g x=-1:=by
 unfold Cf.hold;rw[if_pos (zid.1 h)]
theorem ztu {f:Cf}{g:Rw Bool}{x:Rn}{p:Nat}(h:badB f x=false)(ha:x.at_=p)(hp:p<f.cd.len)(h1:styB f g x.join (hldB x) p=false):f.hold g x=1:=by
 unfold Cf.hold;rw[if_neg (fun k=>by rw[zid.2 k] at h;cases h),if_pos (fun k=>by rw[ha] at k;rw[(zf6 hp).2 k] at h1;cases h1)]
theorem zt9 {f:Cf}{g:Rw Bool}{x:Rn}{p:Nat}(h:badB f x=false)(ha:x.at_=p)(hp:p<f.cd.len)(h1:styB f g x.join (hldB x) p=true)(h2:ehB (hldB x) (styB f g x.join (hldB x)) f.cd.len=false):f.hold g x=2:=by
 unfold Cf.hold;rw[if_neg (fun k=>by rw[zid.2 k] at h;cases h),if_neg (fun k=>k (by rw[ha];exact (zf6 hp).1 h1)),if_pos]
 by_cases c:∃i,i<x.ps.len∧¬f.wit g x (x.ps.x i)
 ·exact c
 ·rw[zsh.2 c] at h2;cases h2
theorem zvf {f:Cf}{g:Rw Bool}{x:Rn}{p:Nat}(h:badB f x=false)(ha:x.at_=p)(hp:p<f.cd.len)(h1:styB f g x.join (hldB x) p=true)(h2:ehB (hldB x) (styB f g x.join (hldB x)) f.cd.len=true) :
  (remB f g x.join p=true→ehB (hldB x) (remB f g x.join) f.cd.len=true→f.hold g x=0)∧(remB f g x.join p=false∨ehB (hldB x) (remB f g x.join) f.cd.len=false→f.hold g x=3):=by
 unfold Cf.hold;rw[if_neg (fun k=>by rw[zid.2 k] at h;cases h),if_neg (fun k=>k (by rw[ha];exact (zf6 hp).1 h1)),if_neg (zsh.1 h2)]
 by_cases hj:x.join=-1
 ·rw[if_pos hj];have:=zwz (f:=f) (g:=g) (p:=p) hj;refine⟨fun _ _=>rfl,?_⟩;rintro (k | k)
  ·rw[this.1] at k;cases k
  ·rw[this.2] at k;cases k
 ·rw[if_neg hj];have hr:remB f g x.join p=!f.lv g p:=by unfold remB;rw[decide_eq_false hj];rfl
  have hl:f.lvI g x.at_=f.lv g p:=by rw[ha,zhy hp]
  rw[hr,hl]
  constructor
  ·intro k1 k2;rw[if_neg];rintro (k | k)
   ·rw[k] at k1;cases k1
   ·exact (zrf hj).1 k2 k
  ·rintro (k | k)
   ·rw[if_pos]
    left
    cases c:f.lv g p
    ·rw[c] at k;cases k
    ·rfl
   ·rw[if_pos]
    right
    by_cases c:∃i,i<x.ps.len∧f.lvI g (x.ps.x i)=true
    ·exact c
    ·rw[(zrf hj).2 c] at k;cases k
structure Hq (w0:World)(f:Cf)(g:Rw Bool)(x:Rn)(u:World):Prop where
 bl:Below w0.heap.size w0 u
 bF:Blk u w0.heap.size f.vs 44
 bG:Blk u (w0.heap.size+1) [.slice g.ao g.len g.cap] 34
 bX:Blk u (w0.heap.size+2) x.vs 53
theorem Hq.kept {w0:World}{f:Cf}{g:Rw Bool}{x:Rn}{u u':World}(h:Hq w0 f g x u)(hb:Below u.heap.size u u'):Hq w0 f g x u':=⟨Below.next h.bl hb,h.bF.kept hb,h.bG.kept hb,h.bX.kept hb⟩
theorem Ln.sty {f l:Cf}{g:Rw Bool}(h:Ln f g l){j:Int}{m:Nat→Bool}{p:Nat}(hp:p<f.cd.len):styB l g j m p=styB f g j m p:=by unfold styB;rw[h.ws hp]
theorem Ln.rem {f l:Cf}{g:Rw Bool}(h:Ln f g l){j:Int}{p:Nat}(hp:p<f.cd.len):remB l g j p=remB f g j p:=by unfold remB;rw[h.lv hp]
theorem zm9 {m A A':Nat→Bool}{n:Nat}(h:∀p,p<n→A p=A' p):ehB m A n=ehB m A' n:=by
 unfold ehB;apply decide_eq_decide.2
 constructor
 ·intro k p hp hm;rw[←h p hp];exact k p hp hm
 ·intro k p hp hm;rw[h p hp];exact k p hp hm
theorem Ln.ehs {f l:Cf}{g:Rw Bool}(h:Ln f g l){j:Int}{m:Nat→Bool}:ehB m (styB l g j m) l.cd.len=ehB m (styB f g j m) f.cd.len:=by rw[h.cd];exact zm9 fun p hp=>h.sty hp
theorem Ln.ehr {f l:Cf}{g:Rw Bool}(h:Ln f g l){j:Int}{m:Nat→Bool}:ehB m (remB l g j) l.cd.len=ehB m (remB f g j) f.cd.len:=by rw[h.cd];exact zm9 fun p hp=>h.rem hp
theorem zok (f:Cf)(g:Rw Bool)(x:Rn)(w:World)(hf:f.At w)(hg:BlAt w g)(hx:x.At w)(hA:Agd f)(hh:f.hd.len≤100000):Calls Tryz.prog 16 #[.agg f.vs.toArray,.slice g.ao g.len g.cap,.agg x.vs.toArray] w fun e w'=>e=.returned (.int .i64 (f.hold g x))∧Below w.heap.size w w':=by
 have hn:f.cd.len≤100000:=by have:=hA.few;omega
 have A0:=za9 [.cells f.vs.toArray 44,.cells #[.slice g.ao g.len g.cap] 34,.cells x.vs.toArray 53] w;have A1:=zbe [.cells f.vs.toArray 44,.cells #[.slice g.ao g.len g.cap] 34,.cells x.vs.toArray 53] w;simp only[List.foldl] at A0 A1;have H1:Hid (Hq w f g x _):=⟨A0,A1 0 (by simp),A1 1 (by simp),A1 2 (by simp)⟩;have hmf:∀(fn:Go.Fn) (first cap:Array Value) (w:World),(Instr.makeFunc fn first cap).run Tryz.prog w=.ok (.func fn first cap) w:=fun _ _ _ _=>rfl;have HD:=hyd (show ((f.At w∧BlAt w g)∧x.At w)∧Agd f from ⟨⟨⟨hf,hg⟩,hx⟩,hA⟩);have HB1:=hyd (fun h=>zud (f:=f) (g:=g) (x:=x) h);have HB2:=hyd (fun p h ha hp h1=>ztu (f:=f) (g:=g) (x:=x) (p:=p) h ha hp h1);have HB3:=hyd (fun p h ha hp h1 h2=>zt9 (f:=f) (g:=g) (x:=x) (p:=p) h ha hp h1 h2);have HB4:=hyd (fun p h ha hp h1 h2=>zvf (f:=f) (g:=g) (x:=x) (p:=p) h ha hp h1 h2);generalize f.hold g x=R at *;clear A0 A1 hf hg hx hA;generalize hw:((w.alloc (.cells f.vs.toArray 44)).alloc (.cells #[.slice g.ao g.len g.cap] 34)).alloc (.cells x.vs.toArray 53)=u1 at *;go_enter Tryz.func16,Tryz.ntmps16
 go_upto_region 1 with fail
 clear hw;have rF:=H1.out.bF.range;have h0:=zlu f u1 (Cf.At.kept H1.out.bl HD.out.1.1.1) HD.out.2;go_wp2_with (refine wpList_load_mid rfl 44 (.tmp 3) rfl w.heap.size 0 (by kernel_rfl) f.vs _ rF Tryz.underlying44 rfl (by kernel_rfl) ?_)
 refine h0.mono ?_;rintro _ u2 ⟨rfl,hb⟩;have H2:=hyd (H1.out.kept hb);clear h0 hb H1 rF;go_upto_region 3 with fail
 go_cut [29] (fun c wx=>∃bb:Bool,c=.bool bb∧Hid (bb=badB f x∧Hq w f g x wx))
 case first =>
  have HBB:Hid (badB f x=(!f.pl x.at_||(decide (x.join≠-1)&&!f.pl x.join))):=rfl;generalize badB f x=bx at *;have rF:=H2.out.bF.range;have cX:=H2.out.bX.cell 0 rfl;have h0:=zew f x.at_ u2;generalize f.pl x.at_=pa at *;go_wp2_with (refine wpList_load_mid rfl 44 (.tmp 3) rfl w.heap.size 0 (by kernel_rfl) f.vs _ rF Tryz.underlying44 rfl (by kernel_rfl) ?_)
  refine h0.mono ?_;rintro _ u3 ⟨rfl,hb⟩;have H3:=hyd (H2.out.kept hb);clear h0 hb H2 rF cX;cases pa
  ·have HE:Hid (bx=true):=HBB.out;clear HBB;go_wp2;go_meet
   case rel=>exact⟨true,rfl,HE.out.symm,H3.out⟩
  ·have HB2:Hid (bx=(decide (x.join≠-1)&&!f.pl x.join)):=HBB.out;clear HBB;have cX:=H3.out.bX.cell 1 rfl;have rF:=H3.out.bF.range;have h0:=zew f x.join u3;generalize f.pl x.join=pj at *;generalize x.join=xj at *;by_cases ej:xj=-1
   ·have e1:(xj != -1)=false:=by simpa using ej
    have HE:Hid (bx=false):=by show _=_;rw[HB2.out,ej];rfl
    clear ej h0 HB2;go_wp2;go_meet
    case rel=>exact⟨false,rfl,HE.out.symm,H3.out⟩
   ·have e1:(xj != -1)=true:=by simpa using ej
    have HE:Hid (bx=!pj):=by show _=_;rw[HB2.out,decide_eq_true ej];rfl
    clear ej HB2;go_wp2_with (refine zcp (by kernel_rfl) 44 (.tmp 3) rfl w.heap.size 0 (by kernel_rfl) f.vs _ rF Tryz.underlying44 rfl (by kernel_rfl) ?_)
    refine h0.mono ?_;rintro _ u4 ⟨rfl,hb⟩;have H4:=hyd (H3.out.kept hb);clear h0 hb H3 rF cX;cases pj
    ·have HE2:Hid (bx=true):=HE.out;clear HE;go_wp2;go_meet
     case rel=>exact⟨true,rfl,HE2.out.symm,H4.out⟩
    ·have HE2:Hid (bx=false):=HE.out;clear HE;go_wp2;go_meet
     case rel=>exact⟨false,rfl,HE2.out.symm,H4.out⟩
 case rest =>
 clear H2;obtain⟨bb,rfl,hc⟩:=hcut;have H2:=hyd hc.out.2;have HBE:=hyd hc.out.1;clear hc;cases bb
 case true =>
  have HE:Hid (R=-1):=HB1.out HBE.out.symm;go_wp2;go_ret;exact⟨zbo HE.out.symm,H2.out.bl⟩
 clear HB1;obtain⟨p,hpa,hp⟩:∃p:Nat,x.at_=p∧p<f.cd.len:=znf (by
  have:=HBE.out.symm;unfold badB at this;cases c:f.pl x.at_
  ·rw[c] at this;cases this
  ·rfl)
 have HBF:Hid (badB f x=false):=HBE.out.symm;clear HBE;have HPA:=hyd hpa;clear hpa;have rF:=H2.out.bF.range;have cG:=H2.out.bG.cell 0 rfl;have h0:=ztq f g wc (Cf.At.kept H2.out.bl HD.out.1.1.1) (BlAt.kept HD.out.1.1.2 H2.out.bl) hn hh;go_wp2_with (refine wpList_load_mid rfl 44 (.tmp 3) rfl w.heap.size 0 (by kernel_rfl) f.vs _ rF Tryz.underlying44 rfl (by kernel_rfl) ?_)
 refine h0.mono ?_;rintro _ u4 ⟨l0,rfl,hlO,hb⟩;have H4:=hyd (show Hq w f g x u4∧LnO f g wc.heap.size l0 u4 from ⟨H2.out.kept hb,hlO⟩);clear h0 hlO hb H2 rF cG;go_upto_region 6 with (refine zag rfl rfl 44 (.tmp 3) (.tmp 32) rfl w.heap.size l0.vs rfl rfl l0.vs_one H4.out.1.bF rfl (by kernel_rfl) ?_;intro w5 W5;have H50:Hid (Hq w l0 g x w5):=⟨zce H4.out.1.bl W5.gb (fun k e=>by have:=Option.some.inj e;omega),W5.blk,H4.out.1.bG.gb W5.gb (fun e=>by have:=Option.some.inj e;omega),H4.out.1.bX.gb W5.gb (fun e=>by have:=Option.some.inj e;omega)⟩;have HG5:=hyd (H4.out.2.gb W5.gb H4.out.1.bF (Cf.At.kept H50.out.bl HD.out.1.1.1));clear W5 H4)
 obtain⟨l,hlv,hlO⟩:=HG5.out;have H5:Hid (Hq w l g x w5):=⟨H50.out.bl,by rw[hlv];exact H50.out.bF,H50.out.bG,H50.out.bX⟩
 rw[←hlv];have HO:=hyd hlO;clear H50 HG5 hlv hlO;have rF:=H5.out.bF.range;have cX:=H5.out.bX.cell 2 rfl;have h0:=zqi l x.ps w5 (HD.out.1.2.ps.kept H5.out.bl) (by rw[HO.out.ln.cd];exact hn)
 have HLC:=hyd HO.out.ln.cd;go_wp2_with (refine wpList_load_mid rfl 44 (.tmp 3) rfl w.heap.size 0 (by kernel_rfl) l.vs _ rF Tryz.underlying44 rfl (by kernel_rfl) ?_)
 refine h0.mono ?_;rintro _ u6 ⟨BH,rfl,hBHn,hBH,hb⟩;have H6:=hyd (show (Hq w l g x u6∧l.At u6)∧Blk u6 BH (bvL (hldB x) l.cd.len) 4∧w.heap.size+2<BH from ⟨⟨H5.out.kept hb,Cf.At.kept hb HO.out.lat⟩,hBH,by have:=H5.out.bX.lt;omega⟩)
 have HLN:=hyd HO.out.ln;clear h0 hBHn hBH hb H5 HO rF cX;go_upto_region 7 with (refine zbf rfl 34 (.tmp 7) (.tmp 36) rfl rfl u6.heap.size 0 (.slice (some ⟨BH,0,none⟩) l.cd.len l.cd.len) _ _ (by kernel_rfl) (by kernel_rfl) (zaw _ _ (by kernel_rfl) rfl rfl _ _) (Blk.new u6 [.slice none 0 0] 34) (by simp) ?_;intro w7 W7)
 have B6:=zac u6 (.cells #[.slice none 0 0] 34);have hs6:=H6.out.1.1.bX.lt;have hs7:=H6.out.2.1.lt;have bF6:=((H6.out.1.1.bF.kept B6).gb W7.gb (fun e=>by have:=Option.some.inj e;omega))
 have bG6:=((H6.out.1.1.bG.kept B6).gb W7.gb (fun e=>by have:=Option.some.inj e;omega))
 have bX6:=((H6.out.1.1.bX.kept B6).gb W7.gb (fun e=>by have:=Option.some.inj e;omega))
 have bH6:=((H6.out.2.1.kept B6).gb W7.gb (fun e=>by have:=Option.some.inj e;omega))
 have bl7:Below w.heap.size w w7:=zce (Below.next H6.out.1.1.bl B6) W7.gb (fun k e=>by have:=Option.some.inj e;omega)
 have H70:=hyd (show (Blk w7 w.heap.size l.vs 44∧Blk w7 (w.heap.size+1) [.slice g.ao g.len g.cap] 34)∧(Blk w7 (w.heap.size+2) x.vs 53∧Blk w7 u6.heap.size [.slice (some ⟨BH,0,none⟩) l.cd.len l.cd.len] 34)∧Blk w7 BH (bvL (hldB x) l.cd.len) 4∧Below w.heap.size w w7∧Below u6.heap.size u6 w7 from ⟨⟨bF6,bG6⟩,⟨bX6,W7.blk⟩,bH6,bl7,zce B6 W7.gb (fun k e=>by have:=Option.some.inj e;omega)⟩)
 have H7:Hid (Hz w.heap.size (w.heap.size+1) (w.heap.size+2) u6.heap.size BH l g x (hldB x) w7∧Below w.heap.size w w7):=⟨⟨H70.out.1.1,H70.out.1.2,H70.out.2.1.1,H70.out.2.1.2,H70.out.2.2.1,Cf.At.kept H70.out.2.2.2.2 H6.out.1.2,BlAt.kept HD.out.1.1.2 bl7⟩,bl7⟩;clear B6 hs6 hs7 bF6 bG6 bX6 bH6 bl7 H70 W7 H6;generalize u6.heap.size=B7 at *;have hpl:p<l.cd.len:=by rw[HLC.out];exact hp
 have hnl:l.cd.len≤100000:=by rw[HLC.out];exact hn
 have HC1:Hid (styB l g x.join (hldB x) p=false→R=1):=fun h=>HB2.out p HBF.out HPA.out hp (by rw[←HLN.out.sty hp];exact h)
 have HC2:Hid (styB l g x.join (hldB x) p=true→ehB (hldB x) (styB l g x.join (hldB x)) l.cd.len=false→R=2):=fun h h2=>HB3.out p HBF.out HPA.out hp (by rw[←HLN.out.sty hp];exact h) (by rw[←HLN.out.ehs];exact h2)
 have HC3:Hid (styB l g x.join (hldB x) p=true→ehB (hldB x) (styB l g x.join (hldB x)) l.cd.len=true→(remB l g x.join p=true→ehB (hldB x) (remB l g x.join) l.cd.len=true→R=0)∧(remB l g x.join p=false∨ehB (hldB x) (remB l g x.join) l.cd.len=false→R=3)):=fun h h2=>by
  have:=HB4.out p HBF.out HPA.out hp (by rw[←HLN.out.sty hp];exact h) (by rw[←HLN.out.ehs];exact h2)
  rw[←HLN.out.rem hp,←HLN.out.ehr (j:=x.join) (m:=hldB x)] at this;exact this
 clear HB2 HB3 HB4 HBF;have h1:=zll w.heap.size (w.heap.size+1) (w.heap.size+2) B7 BH l g x (hldB x) p w7 H7.out.1 hpl hnl;have HH2:Hid (∀u,Hz w.heap.size (w.heap.size+1) (w.heap.size+2) B7 BH l g x (hldB x) u→Calls Tryz.prog 45 #[.slice (some ⟨BH,0,none⟩) l.cd.len l.cd.len,.func (.func 41) #[] #[.pointer (some ⟨w.heap.size,0,none⟩),.pointer (some ⟨w.heap.size+1,0,none⟩),.pointer (some ⟨B7,0,none⟩),.pointer (some ⟨w.heap.size+2,0,none⟩)]] u fun e u'=>e=.returned (.bool (ehB (hldB x) (styB l g x.join (hldB x)) l.cd.len))∧Below u.heap.size u u'):=fun u hu=>zl5 w.heap.size (w.heap.size+1) (w.heap.size+2) B7 BH l g x (hldB x) u hu hnl;have HH3:Hid (∀u,Hz w.heap.size (w.heap.size+1) (w.heap.size+2) B7 BH l g x (hldB x) u→Calls Tryz.prog 43 #[.int .i64 p,.pointer (some ⟨w.heap.size+2,0,none⟩),.pointer (some ⟨w.heap.size,0,none⟩),.pointer (some ⟨w.heap.size+1,0,none⟩)] u fun e u'=>e=.returned (.bool (remB l g x.join p))∧Below u.heap.size u u'):=fun u hu=>ziw w.heap.size (w.heap.size+1) (w.heap.size+2) B7 BH l g x (hldB x) p u hu hpl;have HH4:Hid (∀u,Hz w.heap.size (w.heap.size+1) (w.heap.size+2) B7 BH l g x (hldB x) u→Calls Tryz.prog 45 #[.slice (some ⟨BH,0,none⟩) l.cd.len l.cd.len,.func (.func 43) #[] #[.pointer (some ⟨w.heap.size+2,0,none⟩),.pointer (some ⟨w.heap.size,0,none⟩),.pointer (some ⟨w.heap.size+1,0,none⟩)]] u fun e u'=>e=.returned (.bool (ehB (hldB x) (remB l g x.join) l.cd.len))∧Below u.heap.size u u'):=fun u hu=>zl1 w.heap.size (w.heap.size+1) (w.heap.size+2) B7 BH l g x (hldB x) u hu hnl;generalize ehB (hldB x) (styB l g x.join (hldB x)) l.cd.len=s2 at *;generalize styB l g x.join (hldB x) p=s1 at *;generalize ehB (hldB x) (remB l g x.join) l.cd.len=s4 at *;generalize remB l g x.join p=s3 at *;go_upto_region 9 with fail
 have cX:=H7.out.1.bX.cell 0 rfl;rw[HPA.out] at cX;go_wp2_with fail
 refine h1.mono ?_;rintro _ u8 ⟨rfl,hb⟩;have H8:=hyd (show Hz w.heap.size (w.heap.size+1) (w.heap.size+2) B7 BH l g x (hldB x) u8∧Below w.heap.size w u8 from ⟨H7.out.1.kept hb,Below.next H7.out.2 hb⟩);clear h1 hb H7 cX;cases s1
 ·have HE:Hid (R=1):=HC1.out rfl;go_wp2;go_ret;exact⟨zbo HE.out.symm,H8.out.2⟩
 clear HC1;have c7:=H8.out.1.b7.cell 0 rfl;have h1:=HH2.out u8 H8.out.1;go_wp2_with fail
 refine h1.mono ?_;rintro _ u9 ⟨rfl,hb⟩;have H9:=hyd (show Hz w.heap.size (w.heap.size+1) (w.heap.size+2) B7 BH l g x (hldB x) u9∧Below w.heap.size w u9 from ⟨H8.out.1.kept hb,Below.next H8.out.2 hb⟩);clear h1 hb H8 c7 HH2;cases s2
 ·have HE:Hid (R=2):=HC2.out (by simp) rfl;go_wp2;go_ret;exact⟨zbo HE.out.symm,H9.out.2⟩
 clear HC2;have HC4:=hyd (HC3.out (by simp) (by simp));clear HC3;have cX:=H9.out.1.bX.cell 0 rfl;rw[HPA.out] at cX;have h1:=HH3.out u9 H9.out.1;go_wp2_with fail
 refine h1.mono ?_;rintro _ w10 ⟨rfl,hb⟩;have H10:=hyd (show Hz w.heap.size (w.heap.size+1) (w.heap.size+2) B7 BH l g x (hldB x) w10∧Below w.heap.size w w10 from ⟨H9.out.1.kept hb,Below.next H9.out.2 hb⟩);clear h1 hb H9 cX HH3;cases s3
 ·have HE:Hid (R=3):=HC4.out.2 (Or.inl rfl);go_wp2;go_ret;exact⟨zbo HE.out.symm,H10.out.2⟩
 have c7:=H10.out.1.b7.cell 0 rfl;have h1:=HH4.out w10 H10.out.1;go_wp2_with fail
 refine h1.mono ?_;rintro _ w11 ⟨rfl,hb⟩;have H11:=hyd (Below.next H10.out.2 hb);clear h1 hb H10 c7 HH4;cases s4
 ·have HE:Hid (R=3):=HC4.out.2 (Or.inr rfl);go_wp2;go_ret;exact⟨zbo HE.out.symm,H11.out⟩
 ·have HE:Hid (R=0):=HC4.out.1 (by simp) rfl;go_wp2;go_ret;exact⟨zbo HE.out.symm,H11.out⟩
theorem zgy {P:Program}{md:Region.Mode}{ops:Array Oper}{C S:World→Prop}{Q:Exit→Act→World→Prop}{Q':Act→Prop}(hCS:∀w,C w→S w)(hQ:∀a w,C w→Q' a→Q .normal a w):∀(fuel:Nat) (listed:Array Bool) (a:Act) (w:World),C w→wpAnyQ P md ops C Q' fuel listed a→wpAnyH P md ops Q S fuel listed a w
 | 0,_,_,_,hw,h=>⟨h.1,hQ _ _ hw h.2⟩
 | fuel+1,_,_,_,hw,h=>⟨fun h0=>hQ _ _ hw (h.1 h0),fun i hi=>wpOp_of_qOp hw (fun a' w' hw' h'=>⟨hCS _ hw',zgy hCS hQ fuel _ a' w' hw' h'⟩) (h.2 i hi)⟩
theorem zpx {P:Program}{L:List Oper}{S:World→Prop}{Q:Exit→Act→World→Prop}{fuel:Nat}{listed:Array Bool}{a:Act}{w:World}(k:Nat)(hf:(L.drop k).length=fuel)(hB:(Region.noSelect L.toArray&&Region.lexFrom .any L.toArray (L.drop k).length k listed)=true)(hS:∀u,Below w.heap.size w u→S u)
  (h:wpQuiet P L.toArray (fun u=>∃x:Gr w,u=x.w) (fun a'=>∀u,(∃x:Gr w,u=x.w)→Q .normal a' u) (L.drop k) a):wpAnyH P .any L.toArray Q S fuel listed a w:=by
 rw[Bool.and_eq_true] at hB;subst hf;refine zgy (C:=fun u=>∃x:Gr w,u=x.w) (Q':=fun a'=>∀u,(∃x:Gr w,u=x.w)→Q .normal a' u) (fun u hu=>by obtain⟨x,rfl⟩:=hu;exact hS _ x.bl) (fun a' u hu h'=>h' u hu) _ _ _ _ ⟨⟨_,Below.refl _ _⟩,rfl⟩ ?_
 exact wpAnyQ_lex hB.1 (L.drop k) k listed a (fun j=>by simp) hB.2 h
structure Ru (w0 w:World)(v:Vp)(g:Rw Bool)(BJ BS:Nat)(tT st sl:Ty)(k p:Int)(s t:Ty)(B1 B2:Nat)(u:World):Prop where
 r:Sr w0 v g BJ BS tT st sl k p u
 bl:Below w.heap.size w u
 b1:Blk u B1 s.vs 38
 b2:Blk u B2 t.vs 38
 s0:s.At w0
 t0:t.At w0
theorem Ru.kept {w0 w:World}{v:Vp}{g:Rw Bool}{BJ BS:Nat}{tT st sl:Ty}{k p:Int}{s t:Ty}{B1 B2:Nat}{u u':World}(h:Ru w0 w v g BJ BS tT st sl k p s t B1 B2 u)(hb:Below u.heap.size u u'):Ru w0 w v g BJ BS tT st sl k p s t B1 B2 u':=⟨h.r.kept hb,Below.next h.bl hb,h.b1.kept hb,h.b2.kept hb,h.s0,h.t0⟩
theorem zsc (w0:World)(v:Vp)(g:Rw Bool)(BJ BS:Nat)(tT st sl:Ty)(k p:Int)(w:World)(h:Sr w0 v g BJ BS tT st sl k p w)(hn:1<v.need)(hfm:(v.tk 0).k=5→(v.tk 0).len=1)(hnd:(v.tk 1).nodes≤1000):Calls Tryz.prog 141 #[.pointer (some ⟨BS,0,none⟩)] w (fun e w'=>e=.returned (.bool v.setB)∧Below w.heap.size w w'):=by
 have H1:=hyd (show (Sr w0 v g BJ BS tT st sl k p w∧w0.heap.size≤w.heap.size)∧True from ⟨⟨h,h.bl.size⟩,trivial⟩);have HN:=hyd hn;have HE:Hid (v.setB=(decide ((v.tk 0).k=5)&&(blw v.c.n v.c.g (zak v.c.n v.c.g (v.tk 1) v.env) ((v.tk 0).ps 0)&&(leqB v.c.n v.c.g (v.tk 0).l ((v.tk 0).ps 0).l&&(leqB v.c.n v.c.g v.env ((v.tk 0).ps 0).l&&leqB v.c.n v.c.g v.f.h ((v.tk 0).ps 0).l))))):=rfl;have HF:=hyd hfm;have HM:=hyd hnd;generalize v.setB=R at *;clear h hn hfm hnd;go_enter Tryz.func141,Tryz.ntmps141
 go_upto_region 1 with fail
 go_cut [3,4] (fun c4 c5 wx=>∃B1 B2:Nat,c4=.pointer (some ⟨B1,0,none⟩)∧c5=.pointer (some ⟨B2,0,none⟩)∧Hid (Ru w0 w v g BJ BS tT st sl k p (v.tk 0) (v.tk 1) B1 B2 wx))
 case first =>
  have D1:=(Below.refl w.heap.size w).drew;have c10:∀x:Wd (fun q=>Below w.heap.size w q),x.w.cell? ⟨BS,10,none⟩=some (.slice (some ⟨tT.b,tT.o,none⟩) tT.len tT.cap):=fun x=>by rw[←H1.out.1.1.nil HN.out];exact (H1.out.1.1.kept x.2).b.cell 10 rfl
  have r0:∀u,(∃x:Wd (fun q=>Below w.heap.size w q),u=x.w)→u.rangeAt tT.b (tT.o+0*5) (v.tk 0).vs:=fun _ hC=>by obtain⟨x,rfl⟩:=hC;exact zaf (H1.out.1.1.row (by have:=HN.out;omega)) x.2
  have r1:∀u,(∃x:Wd (fun q=>Below w.heap.size w q),u=x.w)→u.rangeAt tT.b (tT.o+1*5) (v.tk 1).vs:=fun _ hC=>by obtain⟨x,rfl⟩:=hC;exact zaf (H1.out.1.1.row HN.out) x.2
  have i0:(0:Int)<tT.len:=by have:=HN.out;have:=H1.out.1.1.tl;omega
  have i1:(1:Int)<tT.len:=by have:=HN.out;have:=H1.out.1.1.tl;omega
  have hNE:Nonempty (Wd (fun q=>Below w.heap.size w q)):=⟨⟨_,Below.refl _ _⟩⟩;refine zal (fun q=>Below w.heap.size w q) [0,1,2,3,4,5,6,7,8,9,10,11] 4 (by kernel_rfl) rfl (by kernel_rfl) (za7 (by kernel_rfl)) D1 ?_;simp only[List.filterMap,zD,zE];iterate 5 go_big_quiet_step (fail)
  go_big_quiet_want;refine zad 38 (.tmp 10) rfl tT.b (tT.o+0*5) (by kernel_rfl) (v.tk 0).vs _ r0 Tryz.underlying38 rfl (by kernel_rfl) ?_;simp only[Act.put,zA,zB,zC];go_big_quiet_on;iterate 5 go_big_quiet_step (fail)
  go_big_quiet_want;refine zad 38 (.tmp 16) rfl tT.b (tT.o+1*5) (by kernel_rfl) (v.tk 1).vs _ r1 Tryz.underlying38 rfl (by kernel_rfl) ?_;simp only[Act.put,zA,zB,zC];go_big_quiet_on;refine wpQuiet_nil ?_;have HD1:=hyd D1;clear c10 r0 r1 i0 i1 hNE D1;generalize w.drew=y0 at *;refine ze7 [] [] 12 13 3 4 38 zT5 (zbn [0,1,2,3,4,5,6,7,8,9,10,11] (Array.replicate 16 false)) (by kernel_rfl) alloc_ty5 _ w.heap.size 2 (fun _ u=>Below w.heap.size w u) (fun vs u h=>h) (fun vs u h=>⟨Below.next h (zac _ _),h.size⟩) (fun vs c oc u q1 q2 hc _ _=>by cases vs <;> simp at hc) ?_ 2 [] none none y0 rfl (by simp) HD1.out (by intro B h;cases h) (by intro B h;cases h) (by intro B h;cases h)
  intro vs B1 B2 u hl hI hb1 hb2 hB1 hB2 hne;obtain rfl:vs=[]:=List.eq_nil_of_length_eq_zero hl;have HB:=hyd (show (Blk u B1 zT5 38∧Blk u B2 zT5 38)∧(w.heap.size≤B1∧w.heap.size≤B2∧B1≠B2)∧Below w.heap.size w u from ⟨⟨hb1,hb2⟩,⟨hB1,hB2,hne⟩,hI⟩);clear hl hI hb1 hb2 hB1 hB2 hne HD1;simp only[Fr,putL,putO,Option.map,ptA,Act.put,zA,zB,zC];refine wpAnyH_ready (rs:=[14]) (by kernel_rfl) (by simp) ?_;refine AllReadyH.cons rfl (fun K hK=>?_) AllReadyH.nil;rw[if_pos (by rfl)];refine zam 38 (.tmp 3) (.tmp 11) rfl rfl B1 (v.tk 0).vs zT5 (by kernel_rfl) (by kernel_rfl) (v.tk 0).vs_one HB.out.1.1 rfl (by kernel_rfl) ?_;intro u2 W2;have HB2:=hyd (show (Blk u2 B1 (v.tk 0).vs 38∧Blk u2 B2 zT5 38)∧Below w.heap.size w u2 from ⟨⟨W2.blk,W2.keep HB.out.1.2 (by have:=HB.out.2.1;omega)⟩,W2.below HB.out.2.1.1 HB.out.2.2⟩)
  refine hK.out _ _ HB2.out.2 (fun _=>?_);clear hK K W2;refine wpAnyH_ready (rs:=[15]) (by kernel_rfl) (by simp) ?_;refine AllReadyH.cons rfl (fun K hK=>?_) AllReadyH.nil;rw[if_pos (by rfl)];refine zam 38 (.tmp 4) (.tmp 17) rfl rfl B2 (v.tk 1).vs zT5 (by kernel_rfl) (by kernel_rfl) (v.tk 1).vs_one HB2.out.1.2 rfl (by kernel_rfl) ?_;intro u3 W3;have HB3:=hyd (show (Blk u3 B1 (v.tk 0).vs 38∧Blk u3 B2 (v.tk 1).vs 38)∧Below w.heap.size w u3 from ⟨⟨W3.keep HB2.out.1.1 (by have:=HB.out.2.1;omega),W3.blk⟩,W3.below HB.out.2.1.2.1 HB2.out.2⟩)
  refine hK.out _ _ HB3.out.2 (fun _=>?_);clear hK K W3;refine wpAnyH_done (by kernel_rfl) ?_ _;refine⟨(fun c hc=>by cases hc),?_⟩;go_wp2;go_meet
  case rel=>exact⟨B1,B2,rfl,rfl,⟨H1.out.1.1.kept HB3.out.2,HB3.out.2,HB3.out.1.1,HB3.out.1.2,H1.out.1.1.tk0 (by have:=HN.out;omega),H1.out.1.1.tk0 HN.out⟩⟩
 case rest =>
 obtain⟨B1,B2,rfl,rfl,H2⟩:=hcut;clear H1;generalize v.tk 0=s at *;generalize v.tk 1=t at *;have d0:=H2.out.b1.cell 0 rfl;by_cases hs:¬s.k=5
 ·have e1:(s.k != 5)=true:=by simpa using hs
  have HE2:Hid (R=false):=by show _=_;rw[HE.out,decide_eq_false hs];rfl
  clear hs HE;go_wp2;go_ret;exact⟨zab HE2.out.symm,H2.out.bl⟩
 have hs5:s.k=5:=Decidable.not_not.1 hs;have e1:(s.k != 5)=false:=by simpa using hs5
 have HL:=hyd (HF.out hs5);have HE2:Hid (R=(blw v.c.n v.c.g (zak v.c.n v.c.g t v.env) (s.ps 0)&&(leqB v.c.n v.c.g s.l (s.ps 0).l&&(leqB v.c.n v.c.g v.env (s.ps 0).l&&leqB v.c.n v.c.g v.f.h (s.ps 0).l)))):=by show _=_;rw[HE.out,decide_eq_true hs5];rfl
 clear hs hs5 HE HF;have d2:=H2.out.b1.cell 2 rfl;rw[H2.out.s0.nil (by rw[HL.out];omega)] at d2
 have rP:=zaf (zbm H2.out.s0 (i:=0) (by rw[HL.out];omega)) H2.out.r.bl
 have i0:(0:Int)<s.len:=by rw[HL.out];omega
 have HP0:=hyd (H2.out.s0.part (i:=0) (by rw[HL.out];omega))
 generalize s.ps 0=q at *;go_upto_region 5 with (first | (refine wpList_load_mid rfl 38 (.tmp 23) rfl s.b (s.o+0*5) (by kernel_rfl) q.vs _ rP Tryz.underlying38 rfl (by kernel_rfl) ?_) | (refine zao rfl rfl 38 rfl (.tmp 5) (.tmp 24) rfl zT5 (alloc_ty5 _) rfl q.vs.toArray (by kernel_rfl) (by kernel_rfl) rfl (by kernel_rfl) (by simpa using q.vs_one) ?_))
 simp only[Act.put,zA,zB,zC];have B3:=zac wc (.cells q.vs.toArray 38);have H3:=hyd (show Ru w0 w v g BJ BS tT st sl k p s t B1 B2 (wc.alloc (.cells q.vs.toArray 38))∧Blk (wc.alloc (.cells q.vs.toArray 38)) wc.heap.size q.vs 38 from ⟨H2.out.kept B3,Blk.new wc q.vs 38⟩);clear B3 H2 d0 d2 rP i0 e1;generalize wc.alloc (.cells q.vs.toArray 38)=u3 at *;generalize wc.heap.size=B5 at *;have b0:∀x:Wd (fun q=>Below u3.heap.size u3 q),x.w.cell? ⟨BS,0,none⟩=_:=fun x=>(H3.out.1.r.b.kept x.2).cell 0 rfl;have b2:∀x:Wd (fun q=>Below u3.heap.size u3 q),x.w.cell? ⟨BS,2,none⟩=_:=fun x=>(H3.out.1.r.b.kept x.2).cell 2 rfl;have s1:∀x:Wd (fun q=>Below u3.heap.size u3 q),x.w.cell? ⟨B1,1,none⟩=_:=fun x=>(H3.out.1.b1.kept x.2).cell 1 rfl;have q1:∀x:Wd (fun q=>Below u3.heap.size u3 q),x.w.cell? ⟨B5,1,none⟩=_:=fun x=>(H3.out.2.kept x.2).cell 1 rfl;have jh:∀x:Wd (fun q=>Below u3.heap.size u3 q),x.w.cell? ⟨BJ,14,none⟩=some (.int .i64 v.f.h):=fun x=>(H3.out.1.r.kept x.2).j.b.cell 14 rfl;have rT:∀u,(∃x:Wd (fun q=>Below u3.heap.size u3 q),u=x.w)→u.rangeAt B2 0 t.vs:=fun _ hC=>by obtain⟨x,rfl⟩:=hC;exact zaf (H3.out.1.b2.range) x.2
 have rH:∀u,(∃x:Wd (fun q=>Below u3.heap.size u3 q),u=x.w)→u.rangeAt B5 0 q.vs:=fun _ hC=>by obtain⟨x,rfl⟩:=hC;exact zaf (H3.out.2.range) x.2
 have hNE:Nonempty (Wd (fun q=>Below u3.heap.size u3 q)):=⟨⟨_,Below.refl _ _⟩⟩;have HP:=hyd (show (∀x:Wd (fun q=>Below u3.heap.size u3 q),x.w.cell? ⟨BS,0,none⟩=_)∧(∀x:Wd (fun q=>Below u3.heap.size u3 q),x.w.cell? ⟨BS,2,none⟩=_)∧(∀x:Wd (fun q=>Below u3.heap.size u3 q),x.w.cell? ⟨B1,1,none⟩=_)∧(∀x:Wd (fun q=>Below u3.heap.size u3 q),x.w.cell? ⟨B5,1,none⟩=_)∧(∀x:Wd (fun q=>Below u3.heap.size u3 q),x.w.cell? ⟨BJ,14,none⟩=_) from ⟨b0,b2,s1,q1,jh⟩);have HV0:=hyd (Below.refl u3.heap.size u3).drew;refine zal (fun q=>Below u3.heap.size u3 q) [0,1,2,3,4,5,6,7,8,9,10,11,12,14] 27 (by kernel_rfl) rfl (by kernel_rfl) (za7 (by kernel_rfl)) HV0.out ?_;simp only[List.filterMap,zD,zE];iterate 8 go_big_quiet_step (fail)
 go_big_quiet_want;refine zad 38 (.tmp 4) rfl B2 0 (by kernel_rfl) t.vs _ rT Tryz.underlying38 rfl (by kernel_rfl) ?_;simp only[Act.put,zA,zB,zC];go_big_quiet_on;iterate 4 go_big_quiet_step (fail)
 go_big_quiet_want;refine zad 38 (.tmp 5) rfl B5 0 (by kernel_rfl) q.vs _ rH Tryz.underlying38 rfl (by kernel_rfl) ?_;simp only[Act.put,zA,zB,zC];go_big_quiet_on;refine wpQuiet_nil ?_;clear b0 b2 s1 q1 jh rT rH;generalize u3.drew=v0 at *;refine wpAnyH_ready (rs:=[13]) (by kernel_rfl) (by simp) ?_;refine AllReadyH.cons rfl (fun K hK=>?_) AllReadyH.nil;rw[if_pos (by rfl)];go_simp;refine (zbc w0.heap.size v.c v.f g BJ t v.env v0 (H3.out.1.r.kept HV0.out).j (H3.out.1.t0.kept (H3.out.1.r.kept HV0.out).bl) (H3.out.1.r.kept HV0.out).bl.size).mono ?_;rintro _ v1 ⟨u,rfl,uA,uB,uS,hb⟩;have HV1:=hyd (Below.next HV0.out hb);have HU:=hyd (show u.At v1∧u.same (zak v.c.n v.c.g t v.env)=true from ⟨uA,uS⟩);refine hK.out _ _ HV1.out (fun _=>?_);clear hK K hb uA uB uS;have HTN:=hyd (show t.Nd from H3.out.1.t0.nd);have HB:=hyd (ze3 (n:=v.c.n) (g:=v.c.g) (t:=q) HU.out.1.nd (zcu HTN.out) HU.out.2);refine wpAnyH_ready (rs:=[15]) (by kernel_rfl) (by simp) ?_;refine AllReadyH.cons rfl (fun K hK=>?_) AllReadyH.nil;rw[if_pos (by rfl)];go_simp;refine (zct v.c v.f g BJ u q v1 (H3.out.1.r.kept HV1.out).j HU.out.1 (HP0.out.kept (H3.out.1.r.kept HV1.out).bl) (zh8 HU.out.1.nd (zcu HTN.out) HU.out.2 (zfv (by omega) HM.out))).mono ?_;rintro _ v2 ⟨rfl,hb⟩;have HV2:=hyd (Below.next HV1.out hb);rw[HB.out];refine hK.out _ _ HV2.out (fun _=>?_);clear hK K hb;generalize blw v.c.n v.c.g (zak v.c.n v.c.g t v.env) q=bb at *;cases bb
 ·have HE3:Hid (R=false):=HE2.out;refine zpx 16 rfl (by kernel_rfl) (fun u hu=>Below.next HV2.out hu) ?_;simp only[List.drop];have hNE2:Nonempty (Gr v2):=⟨⟨_,Below.refl _ _⟩⟩;iterate 25 go_big_quiet_step (fail)
  refine wpQuiet_nil ?_;rintro _ ⟨x,rfl⟩;have HX:=hyd (Below.next H3.out.1.bl (Below.next HV2.out x.bl));generalize x.w=y1 at HX ⊢;refine⟨(fun c hc=>by cases hc),?_⟩;go_wp2;go_ret;exact⟨zab HE3.out.symm,HX.out⟩
 ·have HE3:Hid (R=(leqB v.c.n v.c.g s.l q.l&&(leqB v.c.n v.c.g v.env q.l&&leqB v.c.n v.c.g v.f.h q.l))):=HE2.out;have b0:=HP.out.1;have b2:=HP.out.2.1;have s1:=HP.out.2.2.1;have q1:=HP.out.2.2.2.1;have jh:=HP.out.2.2.2.2;refine zba [16,17,18,19,20,21,22,23,24,25,26,27,28,29,30,31,32,33,34,35,36] (rest:=4) (by rfl) (by kernel_rfl) (by kernel_rfl) HV2.out ?_;simp only[List.filterMap,zD,zE];iterate 21 go_big_quiet_step (fail)
  refine wpQuiet_nil ?_;clear b0 b2 s1 q1 jh hNE;refine wpAnyH_ready (rs:=[37]) (by kernel_rfl) (by simp) ?_;refine AllReadyH.cons rfl (fun K hK=>?_) AllReadyH.nil;rw[if_pos (by rfl)];refine zmk (.tmp 49) (.tmp 53) (.tmp 61) rfl s.l v.env v.f.h (by kernel_rfl) (by kernel_rfl) (by kernel_rfl) ?_;intro v3 BL hb hl;have HV3:=hyd (Below.next HV2.out hb);refine hK.out _ _ HV3.out (fun _=>?_);clear hK K hb;go_simp;refine wpAnyH_ready (rs:=[38]) (by kernel_rfl) (by simp) ?_;refine AllReadyH.cons rfl (fun K hK=>?_) AllReadyH.nil;rw[if_pos (by rfl)];go_simp;refine (ze9 v.c v.f g BJ q.l BL 3 3 (lb3 s.l v.env v.f.h) v3 (H3.out.1.r.kept HV3.out).j hl (by omega)).mono ?_;rintro _ v4 ⟨rfl,hb⟩;have HV4:=hyd (Below.next HV3.out hb);rw[lqB_3,←HE3.out];refine hK.out _ _ HV4.out (fun _=>?_);clear hK K hb hl;refine wpAnyH_ready (rs:=[39]) (by kernel_rfl) (by simp) ?_;refine AllReadyH.cons rfl (fun K hK=>?_) AllReadyH.nil;rw[if_pos (by rfl)];go_simp;refine hK.out _ _ HV4.out (fun _=>?_);clear hK K;refine wpAnyH_ready (rs:=[40]) (by kernel_rfl) (by simp) ?_;refine AllReadyH.cons rfl (fun K hK=>?_) AllReadyH.nil;rw[if_pos (by rfl)];go_simp;refine hK.out _ _ HV4.out (fun _=>?_);clear hK K;refine wpAnyH_done (by kernel_rfl) ?_ _;refine⟨(fun c hc=>by cases hc),?_⟩;have HX:=hyd (Below.next H3.out.1.bl HV4.out);go_wp2;go_ret;exact⟨rfl,HX.out⟩
end
end Go.Proofs.YtfobijdkoeifjaaGreatDoor
