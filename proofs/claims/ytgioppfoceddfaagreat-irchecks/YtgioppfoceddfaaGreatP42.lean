import Derived.Test.YtgioppfoceddfaaGreatP34
import Derived.Test.YtgioppfoceddfaaGreatP23
import Derived.Test.YtgioppfoceddfaaGreatP40
import Derived.Test.YtgioppfoceddfaaGreatP36
set_option maxRecDepth 100000
set_option maxHeartbeats 32000000
namespace Go.Proofs.YtgioppfoceddfaaGreat
section
open Go Go.RowKit
theorem alloc_rfn (w:World):(Instr.alloc 53 true (.tuple #[])).run Tryz.prog w=.ok (.pointer (some ⟨w.heap.size,0,none⟩)) (w.alloc (.cells zFv.toArray 53)):=by kernel_rfl
theorem zn0 {o:Oper}{a:Act}{w:World}{K:Act→World→Prop}{Q:Exit→Act→World→Prop}(ho:o.op=.alloc 53)
  (h:K (a.put o.dst (.pointer (some ⟨w.heap.size,0,none⟩))) (w.alloc (.cells zFv.toArray 53))):o.wp Tryz.prog a w K Q:=by
 unfold Oper.wp execOp;simp only[ho,Sem.run_bind,alloc_rfn,Result.andThen_ok,Sem.run_pure];exact h
structure R3 (w0:World)(j:Jd)(v p:Nat)(ok:Bool)(r:Rst)(nd:Nd)(F:Fc)(B:Nat)(w u:World):Prop where
 g:R1 w0 j v p ok r nd w u
 b:Blk u B F.vs 53
 n:w.heap.size+1≤B
theorem R3.kept {w0:World}{j:Jd}{v p:Nat}{ok:Bool}{r:Rst}{nd:Nd}{F:Fc}{B:Nat}{w u u':World}(h:R3 w0 j v p ok r nd F B w u)(hb:Below u.heap.size u u'):R3 w0 j v p ok r nd F B w u':=⟨h.g.kept hb,h.b.kept hb,h.n⟩
theorem R3.next {w0:World}{j:Jd}{v p:Nat}{ok ok':Bool}{r r':Rst}{nd:Nd}{F:Fc}{B:Nat}{w u u':World}(h:R3 w0 j v p ok r nd F B w u)(k:Rg w0 j v p ok' r' u u')(hq:r'.q=r.q):R3 w0 j v p ok' r' nd F B w u' :=
 ⟨h.g.next k hq,k.f.blk h.b (by rw[hq];exact h.g.no (by have:=h.n;omega)),h.n⟩
theorem R3.wv {w0:World}{j:Jd}{v p:Nat}{ok ok':Bool}{r:Rst}{nd:Nd}{F:Fc}{B:Nat}{w u u':World}(h:R3 w0 j v p ok r nd F B w u)(W:WroteB u u' v (wkV j.n j.g j.fns j.f ok') 77):R3 w0 j v p ok' r nd F B w u' :=
 ⟨⟨h.g.g.wv W,W.keep h.g.N (by have:=h.g.l;omega),h.g.l⟩,W.keep h.b (by have:=h.g.l;have:=h.n;omega),h.n⟩
def SS3 (w0:World)(j:Jd)(v p:Nat)(r:Rst)(nd:Nd)(F:Fc)(B:Nat)(w q:World):Prop:=∃ok,R3 w0 j v p ok r nd F B w q
def zde (w0:World)(j:Jd)(nd:Nd)(d v p:Nat)(r:Rst)(w w':World):Prop:=∃ok' r',Rg w0 j v p ok' r' w w'∧r'.q=r.q∧r'.m=r.m∧ze6 j nd d r ok' r'
def cloK (j:Jd)(nd:Nd)(r:Rst)(F:Fc):Nat→Bool
 | 0=>true&&((nd.h.ar.len:Int)==F.caps.len)
 | k+1=>(cloK j nd r F k&&r.set (nd.h.ar.f k).toNat)&&belB j.n j.g (j.read nd (nd.h.ar.f k)) (F.caps.ps k)
theorem ztz {j:Jd}{nd:Nd}{r:Rst}{F:Fc}{k m:Nat}(h:cloK j nd r F k=false)(hm:k≤m):cloK j nd r F m=false:=by
  induction m with
  | zero => have e : k = 0 := by omega
            subst e; exact h
  | succ m ih =>
    rcases Nat.lt_or_ge m k with h1 | h1
    · have e:k=m+1:=by omega
      subst e;exact h
    · show ((cloK j nd r F m&&_)&&_)=false
      rw[ih h1];rfl
theorem zud {j:Jd}{nd:Nd}{r:Rst}{F:Fc}{k:Nat}(h:cloK j nd r F k=true):nd.h.ar.len=F.caps.len:=by
 induction k with
 | zero =>
  have h':(true&&((nd.h.ar.len:Int)==F.caps.len))=true:=h;simp at h'
  omega
 | succ k ih =>
  have h':((cloK j nd r F k&&r.set (nd.h.ar.f k).toNat)&&belB j.n j.g (j.read nd (nd.h.ar.f k)) (F.caps.ps k))=true:=h;simp only[Bool.and_eq_true] at h';exact ih h'.1.1
theorem zn5 {j:Jd}{nd:Nd}{r:Rst}{F:Fc}(k:Nat):cloK j nd r F k=true↔nd.h.ar.len=F.caps.len∧∀i,i<k→r.set (nd.h.ar.f i).toNat=true∧belB j.n j.g (j.read nd (nd.h.ar.f i)) (F.caps.ps i)=true:=by
 induction k with
 | zero =>
  show (true&&((nd.h.ar.len:Int)==F.caps.len))=true↔_
  constructor
  ·intro h;simp at h;exact⟨by omega,fun i hi=>absurd hi (Nat.not_lt_zero _)⟩
  ·intro h;simp;have:=h.1;omega
 | succ k ih =>
  show ((cloK j nd r F k&&r.set (nd.h.ar.f k).toNat)&&belB j.n j.g (j.read nd (nd.h.ar.f k)) (F.caps.ps k))=true↔_
  simp only[Bool.and_eq_true];rw[ih]
  constructor
  ·rintro ⟨⟨⟨h1,h2⟩,h3⟩,h4⟩;refine⟨h1,fun i hi=>?_⟩;rcases Nat.lt_or_ge i k with h | h
   ·exact h2 i h
   ·have e:i=k:=by omega
    subst e;exact⟨h3,h4⟩
  ·rintro ⟨h1,h2⟩;exact⟨⟨⟨h1,fun i hi=>h2 i (by omega)⟩,(h2 k (by omega)).1⟩,(h2 k (by omega)).2⟩
theorem rds_9 {nd:Nd}(r:Rst)(hop:nd.h.op=9):nd.h.rds.all (fun i=>r.set i.toNat)=true↔∀i,i<nd.h.ar.len→r.set (nd.h.ar.f i).toNat=true:=by
 unfold Hd.rds;rw[if_neg (by omega),if_neg (by omega),if_pos hop];simp
theorem ziy {j:Jd}{nd:Nd}(hop:nd.h.op=9):j.makes nd=(j.closed nd,-1):=by
 unfold Jd.makes;rw[hop];rfl
theorem zt6 {j:Jd}{nd:Nd}{r r':Rst}{d N:Nat}(hop:nd.h.op=9)(hn:nd.h.n=N)(h:cloK j nd r (j.fns.ps N) nd.h.ar.len=false):ze6 j nd d r false r':=by
 refine⟨?_,fun h=>by cases h⟩;cases q:nd.h.rds.all (fun i=>r.set i.toNat)
 ·rfl
 ·rw[rds_9 r hop] at q;have hz:j.makes nd=(leafT 0 0,-1):=by
   rw[ziy hop];unfold Jd.closed;rw[hn];rw[if_neg];rintro ⟨h1,h2⟩;have:=(zn5 (j:=j) (r:=r) (F:=j.fns.ps N) nd.h.ar.len).2 ⟨h1,fun i hi=>⟨q i hi,h2 i hi⟩⟩;rw[h] at this;cases this
  rw[hz,zdy];rfl
theorem zxr {j:Jd}{nd:Nd}{r:Rst}{d N:Nat}{u:Ty}{w:World}(hop:nd.h.op=9)(hn:nd.h.n=N)(h:cloK j nd r (j.fns.ps N) nd.h.ar.len=true)(hu:u.Nd)(hs:u.same (sigT j.n j.g (j.fns.ps N))=true)(hf:(j.fns.ps N).At w):ze6 j nd d r (true&&belB j.n j.g (zai j.n j.g u (zad j.n j.g nd.h.env (-1))) (j.f.slots.ps d)) (r.wrt j (-1) d):=by
 have h':=(zn5 nd.h.ar.len).1 h;have hz:j.makes nd=(sigT j.n j.g (j.fns.ps N),-1):=by
  rw[ziy hop];unfold Jd.closed;rw[hn];rw[if_pos ⟨h'.1,fun i hi=>(h'.2 i hi).2⟩];rfl
 refine⟨?_,fun _=>by rw[hz]⟩;rw[hz,(rds_9 r hop).2 (fun i hi=>(h'.2 i hi).1)];have sn:(sigT j.n j.g (j.fns.ps N)).Nd:=zh2 hf;rw[zck (zbf hu) (zbf sn) (zch hu sn hs)]
theorem zn2 (w0:World)(j:Jd)(nd:Nd)(d N v p:Nat)(r:Rst)(w:World)(hd:Dt w0 j)(hx:Rx w0 j v p true r w)(hm:r.m=j.f.slots.len)(hn:nd.h.n=N)(hN:N<j.fns.len)(har:nd.h.ar.At w0)(hai:∀i,i<nd.h.ar.len→∃a:Nat,nd.h.ar.f i=a∧a<r.m)(hdst:nd.h.dst=d)(hi:d<r.m)(hop:nd.h.op=9) :
  Calls Tryz.prog 99 #[.pointer (some ⟨v,0,none⟩),.pointer (some ⟨p,0,none⟩),.agg nd.vs.toArray] w fun e w'=>e=.returned (.tuple #[])∧zde w0 j nd d v p r w w':=by
 have HO:=hid (show nd.h.op=9∧nd.h.n=N from ⟨hop,hn⟩);have HD:=hid (show Dt w0 j∧r.m=j.f.slots.len∧(nd.h.ar.At w0∧∀i,i<nd.h.ar.len→∃a:Nat,nd.h.ar.f i=a∧a<r.m)∧nd.h.dst=d∧d<r.m from ⟨hd,hm,⟨har,hai⟩,hdst,hi⟩);have HF:=hid (show (j.fns.ps N).At w0 from hd.fns.part N hN);have HR:=hid (R1.new nd hx);have hNI:(N:Int)<j.fns.len:=by omega
 have hfo:=hd.fns.nil (by omega);have hbd:=har.bound;clear hx hm hd har hai hdst hi hop hn;go_enter Tryz.func99,Tryz.ntmps99
 go_upto_region 1 with fail
 generalize (w.alloc (.cells nd.vs.toArray 86))=w1 at *;have D1:=(Below.refl w1.heap.size w1).drew;have HR2:=hid (HR.out.kept D1);have pv:∀x:Wd (fun q=>R1 w0 j v p true r nd w q),x.w.cell? ⟨v,2,none⟩=some (.slice (some ⟨j.fns.b,j.fns.o,none⟩) j.fns.len j.fns.cap):=fun x=>by rw[←hfo];exact x.2.g.x.cw 2 rfl
 have pn:∀x:Wd (fun q=>R1 w0 j v p true r nd w q),x.w.cell? ⟨w.heap.size,4,none⟩=some (.int .i64 N):=fun x=>x.2.N.cell 4 (by rw[←HO.out.2];rfl)
 have hCF:∀q,(∃x:Wd (fun q=>R1 w0 j v p true r nd w q),q=x.w)→q.rangeAt j.fns.b (j.fns.o+N*16) (j.fns.ps N).vs:=by rintro _ ⟨x,rfl⟩;exact (HD.out.1.fns.kept x.2.g.x.bl).cells N hN
 have hNE:Nonempty (Wd (fun q=>R1 w0 j v p true r nd w q)):=⟨⟨_,HR.out⟩⟩;refine zbi (fun q=>R1 w0 j v p true r nd w q) [0,1,2,3,4,5,6,7] 2 (by kernel_rfl) rfl (by kernel_rfl) (zeh (by kernel_rfl)) HR2.out ?_;simp only[List.filterMap,zD,zE];iterate 7 go_big_quiet_step (fail)
 go_big_quiet_want;refine zaa 53 (.tmp 14) rfl j.fns.b (j.fns.o+N*16) (by kernel_rfl) (j.fns.ps N).vs _ hCF Tryz.underlying53 rfl (by kernel_rfl) ?_;simp only[Act.put,zA,zB,zC];go_big_quiet_on;refine wpQuiet_nil ?_;clear pv pn hCF hNE D1 HR hfo;generalize w1.drew=y0 at *;generalize hF:j.fns.ps N=F at *;have HFE:=hid hF;clear hF;refine wpAnyH_ready (rs:=[8]) (by kernel_rfl) (by simp) ?_;refine AllReadyH.cons rfl (fun K hK=>?_) AllReadyH.nil;rw[if_pos (by rfl)];have hb:=zac y0 (.cells zFv.toArray 53);have HR3:=hid (show R1 w0 j v p true r nd w (y0.alloc (.cells zFv.toArray 53))∧Blk (y0.alloc (.cells zFv.toArray 53)) y0.heap.size zFv 53∧w.heap.size+1≤y0.heap.size from ⟨HR2.out.kept hb,Blk.new y0 zFv _,HR2.out.base⟩);refine zn0 rfl ?_;refine hK.out _ _ (HR3.out.1) (fun _=>?_);clear hK K;clear hb HR2;generalize (y0.alloc (.cells zFv.toArray 53))=y1 at *;generalize y0.heap.size=B6 at *;refine wpAnyH_ready (rs:=[9]) (by kernel_rfl) (by simp) ?_;refine AllReadyH.cons rfl (fun K hK=>?_) AllReadyH.nil;rw[if_pos (by rfl)];refine zak 53 (.tmp 6) (.tmp 15) rfl rfl B6 F.vs zFv (by kernel_rfl) (by kernel_rfl) F.va_one HR3.out.2.1 rfl (by kernel_rfl) ?_;intro y2 W2;have HR4:Hid (R3 w0 j v p true r nd F B6 w y2):=⟨HR3.out.1.other W2 HR3.out.2.2,W2.blk,HR3.out.2.2⟩;refine hK.out _ _ (HR4.out.g) (fun _=>?_);clear hK K;clear W2 HR3;refine wpAnyH_done (by kernel_rfl) ?_ _;refine⟨(fun c hc=>by cases hc),?_⟩;have n11:=HR4.out.g.N.cell 11 (v:=.slice nd.h.ar.ao nd.h.ar.len nd.h.ar.cap) rfl;have b10:=HR4.out.b.cell 10 (v:=.slice F.caps.ao F.caps.len F.caps.cap) rfl;go_wp2_with fail
 refine (za8 j.n j.g j.fns j.f true ((nd.h.ar.len:Int)==F.caps.len) v y2 HR4.out.g.g.x.W).mono ?_;rintro _ y3 ⟨rfl,W3⟩;have HR5:Hid (R3 w0 j v p (cloK j nd r F 0) r nd F B6 w y3):=HR4.out.wv W3;clear W3 HR4 n11 b10;go_wp2;go_loopw [7] (fun i wr=>∃k:Nat,k≤nd.h.ar.len∧i=.int .i64 k∧Hid (R3 w0 j v p (cloK j nd r F k) r nd F B6 w wr)) (fun i _=>nd.h.ar.len - (intOf i).toNat)
 case atStart=>exact⟨0,Nat.zero_le _,rfl,HR5.out⟩
 case round =>
  clear HR5;obtain⟨k,hk,rfl,hJ⟩:=hrel;have HJ:=hid hJ.out;clear hJ;have n11:=HJ.out.g.N.cell 11 (v:=.slice nd.h.ar.ao nd.h.ar.len nd.h.ar.cap) rfl;by_cases hlt:k<nd.h.ar.len
  ·have ij:(k:Int)<nd.h.ar.len:=by omega
   obtain⟨a,ha,ham⟩:=HD.out.2.2.1.2 k hlt;have HA:=hid (show nd.h.ar.f k=a∧a<r.m from ⟨ha,ham⟩);have HC:Hid (cloK j nd r F (k+1)=((cloK j nd r F k&&r.set a)&&belB j.n j.g (j.read nd a) (F.caps.ps k))):=by show ((cloK j nd r F k&&r.set (nd.h.ar.f k).toNat)&&belB j.n j.g (j.read nd (nd.h.ar.f k)) (F.caps.ps k))=_;rw[ha];rfl
   have HCL:=hid (fun h:cloK j nd r F k=true=>zud h);have HCS:=hid (fun h:cloK j nd r F k=false=>ztz h hk);clear ha ham;generalize cloK j nd r F k=ok at *;have c19:=HJ.out.g.g.x.cw 19 (x:=.bool ok) rfl;cases ok
   ·go_wp2;go_end0;exact⟨rfl,false,r,HJ.out.g.g,rfl,rfl,zt6 HO.out.1 HO.out.2 (by rw[HFE.out];exact HCS.out (by simp))⟩
   ·have hcl:k<F.caps.len:=by have:=HCL.out rfl;omega
    have hcl':(k:Int)<F.caps.len:=by omega
    have hao:=HD.out.2.2.1.1.nil (by omega);have hco:=HF.out.caps.nil (by omega);go_upto_region 6 with fail
    have D1:=(Below.refl wr.heap.size wr).drew;have HJ2:=hid (HJ.out.kept D1);have p0:∀x:Wd (SS3 w0 j v p r nd F B6 w),x.w.cell? ⟨v,0,none⟩=some (.slice j.n.ao j.n.len j.n.cap):=fun x=>by obtain⟨_,h⟩:=x.2;exact h.g.g.x.cw 0 rfl
    have p1:∀x:Wd (SS3 w0 j v p r nd F B6 w),x.w.cell? ⟨v,1,none⟩=some (.slice j.g.ao j.g.len j.g.cap):=fun x=>by obtain⟨_,h⟩:=x.2;exact h.g.g.x.cw 1 rfl
    have p11:∀x:Wd (SS3 w0 j v p r nd F B6 w),x.w.cell? ⟨w.heap.size,11,none⟩=some (.slice (some ⟨nd.h.ar.b,nd.h.ar.o,none⟩) nd.h.ar.len nd.h.ar.cap):=fun x=>by obtain⟨_,h⟩:=x.2;rw[←hao];exact h.g.N.cell 11 rfl
    have pA:∀x:Wd (SS3 w0 j v p r nd F B6 w),x.w.cell? ⟨nd.h.ar.b,nd.h.ar.o+k,none⟩=some (.int .i64 a):=fun x=>by obtain⟨_,h⟩:=x.2;rw[←HA.out.1];exact (HD.out.2.2.1.1.kept h.g.g.x.bl).cell k hlt
    have p10:∀x:Wd (SS3 w0 j v p r nd F B6 w),x.w.cell? ⟨B6,10,none⟩=some (.slice (some ⟨F.caps.b,F.caps.o,none⟩) F.caps.len F.caps.cap):=fun x=>by obtain⟨_,h⟩:=x.2;rw[←hco];exact h.b.cell 10 rfl
    have hCN:∀q,(∃x:Wd (SS3 w0 j v p r nd F B6 w),q=x.w)→q.rangeAt w.heap.size 0 nd.vs:=by rintro _ ⟨x,rfl⟩;obtain⟨_,h⟩:=x.2;exact h.g.N.range
    have hCC:∀q,(∃x:Wd (SS3 w0 j v p r nd F B6 w),q=x.w)→q.rangeAt F.caps.b (F.caps.o+k*5) (F.caps.ps k).vs:=by rintro _ ⟨x,rfl⟩;obtain⟨_,h⟩:=x.2;exact C5.row ((HF.out.caps.kept h.g.g.x.bl).cells hcl)
    have hNE:Nonempty (Wd (SS3 w0 j v p r nd F B6 w)):=⟨⟨_,_,HJ.out⟩⟩;clear n11 c19 hao hco;refine zbi (SS3 w0 j v p r nd F B6 w) [0,1,2,3,4,5,6,7,8,9,10,11,12,14,15,16,17,18] 3 (by kernel_rfl) rfl (by kernel_rfl) (zeh (by kernel_rfl)) ⟨_,HJ2.out⟩ ?_;simp only[List.filterMap,zD,zE];iterate 7 go_big_quiet_step (fail)
    go_big_quiet_want;refine zaa 86 (.tmp 5) rfl w.heap.size 0 (by kernel_rfl) nd.vs _ hCN Tryz.underlying86 rfl (by kernel_rfl) ?_;simp only[Act.put,zA,zB,zC];go_big_quiet_on;iterate 9 go_big_quiet_step (fail)
    go_big_quiet_want;refine zaa 38 (.tmp 55) rfl F.caps.b (F.caps.o+k*5) (by kernel_rfl) (F.caps.ps k).vs _ hCC Tryz.underlying38 rfl (by kernel_rfl) ?_;simp only[Act.put,zA,zB,zC];go_big_quiet_on;refine wpQuiet_nil ?_;clear p0 p1 p11 pA p10 hCN hCC hNE D1 HJ;generalize wr.drew=z0 at *;refine wpAnyH_ready (rs:=[13]) (by kernel_rfl) (by simp) ?_;refine AllReadyH.cons rfl (fun K hK=>?_) AllReadyH.nil;rw[if_pos (by rfl)];go_simp;refine (zkj w0 j nd v p true r a z0 HD.out.1 HJ2.out.g.g.x HD.out.2.1 HA.out.2).mono ?_;rintro _ z1 ⟨rfl,_,hg1⟩;have HJ3:=hid (HJ2.out.next hg1 rfl);refine hK.out _ _ (⟨_,HJ3.out⟩) (fun _=>?_);clear hK K;clear hg1 HJ2;generalize hok2:(true&&r.set a)=ok2 at *;have HK2:=hid hok2;clear hok2;refine wpAnyH_ready (rs:=[19]) (by kernel_rfl) (by simp) ?_;refine AllReadyH.cons rfl (fun K hK=>?_) AllReadyH.nil;rw[if_pos (by rfl)];go_simp;refine (zcw j.n j.g (j.read nd a) (F.caps.ps k) z1 (HD.out.1.n.kept HJ3.out.g.g.x.bl) (HD.out.1.g.kept HJ3.out.g.g.x.bl) ((zc9 nd HD.out.1 (by have h1:=HA.out.2;have h2:=HD.out.2.1;omega)).kept HJ3.out.g.g.x.bl) ((HF.out.caps.part hcl).kept HJ3.out.g.g.x.bl)).mono ?_
    rintro _ z2 ⟨rfl,hb2⟩;have HJ4:=hid (HJ3.out.kept hb2);refine hK.out _ _ (⟨_,HJ4.out⟩) (fun _=>?_);clear hK K;clear hb2 HJ3;generalize hbb:belB j.n j.g (j.read nd a) (F.caps.ps k)=bb at *;have HBB:=hid hbb;clear hbb;refine wpAnyH_ready (rs:=[20]) (by kernel_rfl) (by simp) ?_;refine AllReadyH.cons rfl (fun K hK=>?_) AllReadyH.nil;rw[if_pos (by rfl)];go_simp;refine (za8 j.n j.g j.fns j.f ok2 bb v z2 HJ4.out.g.g.x.W).mono ?_;rintro _ z3 ⟨rfl,W3⟩;have HJ5:Hid (R3 w0 j v p (cloK j nd r F (k+1)) r nd F B6 w z3):=by show R3 _ _ _ _ _ _ _ _ _ _ _;rw[HC.out];exact HJ4.out.wv W3
    refine hK.out _ _ (⟨_,HJ5.out⟩) (fun _=>?_);clear hK K;clear W3 HJ4;refine wpAnyH_done (by kernel_rfl) ?_ _;refine⟨(fun c hc=>by cases hc),?_⟩;go_wp2;go_roundw
    case rel=>exact⟨k+1,by omega,by go_num,HJ5.out⟩
    case measure=>simp[intOf];omega
  ·have e2:k=nd.h.ar.len:=by omega
   subst e2;have dd:¬(nd.h.ar.len:Int)<nd.h.ar.len:=by omega
   generalize hok:cloK j nd r F nd.h.ar.len=ok at *;have HOK:=hid hok;clear hok;have c19:=HJ.out.g.g.x.cw 19 (x:=.bool ok) rfl;cases ok
   ·go_wp2;go_end0;exact⟨rfl,false,r,HJ.out.g.g,rfl,rfl,zt6 HO.out.1 HO.out.2 (by rw[HFE.out];exact HOK.out)⟩
   ·go_upto_region 8 with fail
    have D1:=(Below.refl wr.heap.size wr).drew;have HJ2:=hid (HJ.out.kept D1);have p0:∀x:Wd (fun q=>R3 w0 j v p true r nd F B6 w q),x.w.cell? ⟨v,0,none⟩=some (.slice j.n.ao j.n.len j.n.cap):=fun x=>x.2.g.g.x.cw 0 rfl;have p1:∀x:Wd (fun q=>R3 w0 j v p true r nd F B6 w q),x.w.cell? ⟨v,1,none⟩=some (.slice j.g.ao j.g.len j.g.cap):=fun x=>x.2.g.g.x.cw 1 rfl;have hCN:∀q,(∃x:Wd (fun q=>R3 w0 j v p true r nd F B6 w q),q=x.w)→q.rangeAt w.heap.size 0 nd.vs:=by rintro _ ⟨x,rfl⟩;exact x.2.g.N.range
    have hCB:∀q,(∃x:Wd (fun q=>R3 w0 j v p true r nd F B6 w q),q=x.w)→q.rangeAt B6 0 F.vs:=by rintro _ ⟨x,rfl⟩;exact x.2.b.range
    have hNE:Nonempty (Wd (fun q=>R3 w0 j v p true r nd F B6 w q)):=⟨⟨_,HJ.out⟩⟩;clear n11 c19 dd;refine zaw (fun q=>R3 w0 j v p true r nd F B6 w q) 9 [0,1,2,3,4,5,6,7] 2 (by kernel_rfl) rfl (by kernel_rfl) HJ2.out ?_;simp only[List.filterMap,zD,zE];iterate 2 go_big_quiet_step (fail)
    go_big_quiet_want;refine zaa 86 (.tmp 5) rfl w.heap.size 0 (by kernel_rfl) nd.vs _ hCN Tryz.underlying86 rfl (by kernel_rfl) ?_;simp only[Act.put,zA,zB,zC];go_big_quiet_on;iterate 4 go_big_quiet_step (fail)
    go_big_quiet_want;refine zaa 53 (.tmp 6) rfl B6 0 (by kernel_rfl) F.vs _ hCB Tryz.underlying53 rfl (by kernel_rfl) ?_;simp only[Act.put,zA,zB,zC];go_big_quiet_on;refine wpQuiet_nil ?_;clear p0 p1 hCN hCB hNE D1 HJ;generalize wr.drew=z0 at *;refine zaj (rs:=[8]) (by kernel_rfl) (by simp) ?_;refine AllReadyL.cons rfl (fun K hK=>?_) AllReadyL.nil;rw[if_pos (by rfl)];go_simp;refine (zju j.n j.g F z0 (HD.out.1.n.kept HJ2.out.g.g.x.bl) (HD.out.1.g.kept HJ2.out.g.g.x.bl) (HF.out.param.kept HJ2.out.g.g.x.bl) (HF.out.result.kept HJ2.out.g.g.x.bl)).mono ?_;rintro _ z1 ⟨u,rfl,uA,uS,hb1⟩;have HJ3:=hid (HJ2.out.kept hb1);have HU:=hid (show u.At z1∧u.same (sigT j.n j.g F)=true from ⟨uA,uS⟩);refine hK.out _ _ (fun _=>HJ3.out) ?_;clear hK K uA uS hb1 HJ2;refine zaj (rs:=[9]) (by kernel_rfl) (by simp) ?_;refine AllReadyL.cons rfl (fun K hK=>?_) AllReadyL.nil;rw[if_pos (by rfl)];go_simp;refine (zaz w0 j nd u (-1) d v p true r z1 HD.out.1 HJ3.out.g.g.x HD.out.2.1 HD.out.2.2.2.1 HD.out.2.2.2.2 HU.out.1).mono ?_;rintro _ z2 ⟨rfl,hg2⟩;have HJ4:=hid (HJ3.out.g.next hg2 rfl);refine hK.out _ _ (fun h=>absurd rfl h) ?_;clear hK K hg2;refine zbc (by kernel_rfl) ?_ _;refine⟨(fun c hc=>by cases hc),?_⟩;go_wp2;go_end0;exact⟨rfl,_,_,HJ4.out.g,rfl,rfl,zxr HO.out.1 HO.out.2 (by rw[HFE.out];exact HOK.out) HU.out.1.nd (by rw[HFE.out];exact HU.out.2) (by rw[HFE.out];exact HF.out)⟩
def Rel (r:Rst)(s:Sta):Prop:=(r.at_=s.at_∧r.x=s.x∧r.here=!s.gone)∧(s.gone=false→∀i,i<r.m→r.set i=s.set i)
def lab (n:Strs)(x:Int):Prop:=x=-1∨∃k:Nat,k<n.len∧x=k
def LabS (n:Strs)(s:Sta):Prop:=lab n s.at_∧lab n s.x
def StpR (w0:World)(j:Jd)(v p:Nat)(r:Rst)(o:Option Sta)(w w':World):Prop:=∃ok' r',Rg w0 j v p ok' r' w w'∧(r'.q=r.q∧r'.m=r.m)∧ok'=o.isSome∧∀s',o=some s'→Rel r' s'
structure Kn (w0:World)(j:Jd):Prop where
 d:Dt w0 j
 bt:j.bot=botI j.n j.g
 m2:j.f.slots.len≤250
 m0:0<j.f.slots.len
 fm:zaf j.n j.g=true
def zen (w0:World)(j:Jd)(b:Ns):Prop:=∀(v p:Nat) (r:Rst) (s:Sta) (w:World),Rx w0 j v p true r w→Rel r s→LabS j.n s→r.m=j.f.slots.len→Calls Tryz.prog 30 #[.pointer (some ⟨v,0,none⟩),.pointer (some ⟨p,0,none⟩),.slice b.ao b.len b.cap] w fun e w'=>e=.returned (.tuple #[])∧StpR w0 j v p r (j.list b s) w w'
def zkd (w0:World)(j:Jd)(nd:Nd):Prop:=∀(v p:Nat) (r:Rst) (s:Sta) (w:World),Rx w0 j v p true r w→Rel r s→s.gone=false→LabS j.n s→r.m=j.f.slots.len→Calls Tryz.prog 61 #[.pointer (some ⟨v,0,none⟩),.pointer (some ⟨p,0,none⟩),.agg nd.vs.toArray] w fun e w'=>e=.returned (.tuple #[])∧StpR w0 j v p r (if nd.h.rds.all (fun i=>s.set i.toNat)=true then stpO j nd s else none) w w'
theorem zl2 (w0:World)(j:Jd)(v p:Nat)(r:Rst)(b:Ns)(w:World)(hx:Rx w0 j v p false r w):Calls Tryz.prog 30 #[.pointer (some ⟨v,0,none⟩),.pointer (some ⟨p,0,none⟩),.slice b.ao b.len b.cap] w fun e w'=>e=.returned (.tuple #[])∧Rg w0 j v p false r w w':=by
 have HG:=hid (Rg.of hx (Below.refl w.heap.size w));have c19:=hx.cw 19 (x:=.bool false) rfl;clear hx;generalize b.ao=ao;generalize b.len=len;generalize b.cap=cap;by_cases h:0<len
 ·have d1:(0:Int)<len:=by omega
  go_enter Tryz.func30,Tryz.ntmps30
  go_wp2;go_loopw [6] (fun i wr=>i=.int .i64 0∧wr=w) (fun _ _=>0)
  case atStart=>exact⟨rfl,rfl⟩
  case round =>
   obtain⟨rfl,rfl⟩:=hrel;go_wp2;go_end0;exact⟨rfl,HG.out⟩
 ·have e:len=0:=by omega
  subst e;go_enter Tryz.func30,Tryz.ntmps30
  go_wp2;go_loopw [6] (fun i wr=>i=.int .i64 0∧wr=w) (fun _ _=>0)
  case atStart=>exact⟨rfl,rfl⟩
  case round =>
   obtain⟨rfl,rfl⟩:=hrel;go_wp2;go_end0;exact⟨rfl,HG.out⟩
theorem R1.sub {w0:World}{j:Jd}{v p pa:Nat}{ok ok':Bool}{r ra:Rst}{nd:Nd}{w u u':World}(h:R1 w0 j v p ok r nd w u)(k:Rg w0 j v pa ok' ra u u')(ha:w.heap.size+1≤pa)(hq:w.heap.size+1≤ra.q):R1 w0 j v p ok' r nd w u':=by
 have l:=h.l;have no:∀b,b≤w.heap.size→b≠v→¬Tri v pa ra.q b:=fun b hb hv e=>by rcases e with e | e | e <;> omega
 have nvp:=h.g.x.nvp;have nvq:=h.g.x.nvq;refine⟨⟨⟨k.x.bl,k.x.W,k.f.blk h.g.x.S (no p (by omega) (fun e=>nvp e.symm)),?_,h.g.x.lv,h.g.x.lp,h.g.x.lq⟩,?_⟩,k.f.blk h.N (no _ (Nat.le_refl _) (by omega)),l⟩
 ·obtain⟨ys,hy⟩:=h.g.x.R;exact⟨ys,k.f.blk hy (no _ (by omega) (fun e=>nvq e.symm))⟩
 ·exact h.g.f.next k.f (fun x hx e=>by
   rcases e with e | e | e
   ·exact Or.inl e
   ·exfalso;omega
   ·exfalso;omega)
structure Ws (w0:World)(pa:Nat)(ra:Rst)(u:World):Prop where
 S:Blk u pa ra.vs 80
 R:∃ys,Blk u ra.q (zda ra.set ra.m++ys) 4
theorem Ws.kept {w0:World}{pa:Nat}{ra:Rst}{u u':World}(h:Ws w0 pa ra u)(hb:Below u.heap.size u u'):Ws w0 pa ra u':=⟨h.S.kept hb,by obtain⟨ys,hy⟩:=h.R;exact⟨ys,hy.kept hb⟩⟩
theorem Ws.foot {w0:World}{pa:Nat}{ra:Rst}{u u':World}{S:Nat→Prop}(h:Ws w0 pa ra u)(k:Foot S u u')(h1:¬S pa)(h2:¬S ra.q):Ws w0 pa ra u':=⟨k.blk h.S h1,by obtain⟨ys,hy⟩:=h.R;exact⟨ys,k.blk hy h2⟩⟩
theorem zm3 {ra rb:Rst}{A B:Sta}(ha:Rel ra A)(hb:Rel rb B){i:Nat}(hia:i<ra.m)(hib:i<rb.m)(hg:(A.gone&&B.gone)=false):jset ra rb i=zbq A B i:=by
 unfold jset zbq;rw[ha.1.2.2,hb.1.2.2];cases qa:A.gone
 ·have h1:=ha.2 qa i hia;cases qb:B.gone
  ·rw[h1,hb.2 qb i hib];simp
  ·rw[h1];simp
 ·cases qb:B.gone
  ·rw[hb.2 qb i hib];simp
  ·rw[qa,qb] at hg;cases hg
theorem zbj {n:Strs}{g:Grid}(hF:zaf n g=true){a b:Int}(ha:lab n a)(hb:lab n b):lab n (zad n g a b):=by
 rcases ha with rfl | ⟨k,hk,rfl⟩
 ·rcases hb with rfl | ⟨m,hm,rfl⟩
  ·rw[bothI_nn];exact Or.inl rfl
  ·rw[zci hF hm];exact Or.inr ⟨m,hm,rfl⟩
 ·rcases hb with rfl | ⟨m,hm,rfl⟩
  ·rw[zcq hF hk];exact Or.inr ⟨k,hk,rfl⟩
  ·rw[zc4 hF hk hm];exact Or.inr ⟨_,zf1 hF hk hm,rfl⟩
theorem zkx {n:Strs}{g:Grid}(hF:zaf n g=true){a b c:Int}(ha:lab n a)(hb:lab n b)(hc:lab n c):zad n g (zad n g a b) c=zad n g a (zad n g b c):=by
 rcases ha with rfl | ⟨k,hk,rfl⟩ <;> rcases hb with rfl | ⟨m,hm,rfl⟩ <;> rcases hc with rfl | ⟨l,hl,rfl⟩
 ·rw[bothI_nn,bothI_nn]
 ·rw[bothI_nn,zci hF hl,zci hF hl]
 ·rw[zci hF hm,zcq hF hm,zci hF hm]
 ·rw[zci hF hm,zc4 hF hm hl,zci hF (zf1 hF hm hl)]
 ·rw[zcq hF hk,bothI_nn,zcq hF hk]
 ·rw[zcq hF hk,zci hF hl]
 ·rw[zc4 hF hk hm,zcq hF (zf1 hF hk hm),zcq hF hm,zc4 hF hk hm]
 ·rw[zc4 hF hk hm,zc4 hF (zf1 hF hk hm) hl,zc4 hF hm hl,zc4 hF hk (zf1 hF hm hl),zwj hF hk hm hl]
theorem zxx {n:Strs}{x:Int}(h:inR n.len x=true):lab n x:=by
 unfold inR at h;simp at h
 exact Or.inr ⟨x.toNat,by omega,by omega⟩
theorem zom {n:Strs}{g:Grid}{t:Ty}{a:Int}(hk:(zai n g t a).k≠0):okB n g t=true∧inR n.len a=true∧zai n g t a=t.setL (zau n g t.l a):=by
 unfold zai at hk ⊢;by_cases h:(okB n g t&&inR n.len a)=true
 ·rw[if_pos h];rw[Bool.and_eq_true] at h;exact⟨h.1,h.2,rfl⟩
 ·rw[if_neg h] at hk;exact absurd rfl hk
theorem zxa:∀{t:Ty} {x:Int},t.Nd→(t.setL x).l=x∧(t.setL x).e=t.e∧(t.setL x).k=t.k
 | .dm,_,h=>h.elim
 | .mk _ _ _ _ _ _ _ _ _ _,_,_=>⟨rfl,rfl,rfl⟩
theorem zt4 {n:Strs}{g:Grid}(hF:zaf n g=true){t:Ty}{a:Int}(hn:t.Nd)(hk:(zai n g t a).k≠0):lab n (zai n g t a).l∧((zai n g t a).k=4→lab n (zai n g t a).e):=by
 obtain⟨h1,h2,h3⟩:=zom hk;rw[h3];obtain⟨e1,e2,e3⟩:=zxa (x:=zau n g t.l a) hn;rw[e1,e2,e3];unfold okB at h1;rw[Bool.and_eq_true] at h1;have fd:=(zfx h1.2).gd;have l1:=fd.lab;refine⟨?_,fun h4=>?_⟩
 ·have ha:∃p:Nat,p<n.len∧t.l=p:=by unfold inR at l1;simp at l1;exact⟨t.l.toNat,by omega,by omega⟩
  have hb:∃p:Nat,p<n.len∧a=p:=by unfold inR at h2;simp at h2;exact⟨a.toNat,by omega,by omega⟩
  obtain⟨p,hp,ep⟩:=ha;obtain⟨q,hq,eq⟩:=hb;rw[ep,eq,zd2 hF hp hq];exact Or.inr ⟨_,zf1 hF hp hq,rfl⟩
 ·have bn:=fd.bnd;rw[h4] at bn;rcases (bnd4 bn).2 with h | h
  ·exact Or.inl h
  ·exact zxx h
theorem zgg {w0:World}{j:Jd}(hK:Kn w0 j)(nd:Nd){a:Int}(h0:0≤a)(h1:a<j.f.slots.len)(hk:(j.read nd a).k≠0):lab j.n (j.read nd a).l∧((j.read nd a).k=4→lab j.n (j.read nd a).e) :=
 zt4 hK.fm (hK.d.f.slots.part (i:=a.toNat) (by omega)).nd hk
theorem zc8 {m:Nat}{l:List Int}(h:slotsB m l=true){x:Int}(hx:x ∈ l):0≤x∧x<m:=by
 unfold slotsB at h;rw[List.all_eq_true] at h;have:=h x hx;unfold wthB at this
 simpa using this
theorem zhf {w:World}{n:Strs}{g:Grid}{many:Int}{m:Nat}{nd:Nd}(hA:nd.At w)(h:nd.shp n g many m=true):slotsB m nd.h.rds=true∧(nd.h.wrs=true→0≤nd.h.dst∧nd.h.dst<m)∧needB n g many nd.h (nd.bd.shp n g many m) (nd.el.shp n g many m)=true:=by
 rw[Nd.shp_eq hA] at h;unfold shpB at h;simp only[Bool.and_eq_true,Bool.or_eq_true,Bool.not_eq_true'] at h;refine⟨h.1.1.2,fun hw=>?_,h.2⟩;rcases h.1.2 with h1 | h1
 ·rw[hw] at h1;cases h1
 ·exact zc8 h1 (List.mem_singleton.2 rfl)
theorem zth {w0:World}{j:Jd}(hK:Kn w0 j){nd:Nd}(hs:slotsB j.f.slots.len nd.h.rds=true):lab j.n (j.makes nd).2:=by
 have key:nd.h.op≠4→nd.h.op≠11→(j.makes nd).2=-1:=fun h4 h11=>by
  unfold Jd.makes;repeat (first | (rw[if_neg h4]) | (rw[if_neg h11]) | split | rfl)
 by_cases h4:nd.h.op=4
 ·have e:j.makes nd=j.reck nd:=by unfold Jd.makes;rw[h4];rfl
  rw[e];have hr:nd.h.rds=[nd.h.a,nd.h.b]:=by unfold Hd.rds;rw[if_neg (by omega),if_pos (Or.inl h4)]
  rw[hr] at hs;have hb:=zc8 hs (x:=nd.h.b) (by simp);unfold Jd.reck;by_cases hc:(((j.read nd nd.h.a).k != 1)||((j.read nd nd.h.b).k != 1))=true
  ·rw[if_pos hc];exact Or.inl rfl
  ·rw[if_neg hc];have hk:(j.read nd nd.h.b).k≠0:=by
    simp only[Bool.or_eq_true,bne_iff_ne,ne_eq,not_or,Decidable.not_not] at hc;rw[hc.2];decide
   show lab j.n (if nd.h.n=9∨nd.h.n=10 then (j.read nd nd.h.b).l else -1)
   split
   ·exact (zgg hK nd hb.1 hb.2 hk).1
   ·exact Or.inl rfl
 ·by_cases h11:nd.h.op=11
  ·have e:j.makes nd=j.called nd:=by unfold Jd.makes;rw[h11];rfl
   rw[e];have hr:nd.h.rds=[nd.h.a,nd.h.b]:=by unfold Hd.rds;rw[if_neg (by omega),if_pos (Or.inr (Or.inr (Or.inl h11)))]
   rw[hr] at hs;have ha:=zc8 hs (x:=nd.h.a) (by simp);unfold Jd.called;by_cases hc:((j.read nd nd.h.a).k != 4||!(belB j.n j.g (j.read nd nd.h.b) ((j.read nd nd.h.a).ps 0))||!(leqB j.n j.g (j.read nd nd.h.a).l (j.read nd nd.h.a).h&&leqB j.n j.g j.f.heap (j.read nd nd.h.a).h))=true
   ·rw[if_pos hc];exact Or.inl rfl
   ·rw[if_neg hc];have hk4:(j.read nd nd.h.a).k=4:=by
     simp only[Bool.or_eq_true,bne_iff_ne,ne_eq,not_or,Decidable.not_not] at hc;exact hc.1.1
    have hl:=zgg hK nd ha.1 ha.2 (by rw[hk4];decide)
    show lab j.n (if (j.read nd nd.h.a).e=-1 then -1 else zad j.n j.g (j.read nd nd.h.a).e (j.read nd nd.h.a).l)
    split
    ·exact Or.inl rfl
    ·exact zbj hK.fm (hl.2 hk4) hl.1
  ·rw[key h4 h11];exact Or.inl rfl
theorem zin {n:Strs}{f:Nat→Sta→Option Sta}:∀(k:Nat),(∀i,i<k→∀s s',f i s=some s'→LabS n s→LabS n s')→∀s s',za7 f k s=some s'→LabS n s→LabS n s'
 | 0,_,s,s',h,hl=>by
  have e:s=s':=Option.some.inj h;rw[←e];exact hl
 | k+1,hf,s,s',h,hl=>by
  have h':(za7 f k s).bind (f k)=some s':=h;cases hq:za7 f k s with
  | none=>rw[hq] at h';cases h'
  | some t =>
   rw[hq] at h';exact hf k (by omega) t s' h' (zin k (fun i hi=>hf i (by omega)) s t hq hl)
theorem zeg {j:Jd}(b:Ns)(ih:∀i,i<b.len→∀s s',(b.ps i).run j s=some s'→LabS j.n s→LabS j.n s'){s s':Sta}(h:j.list b s=some s')(hl:LabS j.n s):LabS j.n s':=zin b.len (fun i hi=>ih i hi) s s' h hl
theorem zo0 {w0:World}{j:Jd}(hK:Kn w0 j):∀nd:Nd,nd.At w0→nd.shp j.n j.g j.fns.len j.f.slots.len=true→∀s s',nd.run j s=some s'→LabS j.n s→LabS j.n s':=by
 intro nd
 induction nd using Nd.ind with
 | h nd ih1 ih2 =>
  intro hA hs s s' hr hl;obtain⟨hrd,hwr,hne⟩:=zhf hA hs;have hop:=zlf hne;rw[ziq hA] at hr;by_cases hp:j.pre nd s=false
  ·rw[if_pos hp] at hr;cases hr
  rw[if_neg hp] at hr;unfold stpO at hr;by_cases h14:nd.h.op=14
  ·rw[if_pos h14] at hr;split at hr
   ·rw[←Option.some.inj hr];exact hl
   ·cases hr
  rw[if_neg h14] at hr;by_cases h15:nd.h.op=15
  ·rw[if_pos h15] at hr;split at hr
   ·rw[←Option.some.inj hr];exact hl
   ·cases hr
  rw[if_neg h15] at hr;have one:nd.h.op=16∨nd.h.op=18→0≤nd.h.a∧nd.h.a<j.f.slots.len:=fun h=>by
   have e:nd.h.rds=[nd.h.a]:=by unfold Hd.rds;rw[if_pos (by omega)]
   rw[e] at hrd;exact zc8 hrd (List.mem_singleton.2 rfl)
  have body:nd.h.op=16∨nd.h.op=17→(∀i,i<nd.bd.len→∀s s',(nd.bd.ps i).run j s=some s'→LabS j.n s→LabS j.n s')∧(∀i,i<nd.el.len→∀s s',(nd.el.ps i).run j s=some s'→LabS j.n s→LabS j.n s'):=fun ho=>by
   obtain⟨e1,e2⟩:=zfe hne ho;unfold Ns.shp at e1 e2;exact⟨fun i hi=>ih1 i hi (hA.bd.part i hi) (of_decide_eq_true e1 i hi),fun i hi=>ih2 i hi (hA.el.part i hi) (of_decide_eq_true e2 i hi)⟩
  by_cases h16:nd.h.op=16
  ·rw[if_pos h16] at hr;unfold chO at hr;split at hr
   ·rename_i hk
    have hl0:=(zgg hK nd (one (Or.inl h16)).1 (one (Or.inl h16)).2 (by rw[hk];decide)).1
    obtain⟨b1,b2⟩:=body (Or.inl h16);cases q1:j.list nd.bd ⟨zad j.n j.g s.at_ (j.read nd nd.h.a).l,-1,s.set,false⟩ with
    | none=>rw[q1] at hr;cases hr
    | some A =>
     rw[q1] at hr;cases q2:j.list nd.el ⟨zad j.n j.g s.at_ (j.read nd nd.h.a).l,-1,s.set,false⟩ with
     | none=>rw[q2] at hr;cases hr
     | some B =>
      rw[q2] at hr;have lA:=zeg nd.bd b1 q1 ⟨zbj hK.fm hl.1 hl0,Or.inl rfl⟩;have lB:=zeg nd.el b2 q2 ⟨zbj hK.fm hl.1 hl0,Or.inl rfl⟩;have e:j.junc s A B (zad j.n j.g A.x B.x)=s':=Option.some.inj hr;rw[←e];exact⟨zbj hK.fm hl.1 (zbj hK.fm lA.2 lB.2),zbj hK.fm hl.2 (zbj hK.fm lA.2 lB.2)⟩
   ·cases hr
  rw[if_neg h16] at hr;by_cases h17:nd.h.op=17
  ·rw[if_pos h17] at hr;unfold atO at hr;obtain⟨b1,b2⟩:=body (Or.inr h17);cases q1:j.list nd.bd ⟨s.at_,-1,s.set,false⟩ with
   | none=>rw[q1] at hr;cases hr
   | some A =>
    rw[q1] at hr;have lA:=zeg nd.bd b1 q1 ⟨hl.1,Or.inl rfl⟩;have hr':((j.list nd.el ⟨zad j.n j.g s.at_ A.x,-1,upd s.set nd.h.dst.toNat,false⟩).bind fun b=>if belB j.n j.g (leafT 1 (zad j.n j.g s.at_ A.x)) (j.f.slots.ps nd.h.dst.toNat)=true then some (j.junc s A b b.x) else none)=some s':=hr;cases q2:j.list nd.el ⟨zad j.n j.g s.at_ A.x,-1,upd s.set nd.h.dst.toNat,false⟩ with
    | none=>rw[q2] at hr';cases hr'
    | some B =>
     rw[q2] at hr';have lB:=zeg nd.el b2 q2 ⟨zbj hK.fm hl.1 lA.2,Or.inl rfl⟩;have hr2:(if belB j.n j.g (leafT 1 (zad j.n j.g s.at_ A.x)) (j.f.slots.ps nd.h.dst.toNat)=true then some (j.junc s A B B.x) else none)=some s':=hr';split at hr2
     ·have e:j.junc s A B B.x=s':=Option.some.inj hr2;rw[←e];exact⟨zbj hK.fm hl.1 lB.2,zbj hK.fm hl.2 lB.2⟩
     ·cases hr2
  rw[if_neg h17] at hr;by_cases h18:nd.h.op=18
  ·rw[if_pos h18] at hr;unfold raO at hr;split at hr
   ·rename_i hk
    have hl0:=(zgg hK nd (one (Or.inr h18)).1 (one (Or.inr h18)).2 (by rw[hk];decide)).1
    rw[←Option.some.inj hr];exact⟨hl.1,zbj hK.fm hl.2 hl0⟩
   ·cases hr
  rw[if_neg h18] at hr;unfold Jd.make at hr;split at hr
  ·rw[←Option.some.inj hr];have hm:=zth hK hrd;exact⟨zbj hK.fm hl.1 hm,zbj hK.fm hl.2 hm⟩
  ·cases hr
theorem zj0 {w0:World}{j:Jd}(hK:Kn w0 j){b:Ns}(hb:b.At w0)(hs:b.shp j.n j.g j.fns.len j.f.slots.len=true){s s':Sta}(h:j.list b s=some s')(hl:LabS j.n s):LabS j.n s' :=
 zeg b (fun i hi=>zo0 hK (b.ps i) (hb.part i hi) (by unfold Ns.shp at hs;exact of_decide_eq_true hs i hi)) h hl
theorem join16 {w0:World}{j:Jd}(hK:Kn w0 j){r ra rb:Rst}{s A B:Sta}(hr:Rel r s)(ha:Rel ra A)(hb:Rel rb B)(hma:ra.m=r.m)(hmb:rb.m=r.m)(hl:LabS j.n s)(la:LabS j.n A)(lb:LabS j.n B):Rel (jk { (((r.bx j ra.x).ba j ra.x).bx j rb.x).ba j rb.x with here:=ra.here||rb.here } ra rb r.m) (j.junc s A B (zad j.n j.g A.x B.x)):=by
 refine⟨⟨?_,?_,?_⟩,fun hg i hi=>?_⟩
 ·show zad j.n j.g (zad j.n j.g r.at_ ra.x) rb.x=zad j.n j.g s.at_ (zad j.n j.g A.x B.x)
  rw[hr.1.1,ha.1.2.1,hb.1.2.1,zkx hK.fm hl.1 la.2 lb.2]
 ·show zad j.n j.g (zad j.n j.g r.x ra.x) rb.x=zad j.n j.g s.x (zad j.n j.g A.x B.x)
  rw[hr.1.2.1,ha.1.2.1,hb.1.2.1,zkx hK.fm hl.2 la.2 lb.2]
 ·show (ra.here||rb.here)=!(A.gone&&B.gone)
  rw[ha.1.2.2,hb.1.2.2];cases A.gone <;> cases B.gone <;> rfl
 ·have hi':i<r.m:=hi;have hg':(A.gone&&B.gone)=false:=hg;show (if i<r.m then jset ra rb i else r.set i)=zbq A B i
  rw[if_pos hi'];exact zm3 ha hb (by rw[hma];exact hi') (by rw[hmb];exact hi') hg'
theorem join17 {j:Jd}{r ra rb:Rst}{s A B:Sta}(hr:Rel r s)(ha:Rel ra A)(hb:Rel rb B)(hma:ra.m=r.m)(hmb:rb.m=r.m):Rel (jk { (r.bx j rb.x).ba j rb.x with here:=ra.here||rb.here } ra rb r.m) (j.junc s A B B.x):=by
 refine⟨⟨?_,?_,?_⟩,fun hg i hi=>?_⟩
 ·show zad j.n j.g r.at_ rb.x=zad j.n j.g s.at_ B.x
  rw[hr.1.1,hb.1.2.1]
 ·show zad j.n j.g r.x rb.x=zad j.n j.g s.x B.x
  rw[hr.1.2.1,hb.1.2.1]
 ·show (ra.here||rb.here)=!(A.gone&&B.gone)
  rw[ha.1.2.2,hb.1.2.2];cases A.gone <;> cases B.gone <;> rfl
 ·have hi':i<r.m:=hi;have hg':(A.gone&&B.gone)=false:=hg;show (if i<r.m then jset ra rb i else r.set i)=zbq A B i
  rw[if_pos hi'];exact zm3 ha hb (by rw[hma];exact hi') (by rw[hmb];exact hi') hg'
end
end Go.Proofs.YtgioppfoceddfaaGreat
