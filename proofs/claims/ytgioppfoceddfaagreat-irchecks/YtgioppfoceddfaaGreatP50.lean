import Derived.Test.YtgioppfoceddfaaGreatP49
set_option maxRecDepth 100000
set_option maxHeartbeats 32000000
namespace Go.Proofs.YtgioppfoceddfaaGreat
section
open Go Go.RowKit
theorem zjy {w0:World}{j:Jd}(hK:Kn w0 j)(b:Ns)(hb:b.At w0)(hs:b.shp j.n j.g j.fns.len j.f.slots.len=true)(hst:∀i,i<b.len→zkd w0 j (b.ps i)):zen w0 j b:=by
 intro v p r s w hx hr hl hm;have HK:=hid (show Kn w0 j∧b.At w0∧(∀i,i<b.len→zkd w0 j (b.ps i))∧r.m=j.f.slots.len from ⟨hK,hb,hst,hm⟩);have HLR:Hid (∀k,k≤b.len→∀s',za7 (fun i=>(b.ps i).run j) k s=some s'→LabS j.n s'):=fun k hk s' h=>zin k (fun i hi=>zo0 hK (b.ps i) (hb.part i (by omega)) (by unfold Ns.shp at hs;exact of_decide_eq_true hs i (by omega))) s s' h hl
 have HST:Hid (StpR w0 j v p r (za7 (fun i=>(b.ps i).run j) 0 s) w w):=⟨true,r,⟨hx,Foot.refl _ _⟩,⟨rfl,rfl⟩,rfl,fun s' h=>by rw[←Option.some.inj h];exact hr⟩
 have hnil:0<b.len→b.ao=some ⟨b.b,b.o,none⟩:=hb.nil;have hbd:b.len≤9223372036854775807:=hb.bound;have HG:Hid (j.list b s=za7 (fun i=>(b.ps i).run j) b.len s):=by show _=_;rfl
 obtain⟨O,hO⟩:∃O,O=j.list b s:=⟨_,rfl⟩;rw[←hO];have HO:=hid hO;clear hx hr hl hm hK hb hs hst hO;generalize hlen:b.len=len at *;have HL:Hid (b.len=len):=hlen;clear hlen;generalize b.ao=ao at *;generalize b.cap=cap at *;go_enter Tryz.func30,Tryz.ntmps30
 go_wp2;go_loopw [6] (fun i wr=>∃k:Nat,k≤len∧i=.int .i64 k∧Hid (StpR w0 j v p r (za7 (fun i=>(b.ps i).run j) k s) w wr)) (fun i _=>len - (intOf i).toNat)
 case atStart=>exact⟨0,Nat.zero_le _,rfl,HST.out⟩
 case round =>
  clear HST;obtain⟨k,hk,rfl,hJ⟩:=hrel;obtain⟨ok,rk,hgk,hqk,hokk,hrelk⟩:=hJ.out;have HJ:=hid (show Rg w0 j v p ok rk w wr∧(rk.q=r.q∧rk.m=r.m)∧ok=(za7 (fun i=>(b.ps i).run j) k s).isSome∧∀s',za7 (fun i=>(b.ps i).run j) k s=some s'→Rel rk s' from ⟨hgk,hqk,hokk,hrelk⟩);clear hJ hgk hqk hokk hrelk;have c19:=HJ.out.1.x.cw 19 (x:=.bool ok) rfl;by_cases hlt:k<len
  ·have ij:(k:Int)<len:=by omega
   have a0:=hnil (by omega);subst a0;cases ok
   ·go_wp2;go_end0;have e:O=none:=by
     rw[HO.out,HG.out,←HL.out];refine zhg (k:=k) ?_ (by rw[HL.out];omega)
     have h:=HJ.out.2.2.1;cases q:za7 (fun i=>(b.ps i).run j) k s with
     | none=>rfl
     | some _=>rw[q] at h;cases h
    exact⟨rfl,false,rk,HJ.out.1,HJ.out.2.1,by rw[e];rfl,fun s' h=>by rw[e] at h;cases h⟩
   ·obtain⟨sk,hsk⟩:=Option.isSome_iff_exists.1 HJ.out.2.2.1.symm;have hlt':k<b.len:=by rw[HL.out];exact hlt
    have HSK:=hid (show za7 (fun i=>(b.ps i).run j) k s=some sk∧Rel rk sk∧LabS j.n sk from ⟨hsk,HJ.out.2.2.2 sk hsk,HLR.out k hk sk hsk⟩);have HNX:Hid (za7 (fun i=>(b.ps i).run j) (k+1) s=if j.pre (b.ps k) sk=false then none else stpO j (b.ps k) sk):=by
     show (za7 (fun i=>(b.ps i).run j) k s).bind ((b.ps k).run j)=_
     rw[hsk];exact ziq (HK.out.2.1.part k hlt') sk
    have HND:=hid (show wr.rangeAt b.b (b.o+k*14) (b.ps k).vs∧zkd w0 j (b.ps k)∧(∀u,Below w0.heap.size w0 u→u.rangeAt b.b (b.o+k*14) (b.ps k).vs) from ⟨(HK.out.2.1.kept HJ.out.1.x.bl).cells k hlt',HK.out.2.2.1 k hlt,fun u hu=>(HK.out.2.1.kept hu).cells k hlt'⟩);clear hsk hlt';generalize b.ps k=nd at *;have s3:=HJ.out.1.x.cs 3 (x:=.bool rk.here) rfl;have s0:=HJ.out.1.x.cs 0 (x:=.int .i64 rk.at_) rfl;have e5:wr.cell? ⟨b.b,b.o+k*14+5,none⟩=some (.int .i64 nd.h.env):=HND.out.1 5 _ rfl;have p3:=fun x=>Gr.cell x s3;have p0:=fun x=>Gr.cell x s0;have p5:=fun x=>Gr.cell x e5;have hbl:∀q,Below wr.heap.size wr q→Calls Tryz.prog 60 #[.pointer (some ⟨v,0,none⟩),.int .i64 rk.at_,.int .i64 nd.h.env] q fun e w'=>e=.returned (.bool (leqB j.n j.g rk.at_ nd.h.env))∧Below q.heap.size q w':=fun q hq=>zcx j.n j.g j.fns j.f true v _ _ q (HJ.out.1.x.kept hq).W (HK.out.1.d.n.kept (HJ.out.1.x.kept hq).bl) (HK.out.1.d.g.kept (HJ.out.1.x.kept hq).bl);have hNE:Nonempty (Gr wr):=⟨⟨_,Below.refl _ _⟩⟩;go_upto_region 3 with fail
    clear s3 s0 e5 c19;go_cut [6] (fun c wx=>c=.int .i64 k∧∃ok2:Bool,Hid (Rg w0 j v p ok2 rk w wx∧ok2=(rk.here&&leqB j.n j.g rk.at_ nd.h.env)))
    case first =>
     cases hh:rk.here
     ·rw[hh] at p3;refine zah 18 (by kernel_rfl) (by kernel_rfl) ?_;simp only[List.take,List.drop];iterate 18 go_big_quiet_step (fail)
      refine wpQuiet_nil ?_;rintro y1 ⟨xg,rfl⟩;have Bg:=xg.bl;generalize xg.w=y1 at Bg ⊢;have HG1:=hid (HJ.out.1.kept Bg);clear Bg xg;go_wp2_with fail
      refine (za8 j.n j.g j.fns j.f true false v y1 HG1.out.x.W).mono ?_;rintro _ y2 ⟨rfl,W2⟩;have HG2:=hid (HG1.out.wv W2);go_wp2;go_meet
      case rel=>exact⟨rfl,false,HG2.out,by rw[hh];rfl⟩
     ·rw[hh] at p3;refine zah 18 (by kernel_rfl) (by kernel_rfl) ?_;simp only[List.take,List.drop];iterate 16 go_big_quiet_step (fail)
      go_big_quiet_step ((go_at_call 60;exact Calls.gr _ (hbl _ (Gr.bl _))))
      go_big_quiet_step (fail)
      refine wpQuiet_nil ?_;rintro y1 ⟨xg,rfl⟩;have Bg:=xg.bl;generalize xg.w=y1 at Bg ⊢;have HG1:=hid (HJ.out.1.kept Bg);clear Bg xg;go_wp2_with fail
      refine (za8 j.n j.g j.fns j.f true (leqB j.n j.g rk.at_ nd.h.env) v y1 HG1.out.x.W).mono ?_;rintro _ y2 ⟨rfl,W2⟩;have HG2:=hid (HG1.out.wv W2);go_wp2;go_meet
      case rel=>exact⟨rfl,_,HG2.out,by rw[hh]⟩
    case rest =>
     obtain⟨rfl,ok2,h2⟩:=hcut;have HG2:=hid h2.out;clear h2 p3 p0 p5 hbl hNE;have c19:=HG2.out.1.x.cw 19 (x:=.bool ok2) rfl;cases ok2
     ·have HN1:Hid (StpR w0 j v p r (za7 (fun i=>(b.ps i).run j) (k+1) s) w wc):=by
       have e:za7 (fun i=>(b.ps i).run j) (k+1) s=none:=by
        rw[HNX.out,if_pos];unfold Jd.pre;have h:=HG2.out.2;rw[HSK.out.2.1.1.2.2,HSK.out.2.1.1.1] at h;rw[←h];rfl
       show StpR _ _ _ _ _ _ _ _
       rw[e];exact⟨false,rk,HG2.out.1,HJ.out.2.1,rfl,fun s' h=>by cases h⟩
      go_wp2;go_roundw
      case rel=>exact⟨k+1,by omega,by go_num,HN1.out⟩
      case measure=>simp[intOf];omega
     ·have HPR:=hid (show sk.gone=false∧leqB j.n j.g sk.at_ nd.h.env=true from by
       have h:=HG2.out.2.symm;rw[HSK.out.2.1.1.2.2,HSK.out.2.1.1.1] at h
       simpa using h)
      have rN:=HND.out.2.2 wc HG2.out.1.x.bl;go_wp2_with (refine wpList_load_mid rfl 86 (.tmp 46) rfl b.b (b.o+k*14) (by kernel_rfl) nd.vs _ rN Tryz.underlying86 rfl (by kernel_rfl) ?_)
      refine (HND.out.2.1 v p rk sk wc HG2.out.1.x HSK.out.2.1 HPR.out.1 HSK.out.2.2 (by rw[HJ.out.2.1.2];exact HK.out.2.2.2)).mono ?_
      rintro _ y3 ⟨rfl,ok3,r3,hg3,hq3,hok3,hrel3⟩;have HN1:Hid (StpR w0 j v p r (za7 (fun i=>(b.ps i).run j) (k+1) s) w y3):=by
       have e:za7 (fun i=>(b.ps i).run j) (k+1) s=if nd.h.rds.all (fun i=>sk.set i.toNat)=true then stpO j nd sk else none:=by
        rw[HNX.out];unfold Jd.pre;rw[HPR.out.1,HPR.out.2];cases nd.h.rds.all (fun i=>sk.set i.toNat) <;> rfl
       show StpR _ _ _ _ _ _ _ _
       rw[e];exact⟨ok3,r3,HG2.out.1.trans hg3 hq3.1,⟨by rw[hq3.1];exact HJ.out.2.1.1,by rw[hq3.2];exact HJ.out.2.1.2⟩,hok3,hrel3⟩
      clear hg3 hq3 hok3 hrel3 rN c19;go_wp2;go_roundw
      case rel=>exact⟨k+1,by omega,by go_num,HN1.out⟩
      case measure=>simp[intOf];omega
  ·have e2:k=len:=by omega
   subst e2;have dd:¬(k:Int)<k:=by omega
   go_wp2;go_end0;exact⟨rfl,ok,rk,HJ.out.1,HJ.out.2.1,by rw[HO.out,HG.out];exact HJ.out.2.2.1,fun s' h=>HJ.out.2.2.2 s' (by rw[←h,HO.out,HG.out])⟩
theorem zxt {w0:World}{j:Jd}(hK:Kn w0 j):∀nd:Nd,nd.At w0→nd.shp j.n j.g j.fns.len j.f.slots.len=true→zkd w0 j nd:=by
 intro nd
 induction nd using Nd.ind with
 | h nd ih1 ih2 =>
  intro hA hs;obtain⟨_,_,hne⟩:=zhf hA hs;refine zwi hK nd hA hs (fun ho=>?_);obtain⟨e1,e2⟩:=zfe hne ho;refine⟨zjy hK nd.bd hA.bd e1 (fun i hi=>?_),zjy hK nd.el hA.el e2 (fun i hi=>?_)⟩
  ·unfold Ns.shp at e1;exact ih1 i hi (hA.bd.part i hi) (of_decide_eq_true e1 i hi)
  ·unfold Ns.shp at e2;exact ih2 i hi (hA.el.part i hi) (of_decide_eq_true e2 i hi)
theorem rbody {w0:World}{j:Jd}(hK:Kn w0 j)(b:Ns)(hb:b.At w0)(hs:b.shp j.n j.g j.fns.len j.f.slots.len=true):zen w0 j b :=
 zjy hK b hb hs (fun i hi=>zxt hK (b.ps i) (hb.part i hi) (by unfold Ns.shp at hs;exact of_decide_eq_true hs i hi))
end
end Go.Proofs.YtgioppfoceddfaaGreat
