import Derived.Test.YtgioppfoceddfaaGreatP44
set_option maxRecDepth 100000
set_option maxHeartbeats 32000000
namespace Go.Proofs.YtgioppfoceddfaaGreat
section
open Go Go.RowKit
theorem zsa {n:Strs}{g:Grid}(hF:zaf n g=true){a:Int}(ha:lab n a):zad n g a (-1)=a:=by
 rcases ha with rfl | ⟨k,hk,rfl⟩
 ·exact bothI_nn
 ·exact zcq hF hk
theorem at_no {o:Option Sta}{b:Sta→Bool}{f:Sta→Option Sta}{F:Sta→Sta→Sta}{k:Bool}(h:k=o.isSome)(hk:∀A,o=some A→b A=false):(o.bind fun A=>(f A).bind fun B=>if b A=true then some (F A B) else none)=none:=by
 cases o with
 | none=>rfl
 | some A =>
  show ((f A).bind fun B=>if b A=true then some (F A B) else none)=none
  rw[hk A rfl];cases f A <;> rfl
theorem zrr (w0:World)(j:Jd)(nd:Nd)(v p:Nat)(r:Rst)(s:Sta)(w:World)(hK:Kn w0 j)(hx:Rx w0 j v p true r w)(hr:Rel r s)(hg:s.gone=false)(hl:LabS j.n s)(hm:r.m=j.f.slots.len)(d:Nat)(hdst:nd.h.dst=d)(hi:d<r.m)(hop:nd.h.op=17)(hA:nd.At w0)(hs1:nd.bd.shp j.n j.g j.fns.len j.f.slots.len=true)(hs2:nd.el.shp j.n j.g j.fns.len j.f.slots.len=true)(hb1:zen w0 j nd.bd)(hb2:zen w0 j nd.el) :
  Calls Tryz.prog 101 #[.pointer (some ⟨v,0,none⟩),.pointer (some ⟨p,0,none⟩),.agg nd.vs.toArray] w fun e w'=>e=.returned (.tuple #[])∧StpR w0 j v p r (atO j nd s) w w':=by
 have HO:=hid hop;have HKK:=hid (show Kn w0 j∧r.m=j.f.slots.len∧(0<r.m∧r.m≤250) from ⟨hK,hm,by rw[hm];exact hK.m0,by rw[hm];exact hK.m2⟩)
 have HS:=hid (show Rel r s∧s.gone=false∧LabS j.n s from ⟨hr,hg,hl⟩);have HN:=hid (show nd.At w0∧nd.bd.shp j.n j.g j.fns.len j.f.slots.len=true∧nd.el.shp j.n j.g j.fns.len j.f.slots.len=true from ⟨hA,hs1,hs2⟩);have HC:=hid (show zen w0 j nd.bd∧zen w0 j nd.el from ⟨hb1,hb2⟩);have HDD:=hid (show nd.h.dst=d∧d<r.m from ⟨hdst,hi⟩);have HR:=hid (R1.new nd hx);have HBN:=hid (show zad j.n j.g s.at_ (-1)=s.at_ from zsa hK.fm hl.1);clear hx hr hg hl hm hop hA hs1 hs2 hb1 hb2 hK hdst hi;obtain⟨o,ho⟩:∃o,o=atO j nd s:=⟨_,rfl⟩;rw[←ho];have HOO:Hid (o=(j.list nd.bd ⟨s.at_,-1,s.set,false⟩).bind fun A=>(j.list nd.el ⟨zad j.n j.g s.at_ A.x,-1,upd s.set d,false⟩).bind fun B=>if belB j.n j.g (leafT 1 (zad j.n j.g s.at_ A.x)) (j.f.slots.ps d)=true then some (j.junc s A B B.x) else none):=by
  show _=_
  rw[ho];unfold atO;rw[HDD.out.1];rfl
 clear ho;go_enter Tryz.func101,Tryz.ntmps101
 go_upto_region 1 with fail
 generalize (w.alloc (.cells nd.vs.toArray 86))=w1 at *;have n0:=HR.out.N.cell 0 (v:=.int .i64 17) (by rw[←HO.out];rfl)
 go_wp2_with fail
 refine (zgi w0 j (-1) v p true r w1 HKK.out.1.d HR.out.g.x HKK.out.2.2.1 HKK.out.2.2.2).mono ?_;rintro _ y3 ⟨pa,ra,rfl,hra,hxa,hb3,hpa,hqa⟩;have HR5:=hid (HR.out.kept hb3);have HXA:=hid (show Rx w0 j v pa true ra y3∧(w.heap.size+1≤pa∧w.heap.size+1≤ra.q)∧ra.m=r.m∧Rel ra ⟨s.at_,-1,s.set,false⟩ from ⟨hxa,⟨Nat.le_trans HR.out.base hpa,Nat.le_trans HR.out.base hqa⟩,hra.2.2.1,zle HS.out.1 HS.out.2.1 ⟨by rw[hra.1,HS.out.1.1.1,HBN.out],hra.2⟩⟩);clear hra hxa hb3 hpa hqa HR n0;have n12:=HR5.out.N.cell 12 (v:=.slice nd.bd.ao nd.bd.len nd.bd.cap) rfl;go_wp2_with fail
 refine (HC.out.1 v pa ra ⟨s.at_,-1,s.set,false⟩ y3 HXA.out.1 HXA.out.2.2.2 ⟨HS.out.2.2.1,Or.inl rfl⟩ (by rw[HXA.out.2.2.1];exact HKK.out.2.1)).mono ?_
 rintro _ y4 ⟨rfl,okA,rA,hgA,⟨hqA,hmA⟩,hokA,hrelA⟩;have HR6:=hid (HR5.out.sub hgA HXA.out.2.1.1 (by rw[hqA];exact HXA.out.2.1.2))
 have HWA:=hid (show Ws w0 pa rA y4∧(w.heap.size+1≤pa∧w.heap.size+1≤rA.q)∧rA.m=r.m∧pa<y4.heap.size∧rA.q<y4.heap.size from ⟨⟨hgA.x.S,hgA.x.R⟩,⟨HXA.out.2.1.1,by rw[hqA];exact HXA.out.2.1.2⟩,by rw[hmA];exact HXA.out.2.2.1,hgA.x.lts.2.1,hgA.x.lts.2.2.1⟩)
 have HOA:=hid (show okA=(j.list nd.bd ⟨s.at_,-1,s.set,false⟩).isSome∧∀s',j.list nd.bd ⟨s.at_,-1,s.set,false⟩=some s'→Rel rA s' from ⟨hokA,hrelA⟩);clear hgA hqA hmA hokA hrelA HXA HR5 n12;have n0:=HR6.out.N.cell 0 (v:=.int .i64 17) (by rw[←HO.out];rfl)
 have a1:=HWA.out.1.S.cell 1 (v:=.int .i64 rA.x) rfl;go_wp2_with fail
 refine (zgi w0 j rA.x v p okA r y4 HKK.out.1.d HR6.out.g.x HKK.out.2.2.1 HKK.out.2.2.2).mono ?_;rintro _ y5 ⟨pb,rb,rfl,hrb,hxb,hb5,hpb,hqb⟩;have HR7:=hid (HR6.out.kept hb5);have HWB:=hid (show Ws w0 pa rA y5 from HWA.out.1.kept hb5);have HXB:=hid (show Rx w0 j v pb okA rb y5∧(y4.heap.size≤pb∧y4.heap.size≤rb.q)∧rb.m=r.m∧(rb.at_=zad j.n j.g s.at_ rA.x∧rb.x=-1∧rb.set=r.set∧rb.here=true)∧w.heap.size+1≤y4.heap.size from ⟨hxb,⟨hpb,hqb⟩,hrb.2.2.1,⟨by rw[hrb.1,HS.out.1.1.1],hrb.2.1,hrb.2.2.2.1,hrb.2.2.2.2⟩,HR6.out.base⟩);clear hrb hxb hb5 hpb hqb HR6 n0 a1;have n0:=HR7.out.N.cell 0 (v:=.int .i64 17) (by rw[←HO.out];rfl)
 go_upto_region 11 with fail
 have hk2:d<j.f.slots.len:=by have h1:=HDD.out.2;have h2:=HKK.out.2.1;omega
 have hk':(d:Int)<j.f.slots.len:=by omega
 have hsl:j.f.slots.At y5:=HKK.out.1.d.f.slots.kept HR7.out.g.x.bl;have hao:=hsl.nil (by omega);have c0:=HR7.out.g.x.cw 0 (x:=.slice j.n.ao j.n.len j.n.cap) rfl;have c1:=HR7.out.g.x.cw 1 (x:=.slice j.g.ao j.g.len j.g.cap) rfl;have c16:=HR7.out.g.x.cw 16 (x:=.slice j.f.slots.ao j.f.slots.len j.f.slots.cap) rfl;rw[hao] at c16;have b0:=HXB.out.1.cs 0 (x:=.int .i64 rb.at_) rfl;have n1:=HR7.out.N.cell 1 (v:=.int .i64 d) (by rw[←HDD.out.1];rfl)
 have p0:=fun x=>Gr.cell x c0;have p1:=fun x=>Gr.cell x c1;have p16:=fun x=>Gr.cell x c16;have q0:=fun x=>Gr.cell x b0;have q1:=fun x=>Gr.cell x n1;have hC1:∀u',(∃x:Gr y5,u'=x.w)→u'.rangeAt j.f.slots.b (j.f.slots.o+d*5) (j.f.slots.ps d).vs:=by rintro _ ⟨x,rfl⟩;exact C5.row ((hsl.kept x.bl).cells hk2)
 have hbl:∀q,Below y5.heap.size y5 q→Calls Tryz.prog 31 #[.agg #[.slice j.n.ao j.n.len j.n.cap,.slice j.g.ao j.g.len j.g.cap],.agg #[.int .i64 1,.int .i64 rb.at_,.slice none 0 0,.int .i64 0,.int .i64 0],.agg (j.f.slots.ps d).vs.toArray] q fun e w'=>e=.returned (.bool (belB j.n j.g (leafT 1 rb.at_) (j.f.slots.ps d)))∧Below q.heap.size q w':=fun q hq=>zcw j.n j.g (leafT 1 rb.at_) (j.f.slots.ps d) q (HKK.out.1.d.n.kept (HR7.out.kept hq).g.x.bl) (HKK.out.1.d.g.kept (HR7.out.kept hq).g.x.bl) (zay _ _ _) ((HKK.out.1.d.f.slots.part hk2).kept (HR7.out.kept hq).g.x.bl);have hNE:Nonempty (Gr y5):=⟨⟨_,Below.refl _ _⟩⟩;clear c0 c1 c16 b0 n1 hao hsl;refine zah 20 (by kernel_rfl) (by kernel_rfl) ?_;simp only[List.take,List.drop];iterate 18 go_big_quiet_step (fail)
 go_big_quiet_want;refine zaa 38 (.tmp 66) rfl j.f.slots.b (j.f.slots.o+d*5) (by kernel_rfl) (j.f.slots.ps d).vs _ hC1 Tryz.underlying38 rfl (by kernel_rfl) ?_;simp only[Act.put,zA,zB,zC];go_big_quiet_on;go_big_quiet_step ((go_at_call 31;exact Calls.gr _ (hbl _ (Gr.bl _))))
 refine wpQuiet_nil ?_;rintro y6 ⟨xg,rfl⟩;have Bg:=xg.bl;generalize xg.w=y6 at Bg ⊢;have HR8:=hid (HR7.out.kept Bg);have HWC:=hid (HWB.out.kept Bg);have HXC:=hid (HXB.out.1.kept Bg);clear Bg xg p0 p1 p16 q0 q1 hC1 hbl hNE HR7 HWB n0;generalize hbv:belB j.n j.g (leafT 1 rb.at_) (j.f.slots.ps d)=bv at *;have HBV:=hid hbv;clear hbv;go_wp2_with fail
 refine (za8 j.n j.g j.fns j.f okA bv v y6 HR8.out.g.x.W).mono ?_;rintro _ y7 ⟨rfl,W7⟩;have HR9:Hid (R1 w0 j v p (okA&&bv) r nd w y7):=⟨HR8.out.g.wv W7,W7.keep HR8.out.N (by have:=HR8.out.l;omega),HR8.out.l⟩
 have HXD:=hid (HXC.out.wv W7);have HWD:=hid (show Ws w0 pa rA y7 from HWC.out.foot (zd8 (S:=fun b=>b=v) W7 rfl) (HWC.out.S.ne HR8.out.g.x.W (by decide)) (by obtain⟨ys,hy⟩:=HWC.out.R;exact hy.ne HR8.out.g.x.W (by decide)))
 clear W7 HR8 HWC HXC;go_upto_region 12 with fail
 have s2:=HXD.out.cs 2 (x:=.slice (some ⟨rb.q,0,none⟩) rb.m rb.cap) rfl;have n1:=HR9.out.N.cell 1 (v:=.int .i64 d) (by rw[←HDD.out.1];rfl)
 have hdb:d<rb.m:=by have h1:=HDD.out.2;have h2:=HXB.out.2.2.1;omega
 have hdb':(d:Int)<rb.m:=by omega
 have p2:=fun x=>Gr.cell x s2;have q1:=fun x=>Gr.cell x n1;have hNE:Nonempty (Gr y7):=⟨⟨_,Below.refl _ _⟩⟩;clear s2 n1;refine zah 7 (by kernel_rfl) (by kernel_rfl) ?_;simp only[List.take,List.drop];iterate 7 go_big_quiet_step (fail)
 refine wpQuiet_nil ?_;rintro y8 ⟨xg,rfl⟩;have Bg:=xg.bl;generalize xg.w=y8 at Bg ⊢;have HRa:=hid (HR9.out.kept Bg);have HWE:=hid (HWD.out.kept Bg);have HXE:=hid (HXD.out.kept Bg);clear Bg xg p2 q1 hNE HR9 HWD HXD;have b0:=HXE.out.cr hdb;have f0:=HXE.out.fr d;have HGB:=hid ((Rg.of HXE.out (Below.refl _ _)).wq { rb with set:=upd rb.set d } d true hdb rfl rfl rfl rfl);have HRb:=hid (HRa.out.sub HGB.out (Nat.le_trans HXB.out.2.2.2.2 HXB.out.2.1.1) (Nat.le_trans HXB.out.2.2.2.2 HXB.out.2.1.2));have HWF:=hid (show Ws w0 pa rA _ from HWE.out.sub HGB.out (by have h:=HRa.out.g.x.W;cases hq:(okA&&bv) <;> rw[hq] at h;exact Or.inr h;exact Or.inl h) (by have h1:=HWA.out.2.2.2.1;have h2:=HXB.out.2.1.1;omega) (by show pa<rb.q;have h1:=HWA.out.2.2.2.1;have h2:=HXB.out.2.1.2;omega) (by have h1:=HWA.out.2.2.2.2;have h2:=HXB.out.2.1.1;omega) (by show rA.q<rb.q;have h1:=HWA.out.2.2.2.2;have h2:=HXB.out.2.1.2;omega))
 go_upto_region 13 with fail
 generalize y8.setCell ⟨rb.q,d,none⟩ (.bool true)=y9 at *;clear b0 f0 HRa HWE HXE;have n0:=HRb.out.N.cell 0 (v:=.int .i64 17) (by rw[←HO.out];rfl)
 have n13:=HRb.out.N.cell 13 (v:=.slice nd.el.ao nd.el.len nd.el.cap) rfl;generalize hkk:(okA&&bv)=kk at *;have HKK2:=hid hkk;clear hkk;cases kk
 ·go_wp2_with fail
  refine (zl2 w0 j v pb { rb with set:=upd rb.set d } nd.el y9 HGB.out.x).mono ?_;rintro _ z6 ⟨rfl,hgB⟩;have HR8:=hid (HRb.out.sub hgB (Nat.le_trans HXB.out.2.2.2.2 HXB.out.2.1.1) (Nat.le_trans HXB.out.2.2.2.2 HXB.out.2.1.2));clear hgB n0 n13;have c19:=HR8.out.g.x.cw 19 (x:=.bool false) rfl;go_wp2;go_end0;have e:o=none:=by
   rw[HOO.out];exact at_no HOA.out.1 (fun A hA=>by have h:=HKK2.out;have h2:=HBV.out;rw[HXB.out.2.2.2.1.1,(HOA.out.2 A hA).1.2.1] at h2;rw[HOA.out.1,hA] at h;rw[h2];exact h)
  exact⟨rfl,false,r,HR8.out.g,⟨rfl,rfl⟩,by rw[e];rfl,fun s' h=>by rw[e] at h;cases h⟩
 ·have HTT:=hid (show okA=true∧bv=true from by have h:=HKK2.out;simpa using h)
  obtain⟨A,hA⟩:=Option.isSome_iff_exists.1 (HOA.out.1.symm.trans HTT.out.1);have HAA:=hid (show j.list nd.bd ⟨s.at_,-1,s.set,false⟩=some A∧Rel rA A∧LabS j.n A from ⟨hA,HOA.out.2 A hA,zj0 HKK.out.1 HN.out.1.bd HN.out.2.1 hA ⟨HS.out.2.2.1,Or.inl rfl⟩⟩);clear hA;have HRB:=hid (show Rel ({ rb with set:=upd rb.set d }:Rst) ⟨zad j.n j.g s.at_ A.x,-1,upd s.set d,false⟩ from ⟨⟨by show rb.at_=_;rw[HXB.out.2.2.2.1.1,HAA.out.2.1.1.2.1],HXB.out.2.2.2.1.2.1,HXB.out.2.2.2.1.2.2.2⟩,fun _ i hi=>by
   show upd rb.set d i=upd s.set d i
   have hi':i<rb.m:=hi;unfold upd;split
   ·rfl
   ·rw[HXB.out.2.2.2.1.2.2.1];exact HS.out.1.2 HS.out.2.1 i (by rw[←HXB.out.2.2.1];exact hi')⟩)
  go_wp2_with fail
  refine (HC.out.2 v pb { rb with set:=upd rb.set d } ⟨zad j.n j.g s.at_ A.x,-1,upd s.set d,false⟩ y9 HGB.out.x HRB.out ⟨zbj HKK.out.1.fm HS.out.2.2.1 HAA.out.2.2.2,Or.inl rfl⟩ (by show rb.m=_;rw[HXB.out.2.2.1];exact HKK.out.2.1)).mono ?_
  rintro _ z6 ⟨rfl,okB,rB,hgB,⟨hqB,hmB⟩,hokB,hrelB⟩;have hqB':rB.q=rb.q:=hqB;have hmB':rB.m=rb.m:=hmB;have HR8:=hid (HRb.out.sub hgB (Nat.le_trans HXB.out.2.2.2.2 HXB.out.2.1.1) (by rw[hqB'];exact Nat.le_trans HXB.out.2.2.2.2 HXB.out.2.1.2))
  have HWC:=hid (show Ws w0 pa rA z6 from HWF.out.sub hgB (Or.inl HRb.out.g.x.W) (by have h1:=HWA.out.2.2.2.1;have h2:=HXB.out.2.1.1;omega) (by rw[hqB'];have h1:=HWA.out.2.2.2.1;have h2:=HXB.out.2.1.2;omega) (by have h1:=HWA.out.2.2.2.2;have h2:=HXB.out.2.1.1;omega) (by rw[hqB'];have h1:=HWA.out.2.2.2.2;have h2:=HXB.out.2.1.2;omega))
  have HBB:=hid (show Ws w0 pb rB z6∧(w.heap.size+1≤pb∧w.heap.size+1≤rB.q)∧rB.m=r.m from ⟨⟨hgB.x.S,hgB.x.R⟩,⟨Nat.le_trans HXB.out.2.2.2.2 HXB.out.2.1.1,by rw[hqB'];exact Nat.le_trans HXB.out.2.2.2.2 HXB.out.2.1.2⟩,by rw[hmB'];exact HXB.out.2.2.1⟩)
  have HOB:=hid (show okB=(j.list nd.el ⟨zad j.n j.g s.at_ A.x,-1,upd s.set d,false⟩).isSome∧∀s',j.list nd.el ⟨zad j.n j.g s.at_ A.x,-1,upd s.set d,false⟩=some s'→Rel rB s' from ⟨hokB,hrelB⟩);have HBE:=hid (show belB j.n j.g (leafT 1 (zad j.n j.g s.at_ A.x)) (j.f.slots.ps d)=true from by have h2:=HBV.out;rw[HXB.out.2.2.2.1.1,HAA.out.2.1.1.2.1,HTT.out.2] at h2;exact h2)
  clear hgB hqB hmB hqB' hmB' hokB hrelB HXB HWF HRb HGB n0 n13;have c19:=HR8.out.g.x.cw 19 (x:=.bool okB) rfl;have n0:=HR8.out.N.cell 0 (v:=.int .i64 17) (by rw[←HO.out];rfl)
  cases okB
  ·go_wp2;go_end0;have e:o=none:=by rw[HOO.out,HAA.out.1];show (j.list nd.el _).bind _=none;exact zk4 HOB.out.1
   exact⟨rfl,false,r,HR8.out.g,⟨rfl,rfl⟩,by rw[e];rfl,fun s' h=>by rw[e] at h;cases h⟩
  ·obtain⟨B,hB⟩:=Option.isSome_iff_exists.1 HOB.out.1.symm;have HB2:=hid hB;clear hB;have HJX:Hid (Jx w0 j v p pa pb true r rA rB z6 z6):=⟨⟨HR8.out.g.x,Foot.refl _ _⟩,HWC.out.S,HWC.out.R,HBB.out.1.S,HBB.out.1.R,by have h1:=HR8.out.l;have h2:=HWA.out.2.1;omega,by have h1:=HR8.out.l;have h2:=HBB.out.2.1;omega,by have h1:=HR8.out.l;have h2:=HWA.out.2.1;omega,by have h1:=HR8.out.l;have h2:=HBB.out.2.1;omega⟩
   go_wp2_with fail
   refine (zqm w0 j v p pa pb true r rA rB z6 HKK.out.1.d HJX.out HWA.out.2.2.1 HBB.out.2.2 HKK.out.2.2.2).mono ?_;rintro _ z7 ⟨rfl,hgJ⟩;have HR9:=hid (HR8.out.next hgJ rfl);clear hgJ c19 n0;go_wp2;go_end0;have e:o=some (j.junc s A B B.x):=by rw[HOO.out,HAA.out.1];show (j.list nd.el _).bind _=_;rw[HB2.out];show (if _ then _ else _)=_;rw[if_pos HBE.out]
   exact⟨rfl,true,_,HR9.out.g,⟨rfl,rfl⟩,by rw[e];rfl,fun s' h=>by rw[e] at h;rw[←Option.some.inj h];exact join17 HS.out.1 HAA.out.2.1 (HOB.out.2 _ HB2.out) HWA.out.2.2.1 HBB.out.2.2⟩
theorem zug (w0:World)(j:Jd)(nd:Nd)(d:Nat)(v p:Nat)(r:Rst)(w:World)(hd:Dt w0 j)(hbt:j.bot=botI j.n j.g)(hx:Rx w0 j v p true r w)(hm:r.m=j.f.slots.len)(hdst:nd.h.dst=d)(hi:d<r.m)(a:Nat)(ha:nd.h.a=a)(hia:a<r.m)(hop:nd.h.op=7) :
  Calls Tryz.prog 61 #[.pointer (some ⟨v,0,none⟩),.pointer (some ⟨p,0,none⟩),.agg nd.vs.toArray] w fun e w'=>e=.returned (.tuple #[])∧zde w0 j nd d v p r w w':=by
 have HO:=hid hop;have HBT:=hid hbt;have HD:=hid (show Dt w0 j∧r.m=j.f.slots.len∧nd.h.dst=d∧d<r.m from ⟨hd,hm,hdst,hi⟩);have HR:=hid (R1.new nd hx);have HA:=hid (show nd.h.a=a∧a<r.m from ⟨ha,hia⟩);clear hx hm hd hdst hi hop hbt ha hia;go_enter Tryz.func61,Tryz.ntmps61
 go_upto_region 1 with fail
 generalize (w.alloc (.cells nd.vs.toArray 86))=w1 at *;have c0:=HR.out.g.x.cw 0 (x:=.slice j.n.ao j.n.len j.n.cap) rfl;have c1:=HR.out.g.x.cw 1 (x:=.slice j.g.ao j.g.len j.g.cap) rfl;have hB:=zas j.n j.g w1 (HD.out.1.n.kept HR.out.g.x.bl) (HD.out.1.g.kept HR.out.g.x.bl);go_wp2_with fail
 refine hB.mono ?_;rintro _ w2 ⟨rfl,hb2⟩;have HR2:=hid (HR.out.kept hb2);clear hB hb2 HR c0 c1;rw[←HBT.out];have n0:=HR2.out.N.cell 0 (v:=.int .i64 7) (by rw[←HO.out];rfl)
 go_upto_region 20 with fail
 clear n0;have bN:=HR2.out.N;have na:=HR2.out.N.cell 2 (v:=.int .i64 a) (by rw[←HA.out.1];rfl)
 go_wp2_with (first | (refine wpList_load_mid rfl 86 (.tmp 5) rfl w.heap.size 0 (by kernel_rfl) nd.vs _ bN.range Tryz.underlying86 rfl (by kernel_rfl) ?_))
 refine (HR2.out.read HD.out.1 HD.out.2.1 HA.out.2).mono ?_;rintro _ y1 ⟨rfl,h1,_⟩;have HR3:=hid h1;clear h1 bN na HR2;go_wp2_with fail
 refine (HR3.out.kind HD.out.1 HD.out.2.1 HA.out.2 3 (by decide) (by decide)).mono ?_;rintro _ y2 ⟨⟨x,rfl,hku⟩,h2,_⟩;have hbn:=zac y2 (.cells x.vs.toArray 38);have HR4:=hid (show R1 w0 j v p ((true&&r.set a)&&((j.read nd a).k==3)) r nd w (y2.alloc (.cells x.vs.toArray 38))∧Blk (y2.alloc (.cells x.vs.toArray 38)) y2.heap.size x.vs 38∧x.At (y2.alloc (.cells x.vs.toArray 38))∧w.heap.size+1≤y2.heap.size from ⟨h2.kept hbn,Blk.new y2 x.vs _,hku.1.kept hbn,h2.base⟩);have HX:=hid hku.2;clear h2 hku hbn HR3;go_upto_region 21 with (refine zao rfl rfl 38 rfl (.tmp 8) (.tmp 110) rfl zTv (alloc_ty _) rfl x.vs.toArray (by kernel_rfl) (by kernel_rfl) rfl (by kernel_rfl) (by simpa using x.vs_one) ?_)
 generalize (y2.alloc (.cells x.vs.toArray 38))=y3 at *;simp only[Act.put,zA,zB,zC];generalize y2.heap.size=B8 at *;generalize hok3:((true&&r.set a)&&((j.read nd a).k==3))=ok3 at *;have HK3:=hid hok3;clear hok3;have hxl:0<x.len:=by have h:(zan 3:Int)≤x.len:=HX.out.2;have e:zan 3=2:=rfl;omega
 have hxl':(0:Int)<x.len:=by omega
 have hao:=HR4.out.2.2.1.nil (by omega);have c0:=HR4.out.1.g.x.cw 0 (x:=.slice j.n.ao j.n.len j.n.cap) rfl;have c1:=HR4.out.1.g.x.cw 1 (x:=.slice j.g.ao j.g.len j.g.cap) rfl;have d1:=HR4.out.2.1.cell 1 (v:=.int .i64 x.l) rfl;have d2:=HR4.out.2.1.cell 2 (v:=.slice x.ao x.len x.cap) rfl;have n0:=HR4.out.1.N.cell 0 (v:=.int .i64 7) (by rw[←HO.out];rfl)
 rw[hao] at d2;have p0:=fun x=>Gr.cell x c0;have p1:=fun x=>Gr.cell x c1;have q1:=fun x=>Gr.cell x d1;have q2:=fun x=>Gr.cell x d2;have qn:=fun x=>Gr.cell x n0;have hN:∀u,(∃x:Gr y3,u=x.w)→u.rangeAt w.heap.size 0 nd.vs:=by rintro _ ⟨x,rfl⟩;exact (HR4.out.1.N.kept x.bl).range
 have hP:∀u,(∃x:Gr y3,u=x.w)→u.rangeAt x.b (x.o+0*5) (x.ps 0).vs:=by rintro _ ⟨xx,rfl⟩;exact C5.row ((HR4.out.2.2.1.kept xx.bl).cells hxl)
 have hbR:∀q,Below y3.heap.size y3 q→Calls Tryz.prog 32 #[.agg #[.slice j.n.ao j.n.len j.n.cap,.slice j.g.ao j.g.len j.g.cap],.agg (x.ps 0).vs.toArray,.int .i64 x.l] q fun e w'=>e=.returned (.agg (zai j.n j.g (x.ps 0) x.l).vs.toArray)∧Below q.heap.size q w':=fun q hq=>(zc6 j.n j.g (x.ps 0) x.l q (HD.out.1.n.kept (HR4.out.1.kept hq).g.x.bl) (HD.out.1.g.kept (HR4.out.1.kept hq).g.x.bl) ((HR4.out.2.2.1.kept hq).part hxl)).mono fun _ _ h=>⟨h.1,h.2.2⟩;have hNE:Nonempty (Gr y3):=⟨⟨_,Below.refl _ _⟩⟩;clear c0 c1 d1 d2 n0 hao;refine zah 17 (by kernel_rfl) (by kernel_rfl) ?_;simp only[List.take,List.drop];iterate 2 go_big_quiet_step (fail)
 go_big_quiet_want;refine zaa 86 (.tmp 5) rfl w.heap.size 0 (by kernel_rfl) nd.vs _ hN Tryz.underlying86 rfl (by kernel_rfl) ?_;simp only[Act.put,zA,zB,zC];go_big_quiet_on;iterate 10 go_big_quiet_step (fail)
 go_big_quiet_want;refine zaa 38 (.tmp 123) rfl x.b (x.o+0*5) (by kernel_rfl) (x.ps 0).vs _ hP Tryz.underlying38 rfl (by kernel_rfl) ?_;simp only[Act.put,zA,zB,zC];go_big_quiet_on;iterate 2 go_big_quiet_step (fail)
 go_big_quiet_step ((go_at_call 32;exact Calls.gr _ (hbR _ (Gr.bl _))))
 refine wpQuiet_nil ?_;rintro y4 ⟨xg,rfl⟩;have Bg:=xg.bl;generalize xg.w=y4 at Bg ⊢;have HR5:=hid (HR4.out.1.kept Bg);have HT5:=hid (show (zai j.n j.g (x.ps 0) x.l).At y4 from zd0 ((HR4.out.2.2.1.part hxl).kept Bg));clear Bg xg p0 p1 q1 q2 qn hN hP hbR hNE HR4 hxl hxl';go_wp2_with fail
 refine (zaz w0 j nd (zai j.n j.g (x.ps 0) x.l) (-1) d v p ok3 r y4 HD.out.1 HR5.out.g.x HD.out.2.1 HD.out.2.2.1 HD.out.2.2.2 HT5.out).mono ?_;rintro _ y5 ⟨rfl,hg⟩;have HR6:=hid (HR5.out.next hg rfl);clear hg;go_wp2;go_end0;refine⟨rfl,_,_,HR6.out.g,rfl,rfl,⟨?_,fun _=>by rw[zpa HO.out]⟩⟩;rw[zpa HO.out,zey r (by have:=HO.out;omega) HA.out.1,←HK3.out]
 by_cases hk:(j.read nd a).k=3
 ·have e0:j.side nd 0=zai j.n j.g ((j.read nd a).ps 0) (j.read nd a).l:=by unfold Jd.side;rw[HA.out.1,if_neg (by simp[hk])]
  rw[e0,HX.out.1 hk];simp[hk]
 ·have e1:((j.read nd a).k==3)=false:=by simp[hk]
  have e2:j.side nd 0=leafT 0 0:=by unfold Jd.side;rw[HA.out.1,if_pos (by simp[hk])]
  rw[e1,e2,zdy];simp
theorem zu0 (w0:World)(j:Jd)(nd:Nd)(d:Nat)(v p:Nat)(r:Rst)(w:World)(hd:Dt w0 j)(hbt:j.bot=botI j.n j.g)(hx:Rx w0 j v p true r w)(hm:r.m=j.f.slots.len)(hdst:nd.h.dst=d)(hi:d<r.m)(a:Nat)(ha:nd.h.a=a)(hia:a<r.m)(hop:nd.h.op=8) :
  Calls Tryz.prog 61 #[.pointer (some ⟨v,0,none⟩),.pointer (some ⟨p,0,none⟩),.agg nd.vs.toArray] w fun e w'=>e=.returned (.tuple #[])∧zde w0 j nd d v p r w w':=by
 have HO:=hid hop;have HBT:=hid hbt;have HD:=hid (show Dt w0 j∧r.m=j.f.slots.len∧nd.h.dst=d∧d<r.m from ⟨hd,hm,hdst,hi⟩);have HR:=hid (R1.new nd hx);have HA:=hid (show nd.h.a=a∧a<r.m from ⟨ha,hia⟩);clear hx hm hd hdst hi hop hbt ha hia;go_enter Tryz.func61,Tryz.ntmps61
 go_upto_region 1 with fail
 generalize (w.alloc (.cells nd.vs.toArray 86))=w1 at *;have c0:=HR.out.g.x.cw 0 (x:=.slice j.n.ao j.n.len j.n.cap) rfl;have c1:=HR.out.g.x.cw 1 (x:=.slice j.g.ao j.g.len j.g.cap) rfl;have hB:=zas j.n j.g w1 (HD.out.1.n.kept HR.out.g.x.bl) (HD.out.1.g.kept HR.out.g.x.bl);go_wp2_with fail
 refine hB.mono ?_;rintro _ w2 ⟨rfl,hb2⟩;have HR2:=hid (HR.out.kept hb2);clear hB hb2 HR c0 c1;rw[←HBT.out];have n0:=HR2.out.N.cell 0 (v:=.int .i64 8) (by rw[←HO.out];rfl)
 go_upto_region 20 with fail
 clear n0;have bN:=HR2.out.N;have na:=HR2.out.N.cell 2 (v:=.int .i64 a) (by rw[←HA.out.1];rfl)
 go_wp2_with (first | (refine wpList_load_mid rfl 86 (.tmp 5) rfl w.heap.size 0 (by kernel_rfl) nd.vs _ bN.range Tryz.underlying86 rfl (by kernel_rfl) ?_))
 refine (HR2.out.read HD.out.1 HD.out.2.1 HA.out.2).mono ?_;rintro _ y1 ⟨rfl,h1,_⟩;have HR3:=hid h1;clear h1 bN na HR2;go_wp2_with fail
 refine (HR3.out.kind HD.out.1 HD.out.2.1 HA.out.2 3 (by decide) (by decide)).mono ?_;rintro _ y2 ⟨⟨x,rfl,hku⟩,h2,_⟩;have hbn:=zac y2 (.cells x.vs.toArray 38);have HR4:=hid (show R1 w0 j v p ((true&&r.set a)&&((j.read nd a).k==3)) r nd w (y2.alloc (.cells x.vs.toArray 38))∧Blk (y2.alloc (.cells x.vs.toArray 38)) y2.heap.size x.vs 38∧x.At (y2.alloc (.cells x.vs.toArray 38))∧w.heap.size+1≤y2.heap.size from ⟨h2.kept hbn,Blk.new y2 x.vs _,hku.1.kept hbn,h2.base⟩);have HX:=hid hku.2;clear h2 hku hbn HR3;go_upto_region 21 with (refine zao rfl rfl 38 rfl (.tmp 8) (.tmp 110) rfl zTv (alloc_ty _) rfl x.vs.toArray (by kernel_rfl) (by kernel_rfl) rfl (by kernel_rfl) (by simpa using x.vs_one) ?_)
 generalize (y2.alloc (.cells x.vs.toArray 38))=y3 at *;simp only[Act.put,zA,zB,zC];generalize y2.heap.size=B8 at *;generalize hok3:((true&&r.set a)&&((j.read nd a).k==3))=ok3 at *;have HK3:=hid hok3;clear hok3;have hxl:1<x.len:=by have h:(zan 3:Int)≤x.len:=HX.out.2;have e:zan 3=2:=rfl;omega
 have hxl':(1:Int)<x.len:=by omega
 have hao:=HR4.out.2.2.1.nil (by omega);have c0:=HR4.out.1.g.x.cw 0 (x:=.slice j.n.ao j.n.len j.n.cap) rfl;have c1:=HR4.out.1.g.x.cw 1 (x:=.slice j.g.ao j.g.len j.g.cap) rfl;have d1:=HR4.out.2.1.cell 1 (v:=.int .i64 x.l) rfl;have d2:=HR4.out.2.1.cell 2 (v:=.slice x.ao x.len x.cap) rfl;have n0:=HR4.out.1.N.cell 0 (v:=.int .i64 8) (by rw[←HO.out];rfl)
 rw[hao] at d2;have p0:=fun x=>Gr.cell x c0;have p1:=fun x=>Gr.cell x c1;have q1:=fun x=>Gr.cell x d1;have q2:=fun x=>Gr.cell x d2;have qn:=fun x=>Gr.cell x n0;have hN:∀u,(∃x:Gr y3,u=x.w)→u.rangeAt w.heap.size 0 nd.vs:=by rintro _ ⟨x,rfl⟩;exact (HR4.out.1.N.kept x.bl).range
 have hP:∀u,(∃x:Gr y3,u=x.w)→u.rangeAt x.b (x.o+1*5) (x.ps 1).vs:=by rintro _ ⟨xx,rfl⟩;exact C5.row ((HR4.out.2.2.1.kept xx.bl).cells hxl)
 have hbR:∀q,Below y3.heap.size y3 q→Calls Tryz.prog 32 #[.agg #[.slice j.n.ao j.n.len j.n.cap,.slice j.g.ao j.g.len j.g.cap],.agg (x.ps 1).vs.toArray,.int .i64 x.l] q fun e w'=>e=.returned (.agg (zai j.n j.g (x.ps 1) x.l).vs.toArray)∧Below q.heap.size q w':=fun q hq=>(zc6 j.n j.g (x.ps 1) x.l q (HD.out.1.n.kept (HR4.out.1.kept hq).g.x.bl) (HD.out.1.g.kept (HR4.out.1.kept hq).g.x.bl) ((HR4.out.2.2.1.kept hq).part hxl)).mono fun _ _ h=>⟨h.1,h.2.2⟩;have hNE:Nonempty (Gr y3):=⟨⟨_,Below.refl _ _⟩⟩;clear c0 c1 d1 d2 n0 hao;refine zah 17 (by kernel_rfl) (by kernel_rfl) ?_;simp only[List.take,List.drop];iterate 2 go_big_quiet_step (fail)
 go_big_quiet_want;refine zaa 86 (.tmp 5) rfl w.heap.size 0 (by kernel_rfl) nd.vs _ hN Tryz.underlying86 rfl (by kernel_rfl) ?_;simp only[Act.put,zA,zB,zC];go_big_quiet_on;iterate 10 go_big_quiet_step (fail)
 go_big_quiet_want;refine zaa 38 (.tmp 123) rfl x.b (x.o+1*5) (by kernel_rfl) (x.ps 1).vs _ hP Tryz.underlying38 rfl (by kernel_rfl) ?_;simp only[Act.put,zA,zB,zC];go_big_quiet_on;iterate 2 go_big_quiet_step (fail)
 go_big_quiet_step ((go_at_call 32;exact Calls.gr _ (hbR _ (Gr.bl _))))
 refine wpQuiet_nil ?_;rintro y4 ⟨xg,rfl⟩;have Bg:=xg.bl;generalize xg.w=y4 at Bg ⊢;have HR5:=hid (HR4.out.1.kept Bg);have HT5:=hid (show (zai j.n j.g (x.ps 1) x.l).At y4 from zd0 ((HR4.out.2.2.1.part hxl).kept Bg));clear Bg xg p0 p1 q1 q2 qn hN hP hbR hNE HR4 hxl hxl';go_wp2_with fail
 refine (zaz w0 j nd (zai j.n j.g (x.ps 1) x.l) (-1) d v p ok3 r y4 HD.out.1 HR5.out.g.x HD.out.2.1 HD.out.2.2.1 HD.out.2.2.2 HT5.out).mono ?_;rintro _ y5 ⟨rfl,hg⟩;have HR6:=hid (HR5.out.next hg rfl);clear hg;go_wp2;go_end0;refine⟨rfl,_,_,HR6.out.g,rfl,rfl,⟨?_,fun _=>by rw[zo2 HO.out]⟩⟩;rw[zo2 HO.out,zey r (by have:=HO.out;omega) HA.out.1,←HK3.out]
 by_cases hk:(j.read nd a).k=3
 ·have e0:j.side nd 1=zai j.n j.g ((j.read nd a).ps 1) (j.read nd a).l:=by unfold Jd.side;rw[HA.out.1,if_neg (by simp[hk])]
  rw[e0,HX.out.1 hk];simp[hk]
 ·have e1:((j.read nd a).k==3)=false:=by simp[hk]
  have e2:j.side nd 1=leafT 0 0:=by unfold Jd.side;rw[HA.out.1,if_pos (by simp[hk])]
  rw[e1,e2,zdy];simp
theorem ztn (w0:World)(j:Jd)(nd:Nd)(d:Nat)(v p:Nat)(r:Rst)(w:World)(hd:Dt w0 j)(hbt:j.bot=botI j.n j.g)(hx:Rx w0 j v p true r w)(hm:r.m=j.f.slots.len)(hdst:nd.h.dst=d)(hi:d<r.m)(a:Nat)(ha:nd.h.a=a)(hia:a<r.m)(hop:nd.h.op=13) :
  Calls Tryz.prog 61 #[.pointer (some ⟨v,0,none⟩),.pointer (some ⟨p,0,none⟩),.agg nd.vs.toArray] w fun e w'=>e=.returned (.tuple #[])∧zde w0 j nd d v p r w w':=by
 have HO:=hid hop;have HBT:=hid hbt;have HD:=hid (show Dt w0 j∧r.m=j.f.slots.len∧nd.h.dst=d∧d<r.m from ⟨hd,hm,hdst,hi⟩);have HR:=hid (R1.new nd hx);have HA:=hid (show nd.h.a=a∧a<r.m from ⟨ha,hia⟩);clear hx hm hd hdst hi hop hbt ha hia;go_enter Tryz.func61,Tryz.ntmps61
 go_upto_region 1 with fail
 generalize (w.alloc (.cells nd.vs.toArray 86))=w1 at *;have c0:=HR.out.g.x.cw 0 (x:=.slice j.n.ao j.n.len j.n.cap) rfl;have c1:=HR.out.g.x.cw 1 (x:=.slice j.g.ao j.g.len j.g.cap) rfl;have hB:=zas j.n j.g w1 (HD.out.1.n.kept HR.out.g.x.bl) (HD.out.1.g.kept HR.out.g.x.bl);go_wp2_with fail
 refine hB.mono ?_;rintro _ w2 ⟨rfl,hb2⟩;have HR2:=hid (HR.out.kept hb2);clear hB hb2 HR c0 c1;rw[←HBT.out];have n0:=HR2.out.N.cell 0 (v:=.int .i64 13) (by rw[←HO.out];rfl)
 go_upto_region 32 with fail
 clear n0;have bN:=HR2.out.N;have na:=HR2.out.N.cell 2 (v:=.int .i64 a) (by rw[←HA.out.1];rfl)
 go_wp2_with (first | (refine wpList_load_mid rfl 86 (.tmp 5) rfl w.heap.size 0 (by kernel_rfl) nd.vs _ bN.range Tryz.underlying86 rfl (by kernel_rfl) ?_))
 refine (HR2.out.read HD.out.1 HD.out.2.1 HA.out.2).mono ?_;rintro _ y1 ⟨rfl,h1,_⟩;have HR3:=hid h1;clear h1 bN na HR2;go_wp2_with fail
 refine (HR3.out.kind HD.out.1 HD.out.2.1 HA.out.2 5 (by decide) (by decide)).mono ?_;rintro _ y2 ⟨⟨x,rfl,hku⟩,h2,_⟩;have hbn:=zac y2 (.cells x.vs.toArray 38);have HR4:=hid (show R1 w0 j v p ((true&&r.set a)&&((j.read nd a).k==5)) r nd w (y2.alloc (.cells x.vs.toArray 38))∧Blk (y2.alloc (.cells x.vs.toArray 38)) y2.heap.size x.vs 38∧x.At (y2.alloc (.cells x.vs.toArray 38))∧w.heap.size+1≤y2.heap.size from ⟨h2.kept hbn,Blk.new y2 x.vs _,hku.1.kept hbn,h2.base⟩);have HX:=hid hku.2;clear h2 hku hbn HR3;go_upto_region 33 with (refine zao rfl rfl 38 rfl (.tmp 9) (.tmp 191) rfl zTv (alloc_ty _) rfl x.vs.toArray (by kernel_rfl) (by kernel_rfl) rfl (by kernel_rfl) (by simpa using x.vs_one) ?_)
 generalize (y2.alloc (.cells x.vs.toArray 38))=y3 at *;simp only[Act.put,zA,zB,zC];generalize y2.heap.size=B8 at *;generalize hok3:((true&&r.set a)&&((j.read nd a).k==5))=ok3 at *;have HK3:=hid hok3;clear hok3;have hxl:0<x.len:=by have h:(zan 5:Int)≤x.len:=HX.out.2;have e:zan 5=1:=rfl;omega
 have hxl':(0:Int)<x.len:=by omega
 have hao:=HR4.out.2.2.1.nil (by omega);have c0:=HR4.out.1.g.x.cw 0 (x:=.slice j.n.ao j.n.len j.n.cap) rfl;have c1:=HR4.out.1.g.x.cw 1 (x:=.slice j.g.ao j.g.len j.g.cap) rfl;have d1:=HR4.out.2.1.cell 1 (v:=.int .i64 x.l) rfl;have d2:=HR4.out.2.1.cell 2 (v:=.slice x.ao x.len x.cap) rfl;have n0:=HR4.out.1.N.cell 0 (v:=.int .i64 13) (by rw[←HO.out];rfl)
 rw[hao] at d2;have p0:=fun x=>Gr.cell x c0;have p1:=fun x=>Gr.cell x c1;have q1:=fun x=>Gr.cell x d1;have q2:=fun x=>Gr.cell x d2;have qn:=fun x=>Gr.cell x n0;have hN:∀u,(∃x:Gr y3,u=x.w)→u.rangeAt w.heap.size 0 nd.vs:=by rintro _ ⟨x,rfl⟩;exact (HR4.out.1.N.kept x.bl).range
 have hP:∀u,(∃x:Gr y3,u=x.w)→u.rangeAt x.b (x.o+0*5) (x.ps 0).vs:=by rintro _ ⟨xx,rfl⟩;exact C5.row ((HR4.out.2.2.1.kept xx.bl).cells hxl)
 have hbR:∀q,Below y3.heap.size y3 q→Calls Tryz.prog 32 #[.agg #[.slice j.n.ao j.n.len j.n.cap,.slice j.g.ao j.g.len j.g.cap],.agg (x.ps 0).vs.toArray,.int .i64 x.l] q fun e w'=>e=.returned (.agg (zai j.n j.g (x.ps 0) x.l).vs.toArray)∧Below q.heap.size q w':=fun q hq=>(zc6 j.n j.g (x.ps 0) x.l q (HD.out.1.n.kept (HR4.out.1.kept hq).g.x.bl) (HD.out.1.g.kept (HR4.out.1.kept hq).g.x.bl) ((HR4.out.2.2.1.kept hq).part hxl)).mono fun _ _ h=>⟨h.1,h.2.2⟩;have hNE:Nonempty (Gr y3):=⟨⟨_,Below.refl _ _⟩⟩;clear c0 c1 d1 d2 n0 hao;refine zah 14 (by kernel_rfl) (by kernel_rfl) ?_;simp only[List.take,List.drop];iterate 2 go_big_quiet_step (fail)
 go_big_quiet_want;refine zaa 86 (.tmp 5) rfl w.heap.size 0 (by kernel_rfl) nd.vs _ hN Tryz.underlying86 rfl (by kernel_rfl) ?_;simp only[Act.put,zA,zB,zC];go_big_quiet_on;iterate 7 go_big_quiet_step (fail)
 go_big_quiet_want;refine zaa 38 (.tmp 201) rfl x.b (x.o+0*5) (by kernel_rfl) (x.ps 0).vs _ hP Tryz.underlying38 rfl (by kernel_rfl) ?_;simp only[Act.put,zA,zB,zC];go_big_quiet_on;iterate 2 go_big_quiet_step (fail)
 go_big_quiet_step ((go_at_call 32;exact Calls.gr _ (hbR _ (Gr.bl _))))
 refine wpQuiet_nil ?_;rintro y4 ⟨xg,rfl⟩;have Bg:=xg.bl;generalize xg.w=y4 at Bg ⊢;have HR5:=hid (HR4.out.1.kept Bg);have HT5:=hid (show (zai j.n j.g (x.ps 0) x.l).At y4 from zd0 ((HR4.out.2.2.1.part hxl).kept Bg));clear Bg xg p0 p1 q1 q2 qn hN hP hbR hNE HR4 hxl hxl';go_wp2_with fail
 refine (zaz w0 j nd (zai j.n j.g (x.ps 0) x.l) (-1) d v p ok3 r y4 HD.out.1 HR5.out.g.x HD.out.2.1 HD.out.2.2.1 HD.out.2.2.2 HT5.out).mono ?_;rintro _ y5 ⟨rfl,hg⟩;have HR6:=hid (HR5.out.next hg rfl);clear hg;go_wp2;go_end0;refine⟨rfl,_,_,HR6.out.g,rfl,rfl,⟨?_,fun _=>by rw[znr HO.out]⟩⟩;rw[znr HO.out,zey r (by have:=HO.out;omega) HA.out.1,←HK3.out]
 by_cases hk:(j.read nd a).k=5
 ·have e0:j.held nd=zai j.n j.g ((j.read nd a).ps 0) (j.read nd a).l:=by unfold Jd.held;rw[HA.out.1,if_neg (by simp[hk])]
  rw[e0,HX.out.1 hk];simp[hk]
 ·have e1:((j.read nd a).k==5)=false:=by simp[hk]
  have e2:j.held nd=leafT 0 0:=by unfold Jd.held;rw[HA.out.1,if_pos (by simp[hk])]
  rw[e1,e2,zdy];simp
end
end Go.Proofs.YtgioppfoceddfaaGreat
