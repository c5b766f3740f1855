import Derived.Test.YtfobijdkoeifjaaGreatDoorP25
import Derived.Test.YtfobijdkoeifjaaGreatDoorP27
import Derived.Test.YtfobijdkoeifjaaGreatDoorP31
import Derived.Test.YtfobijdkoeifjaaGreatDoorP29
import Derived.Test.YtfobijdkoeifjaaGreatDoorP28
set_option maxRecDepth 100000
set_option maxHeartbeats 32000000
namespace Go.Proofs.YtfobijdkoeifjaaGreatDoor
section
open Go Go.RowKit
theorem zs0 (w0:World)(v:Vp)(g:Rw Bool)(BJ BS:Nat)(tT st sl:Ty)(k p:Int)(w:World)(h:Sr w0 v g BJ BS tT st sl k p w)(hn:0<v.need)(hnd:(v.tk 0).nodes≤1000)(hi:v.ins.t.At w0):Calls Tryz.prog 192 #[.pointer (some ⟨BS,0,none⟩)] w (zei w0.heap.size v.cellT w):=by
 have B0:=zac w (.cells #[.int .i64 0,.int .i64 0,.slice none 0 0,.int .i64 0,.int .i64 0] 38);have bZ:Blk (w.alloc (.cells #[.int .i64 0,.int .i64 0,.slice none 0 0,.int .i64 0,.int .i64 0] 38)) w.heap.size zT5 38:=Blk.new w _ _;have H1:=hyd (show (Sr w0 v g BJ BS tT st sl k p (w.alloc (.cells #[.int .i64 0,.int .i64 0,.slice none 0 0,.int .i64 0,.int .i64 0] 38))∧Below w.heap.size w (w.alloc (.cells #[.int .i64 0,.int .i64 0,.slice none 0 0,.int .i64 0,.int .i64 0] 38)))∧Blk (w.alloc (.cells #[.int .i64 0,.int .i64 0,.slice none 0 0,.int .i64 0,.int .i64 0] 38)) w.heap.size zT5 38∧w0.heap.size≤w.heap.size from ⟨⟨h.kept B0,B0⟩,bZ,h.bl.size⟩);have HN:=hyd (show (v.tk 0).At w0∧(v.tk 0).nodes≤1000∧v.ins.t.At w0 from ⟨h.tk0 hn,hnd,hi⟩);have HBS:=hyd (show BS<w.heap.size from h.b.lt);have HE:Hid (v.cellT=if blw v.c.n v.c.g (v.tk 0) v.ins.t=true then mk1 5 (botI v.c.n v.c.g) v.ins.t else zaa 0 0):=rfl;generalize v.cellT=R at *;have c10:=H1.out.1.1.b.cell 10 rfl;have r0:=H1.out.1.1.row hn;rw[H1.out.1.1.nil hn] at c10;have i0:(0:Int)<tT.len:=by rw[h.tl];omega
 have b0:=H1.out.1.1.b.cell 0 rfl;have rI:(w.alloc (.cells #[.int .i64 0,.int .i64 0,.slice none 0 0,.int .i64 0,.int .i64 0] 38)).rangeAt BS 5 v.ins.t.vs:=rng5 H1.out.1.1.b rfl rfl rfl rfl rfl;clear B0 bZ h hn hnd hi;go_enter Tryz.func192,Tryz.ntmps192
 go_upto_region 1 with fail
 generalize w.alloc (.cells #[.int .i64 0,.int .i64 0,.slice none 0 0,.int .i64 0,.int .i64 0] 38)=u1 at *;have hb:∀x:Gr u1,Calls Tryz.prog 97 #[.pointer (some ⟨BJ,0,none⟩),.agg (v.tk 0).vs.toArray,.agg v.ins.t.vs.toArray] x.w fun e w'=>e=.returned (.bool (blw v.c.n v.c.g (v.tk 0) v.ins.t))∧Below x.w.heap.size x.w w':=fun x=>zct v.c v.f g BJ (v.tk 0) v.ins.t x.w (H1.out.1.1.kept x.bl).j (HN.out.1.kept (H1.out.1.1.kept x.bl).bl) (HN.out.2.2.kept (H1.out.1.1.kept x.bl).bl) (Nat.le_trans zea HN.out.2.1);have q10:=fun x:Gr u1=>x.cell c10;have q0:=fun x:Gr u1=>x.cell b0;have rT:∀u,(∃x:Gr u1,u=x.w)→u.rangeAt tT.b (tT.o+0*5) (v.tk 0).vs:=fun _ hC=>by obtain⟨x,rfl⟩:=hC;exact zaf (r0) (Gr.bl x)
 have rI2:∀u,(∃x:Gr u1,u=x.w)→u.rangeAt BS 5 v.ins.t.vs:=fun _ hC=>by obtain⟨x,rfl⟩:=hC;exact zaf (rI) (Gr.bl x)
 have hNE:Nonempty (Gr u1):=⟨⟨_,Below.refl _ _⟩⟩;generalize blw v.c.n v.c.g (v.tk 0) v.ins.t=bb at *;generalize v.tk 0=s at *;refine zah (by kernel_rfl) (by kernel_rfl) ?_;iterate 9 go_big_quiet_step (fail)
 go_big_quiet_want;refine zad 38 (.tmp 11) rfl tT.b (tT.o+0*5) (by kernel_rfl) s.vs _ rT Tryz.underlying38 rfl (by kernel_rfl) ?_;simp only[Act.put,zA,zB,zC];go_big_quiet_on;iterate 4 go_big_quiet_step (fail)
 go_big_quiet_want;refine zad 38 (.tmp 16) rfl BS 5 (by kernel_rfl) v.ins.t.vs _ rI2 Tryz.underlying38 rfl (by kernel_rfl) ?_;simp only[Act.put,zA,zB,zC];go_big_quiet_on;go_big_quiet_step ((go_at_call 97;exact Calls.gr _ (hb _)))
 go_big_quiet_step (fail)
 refine wpQuiet_nil ?_;rintro y1 ⟨xg,rfl⟩;have Bg:=xg.bl;generalize xg.w=y1 at Bg ⊢;have H2:=hyd (show (Sr w0 v g BJ BS tT st sl k p y1∧Below w.heap.size w y1)∧Blk y1 w.heap.size zT5 38∧w0.heap.size≤w.heap.size from ⟨⟨H1.out.1.1.kept Bg,Below.next H1.out.1.2 Bg⟩,H1.out.2.1.kept Bg,H1.out.2.2⟩);clear xg Bg H1 hb q10 q0 rT rI2 hNE c10 r0 i0 b0 rI;cases bb
 ·have HE2:Hid (R=zaa 0 0):=HE.out;have bZ:=H2.out.2.1;go_wp2_with (refine zag rfl rfl 38 (.tmp 2) (.tmp 20) rfl w.heap.size (zaa 0 0).vs (by kernel_rfl) (by kernel_rfl) rfl bZ rfl (by kernel_rfl) ?_;intro w2 W2);have rB:=W2.blk.range;exact bodyPost_ret (v:=.agg (zaa 0 0).vs.toArray) (zax (vs:=(zaa 0 0).vs) Tryz.underlying38 rfl (by kernel_rfl) Tryz.results192 rfl rB) rfl (zif HE2.out (W2.below (by omega) H2.out.1.2))
 ·have HE2:Hid (R=mk1 5 (botI v.c.n v.c.g) v.ins.t):=HE.out;clear HE;go_upto_region 3 with fail
  have b0:∀x:Wd (fun q=>Sr w0 v g BJ BS tT st sl k p q),x.w.cell? ⟨BS,0,none⟩=some (.pointer (some ⟨BJ,0,none⟩)):=fun x=>x.2.b.cell 0 rfl;have j21:∀x:Wd (fun q=>Sr w0 v g BJ BS tT st sl k p q),x.w.cell? ⟨BJ,21,none⟩=some (.int .i64 (botI v.c.n v.c.g)):=fun x=>x.2.j.b.cell 21 rfl;have rI:∀u,(∃x:Wd (fun q=>Sr w0 v g BJ BS tT st sl k p q),u=x.w)→u.rangeAt BS 5 v.ins.t.vs:=fun _ hC=>by obtain⟨x,rfl⟩:=hC;exact rng5 x.2.b rfl rfl rfl rfl rfl
  have hNE:Nonempty (Wd (fun q=>Sr w0 v g BJ BS tT st sl k p q)):=⟨⟨_,H2.out.1.1⟩⟩;have HV0:=hyd (Below.refl y1.heap.size y1).drew;refine zal (fun q=>Sr w0 v g BJ BS tT st sl k p q) [0,1,2,3,4,5,6,7,8,9,10,11] 3 (by kernel_rfl) rfl (by kernel_rfl) (za7 (by kernel_rfl)) (H2.out.1.1.kept HV0.out) ?_;simp only[List.filterMap,zD,zE];iterate 11 go_big_quiet_step (fail)
  go_big_quiet_want;refine zad 38 (.tmp 31) rfl BS 5 (by kernel_rfl) v.ins.t.vs _ rI Tryz.underlying38 rfl (by kernel_rfl) ?_;simp only[Act.put,zA,zB,zC];go_big_quiet_on;refine wpQuiet_nil ?_;clear b0 j21 rI hNE;generalize y1.drew=v0 at *;refine wpAnyH_ready (rs:=[12]) (by kernel_rfl) (by simp) ?_;refine AllReadyH.cons rfl (fun K hK=>?_) AllReadyH.nil;rw[if_pos (by rfl)];refine zfb (.tmp 32) rfl v.ins.t (by kernel_rfl) ?_;intro v1 BN hb hB hge;have HV1:=hyd (Below.next HV0.out hb);have HBN:=hyd (show Blk v1 BN v.ins.t.vs 38∧w.heap.size<BN from ⟨hB,by have:=(H2.out.2.1.kept HV0.out).lt;omega⟩)
  refine hK.out _ _ (H2.out.1.1.kept HV1.out) (fun _=>?_);clear hK K hb hB hge;go_simp;refine wpAnyH_ready (rs:=[13]) (by kernel_rfl) (by simp) ?_;refine AllReadyH.cons rfl (fun K hK=>?_) AllReadyH.nil;rw[if_pos (by rfl)];go_simp;refine hK.out _ _ (H2.out.1.1.kept HV1.out) (fun _=>?_);clear hK K;refine wpAnyH_ready (rs:=[14]) (by kernel_rfl) (by simp) ?_;refine AllReadyH.cons rfl (fun K hK=>?_) AllReadyH.nil;rw[if_pos (by rfl)];have bZ:=H2.out.2.1.kept HV1.out;refine zam 38 (.tmp 2) (.tmp 34) rfl rfl w.heap.size (mkB 5 (botI v.c.n v.c.g) BN v.ins.t).vs zT5 (by kernel_rfl) (by kernel_rfl) rfl bZ rfl (by kernel_rfl) ?_;intro w2 W2;have HX:=H2.out.2.2;have HS:=hyd (show Sr w0 v g BJ BS tT st sl k p w2 from (H2.out.1.1.kept HV1.out).put (W2.below (B0:=w0.heap.size) HX (H2.out.1.1.kept HV1.out).bl) (W2.keep (H2.out.1.1.kept HV1.out).b (by have:=HBS.out;omega)))
  have HR:=hyd (show zei w0.heap.size R w (.returned (.agg (mkB 5 (botI v.c.n v.c.g) BN v.ins.t).vs.toArray)) w2∧Blk w2 w.heap.size (mkB 5 (botI v.c.n v.c.g) BN v.ins.t).vs 38 from by
   have hb6:=W2.below (B0:=w.heap.size) (by omega) (Below.next H2.out.1.2 HV1.out);have hi2:v.ins.t.At w2:=HN.out.2.2.kept (W2.below (B0:=w0.heap.size) H2.out.2.2 (H2.out.1.1.kept HV1.out).bl);have hlt:=HN.out.2.2.lt;exact⟨⟨_,rfl,mkB_at hi2 (W2.keep HBN.out.1 (by have:=HBN.out.2;omega)),zxi (by have:=HBN.out.2;omega) (hlt.mono fun b hb=>Or.inl hb),by rw[HE2.out];exact zux,hb6⟩,W2.blk⟩)
  refine hK.out _ _ HS.out (fun _=>?_);clear hK K W2;refine wpAnyH_done (by kernel_rfl) ?_ _;refine⟨(fun c hc=>by cases hc),?_⟩;have rB:=HR.out.2.range;go_wp2;exact bodyPost_ret (v:=.agg (mkB 5 (botI v.c.n v.c.g) BN v.ins.t).vs.toArray) (zax (vs:=(mkB 5 (botI v.c.n v.c.g) BN v.ins.t).vs) Tryz.underlying38 rfl (by kernel_rfl) Tryz.results192 rfl rB) rfl HR.out.1
theorem zg8 {c:Kl}{f:Cf}{g:Rw Bool}{BJ:Nat}{u:World}(h:Jb c f g BJ u):u.rangeAt BJ 3 f.vs:=fun j x hj=>h.b.cell (3+j) (by
 have hl:j<f.vs.length:=(List.getElem?_eq_some_iff.1 hj).1;show ([_,_,_]++(f.vs++_))[3+j]?=some x
 rw[List.getElem?_append_right (by simp),show 3+j - List.length [_,_,_]=j by simp,List.getElem?_append_left hl];exact hj)
structure Vk (v:Vp):Prop where
 n1:v.op=13∨v.op=15∨v.op=16∨v.op=20∨v.op=21→0<v.need
 n2:v.op=14→v.need=2
 n3:v.op=19∨(6≤v.op∧v.op≤12)→1<v.need
 a3:v.op=3→∃na:Nat,v.a=na∧na<v.pt.sl.len
 a17:v.op=17→∃na:Nat,v.a=na∧na<v.c.fs.len∧v.need=(v.c.fs.x na).c.len
 nd:∀i,i<v.need→(v.tk i).nodes≤1000
 ar:∀i,i<v.need→((v.tk i).k=3→(v.tk i).len=2)∧((v.tk i).k=4→(v.tk i).len=2)∧((v.tk i).k=5→(v.tk i).len=1)
 t:∀w,v.f.At w→v.ins.t.At w
 ops:v.op=1∨v.op=2∨v.op=3∨(6≤v.op∧v.op≤21)
theorem onl_at {k:Int}{t:Ty}{w:World}(h:t.At w):(zb0 k t).At w:=by unfold zb0;split;exact zav _ _ _;exact h
theorem zrw {k:Int}{t:Ty}{Q:Nat→Prop}(h:t.Blk Q):(zb0 k t).Blk Q:=by unfold zb0;split;exact zd4 _ _ _;exact h
theorem zs1 (w0:World)(v:Vp)(g:Rw Bool)(BJ BS:Nat)(tT st sl:Ty)(k p:Int)(w:World)(h:Sr w0 v g BJ BS tT st sl k p w)(hk:Vk v)(hsa:sl.At w)(hsl:sl.len=v.pt.sl.len)(hsp:sl.ps=v.pt.sl.ps)(hs0:v.pt.sl.At w0):Calls Tryz.prog 145 #[.pointer (some ⟨BS,0,none⟩)] w (TkR w0.heap.size v.makT.1 v.makT.2 w):=by
 have B0:=zac w (.cells #[.int .i64 0,.int .i64 0,.slice none 0 0,.int .i64 0,.int .i64 0] 38);have bZ:Blk (w.alloc (.cells #[.int .i64 0,.int .i64 0,.slice none 0 0,.int .i64 0,.int .i64 0] 38)) w.heap.size zT5 38:=Blk.new w _ _;have H1:=hyd (show (Sr w0 v g BJ BS tT st sl k p (w.alloc (.cells #[.int .i64 0,.int .i64 0,.slice none 0 0,.int .i64 0,.int .i64 0] 38))∧Below w.heap.size w (w.alloc (.cells #[.int .i64 0,.int .i64 0,.slice none 0 0,.int .i64 0,.int .i64 0] 38)))∧(Blk (w.alloc (.cells #[.int .i64 0,.int .i64 0,.slice none 0 0,.int .i64 0,.int .i64 0] 38)) w.heap.size zT5 38∧w0.heap.size≤w.heap.size)∧(w.alloc (.cells #[.int .i64 0,.int .i64 0,.slice none 0 0,.int .i64 0,.int .i64 0] 38)).heap.size=w.heap.size+1 from ⟨⟨h.kept B0,B0⟩,⟨bZ,h.bl.size⟩,alloc_size _ _⟩);have HK:=hyd hk;have HSL:=hyd (show (sl.At (w.alloc (.cells #[.int .i64 0,.int .i64 0,.slice none 0 0,.int .i64 0,.int .i64 0] 38))∧sl.len=v.pt.sl.len)∧sl.ps=v.pt.sl.ps∧v.pt.sl.At w0 from ⟨⟨hsa.kept B0,hsl⟩,hsp,hs0⟩);have HE1:Hid (v.op=1→v.makT=(zaa 1 (botI v.c.n v.c.g),-1)):=fun h=>by unfold Vp.makT;first | (simp[h];done) | (simp[h];rfl)
 have HE2:Hid (v.op=2→v.makT=(zaa 2 (botI v.c.n v.c.g),-1)):=fun h=>by unfold Vp.makT;first | (simp[h];done) | (simp[h];rfl)
 have HE3:Hid (v.op=3→v.makT=(v.pt.sl.ps v.a.toNat,-1)):=fun h=>by unfold Vp.makT;first | (simp[h];done) | (simp[h];rfl)
 have HE13:Hid (v.op=13→v.makT=(zb0 2 (v.tk 0),-1)):=fun h=>by unfold Vp.makT;first | (simp[h];done) | (simp[h];rfl)
 have HE14:Hid (v.op=14→v.makT=(mk2 3 (botI v.c.n v.c.g) 0 0 (v.tk 0) (v.tk 1),-1)):=fun h=>by unfold Vp.makT;first | (simp[h];done) | (simp[h];rfl)
 have HE15:Hid (v.op=15→v.makT=(v.sideT 0,-1)):=fun h=>by unfold Vp.makT;first | (simp[h];done) | (simp[h];rfl)
 have HE16:Hid (v.op=16→v.makT=(v.sideT 1,-1)):=fun h=>by unfold Vp.makT;first | (simp[h];done) | (simp[h];rfl)
 have HE17:Hid (v.op=17→v.makT=(v.closT,-1)):=fun h=>by unfold Vp.makT;first | (simp[h];done) | (simp[h];rfl)
 have HE18:Hid (v.op=18→v.makT=(zee v.c.n v.c.g v.f.fn,-1)):=fun h=>by unfold Vp.makT;first | (simp[h];done) | (simp[h];rfl)
 have HE19:Hid (v.op=19→v.makT=v.callT):=fun h=>by unfold Vp.makT;first | (simp[h];done) | (simp[h];rfl)
 have HE20:Hid (v.op=20→v.makT=(v.cellT,-1)):=fun h=>by unfold Vp.makT;first | (simp[h];done) | (simp[h];rfl)
 have HE21:Hid (v.op=21→v.makT=(v.heldT,-1)):=fun h=>by unfold Vp.makT;first | (simp[h];done) | (simp[h];rfl)
 have HE0:Hid ((v.op≠1∧v.op≠2∧v.op≠3∧v.op≠13∧v.op≠14∧v.op≠15∧v.op≠16∧v.op≠17∧v.op≠18∧v.op≠19∧v.op≠20∧v.op≠21)→v.makT=v.reckT):=fun h=>by unfold Vp.makT;simp[h]
 have d3:=H1.out.1.1.b.cell 3 rfl;have HOP:=hyd (show ∃o,o=v.op from ⟨_,rfl⟩);obtain⟨op,hop⟩:=HOP.out;have HO:=hyd hop;rw[←hop] at d3;clear hop HOP;generalize v.makT=R at *;clear B0 bZ h hk hsa hsl hsp hs0;go_enter Tryz.func145,Tryz.ntmps145
 go_upto_region 1 with fail
 generalize w.alloc (.cells #[.int .i64 0,.int .i64 0,.slice none 0 0,.int .i64 0,.int .i64 0] 38)=u1 at *;by_cases o1:op=1
 ·have HV:=hyd (show v.op=1 by rw[←HO.out];exact o1)
  have HR:=hyd (HE1.out HV.out);subst o1;have b0:=H1.out.1.1.b.cell 0 rfl;have h0:=zj1 v.c v.f g BJ 1 u1 H1.out.1.1.j;go_wp2_with fail
  refine h0.mono ?_;rintro _ y2 ⟨rfl,hb⟩;have bZ:=H1.out.2.1.1.kept hb;have H3:=hyd (Below.next H1.out.1.2 hb);clear h0 hb b0 d3;go_wp2_with (refine zag rfl rfl 38 (.tmp 2) (.tmp 15) rfl w.heap.size (zaa 1 (botI v.c.n v.c.g)).vs (by kernel_rfl) (by kernel_rfl) (zaa 1 (botI v.c.n v.c.g)).vs_one bZ rfl (by kernel_rfl) ?_;intro w2 W2);have HX:=H1.out.2.1.2;exact bodyPost_ret (v:=.tuple #[.agg (zaa 1 (botI v.c.n v.c.g)).vs.toArray,.int .i64 (-1)]) (zap (vs:=(zaa 1 (botI v.c.n v.c.g)).vs) Tryz.underlying38 rfl (by kernel_rfl) Tryz.results145 rfl rfl (W2.blk.range)) rfl (by rw[HR.out];exact⟨(zaa 1 (botI v.c.n v.c.g)),rfl,(zav 1 (botI v.c.n v.c.g) y2).wrote (zd4 (fun b=>b<w0.heap.size∨w.heap.size+1≤b) _ _) W2 (by omega) (by omega),(zd4 (fun b=>b<w0.heap.size∨w.heap.size+1≤b) _ _).mono (fun b h=>by omega),zaj _,W2.below (by omega) H3.out⟩)
 by_cases o2:op=2
 ·have HV:=hyd (show v.op=2 by rw[←HO.out];exact o2)
  have HR:=hyd (HE2.out HV.out);subst o2;have b0:=H1.out.1.1.b.cell 0 rfl;have h0:=zj1 v.c v.f g BJ 2 u1 H1.out.1.1.j;go_wp2_with fail
  refine h0.mono ?_;rintro _ y2 ⟨rfl,hb⟩;have bZ:=H1.out.2.1.1.kept hb;have H3:=hyd (Below.next H1.out.1.2 hb);clear h0 hb b0 d3;go_wp2_with (refine zag rfl rfl 38 (.tmp 2) (.tmp 22) rfl w.heap.size (zaa 2 (botI v.c.n v.c.g)).vs (by kernel_rfl) (by kernel_rfl) (zaa 2 (botI v.c.n v.c.g)).vs_one bZ rfl (by kernel_rfl) ?_;intro w2 W2);have HX:=H1.out.2.1.2;exact bodyPost_ret (v:=.tuple #[.agg (zaa 2 (botI v.c.n v.c.g)).vs.toArray,.int .i64 (-1)]) (zap (vs:=(zaa 2 (botI v.c.n v.c.g)).vs) Tryz.underlying38 rfl (by kernel_rfl) Tryz.results145 rfl rfl (W2.blk.range)) rfl (by rw[HR.out];exact⟨(zaa 2 (botI v.c.n v.c.g)),rfl,(zav 2 (botI v.c.n v.c.g) y2).wrote (zd4 (fun b=>b<w0.heap.size∨w.heap.size+1≤b) _ _) W2 (by omega) (by omega),(zd4 (fun b=>b<w0.heap.size∨w.heap.size+1≤b) _ _).mono (fun b h=>by omega),zaj _,W2.below (by omega) H3.out⟩)
 by_cases o3:op=3
 ·have HV:=hyd (show v.op=3 by rw[←HO.out];exact o3)
  have HR:=hyd (HE3.out HV.out);subst o3;obtain⟨na,hna,hlt⟩:=HK.out.a3 HV.out;have HA:=hyd hna;have HL:Hid (na<sl.len):=by show na<sl.len;rw[HSL.out.1.2];exact hlt
  clear hna hlt;go_upto_region 7 with fail
  clear d3;have s4:∀x:Gr u1,x.w.cell? ⟨BS,4,none⟩=some (.int .i64 (na:Int)):=fun x=>x.cell (by rw[←HA.out];exact H1.out.1.1.b.cell 4 rfl)
  have s12:∀x:Gr u1,x.w.cell? ⟨BS,12,none⟩=some (.slice (some ⟨sl.b,sl.o,none⟩) sl.len sl.cap):=fun x=>x.cell (by rw[←HSL.out.1.1.nil (by have:=HL.out;omega)];exact H1.out.1.1.b.cell 12 rfl)
  have rS:∀u,(∃x:Gr u1,u=x.w)→u.rangeAt sl.b (sl.o+na*5) (sl.ps na).vs:=fun _ hC=>by obtain⟨x,rfl⟩:=hC;exact zaf (zbm HSL.out.1.1 HL.out) (Gr.bl x)
  have hNE:Nonempty (Gr u1):=⟨⟨_,Below.refl _ _⟩⟩;have i0:(na:Int)<sl.len:=by have:=HL.out;omega
  have HT:=hyd (show (sl.ps na).At w0∧R=(sl.ps na,-1) from ⟨by rw[HSL.out.2.1];exact HSL.out.2.2.part (by rw[←HSL.out.1.2];exact HL.out),by rw[HR.out,HA.out,Int.toNat_natCast,HSL.out.2.1]⟩)
  generalize sl.ps na=t at *;refine zat 12 (by kernel_rfl) (by kernel_rfl) ?_;simp only[List.take,List.drop];iterate 11 go_big_quiet_step (fail)
  go_big_quiet_want;refine zad 38 (.tmp 35) rfl sl.b (sl.o+na*5) (by kernel_rfl) t.vs _ rS Tryz.underlying38 rfl (by kernel_rfl) ?_;simp only[Act.put,zA,zB,zC];go_big_quiet_on;refine wpQuiet_nil ?_;rintro y2 ⟨xg,rfl⟩;have Bg:=xg.bl;generalize xg.w=y2 at Bg ⊢;have bZ:=H1.out.2.1.1.kept Bg;have H3:=hyd (show Below w.heap.size w y2∧Below w0.heap.size w0 y2 from ⟨Below.next H1.out.1.2 Bg,(H1.out.1.1.kept Bg).bl⟩);have HT2:=hyd HT.out.2;clear xg Bg s4 s12 rS hNE i0;go_wp2_with (refine zag rfl rfl 38 (.tmp 2) (.tmp 36) rfl w.heap.size t.vs (by kernel_rfl) (by kernel_rfl) t.vs_one bZ rfl (by kernel_rfl) ?_;intro w2 W2);have HX:=H1.out.2.1.2;exact bodyPost_ret (v:=.tuple #[.agg t.vs.toArray,.int .i64 (-1)]) (zap (vs:=t.vs) Tryz.underlying38 rfl (by kernel_rfl) Tryz.results145 rfl rfl (W2.blk.range)) rfl (by rw[HT2.out];exact⟨t,rfl,(HT.out.1.kept H3.out.2).wrote (HT.out.1.lt.mono (fun b h=>(Or.inl h:b<w0.heap.size∨w.heap.size+1≤b))) W2 (by omega) (by omega),(HT.out.1.lt.mono (fun b h=>(Or.inl h:b<w0.heap.size∨w.heap.size+1≤b))).mono (fun b h=>by omega),zaj _,W2.below (by omega) H3.out.1⟩)
 by_cases o13:op=13
 ·have HV:=hyd (show v.op=13 by rw[←HO.out];exact o13)
  have HR:=hyd (HE13.out HV.out);subst o13;have hn:=HK.out.n1 (by rw[HV.out];omega)
  have HT:=hyd (H1.out.1.1.tk0 hn);have c10:=H1.out.1.1.b.cell 10 rfl;have r0:=H1.out.1.1.row hn;rw[H1.out.1.1.nil hn] at c10;have i0:(0:Int)<tT.len:=by have:=H1.out.1.1.tl;omega
  clear hn;generalize v.tk 0=t at *;have h0:=zr1 2 t u1;go_wp2_with (refine wpList_load_mid rfl 38 (.tmp 43) rfl tT.b (tT.o+0*5) (by kernel_rfl) t.vs _ r0 Tryz.underlying38 rfl (by kernel_rfl) ?_)
  refine h0.mono ?_;rintro _ y2 ⟨rfl,hb⟩;have bZ:=H1.out.2.1.1.kept hb;have H3:=hyd (show Below w.heap.size w y2∧Below w0.heap.size w0 y2 from ⟨Below.next H1.out.1.2 hb,(H1.out.1.1.kept hb).bl⟩);clear h0 hb d3 c10 r0 i0;go_wp2_with (refine zag rfl rfl 38 (.tmp 2) (.tmp 45) rfl w.heap.size (zb0 2 t).vs (by kernel_rfl) (by kernel_rfl) (zb0 2 t).vs_one bZ rfl (by kernel_rfl) ?_;intro w2 W2);have HX:=H1.out.2.1.2;exact bodyPost_ret (v:=.tuple #[.agg (zb0 2 t).vs.toArray,.int .i64 (-1)]) (zap (vs:=(zb0 2 t).vs) Tryz.underlying38 rfl (by kernel_rfl) Tryz.results145 rfl rfl (W2.blk.range)) rfl (by rw[HR.out];exact⟨(zb0 2 t),rfl,(onl_at (HT.out.kept H3.out.2)).wrote (zrw (HT.out.lt.mono (fun b h=>(Or.inl h:b<w0.heap.size∨w.heap.size+1≤b)))) W2 (by omega) (by omega),(zrw (HT.out.lt.mono (fun b h=>(Or.inl h:b<w0.heap.size∨w.heap.size+1≤b)))).mono (fun b h=>by omega),zaj _,W2.below (by omega) H3.out.1⟩)
 by_cases o14:op=14
 ·have HV:=hyd (show v.op=14 by rw[←HO.out];exact o14)
  have HR:=hyd (HE14.out HV.out);subst o14;have hn:=HK.out.n2 HV.out;have HN:=hyd hn;clear hn;go_upto_region 11 with fail
  clear d3;have s0:=fun x:Gr u1=>x.cell (H1.out.1.1.b.cell 0 rfl);have s10:=fun x:Gr u1=>x.cell (H1.out.1.1.b.cell 10 rfl);have j21:=fun x:Gr u1=>x.cell (H1.out.1.1.j.b.cell 21 rfl);have hNE:Nonempty (Gr u1):=⟨⟨_,Below.refl _ _⟩⟩;refine zat 12 (by kernel_rfl) (by kernel_rfl) ?_;simp only[List.take,List.drop];iterate 12 go_big_quiet_step (fail)
  refine wpQuiet_nil ?_;rintro y2 ⟨xg,rfl⟩;have Bg:=xg.bl;generalize xg.w=y2 at Bg ⊢;have bZ:=H1.out.2.1.1.kept Bg;have H3:=hyd (show Below w.heap.size w y2∧Below w0.heap.size w0 y2 from ⟨Below.next H1.out.1.2 Bg,(H1.out.1.1.kept Bg).bl⟩);clear xg Bg s0 s10 j21 hNE;have HPR:=hyd (show (Ty.mk 3 (botI v.c.n v.c.g) 0 0 tT.ao tT.b tT.o tT.len tT.cap tT.ps).At w0∧(Ty.mk 3 (botI v.c.n v.c.g) 0 0 tT.ao tT.b tT.o tT.len tT.cap tT.ps).same (mk2 3 (botI v.c.n v.c.g) 0 0 (v.tk 0) (v.tk 1))=true from ⟨⟨H1.out.1.1.t.nil,H1.out.1.1.t.bound,fun i hi=>⟨H1.out.1.1.t.cells hi,H1.out.1.1.t.part hi⟩⟩,by
    rw[za4];refine⟨⟨rfl,rfl,rfl,rfl,by show tT.len=2;rw[H1.out.1.1.tl];exact HN.out⟩,fun i hi=>?_⟩
    have hi2:i<2:=by have:tT.len=2:=by { rw[H1.out.1.1.tl];exact HN.out };have h3:i<tT.len:=hi;omega
    show (tT.ps i).same (if i=0 then v.tk 0 else v.tk 1)=true
    rw[H1.out.1.1.tp]
    match i,hi2 with
    | 0,_=>exact zaj _
    | 1,_=>exact zaj _⟩)
  go_wp2_with (refine zag rfl rfl 38 (.tmp 2) (.tmp 59) rfl w.heap.size (Ty.mk 3 (botI v.c.n v.c.g) 0 0 tT.ao tT.b tT.o tT.len tT.cap tT.ps).vs (by kernel_rfl) (by kernel_rfl) (Ty.mk 3 (botI v.c.n v.c.g) 0 0 tT.ao tT.b tT.o tT.len tT.cap tT.ps).vs_one bZ rfl (by kernel_rfl) ?_;intro w2 W2);have HX:=H1.out.2.1.2;exact bodyPost_ret (v:=.tuple #[.agg (Ty.mk 3 (botI v.c.n v.c.g) 0 0 tT.ao tT.b tT.o tT.len tT.cap tT.ps).vs.toArray,.int .i64 (-1)]) (zap (vs:=(Ty.mk 3 (botI v.c.n v.c.g) 0 0 tT.ao tT.b tT.o tT.len tT.cap tT.ps).vs) Tryz.underlying38 rfl (by kernel_rfl) Tryz.results145 rfl rfl (W2.blk.range)) rfl (by rw[HR.out];exact⟨(Ty.mk 3 (botI v.c.n v.c.g) 0 0 tT.ao tT.b tT.o tT.len tT.cap tT.ps),rfl,(HPR.out.1.kept H3.out.2).wrote (HPR.out.1.lt.mono (fun b h=>(Or.inl h:b<w0.heap.size∨w.heap.size+1≤b))) W2 (by omega) (by omega),(HPR.out.1.lt.mono (fun b h=>(Or.inl h:b<w0.heap.size∨w.heap.size+1≤b))).mono (fun b h=>by omega),HPR.out.2,W2.below (by omega) H3.out.1⟩)
 by_cases o15:op=15
 ·have HV:=hyd (show v.op=15 by rw[←HO.out];exact o15)
  have HR:=hyd (HE15.out HV.out);subst o15;have hn:=HK.out.n1 (by rw[HV.out];omega)
  have h0:=zlm w0 v g BJ BS tT st sl k p 0 u1 H1.out.1.1 hn (by omega) (HK.out.ar 0 hn).1;go_wp2_with fail
  refine h0.mono ?_;rintro _ y2 ⟨u,rfl,uA,uB,uS,hb⟩;have bZ:=H1.out.2.1.1.kept hb;have H3:=hyd (Below.next H1.out.1.2 hb);have HU:=hyd (show u.At y2∧u.Blk (fun b=>b<w0.heap.size∨w.heap.size+1≤b) from ⟨uA,by have:=H1.out.2.2;exact uB.mono (fun b h=>by omega)⟩)
  clear h0 hb uA uB d3;go_wp2_with (refine zag rfl rfl 38 (.tmp 2) (.tmp 63) rfl w.heap.size u.vs (by kernel_rfl) (by kernel_rfl) u.vs_one bZ rfl (by kernel_rfl) ?_;intro w2 W2);have HX:=H1.out.2.1.2;exact bodyPost_ret (v:=.tuple #[.agg u.vs.toArray,.int .i64 (-1)]) (zap (vs:=u.vs) Tryz.underlying38 rfl (by kernel_rfl) Tryz.results145 rfl rfl (W2.blk.range)) rfl (by rw[HR.out];exact⟨u,rfl,(HU.out.1).wrote (HU.out.2) W2 (by omega) (by omega),(HU.out.2).mono (fun b h=>by omega),uS,W2.below (by omega) H3.out⟩)
 by_cases o16:op=16
 ·have HV:=hyd (show v.op=16 by rw[←HO.out];exact o16)
  have HR:=hyd (HE16.out HV.out);subst o16;have hn:=HK.out.n1 (by rw[HV.out];omega)
  have h0:=zlm w0 v g BJ BS tT st sl k p 1 u1 H1.out.1.1 hn (by omega) (HK.out.ar 0 hn).1;go_wp2_with fail
  refine h0.mono ?_;rintro _ y2 ⟨u,rfl,uA,uB,uS,hb⟩;have bZ:=H1.out.2.1.1.kept hb;have H3:=hyd (Below.next H1.out.1.2 hb);have HU:=hyd (show u.At y2∧u.Blk (fun b=>b<w0.heap.size∨w.heap.size+1≤b) from ⟨uA,by have:=H1.out.2.2;exact uB.mono (fun b h=>by omega)⟩)
  clear h0 hb uA uB d3;go_wp2_with (refine zag rfl rfl 38 (.tmp 2) (.tmp 67) rfl w.heap.size u.vs (by kernel_rfl) (by kernel_rfl) u.vs_one bZ rfl (by kernel_rfl) ?_;intro w2 W2);have HX:=H1.out.2.1.2;exact bodyPost_ret (v:=.tuple #[.agg u.vs.toArray,.int .i64 (-1)]) (zap (vs:=u.vs) Tryz.underlying38 rfl (by kernel_rfl) Tryz.results145 rfl rfl (W2.blk.range)) rfl (by rw[HR.out];exact⟨u,rfl,(HU.out.1).wrote (HU.out.2) W2 (by omega) (by omega),(HU.out.2).mono (fun b h=>by omega),uS,W2.below (by omega) H3.out⟩)
 by_cases o17:op=17
 ·have HV:=hyd (show v.op=17 by rw[←HO.out];exact o17)
  have HR:=hyd (HE17.out HV.out);subst o17;obtain⟨na,hna,hlt,hc⟩:=HK.out.a17 HV.out;have h0:=zse w0 v g BJ BS tT st sl k p na u1 H1.out.1.1 hna hlt hc HK.out.nd;go_wp2_with fail
  refine h0.mono ?_;rintro _ y2 ⟨u,rfl,uA,uB,uS,hb⟩;have bZ:=H1.out.2.1.1.kept hb;have H3:=hyd (Below.next H1.out.1.2 hb);have HU:=hyd (show u.At y2∧u.Blk (fun b=>b<w0.heap.size∨w.heap.size+1≤b) from ⟨uA,by have:=H1.out.2.2;exact uB.mono (fun b h=>by omega)⟩)
  clear h0 hb uA uB d3;go_wp2_with (refine zag rfl rfl 38 (.tmp 2) (.tmp 71) rfl w.heap.size u.vs (by kernel_rfl) (by kernel_rfl) u.vs_one bZ rfl (by kernel_rfl) ?_;intro w2 W2);have HX:=H1.out.2.1.2;exact bodyPost_ret (v:=.tuple #[.agg u.vs.toArray,.int .i64 (-1)]) (zap (vs:=u.vs) Tryz.underlying38 rfl (by kernel_rfl) Tryz.results145 rfl rfl (W2.blk.range)) rfl (by rw[HR.out];exact⟨u,rfl,(HU.out.1).wrote (HU.out.2) W2 (by omega) (by omega),(HU.out.2).mono (fun b h=>by omega),uS,W2.below (by omega) H3.out⟩)
 by_cases o18:op=18
 ·have HV:=hyd (show v.op=18 by rw[←HO.out];exact o18)
  have HR:=hyd (HE18.out HV.out);subst o18;go_upto_region 19 with fail
  clear d3;have s0:=fun x:Gr u1=>x.cell (H1.out.1.1.b.cell 0 rfl);have j0:=fun x:Gr u1=>x.cell (H1.out.1.1.j.b.cell 0 rfl);have j1:=fun x:Gr u1=>x.cell (H1.out.1.1.j.b.cell 1 rfl);have rF:∀u,(∃x:Gr u1,u=x.w)→u.rangeAt BJ 3 v.f.vs:=fun _ hC=>by obtain⟨x,rfl⟩:=hC;exact zaf (zg8 H1.out.1.1.j) (Gr.bl x)
  have hNE:Nonempty (Gr u1):=⟨⟨_,Below.refl _ _⟩⟩;refine zat 15 (by kernel_rfl) (by kernel_rfl) ?_;simp only[List.take,List.drop];iterate 14 go_big_quiet_step (fail)
  go_big_quiet_want;refine zad 44 (.tmp 87) rfl BJ 3 (by kernel_rfl) v.f.vs _ rF Tryz.underlying44 rfl (by kernel_rfl) ?_;simp only[Act.put,zA,zB,zC];go_big_quiet_on;refine wpQuiet_nil ?_;rintro y1 ⟨xg,rfl⟩;have Bg:=xg.bl;generalize xg.w=y1 at Bg ⊢;have H2:=hyd (show (Sr w0 v g BJ BS tT st sl k p y1∧Below w.heap.size w y1)∧Blk y1 w.heap.size zT5 38 from ⟨⟨H1.out.1.1.kept Bg,Below.next H1.out.1.2 Bg⟩,H1.out.2.1.1.kept Bg⟩);have HSZ1:=hyd (show w.heap.size+1≤y1.heap.size by have:=H1.out.2.2;have:=Bg.size;omega)
  clear xg Bg s0 j0 j1 rF hNE;have h0:=zky w0.heap.size v.c.n v.c.g v.f y1 H2.out.1.1.j.c.n H2.out.1.1.j.c.g H2.out.1.1.j.f;go_wp2_with fail
  refine h0.mono ?_;rintro _ y2 ⟨u,rfl,uA,uB,uS,hb⟩;have bZ:=H2.out.2.kept hb;have H3:=hyd (Below.next H2.out.1.2 hb);have HU:=hyd (show u.At y2∧u.Blk (fun b=>b<w0.heap.size∨w.heap.size+1≤b) from ⟨uA,by have:=HSZ1.out;exact uB.mono (fun b h=>by omega)⟩)
  clear h0 hb uA uB;go_wp2_with (refine zag rfl rfl 38 (.tmp 2) (.tmp 89) rfl w.heap.size u.vs (by kernel_rfl) (by kernel_rfl) u.vs_one bZ rfl (by kernel_rfl) ?_;intro w2 W2);have HX:=H1.out.2.1.2;exact bodyPost_ret (v:=.tuple #[.agg u.vs.toArray,.int .i64 (-1)]) (zap (vs:=u.vs) Tryz.underlying38 rfl (by kernel_rfl) Tryz.results145 rfl rfl (W2.blk.range)) rfl (by rw[HR.out];exact⟨u,rfl,(HU.out.1).wrote (HU.out.2) W2 (by omega) (by omega),(HU.out.2).mono (fun b h=>by omega),uS,W2.below (by omega) H3.out⟩)
 by_cases o19:op=19
 ·have HV:=hyd (show v.op=19 by rw[←HO.out];exact o19)
  have HR:=hyd (HE19.out HV.out);subst o19;have hn:=HK.out.n3 (Or.inl HV.out);have h0:=zqv w0 v g BJ BS tT st sl k p u1 H1.out.1.1 hn (HK.out.ar 0 (by omega)).2.1 (HK.out.nd 1 hn);rw[←HR.out] at h0;go_wp2_with fail
  refine h0.mono ?_;rintro _ y2 ⟨u,rfl,uA,uB,uS,hb⟩;have bZ:=H1.out.2.1.1.kept hb;have H3:=hyd (Below.next H1.out.1.2 hb);have HU:=hyd (show u.At y2∧u.Blk (fun b=>b<w0.heap.size∨w.heap.size+1≤b) from ⟨uA,by have:=H1.out.2.2;exact uB.mono (fun b h=>by omega)⟩)
  clear h0 hb uA uB d3;go_wp2_with (refine zag rfl rfl 38 (.tmp 2) (.tmp 94) rfl w.heap.size u.vs (by kernel_rfl) (by kernel_rfl) u.vs_one bZ rfl (by kernel_rfl) ?_;intro w2 W2);have HX:=H1.out.2.1.2;exact bodyPost_ret (v:=.tuple #[.agg u.vs.toArray,.int .i64 R.2]) (zap (vs:=u.vs) Tryz.underlying38 rfl (by kernel_rfl) Tryz.results145 rfl rfl (W2.blk.range)) rfl (⟨u,rfl,(HU.out.1).wrote (HU.out.2) W2 (by omega) (by omega),(HU.out.2).mono (fun b h=>by omega),uS,W2.below (by omega) H3.out⟩)
 by_cases o20:op=20
 ·have HV:=hyd (show v.op=20 by rw[←HO.out];exact o20)
  have HR:=hyd (HE20.out HV.out);subst o20;have hn:=HK.out.n1 (by rw[HV.out];omega)
  have h0:=zs0 w0 v g BJ BS tT st sl k p u1 H1.out.1.1 hn (HK.out.nd 0 hn) (HK.out.t _ H1.out.1.1.jo.f);go_wp2_with fail
  refine h0.mono ?_;rintro _ y2 ⟨u,rfl,uA,uB,uS,hb⟩;have bZ:=H1.out.2.1.1.kept hb;have H3:=hyd (Below.next H1.out.1.2 hb);have HU:=hyd (show u.At y2∧u.Blk (fun b=>b<w0.heap.size∨w.heap.size+1≤b) from ⟨uA,by have:=H1.out.2.2;exact uB.mono (fun b h=>by omega)⟩)
  clear h0 hb uA uB d3;go_wp2_with (refine zag rfl rfl 38 (.tmp 2) (.tmp 99) rfl w.heap.size u.vs (by kernel_rfl) (by kernel_rfl) u.vs_one bZ rfl (by kernel_rfl) ?_;intro w2 W2);have HX:=H1.out.2.1.2;exact bodyPost_ret (v:=.tuple #[.agg u.vs.toArray,.int .i64 (-1)]) (zap (vs:=u.vs) Tryz.underlying38 rfl (by kernel_rfl) Tryz.results145 rfl rfl (W2.blk.range)) rfl (by rw[HR.out];exact⟨u,rfl,(HU.out.1).wrote (HU.out.2) W2 (by omega) (by omega),(HU.out.2).mono (fun b h=>by omega),uS,W2.below (by omega) H3.out⟩)
 by_cases o21:op=21
 ·have HV:=hyd (show v.op=21 by rw[←HO.out];exact o21)
  have HR:=hyd (HE21.out HV.out);subst o21;have hn:=HK.out.n1 (by rw[HV.out];omega)
  have h0:=zsy w0 v g BJ BS tT st sl k p u1 H1.out.1.1 hn (HK.out.ar 0 hn).2.2;go_wp2_with fail
  refine h0.mono ?_;rintro _ y2 ⟨u,rfl,uA,uB,uS,hb⟩;have bZ:=H1.out.2.1.1.kept hb;have H3:=hyd (Below.next H1.out.1.2 hb);have HU:=hyd (show u.At y2∧u.Blk (fun b=>b<w0.heap.size∨w.heap.size+1≤b) from ⟨uA,by have:=H1.out.2.2;exact uB.mono (fun b h=>by omega)⟩)
  clear h0 hb uA uB d3;go_wp2_with (refine zag rfl rfl 38 (.tmp 2) (.tmp 103) rfl w.heap.size u.vs (by kernel_rfl) (by kernel_rfl) u.vs_one bZ rfl (by kernel_rfl) ?_;intro w2 W2);have HX:=H1.out.2.1.2;exact bodyPost_ret (v:=.tuple #[.agg u.vs.toArray,.int .i64 (-1)]) (zap (vs:=u.vs) Tryz.underlying38 rfl (by kernel_rfl) Tryz.results145 rfl rfl (W2.blk.range)) rfl (by rw[HR.out];exact⟨u,rfl,(HU.out.1).wrote (HU.out.2) W2 (by omega) (by omega),(HU.out.2).mono (fun b h=>by omega),uS,W2.below (by omega) H3.out⟩)
 have HR:=hyd (HE0.out (⟨by rw[←HO.out];exact o1,by rw[←HO.out];exact o2,by rw[←HO.out];exact o3,by rw[←HO.out];exact o13,by rw[←HO.out];exact o14,by rw[←HO.out];exact o15,by rw[←HO.out];exact o16,by rw[←HO.out];exact o17,by rw[←HO.out];exact o18,by rw[←HO.out];exact o19,by rw[←HO.out];exact o20,by rw[←HO.out];exact o21⟩))
 have hn:=HK.out.n3 (Or.inr (by have h1:=HK.out.ops;rw[←HO.out] at h1 ⊢;omega))
 have n1:(op==1)=false:=by simpa using o1
 have n2:(op==2)=false:=by simpa using o2
 have n3:(op==3)=false:=by simpa using o3
 have n13:(op==13)=false:=by simpa using o13
 have n14:(op==14)=false:=by simpa using o14
 have n15:(op==15)=false:=by simpa using o15
 have n16:(op==16)=false:=by simpa using o16
 have n17:(op==17)=false:=by simpa using o17
 have n18:(op==18)=false:=by simpa using o18
 have n19:(op==19)=false:=by simpa using o19
 have n20:(op==20)=false:=by simpa using o20
 have n21:(op==21)=false:=by simpa using o21
 clear o1 o2 o3 o13 o14 o15 o16 o17 o18 o19 o20 o21;have h0:=zq9 w0 v g BJ BS tT st sl k p u1 H1.out.1.1 hn;rw[←HR.out] at h0;go_wp2_with fail
 refine h0.mono ?_;rintro _ y2 ⟨u,rfl,uA,uB,uS,hb⟩;have bZ:=H1.out.2.1.1.kept hb;have H3:=hyd (Below.next H1.out.1.2 hb);have HU:=hyd (show u.At y2∧u.Blk (fun b=>b<w0.heap.size∨w.heap.size+1≤b) from ⟨uA,by have:=H1.out.2.2;exact uB.mono (fun b h=>by omega)⟩)
 clear h0 hb uA uB d3;go_wp2_with (refine zag rfl rfl 38 (.tmp 2) (.tmp 106) rfl w.heap.size u.vs (by kernel_rfl) (by kernel_rfl) u.vs_one bZ rfl (by kernel_rfl) ?_;intro w2 W2);have HX:=H1.out.2.1.2;exact bodyPost_ret (v:=.tuple #[.agg u.vs.toArray,.int .i64 R.2]) (zap (vs:=u.vs) Tryz.underlying38 rfl (by kernel_rfl) Tryz.results145 rfl rfl (W2.blk.range)) rfl (⟨u,rfl,(HU.out.1).wrote (HU.out.2) W2 (by omega) (by omega),(HU.out.2).mono (fun b h=>by omega),uS,W2.below (by omega) H3.out⟩)
end
end Go.Proofs.YtfobijdkoeifjaaGreatDoor
