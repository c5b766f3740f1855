import Derived.Test.YtgioppfoceddfaaGreatP50
import Derived.Test.YtgioppfoceddfaaGreatP29
import Derived.Test.YtgioppfoceddfaaGreatP3
set_option maxRecDepth 100000
set_option maxHeartbeats 32000000
namespace Go.Proofs.YtgioppfoceddfaaGreat
section
open Go Go.RowKit
theorem zn6 (n:Strs)(g:Grid)(s:Fl)(f:Fc)(w:World):(Instr.build 77 #[(0,.agg #[.slice n.ao n.len n.cap,.slice g.ao g.len g.cap]),(1,.slice s.ao s.len s.cap),(2,.agg f.vs.toArray),(3,.bool true)]).run Tryz.prog w=.ok (.agg (wkV n g s f true).toArray) w:=by kernel_rfl
theorem zgd (a:Int)(B m c:Nat)(w:World):(Instr.build 80 #[(0,.int .i64 a),(1,.int .i64 (-1)),(3,.bool true),(2,.slice (some ⟨B,0,none⟩) m c)]).run Tryz.prog w=.ok (.agg (⟨a,-1,B,m,c,fun _=>false,true⟩:Rst).vs.toArray) w:=by kernel_rfl
theorem zjm {o:Oper}{a:Act}{w w':World}{v:Value}{K:Act→World→Prop}{Q:Exit→Act→World→Prop}(t:TypeId)(l c:Operand)(ho:o.op=.makeSlice t l c)(lv cv:Value)(hl:a.eval l=lv)(hc:a.eval c=cv)
  (hs:(Instr.makeSlice t lv cv).run Tryz.prog w=.ok v w') (h:K (a.put o.dst v) w'):o.wp Tryz.prog a w K Q:=by
 subst hl hc;unfold Oper.wp execOp;simp only[ho,Sem.run_bind,hs,Result.andThen_ok,Sem.run_pure];exact h
theorem ziu (m:Nat):madeCells #[.bool false] m=(zda (fun _=>false) m).toArray:=by
 apply Array.toList_inj.1
 rw[toList_madeCells_one];unfold zda;apply List.ext_getElem
 ·simp
 ·intro i h1 h2;simp
structure Rt (w:World)(n:Strs)(g:Grid)(f:Fc)(u:World):Prop where
 L:Blk u w.heap.size [.slice n.ao n.len n.cap,.slice g.ao g.len g.cap] 25
 F:Blk u (w.heap.size+1) f.vs 53
theorem Rt.kept {w:World}{n:Strs}{g:Grid}{f:Fc}{u u':World}(h:Rt w n g f u)(hb:Below u.heap.size u u'):Rt w n g f u':=⟨h.L.kept hb,h.F.kept hb⟩
theorem Rt.foot {w:World}{n:Strs}{g:Grid}{f:Fc}{u u':World}{S:Nat→Prop}(h:Rt w n g f u)(k:Foot S u u')(h1:∀b,S b→w.heap.size+2≤b):Rt w n g f u':=⟨k.blk h.L (fun e=>by have:=h1 _ e;omega),k.blk h.F (fun e=>by have:=h1 _ e;omega)⟩
structure Rb (w:World)(j:Jd)(r:Rst)(p:Nat)(ok:Bool)(u:World):Prop where
 t:Rt w j.n j.g j.f u
 x:Rx w j (w.heap.size+2) p ok r u
 lp:w.heap.size+3≤p
 lq:w.heap.size+3≤r.q
theorem Rb.kept {w:World}{j:Jd}{r:Rst}{p:Nat}{ok:Bool}{u u':World}(h:Rb w j r p ok u)(hb:Below u.heap.size u u'):Rb w j r p ok u':=⟨h.t.kept hb,h.x.kept hb,h.lp,h.lq⟩
theorem Rb.next {w:World}{j:Jd}{r r':Rst}{p:Nat}{ok ok':Bool}{u u':World}(h:Rb w j r p ok u)(k:Rg w j (w.heap.size+2) p ok' r' u u')(hq:r'.q=r.q):Rb w j r' p ok' u' :=
 ⟨h.t.foot k.f (fun b e=>by rw[hq] at e;have:=h.lp;have:=h.lq;rcases e with e | e | e <;> omega),k.x,h.lp,by rw[hq];exact h.lq⟩
theorem zu6 (n:Strs)(g:Grid)(x:Int):leqB n g x (-1)=false:=by
 unfold leqB;have h:labB n (-1)=false:=by unfold labB;simp
 rw[h];cases zaf n g <;> cases labB n x <;> rfl
def bt0 (j:Jd)(q m c:Nat)(k:Nat):Rst:=⟨j.bot,-1,q,m,c,fun i=>decide (i<k),true⟩
structure R0 (w:World)(j:Jd)(u:World):Prop where
 t:Rt w j.n j.g j.f u
 W:Blk u (w.heap.size+2) (wkV j.n j.g j.fns j.f true) 77
 bl:Below w.heap.size w u
 sz:w.heap.size+3≤u.heap.size
theorem R0.kept {w:World}{j:Jd}{u u':World}(h:R0 w j u)(hb:Below u.heap.size u u'):R0 w j u':=⟨h.t.kept hb,h.W.kept hb,Below.next h.bl hb,Nat.le_trans h.sz hb.size⟩
structure Rq (w:World)(j:Jd)(q:Nat)(u:World):Prop where
 b:Blk u q (zda (fun _=>false) j.f.slots.len) 4
 l:w.heap.size+3≤q
theorem Rq.kept {w:World}{j:Jd}{q:Nat}{u u':World}(h:Rq w j q u)(hb:Below u.heap.size u u'):Rq w j q u':=⟨h.b.kept hb,h.l⟩
def zcr (j:Jd)(x:Int):Bool:=(x==-1)||((j.f.exc != -1)&&leqB j.n j.g x j.f.exc)
theorem zo8 (j:Jd)(x:Int):((x != -1)&&!(leqB j.n j.g x j.f.exc))=!zcr j x:=by
 unfold zcr;cases h1:(x==-1)
 ·cases h2:(j.f.exc==-1)
  ·simp[bne,h1,h2]
  ·have e:j.f.exc=-1:=by simpa using h2
   simp[bne,h1,e,zu6]
 ·simp[bne,h1]
theorem zs8 {j:Jd}{s:Sta}(h:s.gone=true):j.ends s=((j.f.out==-1)&&zcr j s.x):=by
 unfold Jd.ends;rw[zo8,h];cases zcr j s.x <;> simp
theorem zqb {j:Jd}{s:Sta}(h:s.gone=false)(ho:j.f.out=-1):j.ends s=false:=by
 unfold Jd.ends;rw[h,ho];simp
theorem zry {j:Jd}{s:Sta}{o:Nat}(h:s.gone=false)(ho:j.f.out=o):j.ends s=((s.set o&&belB j.n j.g (zai j.n j.g (j.f.slots.ps o) s.at_) j.f.result)&&zcr j s.x):=by
 unfold Jd.ends;rw[zo8,h,ho];have e:((o:Int)==-1)=false:=by simp
 rw[e];cases zcr j s.x <;> simp
theorem zqn {j:Jd}(h:j.list j.f.body j.start=none):j.right=false:=by unfold Jd.right;rw[h]
theorem zpy {j:Jd}{s:Sta}(h:j.list j.f.body j.start=some s):j.right=j.ends s:=by unfold Jd.right;rw[h]
theorem zs7 (j:Jd)(q m c:Nat):Rel (bt0 j q m c (1+j.f.caps.len)) j.start:=⟨⟨rfl,rfl,rfl⟩,fun _ _ _=>rfl⟩
theorem zu5 (j:Jd)(q m c:Nat):bt0 j q m c 0=⟨j.bot,-1,q,m,c,fun _=>false,true⟩:=by
 unfold bt0
 congr
theorem Rb.wq {w:World}{j:Jd}{q m c p i:Nat}{u:World}(h:Rb w j (bt0 j q m c i) p true u)(hi:i<m):Rb w j (bt0 j q m c (i+1)) p true (u.setCell ⟨q,i,none⟩ (.bool true)):=by
 have h1:=h.x.wq (bt0 j q m c (i+1)) i true hi rfl rfl rfl (by
  funext k
  show decide (k<i+1)=if k=i then true else decide (k<i)
  by_cases e:k=i
  ·subst e;simp
  ·rw[if_neg e];apply decide_eq_decide.2;omega)
 obtain⟨ys,hy⟩:=h.x.R;have W:=WroteB.cellR hy i (.bool true);exact⟨h.t.foot (zd8 (S:=fun b=>b=q) W rfl) (fun b e=>by have h2:w.heap.size+3≤q:=h.lq;omega),h1,h.lp,h.lq⟩
theorem zs3 {w:World}{j:Jd}(h:Kn w j):lab j.n j.start.at_:=by
 obtain⟨m,h1,h2,_⟩:=zh5 h.fm;exact Or.inr ⟨m,h2,by show j.bot=_;rw[h.bt,h1]⟩
theorem zqs (n:Strs)(g:Grid)(l:Fl)(k:Nat)(w:World)(hk:k<l.len)(hK:Kn w (jdg n g l k))(hA:l.At w)(hs:(l.ps k).body.shp n g l.len (l.ps k).slots.len=true)(hc:1+(l.ps k).caps.len≤(l.ps k).slots.len)(ho:(l.ps k).out=-1∨(0≤(l.ps k).out∧(l.ps k).out<(l.ps k).slots.len)) :
  Calls Tryz.prog 17 #[.agg #[.slice n.ao n.len n.cap,.slice g.ao g.len g.cap],.slice l.ao l.len l.cap,.int .i64 k] w fun e w'=>e=.returned (.bool (jdg n g l k).right)∧Below w.heap.size w w':=by
 have HK:=hid hK;have HF:=hid (show (l.ps k).At w∧(l.ps k).body.shp n g l.len (l.ps k).slots.len=true∧1+(l.ps k).caps.len≤(l.ps k).slots.len from ⟨hA.part k hk,hs,hc⟩);have rF:=hA.cells k hk;have hlo:=hA.nil (by omega);have hkI:(k:Int)<l.len:=by omega
 obtain⟨j,hj⟩:∃j,j=jdg n g l k:=⟨_,rfl⟩;have HJ:=hid (show (j.n=n∧j.g=g)∧(j.fns=l∧j.f=l.ps k)∧j.bot=botI n g from by rw[hj];exact⟨⟨rfl,rfl⟩,⟨rfl,rfl⟩,rfl⟩)
 rw[←hj];rw[←hj] at HK;clear hj hK hA hs hc;generalize l.ps k=f at *;have H1:=zar [.cells #[.slice n.ao n.len n.cap,.slice g.ao g.len g.cap] 25,.cells f.vs.toArray 53,.cells (wkV n g l f true).toArray 77] w;have B1:=zap [.cells #[.slice n.ao n.len n.cap,.slice g.ao g.len g.cap] 25,.cells f.vs.toArray 53,.cells (wkV n g l f true).toArray 77] w;have S1:=za9 [.cells #[.slice n.ao n.len n.cap,.slice g.ao g.len g.cap] 25,.cells f.vs.toArray 53,.cells (wkV n g l f true).toArray 77] w;simp only[List.foldl,List.length] at H1 B1 S1;have HW:=hid (show Rt w n g f (((w.alloc (.cells #[.slice n.ao n.len n.cap,.slice g.ao g.len g.cap] 25)).alloc (.cells f.vs.toArray 53)).alloc (.cells (wkV n g l f true).toArray 77))∧Blk (((w.alloc (.cells #[.slice n.ao n.len n.cap,.slice g.ao g.len g.cap] 25)).alloc (.cells f.vs.toArray 53)).alloc (.cells (wkV n g l f true).toArray 77)) (w.heap.size+2) (wkV n g l f true) 77∧Below w.heap.size w (((w.alloc (.cells #[.slice n.ao n.len n.cap,.slice g.ao g.len g.cap] 25)).alloc (.cells f.vs.toArray 53)).alloc (.cells (wkV n g l f true).toArray 77))∧(((w.alloc (.cells #[.slice n.ao n.len n.cap,.slice g.ao g.len g.cap] 25)).alloc (.cells f.vs.toArray 53)).alloc (.cells (wkV n g l f true).toArray 77)).heap.size=w.heap.size+3 from ⟨⟨H1 0 (by simp),H1 1 (by simp)⟩,H1 2 (by simp),B1,S1⟩);have bL1:Blk (w.alloc (.cells #[.slice n.ao n.len n.cap,.slice g.ao g.len g.cap] 25)) w.heap.size [.slice n.ao n.len n.cap,.slice g.ao g.len g.cap] 25:=Blk.new w _ _;have rF1:=zbx rF (zac w (.cells #[.slice n.ao n.len n.cap,.slice g.ao g.len g.cap] 25));have bF2:Blk ((w.alloc (.cells #[.slice n.ao n.len n.cap,.slice g.ao g.len g.cap] 25)).alloc (.cells f.vs.toArray 53)) (w.heap.size+1) f.vs 53:=by have:=Blk.new (w.alloc (.cells #[.slice n.ao n.len n.cap,.slice g.ao g.len g.cap] 25)) f.vs 53;rw[alloc_size] at this;exact this
 have bL2:=bL1.kept (zac _ (.cells f.vs.toArray 53));have l0:=bL2.cell 0 (v:=.slice n.ao n.len n.cap) rfl;have l1:=bL2.cell 1 (v:=.slice g.ao g.len g.cap) rfl;rw[hlo];have hwk:=zn6 n g l f;rw[hlo] at hwk;clear H1 B1 S1 rF bL1 bL2;go_enter Tryz.func17,Tryz.ntmps17
 go_upto_region 3 with (first | (refine wpList_load_mid rfl 53 (.tmp 13) rfl l.b (l.o+k*16) (by kernel_rfl) f.vs _ rF1 Tryz.underlying53 rfl (by kernel_rfl) ?_) | (refine zao rfl rfl 53 rfl (.tmp 7) (.tmp 14) rfl zFv (alloc_rfn _) rfl f.vs.toArray (by kernel_rfl) (by kernel_rfl) rfl (by kernel_rfl) (by simpa using f.va_one) ?_) | (refine wpList_load_mid rfl 53 (.tmp 7) rfl (w.heap.size+1) 0 (by kernel_rfl) f.vs _ bF2.range Tryz.underlying53 rfl (by kernel_rfl) ?_) | (refine zbn rfl 77 _ rfl _ (by kernel_rfl) (hwk _) ?_))
 obtain⟨⟨rfl,rfl⟩,⟨rfl,rfl⟩,hbt⟩:=HJ.out;have HBT:=hid hbt;clear hbt HJ rF1 bF2 l0 l1 hwk;simp only[Nat.add_assoc,Nat.reduceAdd] at HW ⊢;generalize (((w.alloc (.cells #[.slice j.n.ao j.n.len j.n.cap,.slice j.g.ao j.g.len j.g.cap] 25)).alloc (.cells j.f.vs.toArray 53)).alloc (.cells (wkV j.n j.g j.fns j.f true).toArray 77))=w3 at *;go_cut [9] (fun c wx=>∃p q cp:Nat,c=.pointer (some ⟨p,0,none⟩)∧Hid (Rb w j ⟨j.bot,-1,q,j.f.slots.len,cp,fun _=>false,true⟩ p true wx))
 case first =>
  have D3:=(Below.refl w3.heap.size w3).drew;have HU:=hid (show R0 w j w3.drew from (R0.mk HW.out.1 HW.out.2.1 HW.out.2.2.1 (Nat.le_of_eq HW.out.2.2.2.symm)).kept D3);have p0:∀x:Wd (fun q=>Rt w j.n j.g j.f q),x.w.cell? ⟨w.heap.size,0,none⟩=some (.slice j.n.ao j.n.len j.n.cap):=fun x=>x.2.L.cell 0 rfl;have p1:∀x:Wd (fun q=>Rt w j.n j.g j.f q),x.w.cell? ⟨w.heap.size,1,none⟩=some (.slice j.g.ao j.g.len j.g.cap):=fun x=>x.2.L.cell 1 rfl;have p13:∀x:Wd (fun q=>Rt w j.n j.g j.f q),x.w.cell? ⟨w.heap.size+1,13,none⟩=some (.slice j.f.slots.ao j.f.slots.len j.f.slots.cap):=fun x=>x.2.F.cell 13 rfl;have hNE:Nonempty (Wd (fun q=>Rt w j.n j.g j.f q)):=⟨⟨_,HW.out.1⟩⟩;refine zbi (fun q=>Rt w j.n j.g j.f q) [0,2,3] 6 (by kernel_rfl) rfl (by kernel_rfl) (zeh (by kernel_rfl)) HU.out.t ?_;simp only[List.filterMap,zD,zE];iterate 3 go_big_quiet_step (fail)
  refine wpQuiet_nil ?_;clear p0 p1 p13 hNE HW D3;generalize w3.drew=u0 at *;refine wpAnyH_ready (rs:=[1,4]) (by kernel_rfl) (by simp) ?_;refine AllReadyH.cons rfl (fun K hK=>?_) (AllReadyH.cons rfl (fun K hK=>?_) AllReadyH.nil)
  ·rw[if_pos (by rfl)];go_simp;refine (zas j.n j.g u0 (HK.out.d.n.kept HU.out.bl) (HK.out.d.g.kept HU.out.bl)).mono ?_;rintro _ u1 ⟨rfl,hb⟩;have HU1:=hid (HU.out.kept hb);refine hK.out _ _ HU1.out.t (fun _=>?_);clear hK K hb HU;have HU:=HU1;clear HU1
   try simp only[Act.put,List.getElem_toArray,List.getElem_cons_zero,List.getElem_cons_succ,zA,zB,zC]
   refine wpAnyH_ready (rs:=[4]) (by kernel_rfl) (by simp) ?_;refine AllReadyH.cons rfl (fun K hK=>?_) AllReadyH.nil;rw[if_pos (by rfl)];go_simp;refine hK.out _ _ HU.out.t (fun _=>?_);clear hK K
   try simp only[Act.put,List.getElem_toArray,List.getElem_cons_zero,List.getElem_cons_succ,zA,zB,zC]
   refine wpAnyH_ready (rs:=[5]) (by kernel_rfl) (by simp) ?_;refine AllReadyH.cons rfl (fun K hK=>?_) AllReadyH.nil;rw[if_pos (by rfl)];refine zjm 61 (.tmp 24) (.tmp 24) rfl (.int .i64 (j.f.slots.len:Int)) (.int .i64 (j.f.slots.len:Int)) (by kernel_rfl) (by kernel_rfl) (run_make_row' (P:=Tryz.prog) 61 4 (.bool false) 1 Tryz.underlying61 Tryz.infoBool rfl .i64 .i64 j.f.slots.len (by have:=HK.out.m2;omega) (by have:=HK.out.m2;omega) u1) ?_
   have hb:=zac u1 (.cells (madeCells #[.bool false] j.f.slots.len) 4);have HQ:=hid (show Rq w j u1.heap.size (u1.alloc (.cells (madeCells #[.bool false] j.f.slots.len) 4)) from ⟨by rw[ziu];exact Blk.new u1 _ _,HU.out.sz⟩)
   have HU1:=hid (HU.out.kept hb);refine hK.out _ _ HU1.out.t (fun _=>?_);clear hK K hb HU;generalize (u1.alloc (.cells (madeCells #[.bool false] j.f.slots.len) 4))=u9 at *;generalize u1.heap.size=q at *;have HU:=HU1;clear HU1
   try simp only[Act.put,List.getElem_toArray,List.getElem_cons_zero,List.getElem_cons_succ,zA,zB,zC]
   refine wpAnyH_ready (rs:=[6]) (by kernel_rfl) (by simp) ?_;refine AllReadyH.cons rfl (fun K hK=>?_) AllReadyH.nil;rw[if_pos (by rfl)];refine zb6 80 #[(0,.tmp 21),(1,.const (.int .i64 (-1))),(3,.const (.bool true)),(2,.tmp 25)] rfl #[(0,.int .i64 (botI j.n j.g)),(1,.int .i64 (-1)),(3,.bool true),(2,.slice (some ⟨q,0,none⟩) j.f.slots.len j.f.slots.len)] (by kernel_rfl) (zgd _ q j.f.slots.len j.f.slots.len u9) ?_;refine hK.out _ _ HU.out.t (fun _=>?_);clear hK K
   try simp only[Act.put,List.getElem_toArray,List.getElem_cons_zero,List.getElem_cons_succ,zA,zB,zC]
   refine wpAnyH_ready (rs:=[7]) (by kernel_rfl) (by simp) ?_;refine AllReadyH.cons rfl (fun K hK=>?_) AllReadyH.nil;rw[if_pos (by rfl)];rw[←HBT.out];have hb:=zac u9 (.cells (⟨j.bot,-1,q,j.f.slots.len,j.f.slots.len,fun _=>false,true⟩:Rst).vs.toArray 80);have HS:=hid (Blk.new u9 (⟨j.bot,-1,q,j.f.slots.len,j.f.slots.len,fun _=>false,true⟩:Rst).vs 80);have HSL:=hid HU.out.sz;go_simp;have HU1:=hid (HU.out.kept hb);have HQ1:=hid (HQ.out.kept hb);refine hK.out _ _ HU1.out.t (fun _=>?_);clear hK K hb
   try simp only[Act.put,List.getElem_toArray,List.getElem_cons_zero,List.getElem_cons_succ,zA,zB,zC]
   refine wpAnyH_ready (rs:=[8]) (by kernel_rfl) (by simp) ?_;refine AllReadyH.cons rfl (fun K hK=>?_) AllReadyH.nil;rw[if_pos (by rfl)];go_simp;refine hK.out _ _ HU1.out.t (fun _=>?_);clear hK K;refine wpAnyH_done (by kernel_rfl) ?_ _;refine⟨(fun c hc=>by cases hc),?_⟩;go_wp2;go_meet
   case rel=>exact⟨u9.heap.size,q,j.f.slots.len,rfl,⟨HU1.out.t,⟨HU1.out.bl,HU1.out.W,HS.out,⟨[],by rw[List.append_nil];exact HQ1.out.b⟩,by omega,by have:=HSL.out;omega,by have h1:=HQ1.out.l;show w.heap.size≤q;omega⟩,HSL.out,HQ1.out.l⟩⟩
  ·rw[if_pos (by rfl)];go_simp;refine hK.out _ _ HU.out.t (fun _=>?_);clear hK K
   try simp only[Act.put,List.getElem_toArray,List.getElem_cons_zero,List.getElem_cons_succ,zA,zB,zC]
   refine wpAnyH_ready (rs:=[1,5]) (by kernel_rfl) (by simp) ?_;refine AllReadyH.cons rfl (fun K hK=>?_) (AllReadyH.cons rfl (fun K hK=>?_) AllReadyH.nil)
   ·rw[if_pos (by rfl)];go_simp;refine (zas j.n j.g u0 (HK.out.d.n.kept HU.out.bl) (HK.out.d.g.kept HU.out.bl)).mono ?_;rintro _ u1 ⟨rfl,hb⟩;have HU1:=hid (HU.out.kept hb);refine hK.out _ _ HU1.out.t (fun _=>?_);clear hK K hb HU;have HU:=HU1;clear HU1
    try simp only[Act.put,List.getElem_toArray,List.getElem_cons_zero,List.getElem_cons_succ,zA,zB,zC]
    refine wpAnyH_ready (rs:=[5]) (by kernel_rfl) (by simp) ?_;refine AllReadyH.cons rfl (fun K hK=>?_) AllReadyH.nil;rw[if_pos (by rfl)];refine zjm 61 (.tmp 24) (.tmp 24) rfl (.int .i64 (j.f.slots.len:Int)) (.int .i64 (j.f.slots.len:Int)) (by kernel_rfl) (by kernel_rfl) (run_make_row' (P:=Tryz.prog) 61 4 (.bool false) 1 Tryz.underlying61 Tryz.infoBool rfl .i64 .i64 j.f.slots.len (by have:=HK.out.m2;omega) (by have:=HK.out.m2;omega) u1) ?_
    have hb:=zac u1 (.cells (madeCells #[.bool false] j.f.slots.len) 4);have HQ:=hid (show Rq w j u1.heap.size (u1.alloc (.cells (madeCells #[.bool false] j.f.slots.len) 4)) from ⟨by rw[ziu];exact Blk.new u1 _ _,HU.out.sz⟩)
    have HU1:=hid (HU.out.kept hb);refine hK.out _ _ HU1.out.t (fun _=>?_);clear hK K hb HU;generalize (u1.alloc (.cells (madeCells #[.bool false] j.f.slots.len) 4))=u9 at *;generalize u1.heap.size=q at *;have HU:=HU1;clear HU1
    try simp only[Act.put,List.getElem_toArray,List.getElem_cons_zero,List.getElem_cons_succ,zA,zB,zC]
    refine wpAnyH_ready (rs:=[6]) (by kernel_rfl) (by simp) ?_;refine AllReadyH.cons rfl (fun K hK=>?_) AllReadyH.nil;rw[if_pos (by rfl)];refine zb6 80 #[(0,.tmp 21),(1,.const (.int .i64 (-1))),(3,.const (.bool true)),(2,.tmp 25)] rfl #[(0,.int .i64 (botI j.n j.g)),(1,.int .i64 (-1)),(3,.bool true),(2,.slice (some ⟨q,0,none⟩) j.f.slots.len j.f.slots.len)] (by kernel_rfl) (zgd _ q j.f.slots.len j.f.slots.len u9) ?_;refine hK.out _ _ HU.out.t (fun _=>?_);clear hK K
    try simp only[Act.put,List.getElem_toArray,List.getElem_cons_zero,List.getElem_cons_succ,zA,zB,zC]
    refine wpAnyH_ready (rs:=[7]) (by kernel_rfl) (by simp) ?_;refine AllReadyH.cons rfl (fun K hK=>?_) AllReadyH.nil;rw[if_pos (by rfl)];rw[←HBT.out];have hb:=zac u9 (.cells (⟨j.bot,-1,q,j.f.slots.len,j.f.slots.len,fun _=>false,true⟩:Rst).vs.toArray 80);have HS:=hid (Blk.new u9 (⟨j.bot,-1,q,j.f.slots.len,j.f.slots.len,fun _=>false,true⟩:Rst).vs 80);have HSL:=hid HU.out.sz;go_simp;have HU1:=hid (HU.out.kept hb);have HQ1:=hid (HQ.out.kept hb);refine hK.out _ _ HU1.out.t (fun _=>?_);clear hK K hb
    try simp only[Act.put,List.getElem_toArray,List.getElem_cons_zero,List.getElem_cons_succ,zA,zB,zC]
    refine wpAnyH_ready (rs:=[8]) (by kernel_rfl) (by simp) ?_;refine AllReadyH.cons rfl (fun K hK=>?_) AllReadyH.nil;rw[if_pos (by rfl)];go_simp;refine hK.out _ _ HU1.out.t (fun _=>?_);clear hK K;refine wpAnyH_done (by kernel_rfl) ?_ _;refine⟨(fun c hc=>by cases hc),?_⟩;go_wp2;go_meet
    case rel=>exact⟨u9.heap.size,q,j.f.slots.len,rfl,⟨HU1.out.t,⟨HU1.out.bl,HU1.out.W,HS.out,⟨[],by rw[List.append_nil];exact HQ1.out.b⟩,by omega,by have:=HSL.out;omega,by have h1:=HQ1.out.l;show w.heap.size≤q;omega⟩,HSL.out,HQ1.out.l⟩⟩
   ·rw[if_pos (by rfl)];refine zjm 61 (.tmp 24) (.tmp 24) rfl (.int .i64 (j.f.slots.len:Int)) (.int .i64 (j.f.slots.len:Int)) (by kernel_rfl) (by kernel_rfl) (run_make_row' (P:=Tryz.prog) 61 4 (.bool false) 1 Tryz.underlying61 Tryz.infoBool rfl .i64 .i64 j.f.slots.len (by have:=HK.out.m2;omega) (by have:=HK.out.m2;omega) u0) ?_
    have hb:=zac u0 (.cells (madeCells #[.bool false] j.f.slots.len) 4);have HQ:=hid (show Rq w j u0.heap.size (u0.alloc (.cells (madeCells #[.bool false] j.f.slots.len) 4)) from ⟨by rw[ziu];exact Blk.new u0 _ _,HU.out.sz⟩)
    have HU1:=hid (HU.out.kept hb);refine hK.out _ _ HU1.out.t (fun _=>?_);clear hK K hb HU;generalize (u0.alloc (.cells (madeCells #[.bool false] j.f.slots.len) 4))=u9 at *;generalize u0.heap.size=q at *;have HU:=HU1;clear HU1
    try simp only[Act.put,List.getElem_toArray,List.getElem_cons_zero,List.getElem_cons_succ,zA,zB,zC]
    refine wpAnyH_ready (rs:=[1]) (by kernel_rfl) (by simp) ?_;refine AllReadyH.cons rfl (fun K hK=>?_) AllReadyH.nil;rw[if_pos (by rfl)];go_simp;refine (zas j.n j.g u9 (HK.out.d.n.kept HU.out.bl) (HK.out.d.g.kept HU.out.bl)).mono ?_;rintro _ u1 ⟨rfl,hb⟩;have HU1:=hid (HU.out.kept hb);have HQ1:=hid (HQ.out.kept hb);refine hK.out _ _ HU1.out.t (fun _=>?_);clear hK K hb HU HQ;have HU:=HU1;have HQ:=HQ1;clear HQ1;clear HU1
    try simp only[Act.put,List.getElem_toArray,List.getElem_cons_zero,List.getElem_cons_succ,zA,zB,zC]
    refine wpAnyH_ready (rs:=[6]) (by kernel_rfl) (by simp) ?_;refine AllReadyH.cons rfl (fun K hK=>?_) AllReadyH.nil;rw[if_pos (by rfl)];refine zb6 80 #[(0,.tmp 21),(1,.const (.int .i64 (-1))),(3,.const (.bool true)),(2,.tmp 25)] rfl #[(0,.int .i64 (botI j.n j.g)),(1,.int .i64 (-1)),(3,.bool true),(2,.slice (some ⟨q,0,none⟩) j.f.slots.len j.f.slots.len)] (by kernel_rfl) (zgd _ q j.f.slots.len j.f.slots.len u1) ?_;refine hK.out _ _ HU.out.t (fun _=>?_);clear hK K
    try simp only[Act.put,List.getElem_toArray,List.getElem_cons_zero,List.getElem_cons_succ,zA,zB,zC]
    refine wpAnyH_ready (rs:=[7]) (by kernel_rfl) (by simp) ?_;refine AllReadyH.cons rfl (fun K hK=>?_) AllReadyH.nil;rw[if_pos (by rfl)];rw[←HBT.out];have hb:=zac u1 (.cells (⟨j.bot,-1,q,j.f.slots.len,j.f.slots.len,fun _=>false,true⟩:Rst).vs.toArray 80);have HS:=hid (Blk.new u1 (⟨j.bot,-1,q,j.f.slots.len,j.f.slots.len,fun _=>false,true⟩:Rst).vs 80);have HSL:=hid HU.out.sz;go_simp;have HU1:=hid (HU.out.kept hb);have HQ1:=hid (HQ.out.kept hb);refine hK.out _ _ HU1.out.t (fun _=>?_);clear hK K hb
    try simp only[Act.put,List.getElem_toArray,List.getElem_cons_zero,List.getElem_cons_succ,zA,zB,zC]
    refine wpAnyH_ready (rs:=[8]) (by kernel_rfl) (by simp) ?_;refine AllReadyH.cons rfl (fun K hK=>?_) AllReadyH.nil;rw[if_pos (by rfl)];go_simp;refine hK.out _ _ HU1.out.t (fun _=>?_);clear hK K;refine wpAnyH_done (by kernel_rfl) ?_ _;refine⟨(fun c hc=>by cases hc),?_⟩;go_wp2;go_meet
    case rel=>exact⟨u1.heap.size,q,j.f.slots.len,rfl,⟨HU1.out.t,⟨HU1.out.bl,HU1.out.W,HS.out,⟨[],by rw[List.append_nil];exact HQ1.out.b⟩,by omega,by have:=HSL.out;omega,by have h1:=HQ1.out.l;show w.heap.size≤q;omega⟩,HSL.out,HQ1.out.l⟩⟩
 case rest =>
  obtain⟨p,q,cp,rfl,hI⟩:=hcut;have HI:=hid hI.out;clear hI HW;have hcl:=HF.out.2.2;have hm2:=HK.out.m2;go_wp2;go_loopw [10] (fun i wr=>∃k:Nat,k≤1+j.f.caps.len∧i=.int .i64 k∧Hid (Rb w j (bt0 j q j.f.slots.len cp k) p true wr)) (fun i _=>1+j.f.caps.len - (intOf i).toNat)
  case atStart=>exact⟨0,by omega,rfl,show Rb w j (bt0 j q j.f.slots.len cp 0) p true _ from by rw[zu5];exact HI.out⟩
  case round =>
   clear HI;obtain⟨i,hi9,rfl,hJ⟩:=hrel;have HJ:=hid hJ.out;clear hJ;have f10:=HJ.out.t.F.cell 10 (v:=.slice j.f.caps.ao j.f.caps.len j.f.caps.cap) rfl;by_cases hlt:i≤j.f.caps.len
   ·have ij:(i:Int)≤j.f.caps.len:=by omega
    have ik:(i:Int)<j.f.slots.len:=by omega
    have s2:=HJ.out.x.cs 2 (x:=.slice (some ⟨q,0,none⟩) j.f.slots.len cp) rfl;have b0:wr.cell? ⟨q,i,none⟩=some (.bool ((bt0 j q j.f.slots.len cp i).set i)):=HJ.out.x.cr (show i<j.f.slots.len by omega);have f0:wr.frozen? ⟨q,i,none⟩=false:=HJ.out.x.fr i;have HJ2:=hid (HJ.out.wq (show i<j.f.slots.len by omega));go_wp2;go_roundw
    case rel=>exact⟨i+1,by omega,by go_num,HJ2.out⟩
    case measure=>simp[intOf];omega
   ·have ei:i=1+j.f.caps.len:=by omega
    subst ei;have ij:¬(((1+j.f.caps.len:Nat):Int)≤j.f.caps.len):=by omega
    have f14:=HJ.out.t.F.cell 14 (v:=.slice j.f.body.ao j.f.body.len j.f.body.cap) rfl;go_wp2_with fail
    refine (rbody HK.out j.f.body HF.out.1.body HF.out.2.1 (w.heap.size+2) p (bt0 j q j.f.slots.len cp (1+j.f.caps.len)) j.start wr HJ.out.x (zs7 j _ _ _) ⟨zs3 HK.out,Or.inl rfl⟩ rfl).mono ?_;rintro _ y1 ⟨rfl,ok1,r1,hg1,⟨hq1,hm1⟩,hok1,hrel1⟩;have HB:=hid (HJ.out.next hg1 hq1);have HM:=hid (show r1.m=j.f.slots.len from hm1);clear hg1 hq1 hm1 HJ f10 f14 ij hlt hi9;have c19:=HB.out.x.cw 19 (x:=.bool ok1) rfl;cases ok1
    ·have HN:=hid (show j.right=false from zqn (by cases q:j.list j.f.body j.start with | none=>rfl | some _=>rw[q] at hok1;cases hok1))
     clear hok1 hrel1;go_wp2;go_ret;exact⟨zab HN.out.symm,HB.out.x.bl⟩
    ·obtain⟨s1,hs1⟩:=Option.isSome_iff_exists.1 hok1.symm;have HRl:=hid (hrel1 s1 hs1);have HE:=hid (zpy hs1);clear hok1 hrel1 hs1;have s3:=HB.out.x.cs 3 (x:=.bool r1.here) rfl;have f15:=HB.out.t.F.cell 15 (v:=.int .i64 j.f.out) rfl;cases hh:r1.here
     ·rw[hh] at s3;have HG:=hid (show s1.gone=true from by have h:=HRl.out.1.2.2;rw[hh] at h;cases q:s1.gone;rw[q] at h;cases h;rfl)
      have HE2:=hid (show j.right=((j.f.out==-1)&&zcr j r1.x) from by rw[HE.out,zs8 HG.out,HRl.out.1.2.1]);cases ho1:(j.f.out != -1)
      ·have ho2:j.f.out=-1:=by simpa using ho1
       have HL:=hid (show j.right=zcr j r1.x from by rw[HE2.out,ho2];rfl)
       have s1:=HB.out.x.cs 1 (x:=.int .i64 r1.x) rfl;have f12:=HB.out.t.F.cell 12 (v:=.int .i64 j.f.exc) rfl;have l0:=HB.out.t.L.cell 0 (v:=.slice j.n.ao j.n.len j.n.cap) rfl;have l1:=HB.out.t.L.cell 1 (v:=.slice j.g.ao j.g.len j.g.cap) rfl;have p1:=fun x=>Gr.cell x s1;have p12:=fun x=>Gr.cell x f12;have q0:=fun x=>Gr.cell x l0;have q1:=fun x=>Gr.cell x l1;have hlq:∀q,Below y1.heap.size y1 q→Calls Tryz.prog 33 #[.agg #[.slice j.n.ao j.n.len j.n.cap,.slice j.g.ao j.g.len j.g.cap],.int .i64 r1.x,.int .i64 j.f.exc] q fun e w'=>e=.returned (.bool (leqB j.n j.g r1.x j.f.exc))∧Below q.heap.size q w':=fun q hq=>zjo j.n j.g _ _ q (HK.out.d.n.kept (HB.out.kept hq).x.bl) (HK.out.d.g.kept (HB.out.kept hq).x.bl);have hNE:Nonempty (Gr y1):=⟨⟨_,Below.refl _ _⟩⟩;clear s1 f12 l0 l1;go_upto_region 16 with fail
       cases hx:(r1.x==-1)
       ·cases hex:(j.f.exc != -1)
        ·clear hlq;refine zag (by kernel_rfl) (by kernel_rfl) ?_;iterate 21 go_big_quiet_step (fail)
         refine wpQuiet_nil ?_;rintro w9 ⟨x9,rfl⟩;have B9:=x9.bl;generalize x9.w=w9 at B9 ⊢;clear p1 p12 q0 q1 hNE;go_wp2;go_ret;exact⟨zab (by rw[HL.out];unfold zcr;rw[hx,hex];rfl),Below.next HB.out.x.bl B9⟩
        ·refine zag (by kernel_rfl) (by kernel_rfl) ?_;iterate 17 go_big_quiet_step (fail)
         go_big_quiet_step ((go_at_call 33;exact Calls.gr _ (hlq _ (Gr.bl _))))
         iterate 3 go_big_quiet_step (fail)
         refine wpQuiet_nil ?_;rintro w9 ⟨x9,rfl⟩;have B9:=x9.bl;generalize x9.w=w9 at B9 ⊢;clear p1 p12 q0 q1 hNE;go_wp2;go_ret;exact⟨zab (by rw[HL.out];unfold zcr;rw[hx,hex];rfl),Below.next HB.out.x.bl B9⟩
       ·clear hlq;refine zag (by kernel_rfl) (by kernel_rfl) ?_;iterate 21 go_big_quiet_step (fail)
        refine wpQuiet_nil ?_;rintro w9 ⟨x9,rfl⟩;have B9:=x9.bl;generalize x9.w=w9 at B9 ⊢;clear p1 p12 q0 q1 hNE;go_wp2;go_ret;exact⟨zab (by rw[HL.out];unfold zcr;rw[hx];rfl),Below.next HB.out.x.bl B9⟩
      ·have h2:(j.f.out==-1)=false:=by simpa using ho1
       go_wp2;go_ret;exact⟨zab (by rw[HE2.out,h2];rfl),HB.out.x.bl⟩
     ·rw[hh] at s3;have HG:=hid (show s1.gone=false from by have h:=HRl.out.1.2.2;rw[hh] at h;cases q:s1.gone;rfl;rw[q] at h;cases h)
      cases ho1:(j.f.out==-1)
      ·have ho3:¬j.f.out=-1:=by simpa using ho1
       obtain⟨o,hoo⟩:∃o:Nat,j.f.out=o:=⟨j.f.out.toNat,by omega⟩;have HO:=hid (show j.f.out=o∧o<j.f.slots.len from ⟨hoo,by omega⟩);have HSO:=hid (show s1.set o=r1.set o from (HRl.out.2 HG.out o (by rw[HM.out];exact HO.out.2)).symm)
       have HE2:=hid (show j.right=((r1.set o&&belB j.n j.g (zai j.n j.g (j.f.slots.ps o) r1.at_) j.f.result)&&zcr j r1.x) from by rw[HE.out,zry HG.out HO.out.1,HSO.out,HRl.out.1.1,HRl.out.1.2.1]);rw[hoo] at ho1 f15;have s2:y1.cell? ⟨p,2,none⟩=some (.slice (some ⟨r1.q,0,none⟩) j.f.slots.len r1.cap):=HB.out.x.cs 2 (by rw[←HM.out];rfl)
       have s0:=HB.out.x.cs 0 (x:=.int .i64 r1.at_) rfl;have eo:=HB.out.x.cr (i:=o) (by rw[HM.out];exact HO.out.2)
       have l0:=HB.out.t.L.cell 0 (v:=.slice j.n.ao j.n.len j.n.cap) rfl;have l1:=HB.out.t.L.cell 1 (v:=.slice j.g.ao j.g.len j.g.cap) rfl;have hao:=HK.out.d.f.slots.nil (by have:=HO.out.2;omega)
       have f13:y1.cell? ⟨w.heap.size+1,13,none⟩=some (.slice (some ⟨j.f.slots.b,j.f.slots.o,none⟩) j.f.slots.len j.f.slots.cap):=HB.out.t.F.cell 13 (by rw[←hao];rfl)
       have hol:(o:Int)<j.f.slots.len:=by have:=HO.out.2;omega
       go_upto_region 12 with fail
       clear s3 c19 ho ho3 hoo hao;have p15:=fun x=>Gr.cell x f15;have p2:=fun x=>Gr.cell x s2;have p0:=fun x=>Gr.cell x s0;have po:=fun x=>Gr.cell x eo;have q0:=fun x=>Gr.cell x l0;have q1:=fun x=>Gr.cell x l1;have p13:=fun x=>Gr.cell x f13;have hNE:Nonempty (Gr y1):=⟨⟨_,Below.refl _ _⟩⟩;clear f15 s2 s0 eo l0 l1 f13;cases hset:r1.set o
       ·simp only[hset] at po;refine zag (by kernel_rfl) (by kernel_rfl) ?_;iterate 33 go_big_quiet_step (fail)
        refine wpQuiet_nil ?_;rintro y2 ⟨x9,rfl⟩;have B9:=x9.bl;generalize x9.w=y2 at B9 ⊢;have HB2:=hid (HB.out.kept B9);clear B9 x9;clear p15 p2 p0 po q0 q1 p13 hNE;go_wp2;go_ret;exact⟨zab (by rw[HE2.out,hset];rfl),HB2.out.x.bl⟩
       ·simp only[hset] at po;have hsl:j.f.slots.At y1:=HK.out.d.f.slots.kept HB.out.x.bl;have hk2:o<j.f.slots.len:=HO.out.2;have hC1:∀u',(∃x:Gr y1,u'=x.w)→u'.rangeAt j.f.slots.b (j.f.slots.o+o*5) (j.f.slots.ps o).vs:=by rintro _ ⟨x,rfl⟩;exact C5.row ((hsl.kept x.bl).cells hk2)
        have hC2:∀u',(∃x:Gr y1,u'=x.w)→u'.rangeAt (w.heap.size+1) 5 j.f.result.vs:=by
         rintro _ ⟨x,rfl⟩;have h1:=HB.out.t.F.kept x.bl;intro i v hv
         match i,hv with
         | 0,hv=>rw[←Option.some.inj hv];exact h1.cell 5 rfl
         | 1,hv=>rw[←Option.some.inj hv];exact h1.cell 6 rfl
         | 2,hv=>rw[←Option.some.inj hv];exact h1.cell 7 rfl
         | 3,hv=>rw[←Option.some.inj hv];exact h1.cell 8 rfl
         | 4,hv=>rw[←Option.some.inj hv];exact h1.cell 9 rfl
         | _+5,hv=>simp[Ty.vs] at hv
        have hbR:∀q,Below y1.heap.size y1 q→Calls Tryz.prog 32 #[.agg #[.slice j.n.ao j.n.len j.n.cap,.slice j.g.ao j.g.len j.g.cap],.agg (j.f.slots.ps o).vs.toArray,.int .i64 r1.at_] q fun e w'=>e=.returned (.agg (zai j.n j.g (j.f.slots.ps o) r1.at_).vs.toArray)∧Below q.heap.size q w':=fun q hq=>(zc6 j.n j.g (j.f.slots.ps o) r1.at_ q (HK.out.d.n.kept (HB.out.kept hq).x.bl) (HK.out.d.g.kept (HB.out.kept hq).x.bl) ((HK.out.d.f.slots.part hk2).kept (HB.out.kept hq).x.bl)).mono fun _ _ h=>⟨h.1,h.2.2⟩;have hbB:∀q,Below y1.heap.size y1 q→Calls Tryz.prog 31 #[.agg #[.slice j.n.ao j.n.len j.n.cap,.slice j.g.ao j.g.len j.g.cap],.agg (zai j.n j.g (j.f.slots.ps o) r1.at_).vs.toArray,.agg j.f.result.vs.toArray] q fun e w'=>e=.returned (.bool (belB j.n j.g (zai j.n j.g (j.f.slots.ps o) r1.at_) j.f.result))∧Below q.heap.size q w':=fun q hq=>zcw j.n j.g _ _ q (HK.out.d.n.kept (HB.out.kept hq).x.bl) (HK.out.d.g.kept (HB.out.kept hq).x.bl) (zd0 ((HK.out.d.f.slots.part hk2).kept (HB.out.kept hq).x.bl)) (HK.out.d.f.result.kept (HB.out.kept hq).x.bl);have HE3:=hid (show j.right=(belB j.n j.g (zai j.n j.g (j.f.slots.ps o) r1.at_) j.f.result&&zcr j r1.x) from by rw[HE2.out,hset];rfl)
        clear HE2;generalize zai j.n j.g (j.f.slots.ps o) r1.at_=rt at *;generalize belB j.n j.g rt j.f.result=bq at *;refine zag (by kernel_rfl) (by kernel_rfl) ?_;iterate 22 go_big_quiet_step (fail)
        go_big_quiet_want;refine zaa 38 (.tmp 76) rfl j.f.slots.b (j.f.slots.o+o*5) (by kernel_rfl) (j.f.slots.ps o).vs _ hC1 Tryz.underlying38 rfl (by kernel_rfl) ?_;simp only[Act.put,zA,zB,zC];go_big_quiet_on;iterate 4 go_big_quiet_step (fail)
        go_big_quiet_step ((go_at_call 32;exact Calls.gr _ (hbR _ (Gr.bl _))))
        iterate 1 go_big_quiet_step (fail)
        go_big_quiet_want;refine zaa 38 (.tmp 83) rfl (w.heap.size+1) 5 (by kernel_rfl) j.f.result.vs _ hC2 Tryz.underlying38 rfl (by kernel_rfl) ?_;simp only[Act.put,zA,zB,zC];go_big_quiet_on;go_big_quiet_step ((go_at_call 31;exact Calls.gr _ (hbB _ (Gr.bl _))))
        iterate 2 go_big_quiet_step (fail)
        refine wpQuiet_nil ?_;rintro y2 ⟨x9,rfl⟩;have B9:=x9.bl;generalize x9.w=y2 at B9 ⊢;have HB2:=hid (HB.out.kept B9);clear B9 x9;clear p15 p2 p0 po q0 q1 p13 hNE hC1 hC2 hbR hbB;cases bq
        ·go_wp2;go_ret;exact⟨zab (by rw[HE3.out];rfl),HB2.out.x.bl⟩
        ·have HL:=hid (show j.right=zcr j r1.x from by rw[HE3.out];rfl)
         have s1:=HB2.out.x.cs 1 (x:=.int .i64 r1.x) rfl;have f12:=HB2.out.t.F.cell 12 (v:=.int .i64 j.f.exc) rfl;have l0:=HB2.out.t.L.cell 0 (v:=.slice j.n.ao j.n.len j.n.cap) rfl;have l1:=HB2.out.t.L.cell 1 (v:=.slice j.g.ao j.g.len j.g.cap) rfl;have p1:=fun x=>Gr.cell x s1;have p12:=fun x=>Gr.cell x f12;have q0:=fun x=>Gr.cell x l0;have q1:=fun x=>Gr.cell x l1;have hlq:∀q,Below y2.heap.size y2 q→Calls Tryz.prog 33 #[.agg #[.slice j.n.ao j.n.len j.n.cap,.slice j.g.ao j.g.len j.g.cap],.int .i64 r1.x,.int .i64 j.f.exc] q fun e w'=>e=.returned (.bool (leqB j.n j.g r1.x j.f.exc))∧Below q.heap.size q w':=fun q hq=>zjo j.n j.g _ _ q (HK.out.d.n.kept (HB2.out.kept hq).x.bl) (HK.out.d.g.kept (HB2.out.kept hq).x.bl);have hNE:Nonempty (Gr y2):=⟨⟨_,Below.refl _ _⟩⟩;clear s1 f12 l0 l1;go_upto_region 16 with fail
         cases hx:(r1.x==-1)
         ·cases hex:(j.f.exc != -1)
          ·clear hlq;refine zag (by kernel_rfl) (by kernel_rfl) ?_;iterate 21 go_big_quiet_step (fail)
           refine wpQuiet_nil ?_;rintro w9 ⟨x9,rfl⟩;have B9:=x9.bl;generalize x9.w=w9 at B9 ⊢;clear p1 p12 q0 q1 hNE;go_wp2;go_ret;exact⟨zab (by rw[HL.out];unfold zcr;rw[hx,hex];rfl),Below.next HB2.out.x.bl B9⟩
          ·refine zag (by kernel_rfl) (by kernel_rfl) ?_;iterate 17 go_big_quiet_step (fail)
           go_big_quiet_step ((go_at_call 33;exact Calls.gr _ (hlq _ (Gr.bl _))))
           iterate 3 go_big_quiet_step (fail)
           refine wpQuiet_nil ?_;rintro w9 ⟨x9,rfl⟩;have B9:=x9.bl;generalize x9.w=w9 at B9 ⊢;clear p1 p12 q0 q1 hNE;go_wp2;go_ret;exact⟨zab (by rw[HL.out];unfold zcr;rw[hx,hex];rfl),Below.next HB2.out.x.bl B9⟩
         ·clear hlq;refine zag (by kernel_rfl) (by kernel_rfl) ?_;iterate 21 go_big_quiet_step (fail)
          refine wpQuiet_nil ?_;rintro w9 ⟨x9,rfl⟩;have B9:=x9.bl;generalize x9.w=w9 at B9 ⊢;clear p1 p12 q0 q1 hNE;go_wp2;go_ret;exact⟨zab (by rw[HL.out];unfold zcr;rw[hx];rfl),Below.next HB2.out.x.bl B9⟩
      ·have p15:=fun x=>Gr.cell x f15;have hNE:Nonempty (Gr y1):=⟨⟨_,Below.refl _ _⟩⟩;have ho2:j.f.out=-1:=by simpa using ho1
       simp only[ho2] at p15;clear f15;go_upto_region 12 with fail
       refine zag (by kernel_rfl) (by kernel_rfl) ?_;iterate 33 go_big_quiet_step (fail)
       refine wpQuiet_nil ?_;rintro y2 ⟨x9,rfl⟩;have B9:=x9.bl;generalize x9.w=y2 at B9 ⊢;have HB2:=hid (HB.out.kept B9);clear B9 x9;clear p15 hNE;go_wp2;go_ret;exact⟨zab (by rw[HE.out,zqb HG.out ho2]),HB2.out.x.bl⟩
end
end Go.Proofs.YtgioppfoceddfaaGreat
