import Derived.Test.YtfobijdkoeifjaaGreatDoorP39
import Derived.Test.YtfobijdkoeifjaaGreatDoorP40
import Derived.Test.YtfobijdkoeifjaaGreatDoorP37
import Derived.Test.YtfobijdkoeifjaaGreatDoorP10
import Derived.Test.YtfobijdkoeifjaaGreatDoorP13
import Derived.Test.YtfobijdkoeifjaaGreatDoorP6
import Derived.Test.YtfobijdkoeifjaaGreatDoorP3
import Derived.Deep.CutBlock
import Derived.Deep.DeepCutAuto
import Derived.BigQuiet
set_option maxRecDepth 100000
set_option maxHeartbeats 32000000
namespace Go.Proofs.YtfobijdkoeifjaaGreatDoor
section
open Go Go.RowKit
def xs4 (x0 x1 x2 x3:Int):Nat→Int:=fun i=>if i=0 then x0 else if i=1 then x1 else if i=2 then x2 else x3
structure Tlb (w:World)(n:Strs)(g:Grid)(x0 x1 x2 x3:Int)(u:World):Prop where
 bl:Below w.heap.size w u
 l:Blk u w.heap.size [.slice n.ao n.len n.cap,.slice g.ao g.len g.cap] 25
 x:Blk u (w.heap.size+1) [.int .i64 x0,.int .i64 x1,.int .i64 x2,.int .i64 x3] 56
theorem Tlb.kept {w:World}{n:Strs}{g:Grid}{x0 x1 x2 x3:Int}{u u':World}(h:Tlb w n g x0 x1 x2 x3 u)(hb:Below u.heap.size u u'):Tlb w n g x0 x1 x2 x3 u':=⟨Below.next h.bl hb,h.l.kept hb,h.x.kept hb⟩
theorem zu9 {x0 x1 x2 x3:Int}{j:Nat}(h:j<4):([.int .i64 x0,.int .i64 x1,.int .i64 x2,.int .i64 x3]:List Value)[j]?=some (.int .i64 (xs4 x0 x1 x2 x3 j)):=by
 match j,h with
 | 0,_=>rfl
 | 1,_=>rfl
 | 2,_=>rfl
 | 3,_=>rfl
theorem znm:∀(vs:List (Option Value)),ilN vs=0→∃xs:List Value,vs=xs.map some
 | [],_=>⟨[],rfl⟩
 | none :: vs,h=>by unfold ilN at h;simp at h
 | some x :: vs,h=>by
  obtain⟨xs,e⟩:=znm vs (by unfold ilN at h ⊢;simpa using h)
  exact⟨x :: xs,by rw[e];rfl⟩
theorem zwc {t:Ty}{w w':World}(h:t.At w)(h0:t.len=0):t.At w':=by
 cases t with
 | dm=>exact h.elim
 | mk k l hh e ao b o len cap ps =>
  have e0:len=0:=h0;subst e0;exact⟨h.1,h.2.1,fun i hi=>absurd hi (Nat.not_lt_zero i)⟩
structure I9 (U:World)(g:Grid)(a e:Nat)(vs:List (Option Value))(w:World):Prop where
 bl:Below U.heap.size U w
 v0:∀v,vs[0]?=some (some v)→v=.agg #[.int .i64 1,.int .i64 a,.slice none 0 0,.int .i64 0,.int .i64 0]
 v1:∀v,vs[1]?=some (some v)→∃u:Ty,v=.agg u.vs.toArray∧u.At w∧u.same (zaa 1 (Jn g a e:Nat))=true
 v2:∀v,vs[2]?=some (some v)→∃B:Nat,v=.pointer (some ⟨B,0,none⟩)∧Blk w B zT5 38∧U.heap.size≤B
theorem I9.kept {U:World}{g:Grid}{a e:Nat}{vs:List (Option Value)}{w w':World}(h:I9 U g a e vs w)(hb:Below w.heap.size w w'):I9 U g a e vs w' :=
 ⟨Below.next h.bl hb,h.v0,fun v hv=>by obtain⟨u,h1,h2,h3⟩:=h.v1 v hv;exact⟨u,h1,h2.kept hb,h3⟩,fun v hv=>by obtain⟨B,h1,h2,h3⟩:=h.v2 v hv;exact⟨B,h1,h2.kept hb,h3⟩⟩
theorem I9.s0 {U:World}{g:Grid}{a e:Nat}{vs:List (Option Value)}{w:World}(h:I9 U g a e vs w):I9 U g a e (vs.set 0 (some (.agg #[.int .i64 1,.int .i64 a,.slice none 0 0,.int .i64 0,.int .i64 0]))) w :=
 ⟨h.bl,fun v hv=>(zbg hv).elim (fun q=>q.2) (h.v0 v),fun v hv=>(zbg hv).elim (fun q=>absurd q.1 (by decide)) (h.v1 v),fun v hv=>(zbg hv).elim (fun q=>absurd q.1 (by decide)) (h.v2 v)⟩
theorem I9.s1 {U:World}{g:Grid}{a e:Nat}{vs:List (Option Value)}{w:World}(h:I9 U g a e vs w)(u:Ty)(hu:u.At w)(hs:u.same (zaa 1 (Jn g a e:Nat))=true):I9 U g a e (vs.set 1 (some (.agg u.vs.toArray))) w :=
 ⟨h.bl,fun v hv=>(zbg hv).elim (fun q=>absurd q.1 (by decide)) (h.v0 v),fun v hv=>(zbg hv).elim (fun q=>⟨u,q.2,hu,hs⟩) (h.v1 v),fun v hv=>(zbg hv).elim (fun q=>absurd q.1 (by decide)) (h.v2 v)⟩
theorem I9.s2 {U:World}{g:Grid}{a e:Nat}{vs:List (Option Value)}{w:World}(h:I9 U g a e vs w)(B:Nat)(hB:Blk w B zT5 38)(hge:U.heap.size≤B):I9 U g a e (vs.set 2 (some (.pointer (some ⟨B,0,none⟩)))) w :=
 ⟨h.bl,fun v hv=>(zbg hv).elim (fun q=>absurd q.1 (by decide)) (h.v0 v),fun v hv=>(zbg hv).elim (fun q=>absurd q.1 (by decide)) (h.v1 v),fun v hv=>(zbg hv).elim (fun q=>⟨B,q.2,hB,hge⟩) (h.v2 v)⟩
theorem zhk (args:Array Value)(w:World):(callFunc 22 args).run Tryz.prog w=.ok (.enter 22 args) w:=by kernel_rfl
theorem zub (args:Array Value)(w:World):(callFunc 21 args).run Tryz.prog w=.ok (.enter 21 args) w:=by kernel_rfl
theorem zn1 (args:Array Value)(w:World):(callFunc 23 args).run Tryz.prog w=.ok (.enter 23 args) w:=by kernel_rfl
theorem zkc (n:Strs)(g:Grid)(x0 x1 x2 x3:Int)(w:World)(hn:n.At w)(hg:g.At w)(hO:Og w)(hT:Pg2 w):Calls Tryz.prog 7 #[.agg #[.slice n.ao n.len n.cap,.slice g.ao g.len g.cap],.agg #[.int .i64 x0,.int .i64 x1,.int .i64 x2,.int .i64 x3]] w fun e w'=>e=.returned (.bool true)∧Below w.heap.size w w':=by
 have A0:=za9 [.cells #[.slice n.ao n.len n.cap,.slice g.ao g.len g.cap] 25,.cells #[.int .i64 x0,.int .i64 x1,.int .i64 x2,.int .i64 x3] 56] w;have A1:=zbe [.cells #[.slice n.ao n.len n.cap,.slice g.ao g.len g.cap] 25,.cells #[.int .i64 x0,.int .i64 x1,.int .i64 x2,.int .i64 x3] 56] w;simp only[List.foldl] at A0 A1;have H0:=hyd (show Tlb w n g x0 x1 x2 x3 _ from ⟨A0,A1 0 (by simp),A1 1 (by simp)⟩);have HD:=hyd (show (n.At w∧g.At w)∧Og w∧Pg2 w from ⟨⟨hn,hg⟩,hO,hT⟩);have h0:=zfz _ (hO.kept A0) (hT.kept A0);clear A0 A1 hn hg hO hT;go_enter Tryz.func7,Tryz.ntmps7
 go_wp2_with fail
 refine h0.mono ?_;clear h0;rintro _ u1 ⟨rfl,hb⟩;have H1:=hyd (H0.out.kept hb);clear hb H0;have c0:=H1.out.l.cell 0 rfl;have c1:=H1.out.l.cell 1 rfl;have h0:=zro n g u1 (HD.out.1.1.kept H1.out.bl) (HD.out.1.2.kept H1.out.bl);generalize zdi n g=sb at *;go_wp2_with fail
 refine h0.mono ?_;clear h0;rintro _ u2 ⟨rfl,hb⟩;have H2:=hyd (H1.out.kept hb);clear hb H1 c0 c1;cases sb
 ·have h0:=zfz u2 (HD.out.2.1.kept H2.out.bl) (HD.out.2.2.kept H2.out.bl);go_wp2_with fail
  refine h0.mono ?_;rintro _ u3 ⟨rfl,hb⟩;have H3:=hyd (Below.next H2.out.bl hb);clear h0 hb;go_wp2;go_ret;exact⟨rfl,H3.out⟩
 have c0:=H2.out.l.cell 0 rfl;have c1:=H2.out.l.cell 1 rfl;have h0:=zdc n g u2 (HD.out.1.1.kept H2.out.bl) (HD.out.1.2.kept H2.out.bl);cases hF:zae n g
 case false =>
  rw[hF] at h0;go_wp2_with fail
  refine h0.mono ?_;clear h0;rintro _ u3 ⟨rfl,hb⟩;have H3:=hyd (H2.out.kept hb);clear hb H2 c0 c1;have h0:=zfz u3 (HD.out.2.1.kept H3.out.bl) (HD.out.2.2.kept H3.out.bl);go_wp2_with fail
  refine h0.mono ?_;rintro _ u4 ⟨rfl,hb⟩;have H4:=hyd (Below.next H3.out.bl hb);clear h0 hb;go_wp2;go_ret;exact⟨rfl,H4.out⟩
 rw[hF] at h0;have HFD:=hyd hF;clear hF;go_wp2_with fail
 refine h0.mono ?_;clear h0;rintro _ u3 ⟨rfl,hb⟩;have H3:=hyd (H2.out.kept hb);clear hb H2 c0 c1;go_wp2;go_loopw [5] (fun i wr=>∃(j:Nat),j≤4∧i=.int .i64 j∧Tlb w n g x0 x1 x2 x3 wr∧∀i,i<j→labB n (xs4 x0 x1 x2 x3 i)=true) (fun i _=>4 - (intOf i).toNat)
 case atStart=>exact⟨0,by omega,rfl,H3.out,fun i hi=>absurd hi (Nat.not_lt_zero i)⟩
 case round =>
  clear H3;obtain⟨j,hj,rfl,hB,hall⟩:=hrel;have HB:=hyd hB;have HL:=hyd hall;clear hB hall;by_cases hlt:j<4
  ·have ij:(j:Int)<4:=by omega
   have HJ:=hyd hlt;clear hlt;go_upto_region 6 with fail
   have l0:∀y:Gr wr,y.w.cell? ⟨w.heap.size,0,none⟩=some (.slice n.ao n.len n.cap):=fun y=>y.cell (HB.out.l.cell 0 rfl);have l1:∀y:Gr wr,y.w.cell? ⟨w.heap.size,1,none⟩=some (.slice g.ao g.len g.cap):=fun y=>y.cell (HB.out.l.cell 1 rfl);have xj:∀y:Gr wr,y.w.cell? ⟨w.heap.size+1,j,none⟩=some (.int .i64 (xs4 x0 x1 x2 x3 j)):=fun y=>y.cell (HB.out.x.cell j (zu9 HJ.out));have hL:∀y:Gr wr,Calls Tryz.prog 20 #[.agg #[.slice n.ao n.len n.cap,.slice g.ao g.len g.cap],.int .i64 (xs4 x0 x1 x2 x3 j)] y.w fun e w'=>e=.returned (.bool (labB n (xs4 x0 x1 x2 x3 j)))∧Below y.w.heap.size y.w w':=fun y=>zr8 n g _ y.w;have HS:Hid (labB n (xs4 x0 x1 x2 x3 j)=true→∀i,i<j+1→labB n (xs4 x0 x1 x2 x3 i)=true):=fun h i hi=>by
    by_cases e:i=j
    ·rw[e];exact h
    ·exact HL.out i (by omega)
   have hNE:Nonempty (Gr wr):=⟨⟨_,Below.refl _ _⟩⟩;generalize labB n (xs4 x0 x1 x2 x3 j)=lb at *;refine zah (by kernel_rfl) (by kernel_rfl) ?_;iterate 4 go_big_quiet_step (fail)
   go_big_quiet_step ((go_at_call 20;exact Calls.gr _ (hL _)))
   go_big_quiet_step (fail)
   refine wpQuiet_nil ?_;rintro y1 ⟨yg,rfl⟩;have Bg:=yg.bl;generalize yg.w=y1 at Bg ⊢;have HB2:=hyd (HB.out.kept Bg);clear yg Bg HB l0 l1 xj hL hNE HL;cases lb
   ·clear HS;go_wp2;go_ret;exact⟨rfl,HB2.out.bl⟩
   ·have HE:=hyd (HS.out rfl);clear HS;go_wp2;go_roundw
    case rel=>exact⟨j+1,by have:=HJ.out;omega,by go_num,HB2.out,HE.out⟩
    case measure=>have:=HJ.out;simp[intOf];omega
  ·have ij:¬(j:Int)<4:=by omega
   have r0:inR n.len x0=true:=HL.out 0 (by omega);have r1:inR n.len x1=true:=HL.out 1 (by omega);have r2:inR n.len x2=true:=HL.out 2 (by omega);have r3:inR n.len x3=true:=HL.out 3 (by omega);obtain⟨a,rfl,ha⟩:=zgb r0;obtain⟨e,rfl,he⟩:=zgb r1;obtain⟨t,rfl,ht⟩:=zgb r2;obtain⟨b,rfl,hb⟩:=zgb r3;have HR:=hyd (show (a<n.len∧e<n.len)∧t<n.len∧b<n.len from ⟨⟨ha,he⟩,ht,hb⟩);clear r0 r1 r2 r3 ha he ht hb HL;go_upto_region 8 with fail
   have q0:∀y:Gr wr,y.w.cell? ⟨w.heap.size+1,0,none⟩=some (.int .i64 a):=fun y=>y.cell (HB.out.x.cell 0 rfl);have q1:∀y:Gr wr,y.w.cell? ⟨w.heap.size+1,1,none⟩=some (.int .i64 e):=fun y=>y.cell (HB.out.x.cell 1 rfl);have q2:∀y:Gr wr,y.w.cell? ⟨w.heap.size+1,2,none⟩=some (.int .i64 t):=fun y=>y.cell (HB.out.x.cell 2 rfl);have q3:∀y:Gr wr,y.w.cell? ⟨w.heap.size+1,3,none⟩=some (.int .i64 b):=fun y=>y.cell (HB.out.x.cell 3 rfl);have hNE:Nonempty (Gr wr):=⟨⟨_,Below.refl _ _⟩⟩;refine zah (by kernel_rfl) (by kernel_rfl) ?_;iterate 12 go_big_quiet_step (fail)
   refine wpQuiet_nil ?_;rintro y1 ⟨yg,rfl⟩;have Bg:=yg.bl;generalize yg.w=y1 at Bg ⊢;have HB2:=hyd (HB.out.kept Bg);clear yg Bg HB q0 q1 q2 q3 hNE;go_upto_region 9 with fail
   go_cut [10] (fun c10 wx=>∃(BU:Nat) (u:Ty),c10=.pointer (some ⟨BU,0,none⟩)∧Hid (Tlb w n g a e t b wx∧Blk wx BU u.vs 38∧u.At wx∧u.same (zaa 1 (Jn g a e:Nat))=true))
   case first =>
    have l0:∀y:Wd (fun q=>Below y1.heap.size y1 q),y.w.cell? ⟨w.heap.size,0,none⟩=some (.slice n.ao n.len n.cap):=fun y=>(HB2.out.kept y.2).l.cell 0 rfl;have l1:∀y:Wd (fun q=>Below y1.heap.size y1 q),y.w.cell? ⟨w.heap.size,1,none⟩=some (.slice g.ao g.len g.cap):=fun y=>(HB2.out.kept y.2).l.cell 1 rfl;have hNE:Nonempty (Wd (fun q=>Below y1.heap.size y1 q)):=⟨⟨_,Below.refl _ _⟩⟩;have HV0:=hyd (Below.refl y1.heap.size y1).drew;refine zal (fun q=>Below y1.heap.size y1 q) [0,1,3] 4 (by kernel_rfl) rfl (by kernel_rfl) (za7 (by kernel_rfl)) HV0.out ?_;simp only[List.filterMap,zD,zE];iterate 3 go_big_quiet_step (fail)
    refine wpQuiet_nil ?_;clear l0 l1 hNE;generalize y1.drew=v0 at *;refine zla [2,4,5] [51,53,10] [[],[0],[]] _ _ (I9 y1 g a e) 1 (by decide) (by decide) (by kernel_rfl) (by kernel_rfl) (fun vs w h=>h.bl) ?_ ?_ 3 [none,none,none] v0 rfl rfl ⟨HV0.out,fun v hv=>(by simp at hv),fun v hv=>(by simp at hv),fun v hv=>(by simp at hv)⟩
    ·intro k i d o vs u hi hd ho hl hk hdep hI K hK;rcases k with _ | _ | _ | k
     ·obtain rfl:2=i:=by simpa using hi
      obtain rfl:51=d:=by simpa using hd
      simp only[List.getElem?_toArray,zE,zD,Option.some.injEq] at ho;subst ho;refine zfi 22 zhk #[.tmp 50] _ rfl #[.int .i64 a] ?_ ?_
      ·simp only[List.map_toArray,List.map_cons,List.map_nil];rw[zb7 _ _ _ _ (by decide)];rfl
      refine (zcc a u).mono ?_;rintro _ u' ⟨rfl,hb⟩;exact⟨_,rfl,hK _ _ (hI.kept hb).s0⟩
     ·obtain rfl:4=i:=by simpa using hi
      obtain rfl:53=d:=by simpa using hd
      simp only[List.getElem?_toArray,zE,zD,Option.some.injEq] at ho;subst ho;obtain⟨v,hv⟩:=hdep 0 (by simp);have hv':=hI.v0 v hv;subst hv';refine zfi 21 zub #[.tmp 49,.tmp 51,.tmp 52] _ rfl #[.agg #[.slice n.ao n.len n.cap,.slice g.ao g.len g.cap],.agg #[.int .i64 1,.int .i64 a,.slice none 0 0,.int .i64 0,.int .i64 0],.int .i64 e] ?_ ?_
      ·simp only[List.map_toArray,List.map_cons,List.map_nil];rw[zb7 _ _ _ _ (by decide),zb7 _ _ _ 52 (by decide),ze2 _ _ _ 0 51 _ (by decide) rfl hv (by show 51<112;omega)]
       rfl
      have hr:Calls Tryz.prog 21 #[.agg #[.slice n.ao n.len n.cap,.slice g.ao g.len g.cap],.agg #[.int .i64 1,.int .i64 a,.slice none 0 0,.int .i64 0,.int .i64 0],.int .i64 e] u (fun r w'=>RP u (zak n g (zaa 1 a) e) r w'):=zhf n g (zaa 1 a) e u (HD.out.1.1.kept (Below.next HB2.out.bl hI.bl)) (HD.out.1.2.kept (Below.next HB2.out.bl hI.bl)) (zav _ _ _);refine hr.mono ?_;rintro _ u' ⟨t',rfl,h1,_,h3,hb⟩;rw[zhm HFD.out HR.out.1.1 HR.out.1.2] at h3;exact⟨_,rfl,hK _ _ ((hI.kept hb).s1 t' h1 h3)⟩
     ·obtain rfl:5=i:=by simpa using hi
      obtain rfl:10=d:=by simpa using hd
      simp only[List.getElem?_toArray,zE,zD,Option.some.injEq] at ho;subst ho;refine zlh 38 zT5 rfl (alloc_ty5 u) ?_;exact hK _ _ ((hI.kept (zac u _)).s2 u.heap.size (Blk.new u _ _) hI.bl.size)
     ·simp at hi
    ·intro vs u hl h0 hI;obtain⟨xs,rfl⟩:=znm vs h0
     match xs,hl with
     | [p,q,r],_ =>
      obtain⟨t',hq,h1,h3⟩:=hI.v1 q rfl;obtain⟨B,hr,hB,hge⟩:=hI.v2 r rfl;subst hq hr;have HT':=hyd (show t'.same (zaa 1 (Jn g a e:Nat))=true∧t'.At u from ⟨h3,h1⟩);have HBL:=hyd (show Below y1.heap.size y1 u∧y1.heap.size≤B from ⟨hI.bl,hge⟩);clear h1 h3 hge hI h0 hl;refine wpAnyH_ready (rs:=[6]) (by kernel_rfl) (by simp) ?_;refine AllReadyH.cons rfl (fun K hK=>?_) AllReadyH.nil;rw[if_pos (by rfl)];refine zbb 38 (.tmp 10) (.tmp 53) rfl rfl B t'.vs zT5 (by kernel_rfl) (by kernel_rfl) (zo1 _) hB rfl (by kernel_rfl) ?_;intro w8 W8;have HW:=hyd (show Below y1.heap.size y1 w8 from W8.below HBL.out.2 HBL.out.1);have HB8:=hyd W8.blk;clear W8 hB;refine hK.out _ _ HW.out (fun _=>?_);clear hK K;refine wpAnyH_done (by kernel_rfl) ?_ _;refine⟨(fun c hc=>by cases hc),?_⟩;simp only[List.map_cons,List.map_nil,ilA,putO,Act.put,zA,zB,zC];go_wp2;go_meet
      case rel=>exact⟨B,t',rfl,HB2.out.kept HW.out,HB8.out,zwc HT'.out.2 (zhe HT'.out.1).2.2,HT'.out.1⟩
   case rest =>
    obtain⟨BU,u,rfl,hI⟩:=hcut;have H9:=hyd hI.out;clear hI HB2;have A0:=zac wc (.cells #[.int .i64 3,.int .i64 0,.int .i64 0,.int .i64 0,.slice none 0 0,.int .i64 0,.int .i64 0,.int .i64 23,.int .i64 t,.int .i64 0,.int .i64 0,.slice none 0 0,.int .i64 0,.int .i64 0,.int .i64 3,.int .i64 0,.int .i64 0,.int .i64 0,.slice none 0 0,.int .i64 0,.int .i64 0,.int .i64 27,.int .i64 0,.int .i64 0,.int .i64 0,.slice none 0 0,.int .i64 0,.int .i64 0] 50);have H10:=hyd (show (Tlb w n g a e t b _∧Blk _ BU u.vs 38∧u.At _∧u.same (zaa 1 (Jn g a e:Nat))=true)∧Blk (wc.alloc (.cells #[.int .i64 3,.int .i64 0,.int .i64 0,.int .i64 0,.slice none 0 0,.int .i64 0,.int .i64 0,.int .i64 23,.int .i64 t,.int .i64 0,.int .i64 0,.slice none 0 0,.int .i64 0,.int .i64 0,.int .i64 3,.int .i64 0,.int .i64 0,.int .i64 0,.slice none 0 0,.int .i64 0,.int .i64 0,.int .i64 27,.int .i64 0,.int .i64 0,.int .i64 0,.slice none 0 0,.int .i64 0,.int .i64 0] 50)) wc.heap.size ((tlL t).flatMap In.vs) 50 from ⟨⟨H9.out.1.kept A0,H9.out.2.1.kept A0,H9.out.2.2.1.kept A0,H9.out.2.2.2⟩,Blk.new wc ((tlL t).flatMap In.vs) 50⟩);clear A0 H9;go_upto_region 11 with fail
    try simp only[Act.put,zA,zB,zC]
    generalize wc.alloc (.cells #[.int .i64 3,.int .i64 0,.int .i64 0,.int .i64 0,.slice none 0 0,.int .i64 0,.int .i64 0,.int .i64 23,.int .i64 t,.int .i64 0,.int .i64 0,.slice none 0 0,.int .i64 0,.int .i64 0,.int .i64 3,.int .i64 0,.int .i64 0,.int .i64 0,.slice none 0 0,.int .i64 0,.int .i64 0,.int .i64 27,.int .i64 0,.int .i64 0,.int .i64 0,.slice none 0 0,.int .i64 0,.int .i64 0] 50)=U at *;generalize wc.heap.size=BC at *;have h8:=zpc HFD.out;have HTH:=hyd (show TlH n g a e t b u from ⟨HFD.out,HR.out.1.1,HR.out.1.2,HR.out.2.1,HR.out.2.2,H10.out.1.2.2.1.nd,H10.out.1.2.2.2⟩);have HI8:=hyd (show I64 e∧t≤1000 from ⟨⟨by have:=HR.out.1.2;omega,by have:=HR.out.1.2;omega⟩,by have:=HR.out.2.1;omega⟩)
    clear h8;go_cut [12] (fun c12 wx=>∃(BV bk bs b1 b2:Nat) (pt:Rw Pt),c12=.pointer (some ⟨BV,0,none⟩)∧Hid ((Tlb w n g a e t b wx∧Blk wx BU u.vs 38)∧Blk wx BV [.slice n.ao n.len n.cap,.slice g.ao g.len g.cap,.slice (some ⟨bk,0,none⟩) 1 1] 28∧(stKl n g bk (stCf (zaa 1 a) (zaa 1 b) (botI n g) (topI n g) (lsR BC (vi 0 0) (tlL t)) pt)).At wx∧StP (zaa 1 a) e (lsR BC (vi 0 0) (tlL t)).len (lsR bs (zaa 0 0) (tlS b1 b2 u)).x pt∧(∀i,i<pt.len→(pt.x i).st.len≤(pt.x i).st.cap)))
    case first =>
     have l0:∀y:Wd (fun q=>Below U.heap.size U q),y.w.cell? ⟨w.heap.size,0,none⟩=some (.slice n.ao n.len n.cap):=fun y=>(H10.out.1.1.kept y.2).l.cell 0 rfl;have l1:∀y:Wd (fun q=>Below U.heap.size U q),y.w.cell? ⟨w.heap.size,1,none⟩=some (.slice g.ao g.len g.cap):=fun y=>(H10.out.1.1.kept y.2).l.cell 1 rfl;have rU:∀z,(∃y:Wd (fun q=>Below U.heap.size U q),z=y.w)→z.rangeAt BU 0 u.vs:=fun _ hC=>by obtain⟨y,rfl⟩:=hC;exact (H10.out.1.2.1.kept y.2).range
     have hNE:Nonempty (Wd (fun q=>Below U.heap.size U q)):=⟨⟨_,Below.refl _ _⟩⟩;have HV0:=hyd (Below.refl U.heap.size U).drew;refine zal (fun q=>Below U.heap.size U q) [0,1,3,5,6,7,9] 8 (by kernel_rfl) rfl (by kernel_rfl) (za7 (by kernel_rfl)) HV0.out ?_;simp only[List.filterMap,zD,zE];iterate 5 go_big_quiet_step (fail)
     go_big_quiet_want;refine zad 38 (.tmp 10) rfl BU 0 (by kernel_rfl) u.vs _ rU Tryz.underlying38 rfl (by kernel_rfl) ?_;simp only[Act.put,zA,zB,zC];go_big_quiet_on;go_big_quiet_want;refine zad 38 (.tmp 10) rfl BU 0 (by kernel_rfl) u.vs _ rU Tryz.underlying38 rfl (by kernel_rfl) ?_;simp only[Act.put,zA,zB,zC];go_big_quiet_on;refine wpQuiet_nil ?_;clear l0 l1 rU hNE;generalize U.drew=v0 at *;refine zla [2,4,8,10,11,12,13] [62,64,68,70,71,72,12] [[],[0],[],[],[2,3],[0,1,4],[]] _ _ (I11 U n g a e t b BC u) 1 (by decide) (by decide) (by kernel_rfl) (by kernel_rfl) (fun vs w h=>h.bl) ?_ ?_ 7 [none,none,none,none,none,none,none] v0 rfl rfl ⟨HV0.out,fun v hv=>(by simp at hv),fun v hv=>(by simp at hv),fun v hv=>(by simp at hv),fun v hv=>(by simp at hv),fun v hv=>(by simp at hv),fun v hv=>(by simp at hv),fun v hv=>(by simp at hv)⟩
     ·intro k i d o vs x hi hd ho hl hk hdep hI K hK;rcases k with _ | _ | _ | _ | _ | _ | _ | k
      ·obtain rfl:2=i:=by simpa using hi
       obtain rfl:62=d:=by simpa using hd
       simp only[List.getElem?_toArray,zE,zD,Option.some.injEq] at ho;subst ho;refine zfi 22 zhk #[.tmp 61] _ rfl #[.int .i64 a] ?_ ?_
       ·simp only[List.map_toArray,List.map_cons,List.map_nil];rw[zb7 _ _ _ _ (by decide)];rfl
       refine (zcc a x).mono ?_;rintro _ x' ⟨rfl,hb⟩;exact⟨_,rfl,hK _ _ ((hI.kept hb).set 0 _ (fun _=>rfl) (fun q=>absurd q (by decide)) (fun q=>absurd q (by decide)) (fun q=>absurd q (by decide)) (fun q=>absurd q (by decide)) (fun q=>absurd q (by decide)) (fun q=>absurd q (by decide)))⟩
      ·obtain rfl:4=i:=by simpa using hi
       obtain rfl:64=d:=by simpa using hd
       simp only[List.getElem?_toArray,zE,zD,Option.some.injEq] at ho;subst ho;refine zfi 22 zhk #[.tmp 63] _ rfl #[.int .i64 b] ?_ ?_
       ·simp only[List.map_toArray,List.map_cons,List.map_nil];rw[zb7 _ _ _ _ (by decide)];rfl
       refine (zcc b x).mono ?_;rintro _ x' ⟨rfl,hb⟩;exact⟨_,rfl,hK _ _ ((hI.kept hb).set 1 _ (fun q=>absurd q (by decide)) (fun _=>rfl) (fun q=>absurd q (by decide)) (fun q=>absurd q (by decide)) (fun q=>absurd q (by decide)) (fun q=>absurd q (by decide)) (fun q=>absurd q (by decide)))⟩
      ·obtain rfl:8=i:=by simpa using hi
       obtain rfl:68=d:=by simpa using hd
       simp only[List.getElem?_toArray,zE,zD,Option.some.injEq] at ho;subst ho;refine zex 36 1 #[(0,.tmp 67)] rfl #[(0,.agg u.vs.toArray)] ?_ (zgn u x) ?_
       ·simp only[List.map_toArray,List.map_cons,List.map_nil];rw[zb7 _ _ _ _ (by decide)];rfl
       exact hK _ _ ((hI.kept (zac x _)).set 2 _ (fun q=>absurd q (by decide)) (fun q=>absurd q (by decide)) (fun _=>⟨_,rfl,Blk.new x _ _⟩) (fun q=>absurd q (by decide)) (fun q=>absurd q (by decide)) (fun q=>absurd q (by decide)) (fun q=>absurd q (by decide)))
      ·obtain rfl:10=i:=by simpa using hi
       obtain rfl:70=d:=by simpa using hd
       simp only[List.getElem?_toArray,zE,zD,Option.some.injEq] at ho;subst ho;refine zex 36 1 #[(0,.tmp 69)] rfl #[(0,.agg u.vs.toArray)] ?_ (zgn u x) ?_
       ·simp only[List.map_toArray,List.map_cons,List.map_nil];rw[zb7 _ _ _ _ (by decide)];rfl
       exact hK _ _ ((hI.kept (zac x _)).set 3 _ (fun q=>absurd q (by decide)) (fun q=>absurd q (by decide)) (fun q=>absurd q (by decide)) (fun _=>⟨_,rfl,Blk.new x _ _⟩) (fun q=>absurd q (by decide)) (fun q=>absurd q (by decide)) (fun q=>absurd q (by decide)))
      ·obtain rfl:11=i:=by simpa using hi
       obtain rfl:71=d:=by simpa using hd
       simp only[List.getElem?_toArray,zE,zD,Option.some.injEq] at ho;subst ho;obtain⟨p2,q2⟩:=hdep 2 (by simp);obtain⟨p3,q3⟩:=hdep 3 (by simp);obtain⟨b1,e1,g1⟩:=hI.v2 p2 q2;obtain⟨b2,e2,g2⟩:=hI.v3 p3 q3;subst e1 e2;refine zex 62 4 #[(0,.const (.slice none 0 0)),(1,.tmp 68),(2,.const (.slice none 0 0)),(3,.tmp 70)] rfl #[(0,.slice none 0 0),(1,.slice (some ⟨b1,0,none⟩) 1 1),(2,.slice none 0 0),(3,.slice (some ⟨b2,0,none⟩) 1 1)] ?_ (zqc b1 b2 x) ?_
       ·simp only[List.map_toArray,List.map_cons,List.map_nil];rw[ze2 _ _ _ 2 68 _ (by decide) rfl q2 (by show 68<112;omega),ze2 _ _ _ 3 70 _ (by decide) rfl q3 (by show 70<112;omega)]
        rfl
       have hbx:=zac x (.cells #[.slice none 0 0,.slice (some ⟨b1,0,none⟩) 1 1,.slice none 0 0,.slice (some ⟨b2,0,none⟩) 1 1] 36);exact hK _ _ ((hI.kept hbx).set 4 _ (fun q=>absurd q (by decide)) (fun q=>absurd q (by decide)) (fun q=>absurd q (by decide)) (fun q=>absurd q (by decide)) (fun _=>⟨_,b1,b2,rfl,Blk.new x ((tlS b1 b2 u).flatMap skV) 36,g1.kept hbx,g2.kept hbx⟩) (fun q=>absurd q (by decide)) (fun q=>absurd q (by decide)))
      ·obtain rfl:12=i:=by simpa using hi
       obtain rfl:72=d:=by simpa using hd
       simp only[List.getElem?_toArray,zE,zD,Option.some.injEq] at ho;subst ho;obtain⟨p0,q0⟩:=hdep 0 (by simp);obtain⟨p1,q1⟩:=hdep 1 (by simp);obtain⟨p4,q4⟩:=hdep 4 (by simp);have e0:=hI.v0 p0 q0;have e1:=hI.v1 p1 q1;obtain⟨bs,b1,b2,e4,g4,g1,g2⟩:=hI.v4 p4 q4;subst e0 e1 e4;refine zfi 23 zn1 #[.tmp 60,.tmp 62,.tmp 64,.tmp 65,.tmp 66,.tmp 71] _ rfl #[.agg #[.slice n.ao n.len n.cap,.slice g.ao g.len g.cap],nmV a,nmV b,.int .i64 e,.slice (some ⟨BC,0,none⟩) 4 4,.slice (some ⟨bs,0,none⟩) 4 4] ?_ ?_
       ·simp only[List.map_toArray,List.map_cons,List.map_nil];rw[zb7 _ _ _ 60 (by decide),zb7 _ _ _ 65 (by decide),zb7 _ _ _ 66 (by decide),ze2 _ _ _ 0 62 _ (by decide) rfl q0 (by show 62<112;omega),ze2 _ _ _ 1 64 _ (by decide) rfl q1 (by show 64<112;omega),ze2 _ _ _ 4 71 _ (by decide) rfl q4 (by show 71<112;omega)]
        rfl
       have hbl:Below w.heap.size w x:=Below.next H10.out.1.1.bl hI.bl;have hst:Calls Tryz.prog 23 #[.agg #[.slice n.ao n.len n.cap,.slice g.ao g.len g.cap],nmV a,nmV b,.int .i64 e,.slice (some ⟨BC,0,none⟩) 4 4,.slice (some ⟨bs,0,none⟩) 4 4] x (StR n g (zaa 1 a) (zaa 1 b) e (lsR BC (vi 0 0) (tlL t)) (lsR bs (zaa 0 0) (tlS b1 b2 u)) x):=zfh n g (zaa 1 a) (zaa 1 b) e (lsR BC (vi 0 0) (tlL t)) (lsR bs (zaa 0 0) (tlS b1 b2 u)) x (HD.out.1.1.kept hbl) (HD.out.1.2.kept hbl) (zav _ _ _) (zav _ _ _) HI8.out.1 (tl_cd (H10.out.2.kept hI.bl) HI8.out.2) (tl_sk g4 g1 g2 (H10.out.1.2.2.1.kept hI.bl)) rfl (by show 4≤1000;omega)
       refine hst.mono ?_;rintro _ x' ⟨bk,pt,rfl,hAt,hP,hC,hb⟩;exact⟨_,rfl,hK _ _ ((hI.kept hb).set 5 _ (fun q=>absurd q (by decide)) (fun q=>absurd q (by decide)) (fun q=>absurd q (by decide)) (fun q=>absurd q (by decide)) (fun q=>absurd q (by decide)) (fun _=>⟨bk,bs,b1,b2,pt,rfl,hAt,hP,hC⟩) (fun q=>absurd q (by decide)))⟩
      ·obtain rfl:13=i:=by simpa using hi
       obtain rfl:12=d:=by simpa using hd
       simp only[List.getElem?_toArray,zE,zD,Option.some.injEq] at ho;subst ho;refine zlh 28 zK rfl (zt5 x) ?_;exact hK _ _ ((hI.kept (zac x _)).set 6 _ (fun q=>absurd q (by decide)) (fun q=>absurd q (by decide)) (fun q=>absurd q (by decide)) (fun q=>absurd q (by decide)) (fun q=>absurd q (by decide)) (fun q=>absurd q (by decide)) (fun _=>⟨_,rfl,Blk.new x _ _,hI.bl.size⟩))
      ·simp at hi
     ·intro vs x hl h0 hI;obtain⟨xs,rfl⟩:=znm vs h0
      match xs,hl with
      | [p0,p1,p2,p3,p4,p5,p6],_ =>
       obtain⟨bk,bs,b1,b2,pt,h5,hAt,hP,hC⟩:=hI.v5 p5 rfl;obtain⟨B,h6,hB,hge⟩:=hI.v6 p6 rfl;subst h5 h6;have HBL:=hyd (show Below U.heap.size U x∧U.heap.size≤B from ⟨hI.bl,hge⟩);have HPC:=hyd (show (stKl n g bk (stCf (zaa 1 a) (zaa 1 b) (botI n g) (topI n g) (lsR BC (vi 0 0) (tlL t)) pt)).At x∧StP (zaa 1 a) e (lsR BC (vi 0 0) (tlL t)).len (lsR bs (zaa 0 0) (tlS b1 b2 u)).x pt∧(∀i,i<pt.len→(pt.x i).st.len≤(pt.x i).st.cap) from ⟨hAt,hP,hC⟩);clear hI h0 hl hAt hP hC hge;simp only[List.map_cons,List.map_nil,ilA,putO,Act.put,zA,zB,zC];refine wpAnyH_ready (rs:=[14]) (by kernel_rfl) (by simp) ?_;refine AllReadyH.cons rfl (fun K hK=>?_) AllReadyH.nil;rw[if_pos (zls rfl)];refine zbb 28 (.tmp 12) (.tmp 72) rfl rfl B [.slice n.ao n.len n.cap,.slice g.ao g.len g.cap,.slice (some ⟨bk,0,none⟩) 1 1] zK (by kernel_rfl) (by kernel_rfl) rfl hB rfl (by kernel_rfl) ?_;intro w8 W8;have HW:=hyd (show Below U.heap.size U w8 from W8.below HBL.out.2 HBL.out.1);have HB8:=hyd W8.blk;have HWN:=hyd (wn_of hB W8);clear W8 hB;refine hK.out _ _ HW.out (fun _=>?_);clear hK K;refine wpAnyH_done (by kernel_rfl) ?_ _;refine⟨(fun c hc=>by cases hc),?_⟩;go_wp2;go_meet
       case rel=>exact⟨B,bk,bs,b1,b2,pt,rfl,⟨H10.out.1.1.kept HW.out,H10.out.1.2.1.kept HW.out⟩,HB8.out,st_wn HWN.out (HD.out.1.1.kept (Below.next H10.out.1.1.bl HW.out)) (HD.out.1.2.kept (Below.next H10.out.1.1.bl HW.out)) (tl_cd (H10.out.2.kept HW.out) HI8.out.2) HPC.out.1,HPC.out.2.1,HPC.out.2.2⟩
    case rest =>
     obtain⟨BV,bk,bs,b1,b2,pt,rfl,hI⟩:=hcut;have H12:=hyd hI.out;clear hI H10;have k0:=H12.out.2.1.cell 0 rfl;have k1:=H12.out.2.1.cell 1 rfl;have k2:=H12.out.2.1.cell 2 rfl;have h0:Calls Tryz.prog 11 #[.agg #[.slice n.ao n.len n.cap,.slice g.ao g.len g.cap,.slice (some ⟨bk,0,none⟩) 1 1]] wc (VkP (stKl n g bk (stCf (zaa 1 a) (zaa 1 b) (botI n g) (topI n g) (lsR BC (vi 0 0) (tlL t)) pt)) wc):=zit (stKl n g bk (stCf (zaa 1 a) (zaa 1 b) (botI n g) (topI n g) (lsR BC (vi 0 0) (tlL t)) pt)) wc H12.out.2.2.1 (fun i _=>H12.out.2.2.2.2) (HD.out.2.1.kept H12.out.1.1.bl) (HD.out.2.2.kept H12.out.1.1.bl);go_wp2_with fail
     refine h0.mono ?_;clear h0;rintro _ w9 ⟨⟨k,m,x,rfl,hR⟩,hb⟩;have HV:=hyd (hR.st (st_fm (tlG HTH.out) H12.out.2.2.2.1) (zta (tlG HTH.out) H12.out.2.2.2.1));have HRF:=hyd (tl_ref (k:=bk) HTH.out H12.out.2.2.2.1);have H13:=hyd (show Tlb w n g a e t b w9∧Blk w9 BU u.vs 38 from ⟨H12.out.1.1.kept hb,H12.out.1.2.kept hb⟩);clear hb hR H12 k0 k1 k2;generalize (stCf (zaa 1 a) (zaa 1 b) (botI n g) (topI n g) (lsR BC (vi 0 0) (tlL t)) pt).ref (stKl n g bk (stCf (zaa 1 a) (zaa 1 b) (botI n g) (topI n g) (lsR BC (vi 0 0) (tlL t)) pt))=rf at *;go_upto_region 13 with fail
     have hJ:Jn g a e<n.len:=zmb HFD.out HR.out.1.1 HR.out.1.2;have l0:∀y:Gr w9,y.w.cell? ⟨w.heap.size,0,none⟩=some (.slice n.ao n.len n.cap):=fun y=>y.cell (H13.out.1.l.cell 0 rfl);have l1:∀y:Gr w9,y.w.cell? ⟨w.heap.size,1,none⟩=some (.slice g.ao g.len g.cap):=fun y=>y.cell (H13.out.1.l.cell 1 rfl);have ul:∀y:Gr w9,y.w.cell? ⟨BU,1,none⟩=some (.int .i64 (Jn g a e:Nat)):=fun y=>by
      have h:=H13.out.2.cell 1 (v:=.int .i64 u.l) rfl;rw[(zhe HTH.out.sm).2.1] at h;exact y.cell h
     have hL1:∀y:Gr w9,Calls Tryz.prog 17 #[.agg #[.slice n.ao n.len n.cap,.slice g.ao g.len g.cap],.int .i64 (Jn g a e:Nat),.int .i64 t] y.w fun r w'=>r=.returned (.bool (g.B (Jn g a e) t))∧Below y.w.heap.size y.w w':=fun y=>by
      have h:=zkp n g (Jn g a e:Nat) t y.w (HD.out.1.1.kept (Below.next H13.out.1.bl y.bl)) (HD.out.1.2.kept (Below.next H13.out.1.bl y.bl));rw[zjc HFD.out hJ HR.out.2.1] at h;exact h
     have hL2:∀y:Gr w9,Calls Tryz.prog 17 #[.agg #[.slice n.ao n.len n.cap,.slice g.ao g.len g.cap],.int .i64 (Jn g a e:Nat),.int .i64 b] y.w fun r w'=>r=.returned (.bool (g.B (Jn g a e) b))∧Below y.w.heap.size y.w w':=fun y=>by
      have h:=zkp n g (Jn g a e:Nat) b y.w (HD.out.1.1.kept (Below.next H13.out.1.bl y.bl)) (HD.out.1.2.kept (Below.next H13.out.1.bl y.bl));rw[zjc HFD.out hJ HR.out.2.2] at h;exact h
     have hNE:Nonempty (Gr w9):=⟨⟨_,Below.refl _ _⟩⟩;clear hJ;generalize g.B (Jn g a e) t=T1 at *;generalize g.B (Jn g a e) b=T2 at *;refine zah (by kernel_rfl) (by kernel_rfl) ?_;iterate 4 go_big_quiet_step (fail)
     go_big_quiet_step ((go_at_call 17;exact Calls.gr _ (hL1 _)))
     iterate 4 go_big_quiet_step (fail)
     go_big_quiet_step ((go_at_call 17;exact Calls.gr _ (hL2 _)))
     iterate 2 go_big_quiet_step (fail)
     refine wpQuiet_nil ?_;rintro y2 ⟨yg,rfl⟩;have Bg:=yg.bl;generalize yg.w=y2 at Bg ⊢;have H14:=hyd (Below.next H13.out.1.bl Bg);clear yg Bg H13 l0 l1 ul hL1 hL2 hNE HTH HI8;cases T1
     ·obtain rfl:rf=1:=by rw[HRF.out,if_pos rfl]
      obtain⟨⟨rfl,rfl⟩,rfl⟩:=HV.out.2 (by omega);clear HV HRF;cases T2
      ·go_wp2;go_ret;exact⟨rfl,H14.out⟩
      ·go_wp2;go_ret;exact⟨rfl,H14.out⟩
     cases T2
     ·obtain rfl:rf=3:=by rw[HRF.out,if_neg Bool.noConfusion,if_pos rfl]
      obtain⟨⟨rfl,rfl⟩,rfl⟩:=HV.out.2 (by omega);clear HV HRF;go_wp2;go_ret;exact⟨rfl,H14.out⟩
     ·obtain rfl:rf=-1:=by rw[HRF.out,if_neg Bool.noConfusion,if_neg Bool.noConfusion]
      obtain⟨⟨rfl,rfl⟩,rfl⟩:=HV.out.1 rfl;clear HV HRF;go_wp2;go_ret;exact⟨rfl,H14.out⟩
end
end Go.Proofs.YtfobijdkoeifjaaGreatDoor
