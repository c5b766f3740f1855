import Derived.Test.YtgioppfoceddfaaGreatP9
import Derived.Test.YtgioppfoceddfaaGreatP8
import Derived.Laws.EntriesVeiled
set_option maxRecDepth 100000
set_option maxHeartbeats 32000000
namespace Go.Proofs.YtgioppfoceddfaaGreat
section
open Go.RowKit
structure Wk (w:World)(X L:Nat):Prop where
 c0:w.cell? ⟨X,0,none⟩=some (.func (.func 104) #[] #[])
 c1:w.cell? ⟨X,1,none⟩=some (.func (.func 105) #[] #[])
 c2:w.cell? ⟨X,2,none⟩=some (.int .i64 L)
 c3:w.cell? ⟨X,3,none⟩=some (.slice none 0 0)
 f2:w.frozen? ⟨X,2,none⟩=false
theorem Wk.kept {w w':World}{X L:Nat}(h:Wk w X L)(hb:Below w.heap.size w w'):Wk w' X L :=
 ⟨up hb h.c0,up hb h.c1,up hb h.c2,up hb h.c3,by rw[hb.frozen (p:=⟨X,2,none⟩) (by have:=World.block_lt_of_cell? w _ h.c0;exact this)];exact h.f2⟩
theorem Wk.set {w:World}{X L:Nat}(h:Wk w X L)(L':Nat):Wk (w.setCell ⟨X,2,none⟩ (.int .i64 L')) X L' :=
 ⟨by rw[World.cell?_setCell_other _ _ _ _ (by simp)];exact h.c0,by rw[World.cell?_setCell_other _ _ _ _ (by simp)];exact h.c1,World.cell?_setCell_same _ _ _ h.c2,by rw[World.cell?_setCell_other _ _ _ _ (by simp)];exact h.c3,by rw[World.frozen?_setCell];exact h.f2⟩
theorem zr4 {s t:Ty}(h:hdEq s t=true):s.len=t.len:=by
 unfold hdEq at h;simp only[Bool.and_eq_true,beq_iff_eq] at h;exact h.2
def Ty.pn (t:Ty):Nat:=za6 (fun i=>(t.ps i).nodes) t.len
theorem zeu (t:Ty):t.nodes=1+t.pn:=by
 cases t <;> rfl
def PP (w0:World)(X:Nat)(s t:Ty)(L:Nat)(e:Ending)(w':World):Prop :=
 ∃r:Bool,e=.returned (.bool r)∧r=decide (∀i,i<s.len→(s.ps i).same (t.ps i)=true)∧Below w0.heap.size w0 w'∧∃L',Wk w' X L'∧(r=true→L'+s.pn=L)
theorem PP.intro {w0:World}{X:Nat}{s t:Ty}{L:Nat}{e:Ending}{w':World}(r:Bool)(h1:e=.returned (.bool r))(h2:r=decide (∀i,i<s.len→(s.ps i).same (t.ps i)=true))(h3:Below w0.heap.size w0 w')(L':Nat)(h4:Wk w' X L')(h5:r=true→L'+s.pn=L):PP w0 X s t L e w':=⟨r,h1,h2,h3,L',h4,h5⟩
theorem zrl (w0:World)(X:Nat)(hX:w0.heap.size≤X):∀(s t:Ty) (w:World) (L:Nat),s.At w0→t.At w0→s.len=t.len→s.pn≤L→L≤4000→Wk w X L→Below w0.heap.size w0 w →
  Calls Tryz.prog 131 #[.pointer (some ⟨X,0,none⟩),.slice s.ao s.len s.cap,.slice t.ao t.len t.cap] w fun e w'=>PP w0 X s t L e w':=by
 intro s
 induction s with
 | dm=>intro t w L hs;exact hs.elim
 | mk sk sl sh se sao sb so slen scap sps ih =>
  intro t w L hs ht hl hL h4000 hW hB;rcases t with _ | ⟨tk,tl,th,te,tao,tb,to',tlen,tcap,tps⟩
  ·exact ht.elim
  have hl':slen=tlen:=hl;subst hl';show Calls Tryz.prog 131 #[.pointer (some ⟨X,0,none⟩),.slice sao slen scap,.slice tao slen tcap] w fun e w'=>PP w0 X (.mk sk sl sh se sao sb so slen scap sps) (.mk tk tl th te tao tb to' slen tcap tps) L e w'
  have HL:Hid (za6 (fun i=>(sps i).nodes) slen≤L):=hL;have b1:slen≤9223372036854775807:=hs.bound;have n1:0<slen→sao=some ⟨sb,so,none⟩:=hs.nil;have n2:0<slen→tao=some ⟨tb,to',none⟩:=ht.nil;have HW:Hid (Wk w X L∧Below w0.heap.size w0 w):=⟨hW,hB⟩;clear hL hl hW hB;go_enter Tryz.func131,Tryz.ntmps131
  go_wp2;go_loopw [10] (fun i wr=>∃j l:Nat,j≤slen∧i=.int .i64 j∧(∀i,i<j→(sps i).same (tps i)=true)∧l+za6 (fun i=>(sps i).nodes) j=L∧Wk wr X l∧Below w0.heap.size w0 wr) (fun i _=>slen - (intOf i).toNat)
  case atStart=>exact⟨0,L,Nat.zero_le _,rfl,fun _ h=>absurd h (Nat.not_lt_zero _),rfl,HW.out.1,HW.out.2⟩
  case round =>
   obtain⟨j,l,hj,rfl,hdone,hl,hW,hB⟩:=hrel;clear HW;have HD:Hid ((∀i,i<j→(sps i).same (tps i)=true)∧l+za6 (fun i=>(sps i).nodes) j=L):=⟨hdone,hl⟩;clear hdone;by_cases hlt:j<slen
   ·have ij:(j:Int)<slen:=by omega
    have hsum:=zjv (fun i=>(sps i).nodes) hlt;have hnod:=zeu (sps j);have hLL:=HL.out;have hl0:1≤l:=by omega
    have HN:Hid ((sps j).pn≤l - 1∧l≤4000∧(sps j).nodes=1+(sps j).pn):=⟨by omega,by omega,hnod⟩;clear hsum hnod hLL hl;have a1:=n1 (by omega);have a2:=n2 (by omega);subst a1 a2;have e0:((l:Int)==0)=false:=by simp;omega
    have k1:=hW.c2;have kf:=hW.f2;have i1:(1:Int)≤l:=by omega
    have i2:(l:Int)≤4000:=by have:=HN.out.2.1;omega
    have W2:Wk (wr.setCell ⟨X,2,none⟩ (.int .i64 ((l:Int) - 1))) X (l - 1):=by
     have:=hW.set (l - 1)
     rwa [show ((l - 1:Nat):Int)=(l:Int) - 1 by omega] at this
    have B2:Below w0.heap.size w0 (wr.setCell ⟨X,2,none⟩ (.int .i64 ((l:Int) - 1))):=hB.setCell hX _;clear hW hB;have C:C5 _ sb (so+j*5) (sps j):=(hs.kept B2).cells hlt;have D:C5 _ tb (to'+j*5) (tps j):=(ht.kept B2).cells hlt;have P:(sps j).At w0:=hs.part hlt;have R:(tps j).At w0:=ht.part hlt;go_wp2;generalize wr.setCell ⟨X,2,none⟩ (.int .i64 ((l:Int) - 1))=w2 at *;cases hq:hdEq (sps j) (tps j)
    ·have k0:=fun x=>Gr.cell x W2.c1;have p0:=fun x=>Gr.cell x C.c0;have p1:=fun x=>Gr.cell x C.c1;have p2:=fun x=>Gr.cell x C.c2;have p3:=fun x=>Gr.cell x C.c3;have p4:=fun x=>Gr.cell x C.c4;have q0:=fun x=>Gr.cell x D.c0;have q1:=fun x=>Gr.cell x D.c1;have q2:=fun x=>Gr.cell x D.c2;have q3:=fun x=>Gr.cell x D.c3;have q4:=fun x=>Gr.cell x D.c4;have hNE:Nonempty (Gr w2):=⟨⟨_,Below.refl _ _⟩⟩;have H1:∀u,Below w0.heap.size w0 u→Calls Tryz.prog 105 #[.agg #[.int .i64 (sps j).k,.int .i64 (sps j).l,.slice (sps j).ao (sps j).len (sps j).cap,.int .i64 (sps j).h,.int .i64 (sps j).e],.agg #[.int .i64 (tps j).k,.int .i64 (tps j).l,.slice (tps j).ao (tps j).len (tps j).cap,.int .i64 (tps j).h,.int .i64 (tps j).e]] u fun e w'=>e=.returned (.bool false)∧Below u.heap.size u w':=fun u hu=>by
      have:=zh6 (sps j) (tps j) u (P.kept hu) (R.kept hu)
      rwa [hq] at this
     have HQ:Hid ((sps j).same (tps j)=false):=by show (sps j).same (tps j)=false;rw[zfb,hq];rfl
     clear hq;refine zag (by kernel_rfl) (by kernel_rfl) ?_;repeat (first | go_big_quiet_step ((go_at_call 105;exact Calls.gr _ (H1 _ (Below.next B2 (Gr.bl _))))))
     refine wpQuiet_nil ?_;rintro w4 ⟨x4,rfl⟩;have B4:=x4.bl;generalize x4.w=w4 at B4 ⊢;clear x4 k0 p0 p1 p2 p3 p4 q0 q1 q2 q3 q4 hNE C D P R H1;go_wp2;go_ret;exact PP.intro false rfl (decide_eq_false (fun hh=>absurd (HQ.out.symm.trans (hh j hlt)) (by decide))).symm (Below.next B2 B4) (l - 1) (W2.kept B4) (fun h=>Bool.noConfusion h)
    ·have H1:∀u,Below w0.heap.size w0 u→Calls Tryz.prog 105 #[.agg #[.int .i64 (sps j).k,.int .i64 (sps j).l,.slice (sps j).ao (sps j).len (sps j).cap,.int .i64 (sps j).h,.int .i64 (sps j).e],.agg #[.int .i64 (tps j).k,.int .i64 (tps j).l,.slice (tps j).ao (tps j).len (tps j).cap,.int .i64 (tps j).h,.int .i64 (tps j).e]] u fun e w'=>e=.returned (.bool true)∧Below u.heap.size u w':=fun u hu=>by
      have:=zh6 (sps j) (tps j) u (P.kept hu) (R.kept hu)
      rwa [hq] at this
     have H2:=fun u (hu:Wk u X (l - 1)) (hv:Below w0.heap.size w0 u)=>ih j (tps j) u (l - 1) P R (zr4 hq) HN.out.1 (by have:=HN.out.2.1;omega) hu hv
     have HQ:Hid ((sps j).same (tps j)=decide (∀i,i<(sps j).len→((sps j).ps i).same ((tps j).ps i)=true)):=by show (sps j).same (tps j)=_;rw[zfb,hq];rfl
     clear hq;have k0:=fun x=>Gr.cell x W2.c1;have k9:=fun x=>Gr.cell x W2.c0;have p0:=fun x=>Gr.cell x C.c0;have p1:=fun x=>Gr.cell x C.c1;have p2:=fun x=>Gr.cell x C.c2;have p3:=fun x=>Gr.cell x C.c3;have p4:=fun x=>Gr.cell x C.c4;have q0:=fun x=>Gr.cell x D.c0;have q1:=fun x=>Gr.cell x D.c1;have q2:=fun x=>Gr.cell x D.c2;have q3:=fun x=>Gr.cell x D.c3;have q4:=fun x=>Gr.cell x D.c4;have hNE:Nonempty (Gr w2):=⟨⟨_,Below.refl _ _⟩⟩;refine zah 34 (by kernel_rfl) (by kernel_rfl) ?_;simp only[List.take,List.drop];repeat (first | go_big_quiet_step ((first | (go_at_call 105;exact Calls.gr _ (H1 _ (Below.next B2 (Gr.bl _)))) | (go_at_call 104;first | with_reducible exact Calls.gr _ (zec (sps j) _) | with_reducible exact Calls.gr _ (zec (tps j) _)))))
     refine wpQuiet_nil ?_;rintro w4 ⟨x4,rfl⟩;have B4:=x4.bl;generalize x4.w=w4 at B4 ⊢;clear x4 k0 k9 p0 p1 p2 p3 p4 q0 q1 q2 q3 q4 hNE C D P R H1;have H3:=H2 w4 (W2.kept B4) (Below.next B2 B4);clear H2 W2 B2 B4;go_wp2_with fail
     refine H3.mono ?_;intro e w6 hPP;obtain⟨r,rfl,hr,B6,L6,W6,hr6⟩:=hPP;have HR:Hid (r=decide (∀i,i<(sps j).len→((sps j).ps i).same ((tps j).ps i)=true)∧(r=true→L6+(sps j).pn=l - 1)):=⟨hr,hr6⟩;clear hr hr6 H3;cases r
     ·go_wp2;go_ret;exact PP.intro false rfl (decide_eq_false (fun hh=>absurd ((HR.out.1.trans HQ.out.symm).trans (hh j hlt)) (by decide))).symm B6 L6 W6 (fun h=>Bool.noConfusion h)
     ·go_wp2;go_roundw
      case rel=>exact⟨j+1,L6,by omega,by go_num,fun i hi=>(by
        by_cases e:i=j
        ·subst e;rw[HQ.out,←HR.out.1]
        ·exact HD.out.1 i (by omega)),by have h1:=HD.out.2;have h2:=HR.out.2 (by simp);have h3:=HN.out;simp only[za6];omega,W6,B6⟩
      case measure=>simp[intOf];omega
   ·have e:slen=j:=by omega
    subst e;have dl:¬(slen:Int)<slen:=by omega
    go_wp2;go_ret;exact PP.intro true rfl (decide_eq_true HD.out.1).symm hB l hW (fun _=>HD.out.2)
theorem wk_new (w:World):Wk (w.alloc (.cells #[.func (.func 104) #[] #[],.func (.func 105) #[] #[],.int .i64 4000,.slice none 0 0,.map none] 153)) w.heap.size 4000:=by
 constructor <;> simp
theorem zk6 (s t:Ty)(w:World)(hs:s.At w)(ht:t.At w)(hL:s.pn≤4000) :
  Calls Tryz.prog 103 #[.agg #[.int .i64 s.k,.int .i64 s.l,.slice s.ao s.len s.cap,.int .i64 s.h,.int .i64 s.e],.agg #[.int .i64 t.k,.int .i64 t.l,.slice t.ao t.len t.cap,.int .i64 t.h,.int .i64 t.e],.func (.func 104) #[] #[],.func (.func 105) #[] #[]] w fun e w'=>e=.returned (.bool (s.same t))∧Below w.heap.size w w':=by
 obtain⟨X0,Y0,B0⟩:=zhj w s t;have hs0:=hs.kept B0;have ht0:=ht.kept B0;have K0:=wk_new ((w.alloc (tyO s)).alloc (tyO t));have BK:=zac ((w.alloc (tyO s)).alloc (tyO t)) (.cells #[.func (.func 104) #[] #[],.func (.func 105) #[] #[],.int .i64 4000,.slice none 0 0,.map none] 153);have X1:=X0.kept BK;have Y1:=Y0.kept BK;have sz:((w.alloc (tyO s)).alloc (tyO t)).heap.size=w.heap.size+2:=by rw[alloc_size,alloc_size]
 have HP:=fun u (L:Nat) (hu:Wk u ((w.alloc (tyO s)).alloc (tyO t)).heap.size L) (h1:s.pn≤L) (h2:L≤4000) (h3:s.len=t.len) (hv:Below ((w.alloc (tyO s)).alloc (tyO t)).heap.size ((w.alloc (tyO s)).alloc (tyO t)) u)=>zrl _ _ (Nat.le_refl _) s t u L hs0 ht0 h3 h1 h2 hu hv;rw[sz] at HP K0;unfold tyO at *;have HB:Hid (Below w.heap.size w ((w.alloc (.cells #[.int .i64 s.k,.int .i64 s.l,.slice s.ao s.len s.cap,.int .i64 s.h,.int .i64 s.e] 38)).alloc (.cells #[.int .i64 t.k,.int .i64 t.l,.slice t.ao t.len t.cap,.int .i64 t.h,.int .i64 t.e] 38))):=B0;have HZ:Hid (((w.alloc (.cells #[.int .i64 s.k,.int .i64 s.l,.slice s.ao s.len s.cap,.int .i64 s.h,.int .i64 s.e] 38)).alloc (.cells #[.int .i64 t.k,.int .i64 t.l,.slice t.ao t.len t.cap,.int .i64 t.h,.int .i64 t.e] 38)).heap.size=w.heap.size+2):=sz;clear B0 sz;go_enter Tryz.func103,Tryz.ntmps103
 go_wp2;generalize ((w.alloc (.cells #[.int .i64 s.k,.int .i64 s.l,.slice s.ao s.len s.cap,.int .i64 s.h,.int .i64 s.e] 38)).alloc (.cells #[.int .i64 t.k,.int .i64 t.l,.slice t.ao t.len t.cap,.int .i64 t.h,.int .i64 t.e] 38))=w0 at *;generalize w0.alloc (.cells #[.func (.func 104) #[] #[],.func (.func 105) #[] #[],.int .i64 4000,.slice none 0 0,.map none] 153)=w2 at *;have H1:∀u,Below w0.heap.size w0 u→Calls Tryz.prog 105 #[.agg #[.int .i64 s.k,.int .i64 s.l,.slice s.ao s.len s.cap,.int .i64 s.h,.int .i64 s.e],.agg #[.int .i64 t.k,.int .i64 t.l,.slice t.ao t.len t.cap,.int .i64 t.h,.int .i64 t.e]] u fun e w'=>e=.returned (.bool (hdEq s t))∧Below u.heap.size u w':=fun u hu=>zh6 s t u (hs0.kept hu) (ht0.kept hu);have x0:=fun q=>Gr.cell q X1.c0;have x1:=fun q=>Gr.cell q X1.c1;have x2:=fun q=>Gr.cell q X1.c2;have x3:=fun q=>Gr.cell q X1.c3;have x4:=fun q=>Gr.cell q X1.c4;have y0:=fun q=>Gr.cell q Y1.c0;have y1:=fun q=>Gr.cell q Y1.c1;have y2:=fun q=>Gr.cell q Y1.c2;have y3:=fun q=>Gr.cell q Y1.c3;have y4:=fun q=>Gr.cell q Y1.c4;have hNE:Nonempty (Gr w2):=⟨⟨_,Below.refl _ _⟩⟩;clear X0 Y0 X1 Y1;cases hq:hdEq s t
 ·have HQ:Hid (s.same t=false):=by show s.same t=false;rw[zfb,hq];rfl
  rw[hq] at H1;clear hq HP;refine zag (by kernel_rfl) (by kernel_rfl) ?_;repeat (first | go_big_quiet_step ((go_at_call 105;exact Calls.gr _ (H1 _ (Below.next BK (Gr.bl _))))))
  refine wpQuiet_nil ?_;rintro w4 ⟨q4,rfl⟩;have B4:=q4.bl;generalize q4.w=w4 at B4 ⊢;clear q4 x0 x1 x2 x3 x4 y0 y1 y2 y3 y4 hNE H1;go_wp2;go_ret;exact⟨zab HQ.out.symm,Below.next HB.out (Below.next BK B4)⟩
 ·have HQ:Hid (s.same t=decide (∀i,i<s.len→(s.ps i).same (t.ps i)=true)):=by show s.same t=_;rw[zfb,hq];rfl
  have hl:=zr4 hq;rw[hq] at H1;have hP:=fun (w5:World) (B5:Below w2.heap.size w2 w5)=>HP w5 4000 (K0.kept B5) hL (Nat.le_refl _) hl ((Below.next BK B5).mono (Nat.le_of_eq HZ.out.symm));clear hl hq HP K0;refine zah 12 (by kernel_rfl) (by kernel_rfl) ?_;simp only[List.take,List.drop];repeat (first | go_big_quiet_step ((first | (go_at_call 105;exact Calls.gr _ (H1 _ (Below.next BK (Gr.bl _)))) | (go_at_call 104;first | with_reducible exact Calls.gr _ (zec s _) | with_reducible exact Calls.gr _ (zec t _)))))
  refine wpQuiet_nil ?_;rintro w4 ⟨q4,rfl⟩;have B4:=q4.bl;generalize q4.w=w4 at B4 ⊢;clear q4 x0 x1 x2 x3 x4 y0 y1 y2 y3 y4 hNE H1;have H3:=hP w4 B4;clear hP;go_wp2_with fail
  refine H3.mono ?_;intro e w6 hPP;obtain⟨r,rfl,hr,B6,L6,W6,hr6⟩:=hPP;have HR:Hid (r=decide (∀i,i<s.len→(s.ps i).same (t.ps i)=true)):=hr;clear hr hr6 H3;cases r
  ·go_wp2;go_ret;exact⟨zab (HR.out.trans HQ.out.symm),Below.next HB.out B6⟩
  ·have k2:=W6.c3;go_wp2;go_loopw [10] (fun _ wr=>wr=w6) (fun _ _=>0)
   case atStart=>rfl
   case round =>
    subst hrel;go_wp2;go_ret;exact⟨zab (HR.out.trans HQ.out.symm),Below.next HB.out B6⟩
theorem zih (s t:Ty)(w:World)(hs:s.At w)(ht:t.At w)(hL:s.pn≤1000) :
  Calls Tryz.prog 67 #[.agg #[.int .i64 s.k,.int .i64 s.l,.slice s.ao s.len s.cap,.int .i64 s.h,.int .i64 s.e],.agg #[.int .i64 t.k,.int .i64 t.l,.slice t.ao t.len t.cap,.int .i64 t.h,.int .i64 t.e]] w fun e w'=>e=.returned (.bool (s.same t))∧Below w.heap.size w w':=by
 obtain⟨X0,Y0,B0⟩:=zhj w s t;have h:=zk6 s t _ (hs.kept B0) (ht.kept B0) (Nat.le_trans hL (by decide));unfold tyO at *;go_enter Tryz.func67,Tryz.ntmps67
 go_wp2_with fail
 refine h.mono ?_;rintro e w5 ⟨rfl,hb5⟩;go_wp2;go_ret;exact⟨rfl,Below.next B0 hb5⟩
def zdw (N gb go gcap:Nat)(gA:Nat→Option Addr)(gL gC gAB gAO:Nat→Nat)(gB:Nat→Nat→Bool):Grid:=⟨some ⟨gb,go,none⟩,gb,go,N,gcap,gA,gL,gC,gAB,gAO,gB⟩
theorem zd3 {n:Strs}{gb go gcap:Nat}{gA:Nat→Option Addr}{gL gC gAB gAO:Nat→Nat}{gB:Nat→Nat→Bool}(hF:zaf n (zdw n.len gb go gcap gA gL gC gAB gAO gB)=true){w:World}(hg:(zdw n.len gb go gcap gA gL gC gAB gAO gB).At w){x y:Nat}(hx:x<n.len)(hy:y<n.len) :
  w.cell? ⟨gb,go+x,none⟩=some (.slice (some ⟨gAB x,gAO x,none⟩) n.len (gC x))∧w.cell? ⟨gAB x,gAO x+y,none⟩=some (.bool (gB x y)):=by
 unfold zaf at hF;rw[Bool.and_eq_true,Bool.and_eq_true] at hF;obtain⟨e1,e2⟩:=zea hF.1.2;have hL:gL x=n.len:=e2 x hx;have h1:=hg.row x hx;have h2:gA x=some ⟨gAB x,gAO x,none⟩:=hg.adr x hx (by show 0<gL x;omega)
 have h3:=hg.cell x hx y (by show y<gL x;omega)
 refine⟨?_,h3⟩;have h1':w.cell? ⟨gb,go+x,none⟩=some (.slice (gA x) (gL x) (gC x)):=h1;rw[h1',h2,hL]
theorem zm8 (n:Strs)(gb go gcap:Nat)(gA:Nat→Option Addr)(gL gC gAB gAO:Nat→Nat)(gB:Nat→Nat→Bool)(hF:Hid (zaf n (zdw n.len gb go gcap gA gL gC gAB gAO gB)=true))(a b:Int)(w:World)(hg:(zdw n.len gb go gcap gA gL gC gAB gAO gB).At w)(ha:a=-1∨inR n.len a=true)(hb:b=-1∨inR n.len b=true) :
  Calls Tryz.prog 125 #[.agg #[.slice n.ao n.len n.cap,.slice (some ⟨gb,go,none⟩) n.len gcap],.int .i64 a,.int .i64 b] w fun e w'=>e=.returned (.bool (excB gB a b))∧Below w.heap.size w w':=by
 have B0:=zac w (.cells #[.slice n.ao n.len n.cap,.slice (some ⟨gb,go,none⟩) n.len gcap] 25);have hg2:=hg.kept B0;have HE:Hid (excB gB a b=((a==-1)||((b != -1)&&gB a.toNat b.toNat))):=rfl;cases h1:(a==-1)
 ·obtain⟨x,hx,hx1⟩:∃k:Nat,a=k∧k<n.len:=zbv (by
   rcases ha with h | h
   ·rw[h] at h1;cases h1
   ·exact h)
  cases h2:(b != -1)
  ·have HV:Hid (excB gB a b=false):=by show excB gB a b=false;rw[HE.out,h1,h2];rfl
   clear HE ha hb hx;go_enter Tryz.func125,Tryz.ntmps125
   go_wp2;go_ret;exact⟨zab HV.out.symm,B0⟩
  ·obtain⟨y,hy,hy1⟩:∃k:Nat,b=k∧k<n.len:=zbv (by
    rcases hb with h | h
    ·rw[h] at h2;cases h2
    ·exact h)
   subst hx hy;have HV:Hid (excB gB x y=gB x y):=by show excB gB x y=gB x y;rw[HE.out,h1,h2];simp
   obtain⟨c0,c1⟩:=zd3 hF.out hg2 hx1 hy1;have ix:(x:Int)<n.len:=by omega
   have iy:(y:Int)<n.len:=by omega
   clear HE ha hb;go_enter Tryz.func125,Tryz.ntmps125
   go_wp2;go_ret;exact⟨zab HV.out.symm,B0⟩
 ·have HV:Hid (excB gB a b=true):=by show excB gB a b=true;rw[HE.out,h1];rfl
  clear HE ha hb;go_enter Tryz.func125,Tryz.ntmps125
  go_wp2;go_ret;exact⟨zab HV.out.symm,B0⟩
end
end Go.Proofs.YtgioppfoceddfaaGreat
