import Derived.Test.YtgioppfoceddfaaGreatP13
import Derived.Test.YtgioppfoceddfaaGreatP10
import Derived.Deep.MidRow
import Derived.Test.YtgioppfoceddfaaGreatP3
set_option maxRecDepth 100000
set_option maxHeartbeats 32000000
namespace Go.Proofs.YtgioppfoceddfaaGreat
section
open Go.RowKit
def Ty.setL (j:Int):Ty→Ty
 | .dm=>.dm
 | .mk k _ h e ao b o len cap ps=>.mk k j h e ao b o len cap ps
theorem zlc {w:World}{j:Int}:∀{t:Ty},t.At w→(t.setL j).At w
 | .dm,h=>h
 | .mk _ _ _ _ _ _ _ _ _ _,h=>h
theorem zmv {Q:Nat→Prop}{j:Int}:∀{t:Ty},t.Blk Q→(t.setL j).Blk Q
 | .dm,h=>h
 | .mk _ _ _ _ _ _ _ _ _ _,h=>h
theorem zsc {w:World}{j:Int}:∀{t:Ty},t.At w→(t.setL j).k=t.k∧(t.setL j).l=j∧(t.setL j).ao=t.ao∧(t.setL j).len=t.len∧(t.setL j).cap=t.cap∧(t.setL j).h=t.h∧(t.setL j).e=t.e
 | .dm,h=>h.elim
 | .mk _ _ _ _ _ _ _ _ _ _,_=>⟨rfl,rfl,rfl,rfl,rfl,rfl,rfl⟩
theorem zr3 {w w':World}{j:Int}:∀{s t:Ty},s.At w→t.At w'→s.same t=true→(s.setL j).same (t.setL j)=true
 | .dm,_,h,_,_=>h.elim
 | .mk _ _ _ _ _ _ _ _ _ _,.dm,_,h,_=>h.elim
 | .mk _ _ _ _ _ _ _ _ _ _,.mk _ _ _ _ _ _ _ _ _ _,_,_,h=>by
  rw[zbb] at h ⊢;exact⟨⟨h.1.1,rfl,h.1.2.2⟩,h.2⟩
theorem Bx.agree {w w':World}{B:Nat}{t:Ty}(h:Bx w B t)(e:w'.heap[B]?=w.heap[B]?):Bx w' B t :=
 ⟨(World.cell?_of_block (w:=w) e).trans h.c0,(World.cell?_of_block (w:=w) e).trans h.c1,(World.cell?_of_block (w:=w) e).trans h.c2,(World.cell?_of_block (w:=w) e).trans h.c3,(World.cell?_of_block (w:=w) e).trans h.c4⟩
def zai (n:Strs)(g:Grid)(t:Ty)(a:Int):Ty:=if (okB n g t&&inR n.len a)=true then t.setL (zau n g t.l a) else leafT 0 0
def RP (w:World)(r:Ty)(e:Ending)(w':World):Prop :=
 ∃u:Ty,e=.returned (.agg #[.int .i64 u.k,.int .i64 u.l,.slice u.ao u.len u.cap,.int .i64 u.h,.int .i64 u.e])∧u.At w'∧u.Blk (fun b=>w.heap.size≤b)∧u.same r=true∧Below w.heap.size w w'
theorem RP.intro {w:World}{r:Ty}{e:Ending}{w':World}(u:Ty)(h1:e=.returned (.agg #[.int .i64 u.k,.int .i64 u.l,.slice u.ao u.len u.cap,.int .i64 u.h,.int .i64 u.e]))(h2:u.At w')(h3:u.Blk (fun b=>w.heap.size≤b))(h4:u.same r=true)(h5:Below w.heap.size w w'):RP w r e w':=⟨u,h1,h2,h3,h4,h5⟩
structure RBox (w w0:World)(n:Strs)(g:Grid)(t:Ty):Prop where
 bl:Below w.heap.size w w0
 sz:w.heap.size+3≤w0.heap.size
 l:Bl w0 w.heap.size n g
 x:Bx w0 (w.heap.size+1) t
 fx:∀i,i<5→w0.frozen? ⟨w.heap.size+1,i,none⟩=false
 r:Bx w0 (w.heap.size+2) (leafT 0 0)
 fr:∀i,i<5→w0.frozen? ⟨w.heap.size+2,i,none⟩=false
theorem RBox.step {w w0 w1:World}{n:Strs}{g:Grid}{t:Ty}(h:RBox w w0 n g t)(hb:Below w0.heap.size w0 w1):RBox w w1 n g t :=
 ⟨h.bl.trans (hb.mono (by have:=h.sz;omega)),Nat.le_trans h.sz hb.size,h.l.kept hb,h.x.kept hb,fun i hi=>(hb.frozen (p:=⟨w.heap.size+1,i,none⟩) (by have:=h.sz;show w.heap.size+1<_;omega)).trans (h.fx i hi),h.r.kept hb,fun i hi=>(hb.frozen (p:=⟨w.heap.size+2,i,none⟩) (by have:=h.sz;show w.heap.size+2<_;omega)).trans (h.fr i hi)⟩
theorem zq5 (w:World)(c:Array Value)(t:TypeId)(i:Nat):(w.alloc (.cells c t)).frozen? ⟨w.heap.size,i,none⟩=false:=by simp
theorem znd (w:World)(n:Strs)(g:Grid)(t:Ty):RBox w (((w.alloc (latO n g)).alloc (tyO t)).alloc (.cells #[.int .i64 0,.int .i64 0,.slice none 0 0,.int .i64 0,.int .i64 0] 38)) n g t:=by
 obtain⟨L0,X0,B0⟩:=zet w n g t;have ba:=zac ((w.alloc (latO n g)).alloc (tyO t)) (.cells #[.int .i64 0,.int .i64 0,.slice none 0 0,.int .i64 0,.int .i64 0] 38);have e1:(w.alloc (latO n g)).heap.size=w.heap.size+1:=alloc_size _ _;have e2:((w.alloc (latO n g)).alloc (tyO t)).heap.size=w.heap.size+2:=by rw[alloc_size,e1]
 refine⟨Below.next B0 ba,by rw[alloc_size,e2];omega,L0.kept ba,X0.kept ba,fun i hi=>?_,?_,fun i hi=>?_⟩
 ·rw[ba.frozen (p:=⟨w.heap.size+1,i,none⟩) (by rw[e2];exact Nat.lt_succ_self _),←e1]
  simp[tyO]
 ·rw[←e2];exact Bx.new _ (leafT 0 0)
 ·rw[←e2];exact zq5 _ _ _ _
theorem zur {n:Strs}{g:Grid}{a b:Int}(h:inR n.len b=false):zau n g a b=-1:=by
 unfold zau;rw[if_neg];intro hh;rw[Bool.and_eq_true,Bool.and_eq_true] at hh;have:labB n b=inR n.len b:=rfl;rw[this,h] at hh;exact Bool.noConfusion hh.1.2
theorem ztt {n:Strs}{g:Grid}{t:Ty}{b:Int}(hk:okB n g t=true)(h:inR n.len b=true):(zau n g t.l b==-1)=false:=by
 unfold okB at hk;rw[Bool.and_eq_true] at hk;obtain⟨x,hx,hx1⟩:=(zfx hk.2).lab;obtain⟨y,hy,hy1⟩:=zbv h;rw[hx,hy,zd2 hk.1 hx1 hy1];simp
theorem ztw (n:Strs)(g:Grid)(t:Ty)(a:Int)(w:World)(hn:n.At w)(hg:g.At w)(ht:t.At w) :
  Calls Tryz.prog 94 #[.agg #[.slice n.ao n.len n.cap,.slice g.ao g.len g.cap],.agg #[.int .i64 t.k,.int .i64 t.l,.slice t.ao t.len t.cap,.int .i64 t.h,.int .i64 t.e],.int .i64 a] w fun e w'=>RP w (zai n g t a) e w':=by
 have K0:=znd w n g t;unfold latO tyO at K0;have l0:=K0.l.c0;have l1:=K0.l.c1;have x1:=K0.x.c1;go_enter Tryz.func94,Tryz.ntmps94
 go_wp2_with fail
 refine (zf9 n g t.l a _ (hn.kept K0.bl) (hg.kept K0.bl)).mono ?_;rintro e w1 ⟨rfl,hb1⟩;have K1:=K0.step hb1;clear K0 hb1 l0 l1 x1;have HN:Hid (n.At w∧g.At w∧t.At w):=⟨hn,hg,ht⟩;clear hn hg ht;cases hj:(zau n g t.l a==-1)
 ·have HJ:Hid ((zau n g t.l a==-1)=false):=hj;have l0:=K1.l.c0;have l1:=K1.l.c1;have x0:=K1.x.c0;have x1:=K1.x.c1;have x2:=K1.x.c2;have x3:=K1.x.c3;have x4:=K1.x.c4;go_wp2_with fail
  refine (zgs n g t _ (HN.out.1.kept K1.bl) (HN.out.2.1.kept K1.bl) (HN.out.2.2.kept K1.bl)).mono ?_;rintro e w2 ⟨rfl,hb2⟩;have K2:=K1.step hb2;clear K1 hb2 l0 l1 x0 x1 x2 x3 x4;cases hok:okB n g t
  ·have HE:Hid (zai n g t a=leafT 0 0):=by show zai n g t a=_;unfold zai;rw[hok];rfl
   clear hj;have RB:=K2.r;have RF:=K2.fr;obtain⟨e0,e1,e2,e3,e4⟩:=zdb (.int .i64 0) (.int .i64 0) (.slice none 0 0) (.int .i64 0) (.int .i64 0) RB RF;go_wp2_with (refine zcb rfl rfl _ _ rfl (w.heap.size+2) _ _ _ _ _ rfl rfl rfl rfl rfl rfl rfl RB RF ?_)
   exact bodyPost_ret (v:=.agg #[.int .i64 0,.int .i64 0,.slice none 0 0,.int .i64 0,.int .i64 0]) (by simp[results,Tryz.results94,go_sem,e0,e1,e2,e3,e4]) rfl (RP.intro (leafT 0 0) rfl (zay _ _ _) ⟨fun h=>absurd h (Nat.lt_irrefl _),fun _ h=>absurd h (Nat.not_lt_zero _)⟩ (by rw[HE.out];exact same_refl _) (zdj (by omega) K2.bl _ _ _ _ _))
  ·have HK:Hid (okB n g t=true):=hok;have HE:Hid (zai n g t a=t.setL (zau n g t.l a)):=by
    show zai n g t a=_
    unfold zai;cases hi:inR n.len a
    ·rw[zur hi] at hj;cases hj
    ·rw[hok];rfl
   have hnod:t.nodes≤1000:=by
    unfold okB at hok;rw[Bool.and_eq_true] at hok;have:=(zeq hok.2).2;omega
   have hC:=zpx t w2 hnod (HN.out.2.2.kept K2.bl);clear hj hok hnod;generalize zau n g t.l a=jn at HE HJ ⊢;have x0:=K2.x.c0;have x1:=K2.x.c1;have x2:=K2.x.c2;have x3:=K2.x.c3;have x4:=K2.x.c4;go_wp2_with fail
   refine hC.mono ?_;intro e w3 hCP;obtain⟨u,rfl,uA,uB,uS,hb3⟩:=hCP;have K3:=K2.step hb3;have HU:Hid (u.At w3∧u.Blk (fun b=>w.heap.size+3≤b)∧u.same t=true):=⟨uA,uB.mono (fun b hq=>Nat.le_trans K2.sz hq),uS⟩;clear hC K2 hb3 uA uB uS x0 x1 x2 x3 x4;dsimp only
   rename_i K a1
   refine a1 _ _ ?_;refine zcb rfl rfl _ _ rfl (w.heap.size+1) _ _ _ _ _ rfl rfl rfl rfl rfl rfl rfl K3.x K3.fx ?_;obtain⟨p0,p1,p2,p3,p4⟩:=zdb (.int .i64 u.k) (.int .i64 u.l) (.slice u.ao u.len u.cap) (.int .i64 u.h) (.int .i64 u.e) K3.x K3.fx;have pf:∀a,(World.put5 w3 (w.heap.size+1) (.int .i64 u.k) (.int .i64 u.l) (.slice u.ao u.len u.cap) (.int .i64 u.h) (.int .i64 u.e)).frozen? a=w3.frozen? a:=fun a=>zoi _ _ _ _ _ _ _ _;have ph:∀b,b≠w.heap.size+1→(World.put5 w3 (w.heap.size+1) (.int .i64 u.k) (.int .i64 u.l) (.slice u.ao u.len u.cap) (.int .i64 u.h) (.int .i64 u.e)).heap[b]?=w3.heap[b]?:=fun b hb=>zli _ _ _ _ _ _ _ hb;have pb:Below w.heap.size w (World.put5 w3 (w.heap.size+1) (.int .i64 u.k) (.int .i64 u.l) (.slice u.ao u.len u.cap) (.int .i64 u.h) (.int .i64 u.e)):=zdj (by omega) K3.bl _ _ _ _ _;generalize World.put5 w3 (w.heap.size+1) (.int .i64 u.k) (.int .i64 u.l) (.slice u.ao u.len u.cap) (.int .i64 u.h) (.int .i64 u.e)=X at p0 p1 p2 p3 p4 pf ph pb ⊢;have hz:(X.setCell ⟨w.heap.size+1,1,none⟩ (.int .i64 jn)).heap[w.heap.size+2]?=w3.heap[w.heap.size+2]?:=by
    rw[Below.heap_setCell _ _ _ _ (by show w.heap.size+2≠w.heap.size+1;omega),ph _ (by omega)]
   have RB:Bx (X.setCell ⟨w.heap.size+1,1,none⟩ (.int .i64 jn)) (w.heap.size+2) (leafT 0 0):=K3.r.agree hz;have RF:∀i,i<5→(X.setCell ⟨w.heap.size+1,1,none⟩ (.int .i64 jn)).frozen? ⟨w.heap.size+2,i,none⟩=false:=fun i hi=>by rw[World.frozen?_setCell,pf];exact K3.fr i hi
   have HB:Hid (Below w.heap.size w (World.put5 (X.setCell ⟨w.heap.size+1,1,none⟩ (.int .i64 jn)) (w.heap.size+2) (.int .i64 u.k) (.int .i64 jn) (.slice u.ao u.len u.cap) (.int .i64 u.h) (.int .i64 u.e))):=zdj (by omega) (pb.setCell (by show w.heap.size≤w.heap.size+1;omega) _) _ _ _ _ _
   have HA:Hid ((u.setL jn).At (World.put5 (X.setCell ⟨w.heap.size+1,1,none⟩ (.int .i64 jn)) (w.heap.size+2) (.int .i64 u.k) (.int .i64 jn) (.slice u.ao u.len u.cap) (.int .i64 u.h) (.int .i64 u.e))) :=
    zlc (Ty.At.agree (Q:=fun b=>w.heap.size+3≤b) (fun b hq=>by rw[zli _ _ _ _ _ _ _ (by omega),Below.heap_setCell _ _ _ _ (by show b≠w.heap.size+1;omega),ph _ (by omega)]) HU.out.1 HU.out.2.1)
   have pf1:X.frozen? ⟨w.heap.size+1,1,none⟩=false:=(pf _).trans (K3.fx 1 (by omega));have HR:Hid (Bx (X.setCell ⟨w.heap.size+1,1,none⟩ (.int .i64 jn)) (w.heap.size+2) (leafT 0 0)∧∀i,i<5→(X.setCell ⟨w.heap.size+1,1,none⟩ (.int .i64 jn)).frozen? ⟨w.heap.size+2,i,none⟩=false):=⟨RB,RF⟩;clear hz K3 pf ph pb RB RF;go_wp2_with (refine zcb rfl rfl _ _ rfl (w.heap.size+2) _ _ _ _ _ rfl rfl rfl rfl rfl rfl rfl HR.out.1 HR.out.2 ?_)
   obtain⟨e0,e1,e2,e3,e4⟩:=zdb (.int .i64 u.k) (.int .i64 jn) (.slice u.ao u.len u.cap) (.int .i64 u.h) (.int .i64 u.e) HR.out.1 HR.out.2;have hv:=zsc (j:=jn) HU.out.1;exact bodyPost_ret (v:=.agg #[.int .i64 u.k,.int .i64 jn,.slice u.ao u.len u.cap,.int .i64 u.h,.int .i64 u.e]) (by simp[results,Tryz.results94,go_sem,e0,e1,e2,e3,e4]) rfl (RP.intro (u.setL jn) (by rw[hv.1,hv.2.1,hv.2.2.1,hv.2.2.2.1,hv.2.2.2.2.1,hv.2.2.2.2.2.1,hv.2.2.2.2.2.2]) HA.out (zmv (HU.out.2.1.mono (fun b hq=>by omega))) (by rw[HE.out];exact zr3 HU.out.1 HN.out.2.2 HU.out.2.2) HB.out)
 ·have HE:Hid (zai n g t a=leafT 0 0):=by
   show zai n g t a=_
   unfold zai;cases hok:(okB n g t&&inR n.len a)
   ·rfl
   ·rw[Bool.and_eq_true] at hok;rw[ztt hok.1 hok.2] at hj;cases hj
  have RB:=K1.r;have RF:=K1.fr;obtain⟨e0,e1,e2,e3,e4⟩:=zdb (.int .i64 0) (.int .i64 0) (.slice none 0 0) (.int .i64 0) (.int .i64 0) RB RF;go_wp2_with (refine zcb rfl rfl _ _ rfl (w.heap.size+2) _ _ _ _ _ rfl rfl rfl rfl rfl rfl rfl RB RF ?_)
  exact bodyPost_ret (v:=.agg #[.int .i64 0,.int .i64 0,.slice none 0 0,.int .i64 0,.int .i64 0]) (by simp[results,Tryz.results94,go_sem,e0,e1,e2,e3,e4]) rfl (RP.intro (leafT 0 0) rfl (zay _ _ _) ⟨fun h=>absurd h (Nat.lt_irrefl _),fun _ h=>absurd h (Nat.not_lt_zero _)⟩ (by rw[HE.out];exact same_refl _) (zdj (by omega) K1.bl _ _ _ _ _))
end
section
theorem zt2:∀s t:Ty,s.same t=true→t.same s=true:=by
 intro s
 induction s with
 | dm =>
  intro t h;rw[zbb] at h ⊢;exact⟨⟨h.1.1.symm,h.1.2.1.symm,h.1.2.2.1.symm,h.1.2.2.2.1.symm,h.1.2.2.2.2.symm⟩,fun i hi=>absurd hi (by rw[←h.1.2.2.2.2];exact Nat.not_lt_zero _)⟩
 | mk k l hh e ao b o len cap ps ih =>
  intro t h;rw[zbb] at h ⊢;exact⟨⟨h.1.1.symm,h.1.2.1.symm,h.1.2.2.1.symm,h.1.2.2.2.1.symm,h.1.2.2.2.2.symm⟩,fun i hi=>ih i (t.ps i) (h.2 i (by rw[h.1.2.2.2.2];exact hi))⟩
theorem zl0 {f h:Nat→Nat}:∀k,(∀i,i<k→f i=h i)→za6 f k=za6 h k
 | 0,_=>rfl
 | k+1,e=>by
  show za6 f k+f k=za6 h k+h k
  rw[zl0 k (fun i hi=>e i (by omega)),e k (by omega)]
theorem zn7 {N:Nat}{le:Nat→Nat→Bool}(P:Po N le):∀s t:Ty,Fd N s→Fd N t→s.same t=true→s.bel le true t=true∧t.bel le true s=true:=by
 intro s
 induction s with
 | dm=>intro t hs;exact absurd rfl hs.ne
 | mk k l hh e ao b o len cap ps ih =>
  intro t hs ht h;rw[zbb] at h;obtain⟨⟨h1,h2,h3,h4,h5⟩,h6⟩:=h;have sub:∀i,i<(Ty.mk k l hh e ao b o len cap ps).len→(ps i).bel le true (t.ps i)=true∧(t.ps i).bel le true (ps i)=true:=fun i hi=>ih i (t.ps i) (hs.sub (i:=i) hi) (ht.sub (by omega)) (h6 i hi);obtain⟨x,hx,hx1⟩:=hs.lab;have two:(Ty.mk k l hh e ao b o len cap ps).k=3∨(Ty.mk k l hh e ao b o len cap ps).k=4→∀i,i<2→i<(Ty.mk k l hh e ao b o len cap ps).len:=fun h34 i hi=>by rw[hs.two h34];exact hi
  rw[ze1 hs ht,ze1 ht hs]
  constructor
  ·refine⟨h1,by rw[←h2,hx,Int.toNat_natCast];exact P.refl x hx1,fun h3'=>⟨(sub 0 (two (Or.inl h3') 0 (by omega))).1,(sub 1 (two (Or.inl h3') 1 (by omega))).1⟩,fun h4'=>⟨⟨(sub 0 (two (Or.inr h4') 0 (by omega))).2,(sub 1 (two (Or.inr h4') 1 (by omega))).1⟩,?_,?_⟩,fun h5'=>h6 0 (by rw[hs.one h5'];omega)⟩
   ·obtain⟨y,hy,hy1⟩:=hs.heap h4';rw[←h3,hy,Int.toNat_natCast];exact P.refl y hy1
   ·rw[←h4];exact zny P (hs.exc h4')
  ·refine⟨h1.symm,by rw[←h2,hx,Int.toNat_natCast];exact P.refl x hx1,fun h3'=>?_,fun h4'=>?_,fun h5'=>?_⟩
   ·have q:(Ty.mk k l hh e ao b o len cap ps).k=3:=h1.trans h3';exact⟨(sub 0 (two (Or.inl q) 0 (by omega))).2,(sub 1 (two (Or.inl q) 1 (by omega))).2⟩
   ·have q:(Ty.mk k l hh e ao b o len cap ps).k=4:=h1.trans h4';refine⟨⟨(sub 0 (two (Or.inr q) 0 (by omega))).1,(sub 1 (two (Or.inr q) 1 (by omega))).2⟩,?_,?_⟩
    ·obtain⟨y,hy,hy1⟩:=hs.heap q;rw[←h3,hy,Int.toNat_natCast];exact P.refl y hy1
    ·rw[←h4];exact zny P (hs.exc q)
   ·have q:(Ty.mk k l hh e ao b o len cap ps).k=5:=h1.trans h5';exact zt2 _ _ (h6 0 (by rw[hs.one q];omega))
end
section
open Go Go.RowKit
structure Is where
 ao:Option Addr
 b:Nat
 o:Nat
 len:Nat
 cap:Nat
 f:Nat→Int
structure Is.At (s:Is)(w:World):Prop where
 nil:0<s.len→s.ao=some ⟨s.b,s.o,none⟩
 bound:s.len≤9223372036854775807
 cell:∀i,i<s.len→w.cell? ⟨s.b,s.o+i,none⟩=some (.int .i64 (s.f i))
theorem Is.At.kept {s:Is}{w w':World}(h:s.At w)(hb:Below w.heap.size w w'):s.At w':=⟨h.nil,h.bound,fun i hi=>up hb (h.cell i hi)⟩
def Is.nl:Is:=⟨none,0,0,0,0,fun _=>0⟩
theorem Is.nl_at (w:World):Is.nl.At w:=⟨fun h=>absurd h (Nat.lt_irrefl _),Nat.zero_le _,fun _ h=>absurd h (Nat.not_lt_zero _)⟩
structure Hd where
 op:Int
 dst:Int
 a:Int
 b:Int
 n:Int
 env:Int
 t:Ty
 ar:Is
inductive Nd where
 | dm:Nd
 | mk (h:Hd) (bao:Option Addr) (bb bo bl bc:Nat) (bp:Nat→Nd) (eao:Option Addr) (eb eo el ec:Nat) (ep:Nat→Nd):Nd
structure Ns where
 ao:Option Addr
 b:Nat
 o:Nat
 len:Nat
 cap:Nat
 ps:Nat→Nd
def Ns.nl:Ns:=⟨none,0,0,0,0,fun _=>.dm⟩
def Nd.h:Nd→Hd | .dm=>⟨0,0,0,0,0,0,.dm,Is.nl⟩ | .mk h _ _ _ _ _ _ _ _ _ _ _ _=>h
def Nd.bd:Nd→Ns | .dm=>Ns.nl | .mk _ bao bb bo bl bc bp _ _ _ _ _ _=>⟨bao,bb,bo,bl,bc,bp⟩
def Nd.el:Nd→Ns | .dm=>Ns.nl | .mk _ _ _ _ _ _ _ eao eb eo el ec ep=>⟨eao,eb,eo,el,ec,ep⟩
def Nd.vs (n:Nd):List Value:=[.int .i64 n.h.op,.int .i64 n.h.dst,.int .i64 n.h.a,.int .i64 n.h.b,.int .i64 n.h.n,.int .i64 n.h.env,.int .i64 n.h.t.k,.int .i64 n.h.t.l,.slice n.h.t.ao n.h.t.len n.h.t.cap,.int .i64 n.h.t.h,.int .i64 n.h.t.e,.slice n.h.ar.ao n.h.ar.len n.h.ar.cap,.slice n.bd.ao n.bd.len n.bd.cap,.slice n.el.ao n.el.len n.el.cap]
def Nd.va (n:Nd):Array Value:=n.vs.toArray
theorem Nd.va_one (n:Nd):n.vs.all (·.oneCell')=true:=by simp[Nd.vs,Value.oneCell']
def Nd.At (w:World):Nd→Prop
 | .dm=>False
 | .mk h bao bb bo bl _ bp eao eb eo el _ ep=>(h.t.At w∧h.ar.At w)∧((0<bl→bao=some ⟨bb,bo,none⟩)∧bl≤9223372036854775807∧∀i,i<bl→w.rangeAt bb (bo+i*14) (bp i).vs∧Nd.At w (bp i))∧((0<el→eao=some ⟨eb,eo,none⟩)∧el≤9223372036854775807∧∀i,i<el→w.rangeAt eb (eo+i*14) (ep i).vs∧Nd.At w (ep i))
theorem zbx {w w':World}{b o:Nat}{vs:List Value}(h:w.rangeAt b o vs)(hb:Below w.heap.size w w'):w'.rangeAt b o vs:=fun j v hv=>up hb (h j v hv)
theorem Nd.At.kept {w w':World}(hb:Below w.heap.size w w'):∀{n:Nd},n.At w→n.At w'
 | .dm,h=>h.elim
 | .mk _ _ _ _ _ _ _ _ _ _ _ _ _,h=>⟨⟨h.1.1.kept hb,h.1.2.kept hb⟩,⟨h.2.1.1,h.2.1.2.1,fun i hi=>⟨zbx (h.2.1.2.2 i hi).1 hb,Nd.At.kept hb (h.2.1.2.2 i hi).2⟩⟩,⟨h.2.2.1,h.2.2.2.1,fun i hi=>⟨zbx (h.2.2.2.2 i hi).1 hb,Nd.At.kept hb (h.2.2.2.2 i hi).2⟩⟩⟩
structure Ns.At (s:Ns)(w:World):Prop where
 nil:0<s.len→s.ao=some ⟨s.b,s.o,none⟩
 bound:s.len≤9223372036854775807
 cells:∀i,i<s.len→w.rangeAt s.b (s.o+i*14) (s.ps i).vs
 part:∀i,i<s.len→(s.ps i).At w
theorem Ns.At.kept {s:Ns}{w w':World}(h:s.At w)(hb:Below w.heap.size w w'):s.At w':=⟨h.nil,h.bound,fun i hi=>zbx (h.cells i hi) hb,fun i hi=>(h.part i hi).kept hb⟩
theorem Ns.nl_at (w:World):Ns.nl.At w:=⟨fun h=>absurd h (Nat.lt_irrefl _),Nat.zero_le _,fun _ h=>absurd h (Nat.not_lt_zero _),fun _ h=>absurd h (Nat.not_lt_zero _)⟩
theorem Nd.At.bd {w:World}:∀{n:Nd},n.At w→n.bd.At w
 | .dm,h=>h.elim
 | .mk _ _ _ _ _ _ _ _ _ _ _ _ _,h=>⟨h.2.1.1,h.2.1.2.1,fun i hi=>(h.2.1.2.2 i hi).1,fun i hi=>(h.2.1.2.2 i hi).2⟩
theorem Nd.At.el {w:World}:∀{n:Nd},n.At w→n.el.At w
 | .dm,h=>h.elim
 | .mk _ _ _ _ _ _ _ _ _ _ _ _ _,h=>⟨h.2.2.1,h.2.2.2.1,fun i hi=>(h.2.2.2.2 i hi).1,fun i hi=>(h.2.2.2.2 i hi).2⟩
theorem Nd.At.t {w:World}:∀{n:Nd},n.At w→n.h.t.At w
 | .dm,h=>h.elim
 | .mk _ _ _ _ _ _ _ _ _ _ _ _ _,h=>h.1.1
theorem Nd.At.ar {w:World}:∀{n:Nd},n.At w→n.h.ar.At w
 | .dm,h=>h.elim
 | .mk _ _ _ _ _ _ _ _ _ _ _ _ _,h=>h.1.2
theorem Nd.ind {P:Nd→Prop}(h:∀n:Nd,(∀i,i<n.bd.len→P (n.bd.ps i))→(∀i,i<n.el.len→P (n.el.ps i))→P n):∀n,P n:=by
 intro n
 induction n with
 | dm=>exact h _ (fun i hi=>absurd hi (Nat.not_lt_zero _)) (fun i hi=>absurd hi (Nat.not_lt_zero _))
 | mk hd bao bb bo bl bc bp eao eb eo el ec ep ih1 ih2=>exact h _ (fun i _=>ih1 i) (fun i _=>ih2 i)
structure Fc where
 param:Ty
 result:Ty
 caps:Ty
 heap:Int
 exc:Int
 slots:Ty
 body:Ns
 out:Int
def Fc.vs (f:Fc):List Value:=[.int .i64 f.param.k,.int .i64 f.param.l,.slice f.param.ao f.param.len f.param.cap,.int .i64 f.param.h,.int .i64 f.param.e,.int .i64 f.result.k,.int .i64 f.result.l,.slice f.result.ao f.result.len f.result.cap,.int .i64 f.result.h,.int .i64 f.result.e,.slice f.caps.ao f.caps.len f.caps.cap,.int .i64 f.heap,.int .i64 f.exc,.slice f.slots.ao f.slots.len f.slots.cap,.slice f.body.ao f.body.len f.body.cap,.int .i64 f.out]
theorem Fc.va_one (f:Fc):f.vs.all (·.oneCell')=true:=by simp[Fc.vs,Value.oneCell']
structure Fc.At (f:Fc)(w:World):Prop where
 param:f.param.At w
 result:f.result.At w
 caps:f.caps.At w
 slots:f.slots.At w
 body:f.body.At w
 lc:f.slots.len≤f.slots.cap
theorem Fc.At.kept {f:Fc}{w w':World}(h:f.At w)(hb:Below w.heap.size w w'):f.At w':=⟨h.param.kept hb,h.result.kept hb,h.caps.kept hb,h.slots.kept hb,h.body.kept hb,h.lc⟩
structure Fl where
 ao:Option Addr
 b:Nat
 o:Nat
 len:Nat
 cap:Nat
 ps:Nat→Fc
structure Fl.At (s:Fl)(w:World):Prop where
 nil:0<s.len→s.ao=some ⟨s.b,s.o,none⟩
 bound:s.len≤9223372036854775807
 cells:∀i,i<s.len→w.rangeAt s.b (s.o+i*16) (s.ps i).vs
 part:∀i,i<s.len→(s.ps i).At w
theorem Fl.At.kept {s:Fl}{w w':World}(h:s.At w)(hb:Below w.heap.size w w'):s.At w':=⟨h.nil,h.bound,fun i hi=>zbx (h.cells i hi) hb,fun i hi=>(h.part i hi).kept hb⟩
structure Jd where
 n:Strs
 g:Grid
 bot:Int
 fns:Fl
 f:Fc
def Jd.vs (j:Jd):List Value:=.slice j.n.ao j.n.len j.n.cap :: .slice j.g.ao j.g.len j.g.cap :: .int .i64 j.bot :: .slice j.fns.ao j.fns.len j.fns.cap :: j.f.vs
def Jd.va (j:Jd):Array Value:=j.vs.toArray
structure Jd.At (j:Jd)(w:World):Prop where
 n:j.n.At w
 g:j.g.At w
 fns:j.fns.At w
 f:j.f.At w
theorem Jd.At.kept {j:Jd}{w w':World}(h:j.At w)(hb:Below w.heap.size w w'):j.At w':=⟨h.n.kept hb,h.g.kept hb,h.fns.kept hb,h.f.kept hb⟩
def shV (n:Strs)(g:Grid)(many:Int)(f:Fc):List Value:=.slice n.ao n.len n.cap :: .slice g.ao g.len g.cap :: .int .i64 many :: f.vs
structure Sta where
 at_:Int
 x:Int
 set:Nat→Bool
 gone:Bool
def Sta.vs (s:Sta):List Value:=.int .i64 s.at_ :: .int .i64 s.x :: ((List.range 250).map (fun i=>Value.bool (s.set i))++[.bool s.gone])
def Sta.va (s:Sta):Array Value:=s.vs.toArray
theorem Sta.va_one (s:Sta):s.vs.all (·.oneCell')=true:=by simp[Sta.vs,Value.oneCell']
theorem Sta.len (s:Sta):s.vs.length=253:=by simp[Sta.vs]
theorem Sta.v0 (s:Sta):s.vs[0]?=some (.int .i64 s.at_):=rfl
theorem Sta.v1 (s:Sta):s.vs[1]?=some (.int .i64 s.x):=rfl
theorem Sta.v2 (s:Sta){i:Nat}(h:i<250):s.vs[2+i]?=some (.bool (s.set i)):=by
 rw[Nat.add_comm 2 i];show ((List.range 250).map (fun i=>Value.bool (s.set i))++[.bool s.gone])[i]?=_
 rw[List.getElem?_append_left (by simpa using h)];simp[h]
theorem Sta.v252 (s:Sta):s.vs[252]?=some (.bool s.gone):=by
 show ((List.range 250).map (fun i=>Value.bool (s.set i))++[.bool s.gone])[250]?=_
 rw[List.getElem?_append_right (by simp)];simp
def upd (f:Nat→Bool)(i:Nat):Nat→Bool:=fun j=>if j=i then true else f j
theorem Sta.put2 (s:Sta){i:Nat}(h:i<250):s.vs.set (2+i) (.bool true)=({ s with set:=upd s.set i }:Sta).vs:=by
 rw[Nat.add_comm 2 i];show Value.int .i64 s.at_ :: Value.int .i64 s.x :: (((List.range 250).map (fun i=>Value.bool (s.set i))++[Value.bool s.gone]).set i (Value.bool true))=_
 unfold Sta.vs
 congr 2
 apply List.ext_getElem?
 intro j;rw[List.getElem?_set];by_cases hj:j<250
 ·rw[List.getElem?_append_left (by simpa using hj),List.getElem?_append_left (by simpa using hj)];by_cases e:i=j
  ·subst e;simp[hj,upd];omega
  ·have:j≠i:=fun h=>e h.symm;simp[e,hj,upd,this]
 ·have e:i≠j:=by omega
  rw[if_neg e,List.getElem?_append_right (by simp;omega),List.getElem?_append_right (by simp;omega)]
  simp
theorem Sta.put0 (s:Sta)(v:Int):s.vs.set 0 (.int .i64 v)=({ s with at_:=v }:Sta).vs:=rfl
theorem Sta.put1 (s:Sta)(v:Int):s.vs.set 1 (.int .i64 v)=({ s with x:=v }:Sta).vs:=rfl
def Sta.zero:Sta:=⟨0,0,fun _=>false,false⟩
def mk2 (k l h e:Int)(p q:Ty):Ty:=.mk k l h e none 0 0 2 2 (fun i=>if i=0 then p else q)
def mk1 (k l:Int)(p:Ty):Ty:=.mk k l 0 0 none 0 0 1 1 (fun _=>p)
def sigT (n:Strs)(g:Grid)(f:Fc):Ty:=zai n g (mk2 4 (botI n g) f.heap f.exc f.param f.result) (botI n g)
def Jd.read (j:Jd)(nd:Nd)(i:Int):Ty:=zai j.n j.g (j.f.slots.ps i.toNat) nd.h.env
def Jd.reck (j:Jd)(nd:Nd):Ty × Int :=
 if (((j.read nd nd.h.a).k != 1)||((j.read nd nd.h.b).k != 1))=true then (leafT 0 0,-1)
 else (leafT (if nd.h.n=11∨nd.h.n=12 then 2 else 1) (zad j.n j.g (j.read nd nd.h.a).l (j.read nd nd.h.b).l),if nd.h.n=9∨nd.h.n=10 then (j.read nd nd.h.b).l else -1)
def Jd.side (j:Jd)(nd:Nd)(i:Nat):Ty:=if ((j.read nd nd.h.a).k != 3)=true then leafT 0 0 else zai j.n j.g ((j.read nd nd.h.a).ps i) (j.read nd nd.h.a).l
def Jd.closed (j:Jd)(nd:Nd):Ty :=
 if nd.h.ar.len=(j.fns.ps nd.h.n.toNat).caps.len∧∀i,i<nd.h.ar.len→belB j.n j.g (j.read nd (nd.h.ar.f i)) ((j.fns.ps nd.h.n.toNat).caps.ps i)=true then sigT j.n j.g (j.fns.ps nd.h.n.toNat) else leafT 0 0
def Jd.called (j:Jd)(nd:Nd):Ty × Int :=
 if ((j.read nd nd.h.a).k != 4||!(belB j.n j.g (j.read nd nd.h.b) ((j.read nd nd.h.a).ps 0))||!(leqB j.n j.g (j.read nd nd.h.a).l (j.read nd nd.h.a).h&&leqB j.n j.g j.f.heap (j.read nd nd.h.a).h))=true then (leafT 0 0,-1)
 else (zai j.n j.g ((j.read nd nd.h.a).ps 1) (j.read nd nd.h.a).l,if (j.read nd nd.h.a).e=-1 then -1 else zad j.n j.g (j.read nd nd.h.a).e (j.read nd nd.h.a).l)
def Jd.cell (j:Jd)(nd:Nd):Ty:=if belB j.n j.g (j.read nd nd.h.a) nd.h.t=true then mk1 5 j.bot nd.h.t else leafT 0 0
def Jd.held (j:Jd)(nd:Nd):Ty:=if ((j.read nd nd.h.a).k != 5)=true then leafT 0 0 else zai j.n j.g ((j.read nd nd.h.a).ps 0) (j.read nd nd.h.a).l
def zby (k:Int)(t:Ty):Ty:=if (t.k != k)=true then leafT 0 0 else t
def Jd.makes (j:Jd)(nd:Nd):Ty × Int :=
 if nd.h.op=1 then (leafT 1 j.bot,-1) else if nd.h.op=2 then (leafT 2 j.bot,-1) else if nd.h.op=3 then (j.read nd nd.h.a,-1) else if nd.h.op=4 then j.reck nd
 else if nd.h.op=5 then (zby 2 (j.read nd nd.h.a),-1) else if nd.h.op=6 then (mk2 3 j.bot 0 0 (j.read nd nd.h.a) (j.read nd nd.h.b),-1) else if nd.h.op=7 then (j.side nd 0,-1) else if nd.h.op=8 then (j.side nd 1,-1)
 else if nd.h.op=9 then (j.closed nd,-1) else if nd.h.op=10 then (sigT j.n j.g j.f,-1) else if nd.h.op=11 then j.called nd else if nd.h.op=12 then (j.cell nd,-1) else (j.held nd,-1)
def Hd.rds (h:Hd):List Int :=
 if h.op=3∨h.op=5∨h.op=7∨h.op=8∨h.op=12∨h.op=13∨h.op=15∨h.op=16∨h.op=18 then [h.a]
 else if h.op=4∨h.op=6∨h.op=11∨h.op=14 then [h.a,h.b]
 else if h.op=9 then (List.range h.ar.len).map h.ar.f else []
def Hd.wrs (h:Hd):Bool:=!((h.op==14)||(h.op==15)||(h.op==16)||(h.op==18))
def Jd.pre (j:Jd)(nd:Nd)(s:Sta):Bool:=(!s.gone&&leqB j.n j.g s.at_ nd.h.env)&&nd.h.rds.all (fun i=>s.set i.toNat)
def Jd.make (j:Jd)(nd:Nd)(s:Sta):Option Sta :=
 if belB j.n j.g (zai j.n j.g (j.makes nd).1 (zad j.n j.g nd.h.env (j.makes nd).2)) (j.f.slots.ps nd.h.dst.toNat)=true
 then some ⟨zad j.n j.g s.at_ (j.makes nd).2,zad j.n j.g s.x (j.makes nd).2,upd s.set nd.h.dst.toNat,s.gone⟩ else none
def Jd.sets (j:Jd)(nd:Nd):Bool:=((j.read nd nd.h.a).k==5)&&(belB j.n j.g (j.read nd nd.h.b) ((j.read nd nd.h.a).ps 0)&&(leqB j.n j.g (j.read nd nd.h.a).l ((j.read nd nd.h.a).ps 0).l&&leqB j.n j.g j.f.heap ((j.read nd nd.h.a).ps 0).l))
def Jd.tells (j:Jd)(nd:Nd):Bool:=((j.read nd nd.h.a).k==1)&&(leqB j.n j.g (j.read nd nd.h.a).l nd.h.n&&leqB j.n j.g j.f.heap nd.h.n)
def zbq (a b:Sta):Nat→Bool:=if a.gone=true then b.set else if b.gone=true then a.set else fun i=>a.set i&&b.set i
def Jd.junc (j:Jd)(s a b:Sta)(x:Int):Sta:=⟨zad j.n j.g s.at_ x,zad j.n j.g s.x x,zbq a b,a.gone&&b.gone⟩
def za7 (f:Nat→Sta→Option Sta):Nat→Sta→Option Sta
 | 0,s=>some s
 | k+1,s=>(za7 f k s).bind (f k)
def Nd.run (j:Jd):Nd→Sta→Option Sta
 | .dm=>fun _=>none
 | .mk h bao bb bo bl bc bp eao eb eo el ec ep=>fun s =>
  if j.pre (.mk h bao bb bo bl bc bp eao eb eo el ec ep) s=false then none
  else if h.op=14 then (if j.sets (.mk h bao bb bo bl bc bp eao eb eo el ec ep)=true then some s else none)
  else if h.op=15 then (if j.tells (.mk h bao bb bo bl bc bp eao eb eo el ec ep)=true then some s else none)
  else if h.op=16 then
   (if (j.read (.mk h bao bb bo bl bc bp eao eb eo el ec ep) h.a).k=2 then
    (za7 (fun i=>Nd.run j (bp i)) bl ⟨zad j.n j.g s.at_ (j.read (.mk h bao bb bo bl bc bp eao eb eo el ec ep) h.a).l,-1,s.set,false⟩).bind fun a =>
    (za7 (fun i=>Nd.run j (ep i)) el ⟨zad j.n j.g s.at_ (j.read (.mk h bao bb bo bl bc bp eao eb eo el ec ep) h.a).l,-1,s.set,false⟩).bind fun b =>
    some (j.junc s a b (zad j.n j.g a.x b.x)) else none)
  else if h.op=17 then
   ((za7 (fun i=>Nd.run j (bp i)) bl ⟨s.at_,-1,s.set,false⟩).bind fun a =>
    (za7 (fun i=>Nd.run j (ep i)) el ⟨zad j.n j.g s.at_ a.x,-1,upd s.set h.dst.toNat,false⟩).bind fun b =>
    if belB j.n j.g (leafT 1 (zad j.n j.g s.at_ a.x)) (j.f.slots.ps h.dst.toNat)=true then some (j.junc s a b b.x) else none)
  else if h.op=18 then (if (j.read (.mk h bao bb bo bl bc bp eao eb eo el ec ep) h.a).k=1 then some { s with x:=zad j.n j.g s.x (j.read (.mk h bao bb bo bl bc bp eao eb eo el ec ep) h.a).l,gone:=true } else none)
  else j.make (.mk h bao bb bo bl bc bp eao eb eo el ec ep) s
def Jd.list (j:Jd)(b:Ns)(s:Sta):Option Sta:=za7 (fun i=>(b.ps i).run j) b.len s
def Jd.ends (j:Jd)(s:Sta):Bool :=
 if ((s.x != -1)&&!(leqB j.n j.g s.x j.f.exc))=true then false
 else if (s.gone||j.f.out==-1)=true then (s.gone&&j.f.out==-1)
 else s.set j.f.out.toNat&&belB j.n j.g (zai j.n j.g (j.f.slots.ps j.f.out.toNat) s.at_) j.f.result
def Jd.start (j:Jd):Sta:=⟨j.bot,-1,fun i=>decide (i<1+j.f.caps.len),false⟩
def Jd.right (j:Jd):Bool:=match j.list j.f.body j.start with | none=>false | some s=>j.ends s
def wthB (a m:Int):Bool:=decide (0≤a)&&decide (a<m)
theorem zfa (a m:Int)(w:World):Calls Tryz.prog 70 #[.int .i64 a,.int .i64 m] w fun e w'=>e=.returned (.bool (wthB a m))∧Below w.heap.size w w':=by
 by_cases h:0≤a
 ·have HE:Hid (wthB a m=decide (a<m)):=by show wthB a m=_;unfold wthB;simp[h]
  go_enter Tryz.func70,Tryz.ntmps70
  go_wp2;go_ret;exact⟨zab HE.out.symm,Below.refl _ _⟩
 ·have HE:Hid (wthB a m=false):=by show wthB a m=_;unfold wthB;simp[h]
  go_enter Tryz.func70,Tryz.ntmps70
  go_wp2;go_ret;exact⟨zab HE.out.symm,Below.refl _ _⟩
theorem zbz (j:Jd)(a b:Int)(w:World)(hn:j.n.At w)(hg:j.g.At w):Calls Tryz.prog 90 #[.agg j.va,.int .i64 a,.int .i64 b] w fun e w'=>e=.returned (.int .i64 (zad j.n j.g a b))∧Below w.heap.size w w':=by
 have B0:=zac w (.cells j.va 48);have bJ:Blk (w.alloc (.cells j.va 48)) w.heap.size j.vs 48:=Blk.new w _ _;have c0:=bJ.cell 0 (v:=.slice j.n.ao j.n.len j.n.cap) rfl;have c1:=bJ.cell 1 (v:=.slice j.g.ao j.g.len j.g.cap) rfl;have h:=zvl j.n j.g a b _ (hn.kept B0) (hg.kept B0);clear bJ;go_enter Tryz.func90,Tryz.ntmps90
 go_wp2_with fail
 refine h.mono ?_;rintro _ w1 ⟨rfl,hb1⟩;go_wp2;go_ret;exact⟨rfl,Below.next B0 hb1⟩
theorem zps (j:Jd)(k:Int)(w:World):Calls Tryz.prog 115 #[.agg j.va,.int .i64 k] w fun e w'=>e=.returned (.agg (leafT k j.bot).vs.toArray)∧Below w.heap.size w w':=by
 have H:=zar [.cells j.va 48,.cells #[.int .i64 0,.int .i64 0,.slice none 0 0,.int .i64 0,.int .i64 0] 38] w;have B0:=zap [.cells j.va 48,.cells #[.int .i64 0,.int .i64 0,.slice none 0 0,.int .i64 0,.int .i64 0] 38] w;simp only[List.foldl] at H B0;have bJ:Blk _ w.heap.size j.vs 48:=H 0 (by simp);have bZ:Blk _ (w.heap.size+1) [.int .i64 0,.int .i64 0,.slice none 0 0,.int .i64 0,.int .i64 0] 38:=H 1 (by simp);have c2:=bJ.cell 2 (v:=.int .i64 j.bot) rfl;clear H bJ;go_enter Tryz.func115,Tryz.ntmps115
 go_wp2_with (refine zae rfl rfl 38 (.tmp 4) (.tmp 8) rfl (w.heap.size+1) (leafT k j.bot).vs (by kernel_rfl) (by kernel_rfl) rfl bZ rfl (by kernel_rfl) ?_;intro w2 W2);have z0:=W2.blk.cell 0 rfl;have z1:=W2.blk.cell 1 rfl;have z2:=W2.blk.cell 2 rfl;have z3:=W2.blk.cell 3 rfl;have z4:=W2.blk.cell 4 rfl;go_wp2;exact bodyPost_ret (v:=.agg (leafT k j.bot).vs.toArray) (by simp[results,Tryz.results115,go_sem,z0,z1,z2,z3,z4,Ty.vs]) rfl ⟨rfl,W2.below (by omega) B0⟩
theorem zqe (nd:Nd)(w:World):Calls Tryz.prog 71 #[.agg nd.va] w fun e w'=>e=.returned (.bool nd.h.wrs)∧Below w.heap.size w w':=by
 have B0:=zac w (.cells nd.va 65);have bN:Blk (w.alloc (.cells nd.va 65)) w.heap.size nd.vs 65:=Blk.new w _ _;have c0:=bN.cell 0 (v:=.int .i64 nd.h.op) rfl;clear bN;have HE:Hid (nd.h.wrs=!((nd.h.op==14)||(nd.h.op==15)||(nd.h.op==16)||(nd.h.op==18))):=by show _=_;rfl
 generalize nd.h.wrs=r at HE ⊢;generalize nd.h.op=op at HE c0;cases e1:(op==14)
 ·cases e2:(op==15)
  ·cases e3:(op==16)
   ·cases e4:(op==18)
    all_goals
     go_enter Tryz.func71,Tryz.ntmps71
     go_wp2;go_ret;exact⟨zab (by rw[HE.out,e1,e2,e3,e4];rfl),B0⟩
   ·go_enter Tryz.func71,Tryz.ntmps71
    go_wp2;go_ret;exact⟨zab (by rw[HE.out,e1,e2,e3];rfl),B0⟩
  ·go_enter Tryz.func71,Tryz.ntmps71
   go_wp2;go_ret;exact⟨zab (by rw[HE.out,e1,e2];rfl),B0⟩
 ·go_enter Tryz.func71,Tryz.ntmps71
  go_wp2;go_ret;exact⟨zab (by rw[HE.out,e1];rfl),B0⟩
def IAt (w:World)(v:Value)(l:List Int):Prop:=∃(ao:Option Addr) (b o cap:Nat),v=.slice ao l.length cap∧(0<l.length→ao=some ⟨b,o,none⟩)∧l.length≤9223372036854775807∧∀i x,l[i]?=some x→w.cell? ⟨b,o+i,none⟩=some (.int .i64 x)
theorem IAt.blk {w:World}{B:Nat}{l:List Int}{t:TypeId}(h:Blk w B (l.map (Value.int .i64)) t)(hl:l.length≤1000):IAt w (.slice (some ⟨B,0,none⟩) l.length l.length) l :=
 ⟨_,B,0,_,rfl,fun _=>rfl,by omega,fun i x hx=>by rw[Nat.zero_add];exact h.cell i (by simp[hx])⟩
theorem IAt.nil (w:World)(cap:Nat):IAt w (.slice none 0 cap) []:=⟨none,0,0,cap,rfl,fun h=>absurd h (Nat.lt_irrefl _),Nat.zero_le _,fun i x hx=>by simp at hx⟩
theorem IAt.is {w:World}{s:Is}(h:s.At w):IAt w (.slice s.ao s.len s.cap) ((List.range s.len).map s.f) :=
 ⟨s.ao,s.b,s.o,s.cap,by simp,fun h0=>h.nil (by simpa using h0),by simpa using h.bound,fun i x hx=>by
  have hi:i<s.len:=by
   rcases Nat.lt_or_ge i s.len with h1 | h1
   ·exact h1
   ·rw[List.getElem?_eq_none (by simpa using h1)] at hx;cases hx
  simp[hi] at hx
  subst hx;exact h.cell i hi⟩
theorem ze4 (j:Jd)(bound:Int)(l:List Int)(v:Value)(w:World)(hn:j.n.At w)(hg:j.g.At w)(hl:IAt w v l):Calls Tryz.prog 53 #[.agg j.va,.int .i64 bound,v] w fun e w'=>e=.returned (.bool (l.all fun a=>leqB j.n j.g a bound))∧Below w.heap.size w w':=by
 obtain⟨ao,b,o,cap,rfl,hnil,hbd,hcell⟩:=hl;have B0:=zac w (.cells j.va 48);have HI:Hid (Below w.heap.size w (w.alloc (.cells j.va 48))∧Blk (w.alloc (.cells j.va 48)) w.heap.size j.vs 48):=⟨B0,Blk.new w _ _⟩;have HC:Hid (j.n.At w∧j.g.At w∧∀i x,l[i]?=some x→w.cell? ⟨b,o+i,none⟩=some (.int .i64 x)):=⟨hn,hg,hcell⟩;clear B0 hn hg hcell;go_enter Tryz.func53,Tryz.ntmps53
 go_wp2;go_loopw [11] (fun i wr=>∃k:Nat,k≤l.length∧i=.int .i64 k∧(l.take k).all (fun a=>leqB j.n j.g a bound)=true∧Below w.heap.size w wr∧Blk wr w.heap.size j.vs 48) (fun i _=>l.length - (intOf i).toNat)
 case atStart=>exact⟨0,Nat.zero_le _,rfl,by simp,HI.out⟩
 case round =>
  clear HI;obtain⟨k,hk,rfl,hall,hb,bJ⟩:=hrel;have HA:Hid ((l.take k).all (fun a=>leqB j.n j.g a bound)=true):=hall;have HI:Hid (Below w.heap.size w wr∧Blk wr w.heap.size j.vs 48):=⟨hb,bJ⟩;clear hall hb;by_cases hlt:k<l.length
  ·have ij:(k:Int)<l.length:=by omega
   obtain⟨x,hx⟩:∃x,l[k]?=some x:=⟨_,List.getElem?_eq_getElem hlt⟩;have a0:=hnil (by omega);subst a0;have c0:=up HI.out.1 (HC.out.2.2 k x hx);have d0:=bJ.cell 0 (v:=.slice j.n.ao j.n.len j.n.cap) rfl;have d1:=bJ.cell 1 (v:=.slice j.g.ao j.g.len j.g.cap) rfl;have HX:Hid (l[k]?=some x):=hx;clear bJ hx;go_wp2_with fail
   refine (zw6 j.n j.g x bound wr (HC.out.1.kept HI.out.1) (HC.out.2.1.kept HI.out.1)).mono ?_;rintro _ w1 ⟨rfl,hb1⟩;clear c0 d0 d1;cases hq:leqB j.n j.g x bound
   ·go_wp2;go_ret;refine⟨zab ?_,Below.next HI.out.1 hb1⟩
    symm
    rw[List.all_eq_false];exact⟨x,List.mem_of_getElem? HX.out,by rw[hq];simp⟩
   ·go_wp2;go_roundw
    case rel=>exact⟨k+1,by omega,by go_num,by rw[List.take_add_one,HX.out];simp[hq];simpa using HA.out,Below.next HI.out.1 hb1,HI.out.2.kept hb1⟩
    case measure=>simp[intOf];omega
  ·have e2:k=l.length:=by omega
   subst e2;have d:¬(l.length:Int)<l.length:=by omega
   clear bJ;go_wp2;go_ret;exact⟨zab (by have:=HA.out;rw[List.take_length] at this;exact this.symm),HI.out.1⟩
theorem ztg (s:Sta)(l:List Int)(v:Value)(w:World)(hl:IAt w v l)(h250:∀x,x ∈ l→0≤x∧x<250):Calls Tryz.prog 54 #[.agg s.va,v] w fun e w'=>e=.returned (.bool (l.all fun i=>s.set i.toNat))∧Below w.heap.size w w':=by
 obtain⟨ao,b,o,cap,rfl,hnil,hbd,hcell⟩:=hl;have B0:=zac w (.cells s.va 71);have HI:Hid (Below w.heap.size w (w.alloc (.cells s.va 71))∧Blk (w.alloc (.cells s.va 71)) w.heap.size s.vs 71):=⟨B0,Blk.new w _ _⟩;have HC:Hid (∀i x,l[i]?=some x→w.cell? ⟨b,o+i,none⟩=some (.int .i64 x)):=hcell;clear B0 hcell;go_enter Tryz.func54,Tryz.ntmps54
 go_wp2;go_loopw [9] (fun i wr=>∃k:Nat,k≤l.length∧i=.int .i64 k∧(l.take k).all (fun i=>s.set i.toNat)=true∧Below w.heap.size w wr∧Blk wr w.heap.size s.vs 71) (fun i _=>l.length - (intOf i).toNat)
 case atStart=>exact⟨0,Nat.zero_le _,rfl,by simp,HI.out⟩
 case round =>
  clear HI;obtain⟨k,hk,rfl,hall,hb,bS⟩:=hrel;have HA:Hid ((l.take k).all (fun i=>s.set i.toNat)=true):=hall;have HI:Hid (Below w.heap.size w wr∧Blk wr w.heap.size s.vs 71):=⟨hb,bS⟩;clear hall hb;by_cases hlt:k<l.length
  ·have ij:(k:Int)<l.length:=by omega
   obtain⟨x,hx⟩:∃x,l[k]?=some x:=⟨_,List.getElem?_eq_getElem hlt⟩;have a0:=hnil (by omega);subst a0;have c0:=up HI.out.1 (HC.out k x hx);obtain⟨x0,x1⟩:=h250 x (List.mem_of_getElem? hx);have HX:Hid (l[k]?=some x):=hx;obtain⟨y,rfl⟩:∃y:Nat,x=y:=⟨x.toNat,by omega⟩;have x2:y<250:=by omega
   have d0:=bS.cell (2+y) (s.v2 x2);clear bS hx h250;cases hq:s.set y
   ·rw[hq] at d0;go_wp2;go_ret;refine⟨zab ?_,HI.out.1⟩
    symm
    rw[List.all_eq_false];exact⟨y,List.mem_of_getElem? HX.out,by simp[hq]⟩
   ·rw[hq] at d0;go_wp2;go_roundw
    case rel=>exact⟨k+1,by omega,by go_num,by rw[List.take_add_one,HX.out];simp[hq];simpa using HA.out,HI.out⟩
    case measure=>simp[intOf];omega
  ·have e2:k=l.length:=by omega
   subst e2;have d:¬(l.length:Int)<l.length:=by omega
   clear bS;go_wp2;go_ret;exact⟨zab (by have:=HA.out;rw[List.take_length] at this;exact this.symm),HI.out.1⟩
end
section
open Go.RowKit
end
section
theorem zpo {n:Strs}{g:Grid}(b:Int):zau n g (-1) b=-1:=by
 unfold zau;rw[if_neg];intro h;rw[Bool.and_eq_true,Bool.and_eq_true] at h;have:labB n (-1)=false:=rfl;rw[this] at h;exact Bool.noConfusion h.1.1
end
end Go.Proofs.YtgioppfoceddfaaGreat
