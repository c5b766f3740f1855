import Derived.Test.YtfobijdkoeifjaaGreatDoorP12
import Derived.Laws.AppendOwnNone
import Derived.Test.YtfobijdkoeifjaaGreatDoorP11
import Derived.Deep.MidRow
import Derived.Test.YtfobijdkoeifjaaGreatDoorP8
set_option maxRecDepth 100000
set_option maxHeartbeats 32000000
namespace Go.Proofs.YtfobijdkoeifjaaGreatDoor
section
open Go.RowKit
theorem Tryz.infoTy:(Tryz.prog.info? 38).map (fun i=>(i.zero,i.size,i.bytes))=some (some (.agg #[.int .i64 0,.int .i64 0,.slice none 0 0,.int .i64 0,.int .i64 0]),5,56):=by kernel_rfl
theorem zt8 {w w':World}{base:Nat}{e:TypeId}{size:Nat}{v:Value}{n:Nat}{xs:List Value}(h:w.ownsRow base e size v n xs)(hb:Below w.heap.size w w'):w'.ownsRow base e size v n xs:=by
 obtain⟨h1,h2⟩:=h;refine⟨h1,?_⟩;rcases h2 with h2 | ⟨g,cap,cur,hv,hg,hh,r⟩
 ·exact Or.inl h2
 ·exact Or.inr ⟨g,cap,cur,hv,hg,(hb.block g (Array.getElem?_eq_some_iff.1 hh).1).trans hh,r⟩
structure CBox (w w0:World)(t:Ty):Prop where
 bl:Below w.heap.size w w0
 sz:w0.heap.size=w.heap.size+2
 x:Bx w0 w.heap.size t
 fx:∀i,i<5→w0.frozen? ⟨w.heap.size,i,none⟩=false
 r:∀i,i<5→(w0.cell? ⟨w.heap.size+1,i,none⟩).isSome=true
 fr:∀i,i<5→w0.frozen? ⟨w.heap.size+1,i,none⟩=false
theorem zve (w:World)(t:Ty):CBox w ((w.alloc (tyO t)).alloc (.cells #[.int .i64 0,.int .i64 0,.slice none 0 0,.int .i64 0,.int .i64 0] 38)) t where
 bl:=Below.next (zac _ _) (zac _ _)
 sz:=by rw[alloc_size,alloc_size]
 x:=(Bx.new w t).kept (zac _ _)
 fx:=fun i hi=>by
  rw[(zac (w.alloc (tyO t)) _).frozen (p:=⟨w.heap.size,i,none⟩) (by rw[alloc_size];exact Nat.lt_succ_self _)]
  simp[tyO]
 r:=fun i hi=>by
  have e:(w.alloc (tyO t)).heap.size=w.heap.size+1:=alloc_size _ _;rw[←e]
  match i,hi with
  | 0,_=>simp
  | 1,_=>simp
  | 2,_=>simp
  | 3,_=>simp
  | 4,_=>simp
 fr:=fun i hi=>by
  have e:(w.alloc (tyO t)).heap.size=w.heap.size+1:=alloc_size _ _;rw[←e];simp
def CP (w:World)(t:Ty)(e:Ending)(w':World):Prop :=
 ∃u:Ty,e=.returned (.agg #[.int .i64 u.k,.int .i64 u.l,.slice u.ao u.len u.cap,.int .i64 u.h,.int .i64 u.e])∧u.At w'∧u.Blk (fun b=>w.heap.size≤b)∧u.same t=true∧Below w.heap.size w w'
theorem CP.intro {w:World}{t:Ty}{e:Ending}{w':World}(u:Ty)(h1:e=.returned (.agg #[.int .i64 u.k,.int .i64 u.l,.slice u.ao u.len u.cap,.int .i64 u.h,.int .i64 u.e]))(h2:u.At w')(h3:u.Blk (fun b=>w.heap.size≤b))(h4:u.same t=true)(h5:Below w.heap.size w w'):CP w t e w':=⟨u,h1,h2,h3,h4,h5⟩
theorem zqf:∀(t:Ty) (w:World),t.nodes≤1000→t.At w→Calls Tryz.prog 54 #[.agg #[.int .i64 t.k,.int .i64 t.l,.slice t.ao t.len t.cap,.int .i64 t.h,.int .i64 t.e]] w fun e w'=>CP w t e w':=by
 intro t
 induction t with
 | dm=>intro w _ hAt;exact hAt.elim
 | mk k l h e ao b o len cap ps ih =>
  intro w hN hAt;show Calls Tryz.prog 54 #[.agg #[.int .i64 k,.int .i64 l,.slice ao len cap,.int .i64 h,.int .i64 e]] w fun r w'=>CP w (.mk k l h e ao b o len cap ps) r w'
  have K0:=zve w (.mk k l h e ao b o len cap ps);have hb:len≤9223372036854775807:=hAt.bound;have hnil:0<len→ao=some ⟨b,o,none⟩:=hAt.nil;have HP:Hid (∀j,j<len→(ps j).nodes≤1000∧j<1000):=fun j hj=>by
   have h1:(ps j).nodes<_:=zc6 (t:=.mk k l h e ao b o len cap ps) hj;have h2:1+za3 (fun i=>(ps i).nodes) len≤1000:=hN;have h3:∀m,m≤za3 (fun i=>(ps i).nodes) m:=fun m=>by
    induction m with
    | zero=>exact Nat.le_refl _
    | succ m ihm =>
     have:1≤(ps m).nodes:=by rw[zff];omega
     show m+1≤za3 (fun i=>(ps i).nodes) m+(ps m).nodes
     omega
   have h4:=h3 len;exact⟨by omega,by omega⟩
  have hA0:=hAt.kept K0.bl;unfold tyO at K0 hA0;simp only[Ty.k,Ty.l,Ty.h,Ty.e,Ty.ao,Ty.len,Ty.cap] at K0 hA0;have x2:((w.alloc (.cells #[.int .i64 k,.int .i64 l,.slice ao len cap,.int .i64 h,.int .i64 e] 38)).alloc (.cells #[.int .i64 0,.int .i64 0,.slice none 0 0,.int .i64 0,.int .i64 0] 38)).cell? ⟨w.heap.size,2,none⟩=some (.slice ao len cap):=K0.x.c2;clear hAt hN;go_enter Tryz.func54,Tryz.ntmps54
  go_wp2;clear x2;generalize ((w.alloc (.cells #[.int .i64 k,.int .i64 l,.slice ao len cap,.int .i64 h,.int .i64 e] 38)).alloc (.cells #[.int .i64 0,.int .i64 0,.slice none 0 0,.int .i64 0,.int .i64 0] 38))=w0 at K0 hA0 ⊢;obtain⟨i0,hi,hz0,hz1,hz2⟩:=info_parts Tryz.infoTy;go_loopw [3,9] (fun sv i wr=>∃(j:Nat) (v:Value) (ts:Nat→Ty),j≤len∧v=sv∧i=.int .i64 j∧GRow w0 wr v j ts∧∀i,i<j→(ts i).same (ps i)=true) (fun _ i _=>len - (intOf i).toNat)
  case atStart=>exact⟨0,_,fun _=>.dm,Nat.zero_le _,rfl,rfl,GRow.start _ _,fun _ h=>absurd h (Nat.not_lt_zero _)⟩
  case round =>
   obtain⟨j,v,ts,hj,hv,rfl,hR,hsame⟩:=hrel;subst hv;have HS:Hid (∀i,i<j→(ts i).same (ps i)=true):=hsame;clear hsame;by_cases hlt:j<len
   ·have ij:(j:Int)<len:=by omega
    have a0:=hnil (by omega);subst a0;have hA:=hA0.kept hR.bl;have C:C5 wr b (o+j*5) (ps j):=hA.cells hlt;have P:(ps j).At wr:=hA.part hlt;have Ba:=zac wr (.cells #[.int .i64 (ps j).k,.int .i64 (ps j).l,.slice (ps j).ao (ps j).len (ps j).cap,.int .i64 (ps j).h,.int .i64 (ps j).e] 38);have y0:=C.c0;have y1:=C.c1;have y2:=C.c2;have y3:=C.c3;have y4:=C.c4;have hI:=ih j _ (HP.out j hlt).1 (P.kept Ba);have HR:Hid (GRow w0 wr v j ts):=hR;clear C hA hR P;go_wp2_with fail
    refine hI.mono ?_;intro r w1 hCP;obtain⟨u,rfl,uA,uB,uS,hb1⟩:=hCP;have HU:Hid (u.At w1∧u.Blk (fun b=>wr.heap.size≤b)∧u.same (ps j)=true∧Below wr.heap.size wr w1):=⟨uA,uB.mono (fun b hq=>Nat.le_trans Ba.size hq),uS,Below.next Ba hb1⟩;clear uA uB uS hb1 y0 y1 y2 y3 y4 hI Ba;have hownA:=zt8 HR.out.own (Below.next HU.out.2.2.2 (zac w1 (.cells #[.int .i64 u.k,.int .i64 u.l,.slice u.ao u.len u.cap,.int .i64 u.h,.int .i64 u.e] 38)));have j1000:=(HP.out j hlt).2;have hs0:w0.heap.size≤w1.heap.size:=Nat.le_trans HR.out.bl.size HU.out.2.2.2.size;go_wp2_with ((at_builtin;refine wpList_append_lies _ rfl _ _ 36 rfl w0.heap.size 38 i0 _ 5 56 Tryz.underlying36 hi hz0 hz1 hz2 rfl (by decide) v j (zai ts j) rfl hownA ⟨w1.heap.size,0,none⟩ 1 1 u.vs rfl rfl (World.news_of_block (cs:=#[.int .i64 u.k,.int .i64 u.l,.slice u.ao u.len u.cap,.int .i64 u.h,.int .i64 u.e]) (t:=38) (fr:=(0,0)) (heap_alloc_new w1 _)) (by intro x hx;simp[Ty.vs] at hx;rcases hx with rfl | rfl | rfl | rfl | rfl <;> rfl) (by omega) (by unfold maxLen;omega) (by omega) (by rw[alloc_size];omega) (w1.heap.size+1) (alloc_size _ _) ?_;intro gg cap3 w3 hown3 hgrow hat hltg;have HG:Hid (GRow w0 w3 (.slice (some ⟨gg,0,none⟩) (j+1) cap3) (j+1) (fun i=>if i<j then ts i else u)):=HR.out.push HU.out.2.2.2 HU.out.1 HU.out.2.1 hown3 hgrow hat;clear hown3 hgrow hat hltg));go_roundw
    case rel=>exact⟨j+1,_,_,by omega,rfl,by go_num,HG.out,fun i hi=>by
      by_cases hij:i<j
      ·simp only[hij,if_true];exact HS.out i hij
      ·have e:i=j:=by omega
       subst e;simp only[Nat.lt_irrefl,if_false];exact HU.out.2.2.1⟩
    case measure=>simp[intOf];omega
   ·have e:len=j:=by omega
    subst e;have dl:¬(len:Int)<len:=by omega
    obtain⟨gao,gg,gcap,rfl,hTy⟩:=hR.ty hb;have x0:wr.cell? ⟨w.heap.size,0,none⟩=some (.int .i64 k):=up hR.bl K0.x.c0;have x1:wr.cell? ⟨w.heap.size,1,none⟩=some (.int .i64 l):=up hR.bl K0.x.c1;have x2:wr.cell? ⟨w.heap.size,2,none⟩=some (.slice ao len cap):=up hR.bl K0.x.c2;have x3:wr.cell? ⟨w.heap.size,3,none⟩=some (.int .i64 h):=up hR.bl K0.x.c3;have x4:wr.cell? ⟨w.heap.size,4,none⟩=some (.int .i64 e):=up hR.bl K0.x.c4;have f2:=(hR.bl.frozen (p:=⟨w.heap.size,2,none⟩) (by have:=K0.sz;show w.heap.size<_;omega)).trans (K0.fx 2 (by omega))
    obtain⟨r0,hr0⟩:=Option.isSome_iff_exists.1 (K0.r 0 (by omega));have s0:=up hR.bl hr0;have t0:=(hR.bl.frozen (p:=⟨w.heap.size+1,0,none⟩) (by have:=K0.sz;show w.heap.size+1<_;omega)).trans (K0.fr 0 (by omega))
    obtain⟨r1,hr1⟩:=Option.isSome_iff_exists.1 (K0.r 1 (by omega));have s1:=up hR.bl hr1;have t1:=(hR.bl.frozen (p:=⟨w.heap.size+1,1,none⟩) (by have:=K0.sz;show w.heap.size+1<_;omega)).trans (K0.fr 1 (by omega))
    obtain⟨r2,hr2⟩:=Option.isSome_iff_exists.1 (K0.r 2 (by omega));have s2:=up hR.bl hr2;have t2:=(hR.bl.frozen (p:=⟨w.heap.size+1,2,none⟩) (by have:=K0.sz;show w.heap.size+1<_;omega)).trans (K0.fr 2 (by omega))
    obtain⟨r3,hr3⟩:=Option.isSome_iff_exists.1 (K0.r 3 (by omega));have s3:=up hR.bl hr3;have t3:=(hR.bl.frozen (p:=⟨w.heap.size+1,3,none⟩) (by have:=K0.sz;show w.heap.size+1<_;omega)).trans (K0.fr 3 (by omega))
    obtain⟨r4,hr4⟩:=Option.isSome_iff_exists.1 (K0.r 4 (by omega));have s4:=up hR.bl hr4;have t4:=(hR.bl.frozen (p:=⟨w.heap.size+1,4,none⟩) (by have:=K0.sz;show w.heap.size+1<_;omega)).trans (K0.fr 4 (by omega))
    have HT:Hid (Ty.At wr (.mk k l h e gao gg 0 len gcap ts)∧Ty.Blk (fun b=>w0.heap.size≤b) (.mk k l h e gao gg 0 len gcap ts)):=hTy k l h e;have HB:Hid (Below w.heap.size w wr∧w0.heap.size=w.heap.size+2):=⟨K0.bl.trans (hR.bl.mono (by have:=K0.bl.size;omega)),K0.sz⟩
    clear hR hTy K0 hA0 hr0 hr1 hr2 hr3 hr4;go_wp2;refine bodyPost_ret (v:=.agg #[.int .i64 k,.int .i64 l,.slice gao len gcap,.int .i64 h,.int .i64 e]) (by simp[results,Tryz.results54,go_sem,s0,s1,s2,s3,s4]) rfl (CP.intro (.mk k l h e gao gg 0 len gcap ts) rfl ?_ (HT.out.2.mono (fun b hq=>by have:=HB.out.2;omega)) ((za4 _ _).2 ⟨⟨rfl,rfl,rfl,rfl,rfl⟩,HS.out⟩) ?_)
    ·refine Ty.At.agree (fun b hq=>?_) HT.out.1 HT.out.2;have:=HB.out.2;rw[Below.heap_setCell _ _ _ _ (by show b≠w.heap.size+1;omega),Below.heap_setCell _ _ _ _ (by show b≠w.heap.size+1;omega),Below.heap_setCell _ _ _ _ (by show b≠w.heap.size+1;omega),Below.heap_setCell _ _ _ _ (by show b≠w.heap.size+1;omega),Below.heap_setCell _ _ _ _ (by show b≠w.heap.size+1;omega),Below.heap_setCell _ _ _ _ (by show b≠w.heap.size;omega)]
    ·exact (((((HB.out.1.setCell (Nat.le_refl _) _).setCell (Nat.le_succ _) _).setCell (Nat.le_succ _) _).setCell (Nat.le_succ _) _).setCell (Nat.le_succ _) _).setCell (Nat.le_succ _) _
def World.put5 (w:World)(B:Nat)(v0 v1 v2 v3 v4:Value):World:=((((w.setCell ⟨B,0,none⟩ v0).setCell ⟨B,1,none⟩ v1).setCell ⟨B,2,none⟩ v2).setCell ⟨B,3,none⟩ v3).setCell ⟨B,4,none⟩ v4
theorem zho (w:World)(B:Nat)(v0 v1 v2 v3 v4:Value){b:Nat}(h:b≠B):(World.put5 w B v0 v1 v2 v3 v4).heap[b]?=w.heap[b]?:=by
 unfold World.put5;rw[Below.heap_setCell _ _ _ _ h,Below.heap_setCell _ _ _ _ h,Below.heap_setCell _ _ _ _ h,Below.heap_setCell _ _ _ _ h,Below.heap_setCell _ _ _ _ h]
theorem zd1 {w w1:World}{B:Nat}(hB:w.heap.size≤B)(h:Below w.heap.size w w1)(v0 v1 v2 v3 v4:Value):Below w.heap.size w (World.put5 w1 B v0 v1 v2 v3 v4) :=
 ((((h.setCell hB _).setCell hB _).setCell hB _).setCell hB _).setCell hB _
theorem zod (w:World)(B:Nat)(v0 v1 v2 v3 v4:Value)(a:Addr):(World.put5 w B v0 v1 v2 v3 v4).frozen? a=w.frozen? a:=by
 unfold World.put5;rw[World.frozen?_setCell,World.frozen?_setCell,World.frozen?_setCell,World.frozen?_setCell,World.frozen?_setCell]
theorem zd2 {w:World}{B:Nat}(v0 v1 v2 v3 v4:Value){t:Ty}(h:Bx w B t)(hf:∀i,i<5→w.frozen? ⟨B,i,none⟩=false):(World.put5 w B v0 v1 v2 v3 v4).cell? ⟨B,0,none⟩=some v0∧(World.put5 w B v0 v1 v2 v3 v4).cell? ⟨B,1,none⟩=some v1∧(World.put5 w B v0 v1 v2 v3 v4).cell? ⟨B,2,none⟩=some v2∧(World.put5 w B v0 v1 v2 v3 v4).cell? ⟨B,3,none⟩=some v3∧(World.put5 w B v0 v1 v2 v3 v4).cell? ⟨B,4,none⟩=some v4:=by
 have key:=World.rangeAt_setCells_same w B 0 [v0,v1,v2,v3,v4] (fun j hj=>?_)
 ·exact⟨key 0 v0 rfl,key 1 v1 rfl,key 2 v2 rfl,key 3 v3 rfl,key 4 v4 rfl⟩
 ·have hj':j<5:=hj;rw[Nat.zero_add];refine⟨?_,hf j hj'⟩
  match j,hj' with
  | 0,_=>rw[h.c0];rfl
  | 1,_=>rw[h.c1];rfl
  | 2,_=>rw[h.c2];rfl
  | 3,_=>rw[h.c3];rfl
  | 4,_=>rw[h.c4];rfl
theorem zcx {w:World}{ops:Array Oper}{rest:List Oper}{o:Oper}{a:Act}{Q:Exit→Act→World→Prop}(hgd:o.guard=none)(hdst:o.dst=none)(p x:Operand)(ho:o.op=.store 38 p x)(B:Nat)(v0 v1 v2 v3 v4:Value)
  (hp:a.eval p=.pointer (some ⟨B,0,none⟩)) (hx:a.eval x=.agg #[v0,v1,v2,v3,v4]) (h0:v0.oneCell'=true) (h1:v1.oneCell'=true) (h2:v2.oneCell'=true) (h3:v3.oneCell'=true) (h4:v4.oneCell'=true) {t:Ty} (hb:Bx w B t) (hf:∀i,i<5→w.frozen? ⟨B,i,none⟩=false)
  (h:wpList Tryz.prog ops Q rest a (World.put5 w B v0 v1 v2 v3 v4)):wpList Tryz.prog ops Q (o :: rest) a w:=by
 refine wpList_store_mid hgd 38 p x ho B 0 #[v0,v1,v2,v3,v4] hp hx (fun j hj=>?_) (by kernel_rfl) (by simp[h0,h1,h2,h3,h4]) ?_
 ·have hj':j<5:=hj;rw[Nat.zero_add];refine⟨?_,hf j hj'⟩
  match j,hj' with
  | 0,_=>rw[hb.c0];rfl
  | 1,_=>rw[hb.c1];rfl
  | 2,_=>rw[hb.c2];rfl
  | 3,_=>rw[hb.c3];rfl
  | 4,_=>rw[hb.c4];rfl
 ·rw[hdst];exact h
def Ty.setL (j:Int):Ty→Ty
 | .dm=>.dm
 | .mk k _ h e ao b o len cap ps=>.mk k j h e ao b o len cap ps
theorem zw0 {w:World}{j:Int}:∀{t:Ty},t.At w→(t.setL j).At w
 | .dm,h=>h
 | .mk _ _ _ _ _ _ _ _ _ _,h=>h
theorem zt1 {Q:Nat→Prop}{j:Int}:∀{t:Ty},t.Blk Q→(t.setL j).Blk Q
 | .dm,h=>h
 | .mk _ _ _ _ _ _ _ _ _ _,h=>h
theorem setL_v {w:World}{j:Int}:∀{t:Ty},t.At w→(t.setL j).k=t.k∧(t.setL j).l=j∧(t.setL j).ao=t.ao∧(t.setL j).len=t.len∧(t.setL j).cap=t.cap∧(t.setL j).h=t.h∧(t.setL j).e=t.e
 | .dm,h=>h.elim
 | .mk _ _ _ _ _ _ _ _ _ _,_=>⟨rfl,rfl,rfl,rfl,rfl,rfl,rfl⟩
theorem zsu {w w':World}{j:Int}:∀{s t:Ty},s.At w→t.At w'→s.same t=true→(s.setL j).same (t.setL j)=true
 | .dm,_,h,_,_=>h.elim
 | .mk _ _ _ _ _ _ _ _ _ _,.dm,_,h,_=>h.elim
 | .mk _ _ _ _ _ _ _ _ _ _,.mk _ _ _ _ _ _ _ _ _ _,_,_,h=>by
  rw[za4] at h ⊢;exact⟨⟨h.1.1,rfl,h.1.2.2⟩,h.2⟩
theorem Bx.agree {w w':World}{B:Nat}{t:Ty}(h:Bx w B t)(e:w'.heap[B]?=w.heap[B]?):Bx w' B t :=
 ⟨(World.cell?_of_block (w:=w) e).trans h.c0,(World.cell?_of_block (w:=w) e).trans h.c1,(World.cell?_of_block (w:=w) e).trans h.c2,(World.cell?_of_block (w:=w) e).trans h.c3,(World.cell?_of_block (w:=w) e).trans h.c4⟩
def zak (n:Strs)(g:Grid)(t:Ty)(a:Int):Ty:=if (okB n g t&&inR n.len a)=true then t.setL (zb3 n g t.l a) else zaa 0 0
def RP (w:World)(r:Ty)(e:Ending)(w':World):Prop :=
 ∃u:Ty,e=.returned (.agg #[.int .i64 u.k,.int .i64 u.l,.slice u.ao u.len u.cap,.int .i64 u.h,.int .i64 u.e])∧u.At w'∧u.Blk (fun b=>w.heap.size≤b)∧u.same r=true∧Below w.heap.size w w'
theorem RP.intro {w:World}{r:Ty}{e:Ending}{w':World}(u:Ty)(h1:e=.returned (.agg #[.int .i64 u.k,.int .i64 u.l,.slice u.ao u.len u.cap,.int .i64 u.h,.int .i64 u.e]))(h2:u.At w')(h3:u.Blk (fun b=>w.heap.size≤b))(h4:u.same r=true)(h5:Below w.heap.size w w'):RP w r e w':=⟨u,h1,h2,h3,h4,h5⟩
structure RBox (w w0:World)(n:Strs)(g:Grid)(t:Ty):Prop where
 bl:Below w.heap.size w w0
 sz:w.heap.size+3≤w0.heap.size
 l:Bl w0 w.heap.size n g
 x:Bx w0 (w.heap.size+1) t
 fx:∀i,i<5→w0.frozen? ⟨w.heap.size+1,i,none⟩=false
 r:Bx w0 (w.heap.size+2) (zaa 0 0)
 fr:∀i,i<5→w0.frozen? ⟨w.heap.size+2,i,none⟩=false
theorem RBox.step {w w0 w1:World}{n:Strs}{g:Grid}{t:Ty}(h:RBox w w0 n g t)(hb:Below w0.heap.size w0 w1):RBox w w1 n g t :=
 ⟨h.bl.trans (hb.mono (by have:=h.sz;omega)),Nat.le_trans h.sz hb.size,h.l.kept hb,h.x.kept hb,fun i hi=>(hb.frozen (p:=⟨w.heap.size+1,i,none⟩) (by have:=h.sz;show w.heap.size+1<_;omega)).trans (h.fx i hi),h.r.kept hb,fun i hi=>(hb.frozen (p:=⟨w.heap.size+2,i,none⟩) (by have:=h.sz;show w.heap.size+2<_;omega)).trans (h.fr i hi)⟩
theorem zj7 (w:World)(c:Array Value)(t:TypeId)(i:Nat):(w.alloc (.cells c t)).frozen? ⟨w.heap.size,i,none⟩=false:=by simp
theorem zt3 (w:World)(n:Strs)(g:Grid)(t:Ty):RBox w (((w.alloc (latO n g)).alloc (tyO t)).alloc (.cells #[.int .i64 0,.int .i64 0,.slice none 0 0,.int .i64 0,.int .i64 0] 38)) n g t:=by
 obtain⟨L0,X0,B0⟩:=zfj w n g t;have ba:=zac ((w.alloc (latO n g)).alloc (tyO t)) (.cells #[.int .i64 0,.int .i64 0,.slice none 0 0,.int .i64 0,.int .i64 0] 38);have e1:(w.alloc (latO n g)).heap.size=w.heap.size+1:=alloc_size _ _;have e2:((w.alloc (latO n g)).alloc (tyO t)).heap.size=w.heap.size+2:=by rw[alloc_size,e1]
 refine⟨Below.next B0 ba,by rw[alloc_size,e2];omega,L0.kept ba,X0.kept ba,fun i hi=>?_,?_,fun i hi=>?_⟩
 ·rw[ba.frozen (p:=⟨w.heap.size+1,i,none⟩) (by rw[e2];exact Nat.lt_succ_self _),←e1]
  simp[tyO]
 ·rw[←e2];exact Bx.new _ (zaa 0 0)
 ·rw[←e2];exact zj7 _ _ _ _
theorem zti {n:Strs}{g:Grid}{a b:Int}(h:inR n.len b=false):zb3 n g a b=-1:=by
 unfold zb3;rw[if_neg];intro hh;rw[Bool.and_eq_true,Bool.and_eq_true] at hh;have:labB n b=inR n.len b:=rfl;rw[this,h] at hh;exact Bool.noConfusion hh.1.2
theorem zrm {n:Strs}{g:Grid}{t:Ty}{b:Int}(hk:okB n g t=true)(h:inR n.len b=true):(zb3 n g t.l b==-1)=false:=by
 unfold okB at hk;rw[Bool.and_eq_true] at hk;obtain⟨x,hx,hx1⟩:=(zgm hk.2).lab;obtain⟨y,hy,hy1⟩:=zb6 h;rw[hx,hy,zfr hk.1 hx1 hy1];simp
theorem zhf (n:Strs)(g:Grid)(t:Ty)(a:Int)(w:World)(hn:n.At w)(hg:g.At w)(ht:t.At w) :
  Calls Tryz.prog 21 #[.agg #[.slice n.ao n.len n.cap,.slice g.ao g.len g.cap],.agg #[.int .i64 t.k,.int .i64 t.l,.slice t.ao t.len t.cap,.int .i64 t.h,.int .i64 t.e],.int .i64 a] w fun e w'=>RP w (zak n g t a) e w':=by
 have K0:=zt3 w n g t;unfold latO tyO at K0;have l0:=K0.l.c0;have l1:=K0.l.c1;have x1:=K0.x.c1;go_enter Tryz.func21,Tryz.ntmps21
 go_wp2_with fail
 refine (ze5 n g t.l a _ (hn.kept K0.bl) (hg.kept K0.bl)).mono ?_;rintro e w1 ⟨rfl,hb1⟩;have K1:=K0.step hb1;clear K0 hb1 l0 l1 x1;have HN:Hid (n.At w∧g.At w∧t.At w):=⟨hn,hg,ht⟩;clear hn hg ht;cases hj:(zb3 n g t.l a==-1)
 ·have HJ:Hid ((zb3 n g t.l a==-1)=false):=hj;have l0:=K1.l.c0;have l1:=K1.l.c1;have x0:=K1.x.c0;have x1:=K1.x.c1;have x2:=K1.x.c2;have x3:=K1.x.c3;have x4:=K1.x.c4;go_wp2_with fail
  refine (ziv n g t _ (HN.out.1.kept K1.bl) (HN.out.2.1.kept K1.bl) (HN.out.2.2.kept K1.bl)).mono ?_;rintro e w2 ⟨rfl,hb2⟩;have K2:=K1.step hb2;clear K1 hb2 l0 l1 x0 x1 x2 x3 x4;cases hok:okB n g t
  ·have HE:Hid (zak n g t a=zaa 0 0):=by show zak n g t a=_;unfold zak;rw[hok];rfl
   clear hj;have RB:=K2.r;have RF:=K2.fr;obtain⟨e0,e1,e2,e3,e4⟩:=zd2 (.int .i64 0) (.int .i64 0) (.slice none 0 0) (.int .i64 0) (.int .i64 0) RB RF;go_wp2_with (refine zcx rfl rfl _ _ rfl (w.heap.size+2) _ _ _ _ _ rfl rfl rfl rfl rfl rfl rfl RB RF ?_)
   exact bodyPost_ret (v:=.agg #[.int .i64 0,.int .i64 0,.slice none 0 0,.int .i64 0,.int .i64 0]) (by simp[results,Tryz.results21,go_sem,e0,e1,e2,e3,e4]) rfl (RP.intro (zaa 0 0) rfl (zav _ _ _) ⟨fun h=>absurd h (Nat.lt_irrefl _),fun _ h=>absurd h (Nat.not_lt_zero _)⟩ (by rw[HE.out];exact zaj _) (zd1 (by omega) K2.bl _ _ _ _ _))
  ·have HK:Hid (okB n g t=true):=hok;have HE:Hid (zak n g t a=t.setL (zb3 n g t.l a)):=by
    show zak n g t a=_
    unfold zak;cases hi:inR n.len a
    ·rw[zti hi] at hj;cases hj
    ·rw[hok];rfl
   have hnod:t.nodes≤1000:=by
    unfold okB at hok;rw[Bool.and_eq_true] at hok;have:=(zdm hok.2).2;omega
   have hC:=zqf t w2 hnod (HN.out.2.2.kept K2.bl);clear hj hok hnod;generalize zb3 n g t.l a=jn at HE HJ ⊢;have x0:=K2.x.c0;have x1:=K2.x.c1;have x2:=K2.x.c2;have x3:=K2.x.c3;have x4:=K2.x.c4;go_wp2_with fail
   refine hC.mono ?_;intro e w3 hCP;obtain⟨u,rfl,uA,uB,uS,hb3⟩:=hCP;have K3:=K2.step hb3;have HU:Hid (u.At w3∧u.Blk (fun b=>w.heap.size+3≤b)∧u.same t=true):=⟨uA,uB.mono (fun b hq=>Nat.le_trans K2.sz hq),uS⟩;clear hC K2 hb3 uA uB uS x0 x1 x2 x3 x4;dsimp only
   rename_i K a1
   refine a1 _ _ ?_;refine zcx rfl rfl _ _ rfl (w.heap.size+1) _ _ _ _ _ rfl rfl rfl rfl rfl rfl rfl K3.x K3.fx ?_;obtain⟨p0,p1,p2,p3,p4⟩:=zd2 (.int .i64 u.k) (.int .i64 u.l) (.slice u.ao u.len u.cap) (.int .i64 u.h) (.int .i64 u.e) K3.x K3.fx;have pf:∀a,(World.put5 w3 (w.heap.size+1) (.int .i64 u.k) (.int .i64 u.l) (.slice u.ao u.len u.cap) (.int .i64 u.h) (.int .i64 u.e)).frozen? a=w3.frozen? a:=fun a=>zod _ _ _ _ _ _ _ _;have ph:∀b,b≠w.heap.size+1→(World.put5 w3 (w.heap.size+1) (.int .i64 u.k) (.int .i64 u.l) (.slice u.ao u.len u.cap) (.int .i64 u.h) (.int .i64 u.e)).heap[b]?=w3.heap[b]?:=fun b hb=>zho _ _ _ _ _ _ _ hb;have pb:Below w.heap.size w (World.put5 w3 (w.heap.size+1) (.int .i64 u.k) (.int .i64 u.l) (.slice u.ao u.len u.cap) (.int .i64 u.h) (.int .i64 u.e)):=zd1 (by omega) K3.bl _ _ _ _ _;generalize World.put5 w3 (w.heap.size+1) (.int .i64 u.k) (.int .i64 u.l) (.slice u.ao u.len u.cap) (.int .i64 u.h) (.int .i64 u.e)=X at p0 p1 p2 p3 p4 pf ph pb ⊢;have hz:(X.setCell ⟨w.heap.size+1,1,none⟩ (.int .i64 jn)).heap[w.heap.size+2]?=w3.heap[w.heap.size+2]?:=by
    rw[Below.heap_setCell _ _ _ _ (by show w.heap.size+2≠w.heap.size+1;omega),ph _ (by omega)]
   have RB:Bx (X.setCell ⟨w.heap.size+1,1,none⟩ (.int .i64 jn)) (w.heap.size+2) (zaa 0 0):=K3.r.agree hz;have RF:∀i,i<5→(X.setCell ⟨w.heap.size+1,1,none⟩ (.int .i64 jn)).frozen? ⟨w.heap.size+2,i,none⟩=false:=fun i hi=>by rw[World.frozen?_setCell,pf];exact K3.fr i hi
   have HB:Hid (Below w.heap.size w (World.put5 (X.setCell ⟨w.heap.size+1,1,none⟩ (.int .i64 jn)) (w.heap.size+2) (.int .i64 u.k) (.int .i64 jn) (.slice u.ao u.len u.cap) (.int .i64 u.h) (.int .i64 u.e))):=zd1 (by omega) (pb.setCell (by show w.heap.size≤w.heap.size+1;omega) _) _ _ _ _ _
   have HA:Hid ((u.setL jn).At (World.put5 (X.setCell ⟨w.heap.size+1,1,none⟩ (.int .i64 jn)) (w.heap.size+2) (.int .i64 u.k) (.int .i64 jn) (.slice u.ao u.len u.cap) (.int .i64 u.h) (.int .i64 u.e))) :=
    zw0 (Ty.At.agree (Q:=fun b=>w.heap.size+3≤b) (fun b hq=>by rw[zho _ _ _ _ _ _ _ (by omega),Below.heap_setCell _ _ _ _ (by show b≠w.heap.size+1;omega),ph _ (by omega)]) HU.out.1 HU.out.2.1)
   have pf1:X.frozen? ⟨w.heap.size+1,1,none⟩=false:=(pf _).trans (K3.fx 1 (by omega));have HR:Hid (Bx (X.setCell ⟨w.heap.size+1,1,none⟩ (.int .i64 jn)) (w.heap.size+2) (zaa 0 0)∧∀i,i<5→(X.setCell ⟨w.heap.size+1,1,none⟩ (.int .i64 jn)).frozen? ⟨w.heap.size+2,i,none⟩=false):=⟨RB,RF⟩;clear hz K3 pf ph pb RB RF;go_wp2_with (refine zcx rfl rfl _ _ rfl (w.heap.size+2) _ _ _ _ _ rfl rfl rfl rfl rfl rfl rfl HR.out.1 HR.out.2 ?_)
   obtain⟨e0,e1,e2,e3,e4⟩:=zd2 (.int .i64 u.k) (.int .i64 jn) (.slice u.ao u.len u.cap) (.int .i64 u.h) (.int .i64 u.e) HR.out.1 HR.out.2;have hv:=setL_v (j:=jn) HU.out.1;exact bodyPost_ret (v:=.agg #[.int .i64 u.k,.int .i64 jn,.slice u.ao u.len u.cap,.int .i64 u.h,.int .i64 u.e]) (by simp[results,Tryz.results21,go_sem,e0,e1,e2,e3,e4]) rfl (RP.intro (u.setL jn) (by rw[hv.1,hv.2.1,hv.2.2.1,hv.2.2.2.1,hv.2.2.2.2.1,hv.2.2.2.2.2.1,hv.2.2.2.2.2.2]) HA.out (zt1 (HU.out.2.1.mono (fun b hq=>by omega))) (by rw[HE.out];exact zsu HU.out.1 HN.out.2.2 HU.out.2.2) HB.out)
 ·have HE:Hid (zak n g t a=zaa 0 0):=by
   show zak n g t a=_
   unfold zak;cases hok:(okB n g t&&inR n.len a)
   ·rfl
   ·rw[Bool.and_eq_true] at hok;rw[zrm hok.1 hok.2] at hj;cases hj
  have RB:=K1.r;have RF:=K1.fr;obtain⟨e0,e1,e2,e3,e4⟩:=zd2 (.int .i64 0) (.int .i64 0) (.slice none 0 0) (.int .i64 0) (.int .i64 0) RB RF;go_wp2_with (refine zcx rfl rfl _ _ rfl (w.heap.size+2) _ _ _ _ _ rfl rfl rfl rfl rfl rfl rfl RB RF ?_)
  exact bodyPost_ret (v:=.agg #[.int .i64 0,.int .i64 0,.slice none 0 0,.int .i64 0,.int .i64 0]) (by simp[results,Tryz.results21,go_sem,e0,e1,e2,e3,e4]) rfl (RP.intro (zaa 0 0) rfl (zav _ _ _) ⟨fun h=>absurd h (Nat.lt_irrefl _),fun _ h=>absurd h (Nat.not_lt_zero _)⟩ (by rw[HE.out];exact zaj _) (zd1 (by omega) K1.bl _ _ _ _ _))
end
section
theorem zby:∀s t:Ty,s.same t=true→t.same s=true:=by
 intro s
 induction s with
 | dm =>
  intro t h;rw[za4] at h ⊢;exact⟨⟨h.1.1.symm,h.1.2.1.symm,h.1.2.2.1.symm,h.1.2.2.2.1.symm,h.1.2.2.2.2.symm⟩,fun i hi=>absurd hi (by rw[←h.1.2.2.2.2];exact Nat.not_lt_zero _)⟩
 | mk k l hh e ao b o len cap ps ih =>
  intro t h;rw[za4] at h ⊢;exact⟨⟨h.1.1.symm,h.1.2.1.symm,h.1.2.2.1.symm,h.1.2.2.2.1.symm,h.1.2.2.2.2.symm⟩,fun i hi=>ih i (t.ps i) (h.2 i (by rw[h.1.2.2.2.2];exact hi))⟩
theorem zhv {f h:Nat→Nat}:∀k,(∀i,i<k→f i=h i)→za3 f k=za3 h k
 | 0,_=>rfl
 | k+1,e=>by
  show za3 f k+f k=za3 h k+h k
  rw[zhv k (fun i hi=>e i (by omega)),e k (by omega)]
theorem zoz {N:Nat}{w w':World}:∀s t:Ty,s.At w→t.At w'→s.same t=true→(∀d,s.fm N d=t.fm N d)∧s.nodes=t.nodes:=by
 intro s
 induction s with
 | dm=>intro t h;exact h.elim
 | mk k l hh e ao b o len cap ps ih =>
  intro t hs ht h;rcases t with _ | ⟨tk,tl,th,te,tao,tb,to',tlen,tcap,tps⟩
  ·exact ht.elim
  rw[za4] at h;obtain⟨⟨h1,h2,h3,h4,h5⟩,h6⟩:=h;have h1':k=tk:=h1;have h2':l=tl:=h2;have h3':hh=th:=h3;have h4':e=te:=h4;have h5':len=tlen:=h5;subst h1' h2' h3' h4' h5';have sub:∀i,i<len→(∀d,(ps i).fm N d=(tps i).fm N d)∧(ps i).nodes=(tps i).nodes:=fun i hi=>ih i (tps i) (hs.part (i:=i) hi) (ht.part (i:=i) hi) (h6 i hi);refine⟨fun d=>?_,?_⟩
  ·rw[zeg,zeg]
   congr 1
   rw[decide_eq_decide];exact⟨fun hh i hi=>by rw[← (sub i hi).1];exact hh i hi,fun hh i hi=>by rw[(sub i hi).1];exact hh i hi⟩
  ·show 1+za3 (fun i=>(ps i).nodes) len=1+za3 (fun i=>(tps i).nodes) len
   rw[zhv len (fun i hi=>(sub i hi).2)]
theorem zpd {N:Nat}{w w':World}{s t:Ty}(hs:s.At w)(ht:t.At w')(h:s.same t=true):s.ok N=t.ok N:=by
 unfold Ty.ok;rw[(zoz (N:=N) s t hs ht h).1,(zoz (N:=N) s t hs ht h).2]
theorem zmn {N:Nat}{le:Nat→Nat→Bool}(P:Po N le):∀s t:Ty,Fd N s→Fd N t→s.same t=true→s.bel le true t=true∧t.bel le true s=true:=by
 intro s
 induction s with
 | dm=>intro t hs;exact absurd rfl hs.ne
 | mk k l hh e ao b o len cap ps ih =>
  intro t hs ht h;rw[za4] at h;obtain⟨⟨h1,h2,h3,h4,h5⟩,h6⟩:=h;have sub:∀i,i<(Ty.mk k l hh e ao b o len cap ps).len→(ps i).bel le true (t.ps i)=true∧(t.ps i).bel le true (ps i)=true:=fun i hi=>ih i (t.ps i) (hs.sub (i:=i) hi) (ht.sub (by omega)) (h6 i hi);obtain⟨x,hx,hx1⟩:=hs.lab;have two:(Ty.mk k l hh e ao b o len cap ps).k=3∨(Ty.mk k l hh e ao b o len cap ps).k=4→∀i,i<2→i<(Ty.mk k l hh e ao b o len cap ps).len:=fun h34 i hi=>by rw[hs.two h34];exact hi
  rw[zdr hs ht,zdr ht hs]
  constructor
  ·refine⟨h1,by rw[←h2,hx,Int.toNat_natCast];exact P.refl x hx1,fun h3'=>⟨(sub 0 (two (Or.inl h3') 0 (by omega))).1,(sub 1 (two (Or.inl h3') 1 (by omega))).1⟩,fun h4'=>⟨⟨(sub 0 (two (Or.inr h4') 0 (by omega))).2,(sub 1 (two (Or.inr h4') 1 (by omega))).1⟩,?_,?_⟩,fun h5'=>h6 0 (by rw[hs.one h5'];omega)⟩
   ·obtain⟨y,hy,hy1⟩:=hs.heap h4';rw[←h3,hy,Int.toNat_natCast];exact P.refl y hy1
   ·rw[←h4];exact zne P (hs.exc h4')
  ·refine⟨h1.symm,by rw[←h2,hx,Int.toNat_natCast];exact P.refl x hx1,fun h3'=>?_,fun h4'=>?_,fun h5'=>?_⟩
   ·have q:(Ty.mk k l hh e ao b o len cap ps).k=3:=h1.trans h3';exact⟨(sub 0 (two (Or.inl q) 0 (by omega))).2,(sub 1 (two (Or.inl q) 1 (by omega))).2⟩
   ·have q:(Ty.mk k l hh e ao b o len cap ps).k=4:=h1.trans h4';refine⟨⟨(sub 0 (two (Or.inr q) 0 (by omega))).1,(sub 1 (two (Or.inr q) 1 (by omega))).2⟩,?_,?_⟩
    ·obtain⟨y,hy,hy1⟩:=hs.heap q;rw[←h3,hy,Int.toNat_natCast];exact P.refl y hy1
    ·rw[←h4];exact zne P (hs.exc q)
   ·have q:(Ty.mk k l hh e ao b o len cap ps).k=5:=h1.trans h5';exact zby _ _ (h6 0 (by rw[hs.one q];omega))
end
section
open Go.RowKit
def fnd (Q:List (List Int))(n:List Int):Int:=if n ∈ Q then (Q.idxOf n:Int) else -1
theorem zki {Q:List (List Int)}{n:List Int}(h:fnd Q n≠-1):∃i:Nat,fnd Q n=i∧Q[i]?=some n:=by
 unfold fnd at h ⊢;by_cases hn:n ∈ Q
 ·rw[if_pos hn];refine⟨Q.idxOf n,rfl,?_⟩;have hl:=List.idxOf_lt_length_of_mem hn;rw[List.getElem?_eq_getElem hl,List.getElem_idxOf hl]
 ·rw[if_neg hn] at h;exact absurd rfl h
theorem fnd_of {Q:List (List Int)}{n:List Int}{i:Nat}(hQ:∀(i j:Nat) (n:List Int),Q[i]?=some n→Q[j]?=some n→i=j)(h:Q[i]?=some n):fnd Q n=i:=by
 have hn:n ∈ Q:=List.mem_of_getElem? h;have hl:=List.idxOf_lt_length_of_mem hn;unfold fnd;rw[if_pos hn];have:=hQ (Q.idxOf n) i n (by rw[List.getElem?_eq_getElem hl,List.getElem_idxOf hl]) h;rw[this]
theorem zrl {Q:List (List Int)}{n:List Int}(h:fnd Q n=-1):n ∉ Q:=by
 intro hn;unfold fnd at h;rw[if_pos hn] at h;omega
def plc (Q:List (List Int)):Ty→Nat→Int
 | .dm,_=>-1
 | .mk k l h e _ _ _ len _ ps,d =>
  if 6<d∨2<len then -1 else if 0<len∧plc Q (ps 0) (d+1)=-1 then -1 else if 1<len∧plc Q (ps 1) (d+1)=-1 then -1
  else fnd Q [k,l,h,e,if 0<len then plc Q (ps 0) (d+1) else -1,if 1<len then plc Q (ps 1) (d+1) else -1]
def Prt (R:List Ty)(i:Nat)(t:Ty)(j:Nat)(p:Int):Prop :=
 (j<t.len→∃(a:Nat) (s:Ty),p=a∧a<i∧R[a]?=some s∧s.same (t.ps j)=true)∧(¬j<t.len→p=-1)
structure Good (N:Nat)(R:List Ty)(Q:List (List Int)):Prop where
 len:Q.length=R.length
 ok:∀t ∈ R,t.ok N=true
 ent:∀(i:Nat) (t:Ty),R[i]?=some t→∃p q,Q[i]?=some [t.k,t.l,t.h,t.e,p,q]∧Prt R i t 0 p∧Prt R i t 1 q
 dis:∀(i j:Nat) (s t:Ty),R[i]?=some s→R[j]?=some t→s.same t=true→i=j
theorem Good.nil (N:Nat):Good N [] []:=⟨rfl,by simp,by simp,by simp⟩
theorem zf9 {N:Nat}:∀{t:Ty} {d:Nat},t.fm N d=true→d≤6∧(t.len:Int)=zaz t.k∧t.len≤2∧∀i,i<t.len→(t.ps i).fm N (d+1)=true
 | .dm,_,h=>by simp[Ty.fm] at h
 | .mk k l hh e ao b o len cap ps,d,h=>by
  rw[zeg] at h;simp only[Bool.and_eq_true,decide_eq_true_eq,beq_iff_eq] at h;obtain⟨⟨⟨⟨h1,h2⟩,h3⟩,h4⟩,h5⟩:=h;refine⟨h1,h2,?_,h5⟩;show len≤2
  unfold zaz at h2;repeat' split at h2
  all_goals omega
theorem zc8 {N:Nat}{t:Ty}(h:t.ok N=true):t.fm N 1=true∧t.nodes≤40:=by
 unfold Ty.ok at h
 simpa using h
theorem zox {N:Nat}:∀{t:Ty} {d:Nat},t.fm N (d+1)=true→t.fm N d=true
 | .dm,_,h=>by simp[Ty.fm] at h
 | .mk k l hh e ao b o len cap ps,d,h=>by
  rw[zeg] at h ⊢;simp only[Bool.and_eq_true,decide_eq_true_eq,beq_iff_eq] at h ⊢;obtain⟨⟨⟨⟨h1,h2⟩,h3⟩,h4⟩,h5⟩:=h;exact⟨⟨⟨⟨by omega,h2⟩,h3⟩,h4⟩,fun i hi=>zox (h5 i hi)⟩
theorem zxf {N:Nat}:∀{t:Ty},t.ok N=true→∀i,i<t.len→(t.ps i).ok N=true
 | .dm,h,_,hi=>absurd hi (Nat.not_lt_zero _)
 | .mk k l hh e ao b o len cap ps,h,i,hi=>by
  obtain⟨h1,h2⟩:=zc8 h;have h3:=(zf9 h1).2.2.2 i hi;unfold Ty.ok;rw[zox h3];have h4:=zge (fun i=>(ps i).nodes) hi;have h5:(Ty.mk k l hh e ao b o len cap ps).nodes=1+za3 (fun i=>(ps i).nodes) len:=rfl;have h6:(Ty.mk k l hh e ao b o len cap ps).ps i=ps i:=rfl;simp only[Bool.true_and,decide_eq_true_eq];rw[h6];have h7:(Ty.mk k l hh e ao b o len cap ps).len=len:=rfl;rw[h7] at h4;omega
theorem Good.at_ {N:Nat}{R:List Ty}{Q:List (List Int)}(G:Good N R Q){i:Nat}{n:List Int}(h:Q[i]?=some n):∃t,R[i]?=some t:=by
 have hl:=(List.getElem?_eq_some_iff.1 h).1;rw[G.len] at hl;exact⟨R[i],List.getElem?_eq_getElem hl⟩
theorem zg2 {s t:Ty}(h1:s.k=t.k)(h2:s.l=t.l)(h3:s.h=t.h)(h4:s.e=t.e)(h5:s.len=t.len)(h6:∀i,i<s.len→(s.ps i).same (t.ps i)=true):s.same t=true:=(za4 s t).2 ⟨⟨h1,h2,h3,h4,h5⟩,h6⟩
theorem Good.uniq {N:Nat}{R:List Ty}{Q:List (List Int)}(G:Good N R Q)(i j:Nat)(n:List Int)(hi:Q[i]?=some n)(hj:Q[j]?=some n):i=j:=by
 obtain⟨s,hs⟩:=G.at_ hi;obtain⟨t,ht⟩:=G.at_ hj;obtain⟨p,q,h1,h2,h3⟩:=G.ent i s hs;obtain⟨p',q',k1,k2,k3⟩:=G.ent j t ht;rw[hi] at h1;rw[hj] at k1;have e:=h1.symm.trans k1;simp only[Option.some.injEq,List.cons.injEq,and_true] at e;obtain⟨e1,e2,e3,e4,e5,e6⟩:=e;subst e5 e6;have ks:=zf9 (zc8 (G.ok s (List.mem_of_getElem? hs))).1;have kt:=zf9 (zc8 (G.ok t (List.mem_of_getElem? ht))).1;have el:s.len=t.len:=by
  have a:=ks.2.1;have b:=kt.2.1;rw[e1] at a;omega
 refine G.dis i j s t hs ht (zg2 e1 e2 e3 e4 el fun m hm=>?_);have hm2:m=0∨m=1:=by have:=ks.2.2.1;omega
 rcases hm2 with rfl | rfl
 ·obtain⟨a,u,ha,_,hu,hus⟩:=h2.1 hm;obtain⟨a',u',ha',_,hu',hus'⟩:=k2.1 (el ▸ hm);have:a=a':=by omega
  subst this;rw[hu] at hu';cases hu'
  exact zar _ _ _ (zby _ _ hus) hus'
 ·obtain⟨a,u,ha,_,hu,hus⟩:=h3.1 hm;obtain⟨a',u',ha',_,hu',hus'⟩:=k3.1 (el ▸ hm);have:a=a':=by omega
  subst this;rw[hu] at hu';cases hu'
  exact zar _ _ _ (zby _ _ hus) hus'
theorem Good.found {N:Nat}{R:List Ty}{Q:List (List Int)}(G:Good N R Q){t:Ty}{p q:Int}{i m m':Nat}(hl:t.len≤2)(hp:Prt R m t 0 p)(hq:Prt R m' t 1 q)(h:Q[i]?=some [t.k,t.l,t.h,t.e,p,q]):∃s,R[i]?=some s∧s.same t=true:=by
 obtain⟨s,hs⟩:=G.at_ h;obtain⟨p',q',h1,h2,h3⟩:=G.ent i s hs;have e:=h1.symm.trans h;simp only[Option.some.injEq,List.cons.injEq,and_true] at e;obtain⟨e1,e2,e3,e4,e5,e6⟩:=e;subst e5 e6;have ks:=zf9 (zc8 (G.ok s (List.mem_of_getElem? hs))).1;have el:s.len=t.len:=by
  have a0:0<s.len↔0<t.len:=by
   constructor
   ·intro h0;obtain⟨a,_,ha,_⟩:=h2.1 h0;apply Classical.byContradiction
    intro hn;have:=hp.2 hn;omega
   ·intro h0;obtain⟨a,_,ha,_⟩:=hp.1 h0;apply Classical.byContradiction
    intro hn;have:=h2.2 hn;omega
  have a1:1<s.len↔1<t.len:=by
   constructor
   ·intro h0;obtain⟨a,_,ha,_⟩:=h3.1 h0;apply Classical.byContradiction
    intro hn;have:=hq.2 hn;omega
   ·intro h0;obtain⟨a,_,ha,_⟩:=hq.1 h0;apply Classical.byContradiction
    intro hn;have:=h3.2 hn;omega
  have:=ks.2.2.1;omega
 refine⟨s,hs,zg2 e1 e2 e3 e4 el fun m hm=>?_⟩;have hm2:m=0∨m=1:=by have:=ks.2.2.1;omega
 rcases hm2 with rfl | rfl
 ·obtain⟨a,u,ha,_,hu,hus⟩:=h2.1 hm;obtain⟨a',u',ha',_,hu',hus'⟩:=hp.1 (el ▸ hm);have:a=a':=by omega
  subst this;rw[hu] at hu';cases hu'
  exact zar _ _ _ (zby _ _ hus) hus'
 ·obtain⟨a,u,ha,_,hu,hus⟩:=h3.1 hm;obtain⟨a',u',ha',_,hu',hus'⟩:=hq.1 (el ▸ hm);have:a=a':=by omega
  subst this;rw[hu] at hu';cases hu'
  exact zar _ _ _ (zby _ _ hus) hus'
theorem zhr {N:Nat}{R:List Ty}{Q:List (List Int)}(G:Good N R Q):∀(t:Ty) (d:Nat),plc Q t d≠-1→∃(i:Nat) (s:Ty),plc Q t d=i∧R[i]?=some s∧s.same t=true
 | .dm,_,h=>absurd rfl h
 | .mk k l hh e ao b o len cap ps,d,h=>by
  rw[plc] at h ⊢;by_cases c1:6<d∨2<len
  ·rw[if_pos c1] at h;exact absurd rfl h
  rw[if_neg c1] at h ⊢;by_cases c2:0<len∧plc Q (ps 0) (d+1)=-1
  ·rw[if_pos c2] at h;exact absurd rfl h
  rw[if_neg c2] at h ⊢;by_cases c3:1<len∧plc Q (ps 1) (d+1)=-1
  ·rw[if_pos c3] at h;exact absurd rfl h
  rw[if_neg c3] at h ⊢;obtain⟨i,hi,hq⟩:=zki h;have P0:Prt R R.length (.mk k l hh e ao b o len cap ps) 0 (if 0<len then plc Q (ps 0) (d+1) else -1):=by
   constructor
   ·intro h0;have h0:0<len:=h0;rw[if_pos h0];obtain⟨a,s,h1,h2,h3⟩:=zhr G (ps 0) (d+1) (fun z=>c2 ⟨h0,z⟩);exact⟨a,s,h1,(List.getElem?_eq_some_iff.1 h2).1,h2,h3⟩
   ·intro h0;have h0:¬0<len:=h0;rw[if_neg h0]
  have P1:Prt R R.length (.mk k l hh e ao b o len cap ps) 1 (if 1<len then plc Q (ps 1) (d+1) else -1):=by
   constructor
   ·intro h0;have h0:1<len:=h0;rw[if_pos h0];obtain⟨a,s,h1,h2,h3⟩:=zhr G (ps 1) (d+1) (fun z=>c3 ⟨h0,z⟩);exact⟨a,s,h1,(List.getElem?_eq_some_iff.1 h2).1,h2,h3⟩
   ·intro h0;have h0:¬1<len:=h0;rw[if_neg h0]
  obtain⟨s,hs,hss⟩:=G.found (t:=.mk k l hh e ao b o len cap ps) (show len≤2 by omega) P0 P1 hq;exact⟨i,s,hi,hs,hss⟩
theorem zmq {N:Nat}{R:List Ty}{Q:List (List Int)}(G:Good N R Q):∀(t:Ty) (d:Nat),t.fm N d=true→∀(i:Nat) (s:Ty),R[i]?=some s→s.same t=true→plc Q t d=i
 | .dm,_,h,_,_,_,_=>by simp[Ty.fm] at h
 | .mk k l hh e ao b o len cap ps,d,h,i,s,hs,hss=>by
  obtain⟨h1,h2,h3,h4⟩:=zf9 h;have h3:len≤2:=h3;obtain⟨⟨k1,k2,k3,k4,k5⟩,k6⟩:=(za4 _ _).1 hss;have k5:s.len=len:=k5;obtain⟨p,q,m1,m2,m3⟩:=G.ent i s hs;rw[plc,if_neg (by omega)];have a0:0<len→plc Q (ps 0) (d+1)=p:=fun z=>by
   obtain⟨a,u,z1,_,z3,z4⟩:=m2.1 (by omega);rw[z1];exact zmq G (ps 0) (d+1) (h4 0 z) a u z3 (zar _ _ _ z4 (k6 0 (by omega)))
  have a1:1<len→plc Q (ps 1) (d+1)=q:=fun z=>by
   obtain⟨a,u,z1,_,z3,z4⟩:=m3.1 (by omega);rw[z1];exact zmq G (ps 1) (d+1) (h4 1 z) a u z3 (zar _ _ _ z4 (k6 1 (by omega)))
  have b0:(if 0<len then plc Q (ps 0) (d+1) else -1)=p:=by
   by_cases z:0<len
   ·rw[if_pos z,a0 z]
   ·rw[if_neg z,m2.2 (by omega)]
  have b1:(if 1<len then plc Q (ps 1) (d+1) else -1)=q:=by
   by_cases z:1<len
   ·rw[if_pos z,a1 z]
   ·rw[if_neg z,m3.2 (by omega)]
  rw[if_neg (fun z=>by
   obtain⟨a,u,z1,_⟩:=m2.1 (by omega);have:=a0 z.1;omega),if_neg (fun z=>by
   obtain⟨a,u,z1,_⟩:=m3.1 (by omega);have:=a1 z.1;omega),b0,b1]
  apply fnd_of G.uniq
  rw[m1];have k1:s.k=k:=k1;have k2:s.l=l:=k2;have k3:s.h=hh:=k3;have k4:s.e=e:=k4;rw[k1,k2,k3,k4]
def has (R:List Ty)(t:Ty):Bool:=R.any fun s=>s.same t
theorem zc5 {R:List Ty}{t:Ty}:has R t=true↔∃(i:Nat) (s:Ty),R[i]?=some s∧s.same t=true:=by
 unfold has;rw[List.any_eq_true]
 constructor
 ·rintro ⟨s,h1,h2⟩;obtain⟨i,hi⟩:=List.mem_iff_getElem?.1 h1;exact⟨i,s,hi,h2⟩
 ·rintro ⟨i,s,h1,h2⟩;exact⟨s,List.mem_of_getElem? h1,h2⟩
def itr (f:Nat→List Ty→List Ty):Nat→List Ty→List Ty
 | 0,R=>R
 | n+1,R=>f n (itr f n R)
def putT:Ty→List Ty→List Ty
 | .dm,R=>R
 | .mk k l h e ao b o len cap ps,R=>if has (itr (fun i=>putT (ps i)) len R) (.mk k l h e ao b o len cap ps) then itr (fun i=>putT (ps i)) len R else itr (fun i=>putT (ps i)) len R++[.mk k l h e ao b o len cap ps]
theorem zxh (t:Ty)(R:List Ty)(hd:t≠.dm):putT t R=if has (itr (fun i=>putT (t.ps i)) t.len R) t then itr (fun i=>putT (t.ps i)) t.len R else itr (fun i=>putT (t.ps i)) t.len R++[t]:=by
 cases t with
 | dm=>exact absurd rfl hd
 | mk k l h e ao b o len cap ps=>rfl
def za8 (R:List Ty)(t:Ty):List Ty:=if has R t then R else putT t R
theorem Prt.mono {R R':List Ty}{i i':Nat}{t:Ty}{j:Nat}{p:Int}(h:Prt R i t j p)(hi:i≤i')(hR:∀(a:Nat) (s:Ty),R[a]?=some s→R'[a]?=some s):Prt R' i' t j p :=
 ⟨fun hj=>by obtain⟨a,s,h1,h2,h3,h4⟩:=h.1 hj;exact⟨a,s,h1,by omega,hR _ _ h3,h4⟩,h.2⟩
theorem zf5 {R X:List Ty}{a:Nat}{s:Ty}(h:R[a]?=some s):(R++X)[a]?=some s:=by
 rw[List.getElem?_append_left (List.getElem?_eq_some_iff.1 h).1];exact h
theorem Good.push {N:Nat}{R:List Ty}{Q:List (List Int)}(G:Good N R Q){t:Ty}{p q:Int}(ht:t.ok N=true)(hp:Prt R R.length t 0 p)(hq:Prt R R.length t 1 q)(h:fnd Q [t.k,t.l,t.h,t.e,p,q]=-1) :
  has R t=false∧Good N (R++[t]) (Q++[[t.k,t.l,t.h,t.e,p,q]]):=by
 have hno:∀(i:Nat) (s:Ty),R[i]?=some s→s.same t=true→False:=fun i s hs hss=>by
  obtain⟨⟨k1,k2,k3,k4,k5⟩,k6⟩:=(za4 _ _).1 hss;obtain⟨p',q',m1,m2,m3⟩:=G.ent i s hs;have e0:p'=p:=by
   by_cases z:0<t.len
   ·obtain⟨a,u,z1,_,z3,z4⟩:=m2.1 (by omega);obtain⟨a',u',y1,_,y3,y4⟩:=hp.1 z;have:=G.dis a a' u u' z3 y3 (zar _ _ _ z4 (zar _ _ _ (k6 0 (by omega)) (zby _ _ y4)));omega
   ·rw[m2.2 (by omega),hp.2 z]
  have e1:q'=q:=by
   by_cases z:1<t.len
   ·obtain⟨a,u,z1,_,z3,z4⟩:=m3.1 (by omega);obtain⟨a',u',y1,_,y3,y4⟩:=hq.1 z;have:=G.dis a a' u u' z3 y3 (zar _ _ _ z4 (zar _ _ _ (k6 1 (by omega)) (zby _ _ y4)));omega
   ·rw[m3.2 (by omega),hq.2 z]
  rw[k1,k2,k3,k4,e0,e1] at m1;exact zrl h (List.mem_of_getElem? m1)
 have hlast:∀(i:Nat) (s:Ty),(R++[t])[i]?=some s→R[i]?=some s∨(i=R.length∧s=t):=fun i s hs=>by
  by_cases z:i<R.length
  ·rw[List.getElem?_append_left z] at hs;exact Or.inl hs
  ·rw[List.getElem?_append_right (by omega)] at hs;have:i - R.length=0:=by
    apply Classical.byContradiction
    intro y;have:([t]:List Ty)[i - R.length]?=none:=by simp;omega
    rw[this] at hs;cases hs
   rw[this] at hs;simp at hs
   exact Or.inr ⟨by omega,hs.symm⟩
 refine⟨?_,⟨by simp[G.len],?_,?_,?_⟩⟩
 ·cases hh:has R t with
  | false=>rfl
  | true =>
   obtain⟨i,s,h1,h2⟩:=zc5.1 hh;exact (hno i s h1 h2).elim
 ·intro s hs;rcases List.mem_append.1 hs with h1 | h1
  ·exact G.ok s h1
  ·rw[List.mem_singleton.1 h1];exact ht
 ·intro i s hs;rcases hlast i s hs with h1 | ⟨h1,h2⟩
  ·obtain⟨p',q',m1,m2,m3⟩:=G.ent i s h1;refine⟨p',q',?_,m2.mono (Nat.le_refl _) (fun _ _=>zf5),m3.mono (Nat.le_refl _) (fun _ _=>zf5)⟩;rw[List.getElem?_append_left (List.getElem?_eq_some_iff.1 m1).1];exact m1
  ·subst h1 h2;refine⟨p,q,?_,hp.mono (Nat.le_refl _) (fun _ _=>zf5),hq.mono (Nat.le_refl _) (fun _ _=>zf5)⟩;rw[←G.len];simp
 ·intro i j s u hs hu hsu;rcases hlast i s hs with h1 | ⟨h1,h2⟩
  ·rcases hlast j u hu with k1 | ⟨k1,k2⟩
   ·exact G.dis i j s u h1 k1 hsu
   ·subst k2;exact (hno i s h1 hsu).elim
  ·rcases hlast j u hu with k1 | ⟨k1,k2⟩
   ·subst h2;exact (hno j u k1 (zby _ _ hsu)).elim
   ·omega
theorem Good.here {N:Nat}{R:List Ty}{Q:List (List Int)}(G:Good N R Q){t:Ty}{p q:Int}{i:Nat}(hl:t.len≤2)(hp:Prt R R.length t 0 p)(hq:Prt R R.length t 1 q)(h:fnd Q [t.k,t.l,t.h,t.e,p,q]=i):has R t=true∧∃s,R[i]?=some s∧s.same t=true:=by
 have hn:fnd Q [t.k,t.l,t.h,t.e,p,q]≠-1:=by omega
 obtain⟨j,hj,hq'⟩:=zki hn;have:j=i:=by omega
 subst this;obtain⟨s,hs,hss⟩:=G.found hl hp hq hq';exact⟨zc5.2 ⟨j,s,hs,hss⟩,s,hs,hss⟩
end
section
def D (le:Nat→Nat→Bool)(up:Bool)(s u:Ty):Prop:=(if up then s.bel le true u else u.bel le true s)=true
end
end Go.Proofs.YtfobijdkoeifjaaGreatDoor
