import Derived.Test.YtfobijdkoeifjaaGreatDoorP5
import Derived.Test.YtfobijdkoeifjaaGreatDoorP6
import Derived.Laws.AppendOwnNone
import Derived.Deep.RegionHeld3
import Derived.Deep.RegionLaw
import Derived.Deep.AppendLies
import Derived.Deep.LoopGhost
set_option maxRecDepth 100000
set_option maxHeartbeats 32000000
namespace Go.Proofs.YtfobijdkoeifjaaGreatDoor
section
open Go.RowKit
structure St (W1 wr:World)(B7:Nat):Prop where
 os:wr.os=W1.os
 tape:wr.tape=W1.tape
 output:wr.output=W1.output
 size:W1.heap.size≤wr.heap.size
 blk:∀b,b<W1.heap.size→b≠B7→wr.heap[b]?=W1.heap[b]?
 l0:wr.cell? ⟨B7,0,none⟩=W1.cell? ⟨B7,0,none⟩
 f1:wr.frozen? ⟨B7,1,none⟩=false
def zdn (R:Nat→Nat)(n k:Nat):List Value:=(List.range k).map fun j=>.slice (some ⟨R j,0,none⟩) n n
structure RG (W1 wr:World)(B7 n k:Nat)(v:Value)(R:Nat→Nat)(M:Nat→Nat→Bool):Prop where
 st:St W1 wr B7
 l1:wr.cell? ⟨B7,1,none⟩=some v
 own:wr.ownsRow W1.heap.size 34 1 v k (zdn R n k)
 rows:∀j,j<k→wr.rowIs (R j) 4 n (fun c=>.bool (M j c))
 inj:∀i j,i<k→j<k→R i=R j→i=j
 ge:∀j,j<k→W1.heap.size≤R j
theorem zru {n:Strs}{w w1:World}{v:Value}(h8:n.len≤8)(hsz:∀i,i<n.len→(n.s i).size≤9223372036854775807)(h:w1.ownsRow (w.heap.size+2) 9 1 v (0+n.len) ([]++zch n)) :
  ∃(ao:Option Addr) (b c:Nat),v=.slice ao n.len c∧Strs.At ⟨ao,b,0,n.len,c,n.s⟩ w1∧(0<n.len→w.heap.size+2≤b):=by
 rw[Nat.zero_add,List.nil_append] at h;have h':=h;obtain⟨_,⟨rfl,h0⟩ | ⟨gb,cap,cur,rfl,hge,_,hc,_⟩⟩:=h'
 ·refine⟨none,0,0,by rw[h0],⟨?_,fun hp=>?_,?_,fun i hi=>?_,fun i hi=>?_⟩,fun hp=>by omega⟩
  ·show n.len≤0;omega
  ·have hp':0<n.len:=hp;omega
  ·show n.len≤_;omega
  ·have hi':i<n.len:=hi;omega
  ·have hi':i<n.len:=hi;omega
 ·refine⟨some ⟨gb,0,none⟩,gb,cap,rfl,⟨hc,fun _=>rfl,?_,fun i hi=>?_,hsz⟩,fun _=>hge⟩
  ·show n.len≤_;omega
  ·have hi':i<n.len:=hi;show w1.cell? ⟨gb,0+i,none⟩=_
   rw[Nat.zero_add,h.cellAt i (by simpa using hi')];exact zir n i hi'
theorem zqj {w w':World}(h:w.grownBy w' none):Below w.heap.size w w':=⟨h.os,h.tape,h.output,h.size,fun k hk=>h.block k hk (by simp)⟩
theorem zug (w:World)(u v u2 v2:Value)(t t2:TypeId){w1:World}(hb:Below ((w.alloc (.cells #[u,v] t)).alloc (.cells #[u2,v2] t2)).heap.size ((w.alloc (.cells #[u,v] t)).alloc (.cells #[u2,v2] t2)) w1) :
  (w1.frozen? ⟨w.heap.size,0,none⟩=false∧w1.frozen? ⟨w.heap.size,1,none⟩=false)∧w1.frozen? ⟨w.heap.size+1,0,none⟩=false∧w1.frozen? ⟨w.heap.size+1,1,none⟩=false:=by
 refine⟨⟨?_,?_⟩,?_,?_⟩
 all_goals (rw[hb.frozen (by simp <;> omega)];simp)
structure Head (w W1:World)(n:Strs)(ao:Option Addr)(b c:Nat):Prop where
 bl:Below w.heap.size w W1
 lt:w.heap.size+1<W1.heap.size
 r0:W1.cell? ⟨w.heap.size,0,none⟩=some (.slice none 0 0)
 r1:W1.cell? ⟨w.heap.size,1,none⟩=some (.slice none 0 0)
 rf0:W1.frozen? ⟨w.heap.size,0,none⟩=false
 rf1:W1.frozen? ⟨w.heap.size,1,none⟩=false
 l0:W1.cell? ⟨w.heap.size+1,0,none⟩=some (.slice ao n.len c)
 l1:W1.cell? ⟨w.heap.size+1,1,none⟩=some (.slice none 0 0)
 lf1:W1.frozen? ⟨w.heap.size+1,1,none⟩=false
 nat:Strs.At ⟨ao,b,0,n.len,c,n.s⟩ W1
 ge:0<n.len→w.heap.size+2≤b
theorem zxj {w w1:World}{n:Strs}{ao:Option Addr}{b c:Nat}(T1:Two w w1 (.slice none 0 0) (.slice none 0 0) (.slice none 0 0) (.slice none 0 0))
  (hfz:(w1.frozen? ⟨w.heap.size,0,none⟩=false∧w1.frozen? ⟨w.heap.size,1,none⟩=false)∧w1.frozen? ⟨w.heap.size+1,0,none⟩=false∧w1.frozen? ⟨w.heap.size+1,1,none⟩=false)
  (hn1:Strs.At ⟨ao,b,0,n.len,c,n.s⟩ w1) (hge:0<n.len→w.heap.size+2≤b):Head w (w1.setCell ⟨w.heap.size+1,0,none⟩ (.slice ao n.len c)) n ao b c where
 bl:=T1.bl.setCell (by show w.heap.size≤w.heap.size+1;omega) _
 lt:=by simpa [World.setCell] using T1.lt
 r0:=by rw[World.cell?_setCell_other _ _ _ _ (by simp)];exact T1.c0
 r1:=by rw[World.cell?_setCell_other _ _ _ _ (by simp)];exact T1.c1
 rf0:=by rw[World.frozen?_setCell];exact hfz.1.1
 rf1:=by rw[World.frozen?_setCell];exact hfz.1.2
 l0:=World.cell?_setCell_same _ _ _ T1.c2
 l1:=by rw[World.cell?_setCell_other _ _ _ _ (by simp)];exact T1.c3
 lf1:=by rw[World.frozen?_setCell];exact hfz.2.2
 nat:=hn1.set T1.c2 _
 ge:=hge
theorem RG.start {w W1:World}{n:Strs}{ao:Option Addr}{b c:Nat}(h:Head w W1 n ao b c):RG W1 W1 (w.heap.size+1) n.len 0 (.slice none 0 0) (fun _=>0) (fun r c=>c==r) :=
 ⟨⟨rfl,rfl,rfl,Nat.le_refl _,fun _ _ _=>rfl,rfl,h.lf1⟩,h.l1,World.ownsRow_nil _ _ _ _,fun _ h=>absurd h (Nat.not_lt_zero _),fun _ _ h=>absurd h (Nat.not_lt_zero _),fun _ h=>absurd h (Nat.not_lt_zero _)⟩
theorem zi1 {w:World}{base:Nat}{e:TypeId}{size:Nat}{v:Value}{n:Nat}{xs:List Value}(h:w.ownsRow base e size v n xs){b:Nat}(hb:v.ownBlock=some b):∃cur,w.heap[b]?=some (.cells cur e):=by
 obtain⟨_,⟨rfl,_⟩ | ⟨gb,cap,cur,rfl,hg,hh,_⟩⟩:=h
 ·simp[Value.ownBlock] at hb
 ·have:gb=b:=by simpa [Value.ownBlock] using hb
  subst this;exact⟨cur,hh⟩
theorem RG.row_ne {W1 wr:World}{B7 n k:Nat}{v:Value}{R:Nat→Nat}{M:Nat→Nat→Bool}(h:RG W1 wr B7 n k v R M){j:Nat}(hj:j<k):some (R j)≠v.ownBlock:=fun e=>by
 obtain⟨cur,hc⟩:=zi1 h.own e.symm;obtain⟨c,hr,_,_⟩:=h.rows j hj;rw[hc] at hr;simp at hr
theorem zl3 (R:Nat→Nat)(n k x:Nat):zdn (fun j=>if j<k then R j else x) n (k+1)=zdn R n k++[.slice (some ⟨x,0,none⟩) n n]:=by
 unfold zdn;rw[List.range_succ,List.map_append]
 congr 1
 ·exact List.map_congr_left (fun j hj=>by simp[List.mem_range.1 hj])
 ·simp
theorem RG.grow {W1 wr w2:World}{B7 n k:Nat}{v:Value}{R:Nat→Nat}{M:Nat→Nat→Bool}{gg cap:Nat}{o':Obj}(h:RG W1 wr B7 n k v R M)(hB7:B7<W1.heap.size)
  (hown2:w2.ownsRow W1.heap.size 34 1 (.slice (some ⟨gg,0,none⟩) (k+1) cap) (k+1) (zdn R n k++[.slice (some ⟨wr.heap.size,0,none⟩) n n]))
  (hgrow:((wr.alloc (.cells (madeCells #[.bool false] n) 4)).alloc o').drew.grownBy w2 v.ownBlock) :
  RG W1 (w2.setCell ⟨B7,1,none⟩ (.slice (some ⟨gg,0,none⟩) (k+1) cap)) B7 n (k+1) (.slice (some ⟨gg,0,none⟩) (k+1) cap) (fun j=>if j<k then R j else wr.heap.size) (fun r c=>if r<k then M r c else false):=by
 have hsz:=h.st.size;have bsz:((wr.alloc (.cells (madeCells #[.bool false] n) 4)).alloc o').drew.heap.size=wr.heap.size+2:=by
  show ((wr.alloc _).alloc o').heap.size=_
  simp
 have hb:Below wr.heap.size wr ((wr.alloc (.cells (madeCells #[.bool false] n) 4)).alloc o').drew:=(((Below.refl _ _).alloc (Nat.le_refl _) _).alloc (by simp) _).drew;have old:∀b,b<wr.heap.size→some b≠v.ownBlock→w2.heap[b]?=wr.heap[b]?:=fun b hb1 hne=>(hgrow.block b (by rw[bsz];omega) hne).trans (hb.block b hb1)
 have hne7:some B7≠v.ownBlock:=fun e=>by have:=zhw h.own e.symm;omega
 have o7:=old B7 (by omega) hne7;refine⟨⟨hgrow.os.trans h.st.os,hgrow.tape.trans h.st.tape,hgrow.output.trans h.st.output,?_,fun b hb1 hb2=>?_,?_,?_⟩,?_,?_,fun j hj=>?_,fun i j hi hj e=>?_,fun j hj=>?_⟩
 ·have:=hgrow.size;rw[bsz] at this;show W1.heap.size≤(w2.setCell _ _).heap.size
  simp[World.setCell];omega
 ·rw[Below.heap_setCell _ _ _ _ hb2,old b (by omega) (fun e=>by have:=zhw h.own e.symm;omega)]
  exact h.st.blk b hb1 hb2
 ·rw[World.cell?_setCell_other _ _ _ _ (by simp),World.cell?_of_block (w:=wr) o7];exact h.st.l0
 ·rw[World.frozen?_setCell,World.frozen?_of_block (w:=wr) o7];exact h.st.f1
 ·exact World.cell?_setCell_same _ _ _ ((World.cell?_of_block (w:=wr) o7).trans h.l1)
 ·rw[zl3];exact ownsRow_setCell_below hown2 hB7 _
 ·by_cases hjk:j<k
  ·have hlt:=(h.rows j hjk).lt;have hr:=(h.rows j hjk).of_block (old (R j) hlt (h.row_ne hjk));have hge:=h.ge j hjk;simp only[hjk,if_true];exact hr.setOther (by show R j≠B7;omega) _
  ·have e:j=k:=by omega
   subst e;have hnew:((wr.alloc (.cells (madeCells #[.bool false] n) 4)).alloc o').drew.rowIs wr.heap.size 4 n (fun _=>.bool false):=((World.rowIs_made wr (.bool false) n 4).alloc _).drew;have hne:some wr.heap.size≠v.ownBlock:=fun e=>by
    obtain⟨cur,hc⟩:=zi1 h.own e.symm;have:=(Array.getElem?_eq_some_iff.1 hc).1;omega
   have hr:=hnew.of_block (hgrow.block wr.heap.size (by rw[bsz];omega) hne)
   simp only[Nat.lt_irrefl,if_false];exact hr.setOther (by show wr.heap.size≠B7;omega) _
 ·by_cases h1:i<k
  ·by_cases h2:j<k
   ·simp only[h1,h2,if_true] at e;exact h.inj i j h1 h2 e
   ·simp only[h1,h2,if_true,if_false] at e;have:=(h.rows i h1).lt;omega
  ·by_cases h2:j<k
   ·simp only[h1,h2,if_true,if_false] at e;have:=(h.rows j h2).lt;omega
   ·omega
 ·by_cases h1:j<k
  ·simp only[h1,if_true];exact h.ge j h1
  ·simp only[h1,if_false];omega
theorem RG.set {W1 wr:World}{B7 n k:Nat}{v:Value}{R:Nat→Nat}{M:Nat→Nat→Bool}(h:RG W1 wr B7 n k v R M)(hB7:B7<W1.heap.size){a c:Nat}(ha:a<k) :
  RG W1 (wr.setCell ⟨R a,c,none⟩ (.bool true)) B7 n k v R (setM M a c):=by
 have hge:=h.ge a ha;refine⟨⟨h.st.os,h.st.tape,h.st.output,by simpa [World.setCell] using h.st.size,fun b hb1 hb2=>?_,?_,?_⟩,?_,?_,fun j hj=>?_,h.inj,h.ge⟩
 ·rw[Below.heap_setCell _ _ _ _ (by show b≠R a;omega)];exact h.st.blk b hb1 hb2
 ·rw[World.cell?_setCell_other _ _ _ _ (fun e=>by have:=congrArg Addr.block e;simp at this;omega)];exact h.st.l0
 ·rw[World.frozen?_setCell];exact h.st.f1
 ·rw[World.cell?_setCell_other _ _ _ _ (fun e=>by have:=congrArg Addr.block e;simp at this;omega)];exact h.l1
 ·obtain⟨h1,h2⟩:=h.own;refine⟨h1,?_⟩;rcases h2 with h2 | ⟨gb,cap,cur,hv,hg,hh,r⟩
  ·exact Or.inl h2
  ·refine Or.inr ⟨gb,cap,cur,hv,hg,?_,r⟩;rw[Below.heap_setCell _ _ _ _ (by
    show gb≠R a
    intro e;obtain⟨cc,hr,_,_⟩:=h.rows a ha;rw[←e,hh] at hr;simp at hr)]
   exact hh
 ·by_cases e:j=a
  ·subst e;exact ((h.rows j hj).set c _).congr (fun i _=>by
    unfold setM;by_cases ec:i=c
    ·simp[ec]
    ·simp[ec])
  ·exact ((h.rows j hj).setOther (by show R j≠R a;exact fun e'=>e (h.inj j a hj ha e')) _).congr (fun i _=>by simp[setM,e])
theorem RG.congr {W1 wr:World}{B7 n k:Nat}{v:Value}{R:Nat→Nat}{M M':Nat→Nat→Bool}(h:RG W1 wr B7 n k v R M)(e:∀r c,r<k→c<n→M r c=M' r c):RG W1 wr B7 n k v R M' :=
 ⟨h.st,h.l1,h.own,fun j hj=>(h.rows j hj).congr (fun c hc=>by rw[e j c hj hc]),h.inj,h.ge⟩
theorem RG.top {W1 wr:World}{B7 n k:Nat}{v:Value}{R:Nat→Nat}{M:Nat→Nat→Bool}(h:RG W1 wr B7 n k v R M)(hk:0<k):∃gg cap,v=.slice (some ⟨gg,0,none⟩) k cap∧k≤cap∧∀j,j<k→wr.cell? ⟨gg,j,none⟩=some (.slice (some ⟨R j,0,none⟩) n n):=by
 have ho:=h.own;have ho':=ho;obtain⟨_,⟨_,h0⟩ | ⟨gb,cap,cur,rfl,hg,hh,hc,_⟩⟩:=ho'
 ·omega
 ·refine⟨gb,cap,rfl,hc,fun j hj=>?_⟩;rw[ho.cellAt j (by simpa using hj)];simp[zdn,hj]
theorem zw1 (w:World)(o o':Obj):((w.alloc o).alloc o').drew.heap[w.heap.size+1]?=some o':=by
 have h:=heap_alloc_new (w.alloc o) o';have e:(w.alloc o).heap.size=w.heap.size+1:=by simp
 rw[e] at h;exact h
theorem RG.cellAt {W1 wr:World}{B7 n k l c gg:Nat}{R:Nat→Nat}{M:Nat→Nat→Bool}(h:RG W1 wr B7 n k (.slice (some ⟨gg,0,none⟩) l c) R M){j:Nat}(hj:j<k):wr.cell? ⟨gg,j,none⟩=some (.slice (some ⟨R j,0,none⟩) n n):=by
 have ho:=h.own;obtain⟨gg',cap,hv,_,hc⟩:=h.top (by omega)
 injection hv with h1 h2 h3
 injection h1 with h1
 injection h1 with h1
 subst h1;exact hc j hj
theorem RG.any {W1 wr:World}{B7 n k:Nat}{v:Value}{R:Nat→Nat}{M:Nat→Nat→Bool}(h:RG W1 wr B7 n k v R M):∃(ao:Option Addr) (gg cap:Nat),v=.slice ao k cap∧k≤cap∧(0<k→ao=some ⟨gg,0,none⟩):=by
 by_cases hk:0<k
 ·obtain⟨gg,cap,rfl,hc,_⟩:=h.top hk;exact⟨_,gg,cap,rfl,hc,fun _=>rfl⟩
 ·have e:k=0:=by omega
  subst e;obtain⟨_,⟨rfl,_⟩ | ⟨gb,cap,cur,rfl,hg,hh,hc,_⟩⟩:=h.own
  ·exact⟨none,0,0,rfl,Nat.le_refl _,fun h=>absurd h (Nat.lt_irrefl _)⟩
  ·exact⟨_,gb,cap,rfl,hc,fun _=>rfl⟩
theorem RG.diag {W1 wr:World}{B7 n k:Nat}{v:Value}{R:Nat→Nat}(h:RG W1 wr B7 n (k+1) v R (setM (fun r c=>if r<k then (c==r) else false) k k)):RG W1 wr B7 n (k+1) v R (fun r c=>c==r) :=
 h.congr (fun r c hr _=>by
  unfold setM;by_cases e:r=k
  ·subst e;by_cases ec:c=r
   ·subst ec;simp
   ·simp[ec]
  ·have:r<k:=by omega
   simp[e,this])
theorem RG.below {w W1 wr:World}{n:Strs}{ao:Option Addr}{b c:Nat}{m k:Nat}{v:Value}{R:Nat→Nat}{M:Nat→Nat→Bool}(H:Head w W1 n ao b c)(h:RG W1 wr (w.heap.size+1) m k v R M):Below w.heap.size w wr :=
 H.bl.trans ⟨h.st.os,h.st.tape,h.st.output,h.st.size,fun i hi=>h.st.blk i (by have:=H.lt;omega) (by omega)⟩
theorem RG.zero {w W1 wr:World}{n:Strs}{ao:Option Addr}{b c:Nat}{m k:Nat}{v:Value}{R:Nat→Nat}{M:Nat→Nat→Bool}(H:Head w W1 n ao b c)(h:RG W1 wr (w.heap.size+1) m k v R M) :
  wr.cell? ⟨w.heap.size,0,none⟩=some (.slice none 0 0)∧wr.cell? ⟨w.heap.size,1,none⟩=some (.slice none 0 0)∧wr.frozen? ⟨w.heap.size,0,none⟩=false∧wr.frozen? ⟨w.heap.size,1,none⟩=false:=by
 have hb:=h.st.blk w.heap.size (by have:=H.lt;omega) (by omega)
 exact⟨(World.cell?_of_block (w:=W1) hb).trans H.r0,(World.cell?_of_block (w:=W1) hb).trans H.r1,(World.frozen?_of_block (w:=W1) hb).trans H.rf0,(World.frozen?_of_block (w:=W1) hb).trans H.rf1⟩
theorem RG.names {w W1 wr:World}{n:Strs}{ao:Option Addr}{b c:Nat}{m k:Nat}{v:Value}{R:Nat→Nat}{M:Nat→Nat→Bool}(H:Head w W1 n ao b c)(h:RG W1 wr (w.heap.size+1) m k v R M):Strs.At ⟨ao,b,0,n.len,c,n.s⟩ wr :=
 ⟨H.nat.lc,H.nat.nil,H.nat.bound,fun i hi=>by
  have hi':i<n.len:=hi;have h1:=H.ge (by omega);have hc:=H.nat.cell i hi;have hb:=h.st.blk b (zde hc) (by omega);exact (World.cell?_of_block (w:=W1) hb).trans hc,H.nat.sz⟩
theorem RG.drew {W1 wr:World}{B7 n k:Nat}{v:Value}{R:Nat→Nat}{M:Nat→Nat→Bool}(h:RG W1 wr B7 n k v R M):RG W1 wr.drew B7 n k v R M :=
 ⟨⟨h.st.os,h.st.tape,h.st.output,h.st.size,h.st.blk,h.st.l0,h.st.f1⟩,h.l1,h.own.drew,fun j hj=>(h.rows j hj).drew,h.inj,h.ge⟩
theorem zgd (n:Nat)(P:Nat→Nat→Bool):∀k,zcy n P (war P k)
 | 0=>fun _ _ _ _ h=>h
 | k+1=>fun r c hr hc h=>by
  show (war P k r c||(war P k r k&&war P k k c))=true
  rw[zgd n P k r c hr hc h];rfl
theorem zrk (g:Prs)(m x y:Nat)(hx:g.x m=x)(hy:g.y m=y)(r c:Nat):setM (prsM g m) x y r c=prsM g (m+1) r c:=by
 unfold setM prsM;rw[Bool.eq_iff_iff];simp only[Bool.or_eq_true,beq_iff_eq,decide_eq_true_eq]
 constructor
 ·intro h;split at h
  ·rename_i e
   exact Or.inr ⟨m,by omega,by rw[hx,e.1],by rw[hy,e.2]⟩
  ·simp only[Bool.or_eq_true,beq_iff_eq,decide_eq_true_eq] at h;rcases h with h | ⟨i,hi,h⟩
   ·exact Or.inl h
   ·exact Or.inr ⟨i,by omega,h⟩
 ·intro h;split
  ·rfl
  ·rename_i e
   simp only[Bool.or_eq_true,beq_iff_eq,decide_eq_true_eq];rcases h with h | ⟨i,hi,h1,h2⟩
   ·exact Or.inl h
   ·by_cases ei:i=m
    ·subst ei;exact absurd ⟨by omega,by omega⟩ e
    ·exact Or.inr ⟨i,by omega,h1,h2⟩
theorem zr5 {n:Nat}{x y:Int}(h:(inR n x&&inR n y)=false):x<0∨(0≤x∧y<0)∨(0≤x∧0≤y∧(n:Int)≤x)∨(0≤x∧0≤y∧x<n∧(n:Int)≤y):=by
 unfold inR at h;simp only[Bool.and_eq_false_iff,decide_eq_false_iff_not] at h;omega
theorem zuk {n:Nat}{x y:Int}(h:(inR n x&&inR n y)=true):(∃k:Nat,x=k∧k<n)∧∃k:Nat,y=k∧k<n:=by
 rw[Bool.and_eq_true] at h;exact⟨zb6 h.1,zb6 h.2⟩
theorem zts {g:Prs}{n:Nat}(h:∀i,i<g.len→(inR n (g.x i)&&inR n (g.y i))=true):prsB g n=true:=by
 unfold prsB;rw[decide_eq_true_eq];exact h
def zdj (ao:Option Addr)(gg n cap:Nat)(R:Nat→Nat)(M:Nat→Nat→Bool):Grid:=⟨ao,gg,0,n,cap,fun j=>some ⟨R j,0,none⟩,fun _=>n,fun _=>n,R,fun _=>0,M⟩
theorem RG.grid {W1 wr:World}{B7 n gg cap:Nat}{ao:Option Addr}{R:Nat→Nat}{M:Nat→Nat→Bool}(h:RG W1 wr B7 n n (.slice ao n cap) R M)(hc:n≤cap)(ha:0<n→ao=some ⟨gg,0,none⟩)(h8:n≤8):(zdj ao gg n cap R M).At wr where
 lc:=hc
 nil:=ha
 bound:=by show n≤_;omega
 lbound:=fun _ _=>by show n≤_;omega
 row:=fun r hr=>by
  have hr':r<n:=hr;have:=ha (by omega);subst this;show wr.cell? ⟨gg,0+r,none⟩=_
  rw[Nat.zero_add];exact h.cellAt hr'
 adr:=fun _ _ _=>rfl
 cell:=fun r hr c hc=>by
  show wr.cell? ⟨R r,0+c,none⟩=_
  rw[Nat.zero_add];exact (h.rows r hr).cell hc
theorem zlw {ao ag:Option Addr}{b c gg len cap:Nat}{s:Nat→ByteArray}{R:Nat→Nat}{M:Nat→Nat→Bool}:zae ⟨ao,b,0,len,c,s⟩ (zdj ag gg len cap R M)=zez len s M:=rfl
theorem Pass.less {n:Nat}{P M M':Nat→Nat→Bool}{more:Bool}{a b c k:Nat}(h:Pass n P M M' more a b c)(hk:cnt2 M n n+1≤k):(cnt2 M' n n+if more then 1 else 0)<k:=by
 cases hm:more
 ·rw[(h.no hm).1];simp;omega
 ·have:=h.yes hm;simp;omega
theorem Pass.closed {n:Nat}{P M M':Nat→Nat→Bool}{more:Bool}(h:Pass n P M M' more n 0 0):more=false→∀x y z,x<n→y<n→z<n→(M' x y&&M' y z&&!M' x z)=false:=fun hm x y z hx hy hz=>by
 rw[(h.no hm).1];exact (h.no hm).2 x y z hx hy hz (Or.inl hx)
theorem zlq {ao:Option Addr}{gg n cap:Nat}{R:Nat→Nat}{M:Nat→Nat→Bool}{w:World}(h:(zdj ao gg n cap R M).At w){a:Addr}(hg:0<n→a.block<gg)(hr:∀j,j<n→a.block<R j)(v:Value):(zdj ao gg n cap R M).At (w.setCell a v) where
 lc:=h.lc
 nil:=h.nil
 bound:=h.bound
 lbound:=h.lbound
 row:=fun r hr'=>by
  have hr2:r<n:=hr';have:=hg (by omega);rw[World.cell?_setCell_other _ _ _ _ (fun e=>by have:=congrArg Addr.block e;simp[zdj] at this;omega)]
  exact h.row r hr'
 adr:=h.adr
 cell:=fun r hr' c hc=>by
  have:=hr r hr';rw[World.cell?_setCell_other _ _ _ _ (fun e=>by have:=congrArg Addr.block e;simp[zdj] at this;omega)]
  exact h.cell r hr' c hc
theorem RG.high {W1 wr:World}{B7 n gg cap s:Nat}{ao:Option Addr}{R:Nat→Nat}{M:Nat→Nat→Bool}(h:RG W1 wr B7 n n (.slice ao n cap) R M)(ha:0<n→ao=some ⟨gg,0,none⟩)(hs:s+1<W1.heap.size):(0<n→s<gg)∧∀j,j<n→s<R j :=
 ⟨fun hn=>by
  have:=ha hn;subst this;have:=zhw h.own (b:=gg) (by simp[Value.ownBlock]);omega,fun j hj=>by have:=h.ge j hj;omega⟩
theorem zg5 {w:World}{ops:Array Oper}{rest:List Oper}{o:Oper}{a:Act}{Q:Exit→Act→World→Prop}(hgd:o.guard=none)(s x:Operand)
  (ho:o.op=.call { callee:=.builtin .append,args:=#[s,x],argTypes:=#[22,22] }) (base:Nat) (hs:a.eval s=.slice none 0 0)
  (n:Strs) (had:(n.ao=none∧n.cap=0)∨n.ao=some ⟨n.b,n.o,none⟩) (hn:n.At w) (h8:n.len≤8) (hx:a.eval x=.slice n.ao n.len n.cap) (hbase:base≤w.heap.size)
  (h:∀v' w',w'.ownsRow base 9 1 v' (0+n.len) ([]++zch n)→w.grownBy w' none→wpList Tryz.prog ops Q rest (a.put o.dst v') w'):wpList Tryz.prog ops Q (o :: rest) a w:=by
 obtain⟨i0,hi,hz0,hz1,hz2⟩:=info_parts Tryz.infoString;rcases had with ⟨had,hc0⟩ | had
 ·have h0:n.len=0:=by
   by_cases h:0<n.len
   ·have:=hn.nil h;rw[had] at this;exact absurd this (by simp)
   ·omega
  rw[had,h0,hc0] at hx;refine wpList_append_own_none hgd s x _ ho base 9 i0 1 Tryz.underlying22 hi _ 0 [] hs (World.ownsRow_nil _ _ _ _) hx (h _ _ ?_ ⟨rfl,rfl,rfl,Nat.le_refl _,fun _ _ _=>rfl⟩);have e:zch n=[]:=by simp[zch,h0]
  rw[e,h0];exact World.ownsRow_nil _ _ _ _
 ·rw[had] at hx;refine wpList_append_own w hgd s x _ ho base 9 i0 (.string ⟨#[]⟩) 1 16 Tryz.underlying22 hi hz0 hz1 hz2 rfl (by decide) _ 0 [] hs (World.ownsRow_nil _ _ _ _) ⟨n.b,n.o,none⟩ n.len n.cap (zch n) hx (by simp[zch]) (fun j u hj=>?_) (by intro u hu;simp[zch] at hu;obtain⟨_,_,rfl⟩:=hu;rfl) (by unfold maxLen;omega) (by omega) hbase (fun v' w' h1 h2 _=>h v' w' h1 h2)
  have hj':j<n.len:=by
   have:=(List.getElem?_eq_some_iff.1 hj).1
   simpa [zch] using this
  rw[zir n j hj'] at hj;rw[zu7,hn.cell j hj'];exact hj
structure zqn (n:Strs)(p:Prs)(e:Int)(n':Strs)(g':Grid)(w':World):Prop where
 er:e=zcd n p
 nat:n'.At w'
 gat:g'.At w'
 yes:e=0→n'.len=n.len∧n'.s=n.s∧∃ao gg cap R,g'=zdj ao gg n.len cap R (zcw p n.len)
 no:e≠0→n'.len=0∧g'.len=0
theorem zdl {n:Strs}{p:Prs}{e:Int}(w:World)(h:zcd n p=e)(h0:e≠0):zqn n p e noStrs noGrid w:=⟨h.symm,zsx w,zs3 w,fun h=>absurd h h0,fun _=>⟨rfl,rfl⟩⟩
theorem zqo (n:Strs)(pao:Option Addr)(pb po plen pcap:Nat)(px py:Nat→Int)(w:World)(hn:n.At w)(hp:Prs.At ⟨pao,pb,po,plen,pcap,px,py⟩ w)(h8:n.len≤8)(h64:plen≤64)(had:(n.ao=none∧n.cap=0)∨n.ao=some ⟨n.b,n.o,none⟩) :
  Calls Tryz.prog 26 #[.slice n.ao n.len n.cap,.slice pao plen pcap] w fun e w'=>∃(er:Int) (n':Strs) (g':Grid),e=.returned (.tuple #[.agg #[.slice n'.ao n'.len n'.cap,.slice g'.ao g'.len g'.cap],.int .i64 er])∧zqn n ⟨pao,pb,po,plen,pcap,px,py⟩ er n' g' w'∧Below w.heap.size w w':=by
 have d8:decide ((8:Int)<n.len)=false:=by simp;omega
 have d64:decide ((64:Int)<plen)=false:=by simp;omega
 have T0:=Two.start w (.slice none 0 0) (.slice none 0 0) (.slice none 0 0) (.slice none 0 0) 25 25;have hn0:=hn.kept T0.bl;have HA:Hid ((n.ao=none∧n.cap=0)∨n.ao=some ⟨n.b,n.o,none⟩):=had;clear had;go_enter Tryz.func26,Tryz.ntmps26
 go_wp2_with ((at_builtin;refine zg5 rfl _ _ rfl (w.heap.size+2) rfl n HA.out hn0 h8 rfl (by simp) ?_;intro v' w1 hown' hgrow;have hbl1:=zqj hgrow;have hfz:=zug w _ _ _ _ _ _ hbl1;have T1:=T0.step hbl1;obtain⟨ao',b',c',hv,hn1,hge⟩:=zru h8 hn.sz hown';subst hv;have e0:=T1.c2;have e1:=hfz.2.1;clear hown' hgrow hbl1));have HD:=zxj T1 hfz hn1 hge;clear T1 hfz hn1 hge e0 e1 hn0 T0 d8 d64;generalize w1.setCell ⟨w.heap.size+1,0,none⟩ (.slice ao' n.len c')=W1 at HD ⊢;clear w1;obtain⟨i0,hi,hz0,hz1,hz2⟩:=info_parts Tryz.infoRow;go_loopw [8] (fun i wr=>∃(k:Nat) (v:Value) (R:Nat→Nat),k≤n.len∧i=.int .i64 k∧RG W1 wr (w.heap.size+1) n.len k v R (fun r c=>c==r)) (fun i _=>n.len - (intOf i).toNat)
 case atStart=>exact⟨0,_,_,Nat.zero_le _,rfl,RG.start HD⟩
 case round =>
  obtain⟨k,v,R,hk,rfl,hR⟩:=hrel;by_cases hlt:k<n.len
  ·have hmk:=run_make_row' (P:=Tryz.prog) 34 4 (.bool false) 1 Tryz.underlying34 Tryz.infoBool rfl .i64 .i64 n.len (by omega) (by omega);have l1:=hR.l1;have f1:=hR.st.f1;have hown:=hR.own;have hsz:=hR.st.size;have hlt7:=HD.lt;have hne:v.ownBlock≠some (w.heap.size+1):=fun h=>by have:=zhw hown h;omega
   have lA:∀o o',((wr.alloc o).alloc o').drew.cell? ⟨w.heap.size+1,1,none⟩=some v:=fun o o'=>by
    have hb:Below wr.heap.size wr ((wr.alloc o).alloc o'):=((Below.refl _ _).alloc (Nat.le_refl _) _).alloc (by simp) _;exact (hb.cell (p:=⟨w.heap.size+1,1,none⟩) (by show w.heap.size+1<_;omega)).trans l1
   have lA1:∀o,(wr.alloc o).cell? ⟨w.heap.size+1,1,none⟩=some v:=fun o=>(((Below.refl wr.heap.size wr).alloc (Nat.le_refl _) o).cell (p:=⟨w.heap.size+1,1,none⟩) (by show w.heap.size+1<_;omega)).trans l1
   have lA2:∀o o',((wr.alloc o).alloc o').cell? ⟨w.heap.size+1,1,none⟩=some v:=fun o o'=>lA o o';have lF:∀o o',((wr.alloc o).alloc o').drew.frozen? ⟨w.heap.size+1,1,none⟩=false:=fun o o'=>by
    have hb:Below wr.heap.size wr ((wr.alloc o).alloc o'):=((Below.refl _ _).alloc (Nat.le_refl _) _).alloc (by simp) _;exact (hb.frozen (p:=⟨w.heap.size+1,1,none⟩) (by show w.heap.size+1<_;omega)).trans f1
   have ik:(k:Int)<k+1:=by omega
   have ik2:(k:Int)<n.len:=by omega
   go_wp2
   go_region_law ((refine step_append_lies _ (by rfl) _ _ _ (by rfl) W1.heap.size 34 i0 _ 1 24 Tryz.underlying23 hi hz0 hz1 hz2 rfl (by omega) v k (zdn R n.len k) (by rfl) (((hown.alloc _).alloc _).drew) ⟨wr.heap.size+1,0,none⟩ 1 1 [.slice (some ⟨wr.heap.size,0,none⟩) n.len n.len] (by rfl) (by rfl) (World.news_of_block (cs:=#[.slice (some ⟨wr.heap.size,0,none⟩) n.len n.len]) (t:=34) (fr:=(0,0)) (zw1 wr _ _)) (by simp[Value.oneCell']) (by omega) (by unfold maxLen;omega) (by omega) (by simp;omega) (wr.heap.size+2) (by simp) ?_;intro gg cap w2 hown2 hgrow hat hltg;have m1:=(hgrow.cell_far ⟨w.heap.size+1,1,none⟩ (by simp;omega) (Ne.symm hne)).trans (lA _ _);have m2:=(hgrow.frozen_far ⟨w.heap.size+1,1,none⟩ (by simp;omega) (Ne.symm hne)).trans (lF _ _);have hR2:=hR.grow hlt7 hown2 hgrow;generalize (fun j=>if j<k then R j else wr.heap.size)=R2 at hR2;have q0:=hR2.l1;have q1:=hR2.cellAt (j:=k) (by omega);have q2:=(hR2.rows k (by omega)).cell hlt;have q3:=(hR2.rows k (by omega)).frozen k;have HR:Hid (RG W1 (w2.setCell ⟨w.heap.size+1,1,none⟩ (.slice (some ⟨gg,0,none⟩) (k+1) cap)) (w.heap.size+1) n.len (k+1) (.slice (some ⟨gg,0,none⟩) (k+1) cap) R2 (fun r c=>if r<k then (c==r) else false)):=hR2;clear hR2 hown2 hgrow hat hltg))
   all_goals
    clear hR hown lA lA1 lA2 lF hmk l1 f1 hne m1 m2;go_wp2;go_roundw
    case rel=>exact⟨k+1,_,_,by omega,by go_num,(HR.out.set hlt7 (a:=k) (c:=k) (by omega)).diag⟩
    case measure=>simp[intOf];omega
  ·have e:k=n.len:=by omega
   subst e;obtain⟨ao,gg,cap,rfl,hcap,hao⟩:=hR.any;have HR:Hid (RG W1 wr (w.heap.size+1) n.len n.len (.slice ao n.len cap) R (prsM ⟨pao,pb,po,plen,pcap,px,py⟩ 0)):=hR.congr (fun r c _ _=>by simp[prsM]);have hlt7:=HD.lt;clear hR hi hz0 hz1 hz2;go_wp2;go_loopw [9] (fun i wr=>∃m:Nat,m≤plen∧i=.int .i64 m∧RG W1 wr (w.heap.size+1) n.len n.len (.slice ao n.len cap) R (prsM ⟨pao,pb,po,plen,pcap,px,py⟩ m)∧∀i,i<m→(inR n.len (px i)&&inR n.len (py i))=true) (fun i _=>plen - (intOf i).toNat)
   case atStart=>exact⟨0,Nat.zero_le _,rfl,HR.out,fun _ h=>absurd h (Nat.not_lt_zero _)⟩
   case round =>
    obtain⟨m,hm,rfl,hR,hin⟩:=hrel;clear HR;by_cases hlt2:m<plen
    ·have hp1:=hp.kept (hR.below HD);have r1:wr.cell? ⟨pb,po+m*2,none⟩=some (.int .i64 (px m)):=hp1.fst m hlt2;have r2:wr.cell? ⟨pb,po+m*2+1,none⟩=some (.int .i64 (py m)):=hp1.snd m hlt2;have r0:pao=some ⟨pb,po,none⟩:=hp1.nil (by show 0<plen;omega)
     subst r0;have HI:Hid (∀i,i<m→(inR n.len (px i)&&inR n.len (py i))=true):=hin;clear hin hp1;cases hb:(inR n.len (px m)&&inR n.len (py m))
     ·have HE:Hid (zcd n ⟨some ⟨pb,po,none⟩,pb,po,plen,pcap,px,py⟩=10):=zu3 (show ¬(8<n.len∨64<plen) by omega) (prs_no hlt2 hb);have hcase:=zr5 hb;obtain⟨c0,c1,f0,f1⟩:=hR.zero HD;have HB:Hid (Below w.heap.size w wr):=hR.below HD;clear hb hR HI;generalize px m=x at r1 hcase;generalize py m=y at r2 hcase;rcases hcase with h1 | ⟨h1,h2⟩ | ⟨h1,h2,h3⟩ | ⟨h1,h2,h3,h4⟩
      ·have d1:decide (x<0)=true:=decide_eq_true h1;go_wp2
       go_region
       go_wp2;exact bodyPost_ret (v:=.tuple #[.agg #[.slice none 0 0,.slice none 0 0],.int .i64 10]) (by simp[results,Tryz.results26,go_sem,c0,c1]) rfl ⟨10,noStrs,noGrid,rfl,zdl _ HE.out (by decide),(zdb HB.out _ _).drew⟩
      ·have d1:decide (x<0)=false:=decide_eq_false (by omega);have d2:decide (y<0)=true:=decide_eq_true h2;go_wp2
       go_region
       go_wp2;exact bodyPost_ret (v:=.tuple #[.agg #[.slice none 0 0,.slice none 0 0],.int .i64 10]) (by simp[results,Tryz.results26,go_sem,c0,c1]) rfl ⟨10,noStrs,noGrid,rfl,zdl _ HE.out (by decide),(zdb HB.out _ _).drew⟩
      ·have d1:decide (x<0)=false:=decide_eq_false (by omega);have d2:decide (y<0)=false:=decide_eq_false (by omega);have d3:decide ((n.len:Int)≤x)=true:=decide_eq_true h3;go_wp2
       go_region
       go_wp2;exact bodyPost_ret (v:=.tuple #[.agg #[.slice none 0 0,.slice none 0 0],.int .i64 10]) (by simp[results,Tryz.results26,go_sem,c0,c1]) rfl ⟨10,noStrs,noGrid,rfl,zdl _ HE.out (by decide),(zdb HB.out _ _).drew⟩
      ·have d1:decide (x<0)=false:=decide_eq_false (by omega);have d2:decide (y<0)=false:=decide_eq_false (by omega);have d3:decide ((n.len:Int)≤x)=false:=decide_eq_false (by omega);have d4:decide ((n.len:Int)≤y)=true:=decide_eq_true h4;go_wp2
       go_region
       go_wp2;exact bodyPost_ret (v:=.tuple #[.agg #[.slice none 0 0,.slice none 0 0],.int .i64 10]) (by simp[results,Tryz.results26,go_sem,c0,c1]) rfl ⟨10,noStrs,noGrid,rfl,zdl _ HE.out (by decide),(zdb HB.out _ _).drew⟩
     ·obtain⟨⟨x,hx,hx1⟩,y,hy,hy1⟩:=zuk hb;have hao1:=hao (by omega);subst hao1;have q0:=hR.l1;have q1:=hR.cellAt hx1;have q2:=(hR.rows x hx1).cell hy1;have q3:=(hR.rows x hx1).frozen y;have ix:(x:Int)<n.len:=by omega
      have iy:(y:Int)<n.len:=by omega
      have d1:decide ((x:Int)<0)=false:=decide_eq_false (by omega);have d2:decide ((y:Int)<0)=false:=decide_eq_false (by omega);have d3:decide ((n.len:Int)≤x)=false:=decide_eq_false (by omega);have d4:decide ((n.len:Int)≤y)=false:=decide_eq_false (by omega);have HR:Hid (RG W1 wr (w.heap.size+1) n.len n.len (.slice (some ⟨gg,0,none⟩) n.len cap) R (prsM ⟨some ⟨pb,po,none⟩,pb,po,plen,pcap,px,py⟩ m)):=hR;have HX:Hid ((px m=x∧py m=y)∧(inR n.len (px m)&&inR n.len (py m))=true):=⟨⟨hx,hy⟩,hb⟩;rw[hx] at r1;rw[hy] at r2;clear hR hb hx hy;go_wp2
      go_region
      go_wp2;go_roundw
      case rel=>exact⟨m+1,by omega,by go_num,((HR.out.drew).set hlt7 hx1).congr (fun r c _ _=>zrk ⟨some ⟨pb,po,none⟩,pb,po,plen,pcap,px,py⟩ m x y HX.out.1.1 HX.out.1.2 r c),fun i hi=>by
        by_cases e:i=m
        ·subst e;exact HX.out.2
        ·exact HI.out i (by omega)⟩
      case measure=>simp[intOf];omega
    ·have e:plen=m:=by omega
     subst e;have HP:Hid (prsB ⟨pao,pb,po,plen,pcap,px,py⟩ n.len=true):=zts hin;have HR:Hid (RG W1 wr (w.heap.size+1) n.len n.len (.slice ao n.len cap) R (prsM ⟨pao,pb,po,plen,pcap,px,py⟩ plen)):=hR;clear hR hin;go_wp2
     go_loopg [12] (cnt2 (prsM ⟨pao,pb,po,plen,pcap,px,py⟩ plen) n.len n.len+1) (fun k mo wr=>∃(M:Nat→Nat→Bool) (b:Bool),mo=.bool b∧RG W1 wr (w.heap.size+1) n.len n.len (.slice ao n.len cap) R M∧zcy n.len (prsM ⟨pao,pb,po,plen,pcap,px,py⟩ plen) M∧zcy n.len M (zcw ⟨pao,pb,po,plen,pcap,px,py⟩ n.len)∧(b=false→∀x y z,x<n.len→y<n.len→z<n.len→(M x y&&M y z&&!M x z)=false)∧cnt2 M n.len n.len+(if b then 1 else 0)≤k)
     case atStart=>exact⟨_,true,rfl,HR.out,fun _ _ _ _ h=>h,zgd n.len _ n.len,fun h=>Bool.noConfusion h,Nat.le_refl _⟩
     case round =>
      obtain⟨M,b,rfl,hR,hM1,hM2,hcl,hgk⟩:=hrel;clear HR;cases b
      ·have HL:Hid (∀r c,r<n.len→c<n.len→M r c=zcw ⟨pao,pb,po,plen,pcap,px,py⟩ n.len r c):=zmm n.len (prsM ⟨pao,pb,po,plen,pcap,px,py⟩ plen) M hM1 hM2 (hcl rfl);have hR3:=hR.congr HL.out;have hn3:=hR.names HD;have hg3:=hR3.grid (gg:=gg) hcap hao h8;have x0:=hR.st.l0.trans HD.l0;have x1:=hR3.l1;have hz:=hR.zero HD;have hb3:=hR.below HD;have HGE:Hid ((0<n.len→w.heap.size<gg)∧∀j,j<n.len→w.heap.size<R j):=hR.high hao hlt7;have hlt4:w.heap.size+1<wr.heap.size:=Nat.lt_of_lt_of_le HD.lt hR.st.size;clear hR hR3 hM1 hM2 hcl hgk HL;go_wp2_with fail
       refine (zoc ⟨ao',b',0,n.len,c',n.s⟩ (zdj ao gg n.len cap R (zcw ⟨pao,pb,po,plen,pcap,px,py⟩ n.len)) _ hn3 hg3).mono ?_;rintro e w4 ⟨rfl,hb4⟩;rw[zlw];have hn4:=hn3.kept hb4;have hg4:=hg3.kept hb4;have x0:=(hb4.cell (p:=⟨w.heap.size+1,0,none⟩) hlt4).trans x0;have x1:=(hb4.cell (p:=⟨w.heap.size+1,1,none⟩) hlt4).trans x1;have c0:=(hb4.cell (p:=⟨w.heap.size,0,none⟩) (by show w.heap.size<_;omega)).trans hz.1
       have c1:=(hb4.cell (p:=⟨w.heap.size,1,none⟩) (by show w.heap.size<_;omega)).trans hz.2.1
       have f0:=(hb4.frozen (p:=⟨w.heap.size,0,none⟩) (by show w.heap.size<_;omega)).trans hz.2.2.1
       have f1:=(hb4.frozen (p:=⟨w.heap.size,1,none⟩) (by show w.heap.size<_;omega)).trans hz.2.2.2
       have HB:Hid (Below w.heap.size w w4):=hb3.trans (hb4.mono (by omega));clear hn3 hg3 hz hb3 hb4;cases h3:zez n.len n.s (zcw ⟨pao,pb,po,plen,pcap,px,py⟩ n.len)
       ·have HE:Hid (zcd n ⟨pao,pb,po,plen,pcap,px,py⟩=4):=zwe (show ¬(8<n.len∨64<plen) by omega) HP.out h3;go_wp2;exact bodyPost_ret (v:=.tuple #[.agg #[.slice none 0 0,.slice none 0 0],.int .i64 4]) (by simp[results,Tryz.results26,go_sem,c0,c1]) rfl ⟨4,noStrs,noGrid,rfl,zdl _ HE.out (by decide),zdb HB.out _ _⟩
       ·have HE:Hid (zcd n ⟨pao,pb,po,plen,pcap,px,py⟩=0):=zwo (show ¬(8<n.len∨64<plen) by omega) HP.out h3;have HG:Hid (Strs.At ⟨ao',b',0,n.len,c',n.s⟩ w4∧(zdj ao gg n.len cap R (zcw ⟨pao,pb,po,plen,pcap,px,py⟩ n.len)).At w4):=⟨hn4,hg4⟩;clear hn4 hg4;go_wp2;have c1':(w4.setCell ⟨w.heap.size,0,none⟩ (.slice ao' n.len c')).cell? ⟨w.heap.size,1,none⟩=some (.slice none 0 0):=by
         rw[World.cell?_setCell_other _ _ _ _ (by simp)];exact c1
        refine bodyPost_ret (v:=.tuple #[.agg #[.slice ao' n.len c',.slice ao n.len cap],.int .i64 0]) (by simp[results,Tryz.results26,go_sem,c0,c1]) rfl ⟨0,⟨ao',b',0,n.len,c',n.s⟩,zdj ao gg n.len cap R (zcw ⟨pao,pb,po,plen,pcap,px,py⟩ n.len),rfl,?_,zdb HB.out _ _⟩;exact⟨HE.out.symm,(HG.out.1.set c0 _).set c1' _,zlq (zlq HG.out.2 HGE.out.1 HGE.out.2 _) HGE.out.1 HGE.out.2 _,fun _=>⟨rfl,rfl,_,_,_,_,rfl⟩,fun h=>absurd rfl h⟩
      ·have HM:Hid (RG W1 wr (w.heap.size+1) n.len n.len (.slice ao n.len cap) R M∧zcy n.len (prsM ⟨pao,pb,po,plen,pcap,px,py⟩ plen) M∧zcy n.len M (zcw ⟨pao,pb,po,plen,pcap,px,py⟩ n.len)∧cnt2 M n.len n.len+1≤gk):=⟨hR,hM1,hM2,hgk⟩;clear hR hM1 hM2 hcl hgk;go_wp2;go_loopw [12,13] (fun mo i wr=>∃(a:Nat) (more:Bool) (M':Nat→Nat→Bool),a≤n.len∧i=.int .i64 a∧mo=.bool more∧RG W1 wr (w.heap.size+1) n.len n.len (.slice ao n.len cap) R M'∧Pass n.len (prsM ⟨pao,pb,po,plen,pcap,px,py⟩ plen) M M' more a 0 0) (fun _ i _=>n.len - (intOf i).toNat)
       case atStart=>exact⟨0,false,M,Nat.zero_le _,rfl,rfl,HM.out.1,Pass.start HM.out.2.2.1⟩
       case round =>
        obtain⟨a,more,M',ha,rfl,rfl,hR,hPs⟩:=hrel;by_cases hlta:a<n.len
        ·have HS:Hid (RG W1 wr (w.heap.size+1) n.len n.len (.slice ao n.len cap) R M'∧Pass n.len (prsM ⟨pao,pb,po,plen,pcap,px,py⟩ plen) M M' more a 0 0):=⟨hR,hPs⟩;clear hR hPs;go_wp2;go_loopw [12,14] (fun mo i wr=>∃(b:Nat) (more:Bool) (M':Nat→Nat→Bool),b≤n.len∧i=.int .i64 b∧mo=.bool more∧RG W1 wr (w.heap.size+1) n.len n.len (.slice ao n.len cap) R M'∧Pass n.len (prsM ⟨pao,pb,po,plen,pcap,px,py⟩ plen) M M' more a b 0) (fun _ i _=>n.len - (intOf i).toNat)
         case atStart=>exact⟨0,more,M',Nat.zero_le _,rfl,rfl,HS.out.1,HS.out.2⟩
         case round =>
          clear HS;obtain⟨b,more,M',hb,rfl,rfl,hR,hPs⟩:=hrel;by_cases hltb:b<n.len
          ·have HS:Hid (RG W1 wr (w.heap.size+1) n.len n.len (.slice ao n.len cap) R M'∧Pass n.len (prsM ⟨pao,pb,po,plen,pcap,px,py⟩ plen) M M' more a b 0):=⟨hR,hPs⟩;clear hR hPs;go_wp2;go_loopw [12,15] (fun mo i wr=>∃(c:Nat) (more:Bool) (M':Nat→Nat→Bool),c≤n.len∧i=.int .i64 c∧mo=.bool more∧RG W1 wr (w.heap.size+1) n.len n.len (.slice ao n.len cap) R M'∧Pass n.len (prsM ⟨pao,pb,po,plen,pcap,px,py⟩ plen) M M' more a b c) (fun _ i _=>n.len - (intOf i).toNat)
           case atStart=>exact⟨0,more,M',Nat.zero_le _,rfl,rfl,HS.out.1,HS.out.2⟩
           case round =>
            clear HS;obtain⟨c,more,M',hc,rfl,rfl,hR,hPs⟩:=hrel;by_cases hltc:c<n.len
            ·have hao1:=hao (by omega);subst hao1;have q0:=hR.l1;have qa:=hR.cellAt hlta;have qb:=hR.cellAt hltb;have e1:wr.cell? ⟨R a,b,none⟩=some (.bool (M' a b)):=(hR.rows a hlta).cell hltb;have e2:wr.cell? ⟨R b,c,none⟩=some (.bool (M' b c)):=(hR.rows b hltb).cell hltc;have e3:wr.cell? ⟨R a,c,none⟩=some (.bool (M' a c)):=(hR.rows a hlta).cell hltc;have f3:=(hR.rows a hlta).frozen c;have ia:(a:Int)<n.len:=by omega
             have ib:(b:Int)<n.len:=by omega
             have ic:(c:Int)<n.len:=by omega
             have HS:Hid (RG W1 wr (w.heap.size+1) n.len n.len (.slice (some ⟨gg,0,none⟩) n.len cap) R M'∧Pass n.len (prsM ⟨pao,pb,po,plen,pcap,px,py⟩ plen) M M' more a b c):=⟨hR,hPs⟩;clear hR hPs;cases h1:M' a b
             ·rw[h1] at e1;go_wp2;go_roundw
              case rel=>exact⟨c+1,more,M',by omega,by go_num,rfl,HS.out.1,HS.out.2.skip (by simp[h1])⟩
              case measure=>simp[intOf];omega
             ·rw[h1] at e1;cases h2:M' b c
              ·rw[h2] at e2;go_wp2;go_roundw
               case rel=>exact⟨c+1,more,M',by omega,by go_num,rfl,HS.out.1,HS.out.2.skip (by simp[h2])⟩
               case measure=>simp[intOf];omega
              ·rw[h2] at e2;cases h3:M' a c
               ·rw[h3] at e3;have HT:Hid ((M' a b=true∧M' b c=true)∧M' a c=false):=⟨⟨h1,h2⟩,h3⟩;clear h1 h2 h3;go_wp2;go_roundw
                case rel=>exact⟨c+1,true,setM M' a c,by omega,by go_num,rfl,HS.out.1.set hlt7 hlta,HS.out.2.add hlta hltb hltc HT.out.1.1 HT.out.1.2 HT.out.2⟩
                case measure=>simp[intOf];omega
               ·rw[h3] at e3;go_wp2;go_roundw
                case rel=>exact⟨c+1,more,M',by omega,by go_num,rfl,HS.out.1,HS.out.2.skip (by simp[h3])⟩
                case measure=>simp[intOf];omega
            ·have e:c=n.len:=by omega
             subst e;have HS:Hid (RG W1 wr (w.heap.size+1) n.len n.len (.slice ao n.len cap) R M'∧Pass n.len (prsM ⟨pao,pb,po,plen,pcap,px,py⟩ plen) M M' more a b n.len):=⟨hR,hPs⟩;clear hR hPs;go_wp2;go_roundw
             case rel=>exact⟨b+1,more,M',by omega,by go_num,rfl,HS.out.1,HS.out.2.nextB⟩
             case measure=>simp[intOf];omega
          ·have e:b=n.len:=by omega
           subst e;have HS:Hid (RG W1 wr (w.heap.size+1) n.len n.len (.slice ao n.len cap) R M'∧Pass n.len (prsM ⟨pao,pb,po,plen,pcap,px,py⟩ plen) M M' more a n.len 0):=⟨hR,hPs⟩;clear hR hPs;go_wp2;go_roundw
           case rel=>exact⟨a+1,more,M',by omega,by go_num,rfl,HS.out.1,HS.out.2.nextA⟩
           case measure=>simp[intOf];omega
        ·have e:a=n.len:=by omega
         subst e;have HS:Hid (RG W1 wr (w.heap.size+1) n.len n.len (.slice ao n.len cap) R M'∧Pass n.len (prsM ⟨pao,pb,po,plen,pcap,px,py⟩ plen) M M' more n.len 0 0):=⟨hR,hPs⟩;clear hR hPs;go_wp2
         go_roundg (cnt2 M' n.len n.len+if more then 1 else 0)
         case measure=>exact Pass.less HS.out.2 HM.out.2.2.2
         case rel=>exact⟨M',more,rfl,HS.out.1,fun r c hr hc h=>HS.out.2.up r c hr hc (HM.out.2.1 r c hr hc h),HS.out.2.inn,HS.out.2.closed,Nat.le_refl _⟩
theorem zsw (n:Strs)(p:Prs)(w:World)(hn:n.At w)(hp:p.At w)(had:(n.ao=none∧n.cap=0)∨n.ao=some ⟨n.b,n.o,none⟩) :
  Calls Tryz.prog 26 #[.slice n.ao n.len n.cap,.slice p.ao p.len p.cap] w fun e w'=>∃(er:Int) (n':Strs) (g':Grid),e=.returned (.tuple #[.agg #[.slice n'.ao n'.len n'.cap,.slice g'.ao g'.len g'.cap],.int .i64 er])∧zqn n p er n' g' w'∧Below w.heap.size w w':=by
 by_cases h8:8<n.len
 ·have HE:Hid (zcd n p=1):=zos (Or.inl h8);have B0:=Box2.start w (.slice none 0 0) (.slice none 0 0) 25;have d8:decide ((8:Int)<n.len)=true:=by simp;omega
  go_enter Tryz.func26,Tryz.ntmps26
  go_wp2;exact bodyPost_ret (v:=.tuple #[.agg #[.slice none 0 0,.slice none 0 0],.int .i64 1]) (by simp[results,Tryz.results26,go_sem]) rfl ⟨1,noStrs,noGrid,rfl,zdl _ HE.out (by decide),B0.bl⟩
 ·by_cases h64:64<p.len
  ·have HE:Hid (zcd n p=1):=zos (Or.inr h64);have B0:=Box2.start w (.slice none 0 0) (.slice none 0 0) 25;have d8:decide ((8:Int)<n.len)=false:=by simp;omega
   have d64:decide ((64:Int)<p.len)=true:=by simp;omega
   have hpb:=hp.bound;go_enter Tryz.func26,Tryz.ntmps26
   go_wp2;exact bodyPost_ret (v:=.tuple #[.agg #[.slice none 0 0,.slice none 0 0],.int .i64 1]) (by simp[results,Tryz.results26,go_sem]) rfl ⟨1,noStrs,noGrid,rfl,zdl _ HE.out (by decide),B0.bl⟩
  ·exact zqo n p.ao p.b p.o p.len p.cap p.x p.y w hn hp (by omega) (by omega) had
end
end Go.Proofs.YtfobijdkoeifjaaGreatDoor
