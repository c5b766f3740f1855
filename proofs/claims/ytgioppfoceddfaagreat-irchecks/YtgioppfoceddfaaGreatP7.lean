import Derived.Test.YtgioppfoceddfaaGreatP5
import Derived.Test.YtgioppfoceddfaaGreatP6
import Derived.Laws.AppendOwnNone
import Derived.Deep.RegionHeld3
import Derived.Deep.RegionLaw
import Derived.Deep.AppendLies
set_option maxRecDepth 100000
set_option maxHeartbeats 32000000
namespace Go.Proofs.YtgioppfoceddfaaGreat
section
open Go.RowKit
theorem Tryz.infoInt:(Tryz.prog.info? 3).map (fun i=>(i.zero,i.size,i.bytes))=some (some (.int .i64 0),1,8):=by kernel_rfl
theorem zii {w:World}{base:Nat}{e:TypeId}{size:Nat}{v:Value}{n:Nat}{xs:List Value}(h:w.ownsRow base e size v n xs){b:Nat}(hb:v.ownBlock=some b):base≤b:=by
 obtain⟨_,⟨rfl,_⟩ | ⟨gb,cap,cur,rfl,hg,_⟩⟩:=h
 ·simp[Value.ownBlock] at hb
 ·have:gb=b:=by simpa [Value.ownBlock] using hb
  omega
structure St (W1 wr:World)(B7:Nat):Prop where
 os:wr.os=W1.os
 tape:wr.tape=W1.tape
 output:wr.output=W1.output
 size:W1.heap.size≤wr.heap.size
 blk:∀b,b<W1.heap.size→b≠B7→wr.heap[b]?=W1.heap[b]?
 l0:wr.cell? ⟨B7,0,none⟩=W1.cell? ⟨B7,0,none⟩
 f1:wr.frozen? ⟨B7,1,none⟩=false
def zer (R:Nat→Nat)(n k:Nat):List Value:=(List.range k).map fun j=>.slice (some ⟨R j,0,none⟩) n n
structure RG (W1 wr:World)(B7 n k:Nat)(v:Value)(R:Nat→Nat)(M:Nat→Nat→Bool):Prop where
 st:St W1 wr B7
 l1:wr.cell? ⟨B7,1,none⟩=some v
 own:wr.ownsRow W1.heap.size 61 1 v k (zer R n k)
 rows:∀j,j<k→wr.rowIs (R j) 4 n (fun c=>.bool (M j c))
 inj:∀i j,i<k→j<k→R i=R j→i=j
 ge:∀j,j<k→W1.heap.size≤R j
theorem zrk {n:Strs}{w w1:World}{v:Value}(h8:n.len≤8)(hsz:∀i,i<n.len→(n.s i).size≤9223372036854775807)(h:w1.ownsRow (w.heap.size+2) 9 1 v (0+n.len) ([]++zcz n)) :
  ∃(ao:Option Addr) (b c:Nat),v=.slice ao n.len c∧Strs.At ⟨ao,b,0,n.len,c,n.s⟩ w1∧(0<n.len→w.heap.size+2≤b):=by
 rw[Nat.zero_add,List.nil_append] at h;have h':=h;obtain⟨_,⟨rfl,h0⟩ | ⟨gb,cap,cur,rfl,hge,_,hc,_⟩⟩:=h'
 ·refine⟨none,0,0,by rw[h0],⟨?_,fun hp=>?_,?_,fun i hi=>?_,fun i hi=>?_⟩,fun hp=>by omega⟩
  ·show n.len≤0;omega
  ·have hp':0<n.len:=hp;omega
  ·show n.len≤_;omega
  ·have hi':i<n.len:=hi;omega
  ·have hi':i<n.len:=hi;omega
 ·refine⟨some ⟨gb,0,none⟩,gb,cap,rfl,⟨hc,fun _=>rfl,?_,fun i hi=>?_,hsz⟩,fun _=>hge⟩
  ·show n.len≤_;omega
  ·have hi':i<n.len:=hi;show w1.cell? ⟨gb,0+i,none⟩=_
   rw[Nat.zero_add,h.cellAt i (by simpa using hi')];exact zjg n i hi'
theorem zq4 {w w':World}(h:w.grownBy w' none):Below w.heap.size w w':=⟨h.os,h.tape,h.output,h.size,fun k hk=>h.block k hk (by simp)⟩
theorem zu7 (w:World)(u v u2 v2:Value)(t t2:TypeId){w1:World}(hb:Below ((w.alloc (.cells #[u,v] t)).alloc (.cells #[u2,v2] t2)).heap.size ((w.alloc (.cells #[u,v] t)).alloc (.cells #[u2,v2] t2)) w1) :
  (w1.frozen? ⟨w.heap.size,0,none⟩=false∧w1.frozen? ⟨w.heap.size,1,none⟩=false)∧w1.frozen? ⟨w.heap.size+1,0,none⟩=false∧w1.frozen? ⟨w.heap.size+1,1,none⟩=false:=by
 refine⟨⟨?_,?_⟩,?_,?_⟩
 all_goals (rw[hb.frozen (by simp <;> omega)];simp)
structure Head (w W1:World)(n:Strs)(ao:Option Addr)(b c:Nat):Prop where
 bl:Below w.heap.size w W1
 lt:w.heap.size+1<W1.heap.size
 r0:W1.cell? ⟨w.heap.size,0,none⟩=some (.slice none 0 0)
 r1:W1.cell? ⟨w.heap.size,1,none⟩=some (.slice none 0 0)
 rf0:W1.frozen? ⟨w.heap.size,0,none⟩=false
 rf1:W1.frozen? ⟨w.heap.size,1,none⟩=false
 l0:W1.cell? ⟨w.heap.size+1,0,none⟩=some (.slice ao n.len c)
 l1:W1.cell? ⟨w.heap.size+1,1,none⟩=some (.slice none 0 0)
 lf1:W1.frozen? ⟨w.heap.size+1,1,none⟩=false
 nat:Strs.At ⟨ao,b,0,n.len,c,n.s⟩ W1
 ge:0<n.len→w.heap.size+2≤b
theorem zx2 {w w1:World}{n:Strs}{ao:Option Addr}{b c:Nat}(T1:Two w w1 (.slice none 0 0) (.slice none 0 0) (.slice none 0 0) (.slice none 0 0))
  (hfz:(w1.frozen? ⟨w.heap.size,0,none⟩=false∧w1.frozen? ⟨w.heap.size,1,none⟩=false)∧w1.frozen? ⟨w.heap.size+1,0,none⟩=false∧w1.frozen? ⟨w.heap.size+1,1,none⟩=false)
  (hn1:Strs.At ⟨ao,b,0,n.len,c,n.s⟩ w1) (hge:0<n.len→w.heap.size+2≤b):Head w (w1.setCell ⟨w.heap.size+1,0,none⟩ (.slice ao n.len c)) n ao b c where
 bl:=T1.bl.setCell (by show w.heap.size≤w.heap.size+1;omega) _
 lt:=by simpa [World.setCell] using T1.lt
 r0:=by rw[World.cell?_setCell_other _ _ _ _ (by simp)];exact T1.c0
 r1:=by rw[World.cell?_setCell_other _ _ _ _ (by simp)];exact T1.c1
 rf0:=by rw[World.frozen?_setCell];exact hfz.1.1
 rf1:=by rw[World.frozen?_setCell];exact hfz.1.2
 l0:=World.cell?_setCell_same _ _ _ T1.c2
 l1:=by rw[World.cell?_setCell_other _ _ _ _ (by simp)];exact T1.c3
 lf1:=by rw[World.frozen?_setCell];exact hfz.2.2
 nat:=hn1.set T1.c2 _
 ge:=hge
theorem RG.start {w W1:World}{n:Strs}{ao:Option Addr}{b c:Nat}(h:Head w W1 n ao b c):RG W1 W1 (w.heap.size+1) n.len 0 (.slice none 0 0) (fun _=>0) (fun r c=>c==r) :=
 ⟨⟨rfl,rfl,rfl,Nat.le_refl _,fun _ _ _=>rfl,rfl,h.lf1⟩,h.l1,World.ownsRow_nil _ _ _ _,fun _ h=>absurd h (Nat.not_lt_zero _),fun _ _ h=>absurd h (Nat.not_lt_zero _),fun _ h=>absurd h (Nat.not_lt_zero _)⟩
theorem zjq {w:World}{base:Nat}{e:TypeId}{size:Nat}{v:Value}{n:Nat}{xs:List Value}(h:w.ownsRow base e size v n xs){b:Nat}(hb:v.ownBlock=some b):∃cur,w.heap[b]?=some (.cells cur e):=by
 obtain⟨_,⟨rfl,_⟩ | ⟨gb,cap,cur,rfl,hg,hh,_⟩⟩:=h
 ·simp[Value.ownBlock] at hb
 ·have:gb=b:=by simpa [Value.ownBlock] using hb
  subst this;exact⟨cur,hh⟩
theorem RG.row_ne {W1 wr:World}{B7 n k:Nat}{v:Value}{R:Nat→Nat}{M:Nat→Nat→Bool}(h:RG W1 wr B7 n k v R M){j:Nat}(hj:j<k):some (R j)≠v.ownBlock:=fun e=>by
 obtain⟨cur,hc⟩:=zjq h.own e.symm;obtain⟨c,hr,_,_⟩:=h.rows j hj;rw[hc] at hr;simp at hr
theorem zmh (R:Nat→Nat)(n k x:Nat):zer (fun j=>if j<k then R j else x) n (k+1)=zer R n k++[.slice (some ⟨x,0,none⟩) n n]:=by
 unfold zer;rw[List.range_succ,List.map_append]
 congr 1
 ·exact List.map_congr_left (fun j hj=>by simp[List.mem_range.1 hj])
 ·simp
theorem RG.grow {W1 wr w2:World}{B7 n k:Nat}{v:Value}{R:Nat→Nat}{M:Nat→Nat→Bool}{gg cap:Nat}{o':Obj}(h:RG W1 wr B7 n k v R M)(hB7:B7<W1.heap.size)
  (hown2:w2.ownsRow W1.heap.size 61 1 (.slice (some ⟨gg,0,none⟩) (k+1) cap) (k+1) (zer R n k++[.slice (some ⟨wr.heap.size,0,none⟩) n n]))
  (hgrow:((wr.alloc (.cells (madeCells #[.bool false] n) 4)).alloc o').drew.grownBy w2 v.ownBlock) :
  RG W1 (w2.setCell ⟨B7,1,none⟩ (.slice (some ⟨gg,0,none⟩) (k+1) cap)) B7 n (k+1) (.slice (some ⟨gg,0,none⟩) (k+1) cap) (fun j=>if j<k then R j else wr.heap.size) (fun r c=>if r<k then M r c else false):=by
 have hsz:=h.st.size;have bsz:((wr.alloc (.cells (madeCells #[.bool false] n) 4)).alloc o').drew.heap.size=wr.heap.size+2:=by
  show ((wr.alloc _).alloc o').heap.size=_
  simp
 have hb:Below wr.heap.size wr ((wr.alloc (.cells (madeCells #[.bool false] n) 4)).alloc o').drew:=(((Below.refl _ _).alloc (Nat.le_refl _) _).alloc (by simp) _).drew;have old:∀b,b<wr.heap.size→some b≠v.ownBlock→w2.heap[b]?=wr.heap[b]?:=fun b hb1 hne=>(hgrow.block b (by rw[bsz];omega) hne).trans (hb.block b hb1)
 have hne7:some B7≠v.ownBlock:=fun e=>by have:=zii h.own e.symm;omega
 have o7:=old B7 (by omega) hne7;refine⟨⟨hgrow.os.trans h.st.os,hgrow.tape.trans h.st.tape,hgrow.output.trans h.st.output,?_,fun b hb1 hb2=>?_,?_,?_⟩,?_,?_,fun j hj=>?_,fun i j hi hj e=>?_,fun j hj=>?_⟩
 ·have:=hgrow.size;rw[bsz] at this;show W1.heap.size≤(w2.setCell _ _).heap.size
  simp[World.setCell];omega
 ·rw[Below.heap_setCell _ _ _ _ hb2,old b (by omega) (fun e=>by have:=zii h.own e.symm;omega)]
  exact h.st.blk b hb1 hb2
 ·rw[World.cell?_setCell_other _ _ _ _ (by simp),World.cell?_of_block (w:=wr) o7];exact h.st.l0
 ·rw[World.frozen?_setCell,World.frozen?_of_block (w:=wr) o7];exact h.st.f1
 ·exact World.cell?_setCell_same _ _ _ ((World.cell?_of_block (w:=wr) o7).trans h.l1)
 ·rw[zmh];exact ownsRow_setCell_below hown2 hB7 _
 ·by_cases hjk:j<k
  ·have hlt:=(h.rows j hjk).lt;have hr:=(h.rows j hjk).of_block (old (R j) hlt (h.row_ne hjk));have hge:=h.ge j hjk;simp only[hjk,if_true];exact hr.setOther (by show R j≠B7;omega) _
  ·have e:j=k:=by omega
   subst e;have hnew:((wr.alloc (.cells (madeCells #[.bool false] n) 4)).alloc o').drew.rowIs wr.heap.size 4 n (fun _=>.bool false):=((World.rowIs_made wr (.bool false) n 4).alloc _).drew;have hne:some wr.heap.size≠v.ownBlock:=fun e=>by
    obtain⟨cur,hc⟩:=zjq h.own e.symm;have:=(Array.getElem?_eq_some_iff.1 hc).1;omega
   have hr:=hnew.of_block (hgrow.block wr.heap.size (by rw[bsz];omega) hne)
   simp only[Nat.lt_irrefl,if_false];exact hr.setOther (by show wr.heap.size≠B7;omega) _
 ·by_cases h1:i<k
  ·by_cases h2:j<k
   ·simp only[h1,h2,if_true] at e;exact h.inj i j h1 h2 e
   ·simp only[h1,h2,if_true,if_false] at e;have:=(h.rows i h1).lt;omega
  ·by_cases h2:j<k
   ·simp only[h1,h2,if_true,if_false] at e;have:=(h.rows j h2).lt;omega
   ·omega
 ·by_cases h1:j<k
  ·simp only[h1,if_true];exact h.ge j h1
  ·simp only[h1,if_false];omega
theorem RG.set {W1 wr:World}{B7 n k:Nat}{v:Value}{R:Nat→Nat}{M:Nat→Nat→Bool}(h:RG W1 wr B7 n k v R M)(hB7:B7<W1.heap.size){a c:Nat}(ha:a<k) :
  RG W1 (wr.setCell ⟨R a,c,none⟩ (.bool true)) B7 n k v R (setM M a c):=by
 have hge:=h.ge a ha;refine⟨⟨h.st.os,h.st.tape,h.st.output,by simpa [World.setCell] using h.st.size,fun b hb1 hb2=>?_,?_,?_⟩,?_,?_,fun j hj=>?_,h.inj,h.ge⟩
 ·rw[Below.heap_setCell _ _ _ _ (by show b≠R a;omega)];exact h.st.blk b hb1 hb2
 ·rw[World.cell?_setCell_other _ _ _ _ (fun e=>by have:=congrArg Addr.block e;simp at this;omega)];exact h.st.l0
 ·rw[World.frozen?_setCell];exact h.st.f1
 ·rw[World.cell?_setCell_other _ _ _ _ (fun e=>by have:=congrArg Addr.block e;simp at this;omega)];exact h.l1
 ·obtain⟨h1,h2⟩:=h.own;refine⟨h1,?_⟩;rcases h2 with h2 | ⟨gb,cap,cur,hv,hg,hh,r⟩
  ·exact Or.inl h2
  ·refine Or.inr ⟨gb,cap,cur,hv,hg,?_,r⟩;rw[Below.heap_setCell _ _ _ _ (by
    show gb≠R a
    intro e;obtain⟨cc,hr,_,_⟩:=h.rows a ha;rw[←e,hh] at hr;simp at hr)]
   exact hh
 ·by_cases e:j=a
  ·subst e;exact ((h.rows j hj).set c _).congr (fun i _=>by
    unfold setM;by_cases ec:i=c
    ·simp[ec]
    ·simp[ec])
  ·exact ((h.rows j hj).setOther (by show R j≠R a;exact fun e'=>e (h.inj j a hj ha e')) _).congr (fun i _=>by simp[setM,e])
theorem RG.congr {W1 wr:World}{B7 n k:Nat}{v:Value}{R:Nat→Nat}{M M':Nat→Nat→Bool}(h:RG W1 wr B7 n k v R M)(e:∀r c,r<k→c<n→M r c=M' r c):RG W1 wr B7 n k v R M' :=
 ⟨h.st,h.l1,h.own,fun j hj=>(h.rows j hj).congr (fun c hc=>by rw[e j c hj hc]),h.inj,h.ge⟩
theorem RG.top {W1 wr:World}{B7 n k:Nat}{v:Value}{R:Nat→Nat}{M:Nat→Nat→Bool}(h:RG W1 wr B7 n k v R M)(hk:0<k):∃gg cap,v=.slice (some ⟨gg,0,none⟩) k cap∧k≤cap∧∀j,j<k→wr.cell? ⟨gg,j,none⟩=some (.slice (some ⟨R j,0,none⟩) n n):=by
 have ho:=h.own;have ho':=ho;obtain⟨_,⟨_,h0⟩ | ⟨gb,cap,cur,rfl,hg,hh,hc,_⟩⟩:=ho'
 ·omega
 ·refine⟨gb,cap,rfl,hc,fun j hj=>?_⟩;rw[ho.cellAt j (by simpa using hj)];simp[zer,hj]
theorem zxv (w:World)(o o':Obj):((w.alloc o).alloc o').drew.heap[w.heap.size+1]?=some o':=by
 have h:=heap_alloc_new (w.alloc o) o';have e:(w.alloc o).heap.size=w.heap.size+1:=by simp
 rw[e] at h;exact h
theorem RG.cellAt {W1 wr:World}{B7 n k l c gg:Nat}{R:Nat→Nat}{M:Nat→Nat→Bool}(h:RG W1 wr B7 n k (.slice (some ⟨gg,0,none⟩) l c) R M){j:Nat}(hj:j<k):wr.cell? ⟨gg,j,none⟩=some (.slice (some ⟨R j,0,none⟩) n n):=by
 have ho:=h.own;obtain⟨gg',cap,hv,_,hc⟩:=h.top (by omega)
 injection hv with h1 h2 h3
 injection h1 with h1
 injection h1 with h1
 subst h1;exact hc j hj
theorem RG.any {W1 wr:World}{B7 n k:Nat}{v:Value}{R:Nat→Nat}{M:Nat→Nat→Bool}(h:RG W1 wr B7 n k v R M):∃(ao:Option Addr) (gg cap:Nat),v=.slice ao k cap∧k≤cap∧(0<k→ao=some ⟨gg,0,none⟩):=by
 by_cases hk:0<k
 ·obtain⟨gg,cap,rfl,hc,_⟩:=h.top hk;exact⟨_,gg,cap,rfl,hc,fun _=>rfl⟩
 ·have e:k=0:=by omega
  subst e;obtain⟨_,⟨rfl,_⟩ | ⟨gb,cap,cur,rfl,hg,hh,hc,_⟩⟩:=h.own
  ·exact⟨none,0,0,rfl,Nat.le_refl _,fun h=>absurd h (Nat.lt_irrefl _)⟩
  ·exact⟨_,gb,cap,rfl,hc,fun _=>rfl⟩
theorem RG.diag {W1 wr:World}{B7 n k:Nat}{v:Value}{R:Nat→Nat}(h:RG W1 wr B7 n (k+1) v R (setM (fun r c=>if r<k then (c==r) else false) k k)):RG W1 wr B7 n (k+1) v R (fun r c=>c==r) :=
 h.congr (fun r c hr _=>by
  unfold setM;by_cases e:r=k
  ·subst e;by_cases ec:c=r
   ·subst ec;simp
   ·simp[ec]
  ·have:r<k:=by omega
   simp[e,this])
theorem RG.below {w W1 wr:World}{n:Strs}{ao:Option Addr}{b c:Nat}{m k:Nat}{v:Value}{R:Nat→Nat}{M:Nat→Nat→Bool}(H:Head w W1 n ao b c)(h:RG W1 wr (w.heap.size+1) m k v R M):Below w.heap.size w wr :=
 H.bl.trans ⟨h.st.os,h.st.tape,h.st.output,h.st.size,fun i hi=>h.st.blk i (by have:=H.lt;omega) (by omega)⟩
theorem RG.zero {w W1 wr:World}{n:Strs}{ao:Option Addr}{b c:Nat}{m k:Nat}{v:Value}{R:Nat→Nat}{M:Nat→Nat→Bool}(H:Head w W1 n ao b c)(h:RG W1 wr (w.heap.size+1) m k v R M) :
  wr.cell? ⟨w.heap.size,0,none⟩=some (.slice none 0 0)∧wr.cell? ⟨w.heap.size,1,none⟩=some (.slice none 0 0)∧wr.frozen? ⟨w.heap.size,0,none⟩=false∧wr.frozen? ⟨w.heap.size,1,none⟩=false:=by
 have hb:=h.st.blk w.heap.size (by have:=H.lt;omega) (by omega)
 exact⟨(World.cell?_of_block (w:=W1) hb).trans H.r0,(World.cell?_of_block (w:=W1) hb).trans H.r1,(World.frozen?_of_block (w:=W1) hb).trans H.rf0,(World.frozen?_of_block (w:=W1) hb).trans H.rf1⟩
theorem RG.names {w W1 wr:World}{n:Strs}{ao:Option Addr}{b c:Nat}{m k:Nat}{v:Value}{R:Nat→Nat}{M:Nat→Nat→Bool}(H:Head w W1 n ao b c)(h:RG W1 wr (w.heap.size+1) m k v R M):Strs.At ⟨ao,b,0,n.len,c,n.s⟩ wr :=
 ⟨H.nat.lc,H.nat.nil,H.nat.bound,fun i hi=>by
  have hi':i<n.len:=hi;have h1:=H.ge (by omega);have hc:=H.nat.cell i hi;have hb:=h.st.blk b (zd6 hc) (by omega);exact (World.cell?_of_block (w:=W1) hb).trans hc,H.nat.sz⟩
theorem RG.drew {W1 wr:World}{B7 n k:Nat}{v:Value}{R:Nat→Nat}{M:Nat→Nat→Bool}(h:RG W1 wr B7 n k v R M):RG W1 wr.drew B7 n k v R M :=
 ⟨⟨h.st.os,h.st.tape,h.st.output,h.st.size,h.st.blk,h.st.l0,h.st.f1⟩,h.l1,h.own.drew,fun j hj=>(h.rows j hj).drew,h.inj,h.ge⟩
theorem zhe (n:Nat)(P:Nat→Nat→Bool):∀k,zdq n P (war P k)
 | 0=>fun _ _ _ _ h=>h
 | k+1=>fun r c hr hc h=>by
  show (war P k r c||(war P k r k&&war P k k c))=true
  rw[zhe n P k r c hr hc h];rfl
theorem zsn (g:Prs)(m x y:Nat)(hx:g.x m=x)(hy:g.y m=y)(r c:Nat):setM (prsM g m) x y r c=prsM g (m+1) r c:=by
 unfold setM prsM;rw[Bool.eq_iff_iff];simp only[Bool.or_eq_true,beq_iff_eq,decide_eq_true_eq]
 constructor
 ·intro h;split at h
  ·rename_i e
   exact Or.inr ⟨m,by omega,by rw[hx,e.1],by rw[hy,e.2]⟩
  ·simp only[Bool.or_eq_true,beq_iff_eq,decide_eq_true_eq] at h;rcases h with h | ⟨i,hi,h⟩
   ·exact Or.inl h
   ·exact Or.inr ⟨i,by omega,h⟩
 ·intro h;split
  ·rfl
  ·rename_i e
   simp only[Bool.or_eq_true,beq_iff_eq,decide_eq_true_eq];rcases h with h | ⟨i,hi,h1,h2⟩
   ·exact Or.inl h
   ·by_cases ei:i=m
    ·subst ei;exact absurd ⟨by omega,by omega⟩ e
    ·exact Or.inr ⟨i,by omega,h1,h2⟩
theorem zrv {n:Nat}{x y:Int}(h:(inR n x&&inR n y)=false):x<0∨(0≤x∧y<0)∨(0≤x∧0≤y∧(n:Int)≤x)∨(0≤x∧0≤y∧x<n∧(n:Int)≤y):=by
 unfold inR at h;simp only[Bool.and_eq_false_iff,decide_eq_false_iff_not] at h;omega
theorem zun {n:Nat}{x y:Int}(h:(inR n x&&inR n y)=true):(∃k:Nat,x=k∧k<n)∧∃k:Nat,y=k∧k<n:=by
 rw[Bool.and_eq_true] at h;exact⟨zbv h.1,zbv h.2⟩
theorem zvc {g:Prs}{n:Nat}(h:∀i,i<g.len→(inR n (g.x i)&&inR n (g.y i))=true):prsB g n=true:=by
 unfold prsB;rw[decide_eq_true_eq];exact h
def zek (ao:Option Addr)(gg n cap:Nat)(R:Nat→Nat)(M:Nat→Nat→Bool):Grid:=⟨ao,gg,0,n,cap,fun j=>some ⟨R j,0,none⟩,fun _=>n,fun _=>n,R,fun _=>0,M⟩
theorem RG.grid {W1 wr:World}{B7 n gg cap:Nat}{ao:Option Addr}{R:Nat→Nat}{M:Nat→Nat→Bool}(h:RG W1 wr B7 n n (.slice ao n cap) R M)(hc:n≤cap)(ha:0<n→ao=some ⟨gg,0,none⟩)(h8:n≤8):(zek ao gg n cap R M).At wr where
 lc:=hc
 nil:=ha
 bound:=by show n≤_;omega
 lbound:=fun _ _=>by show n≤_;omega
 row:=fun r hr=>by
  have hr':r<n:=hr;have:=ha (by omega);subst this;show wr.cell? ⟨gg,0+r,none⟩=_
  rw[Nat.zero_add];exact h.cellAt hr'
 adr:=fun _ _ _=>rfl
 cell:=fun r hr c hc=>by
  show wr.cell? ⟨R r,0+c,none⟩=_
  rw[Nat.zero_add];exact (h.rows r hr).cell hc
theorem zmf {ao ag:Option Addr}{b c gg len cap:Nat}{s:Nat→ByteArray}{R:Nat→Nat}{M:Nat→Nat→Bool}:zaf ⟨ao,b,0,len,c,s⟩ (zek ag gg len cap R M)=zf3 len s M:=rfl
theorem Pass.less {n:Nat}{P M M':Nat→Nat→Bool}{more:Bool}{a b c k:Nat}(h:Pass n P M M' more a b c)(hk:cnt2 M n n+1≤k):(cnt2 M' n n+if more then 1 else 0)<k:=by
 cases hm:more
 ·rw[(h.no hm).1];simp;omega
 ·have:=h.yes hm;simp;omega
theorem Pass.closed {n:Nat}{P M M':Nat→Nat→Bool}{more:Bool}(h:Pass n P M M' more n 0 0):more=false→∀x y z,x<n→y<n→z<n→(M' x y&&M' y z&&!M' x z)=false:=fun hm x y z hx hy hz=>by
 rw[(h.no hm).1];exact (h.no hm).2 x y z hx hy hz (Or.inl hx)
theorem zlm {ao:Option Addr}{gg n cap:Nat}{R:Nat→Nat}{M:Nat→Nat→Bool}{w:World}(h:(zek ao gg n cap R M).At w){a:Addr}(hg:0<n→a.block<gg)(hr:∀j,j<n→a.block<R j)(v:Value):(zek ao gg n cap R M).At (w.setCell a v) where
 lc:=h.lc
 nil:=h.nil
 bound:=h.bound
 lbound:=h.lbound
 row:=fun r hr'=>by
  have hr2:r<n:=hr';have:=hg (by omega);rw[World.cell?_setCell_other _ _ _ _ (fun e=>by have:=congrArg Addr.block e;simp[zek] at this;omega)]
  exact h.row r hr'
 adr:=h.adr
 cell:=fun r hr' c hc=>by
  have:=hr r hr';rw[World.cell?_setCell_other _ _ _ _ (fun e=>by have:=congrArg Addr.block e;simp[zek] at this;omega)]
  exact h.cell r hr' c hc
theorem RG.high {W1 wr:World}{B7 n gg cap s:Nat}{ao:Option Addr}{R:Nat→Nat}{M:Nat→Nat→Bool}(h:RG W1 wr B7 n n (.slice ao n cap) R M)(ha:0<n→ao=some ⟨gg,0,none⟩)(hs:s+1<W1.heap.size):(0<n→s<gg)∧∀j,j<n→s<R j :=
 ⟨fun hn=>by
  have:=ha hn;subst this;have:=zii h.own (b:=gg) (by simp[Value.ownBlock]);omega,fun j hj=>by have:=h.ge j hj;omega⟩
theorem zht {w:World}{ops:Array Oper}{rest:List Oper}{o:Oper}{a:Act}{Q:Exit→Act→World→Prop}(hgd:o.guard=none)(s x:Operand)
  (ho:o.op=.call { callee:=.builtin .append,args:=#[s,x],argTypes:=#[22,22] }) (base:Nat) (hs:a.eval s=.slice none 0 0)
  (n:Strs) (had:(n.ao=none∧n.cap=0)∨n.ao=some ⟨n.b,n.o,none⟩) (hn:n.At w) (h8:n.len≤8) (hx:a.eval x=.slice n.ao n.len n.cap) (hbase:base≤w.heap.size)
  (h:∀v' w',w'.ownsRow base 9 1 v' (0+n.len) ([]++zcz n)→w.grownBy w' none→wpList Tryz.prog ops Q rest (a.put o.dst v') w'):wpList Tryz.prog ops Q (o :: rest) a w:=by
 obtain⟨i0,hi,hz0,hz1,hz2⟩:=info_parts Tryz.infoString;rcases had with ⟨had,hc0⟩ | had
 ·have h0:n.len=0:=by
   by_cases h:0<n.len
   ·have:=hn.nil h;rw[had] at this;exact absurd this (by simp)
   ·omega
  rw[had,h0,hc0] at hx;refine wpList_append_own_none hgd s x _ ho base 9 i0 1 Tryz.underlying22 hi _ 0 [] hs (World.ownsRow_nil _ _ _ _) hx (h _ _ ?_ ⟨rfl,rfl,rfl,Nat.le_refl _,fun _ _ _=>rfl⟩);have e:zcz n=[]:=by simp[zcz,h0]
  rw[e,h0];exact World.ownsRow_nil _ _ _ _
 ·rw[had] at hx;refine wpList_append_own w hgd s x _ ho base 9 i0 (.string ⟨#[]⟩) 1 16 Tryz.underlying22 hi hz0 hz1 hz2 rfl (by decide) _ 0 [] hs (World.ownsRow_nil _ _ _ _) ⟨n.b,n.o,none⟩ n.len n.cap (zcz n) hx (by simp[zcz]) (fun j u hj=>?_) (by intro u hu;simp[zcz] at hu;obtain⟨_,_,rfl⟩:=hu;rfl) (by unfold maxLen;omega) (by omega) hbase (fun v' w' h1 h2 _=>h v' w' h1 h2)
  have hj':j<n.len:=by
   have:=(List.getElem?_eq_some_iff.1 hj).1
   simpa [zcz] using this
  rw[zjg n j hj'] at hj;rw[zuf,hn.cell j hj'];exact hj
structure zqr (n:Strs)(p:Prs)(e:Int)(n':Strs)(g':Grid)(w':World):Prop where
 er:e=zcs n p
 nat:n'.At w'
 gat:g'.At w'
 yes:e=0→n'.len=n.len∧n'.s=n.s∧∃ao gg cap R,g'=zek ao gg n.len cap R (zdo p n.len)
 no:e≠0→n'.len=0∧g'.len=0
theorem zeo {n:Strs}{p:Prs}{e:Int}(w:World)(h:zcs n p=e)(h0:e≠0):zqr n p e noStrs noGrid w:=⟨h.symm,zro w,zt1 w,fun h=>absurd h h0,fun _=>⟨rfl,rfl⟩⟩
theorem zig (n:Strs)(g:Grid)(a:Int)(w:World) :
  Calls Tryz.prog 63 #[.agg #[.slice n.ao n.len n.cap,.slice g.ao g.len g.cap],.int .i64 a] w fun e w'=>e=.returned (.bool (labB n a))∧Below w.heap.size w w':=by
 have B0:=Box2.start w (.slice n.ao n.len n.cap) (.slice g.ao g.len g.cap) 25;by_cases h:0≤a
 ·have HE:Hid (labB n a=decide (a<n.len)):=by show labB n a=_;unfold labB;rw[decide_eq_true h];rfl
  go_enter Tryz.func63,Tryz.ntmps63
  go_wp2;go_ret;exact⟨zab HE.out.symm,B0.bl⟩
 ·have HE:Hid (labB n a=false):=by show labB n a=_;unfold labB;rw[decide_eq_false h];rfl
  go_enter Tryz.func63,Tryz.ntmps63
  go_wp2;go_ret;exact⟨zab HE.out.symm,B0.bl⟩
theorem zcv {n:Strs}{g:Grid}{w wr:World}(hB:Box2 w wr (.slice n.ao n.len n.cap) (.slice g.ao g.len g.cap))(a:Int)(r:Bool)(h:labB n a=r) :
  Calls Tryz.prog 63 #[.agg #[.slice n.ao n.len n.cap,.slice g.ao g.len g.cap],.int .i64 a] wr fun e w'=>e=.returned (.bool r)∧Box2 w w' (.slice n.ao n.len n.cap) (.slice g.ao g.len g.cap):=by
 subst h;exact (zig n g a wr).mono fun _ _ ⟨he,hb⟩=>⟨he,hB.step hb⟩
theorem ze0 {n:Strs}{g:Grid}{w wr:World}(hn:n.At w)(hg:g.At w)(hB:Box2 w wr (.slice n.ao n.len n.cap) (.slice g.ao g.len g.cap))(r:Bool)(h:zaf n g=r) :
  Calls Tryz.prog 20 #[.agg #[.slice n.ao n.len n.cap,.slice g.ao g.len g.cap]] wr fun e w'=>e=.returned (.bool r)∧Box2 w w' (.slice n.ao n.len n.cap) (.slice g.ao g.len g.cap):=by
 subst h;exact (zfg n g wr (hn.kept hB.bl) (hg.kept hB.bl)).mono fun _ _ ⟨he,hb⟩=>⟨he,hB.step hb⟩
theorem zk3 {n:Strs}{g:Grid}{w:World}(hF:zaf n g=true)(hn:n.At w)(hg:g.At w):SqAt n g w:=by
 obtain⟨p1,p2,p3,p4⟩:=zav hF;exact⟨hn,hg,p2,p3,p1,fun r hr=>p4 r (by omega)⟩
theorem zvm {n:Strs}{g:Grid}(hF:zaf n g=true){a b:Nat}(ha:a<n.len)(hb:b<n.len):findI (abvB n g a b) n.len 0=zbr g.len g.U a b:=by
 obtain⟨h1,h2,h3,h4,h5⟩:=zfh hF ha hb;rw[h1];refine zma _ h2 ((zi2 n g a b _).2 ⟨h3,h4,h5⟩) (fun i hi hp=>?_);obtain⟨q1,q2,q3⟩:=(zi2 n g a b i).1 hp;exact zjh hF ⟨hi,q1,q2,q3⟩ ⟨h2,h3,h4,h5⟩
theorem zjo (n:Strs)(g:Grid)(a b:Int)(w:World)(hn:n.At w)(hg:g.At w) :
  Calls Tryz.prog 33 #[.agg #[.slice n.ao n.len n.cap,.slice g.ao g.len g.cap],.int .i64 a,.int .i64 b] w fun e w'=>e=.returned (.bool (leqB n g a b))∧Below w.heap.size w w':=by
 have B0:=Box2.start w (.slice n.ao n.len n.cap) (.slice g.ao g.len g.cap) 25;go_enter Tryz.func33,Tryz.ntmps33
 cases h1:labB n a
 ·go_wp2_with fail
  refine (zcv B0 a false h1).mono ?_;rintro e w1 ⟨rfl,B1⟩;go_wp2;go_ret;exact⟨zab (by simp[leqB,h1]),B1.bl⟩
 cases h2:labB n b
 ·go_wp2_with fail
  refine (zcv B0 a true h1).mono ?_;rintro e w1 ⟨rfl,B1⟩;have c0:=B1.c0;have c1:=B1.c1;go_wp2_with fail
  refine (zcv B1 b false h2).mono ?_;rintro e w2 ⟨rfl,B2⟩;go_wp2;go_ret;exact⟨zab (by simp[leqB,h2]),B2.bl⟩
 cases h3:zaf n g
 ·go_wp2_with fail
  refine (zcv B0 a true h1).mono ?_;rintro e w1 ⟨rfl,B1⟩;have c0:=B1.c0;have c1:=B1.c1;go_wp2_with fail
  refine (zcv B1 b true h2).mono ?_;rintro e w2 ⟨rfl,B2⟩;clear c0 c1;have c0:=B2.c0;have c1:=B2.c1;go_wp2_with fail
  refine (ze0 hn hg B2 false h3).mono ?_;rintro e w3 ⟨rfl,B3⟩;go_wp2;go_ret;exact⟨zab (by simp[leqB,h3]),B3.bl⟩
 ·have HL:Hid (leqB n g a b=g.B a.toNat b.toNat):=by show leqB n g a b=_;simp[leqB,h1,h2,h3]
  obtain⟨x,rfl,hx⟩:=zex h1;obtain⟨y,rfl,hy⟩:=zex h2;have hq:=zk3 h3 hn hg;go_wp2_with fail
  refine (zcv B0 x true h1).mono ?_;rintro e w1 ⟨rfl,B1⟩;have c0:=B1.c0;have c1:=B1.c1;go_wp2_with fail
  refine (zcv B1 y true h2).mono ?_;rintro e w2 ⟨rfl,B2⟩;clear c0 c1;have c0:=B2.c0;have c1:=B2.c1;go_wp2_with fail
  refine (ze0 hn hg B2 true h3).mono ?_;rintro e w3 ⟨rfl,B3⟩;clear c0 c1;have c1:w3.cell? ⟨w.heap.size,1,none⟩=some (.slice (some ⟨g.gb,g.go,none⟩) n.len g.cap):=by rw[B3.c1,hq.ao,hq.len]
  have q3:=hq.kept B3.bl;have r1:=q3.row hx;have r2:=q3.cell hx hy;have ix:(x:Int)<n.len:=by omega
  have iy:(y:Int)<n.len:=by omega
  clear q3 h1 h2 h3;go_wp2;go_ret;exact⟨zab (by rw[HL.out];simp),B3.bl⟩
theorem zfn (n:Strs)(g:Grid)(a b:Int)(w:World)(hn:n.At w)(hg:g.At w) :
  Calls Tryz.prog 64 #[.agg #[.slice n.ao n.len n.cap,.slice g.ao g.len g.cap],.int .i64 a,.int .i64 b] w fun e w'=>e=.returned (.int .i64 (zau n g a b))∧Below w.heap.size w w':=by
 have B0:=Box2.start w (.slice n.ao n.len n.cap) (.slice g.ao g.len g.cap) 25;go_enter Tryz.func64,Tryz.ntmps64
 cases h1:labB n a
 ·go_wp2_with fail
  refine (zcv B0 a false h1).mono ?_;rintro e w1 ⟨rfl,B1⟩;go_wp2;go_ret;exact⟨zat (by simp[zau,h1]),B1.bl⟩
 cases h2:labB n b
 ·go_wp2_with fail
  refine (zcv B0 a true h1).mono ?_;rintro e w1 ⟨rfl,B1⟩;have c0:=B1.c0;have c1:=B1.c1;go_wp2_with fail
  refine (zcv B1 b false h2).mono ?_;rintro e w2 ⟨rfl,B2⟩;go_wp2;go_ret;exact⟨zat (by simp[zau,h2]),B2.bl⟩
 cases h3:zaf n g
 ·go_wp2_with fail
  refine (zcv B0 a true h1).mono ?_;rintro e w1 ⟨rfl,B1⟩;have c0:=B1.c0;have c1:=B1.c1;go_wp2_with fail
  refine (zcv B1 b true h2).mono ?_;rintro e w2 ⟨rfl,B2⟩;clear c0 c1;have c0:=B2.c0;have c1:=B2.c1;go_wp2_with fail
  refine (ze0 hn hg B2 false h3).mono ?_;rintro e w3 ⟨rfl,B3⟩;go_wp2;go_ret;exact⟨zat (by simp[zau,h3]),B3.bl⟩
 ·have HL0:zau n g a b=zbr g.len g.U a.toNat b.toNat:=by unfold zau;rw[if_pos (by rw[h1,h2,h3];rfl)]
  obtain⟨x,rfl,hx⟩:=zex h1;obtain⟨y,rfl,hy⟩:=zex h2;have HL:Hid (zau n g x y=findI (abvB n g x y) n.len 0):=HL0.trans (zvm h3 hx hy).symm;have hq:=zk3 h3 hn hg;clear HL0;go_wp2_with fail
  refine (zcv B0 x true h1).mono ?_;rintro e w1 ⟨rfl,B1⟩;have c0:=B1.c0;have c1:=B1.c1;go_wp2_with fail
  refine (zcv B1 y true h2).mono ?_;rintro e w2 ⟨rfl,B2⟩;clear c0 c1;have c0:=B2.c0;have c1:=B2.c1;go_wp2_with fail
  refine (ze0 hn hg B2 true h3).mono ?_;rintro e w3 ⟨rfl,B3⟩;clear c0 c1;have c0:=B3.c0;have c1:=B3.c1;clear h1 h2 h3;go_wp2_with fail
  refine (zlo n g _ x y (hq.kept B3.bl) hx hy).mono ?_;rintro e w4 ⟨rfl,hb4⟩;have B4:=B3.step hb4;go_wp2;go_ret;exact⟨zat HL.out.symm,B4.bl⟩
theorem ztf (n:Strs)(g:Grid)(a b:Int)(w:World)(hn:n.At w)(hg:g.At w) :
  Calls Tryz.prog 130 #[.agg #[.slice n.ao n.len n.cap,.slice g.ao g.len g.cap],.int .i64 a,.int .i64 b] w fun e w'=>e=.returned (.int .i64 (zad n g a b))∧Below w.heap.size w w':=by
 have B0:=Box2.start w (.slice n.ao n.len n.cap) (.slice g.ao g.len g.cap) 25;by_cases ha:a=-1
 ·subst ha;by_cases hb:b=-1
  ·subst hb;go_enter Tryz.func130,Tryz.ntmps130
   go_wp2_with (go_at_call 64;refine (zfn n g _ _ _ (hn.kept B0.bl) (hg.kept B0.bl)).mono ?_;rintro e w1 ⟨rfl,hb1⟩);go_ret;exact⟨zat (by simp[zad]),(B0.step hb1).bl⟩
  ·have e1:(b==-1)=false:=beq_eq_false_iff_ne.2 hb;go_enter Tryz.func130,Tryz.ntmps130
   go_wp2_with (go_at_call 64;refine (zfn n g _ _ _ (hn.kept B0.bl) (hg.kept B0.bl)).mono ?_;rintro e w1 ⟨rfl,hb1⟩);go_ret;exact⟨zat (by simp[zad,hb]),(B0.step hb1).bl⟩
 ·have e0:(a==-1)=false:=beq_eq_false_iff_ne.2 ha;by_cases hb:b=-1
  ·subst hb;go_enter Tryz.func130,Tryz.ntmps130
   go_wp2_with (go_at_call 64;refine (zfn n g _ _ _ (hn.kept B0.bl) (hg.kept B0.bl)).mono ?_;rintro e w1 ⟨rfl,hb1⟩);go_ret;exact⟨zat (by simp[zad,ha]),(B0.step hb1).bl⟩
  ·have e1:(b==-1)=false:=beq_eq_false_iff_ne.2 hb;go_enter Tryz.func130,Tryz.ntmps130
   go_wp2_with (go_at_call 64;refine (zfn n g _ _ _ (hn.kept B0.bl) (hg.kept B0.bl)).mono ?_;rintro e w1 ⟨rfl,hb1⟩);go_ret;exact⟨zat (by simp[zad,ha,hb]),(B0.step hb1).bl⟩
def lowB (n:Strs)(g:Grid)(a:Nat):Bool:=decide (∀b,b<n.len→g.B a b=true)
theorem zw7 {n:Strs}{g:Grid}(hF:zaf n g=true):findI (lowB n g) n.len 0=botI n g:=by
 obtain⟨m,h1,h2,h3⟩:=zh5 hF;rw[h1];refine zma _ h2 (decide_eq_true h3) (fun i hi hp=>?_);unfold lowB at hp;rw[decide_eq_true_eq] at hp;exact zi9 hF hi h2 (hp m h2) (h3 i hi)
theorem all_to (p:Nat→Bool)(k:Nat):decide (∀b,b<k+1→p b=true)=(decide (∀b,b<k→p b=true)&&p k):=by
 rw[Bool.eq_iff_iff,Bool.and_eq_true,decide_eq_true_eq,decide_eq_true_eq]
 constructor
 ·intro h;exact⟨fun b hb=>h b (by omega),h k (by omega)⟩
 ·rintro ⟨h1,h2⟩ b hb;rcases Nat.lt_succ_iff_lt_or_eq.1 hb with h | h
  ·exact h1 b h
  ·subst h;exact h2
theorem zas (n:Strs)(g:Grid)(w:World)(hn:n.At w)(hg:g.At w) :
  Calls Tryz.prog 29 #[.agg #[.slice n.ao n.len n.cap,.slice g.ao g.len g.cap]] w fun e w'=>e=.returned (.int .i64 (botI n g))∧Below w.heap.size w w':=by
 have B0:=Box2.start w (.slice n.ao n.len n.cap) (.slice g.ao g.len g.cap) 25;have hnb:=hn.bound;cases hF:zaf n g
 ·have HE:Hid (botI n g=-1):=by show botI n g=_;unfold botI;rw[hF];rfl
  go_enter Tryz.func29,Tryz.ntmps29
  go_wp2;go_loopw [3] (fun i wr=>i=.int .i64 0∧Box2 w wr (.slice n.ao n.len n.cap) (.slice g.ao g.len g.cap)) (fun _ _=>0)
  case atStart=>exact⟨rfl,B0⟩
  case round =>
   obtain⟨rfl,hB⟩:=hrel;clear B0;have c0:=hB.c0;have c1:=hB.c1;by_cases h0:0<n.len
   ·have i0:decide ((0:Int)<n.len)=true:=by simp;omega
    go_wp2_with fail
    refine (ze0 hn hg hB false hF).mono ?_;rintro e w1 ⟨rfl,B1⟩;go_wp2;go_ret;exact⟨zat HE.out.symm,B1.bl⟩
   ·have i0:decide ((0:Int)<n.len)=false:=by simp;omega
    go_wp2;go_ret;exact⟨zat HE.out.symm,hB.bl⟩
 ·have HE:Hid (botI n g=findI (lowB n g) n.len 0):=(zw7 hF).symm;have hq:=zk3 hF hn hg;have hrf:=fun (wr:World) (hB:Box2 w wr (.slice n.ao n.len n.cap) (.slice g.ao g.len g.cap))=>ze0 hn hg hB true hF;rw[hq.ao,hq.len] at hrf B0 ⊢;have HR:Hid (∀(wr:World) (hB:Box2 w wr (.slice n.ao n.len n.cap) (.slice (some ⟨g.gb,g.go,none⟩) n.len g.cap)),Calls Tryz.prog 20 #[.agg #[.slice n.ao n.len n.cap,.slice (some ⟨g.gb,g.go,none⟩) n.len g.cap]] wr fun e w'=>e=.returned (.bool true)∧Box2 w w' (.slice n.ao n.len n.cap) (.slice (some ⟨g.gb,g.go,none⟩) n.len g.cap)):=hrf;have l8:=hq.le8;clear hF hrf;go_enter Tryz.func29,Tryz.ntmps29
  go_wp2;go_loopw [3] (fun i wr=>∃a:Nat,a≤n.len∧i=.int .i64 a∧findI (lowB n g) n.len 0=findI (lowB n g) (n.len - a) a∧Box2 w wr (.slice n.ao n.len n.cap) (.slice (some ⟨g.gb,g.go,none⟩) n.len g.cap)) (fun i _=>n.len - (intOf i).toNat)
  case atStart=>exact⟨0,Nat.zero_le _,rfl,rfl,B0⟩
  case round =>
   obtain⟨a,ha,rfl,hdone,hB⟩:=hrel;clear B0;have HD:Hid (findI (lowB n g) n.len 0=findI (lowB n g) (n.len - a) a):=hdone;clear hdone;have c0:=hB.c0;have c1:=hB.c1;by_cases hlt:a<n.len
   ·have ia:decide ((a:Int)<n.len)=true:=by simp;omega
    go_wp2_with fail
    refine (HR.out _ hB).mono ?_;rintro e w1 ⟨rfl,B1⟩;clear c0 c1 hB;have c0:=B1.c0;have c1:=B1.c1;have q1:=hq.kept B1.bl;have ra:=q1.row hlt;clear ia;go_wp2
    go_loop [4,5] (fun t i=>∃b:Nat,b≤n.len∧i=.int .i64 b∧t=.bool (decide (∀x,x<b→g.B a x=true))) (fun _ i=>n.len - (intOf i).toNat)
    case atStart=>exact⟨0,Nat.zero_le _,rfl,by simp⟩
    case round =>
     obtain⟨b,hb,rfl,rfl⟩:=hrel;by_cases hltb:b<n.len
     ·have f1:=q1.cell hlt hltb;have ia:(a:Int)<n.len:=by omega
      have ib:(b:Int)<n.len:=by omega
      have HA:Hid (decide (∀x,x<b+1→g.B a x=true)=(decide (∀x,x<b→g.B a x=true)&&g.B a b)):=all_to (fun x=>g.B a x) b;generalize hv:decide (∀x,x<b→g.B a x=true)=v at *;cases v
      ·go_wp2
       go_round
       case rel=>exact⟨b+1,by omega,by go_num,by rw[HA.out];rfl⟩
       case measure=>simp[intOf];omega
      ·go_wp2
       go_round
       case rel=>exact⟨b+1,by omega,by go_num,by rw[HA.out];rfl⟩
       case measure=>simp[intOf];omega
     ·have e:b=n.len:=by omega
      subst e;have HV:Hid (lowB n g a=decide (∀x,x<n.len→g.B a x=true)):=rfl;generalize hv:decide (∀x,x<n.len→g.B a x=true)=v at *;cases v
      ·go_wp2;go_roundw
       case rel=>exact⟨a+1,by omega,by go_num,HD.out.trans (zg1 hlt HV.out),B1⟩
       case measure=>simp[intOf];omega
      ·go_wp2;go_ret;exact⟨zat (HE.out.trans (HD.out.trans (zie hlt HV.out))).symm,B1.bl⟩
   ·have ia:decide ((a:Int)<n.len)=false:=by simp;omega
    go_wp2;go_ret;exact⟨zat (HE.out.trans (HD.out.trans (zif hlt))).symm,hB.bl⟩
end
end Go.Proofs.YtgioppfoceddfaaGreat
