import Derived.Test.YtfobijdkoeifjaaGreatDoorP16
import Derived.Deep.AppendLies
import Derived.Deep.QuietTactic
import Derived.BigQuiet
set_option maxRecDepth 100000
set_option maxHeartbeats 32000000
namespace Go.Proofs.YtfobijdkoeifjaaGreatDoor
section
open Go Go.RowKit
theorem zfl {C:World→Prop}{K:Act→Prop}{a:Act}{o:Oper}(ty:TypeId)(x:Operand)(ho:o.op=.load ty x)(b oo:Nat)(hx:a.eval x=.pointer (some ⟨b,oo,none⟩))(cs:List Value)(d:TypeDesc)(hc:∀w,C w→w.rangeAt b oo cs)
  (hu:Tryz.prog.underlying ty=some d) (hd:d.isRow=true) (hi:(Tryz.prog.info? ty).map (·.size)=some cs.length) (h:K (a.put o.dst (.agg cs.toArray))):o.quiet Tryz.prog a C K:=by
 refine⟨.agg cs.toArray,fun w hC=>?_,h⟩;unfold Oper.quietAt execOp;simp only[ho,hx,Sem.run_bind,run_loadAt_mid w b oo ty cs d (hc w hC) hu hd hi,Result.andThen_ok,Sem.run_pure];exact⟨rfl,rfl⟩
theorem Pv.core {w0:World}{n:Strs}{g:Grid}{p:Nat}{S:Nat→Prop}{w:World}{m:Nat}{v:Value}{es:Array MapEntry}{c:Nat}{Q:List (List Int)}{R:List Ty}{t:Ty}{A:Nat}{tv:List Value}{q q1 q3:World}{gg cap:Nat}(h:Pv w0 n g p S w m v es c R A tv q)(hk:NKeys es Q)(hg:Good n.len (R++[t]) Q)(hat:∀s ∈ R++[t],s.At w0)
  (hgrow:q.grownBy q1 v.ownBlock) (hgg:v.ownBlock=some gg∨gg=q.heap.size) (hb:Below 0 q1 q3) (hoth:∀k,k≠p→k≠gg→q3.heap[k]?=q1.heap[k]?) (hp:Blk q3 p [.slice n.ao n.len n.cap,.slice g.ao g.len g.cap,.slice (some ⟨gg,0,none⟩) (R.length+1) cap,.map (some m)] 155)
  (ho:q3.ownsRow w0.heap.size 38 5 (.slice (some ⟨gg,0,none⟩) (R.length+1) cap) (R.length+1) (zda R++t.vs)):∃S',Pg w0 n g p S w S' (R++[t]) q3:=by
 have hlt:=(Array.getElem?_eq_some_iff.1 h.mp).1;have hnm:some m≠v.ownBlock:=fun e=>by
  obtain⟨cur,h1⟩:=zh3 h.own e.symm;rw[h.mp] at h1;cases h1
 have hge:w0.heap.size≤gg:=by
  rcases hgg with e | e
  ·exact (owb h.own e).1
  ·rw[e];exact h.bl.size
 have hmg:m≠gg:=by
  rcases hgg with e | e
  ·exact fun z=>hnm (by rw[e,z])
  ·omega
 refine Pv.done (v':=.slice (some ⟨gg,0,none⟩) (R.length+1) cap) h hk hg hat ?_ hp ?_ ?_ ?_ ?_
 ·have h1:=zce h.bl hgrow (fun k hk=>(owb h.own hk).1);refine⟨hb.os.trans h1.os,hb.tape.trans h1.tape,hb.output.trans h1.output,Nat.le_trans h1.size hb.size,fun k hk=>?_⟩;rw[hoth k (by have:=h.lp;omega) (by omega)]
  exact h1.block k hk
 ·rw[hoth m (fun e=>h.npm e.symm) hmg];exact hgrow.block m hlt hnm
 ·rw[zp1,List.length_append];exact ho
 ·refine⟨hb.os.trans hgrow.os,hb.tape.trans hgrow.tape,hb.output.trans hgrow.output,Nat.le_trans hgrow.size hb.size,fun k hk hn=>?_⟩;have h1:some k≠v.ownBlock:=fun e=>hn (Or.inr (Or.inr e.symm));rw[hoth k (fun e=>hn (Or.inl e)) (fun e=>by
   rcases hgg with z | z
   ·exact h1 (by rw[e,z])
   ·omega)]
  exact hgrow.block k hk h1
 ·intro b hb2;have:gg=b:=by simpa [Value.ownBlock] using hb2
  subst this;rcases hgg with z | z
  ·exact Or.inl z
  ·exact Or.inr (by omega)
structure Pz (w0:World)(n:Strs)(g:Grid)(p:Nat)(m:Nat)(v:Value)(R:List Ty)(gg cap:Nat)(t:Ty)(q1:World):Prop where
 blk:Blk q1 p [.slice n.ao n.len n.cap,.slice g.ao g.len g.cap,v,.map (some m)] 155
 there:q1.there gg (R.length*5) 5
 ne:p≠gg
 own:(q1.setCells gg (R.length*5) t.vs).ownsRow w0.heap.size 38 5 (.slice (some ⟨gg,0,none⟩) (R.length+1) cap) (R.length+1) (zda R++t.vs)
theorem Pv.next {w0:World}{n:Strs}{g:Grid}{p:Nat}{S:Nat→Prop}{w:World}{m:Nat}{v:Value}{es:Array MapEntry}{c:Nat}{R:List Ty}{A:Nat}{tv:List Value}{q q1:World}{gg cap:Nat}(h:Pv w0 n g p S w m v es c R A tv q)(hgrow:q.grownBy q1 v.ownBlock)(hgg:v.ownBlock=some gg∨gg=q.heap.size)(t:Ty){zs:List Value}(hz:zs.length=5)
  (ho:q1.ownsRow w0.heap.size 38 5 (.slice (some ⟨gg,0,none⟩) (R.length+1) cap) (R.length+1) (zda R++zs)):Pz w0 n g p m v R gg cap t q1:=by
 have hnp:some p≠v.ownBlock:=fun e=>by
  obtain⟨cur,h1⟩:=zh3 h.own e.symm;have h2:=h.blk;unfold Blk at h2;rw[h1] at h2
  injection h2 with h2
  injection h2 with _ h2
  exact absurd h2 (by decide)
 have hpg:p≠gg:=by
  rcases hgg with e | e
  ·exact fun z=>hnp (by rw[e,z])
  ·have:=h.blk.lt;omega
 obtain⟨g',cap',e,_,h3,h4⟩:=znr (vs:=t.vs) ho (zk7 R) hz rfl
 injection e with e1 _ e3
 injection e1 with e1
 injection e1 with e1
 subst e1 e3;exact⟨by unfold Blk;rw[hgrow.block p h.blk.lt hnp];exact h.blk,h4,hpg,h3⟩
theorem Pz.endA {w0:World}{n:Strs}{g:Grid}{p:Nat}{S:Nat→Prop}{w:World}{m:Nat}{v:Value}{es:Array MapEntry}{c:Nat}{Q:List (List Int)}{R:List Ty}{t:Ty}{A:Nat}{tv:List Value}{q q1:World}{gg cap:Nat}(z:Pz w0 n g p m v R gg cap t q1)(h:Pv w0 n g p S w m v es c R A tv q)(hk:NKeys es Q)(hg:Good n.len (R++[t]) Q)(hat:∀s ∈ R++[t],s.At w0)
  (hgrow:q.grownBy q1 v.ownBlock) (hgg:v.ownBlock=some gg∨gg=q.heap.size):Blk (q1.setCells gg (R.length*5) t.vs) p [.slice n.ao n.len n.cap,.slice g.ao g.len g.cap,v,.map (some m)] 155∧∃S',Pg w0 n g p S w S' (R++[t]) ((q1.setCells gg (R.length*5) t.vs).setCell ⟨p,2,none⟩ (.slice (some ⟨gg,0,none⟩) (R.length+1) cap)):=by
 have hb2:Blk (q1.setCells gg (R.length*5) t.vs) p [.slice n.ao n.len n.cap,.slice g.ao g.len g.cap,v,.map (some m)] 155:=by unfold Blk;rw[zb9 _ _ _ _ _ z.ne];exact z.blk
 have W:=zcv (i:=2) hb2 (.slice (some ⟨gg,0,none⟩) (R.length+1) cap);refine⟨hb2,Pv.core h hk hg hat hgrow hgg (W.below (Nat.zero_le _) (zc7 (Nat.zero_le _) _ _ _ (Below.refl _ _))) (fun k h1 h2=>?_) W.blk (ze8 z.own (fun b hb=>W.other b (fun e=>?_)))⟩
 ·rw[W.other k h1,zb9 _ _ _ _ _ h2]
 ·have:gg=b:=by simpa [Value.ownBlock] using hb
  exact z.ne (by rw[this,e])
theorem Pz.endB {w0:World}{n:Strs}{g:Grid}{p:Nat}{S:Nat→Prop}{w:World}{m:Nat}{v:Value}{es:Array MapEntry}{c:Nat}{Q:List (List Int)}{R:List Ty}{t:Ty}{A:Nat}{tv:List Value}{q q1:World}{gg cap:Nat}{zs:List Value}(hz:zs.length=5)(z:Pz w0 n g p m v R gg cap t q1)(ho:q1.ownsRow w0.heap.size 38 5 (.slice (some ⟨gg,0,none⟩) (R.length+1) cap) (R.length+1) (zda R++zs))(h:Pv w0 n g p S w m v es c R A tv q)(hk:NKeys es Q)(hg:Good n.len (R++[t]) Q)(hat:∀s ∈ R++[t],s.At w0)
  (hgrow:q.grownBy q1 v.ownBlock) (hgg:v.ownBlock=some gg∨gg=q.heap.size):(q1.setCell ⟨p,2,none⟩ (.slice (some ⟨gg,0,none⟩) (R.length+1) cap)).there gg (R.length*5) 5∧∃S',Pg w0 n g p S w S' (R++[t]) ((q1.setCell ⟨p,2,none⟩ (.slice (some ⟨gg,0,none⟩) (R.length+1) cap)).setCells gg (R.length*5) t.vs):=by
 have W:=zcv (i:=2) z.blk (.slice (some ⟨gg,0,none⟩) (R.length+1) cap);have ho2:=ze8 ho (fun b hb=>W.other b (fun e=>by
  have:gg=b:=by simpa [Value.ownBlock] using hb
  exact z.ne (by rw[this,e])))
 obtain⟨g',cap',e,_,h3,h4⟩:=znr (vs:=t.vs) ho2 (zk7 R) hz rfl
 injection e with e1 _ e3
 injection e1 with e1
 injection e1 with e1
 subst e1 e3;refine⟨h4,Pv.core h hk hg hat hgrow hgg (zc7 (Nat.zero_le _) _ _ _ (W.below (Nat.zero_le _) (Below.refl _ _))) (fun k h1 h2=>?_) ?_ h3⟩
 ·rw[zb9 _ _ _ _ _ h2,W.other k h1]
 ·unfold Blk;rw[zb9 _ _ _ _ _ z.ne];exact W.blk
theorem zxa {w0:World}{n:Strs}{g:Grid}{p:Nat}:∀(t:Ty) (S:Nat→Prop) (R:List Ty) (w:World),t.ok n.len=true→t.At w0→Pl w0 n g p S R w→R.length+t.nodes≤2000000000 →
  Calls Tryz.prog 205 #[.pointer (some ⟨p,0,none⟩),.agg #[.int .i64 t.k,.int .i64 t.l,.slice t.ao t.len t.cap,.int .i64 t.h,.int .i64 t.e]] w fun e w'=>PutR w0 n g p S w t R e w':=by
 intro t
 induction t with
 | dm=>intro S R w _ hAt;exact hAt.elim
 | mk k l h e ao b o len cap ps ih =>
  intro S R w hok hAt hP hR;show Calls Tryz.prog 205 #[.pointer (some ⟨p,0,none⟩),.agg #[.int .i64 k,.int .i64 l,.slice ao len cap,.int .i64 h,.int .i64 e]] w fun r w'=>PutR w0 n g p S w (.mk k l h e ao b o len cap ps) R r w'
  have X0:=Bx.new w (.mk k l h e ao b o len cap ps);have bA:=Blk.new w [.int .i64 k,.int .i64 l,.slice ao len cap,.int .i64 h,.int .i64 e] 38;have B0:=zac w (.cells #[.int .i64 k,.int .i64 l,.slice ao len cap,.int .i64 h,.int .i64 e] 38);have hb:len≤9223372036854775807:=hAt.bound;have hnil:0<len→ao=some ⟨b,o,none⟩:=hAt.nil;have hl2:len≤2:=(zf9 (zc8 hok).1).2.2.1;have x0:=X0.c0;have x1:=X0.c1;have x2:=X0.c2;have x3:=X0.c3;have x4:=X0.c4;simp only[Ty.k,Ty.l,Ty.h,Ty.e,Ty.ao,Ty.len,Ty.cap] at x0 x1 x2 x3 x4;have HT:=hyd (show (Ty.mk k l h e ao b o len cap ps).ok n.len=true∧Ty.At w0 (.mk k l h e ao b o len cap ps)∧R.length+(Ty.mk k l h e ao b o len cap ps).nodes≤2000000000∧w0.heap.size≤w.heap.size from ⟨hok,hAt,hR,hP.bl.size⟩);have HS:=hyd (show Below w.heap.size w (w.alloc (.cells #[.int .i64 k,.int .i64 l,.slice ao len cap,.int .i64 h,.int .i64 e] 38))∧Pl w0 n g p S R w∧Blk (w.alloc (.cells #[.int .i64 k,.int .i64 l,.slice ao len cap,.int .i64 h,.int .i64 e] 38)) w.heap.size [.int .i64 k,.int .i64 l,.slice ao len cap,.int .i64 h,.int .i64 e] 38 from ⟨B0,hP,bA⟩);have hN:=zjt (.mk k l h e ao b o len cap ps) (w.alloc (.cells #[.int .i64 k,.int .i64 l,.slice ao len cap,.int .i64 h,.int .i64 e] 38));simp only[Ty.k,Ty.l,Ty.h,Ty.e,Ty.ao,Ty.len,Ty.cap] at hN;clear X0 B0 bA hAt hP hok hR;go_enter Tryz.func205,Tryz.ntmps205
  go_wp2_with fail
  refine hN.mono ?_;rintro _ w2 ⟨rfl,hb2⟩;have bN:=Blk.new w2 [.int .i64 k,.int .i64 l,.int .i64 h,.int .i64 e,.int .i64 (-1),.int .i64 (-1)] 222;have B3:=Below.next hb2 (zac w2 (.cells #[.int .i64 k,.int .i64 l,.int .i64 h,.int .i64 e,.int .i64 (-1),.int .i64 (-1)] 222));have y2:=up B3 x2;have HS2:=hyd (show Pg w0 n g p S w S R (w2.alloc (.cells #[.int .i64 k,.int .i64 l,.int .i64 h,.int .i64 e,.int .i64 (-1),.int .i64 (-1)] 222))∧Blk (w2.alloc (.cells #[.int .i64 k,.int .i64 l,.int .i64 h,.int .i64 e,.int .i64 (-1),.int .i64 (-1)] 222)) w.heap.size [.int .i64 k,.int .i64 l,.slice ao len cap,.int .i64 h,.int .i64 e] 38∧Blk (w2.alloc (.cells #[.int .i64 k,.int .i64 l,.int .i64 h,.int .i64 e,.int .i64 (-1),.int .i64 (-1)] 222)) w2.heap.size [.int .i64 k,.int .i64 l,.int .i64 h,.int .i64 e,.int .i64 (-1),.int .i64 (-1)] 222∧¬S w.heap.size∧¬S w2.heap.size from ⟨Pg.of HS.out.2.1 (Below.next HS.out.1 B3),HS.out.2.2.kept B3,bN,fun hx=>absurd (HS.out.2.1.ge hx).2 (Nat.lt_irrefl _),fun hx=>by have h1:=(HS.out.2.1.ge hx).2;have h2:=(Below.next HS.out.1 hb2).size;omega⟩)
  have HG:=hyd (show w.heap.size<w2.heap.size from Nat.lt_of_lt_of_le (by rw[alloc_size];omega) hb2.size)
  clear hN bN B3 x0 x1 x2 x3 x4 HS;go_wp2;clear y2 hb2;generalize w2.heap.size=B at *;go_loopw [15] (fun i wr=>∃(j:Nat) (S1:Nat→Prop) (y0 y1:Int),j≤len∧i=.int .i64 j∧Pg w0 n g p S w S1 (itr (fun i=>putT (ps i)) j R) wr∧Blk wr w.heap.size [.int .i64 k,.int .i64 l,.slice ao len cap,.int .i64 h,.int .i64 e] 38∧Blk wr B [.int .i64 k,.int .i64 l,.int .i64 h,.int .i64 e,.int .i64 y0,.int .i64 y1] 222∧¬S1 w.heap.size∧¬S1 B∧((0<j→PrtAt (itr (fun i=>putT (ps i)) j R) (ps 0) y0)∧(¬0<j→y0=-1))∧((1<j→PrtAt (itr (fun i=>putT (ps i)) j R) (ps 1) y1)∧(¬1<j→y1=-1))) (fun i _=>len - (intOf i).toNat)
  case atStart=>exact⟨0,S,-1,-1,Nat.zero_le _,rfl,HS2.out.1,HS2.out.2.1,HS2.out.2.2.1,HS2.out.2.2.2.1,HS2.out.2.2.2.2,⟨fun h=>absurd h (Nat.lt_irrefl _),fun _=>rfl⟩,⟨fun h=>absurd h (by omega),fun _=>rfl⟩⟩
  case round =>
   clear HS2;obtain⟨j,S1,y0,y1,hj,rfl,hG,hA,hB,nA,nB,hy0,hy1⟩:=hrel;by_cases hlt:j<len
   ·have ij:(j:Int)<len:=by omega
    have a0:=hnil (by omega);subst a0;have hAt:=HT.out.2.1.kept hG.pl.bl;have C:C5 wr b (o+j*5) (ps j):=hAt.cells hlt;have B0:=zac wr (.cells #[.int .i64 (ps j).k,.int .i64 (ps j).l,.slice (ps j).ao (ps j).len (ps j).cap,.int .i64 (ps j).h,.int .i64 (ps j).e] 38);have HI:=hyd (show Pg w0 n g p S w S1 (itr (fun i=>putT (ps i)) j R) wr∧Blk wr w.heap.size _ 38∧Blk wr B _ 222∧¬S1 w.heap.size∧¬S1 B from ⟨hG,hA,hB,nA,nB⟩);have HY:=hyd (show ((0<j→PrtAt (itr (fun i=>putT (ps i)) j R) (ps 0) y0)∧(¬0<j→y0=-1))∧((1<j→PrtAt (itr (fun i=>putT (ps i)) j R) (ps 1) y1)∧(¬1<j→y1=-1)) from ⟨hy0,hy1⟩);have z0:=C.c0;have z1:=C.c1;have z2:=C.c2;have z3:=C.c3;have z4:=C.c4;have hC:=ih j S1 (itr (fun i=>putT (ps i)) j R) _ (zxf HT.out.1 j hlt) (HT.out.2.1.part hlt) (hG.pl.kept B0) (by
     have h1:=zib (f:=fun i=>putT (ps i)) (c:=fun i=>(ps i).nodes) (fun i R=>zga (ps i) R) j R;have h2:=zge (fun i=>(ps i).nodes) hlt;have h3:=HT.out.2.2.1;have h4:(Ty.mk k l h e (some ⟨b,o,none⟩) b o len cap ps).nodes=1+za3 (fun i=>(ps i).nodes) len:=rfl;omega)
    clear hAt C hG hA hB nA nB hy0 hy1;go_wp2_with fail
    refine hC.mono ?_;rintro _ w5 ⟨i5,S5,rfl,hi5,hg5⟩;have HJ:=hyd (show Pg w0 n g p S w S5 (itr (fun i=>putT (ps i)) (j+1) R) w5∧Blk w5 w.heap.size _ 38∧Blk w5 B _ 222∧¬S5 w.heap.size∧¬S5 B from by
     have h1:=hg5.blk (HI.out.2.1.kept B0) HI.out.2.2.2.1;have h2:=hg5.blk (HI.out.2.2.1.kept B0) HI.out.2.2.2.2;exact⟨HI.out.1.trans (Pg.ahead B0 hg5),h1.1,h2.1,h1.2,h2.2⟩)
    have HQ:Hid (PrtAt (itr (fun i=>putT (ps i)) (j+1) R) (ps j) i5∧∀(a:Nat) (s:Ty),(itr (fun i=>putT (ps i)) j R)[a]?=some s→(itr (fun i=>putT (ps i)) (j+1) R)[a]?=some s):=by
     obtain⟨s,h1,h2⟩:=hi5;exact⟨⟨i5,s,rfl,h1,h2⟩,fun a s h=>zjd (ps j) _ a s h⟩
    clear hC HI B0 z0 z1 z2 z3 z4 hi5 hg5;have hj2:j=0∨j=1:=by omega
    rcases hj2 with rfl | rfl
    ·have z4:=HJ.out.2.2.1.cell 4 rfl;have f4:=HJ.out.2.2.1.frozen 4;have W6:=zcv (i:=4) HJ.out.2.2.1 (.int .i64 i5);have HW:=hyd (show Pg w0 n g p S w S5 (itr (fun i=>putT (ps i)) (0+1) R) (w5.setCell ⟨B,4,none⟩ (.int .i64 i5))∧Blk (w5.setCell ⟨B,4,none⟩ (.int .i64 i5)) w.heap.size [.int .i64 k,.int .i64 l,.slice (some ⟨b,o,none⟩) len cap,.int .i64 h,.int .i64 e] 38∧Blk (w5.setCell ⟨B,4,none⟩ (.int .i64 i5)) B [.int .i64 k,.int .i64 l,.int .i64 h,.int .i64 e,.int .i64 i5,.int .i64 y1] 222∧¬S5 w.heap.size∧¬S5 B from ⟨HJ.out.1.wrote W6 HJ.out.2.2.2.2 (Nat.le_of_lt HG.out) HT.out.2.2.2,W6.keep HJ.out.2.1 (Nat.ne_of_lt HG.out),W6.blk,HJ.out.2.2.2⟩);clear HJ W6;go_wp2;go_roundw
     case rel=>exact⟨1,S5,i5,y1,by omega,rfl,HW.out.1,HW.out.2.1,HW.out.2.2.1,HW.out.2.2.2.1,HW.out.2.2.2.2,⟨fun _=>HQ.out.1,fun h=>absurd (by omega) h⟩,⟨fun h=>absurd h (by omega),fun _=>HY.out.2.2 (by omega)⟩⟩
     case measure=>simp[intOf];omega
    ·have z4:=HJ.out.2.2.1.cell 5 rfl;have f4:=HJ.out.2.2.1.frozen 5;have W6:=zcv (i:=5) HJ.out.2.2.1 (.int .i64 i5);have HW:=hyd (show Pg w0 n g p S w S5 (itr (fun i=>putT (ps i)) (1+1) R) (w5.setCell ⟨B,5,none⟩ (.int .i64 i5))∧Blk (w5.setCell ⟨B,5,none⟩ (.int .i64 i5)) w.heap.size [.int .i64 k,.int .i64 l,.slice (some ⟨b,o,none⟩) len cap,.int .i64 h,.int .i64 e] 38∧Blk (w5.setCell ⟨B,5,none⟩ (.int .i64 i5)) B [.int .i64 k,.int .i64 l,.int .i64 h,.int .i64 e,.int .i64 y0,.int .i64 i5] 222∧¬S5 w.heap.size∧¬S5 B from ⟨HJ.out.1.wrote W6 HJ.out.2.2.2.2 (Nat.le_of_lt HG.out) HT.out.2.2.2,W6.keep HJ.out.2.1 (Nat.ne_of_lt HG.out),W6.blk,HJ.out.2.2.2⟩);clear HJ W6;go_wp2;go_roundw
     case rel=>exact⟨2,S5,y0,i5,by omega,rfl,HW.out.1,HW.out.2.1,HW.out.2.2.1,HW.out.2.2.2.1,HW.out.2.2.2.2,⟨fun _=>(HY.out.1.1 (by omega)).pre HQ.out.2,fun h=>absurd (by omega) h⟩,⟨fun _=>HQ.out.1,fun h=>absurd (by omega) h⟩⟩
     case measure=>simp[intOf];omega
   ·have e2:j=len:=by omega
    subst e2;have dj:¬(j:Int)<j:=by omega
    obtain⟨m,v,es,c,Q,hPw,hS1⟩:=hG.pl;subst hS1;obtain⟨vo,vc,hv⟩:=zkb hPw.own;subst hv;have P0:Prt (itr (fun i=>putT (ps i)) j R) (itr (fun i=>putT (ps i)) j R).length (.mk k l h e ao b o j cap ps) 0 y0:=PrtAt.prt hy0.1 hy0.2;have P1:Prt (itr (fun i=>putT (ps i)) j R) (itr (fun i=>putT (ps i)) j R).length (.mk k l h e ao b o j cap ps) 1 y1:=PrtAt.prt hy1.1 hy1.2;have HPT:Hid (putT (.mk k l h e ao b o j cap ps) R=if has (itr (fun i=>putT (ps i)) j R) (.mk k l h e ao b o j cap ps) then itr (fun i=>putT (ps i)) j R else itr (fun i=>putT (ps i)) j R++[.mk k l h e ao b o j cap ps]):=by show _=_;rw[putT]
    have HLN:Hid ((itr (fun i=>putT (ps i)) j R).length+1≤2000000000):=by
     show _≤_
     have h1:=zib (f:=fun i=>putT (ps i)) (c:=fun i=>(ps i).nodes) (fun i R=>zga (ps i) R) j R;have h3:=HT.out.2.2.1;have h4:(Ty.mk k l h e ao b o j cap ps).nodes=1+za3 (fun i=>(ps i).nodes) j:=rfl;omega
    generalize itr (fun i=>putT (ps i)) j R=R2 at *;have HU:=hyd (show Pu w0 n g p S w m (.slice vo R2.length vc) es c Q R2 w.heap.size [.int .i64 k,.int .i64 l,.slice ao j cap,.int .i64 h,.int .i64 e] B [.int .i64 k,.int .i64 l,.int .i64 h,.int .i64 e,.int .i64 y0,.int .i64 y1] wr from ⟨hPw,hG.ft,hG.ss,hA,hB,nA,nB,Nat.le_refl _,Nat.le_of_lt HG.out,HT.out.2.2.2⟩);have p3:=hPw.blk.cell 3 rfl;have k0:=hB.cell 0 rfl;have k1:=hB.cell 1 rfl;have k2:=hB.cell 2 rfl;have k3:=hB.cell 3 rfl;have k4:=hB.cell 4 rfl;have k5:=hB.cell 5 rfl;have hL:∀q,(Instr.lookup 153 (.map (some m)) (.agg #[.int .i64 k,.int .i64 l,.int .i64 h,.int .i64 e,.int .i64 y0,.int .i64 y1]) true).run Tryz.prog (wr.drewN q)=.ok (.tuple #[.int .i64 (if fnd Q [k,l,h,e,y0,y1]=-1 then 0 else fnd Q [k,l,h,e,y0,y1]),.bool (decide (fnd Q [k,l,h,e,y0,y1]≠-1))]) (wr.drewN q):=fun q=>zlg (wr.drewN q) m es c hPw.mp [k,l,h,e,y0,y1] rfl Q hPw.ks;have HU2:Hid (∀q,Pu w0 n g p S w m (.slice vo R2.length vc) es c Q R2 w.heap.size [.int .i64 k,.int .i64 l,.slice ao j cap,.int .i64 h,.int .i64 e] B [.int .i64 k,.int .i64 l,.int .i64 h,.int .i64 e,.int .i64 y0,.int .i64 y1] (wr.drewN q)):=fun q=>HU.out.kept (zbv (Below.refl _ _) q);have HPP:=hyd (show Prt R2 R2.length (.mk k l h e ao b o j cap ps) 0 y0∧Prt R2 R2.length (.mk k l h e ao b o j cap ps) 1 y1 from ⟨P0,P1⟩);clear hG hA hB nA nB hy0 hy1 hPw P0 P1;by_cases hF:fnd Q [k,l,h,e,y0,y1]=-1
    ·have hL2:∀q,(Instr.lookup 153 (.map (some m)) (.agg #[.int .i64 k,.int .i64 l,.int .i64 h,.int .i64 e,.int .i64 y0,.int .i64 y1]) true).run Tryz.prog (wr.drewN q)=.ok (.tuple #[.int .i64 0,.bool false]) (wr.drewN q):=fun q=>by rw[hL q,if_pos hF,decide_eq_false (fun z=>z hF)]
     have HF:=hyd (HU.out.pw.good.push HT.out.1 HPP.out.1 HPP.out.2 hF);have HFF:=hyd hF;clear hL hF;go_upto_region 7 with fail
     go_quiet (fail)
     have HU3:=hyd (HU2.out nq);have p2:=HU3.out.pw.blk.cell 2 rfl;clear HU HU2 hL2 p3 k0 k1 k2 k3 k4 k5;generalize wr.drewN nq=wq at *;go_upto_region 10 with fail
     clear p2;have HSm:=hyd (show Pu w0 n g p S w m (.slice vo R2.length vc) es c Q R2 w.heap.size [.int .i64 k,.int .i64 l,.slice ao j cap,.int .i64 h,.int .i64 e] B [.int .i64 k,.int .i64 l,.int .i64 h,.int .i64 e,.int .i64 y0,.int .i64 y1] wq.drew from HU3.out.kept ((Below.refl _ _).drew));have q3:∀x1:Wd (Pu w0 n g p S w m (.slice vo R2.length vc) es c Q R2 w.heap.size [.int .i64 k,.int .i64 l,.slice ao j cap,.int .i64 h,.int .i64 e] B [.int .i64 k,.int .i64 l,.int .i64 h,.int .i64 e,.int .i64 y0,.int .i64 y1]),x1.w.cell? ⟨p,3,none⟩=some (.map (some m)):=fun x1=>x1.2.pw.blk.cell 3 rfl;have hCN:∀q,(∃x1:Wd (Pu w0 n g p S w m (.slice vo R2.length vc) es c Q R2 w.heap.size [.int .i64 k,.int .i64 l,.slice ao j cap,.int .i64 h,.int .i64 e] B [.int .i64 k,.int .i64 l,.int .i64 h,.int .i64 e,.int .i64 y0,.int .i64 y1]),q=x1.w)→q.rangeAt B 0 [.int .i64 k,.int .i64 l,.int .i64 h,.int .i64 e,.int .i64 y0,.int .i64 y1]:=by rintro _ ⟨x1,rfl⟩;exact x1.2.bB.range
     have hNE:Nonempty (Wd (Pu w0 n g p S w m (.slice vo R2.length vc) es c Q R2 w.heap.size [.int .i64 k,.int .i64 l,.slice ao j cap,.int .i64 h,.int .i64 e] B [.int .i64 k,.int .i64 l,.int .i64 h,.int .i64 e,.int .i64 y0,.int .i64 y1])):=⟨⟨_,HU3.out⟩⟩;have hPN:(Instr.mapUpdate 153 (.map (some m)) (.agg #[.int .i64 k,.int .i64 l,.int .i64 h,.int .i64 e,.int .i64 y0,.int .i64 y1]) (.int .i64 (R2.length:Int))).run Tryz.prog wq.drew=.ok () { wq.drew with heap:=wq.drew.heap.setIfInBounds m (.map (es.push { key:=zb5 [k,l,h,e,y0,y1],val:=.int .i64 (R2.length:Int),born:=c }) (c+1)) }:=zvb wq.drew m es c HSm.out.pw.mp [k,l,h,e,y0,y1] rfl Q HSm.out.pw.ks HFF.out _;have HV:=hyd (HSm.out.upd (es.push { key:=zb5 [k,l,h,e,y0,y1],val:=.int .i64 (R2.length:Int),born:=c }) (c+1));have HK:Hid (NKeys (es.push { key:=zb5 [k,l,h,e,y0,y1],val:=.int .i64 (R2.length:Int),born:=c }) (Q++[[k,l,h,e,y0,y1]])):=by
      have h1:=HSm.out.pw.ks.push (n:=[k,l,h,e,y0,y1]) rfl c;rw[HSm.out.pw.good.len] at h1;exact h1
     have HAT:Hid (∀s ∈ R2++[Ty.mk k l h e ao b o j cap ps],s.At w0):=fun s hs=>by
      rcases List.mem_append.1 hs with h1 | h1
      ·exact HSm.out.pw.at_ s h1
      ·rw[List.mem_singleton.1 h1];exact HT.out.2.1
     refine zbu (Pu w0 n g p S w m (.slice vo R2.length vc) es c Q R2 w.heap.size [.int .i64 k,.int .i64 l,.slice ao j cap,.int .i64 h,.int .i64 e] B [.int .i64 k,.int .i64 l,.int .i64 h,.int .i64 e,.int .i64 y0,.int .i64 y1]) 6 [0,1,2,3,4,5] 1 (by kernel_rfl) rfl (by kernel_rfl) HSm.out ?_;simp only[List.filterMap,zD,zE];iterate 4 go_big_quiet_step (fail)
     go_big_quiet_want;refine zfl 222 (.tmp 5) rfl B 0 (by kernel_rfl) [.int .i64 k,.int .i64 l,.int .i64 h,.int .i64 e,.int .i64 y0,.int .i64 y1] _ hCN Tryz.underlying222 rfl (by kernel_rfl) ?_;simp only[Act.put,zA,zB,zC];go_big_quiet_on;iterate 1 go_big_quiet_step (fail)
     refine wpQuiet_nil ?_;clear q3 hCN hNE;refine zaq (rs:=[6]) (by kernel_rfl) (by simp) ?_;refine AllReadyG.cons rfl (fun K hK=>?_) AllReadyG.nil;rw[if_pos (by rfl)];generalize wq.drew=z0 at *;go_simp;refine hK.out _ _ (fun h=>absurd h (by omega)) ?_;clear hK K hPN HSm HU3;generalize ({ z0 with heap:=z0.heap.setIfInBounds m (.map (es.push { key:=zb5 [k,l,h,e,y0,y1],val:=.int .i64 (R2.length:Int),born:=c }) (c+1)) }:World)=z1 at *;refine zeh (by kernel_rfl) ?_ _;refine⟨fun c=>by simp,?_⟩;go_upto_region 11 with fail
     have HVd:=hyd (HV.out.kept ((Below.refl _ _).drew));generalize hES:es.push { key:=zb5 [k,l,h,e,y0,y1],val:=.int .i64 (R2.length:Int),born:=c }=es2 at *;clear hES;have q2:∀x1:Wd (Pv w0 n g p S w m (.slice vo R2.length vc) es2 (c+1) R2 w.heap.size [.int .i64 k,.int .i64 l,.slice ao j cap,.int .i64 h,.int .i64 e]),x1.w.cell? ⟨p,2,none⟩=some (.slice vo R2.length vc):=fun x1=>x1.2.blk.cell 2 rfl;have hCA:∀q,(∃x1:Wd (Pv w0 n g p S w m (.slice vo R2.length vc) es2 (c+1) R2 w.heap.size [.int .i64 k,.int .i64 l,.slice ao j cap,.int .i64 h,.int .i64 e]),q=x1.w)→q.rangeAt w.heap.size 0 [.int .i64 k,.int .i64 l,.slice ao j cap,.int .i64 h,.int .i64 e]:=by rintro _ ⟨x1,rfl⟩;exact x1.2.bA.range
     have hNE:Nonempty (Wd (Pv w0 n g p S w m (.slice vo R2.length vc) es2 (c+1) R2 w.heap.size [.int .i64 k,.int .i64 l,.slice ao j cap,.int .i64 h,.int .i64 e])):=⟨⟨_,HV.out⟩⟩;clear HV;refine zbu (Pv w0 n g p S w m (.slice vo R2.length vc) es2 (c+1) R2 w.heap.size [.int .i64 k,.int .i64 l,.slice ao j cap,.int .i64 h,.int .i64 e]) 7 [0,1,2,3,4,5] 7 (by kernel_rfl) rfl (by kernel_rfl) HVd.out ?_;simp only[List.filterMap,zD,zE];iterate 4 go_big_quiet_step (fail)
     go_big_quiet_want;refine zfl 38 (.tmp 3) rfl w.heap.size 0 (by kernel_rfl) [.int .i64 k,.int .i64 l,.slice ao j cap,.int .i64 h,.int .i64 e] _ hCA Tryz.underlying38 rfl (by kernel_rfl) ?_;simp only[Act.put,zA,zB,zC];go_big_quiet_on;iterate 1 go_big_quiet_step (fail)
     refine wpQuiet_nil ?_;clear q2 hCA hNE;generalize z1.drew=z2 at *;refine zaq (rs:=[6]) (by kernel_rfl) (by simp) ?_;refine AllReadyG.cons rfl (fun K hK=>?_) AllReadyG.nil;rw[if_pos (by rfl)];go_simp;have HVe:=hyd (HVd.out.kept (zac z2 (.cells #[.int .i64 0,.int .i64 0,.slice none 0 0,.int .i64 0,.int .i64 0] 38)));refine hK.out _ _ (fun _=>HVe.out) ?_;clear hK K;refine zaq (rs:=[7]) (by kernel_rfl) (by simp) ?_;refine AllReadyG.cons rfl (fun K hK=>?_) AllReadyG.nil;rw[if_pos (by rfl)];obtain⟨i0,hi,hz0,hz1,hz2⟩:=info_parts Tryz.infoTy;have hnew:=heap_alloc_new z2 (.cells #[.int .i64 0,.int .i64 0,.slice none 0 0,.int .i64 0,.int .i64 0] 38);have ez:=alloc_size z2 (.cells #[.int .i64 0,.int .i64 0,.slice none 0 0,.int .i64 0,.int .i64 0] 38);have HE:Hid (z2.heap.size=z2.heap.size):=rfl;refine wp_append_lies _ (.tmp 52) (.tmp 55) 36 rfl w0.heap.size 38 i0 _ 5 56 Tryz.underlying36 hi hz0 hz1 hz2 rfl (by decide) (.slice vo R2.length vc) R2.length (zda R2) (by kernel_rfl) HVe.out.own ⟨z2.heap.size,0,none⟩ 1 1 [.int .i64 0,.int .i64 0,.slice none 0 0,.int .i64 0,.int .i64 0] (by kernel_rfl) rfl (World.news_of_block (cs:=#[.int .i64 0,.int .i64 0,.slice none 0 0,.int .i64 0,.int .i64 0]) (t:=38) (fr:=(0,0)) hnew) (by intro x hx;simp at hx;rcases hx with rfl | rfl | rfl <;> rfl) (by omega) (by unfold maxLen;have:=HLN.out;omega) (by have:=HLN.out;omega) HVe.out.bl.size (z2.heap.size+1) ez ?_
     intro gg cap3 z3 hown hgrow hgg hltg;rw[←ez] at hgg;refine hK.out _ _ (fun h=>absurd h (by omega)) ?_;clear hK K hnew ez HE;simp only[Act.put,List.getElem_toArray,List.getElem_cons_zero,List.getElem_cons_succ,zA,zB,zC];generalize z2.alloc (.cells #[.int .i64 0,.int .i64 0,.slice none 0 0,.int .i64 0,.int .i64 0] 38)=z2b at *;have HZ:=hyd (HVe.out.next hgrow hgg (.mk k l h e ao b o j cap ps) rfl hown);have HPU:Hid (putT (.mk k l h e ao b o j cap ps) R=R2++[.mk k l h e ao b o j cap ps]):=by
      show _=_
      rw[HPT.out,HF.out.1];rfl
     have HPR:Hid (∀q,(∃S',Pg w0 n g p S w S' (R2++[Ty.mk k l h e ao b o j cap ps]) q)→PutR w0 n g p S w (.mk k l h e ao b o j cap ps) R (.returned (.int .i64 (R2.length:Int))) q):=fun q hq=>by
      obtain⟨S',hS'⟩:=hq;refine⟨R2.length,S',rfl,⟨.mk k l h e ao b o j cap ps,?_,zaj _⟩,?_⟩
      ·rw[HPU.out];simp
      ·rw[HPU.out];exact hS'
     have EA:=HZ.out.endA HVe.out HK.out HF.out.2 HAT.out hgrow hgg;have EB:=Pz.endB rfl HZ.out hown HVe.out HK.out HF.out.2 HAT.out hgrow hgg;have HEA:=hyd EA;have HEB:=hyd EB;have hth:=HZ.out.there;have c2:=HZ.out.blk.cell 2 rfl;have f2:=HZ.out.blk.frozen 2;clear EA EB HZ HVe HVd hown hgrow hgg hltg HK HF HAT HPT HPU HLN HPP HT HG ih;refine zcj (by kernel_rfl) ?_;have hNE:Nonempty (Wd (fun _:World=>True)):=⟨⟨z3,trivial⟩⟩;have ij:(R2.length:Int)<((R2.length+1:Nat):Int):=by omega
     refine zba [8,10,11] (rest:=2) rfl (by kernel_rfl) (by kernel_rfl) trivial ?_;simp only[List.filterMap,zD,zE];iterate 3 go_big_quiet_step (fail)
     refine wpQuiet_nil ?_;clear hNE ij;refine wpAnyH_ready (rs:=[9,12]) (by kernel_rfl) (by simp) ?_;refine AllReadyH.cons rfl (fun K hK=>?_) (AllReadyH.cons rfl (fun K hK=>?_) AllReadyH.nil)
     ·rw[if_pos (by rfl)];clear c2 f2 HEB;refine wp_store_mid 38 (.tmp 57) (.tmp 53) rfl gg (R2.length*5) #[.int .i64 k,.int .i64 l,.slice ao j cap,.int .i64 h,.int .i64 e] (by kernel_rfl) (by kernel_rfl) hth (by kernel_rfl) (by simp[Value.oneCell']) ?_;refine hK.out _ (z3.setCells gg (R2.length*5) (Ty.mk k l h e ao b o j cap ps).vs) trivial (fun _=>?_);clear hK K hth;generalize z3.setCells gg (R2.length*5) (Ty.mk k l h e ao b o j cap ps).vs=z4 at *;refine wpAnyH_ready (rs:=[12]) (by kernel_rfl) (by simp) ?_;refine AllReadyH.cons rfl (fun K hK=>?_) AllReadyH.nil;rw[if_pos (by rfl)];have c2:=HEA.out.1.cell 2 rfl;have f2:=HEA.out.1.frozen 2;go_simp;refine hK.out _ _ trivial (fun _=>?_);clear hK K c2 f2;refine wpAnyH_done (by kernel_rfl) ?_ _;refine⟨fun c=>by simp,?_⟩;go_wp2;go_ret;exact HPR.out _ HEA.out.2
     ·rw[if_pos (by rfl)];clear hth HEA;go_simp;refine hK.out _ _ trivial (fun _=>?_);clear hK K c2 f2;have hth:=HEB.out.1;generalize hz4:z3.setCell ⟨p,2,none⟩ (.slice (some ⟨gg,0,none⟩) (R2.length+1) cap3)=z4 at *;clear hz4;refine wpAnyH_ready (rs:=[9]) (by kernel_rfl) (by simp) ?_;refine AllReadyH.cons rfl (fun K hK=>?_) AllReadyH.nil;rw[if_pos (by rfl)];refine wp_store_mid 38 (.tmp 57) (.tmp 53) rfl gg (R2.length*5) #[.int .i64 k,.int .i64 l,.slice ao j cap,.int .i64 h,.int .i64 e] (by kernel_rfl) (by kernel_rfl) hth (by kernel_rfl) (by simp[Value.oneCell']) ?_;refine hK.out _ (z4.setCells gg (R2.length*5) (Ty.mk k l h e ao b o j cap ps).vs) trivial (fun _=>?_);clear hK K hth;generalize z4.setCells gg (R2.length*5) (Ty.mk k l h e ao b o j cap ps).vs=z5 at *;refine wpAnyH_done (by kernel_rfl) ?_ _;refine⟨fun c=>by simp,?_⟩;go_wp2;go_ret;exact HPR.out _ HEB.out.2
    ·obtain⟨i,hi,hq⟩:=zki hF;have hL2:∀q,(Instr.lookup 153 (.map (some m)) (.agg #[.int .i64 k,.int .i64 l,.int .i64 h,.int .i64 e,.int .i64 y0,.int .i64 y1]) true).run Tryz.prog (wr.drewN q)=.ok (.tuple #[.int .i64 i,.bool true]) (wr.drewN q):=fun q=>by rw[hL q,if_neg hF,decide_eq_true hF,hi]
     have HF:=hyd (HU.out.pw.good.here (t:=.mk k l h e ao b o j cap ps) hl2 HPP.out.1 HPP.out.2 hi);clear hL hF hi hq;go_upto_region 7 with fail
     go_quiet (fail)
     go_wp2;go_ret;have h3:=HU2.out nq;have h4:putT (.mk k l h e ao b o j cap ps) R=R2:=by rw[HPT.out,if_pos HF.out.1]
     refine⟨i,PS p m (.slice vo R2.length vc),rfl,by rw[h4];exact HF.out.2,?_⟩
     rw[h4];exact⟨⟨m,_,es,c,Q,h3.pw,rfl⟩,h3.ft,h3.ss⟩
structure TakeR (w0:World)(n:Strs)(g:Grid)(p:Nat)(S:Nat→Prop)(w:World)(t:Ty)(R:List Ty)(e:Ending)(w':World):Prop where
 ret:e=.returned (.bool (t.ok n.len))
 pg:∃S',Pg w0 n g p S w S' (if t.ok n.len then za8 R t else R) w'
structure Tw (w0:World)(n:Strs)(g:Grid)(p m:Nat)(v:Value)(es:Array MapEntry)(c:Nat)(Q:List (List Int))(R:List Ty)(A:Nat)(tv:List Value)(q:World):Prop where
 pw:Pw w0 n g p m v es c Q R q
 bA:Blk q A tv 38
theorem Tw.kept {w0:World}{n:Strs}{g:Grid}{p m:Nat}{v:Value}{es:Array MapEntry}{c:Nat}{Q:List (List Int)}{R:List Ty}{A:Nat}{tv:List Value}{q q':World}(h:Tw w0 n g p m v es c Q R A tv q)(hb:Below q.heap.size q q'):Tw w0 n g p m v es c Q R A tv q':=⟨h.pw.kept hb,h.bA.kept hb⟩
theorem zdq {w0:World}{n:Strs}{g:Grid}{p:Nat}(hF:zae n g=true)(hn:n.At w0)(hg:g.At w0)(t:Ty)(S:Nat→Prop)(R:List Ty)(w:World)(ht:t.At w0)(hP:Pl w0 n g p S R w)(hR:R.length+40≤2000000000) :
  Calls Tryz.prog 163 #[.pointer (some ⟨p,0,none⟩),.agg #[.int .i64 t.k,.int .i64 t.l,.slice t.ao t.len t.cap,.int .i64 t.h,.int .i64 t.e]] w fun e w'=>TakeR w0 n g p S w t R e w':=by
 obtain⟨m,v,es,c,Q,hPw,hS⟩:=hP;have B0:=zac w (.cells #[.int .i64 t.k,.int .i64 t.l,.slice t.ao t.len t.cap,.int .i64 t.h,.int .i64 t.e] 38);have bA:=Blk.new w [.int .i64 t.k,.int .i64 t.l,.slice t.ao t.len t.cap,.int .i64 t.h,.int .i64 t.e] 38;have hpl:=zqu t (w.alloc (.cells #[.int .i64 t.k,.int .i64 t.l,.slice t.ao t.len t.cap,.int .i64 t.h,.int .i64 t.e] 38)) ((ht.kept hPw.bl).kept B0) (hPw.kept B0);have HT:=hyd (show Tw w0 n g p m v es c Q R w.heap.size [.int .i64 t.k,.int .i64 t.l,.slice t.ao t.len t.cap,.int .i64 t.h,.int .i64 t.e] (w.alloc (.cells #[.int .i64 t.k,.int .i64 t.l,.slice t.ao t.len t.cap,.int .i64 t.h,.int .i64 t.e] 38))∧Below w.heap.size w (w.alloc (.cells #[.int .i64 t.k,.int .i64 t.l,.slice t.ao t.len t.cap,.int .i64 t.h,.int .i64 t.e] 38)) from ⟨⟨hPw.kept B0,bA⟩,B0⟩);have HD:=hyd (show zae n g=true∧n.At w0∧g.At w0∧t.At w0∧R.length+40≤2000000000∧S=PS p m v from ⟨hF,hn,hg,ht,hR,hS⟩);have HG:=hyd hPw.good;have HA:=hyd hPw.at_;have HPG:Hid (∀q,Below w.heap.size w q→Pg w0 n g p S w S R q):=fun q hq=>Pg.of ⟨m,v,es,c,Q,hPw,hS⟩ hq;clear hPw hS B0 bA hF hn hg ht hR;go_enter Tryz.func163,Tryz.ntmps163
 go_wp2_with fail
 refine hpl.mono ?_;rintro _ w1 ⟨rfl,hb1⟩;have HU:=hyd (show Tw w0 n g p m v es c Q R w.heap.size [.int .i64 t.k,.int .i64 t.l,.slice t.ao t.len t.cap,.int .i64 t.h,.int .i64 t.e] w1∧Below w.heap.size w w1 from ⟨HT.out.1.kept hb1,Below.next HT.out.2 hb1⟩);clear hpl hb1 HT;by_cases hq:plc Q t 1=-1
 ·have HQ:=hyd hq;rw[hq];clear hq;go_upto_region 3 with fail
  have HUd:=hyd (HU.out.1.kept ((Below.refl _ _).drew));have HBd:=hyd (Below.next HU.out.2 ((Below.refl _ _).drew));have hCL:∀q,(∃x1:Wd (Tw w0 n g p m v es c Q R w.heap.size [.int .i64 t.k,.int .i64 t.l,.slice t.ao t.len t.cap,.int .i64 t.h,.int .i64 t.e]),q=x1.w)→q.rangeAt p 0 [.slice n.ao n.len n.cap,.slice g.ao g.len g.cap]:=by
   rintro _ ⟨x1,rfl⟩ i u hu;have h1:=x1.2.pw.blk.range
   match i with
   | 0=>exact h1 0 u hu
   | 1=>exact h1 1 u hu
   | i+2=>simp at hu
  have hCA:∀q,(∃x1:Wd (Tw w0 n g p m v es c Q R w.heap.size [.int .i64 t.k,.int .i64 t.l,.slice t.ao t.len t.cap,.int .i64 t.h,.int .i64 t.e]),q=x1.w)→q.rangeAt w.heap.size 0 [.int .i64 t.k,.int .i64 t.l,.slice t.ao t.len t.cap,.int .i64 t.h,.int .i64 t.e]:=by rintro _ ⟨x1,rfl⟩;exact x1.2.bA.range
  have hNE:Nonempty (Wd (Tw w0 n g p m v es c Q R w.heap.size [.int .i64 t.k,.int .i64 t.l,.slice t.ao t.len t.cap,.int .i64 t.h,.int .i64 t.e])):=⟨⟨_,HU.out.1⟩⟩;clear HU;refine zbu (Tw w0 n g p m v es c Q R w.heap.size [.int .i64 t.k,.int .i64 t.l,.slice t.ao t.len t.cap,.int .i64 t.h,.int .i64 t.e]) 5 [0,1,2,3,4] 2 (by kernel_rfl) rfl (by kernel_rfl) HUd.out ?_;simp only[List.filterMap,zD,zE];iterate 3 go_big_quiet_step (fail)
  go_big_quiet_want;refine zfl 25 (.tmp 11) rfl p 0 (by kernel_rfl) [.slice n.ao n.len n.cap,.slice g.ao g.len g.cap] _ hCL Tryz.underlying25 rfl (by kernel_rfl) ?_;simp only[Act.put,zA,zB,zC];go_big_quiet_on;go_big_quiet_want;refine zfl 38 (.tmp 3) rfl w.heap.size 0 (by kernel_rfl) [.int .i64 t.k,.int .i64 t.l,.slice t.ao t.len t.cap,.int .i64 t.h,.int .i64 t.e] _ hCA Tryz.underlying38 rfl (by kernel_rfl) ?_;simp only[Act.put,zA,zB,zC];go_big_quiet_on;refine wpQuiet_nil ?_;clear hCL hCA hNE;generalize w1.drew=z0 at *;refine zaq (rs:=[5]) (by kernel_rfl) (by simp) ?_;refine AllReadyG.cons rfl (fun K hK=>?_) AllReadyG.nil;rw[if_pos (by rfl)];go_simp;have hFm:=ziv n g t z0 (HD.out.2.1.kept HUd.out.pw.bl) (HD.out.2.2.1.kept HUd.out.pw.bl) (HD.out.2.2.2.1.kept HUd.out.pw.bl);have HOK:Hid (okB n g t=t.ok n.len):=by show _=_;unfold okB;rw[HD.out.1,Bool.true_and]
  rw[HOK.out] at hFm;refine Calls.mono hFm ?_;rintro _ z1 ⟨rfl,hb1⟩;refine hK.out _ _ (fun h=>absurd h (by omega)) ?_;clear hK K;have HV:=hyd (show Tw w0 n g p m v es c Q R w.heap.size [.int .i64 t.k,.int .i64 t.l,.slice t.ao t.len t.cap,.int .i64 t.h,.int .i64 t.e] z1∧Below w.heap.size w z1 from ⟨HUd.out.kept hb1,Below.next HBd.out hb1⟩);clear hFm hb1 HUd HBd HOK;have HTK:Hid (∀e q,e=.returned (.bool (t.ok n.len))→(∃S',Pg w0 n g p S w S' (if t.ok n.len then za8 R t else R) q)→TakeR w0 n g p S w t R e q):=fun e q h1 h2=>⟨h1,h2⟩;have HNO:Hid (t.ok n.len=true→za8 R t=putT t R):=fun hk=>by
   unfold za8;rw[if_neg];intro hh;obtain⟨i,s,h1,h2⟩:=zc5.1 hh;have h3:=zmq HG.out t 1 (zc8 hk).1 i s h1 h2;have h4:=HQ.out;omega
  have HND:Hid (t.ok n.len=true→t.nodes≤40):=fun hk=>(zc8 hk).2;generalize hbb:t.ok n.len=bb at *;cases bb
  ·refine zaq (rs:=[6]) (by kernel_rfl) (by simp) ?_;refine AllReadyG.cons rfl (fun K hK=>?_) AllReadyG.nil;rw[if_pos (by rfl)];go_simp;refine hK.out _ _ (fun h=>absurd h (by omega)) ?_;clear hK K;refine zeh (by kernel_rfl) ?_ _;refine⟨fun c=>by simp,?_⟩;go_wp2;go_ret;exact HTK.out _ _ rfl ⟨S,HPG.out _ HV.out.2⟩
  ·refine zaq (rs:=[6]) (by kernel_rfl) (by simp) ?_;refine AllReadyG.cons rfl (fun K hK=>?_) AllReadyG.nil;rw[if_pos (by rfl)];go_simp;refine hK.out _ _ (fun h=>absurd h (by omega)) ?_;clear hK K;refine zeh (by kernel_rfl) ?_ _;refine⟨fun c=>by simp,?_⟩;have rA:=HV.out.1.bA.range;have hpt:=zxa t S R z1 hbb HD.out.2.2.2.1 ⟨m,v,es,c,Q,HV.out.1.pw,HD.out.2.2.2.2.2⟩ (by have:=HD.out.2.2.2.2.1;have:=HND.out (by simp);omega)
   go_wp2_with (refine wpList_load_mid rfl 38 (.tmp 3) rfl w.heap.size 0 (by kernel_rfl) [.int .i64 t.k,.int .i64 t.l,.slice t.ao t.len t.cap,.int .i64 t.h,.int .i64 t.e] _ rA Tryz.underlying38 rfl (by kernel_rfl) ?_)
   refine hpt.mono ?_;rintro _ z2 ⟨i,S',rfl,_,hpg⟩;have HPG2:=hyd hpg;clear hpt rA hpg;go_wp2;go_ret;refine HTK.out _ _ rfl ⟨S',?_⟩;rw[if_pos trivial,HNO.out trivial];exact Pg.ahead HV.out.2 HPG2.out
 ·have HQ:Hid (t.ok n.len=true∧has R t=true):=by
   obtain⟨i,s,h1,h2,h3⟩:=zhr HG.out t 1 hq;have hm:=List.mem_of_getElem? h2;exact⟨(zpd (HA.out s hm) HD.out.2.2.2.1 h3).symm.trans (HG.out.ok s hm),zc5.2 ⟨i,s,h2,h3⟩⟩
  generalize plc Q t 1=F at *;have dq:(F != -1)=true:=by simpa using hq
  go_wp2;go_ret;refine⟨by rw[HQ.out.1];rfl,S,?_⟩
  rw[if_pos HQ.out.1];unfold za8;rw[if_pos HQ.out.2];exact HPG.out _ HU.out.2
end
end Go.Proofs.YtfobijdkoeifjaaGreatDoor
