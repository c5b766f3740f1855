import Derived.Test.YtgioppfoceddfaaGreatP17
import Derived.Deep.DeepCutAuto
set_option maxRecDepth 100000
set_option maxHeartbeats 32000000
namespace Go.Proofs.YtgioppfoceddfaaGreat
section
open Go Go.RowKit
theorem zhb {ops:Array Oper}{Q:Exit→Act→World→Prop}{L:Bool→Bool→Bool→Bool→Bool→Bool→Array Bool}{ff:FuncId}{d1 d2 e1 e2:Nat}(T:Six ops L ff d1 d2 e1 e2){D:Nat}{w0:World}{r1 r2:Ty}(hD:D≤w0.heap.size)(a:Act)(args1 args2:Array Value)(f1 f2:FuncId)
  (hc1:∀o2 q1 q2 o u,ops[4]?=some o→(execOp (actS d1 d2 e1 e2 a none o2 q1 q2).eval o).run Tryz.prog u=.ok (.enter f1 args1) u)
  (hc2:∀o1 q1 q2 o u,ops[9]?=some o→(execOp (actS d1 d2 e1 e2 a o1 none q1 q2).eval o).run Tryz.prog u=.ok (.enter f2 args2) u)
  (hcall1:∀u,Below w0.heap.size w0 u→Calls Tryz.prog f1 args1 u (zbh D r1 u)) (hcall2:∀u,Below w0.heap.size w0 u→Calls Tryz.prog f2 args2 u (zbh D r2 u))
  (hev:∀t1 t2 B1 B2,(actS d1 d2 e1 e2 a (some t1) (some t2) (some B1) (some B2)).eval (.tmp e1)=ptA B1∧(actS d1 d2 e1 e2 a (some t1) (some t2) (some B1) (some B2)).eval (.tmp d1)=tyA t1∧(actS d1 d2 e1 e2 a (some t1) (some t2) (some B1) (some B2)).eval (.tmp e2)=ptA B2∧(actS d1 d2 e1 e2 a (some t1) (some t2) (some B1) (some B2)).eval (.tmp d2)=tyA t2)
  (hQ:∀t1 t2 B1 B2 u,Sy D w0 r1 r2 u t1 t2 B1 B2→Q .normal (actS d1 d2 e1 e2 a (some t1) (some t2) (some B1) (some B2)) u)
  (w:World) (hw:Below w0.heap.size w0 w):wpAnyH Tryz.prog .any ops Q (fun u=>Below w0.heap.size w0 u) 6 (L false false false false false false) a w:=by
 obtain⟨c1,hc1o,hc1g,hc1d⟩:=T.h4;obtain⟨c2,hc2o,hc2g,hc2d⟩:=T.h9;obtain⟨x1,hx1o,hx1g,hx1d,hx1p⟩:=T.h10;obtain⟨x2,hx2o,hx2g,hx2d,hx2p⟩:=T.h11;obtain⟨s1,hs1o,hs1g,hs1d,hs1p⟩:=T.h12;obtain⟨s2,hs2o,hs2g,hs2d,hs2p⟩:=T.h13;have hi:(Tryz.prog.info? 38).map (·.size)=some 5:=by kernel_rfl
 -- the stores
 have fin:∀t1 t2 B1 B2 u,Sx D w0 r1 r2 u (some t1) (some t2) (some B1) (some B2)→wpAnyH Tryz.prog .any ops Q (fun u=>Below w0.heap.size w0 u) 2 (L true true true true false false) (actS d1 d2 e1 e2 a (some t1) (some t2) (some B1) (some B2)) u:=by
  intro t1 t2 B1 B2 u h;obtain⟨v1,v2,v3,v4⟩:=hev t1 t2 B1 B2;have b1:=h.b1 B1 rfl;have b2:=h.b2 B2 rfl;have g1:=h.t1 t1 rfl;have g2:=h.t2 t2 rfl;have ne:B1≠B2:=fun e=>h.ne B1 rfl (by rw[e]);refine wpAnyH_ready T.r1111 (by simp) ?_;refine AllReadyH.cons hs1o (fun K hK=>?_) AllReadyH.nil;rw[if_pos (za2 hs1g)];refine zf8 (P:=Tryz.prog) 38 (.tmp e1) (.tmp d1) hs1p hs1d B1 t1.vs zTv v1 v2 t1.vs_one b1.2 rfl (by rw[hi];rfl) ?_
  have W1:=zd7 b1.2 t1.vs rfl;generalize u.setCells B1 0 t1.vs=u1 at W1 ⊢;have bl1:Below w0.heap.size w0 u1:=W1.below b1.1 h.bl;have k1:t1.At u1:=Ty.At.agree (Q:=Av D w0 (some B1) (some B2)) (fun b hb=>W1.other b (fun e=>hb.2.1 (by rw[e]))) g1.1 g1.2.2;have k2:t2.At u1:=Ty.At.agree (Q:=Av D w0 (some B1) (some B2)) (fun b hb=>W1.other b (fun e=>hb.2.1 (by rw[e]))) g2.1 g2.2.2;have z2:=W1.keep b2.2 (fun e=>ne e.symm);refine hK.out _ _ bl1 fun _=>?_;rw[(T.lset _ _ _ _ _ _).2.2.2.2.1];refine wpAnyH_ready T.rs (by simp) ?_;refine AllReadyH.cons hs2o (fun K2 hK2=>?_) AllReadyH.nil;rw[if_pos (za2 hs2g)];refine zf8 (P:=Tryz.prog) 38 (.tmp e2) (.tmp d2) hs2p hs2d B2 t2.vs zTv v3 v4 t2.vs_one z2 rfl (by rw[hi];rfl) ?_
  have W2:=zd7 z2 t2.vs rfl;generalize u1.setCells B2 0 t2.vs=u2 at W2 ⊢;have bl2:Below w0.heap.size w0 u2:=W2.below b2.1 bl1;refine hK2.out _ _ bl2 fun _=>?_;rw[(T.lset _ _ _ _ _ _).2.2.2.2.2];refine wpAnyH_done T.re ?_ _;exact hQ t1 t2 B1 B2 u2 ⟨bl2,Ty.At.agree (Q:=Av D w0 (some B1) (some B2)) (fun b hb=>W2.other b (fun e=>hb.2.2 (by rw[e]))) k1 g1.2.2,Ty.At.agree (Q:=Av D w0 (some B1) (some B2)) (fun b hb=>W2.other b (fun e=>hb.2.2 (by rw[e]))) k2 g2.2.2,g1.2.1,g2.2.1,g1.2.2,g2.2.2,b1.1,b2.1,W2.keep W1.blk ne,W2.blk,ne⟩
 -- the variables
 have al1:∀(n:Nat) (p1 p2 p4:Bool) o1 o2 q2 u K,Sx D w0 r1 r2 u o1 o2 none q2→Hid (∀a' w',(fun u=>Below w0.heap.size w0 u) w'→((fun u=>Below w0.heap.size w0 u) w'→wpAnyH Tryz.prog .any ops Q (fun u=>Below w0.heap.size w0 u) n ((L p1 p2 false p4 false false).setIfInBounds 10 true) a' w')→K a' w') →
   (∀B u',Sx D w0 r1 r2 u' o1 o2 (some B) q2→wpAnyH Tryz.prog .any ops Q (fun u=>Below w0.heap.size w0 u) n (L p1 p2 true p4 false false) (actS d1 d2 e1 e2 a o1 o2 (some B) q2) u') →
   x1.wp Tryz.prog (actS d1 d2 e1 e2 a o1 o2 none q2) u K Q:=by
  intro n p1 p2 p4 o1 o2 q2 u K h hK hn;unfold Oper.wp execOp;simp only[hx1p,Sem.run_bind,alloc_ty,Result.andThen_ok,Sem.run_pure];have k:=h.alloc1;refine hK.out _ _ k.bl fun _=>?_;rw[(T.lset _ _ _ _ _ _).2.2.1,hx1d];have:=hn u.heap.size _ k;rw[←zwy T.ap] at this;exact this
 have al2:∀(n:Nat) (p1 p2 p3:Bool) o1 o2 q1 u K,Sx D w0 r1 r2 u o1 o2 q1 none→Hid (∀a' w',(fun u=>Below w0.heap.size w0 u) w'→((fun u=>Below w0.heap.size w0 u) w'→wpAnyH Tryz.prog .any ops Q (fun u=>Below w0.heap.size w0 u) n ((L p1 p2 p3 false false false).setIfInBounds 11 true) a' w')→K a' w') →
   (∀B u',Sx D w0 r1 r2 u' o1 o2 q1 (some B)→wpAnyH Tryz.prog .any ops Q (fun u=>Below w0.heap.size w0 u) n (L p1 p2 p3 true false false) (actS d1 d2 e1 e2 a o1 o2 q1 (some B)) u') →
   x2.wp Tryz.prog (actS d1 d2 e1 e2 a o1 o2 q1 none) u K Q:=by
  intro n p1 p2 p3 o1 o2 q1 u K h hK hn;unfold Oper.wp execOp;simp only[hx2p,Sem.run_bind,alloc_ty,Result.andThen_ok,Sem.run_pure];have k:=h.alloc2;refine hK.out _ _ k.bl fun _=>?_;rw[(T.lset _ _ _ _ _ _).2.2.2.1,hx2d];exact hn u.heap.size _ k
 have ca1:∀(n:Nat) (p3 p4:Bool) o2 q1 q2 u K,Sx D w0 r1 r2 u none o2 q1 q2→Hid (∀a' w',(fun u=>Below w0.heap.size w0 u) w'→((fun u=>Below w0.heap.size w0 u) w'→wpAnyH Tryz.prog .any ops Q (fun u=>Below w0.heap.size w0 u) n ((L false false p3 p4 false false).setIfInBounds 4 true) a' w')→K a' w') →
   (∀t u',Sx D w0 r1 r2 u' (some t) o2 q1 q2→wpAnyH Tryz.prog .any ops Q (fun u=>Below w0.heap.size w0 u) n (L true false p3 p4 false false) (actS d1 d2 e1 e2 a (some t) o2 q1 q2) u') →
   c1.wp Tryz.prog (actS d1 d2 e1 e2 a none o2 q1 q2) u K Q:=by
  intro n p3 p4 o2 q1 q2 u K h hK hn;unfold Oper.wp;rw[hc1 o2 q1 q2 c1 u hc1o,Oper.upon_enter];refine (hcall1 u h.bl).mono ?_;rintro e u' ⟨t,rfl,ht,hk,hs,hb⟩;have k:=h.call1 hD hb ht hk hs;refine hK.out _ _ k.bl fun _=>?_;rw[(T.lset _ _ _ _ _ _).1,hc1d];have:=hn t _ k;rw[←zxc T.ap] at this;exact this
 have ca2:∀(n:Nat) (p3 p4:Bool) o1 q1 q2 u K,Sx D w0 r1 r2 u o1 none q1 q2→Hid (∀a' w',(fun u=>Below w0.heap.size w0 u) w'→((fun u=>Below w0.heap.size w0 u) w'→wpAnyH Tryz.prog .any ops Q (fun u=>Below w0.heap.size w0 u) n ((L true false p3 p4 false false).setIfInBounds 9 true) a' w')→K a' w') →
   (∀t u',Sx D w0 r1 r2 u' o1 (some t) q1 q2→wpAnyH Tryz.prog .any ops Q (fun u=>Below w0.heap.size w0 u) n (L true true p3 p4 false false) (actS d1 d2 e1 e2 a o1 (some t) q1 q2) u') →
   c2.wp Tryz.prog (actS d1 d2 e1 e2 a o1 none q1 q2) u K Q:=by
  intro n p3 p4 o1 q1 q2 u K h hK hn;unfold Oper.wp;rw[hc2 o1 q1 q2 c2 u hc2o,Oper.upon_enter];refine (hcall2 u h.bl).mono ?_;rintro e u' ⟨t,rfl,ht,hk,hs,hb⟩;have k:=h.call2 hD hb ht hk hs;refine hK.out _ _ k.bl fun _=>?_;rw[(T.lset _ _ _ _ _ _).2.1,hc2d];have:=hn t _ k;rw[←zw3 T.ap] at this;exact this
 have st210:∀t1 t2 B1 u,Sx D w0 r1 r2 u (some t1) (some t2) (some B1) (none)→wpAnyH Tryz.prog .any ops Q (fun u=>Below w0.heap.size w0 u) 3 (L true true true false false false) (actS d1 d2 e1 e2 a (some t1) (some t2) (some B1) (none)) u:=by
  intro t1 t2 B1 u h;refine wpAnyH_ready T.r1110 (by simp) ?_;refine AllReadyH.cons hx2o (fun K hK=>?_) AllReadyH.nil
  ·rw[if_pos (za2 hx2g)];exact al2 _ _ _ _ _ _ _ _ _ h hK fun B2 u' h'=>fin t1 t2 B1 B2 u' h'
 have st201:∀t1 t2 B2 u,Sx D w0 r1 r2 u (some t1) (some t2) (none) (some B2)→wpAnyH Tryz.prog .any ops Q (fun u=>Below w0.heap.size w0 u) 3 (L true true false true false false) (actS d1 d2 e1 e2 a (some t1) (some t2) (none) (some B2)) u:=by
  intro t1 t2 B2 u h;refine wpAnyH_ready T.r1101 (by simp) ?_;refine AllReadyH.cons hx1o (fun K hK=>?_) AllReadyH.nil
  ·rw[if_pos (za2 hx1g)];exact al1 _ _ _ _ _ _ _ _ _ h hK fun B1 u' h'=>fin t1 t2 B1 B2 u' h'
 have st200:∀t1 t2 u,Sx D w0 r1 r2 u (some t1) (some t2) (none) (none)→wpAnyH Tryz.prog .any ops Q (fun u=>Below w0.heap.size w0 u) 4 (L true true false false false false) (actS d1 d2 e1 e2 a (some t1) (some t2) (none) (none)) u:=by
  intro t1 t2 u h;refine wpAnyH_ready T.r1100 (by simp) ?_;refine AllReadyH.cons hx1o (fun K hK=>?_) (AllReadyH.cons hx2o (fun K hK=>?_) AllReadyH.nil)
  ·rw[if_pos (za2 hx1g)];exact al1 _ _ _ _ _ _ _ _ _ h hK fun B1 u' h'=>st210 t1 t2 B1 u' h'
  ·rw[if_pos (za2 hx2g)];exact al2 _ _ _ _ _ _ _ _ _ h hK fun B2 u' h'=>st201 t1 t2 B2 u' h'
 have st111:∀t1 B1 B2 u,Sx D w0 r1 r2 u (some t1) (none) (some B1) (some B2)→wpAnyH Tryz.prog .any ops Q (fun u=>Below w0.heap.size w0 u) 3 (L true false true true false false) (actS d1 d2 e1 e2 a (some t1) (none) (some B1) (some B2)) u:=by
  intro t1 B1 B2 u h;refine wpAnyH_ready T.r1011 (by simp) ?_;refine AllReadyH.cons hc2o (fun K hK=>?_) AllReadyH.nil
  ·rw[if_pos (za2 hc2g)];exact ca2 _ _ _ _ _ _ _ _ h hK fun t2 u' h'=>fin t1 t2 B1 B2 u' h'
 have st110:∀t1 B1 u,Sx D w0 r1 r2 u (some t1) (none) (some B1) (none)→wpAnyH Tryz.prog .any ops Q (fun u=>Below w0.heap.size w0 u) 4 (L true false true false false false) (actS d1 d2 e1 e2 a (some t1) (none) (some B1) (none)) u:=by
  intro t1 B1 u h;refine wpAnyH_ready T.r1010 (by simp) ?_;refine AllReadyH.cons hc2o (fun K hK=>?_) (AllReadyH.cons hx2o (fun K hK=>?_) AllReadyH.nil)
  ·rw[if_pos (za2 hc2g)];exact ca2 _ _ _ _ _ _ _ _ h hK fun t2 u' h'=>st210 t1 t2 B1 u' h'
  ·rw[if_pos (za2 hx2g)];exact al2 _ _ _ _ _ _ _ _ _ h hK fun B2 u' h'=>st111 t1 B1 B2 u' h'
 have st101:∀t1 B2 u,Sx D w0 r1 r2 u (some t1) (none) (none) (some B2)→wpAnyH Tryz.prog .any ops Q (fun u=>Below w0.heap.size w0 u) 4 (L true false false true false false) (actS d1 d2 e1 e2 a (some t1) (none) (none) (some B2)) u:=by
  intro t1 B2 u h;refine wpAnyH_ready T.r1001 (by simp) ?_;refine AllReadyH.cons hc2o (fun K hK=>?_) (AllReadyH.cons hx1o (fun K hK=>?_) AllReadyH.nil)
  ·rw[if_pos (za2 hc2g)];exact ca2 _ _ _ _ _ _ _ _ h hK fun t2 u' h'=>st201 t1 t2 B2 u' h'
  ·rw[if_pos (za2 hx1g)];exact al1 _ _ _ _ _ _ _ _ _ h hK fun B1 u' h'=>st111 t1 B1 B2 u' h'
 have st100:∀t1 u,Sx D w0 r1 r2 u (some t1) (none) (none) (none)→wpAnyH Tryz.prog .any ops Q (fun u=>Below w0.heap.size w0 u) 5 (L true false false false false false) (actS d1 d2 e1 e2 a (some t1) (none) (none) (none)) u:=by
  intro t1 u h;refine wpAnyH_ready T.r1000 (by simp) ?_;refine AllReadyH.cons hc2o (fun K hK=>?_) (AllReadyH.cons hx1o (fun K hK=>?_) (AllReadyH.cons hx2o (fun K hK=>?_) AllReadyH.nil))
  ·rw[if_pos (za2 hc2g)];exact ca2 _ _ _ _ _ _ _ _ h hK fun t2 u' h'=>st200 t1 t2 u' h'
  ·rw[if_pos (za2 hx1g)];exact al1 _ _ _ _ _ _ _ _ _ h hK fun B1 u' h'=>st110 t1 B1 u' h'
  ·rw[if_pos (za2 hx2g)];exact al2 _ _ _ _ _ _ _ _ _ h hK fun B2 u' h'=>st101 t1 B2 u' h'
 have st011:∀B1 B2 u,Sx D w0 r1 r2 u (none) (none) (some B1) (some B2)→wpAnyH Tryz.prog .any ops Q (fun u=>Below w0.heap.size w0 u) 4 (L false false true true false false) (actS d1 d2 e1 e2 a (none) (none) (some B1) (some B2)) u:=by
  intro B1 B2 u h;refine wpAnyH_ready T.r0011 (by simp) ?_;refine AllReadyH.cons hc1o (fun K hK=>?_) AllReadyH.nil
  ·rw[if_pos (za2 hc1g)];exact ca1 _ _ _ _ _ _ _ _ h hK fun t1 u' h'=>st111 t1 B1 B2 u' h'
 have st010:∀B1 u,Sx D w0 r1 r2 u (none) (none) (some B1) (none)→wpAnyH Tryz.prog .any ops Q (fun u=>Below w0.heap.size w0 u) 5 (L false false true false false false) (actS d1 d2 e1 e2 a (none) (none) (some B1) (none)) u:=by
  intro B1 u h;refine wpAnyH_ready T.r0010 (by simp) ?_;refine AllReadyH.cons hc1o (fun K hK=>?_) (AllReadyH.cons hx2o (fun K hK=>?_) AllReadyH.nil)
  ·rw[if_pos (za2 hc1g)];exact ca1 _ _ _ _ _ _ _ _ h hK fun t1 u' h'=>st110 t1 B1 u' h'
  ·rw[if_pos (za2 hx2g)];exact al2 _ _ _ _ _ _ _ _ _ h hK fun B2 u' h'=>st011 B1 B2 u' h'
 have st001:∀B2 u,Sx D w0 r1 r2 u (none) (none) (none) (some B2)→wpAnyH Tryz.prog .any ops Q (fun u=>Below w0.heap.size w0 u) 5 (L false false false true false false) (actS d1 d2 e1 e2 a (none) (none) (none) (some B2)) u:=by
  intro B2 u h;refine wpAnyH_ready T.r0001 (by simp) ?_;refine AllReadyH.cons hc1o (fun K hK=>?_) (AllReadyH.cons hx1o (fun K hK=>?_) AllReadyH.nil)
  ·rw[if_pos (za2 hc1g)];exact ca1 _ _ _ _ _ _ _ _ h hK fun t1 u' h'=>st101 t1 B2 u' h'
  ·rw[if_pos (za2 hx1g)];exact al1 _ _ _ _ _ _ _ _ _ h hK fun B1 u' h'=>st011 B1 B2 u' h'
 have st000:∀u,Sx D w0 r1 r2 u (none) (none) (none) (none)→wpAnyH Tryz.prog .any ops Q (fun u=>Below w0.heap.size w0 u) 6 (L false false false false false false) (actS d1 d2 e1 e2 a (none) (none) (none) (none)) u:=by
  intro u h;refine wpAnyH_ready T.r0000 (by simp) ?_;refine AllReadyH.cons hc1o (fun K hK=>?_) (AllReadyH.cons hx1o (fun K hK=>?_) (AllReadyH.cons hx2o (fun K hK=>?_) AllReadyH.nil))
  ·rw[if_pos (za2 hc1g)];exact ca1 _ _ _ _ _ _ _ _ h hK fun t1 u' h'=>st100 t1 u' h'
  ·rw[if_pos (za2 hx1g)];exact al1 _ _ _ _ _ _ _ _ _ h hK fun B1 u' h'=>st010 B1 u' h'
  ·rw[if_pos (za2 hx2g)];exact al2 _ _ _ _ _ _ _ _ _ h hK fun B2 u' h'=>st001 B2 u' h'
 exact st000 w ⟨hw,(fun _ e=>by cases e),(fun _ e=>by cases e),(fun _ e=>by cases e),(fun _ e=>by cases e),(fun _ e=>by cases e)⟩
def zf0 (D:Nat)(r:Ty)(k:Int)(w:World)(e:Ending)(w':World):Prop:=∃u:Ty,e=.returned (.tuple #[.agg u.vs.toArray,.int .i64 k])∧u.At w'∧u.Blk (fun b=>b<D∨w.heap.size≤b)∧u.same r=true∧Below w.heap.size w w'
def L6 (a b c d e g:Bool):Array Bool:=#[true,true,true,true,a,true,true,true,true,b,c,d,e,g]
theorem zdn {u r:Ty}(h:u.same r=true):u.k=r.k:=((zbb u r).1 h).1.1
theorem zee {u r:Ty}(h:u.same r=true):u.l=r.l:=((zbb u r).1 h).1.2.1
theorem zdz (Q:Nat→Prop)(k l:Int):(leafT k l).Blk Q:=⟨fun h=>absurd h (Nat.lt_irrefl _),fun _ h=>absurd h (Nat.not_lt_zero _)⟩
theorem zbo {w:World}{B:Nat}{c:List Value}{t:TypeId}(h:Blk w B c t){i:Nat}(v:Value):WroteB w (w.setCell ⟨B,i,none⟩ v) B (c.set i v) t:=by
 refine⟨?_,fun b hb=>Below.heap_setCell _ _ _ _ hb,by simp[World.setCell],fun hB hb=>hb.setCell hB v⟩;have e:(c.toArray.setIfInBounds i v)=(c.set i v).toArray:=by simp
 unfold Blk at h ⊢;rw[←e];simp[World.setCell,Array.getElem?_modify,h]
theorem zak {P:Program}{Q:Exit→Act→World→Prop}{o:Oper}{a:Act}{w:World}{K:Act→World→Prop}(t:TypeId)(p x:Operand)(ho:o.op=.store t p x)(hdst:o.dst=none)(B:Nat)(vs c:List Value)(hp:a.eval p=.pointer (some ⟨B,0,none⟩))(hx:a.eval x=.agg vs.toArray)(h1:vs.all (·.oneCell')=true)
  (hb:Blk w B c t) (hl:c.length=vs.length) (hi:(P.info? t).map (·.size)=some vs.toArray.size) (h:∀w',WroteB w w' B vs t→K a w'):o.wp P a w K Q :=
 zf8 t p x ho hdst B vs c hp hx h1 hb hl hi (h _ (zd7 hb vs hl))
structure Rk (D:Nat)(w:World)(j:Jd)(nd:Nd)(t1 t2:Ty)(B1 B2:Nat)(u:World):Prop where
 bl:Below w.heap.size w u
 hj:j.At u
 J:Blk u w.heap.size j.vs 48
 N:Blk u (w.heap.size+1) nd.vs 65
 Z:Blk u (w.heap.size+2) zTv 38
 b1:Blk u B1 t1.vs 38
 b2:Blk u B2 t2.vs 38
 n1:w.heap.size+3≤B1
 n2:w.heap.size+3≤B2
 s1:t1.same (j.read nd nd.h.a)=true
 s2:t2.same (j.read nd nd.h.b)=true
theorem Rk.kept {D:Nat}{w:World}{j:Jd}{nd:Nd}{t1 t2:Ty}{B1 B2:Nat}{u u':World}(h:Rk D w j nd t1 t2 B1 B2 u)(hb:Below u.heap.size u u'):Rk D w j nd t1 t2 B1 B2 u' :=
 ⟨Below.next h.bl hb,h.hj.kept hb,h.J.kept hb,h.N.kept hb,h.Z.kept hb,h.b1.kept hb,h.b2.kept hb,h.n1,h.n2,h.s1,h.s2⟩
theorem zez {D:Nat}{r:Ty}{k:Int}{w w':World}(p l:Int)(hr:r=leafT p l)(hb:Below w.heap.size w w'):zf0 D r k w (.returned (.tuple #[.agg (leafT p l).vs.toArray,.int .i64 k])) w' :=
 ⟨leafT p l,rfl,zay _ _ _,zdz _ _ _,by rw[hr];exact same_refl _,hb⟩
theorem zm4 (D:Nat)(j:Jd)(nd:Nd)(w:World)(hj:j.At w)(hD:D≤w.heap.size)(ha:0≤nd.h.a)(ha1:nd.h.a<j.f.slots.len)(hb:0≤nd.h.b)(hb1:nd.h.b<j.f.slots.len) :
  Calls Tryz.prog 116 #[.agg j.va,.agg nd.va] w (zf0 D (j.reck nd).1 (j.reck nd).2 w):=by
 have H:=zar [.cells j.va 48,.cells nd.va 65,.cells zTv.toArray 38] w;have B0:=zap [.cells j.va 48,.cells nd.va 65,.cells zTv.toArray 38] w;have SZ:=za9 [.cells j.va 48,.cells nd.va 65,.cells zTv.toArray 38] w;simp only[List.foldl,List.length] at H B0 SZ;have bJ:Blk _ w.heap.size j.vs 48:=H 0 (by simp);have bN:Blk _ (w.heap.size+1) nd.vs 65:=H 1 (by simp);have bZ:Blk _ (w.heap.size+2) zTv 38:=H 2 (by simp);have hj1:=hj.kept B0;clear H;unfold zTv at hj1 B0 bJ bN bZ SZ;go_enter Tryz.func116,Tryz.ntmps116
 go_upto_region 1 with fail
 generalize (((w.alloc (.cells j.va 48)).alloc (.cells nd.va 65)).alloc (.cells #[.int .i64 0,.int .i64 0,.slice none 0 0,.int .i64 0,.int .i64 0] 38))=w1 at *;have HI:Hid (j.At w1∧Below w.heap.size w w1∧Blk w1 (w.heap.size+2) zTv 38∧w1.heap.size=w.heap.size+3∧Blk w1 w.heap.size j.vs 48∧Blk w1 (w.heap.size+1) nd.vs 65):=⟨hj1,B0,bZ,SZ,bJ,bN⟩;have HH:Hid (D≤w.heap.size∧(0≤nd.h.a∧nd.h.a<j.f.slots.len)∧0≤nd.h.b∧nd.h.b<j.f.slots.len):=⟨hD,⟨ha,ha1⟩,hb,hb1⟩;clear hj hj1 B0 SZ bJ bN bZ hD ha ha1 hb hb1;have hC0:∀u,(∃x:Wd (fun u=>Below w1.heap.size w1 u),u=x.w)→u.rangeAt w.heap.size 0 j.vs:=by rintro _ ⟨x,rfl⟩;exact (HI.out.2.2.2.2.1.kept x.2).range
 have hC1:∀u,(∃x:Wd (fun u=>Below w1.heap.size w1 u),u=x.w)→u.rangeAt (w.heap.size+1) 0 nd.vs:=by rintro _ ⟨x,rfl⟩;exact (HI.out.2.2.2.2.2.kept x.2).range
 have p2:∀x:Wd (fun u=>Below w1.heap.size w1 u),x.w.cell? ⟨w.heap.size+1,2,none⟩=some (.int .i64 nd.h.a):=fun x=>(HI.out.2.2.2.2.2.kept x.2).cell 2 rfl;have p3:∀x:Wd (fun u=>Below w1.heap.size w1 u),x.w.cell? ⟨w.heap.size+1,3,none⟩=some (.int .i64 nd.h.b):=fun x=>(HI.out.2.2.2.2.2.kept x.2).cell 3 rfl;have hNE:Nonempty (Wd (fun u=>Below w1.heap.size w1 u)):=⟨⟨_,Below.refl _ _⟩⟩;refine zal (fun u=>Below w1.heap.size w1 u) [0,1,2,3,5,6,7,8] 6 (by kernel_rfl) rfl (by kernel_rfl) (fun j hj=>?_) ((Below.refl _ _).drew) ?_
 ·have hj5:j<8:=hj
  match j,hj5 with
  | 0,_=>exact⟨_,rfl,rfl⟩
  | 1,_=>exact⟨_,rfl,rfl⟩
  | 2,_=>exact⟨_,rfl,rfl⟩
  | 3,_=>exact⟨_,rfl,rfl⟩
  | 4,_=>exact⟨_,rfl,rfl⟩
  | 5,_=>exact⟨_,rfl,rfl⟩
  | 6,_=>exact⟨_,rfl,rfl⟩
  | 7,_=>exact⟨_,rfl,rfl⟩
 simp only[List.filterMap,zD,zE];go_big_quiet_want;refine zaa 48 (.tmp 2) rfl _ 0 (by kernel_rfl) j.vs _ hC0 Tryz.underlying48 rfl (by kernel_rfl) ?_;simp only[Act.put,zA,zB,zC];go_big_quiet_on;go_big_quiet_want;refine zaa 65 (.tmp 3) rfl _ 0 (by kernel_rfl) nd.vs _ hC1 Tryz.underlying65 rfl (by kernel_rfl) ?_;simp only[Act.put,zA,zB,zC];go_big_quiet_on;iterate 2 go_big_quiet_step (fail)
 go_big_quiet_want;refine zaa 48 (.tmp 2) rfl _ 0 (by kernel_rfl) j.vs _ hC0 Tryz.underlying48 rfl (by kernel_rfl) ?_;simp only[Act.put,zA,zB,zC];go_big_quiet_on;go_big_quiet_want;refine zaa 65 (.tmp 3) rfl _ 0 (by kernel_rfl) nd.vs _ hC1 Tryz.underlying65 rfl (by kernel_rfl) ?_;simp only[Act.put,zA,zB,zC];go_big_quiet_on;iterate 2 go_big_quiet_step (fail)
 refine wpQuiet_nil ?_;clear hC0 hC1 p2 p3 hNE;refine zhb (L:=L6) (ff:=0) (d1:=13) (d2:=18) (e1:=6) (e2:=7) ⟨⟨by decide,by decide,by decide,by decide,by decide,by decide⟩,⟨_,rfl,rfl,rfl⟩,⟨_,rfl,rfl,rfl⟩,⟨_,rfl,rfl,rfl,rfl⟩,⟨_,rfl,rfl,rfl,rfl⟩,⟨_,rfl,rfl,rfl,rfl⟩,⟨_,rfl,rfl,rfl,rfl⟩,fun _ _ _ _ _ _=>⟨rfl,rfl,rfl,rfl,rfl,rfl⟩,by kernel_rfl,by kernel_rfl,by kernel_rfl,by kernel_rfl,by kernel_rfl,by kernel_rfl,by kernel_rfl,by kernel_rfl,by kernel_rfl,by kernel_rfl,by kernel_rfl,by kernel_rfl,by kernel_rfl,by kernel_rfl⟩ (D:=D) (w0:=w1) (r1:=j.read nd nd.h.a) (r2:=j.read nd nd.h.b) (by have h1:=HI.out.2.1.size;have h2:=HH.out.1;omega) _ #[.agg j.vs.toArray,.agg nd.vs.toArray,.int .i64 nd.h.a] #[.agg j.vs.toArray,.agg nd.vs.toArray,.int .i64 nd.h.b] 89 89 ?_ ?_ ?_ ?_ ?_ ?_ _ ((Below.refl _ _).drew)
 ·intro o2 q1 q2 o u ho;have e:=(Option.some.inj ho).symm;subst e;cases o2 <;> cases q1 <;> cases q2 <;> (show _=_;kernel_rfl)
 ·intro o2 q1 q2 o u ho;have e:=(Option.some.inj ho).symm;subst e;cases o2 <;> cases q1 <;> cases q2 <;> (show _=_;kernel_rfl)
 ·exact fun u hu=>zbk D j nd nd.h.a u (HI.out.1.kept hu) (by have h1:=HI.out.2.1.size;have h2:=HH.out.1;have h3:=hu.size;omega) HH.out.2.1.1 HH.out.2.1.2
 ·exact fun u hu=>zbk D j nd nd.h.b u (HI.out.1.kept hu) (by have h1:=HI.out.2.1.size;have h2:=HH.out.1;have h3:=hu.size;omega) HH.out.2.2.1 HH.out.2.2.2
 ·exact fun t1 t2 B1 B2=>⟨rfl,rfl,rfl,rfl⟩
 intro t1 t2 B1 B2 u hY;refine⟨(fun c hc=>by cases hc),?_⟩;simp only[actS,putO,Option.map,Act.put,tyA,ptA,zA,zB,zC];have HR:Hid (Rk D w j nd t1 t2 B1 B2 u):=⟨Below.next HI.out.2.1 hY.bl,HI.out.1.kept hY.bl,HI.out.2.2.2.2.1.kept hY.bl,HI.out.2.2.2.2.2.kept hY.bl,HI.out.2.2.1.kept hY.bl,hY.b1,hY.b2,by have h1:=HI.out.2.2.2.1;have h2:=hY.n1;omega,by have h1:=HI.out.2.2.2.1;have h2:=hY.n2;omega,hY.s1,hY.s2⟩
 clear hY HI;have x1:=HR.out.b1.cell 0 (v:=.int .i64 t1.k) rfl;have x2:=HR.out.b2.cell 0 (v:=.int .i64 t2.k) rfl;have e1:t1.k=(j.read nd nd.h.a).k:=zdn HR.out.s1;have e2:t2.k=(j.read nd nd.h.b).k:=zdn HR.out.s2;have HE:Hid (t1.k=(j.read nd nd.h.a).k∧t2.k=(j.read nd nd.h.b).k∧t1.l=(j.read nd nd.h.a).l∧t2.l=(j.read nd nd.h.b).l):=⟨e1,e2,zee HR.out.s1,zee HR.out.s2⟩;clear e1 e2;cases q1:(t1.k != 1)
 ·cases q2:(t2.k != 1)
  ·have HG:Hid (j.reck nd=(leafT (if nd.h.n=11∨nd.h.n=12 then 2 else 1) (zad j.n j.g t1.l t2.l),if nd.h.n=9∨nd.h.n=10 then t2.l else -1)):=by
    show _=_
    unfold Jd.reck;rw[←HE.out.1,←HE.out.2.1,←HE.out.2.2.1,←HE.out.2.2.2,q1,q2];rfl
   have y1:=HR.out.b1.cell 1 (v:=.int .i64 t1.l) rfl;have y2:=HR.out.b2.cell 1 (v:=.int .i64 t2.l) rfl;have bJ:=HR.out.J;go_wp2_with (refine wpList_load_mid rfl 48 (.tmp 2) rfl w.heap.size 0 (by kernel_rfl) j.vs _ bJ.range Tryz.underlying48 rfl (by kernel_rfl) ?_)
   refine (zbz j t1.l t2.l u HR.out.hj.n HR.out.hj.g).mono ?_;rintro _ u1 ⟨rfl,hb1⟩;have HR1:=hid (HR.out.kept hb1);clear x1 x2 y1 y2 bJ HR hb1 q1 q2;generalize zad j.n j.g t1.l t2.l=bv at *;have hN:=zac u1 (.cells #[.int .i64 1,.int .i64 bv,.slice none 0 0,.int .i64 0,.int .i64 0] 38);have HB:Hid (Rk D w j nd t1 t2 B1 B2 (u1.alloc (.cells #[.int .i64 1,.int .i64 bv,.slice none 0 0,.int .i64 0,.int .i64 0] 38))∧Blk (u1.alloc (.cells #[.int .i64 1,.int .i64 bv,.slice none 0 0,.int .i64 0,.int .i64 0] 38)) u1.heap.size (leafT 1 bv).vs 38∧w.heap.size+3≤u1.heap.size):=⟨HR1.out.kept hN,Blk.new u1 (leafT 1 bv).vs _,by have h1:=HR1.out.n1;have h2:=HR1.out.b1.lt;omega⟩
   clear hN HR1;go_upto_region 5 with fail
   generalize (u1.alloc (.cells #[.int .i64 1,.int .i64 bv,.slice none 0 0,.int .i64 0,.int .i64 0] 38))=u2 at *;generalize u1.heap.size=B8 at *;have c4:=HB.out.1.N.cell 4 (v:=.int .i64 nd.h.n) rfl;by_cases h11:nd.h.n=11∨nd.h.n=12
   ·replace HG:Hid (j.reck nd=(leafT 2 bv,-1)):=by
     show _=_
     rw[HG.out,if_pos h11,if_neg (by omega)]
    have b8:=HB.out.2.1;have x8:=b8.cell 0 (v:=.int .i64 1) rfl;have f8:=b8.frozen 0;generalize nd.h.n=nn at *;clear b8;rcases h11 with rfl | rfl
    all_goals
     go_upto_region 12 with fail
     have W8:=zbo (i:=0) HB.out.2.1 (.int .i64 2);have HC:Hid (Below w.heap.size w (u2.setCell ⟨B8,0,none⟩ (.int .i64 2))∧Blk (u2.setCell ⟨B8,0,none⟩ (.int .i64 2)) (w.heap.size+2) zTv 38∧Blk (u2.setCell ⟨B8,0,none⟩ (.int .i64 2)) B8 (leafT 2 bv).vs 38):=⟨W8.below (by have:=HB.out.2.2;omega) HB.out.1.bl,W8.keep HB.out.1.Z (by have:=HB.out.2.2;omega),W8.blk⟩
     clear W8 x8 f8 c4;generalize u2.setCell ⟨B8,0,none⟩ (.int .i64 2)=u3 at *;have bZ:=HC.out.2.1;have b8:=HC.out.2.2;go_wp2_with (first | (refine wpList_load_mid rfl 38 (.tmp 8) rfl B8 0 (by kernel_rfl) (leafT 2 bv).vs _ b8.range Tryz.underlying38 rfl (by kernel_rfl) ?_) | (refine zae rfl rfl 38 (.tmp 4) (.tmp 47) rfl (w.heap.size+2) (leafT 2 bv).vs (by kernel_rfl) (by kernel_rfl) rfl bZ rfl (by kernel_rfl) ?_;intro w2 W2));have z0:=W2.blk.cell 0 (v:=.int .i64 2) rfl;have z1:=W2.blk.cell 1 (v:=.int .i64 bv) rfl;have z2:=W2.blk.cell 2 (v:=.slice none 0 0) rfl;have z3:=W2.blk.cell 3 (v:=.int .i64 0) rfl;have z4:=W2.blk.cell 4 (v:=.int .i64 0) rfl;refine bodyPost_ret (v:=.tuple #[.agg (leafT 2 bv).vs.toArray,.int .i64 (-1)]) (by simp[results,Tryz.results116,go_sem,z0,z1,z2,z3,z4,Ty.vs,leafT,Ty.k,Ty.l,Ty.ao,Ty.len,Ty.cap,Ty.h,Ty.e]) rfl ?_;rw[HG.out];exact zez 2 bv rfl (W2.below (by omega) HC.out.1)
   ·by_cases h9:nd.h.n=9∨nd.h.n=10
    ·replace HG:Hid (j.reck nd=(leafT 1 bv,t2.l)):=by
      show _=_
      rw[HG.out,if_neg h11,if_pos h9]
     clear h11;generalize nd.h.n=nn at *;rcases h9 with rfl | rfl
     all_goals
      go_upto_region 11 with fail
      clear c4;have hC8:∀q,(∃x:Wd (fun q:World=>Blk q B8 (leafT 1 bv).vs 38∧Blk q B2 t2.vs 38),q=x.w)→q.rangeAt B8 0 (leafT 1 bv).vs:=by rintro _ ⟨x,rfl⟩;exact x.2.1.range
      have p1:∀x:Wd (fun q:World=>Blk q B8 (leafT 1 bv).vs 38∧Blk q B2 t2.vs 38),x.w.cell? ⟨B2,1,none⟩=some (.int .i64 t2.l):=fun x=>x.2.2.cell 1 rfl;have hD:=(Below.refl u2.heap.size u2).drew;have HD:Hid (Blk u2.drew B8 (leafT 1 bv).vs 38∧Blk u2.drew B2 t2.vs 38∧Blk u2.drew (w.heap.size+2) zTv 38∧Below w.heap.size w u2.drew∧w.heap.size+3≤B2):=⟨HB.out.2.1.kept hD,HB.out.1.b2.kept hD,HB.out.1.Z.kept hD,Below.next HB.out.1.bl hD,HB.out.1.n2⟩;have hNE:Nonempty (Wd (fun q:World=>Blk q B8 (leafT 1 bv).vs 38∧Blk q B2 t2.vs 38)):=⟨⟨u2.drew,HD.out.1,HD.out.2.1⟩⟩;clear hD;refine zal (fun q:World=>Blk q B8 (leafT 1 bv).vs 38∧Blk q B2 t2.vs 38) [0,1,2] 2 (by kernel_rfl) rfl (by kernel_rfl) (fun j hj=>?_) ⟨HD.out.1,HD.out.2.1⟩ ?_
      ·have hj5:j<3:=hj
       match j,hj5 with
       | 0,_=>exact⟨_,rfl,rfl⟩
       | 1,_=>exact⟨_,rfl,rfl⟩
       | 2,_=>exact⟨_,rfl,rfl⟩
      simp only[List.filterMap,zD,zE];generalize u2.drew=u3 at *;go_big_quiet_want;refine zaa 38 (.tmp 8) rfl _ 0 (by kernel_rfl) (leafT 1 bv).vs _ hC8 Tryz.underlying38 rfl (by kernel_rfl) ?_;simp only[Act.put,zA,zB,zC];go_big_quiet_on;iterate 2 go_big_quiet_step (fail)
      refine wpQuiet_nil ?_;clear hC8 p1 hNE;refine wpAnyH_ready (rs:=[3]) (by kernel_rfl) (by simp) ?_;refine AllReadyH.cons rfl (fun K hK=>?_) AllReadyH.nil;rw[if_pos (by rfl)];refine zak 38 (.tmp 4) (.tmp 44) rfl rfl (w.heap.size+2) (leafT 1 bv).vs zTv (by kernel_rfl) (by kernel_rfl) rfl HD.out.2.2.1 rfl (by kernel_rfl) ?_;intro w2 W2;have HE2:Hid (Blk w2 B8 (leafT 1 bv).vs 38∧Blk w2 B2 t2.vs 38∧Below w.heap.size w w2):=⟨W2.keep HD.out.1 (by have:=HB.out.2.2;omega),W2.keep HD.out.2.1 (by have:=HD.out.2.2.2.2;omega),W2.below (by omega) HD.out.2.2.2.1⟩
      refine hK.out _ _ ⟨HE2.out.1,HE2.out.2.1⟩ (fun _=>?_);clear hK K;refine wpAnyH_ready (rs:=[4]) (by kernel_rfl) (by simp) ?_;refine AllReadyH.cons rfl (fun K hK=>?_) AllReadyH.nil;rw[if_pos (by rfl)];go_simp;refine hK.out _ _ ⟨HE2.out.1,HE2.out.2.1⟩ (fun _=>?_);clear hK K;refine wpAnyH_done (by kernel_rfl) ?_ _;refine⟨(fun c hc=>by cases hc),?_⟩;have z0:=W2.blk.cell 0 (v:=.int .i64 1) rfl;have z1:=W2.blk.cell 1 (v:=.int .i64 bv) rfl;have z2:=W2.blk.cell 2 (v:=.slice none 0 0) rfl;have z3:=W2.blk.cell 3 (v:=.int .i64 0) rfl;have z4:=W2.blk.cell 4 (v:=.int .i64 0) rfl;go_wp2;refine bodyPost_ret (v:=.tuple #[.agg (leafT 1 bv).vs.toArray,.int .i64 t2.l]) (by simp[results,Tryz.results116,go_sem,z0,z1,z2,z3,z4,Ty.vs,leafT,Ty.k,Ty.l,Ty.ao,Ty.len,Ty.cap,Ty.h,Ty.e]) rfl ?_;rw[HG.out];exact zez 1 bv rfl HE2.out.2.2
    ·replace HG:Hid (j.reck nd=(leafT 1 bv,-1)):=by
      show _=_
      rw[HG.out,if_neg h11,if_neg h9]
     have f11:=beqI (fun e=>h11 (Or.inl e));have f12:=beqI (fun e=>h11 (Or.inr e));have f9:=beqI (fun e=>h9 (Or.inl e));have f10:=beqI (fun e=>h9 (Or.inr e));clear h11 h9;generalize nd.h.n=nn at *;have bZ:=HB.out.1.Z;have b8:=HB.out.2.1;go_wp2_with (first | (refine wpList_load_mid rfl 38 (.tmp 8) rfl B8 0 (by kernel_rfl) (leafT 1 bv).vs _ b8.range Tryz.underlying38 rfl (by kernel_rfl) ?_) | (refine zae rfl rfl 38 (.tmp 4) (.tmp 47) rfl (w.heap.size+2) (leafT 1 bv).vs (by kernel_rfl) (by kernel_rfl) rfl bZ rfl (by kernel_rfl) ?_;intro w2 W2));have z0:=W2.blk.cell 0 (v:=.int .i64 1) rfl;have z1:=W2.blk.cell 1 (v:=.int .i64 bv) rfl;have z2:=W2.blk.cell 2 (v:=.slice none 0 0) rfl;have z3:=W2.blk.cell 3 (v:=.int .i64 0) rfl;have z4:=W2.blk.cell 4 (v:=.int .i64 0) rfl;refine bodyPost_ret (v:=.tuple #[.agg (leafT 1 bv).vs.toArray,.int .i64 (-1)]) (by simp[results,Tryz.results116,go_sem,z0,z1,z2,z3,z4,Ty.vs,leafT,Ty.k,Ty.l,Ty.ao,Ty.len,Ty.cap,Ty.h,Ty.e]) rfl ?_;rw[HG.out];exact zez 1 bv rfl (W2.below (by omega) HB.out.1.bl)
  ·have HG:Hid (j.reck nd=(leafT 0 0,-1)):=by
    show _=_
    unfold Jd.reck;rw[←HE.out.1,←HE.out.2.1,q1,q2];rfl
   have bZ:=HR.out.Z;go_wp2_with (refine zae rfl rfl 38 (.tmp 4) (.tmp 27) rfl (w.heap.size+2) zTv (by kernel_rfl) (by kernel_rfl) rfl bZ rfl (by kernel_rfl) ?_;intro w2 W2);have z0:=W2.blk.cell 0 (v:=.int .i64 0) rfl;have z1:=W2.blk.cell 1 (v:=.int .i64 0) rfl;have z2:=W2.blk.cell 2 (v:=.slice none 0 0) rfl;have z3:=W2.blk.cell 3 (v:=.int .i64 0) rfl;have z4:=W2.blk.cell 4 (v:=.int .i64 0) rfl;refine bodyPost_ret (v:=.tuple #[.agg (leafT 0 0).vs.toArray,.int .i64 (-1)]) (by simp[results,Tryz.results116,go_sem,z0,z1,z2,z3,z4,Ty.vs,leafT,Ty.k,Ty.l,Ty.ao,Ty.len,Ty.cap,Ty.h,Ty.e]) rfl ?_;rw[HG.out];exact zez 0 0 rfl (W2.below (by omega) HR.out.bl)
 ·have HG:Hid (j.reck nd=(leafT 0 0,-1)):=by
   show _=_
   unfold Jd.reck;rw[←HE.out.1,←HE.out.2.1,q1];rfl
  have bZ:=HR.out.Z;go_wp2_with (refine zae rfl rfl 38 (.tmp 4) (.tmp 27) rfl (w.heap.size+2) zTv (by kernel_rfl) (by kernel_rfl) rfl bZ rfl (by kernel_rfl) ?_;intro w2 W2);have z0:=W2.blk.cell 0 (v:=.int .i64 0) rfl;have z1:=W2.blk.cell 1 (v:=.int .i64 0) rfl;have z2:=W2.blk.cell 2 (v:=.slice none 0 0) rfl;have z3:=W2.blk.cell 3 (v:=.int .i64 0) rfl;have z4:=W2.blk.cell 4 (v:=.int .i64 0) rfl;refine bodyPost_ret (v:=.tuple #[.agg (leafT 0 0).vs.toArray,.int .i64 (-1)]) (by simp[results,Tryz.results116,go_sem,z0,z1,z2,z3,z4,Ty.vs,leafT,Ty.k,Ty.l,Ty.ao,Ty.len,Ty.cap,Ty.h,Ty.e]) rfl ?_;rw[HG.out];exact zez 0 0 rfl (W2.below (by omega) HR.out.bl)
end
end Go.Proofs.YtgioppfoceddfaaGreat
