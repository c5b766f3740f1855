import Derived.Test.YtfobijdkoeifjaaGreatDoorP13
import Derived.LaidEql
import Derived.Carry
import Derived.Test.YtfobijdkoeifjaaGreatDoorP9
import Derived.Test.YtfobijdkoeifjaaGreatDoorP8
import Derived.Test.YtfobijdkoeifjaaGreatDoorP12
import Derived.Deep.QuietTactic
import Derived.Test.YtfobijdkoeifjaaGreatDoorP15
import Derived.Test.YtfobijdkoeifjaaGreatDoorP14
set_option maxRecDepth 100000
set_option maxHeartbeats 32000000
namespace Go.Proofs.YtfobijdkoeifjaaGreatDoor
section
open Go.RowKit
def nv (a b c d p q:Int):Value:=.agg #[.int .i64 a,.int .i64 b,.int .i64 c,.int .i64 d,.int .i64 p,.int .i64 q]
def zb5:List Int→Value
 | [a,b,c,d,p,q]=>nv a b c d p q
 | _=>.agg #[]
theorem zmo {n:List Int}(h:n.length=6):∃a b c d p q,n=[a,b,c,d,p,q]:=by
 match n,h with
 | [a,b,c,d,p,q],_=>exact⟨a,b,c,d,p,q,rfl⟩
theorem Tryz.intSz:(Tryz.prog.info? 3).map (·.size)=some 1:=by kernel_rfl
theorem Tryz.twoSz:(Tryz.prog.info? 73).map (·.size)=some 2:=by kernel_rfl
theorem zgr (w:World){t:TypeId}{n:Nat}(h:(Tryz.prog.info? t).map (·.size)=some n):(sizeOf t).run Tryz.prog w=.ok n w:=by
 cases hq:Tryz.prog.info? t with
 | none=>rw[hq] at h;simp at h
 | some i =>
  rw[hq] at h;have h:i.size=n:=by simpa using h
  simp[sizeOf,typeInfo,hq,h]
theorem zpb (w:World)(d:Nat)(m n:Int):(Op.equalIn (d+1) 3 (.int .i64 m) (.int .i64 n)).run Tryz.prog w=.ok (decide (m=n)) w:=by
 simp[Op.equalIn,run_underlying Tryz.underlying3]
 by_cases h:m=n
 ·simp[h]
 ·simp[h]
theorem zbp (w:World)(xs:Array Value)(i:Nat)(v:Value)(h:xs[i]?=some v):(part 3 xs i).run Tryz.prog w=.ok v w:=by
 simp[part,isAgg,run_underlying Tryz.underlying3,h]
theorem zk6 (w:World)(xs:Array Value)(i:Nat):(part 73 xs i).run Tryz.prog w=.ok (.agg (xs.extract i (i+2))) w:=by
 have h:=zgr w Tryz.twoSz;unfold part isAgg;simp only[Sem.run_bind,run_underlying Tryz.underlying73,Result.andThen_ok,Sem.run_pure,if_true,h]
theorem zwl (w:World)(d:Nat)(a b p q:Int):(Op.equalIn (d+2) 73 (.agg #[.int .i64 a,.int .i64 b]) (.agg #[.int .i64 p,.int .i64 q])).run Tryz.prog w=.ok (decide (a=p)&&decide (b=q)) w:=by
 have hz:=zgr w Tryz.intSz;have e:=zpb w d;have p0:=fun x y:Int=>zbp w #[.int .i64 x,.int .i64 y] 0 _ rfl;have p1:=fun x y:Int=>zbp w #[.int .i64 x,.int .i64 y] 1 _ rfl;rw[Op.equalIn];simp only[Sem.run_bind,run_underlying Tryz.underlying73,Result.andThen_ok,hz];by_cases h1:a=p
 ·by_cases h2:b=q
  ·simp[Std.Legacy.Range.forIn_eq_forIn_range',Std.Legacy.Range.size,List.range',e,p0,p1,h1,h2]
  ·simp[Std.Legacy.Range.forIn_eq_forIn_range',Std.Legacy.Range.size,List.range',e,p0,p1,h1,h2]
 ·simp[Std.Legacy.Range.forIn_eq_forIn_range',Std.Legacy.Range.size,List.range',e,p0,h1]
theorem ztj (w:World)(d:Nat)(a b c e p q a' b' c' e' p' q':Int):(Op.equalIn (d+3) 222 (nv a b c e p q) (nv a' b' c' e' p' q')).run Tryz.prog w=.ok (decide ([a,b,c,e,p,q]=[a',b',c',e',p',q'])) w:=by
 unfold nv;have e1:=zpb w (d+1);have e2:=zwl w d;have p0:=fun a b c e p q:Int=>zbp w #[.int .i64 a,.int .i64 b,.int .i64 c,.int .i64 e,.int .i64 p,.int .i64 q] 0 _ rfl;have p1:=fun a b c e p q:Int=>zbp w #[.int .i64 a,.int .i64 b,.int .i64 c,.int .i64 e,.int .i64 p,.int .i64 q] 1 _ rfl;have p2:=fun a b c e p q:Int=>zbp w #[.int .i64 a,.int .i64 b,.int .i64 c,.int .i64 e,.int .i64 p,.int .i64 q] 2 _ rfl;have p3:=fun a b c e p q:Int=>zbp w #[.int .i64 a,.int .i64 b,.int .i64 c,.int .i64 e,.int .i64 p,.int .i64 q] 3 _ rfl;have p4:=fun a b c e p q:Int=>zk6 w #[.int .i64 a,.int .i64 b,.int .i64 c,.int .i64 e,.int .i64 p,.int .i64 q] 4;have x4:∀a b c e p q:Int,(#[.int .i64 a,.int .i64 b,.int .i64 c,.int .i64 e,.int .i64 p,.int .i64 q]:Array Value).extract 4 6=#[.int .i64 p,.int .i64 q]:=fun _ _ _ _ _ _=>rfl;rw[Op.equalIn];simp only[Sem.run_bind,run_underlying Tryz.underlying222,Result.andThen_ok];simp only[Nat.reduceAdd,x4] at p4;simp[e1,e2,p0,p1,p2,p3,p4]
 by_cases h1:a=a'
 ·by_cases h2:b=b'
  ·by_cases h3:c=c'
   ·by_cases h4:e=e'
    ·by_cases h5:p=p'
     ·by_cases h6:q=q'
      ·simp[h1,h2,h3,h4,h5,h6]
      ·simp[h1,h2,h3,h4,h5,h6]
     ·simp[h1,h2,h3,h4,h5]
    ·simp[h1,h2,h3,h4]
   ·simp[h1,h2,h3]
  ·simp[h1,h2]
 ·simp[h1]
theorem zxb (w:World)(n m:List Int)(hn:n.length=6)(hm:m.length=6):(Op.equal 222 (zb5 n) (zb5 m)).run Tryz.prog w=.ok (decide (n=m)) w:=by
 obtain⟨a,b,c,d,p,q,rfl⟩:=zmo hn;obtain⟨a',b',c',d',p',q',rfl⟩:=zmo hm;exact ztj w 9997 a b c d p q a' b' c' d' p' q'
theorem zo8 (w:World)(e:Bool)(n:List Int)(hn:n.length=6):(Instr.checkKey e 10000 222 (zb5 n)).run Tryz.prog w=.ok () w:=by
 obtain⟨a,b,c,d,p,q,rfl⟩:=zmo hn;show (Instr.checkKey e (9997+3) 222 (nv a b c d p q)).run Tryz.prog w=.ok () w
 unfold nv;have c1:∀k v,(Instr.checkKey e (k+1) 3 v).run Tryz.prog w=.ok () w:=fun k v=>by simp[Instr.checkKey,run_underlying Tryz.underlying3]
 have q0:=fun x y:Int=>zbp w #[.int .i64 x,.int .i64 y] 0 _ rfl;have q1:=fun x y:Int=>zbp w #[.int .i64 x,.int .i64 y] 1 _ rfl;have hz:=zgr w Tryz.intSz;have c2:∀x y:Int,(Instr.checkKey e (9997+2) 73 (.agg #[.int .i64 x,.int .i64 y])).run Tryz.prog w=.ok () w:=fun x y=>by
  rw[Instr.checkKey];simp only[Sem.run_bind,run_underlying Tryz.underlying73,Result.andThen_ok];simp[Std.Legacy.Range.forIn_eq_forIn_range',Std.Legacy.Range.size,List.range',c1,q0,q1,hz]
 have p0:=fun a b c e p q:Int=>zbp w #[.int .i64 a,.int .i64 b,.int .i64 c,.int .i64 e,.int .i64 p,.int .i64 q] 0 _ rfl;have p1:=fun a b c e p q:Int=>zbp w #[.int .i64 a,.int .i64 b,.int .i64 c,.int .i64 e,.int .i64 p,.int .i64 q] 1 _ rfl;have p2:=fun a b c e p q:Int=>zbp w #[.int .i64 a,.int .i64 b,.int .i64 c,.int .i64 e,.int .i64 p,.int .i64 q] 2 _ rfl;have p3:=fun a b c e p q:Int=>zbp w #[.int .i64 a,.int .i64 b,.int .i64 c,.int .i64 e,.int .i64 p,.int .i64 q] 3 _ rfl;have p4:=fun a b c e p q:Int=>zk6 w #[.int .i64 a,.int .i64 b,.int .i64 c,.int .i64 e,.int .i64 p,.int .i64 q] 4;have x4:∀a b c e p q:Int,(#[.int .i64 a,.int .i64 b,.int .i64 c,.int .i64 e,.int .i64 p,.int .i64 q]:Array Value).extract 4 6=#[.int .i64 p,.int .i64 q]:=fun _ _ _ _ _ _=>rfl;simp only[Nat.reduceAdd,x4] at p4;rw[Instr.checkKey];simp only[Sem.run_bind,run_underlying Tryz.underlying222,Result.andThen_ok];simp only[Nat.reduceAdd] at c2;simp[c1,c2,p0,p1,p2,p3,p4]
structure NKeys (es:Array MapEntry)(Q:List (List Int)):Prop where
 keys:es.toList.map (·.key)=Q.map zb5
 vals:∀(i:Nat) (e:MapEntry),es.toList[i]?=some e→e.val=.int .i64 i
 six:∀n ∈ Q,n.length=6
theorem NKeys.nil:NKeys #[] []:=⟨rfl,by simp,by simp⟩
theorem NKeys.push {es:Array MapEntry}{Q:List (List Int)}(h:NKeys es Q){n:List Int}(hn:n.length=6)(c:Nat):NKeys (es.push { key:=zb5 n,val:=.int .i64 (Q.length:Int),born:=c }) (Q++[n]):=by
 have hl:es.toList.length=Q.length:=by have:=congrArg List.length h.keys;simpa using this
 refine⟨?_,?_,?_⟩
 ·rw[Array.toList_push,List.map_append,h.keys,List.map_append];rfl
 ·intro i e he;rw[Array.toList_push] at he;by_cases z:i<es.toList.length
  ·rw[List.getElem?_append_left z] at he;exact h.vals i e he
  ·rw[List.getElem?_append_right (by omega)] at he;have hz:i - es.toList.length=0:=by
    apply Classical.byContradiction
    intro y;rw[List.getElem?_eq_none (by show 1≤_;omega)] at he
    cases he
   rw[hz] at he;simp at he
   rw[←he];have:i=Q.length:=by omega
   rw[this]
 ·intro m hm;rcases List.mem_append.1 hm with h1 | h1
  ·exact h.six m h1
  ·rw[List.mem_singleton.1 h1];exact hn
theorem zlk (w:World)(n:List Int)(hn:n.length=6):∀(es:List MapEntry) (Q:List (List Int)) (i:Nat),es.map (·.key)=Q.map zb5→(∀(j:Nat) (e:MapEntry),es[j]?=some e→e.val=.int .i64 (i+j:Nat))→(∀m ∈ Q,m.length=6) →
  (Instr.findAsking 222 (zb5 n) es i).run Tryz.prog w=.ok (if n ∈ Q then some (i+Q.idxOf n,.int .i64 (i+Q.idxOf n:Nat)) else none) w
 | [],Q,i,hk,_,_=>by
  have e:Q=[]:=by cases Q with | nil=>rfl | cons _ _=>simp at hk
  subst e;simp[Instr.findAsking]
 | e :: es,[],i,hk,_,_=>by simp at hk
 | e :: es,m :: Q,i,hk,hv,hs=>by
  simp only[List.map_cons,List.cons.injEq] at hk;have hq:=zxb w n m hn (hs m (List.mem_cons_self ..));by_cases h:n=m
  ·subst h;have hv0:=hv 0 e rfl;rw[Instr.findAsking,hk.1];simp[hq,hv0]
  ·have ih:=zlk w n hn es Q (i+1) hk.2 (fun j x hx=>by have h5:=hv (j+1) x (by simpa using hx);rw[h5,show i+(j+1)=i+1+j by omega]) (fun x hx=>hs x (List.mem_cons_of_mem _ hx));rw[Instr.findAsking,hk.1];simp only[Sem.run_bind,hq,Result.andThen_ok,h,decide_false];have hm:(n ∈ m :: Q)↔n ∈ Q:=by simp[h]
   have hi:(m :: Q).idxOf n=Q.idxOf n+1:=by rw[List.idxOf_cons,beq_false_of_ne (fun z=>h z.symm)];rfl
   by_cases hin:n ∈ Q
   ·rw[if_pos (hm.2 hin),hi];rw[if_pos hin] at ih;simp only[Bool.false_eq_true,if_false];rw[ih,show i+1+Q.idxOf n=i+(Q.idxOf n+1) by omega]
   ·rw[if_neg (fun z=>hin (hm.1 z))];rw[if_neg hin] at ih
    simpa using ih
theorem zlc (w:World)(n:List Int)(hn:n.length=6)(es:Array MapEntry)(Q:List (List Int))(h:NKeys es Q) :
  (Instr.findKey 222 (zb5 n) es.toList).run Tryz.prog w=.ok (if n ∈ Q then some (Q.idxOf n,.int .i64 (Q.idxOf n:Nat)) else none) w:=by
 have h1:=zlk w n hn es.toList Q 0 h.keys (fun j e he=>by rw[h.vals j e he,Nat.zero_add]) h.six;simp only[Nat.zero_add] at h1;have hu:=run_underlying (w:=w) Tryz.underlying222;cases hl:es.toList with
 | nil =>
  have e:Q=[]:=by have:=h.keys;rw[hl] at this;cases Q with | nil=>rfl | cons _ _=>simp at this
  subst e;simp[Instr.findKey,hu,Instr.findNow]
 | cons e l =>
  rw[hl] at h1;simp[Instr.findKey,hu,Instr.findNow,Instr.sameNow,h1]
theorem zlg (w:World)(m:Nat)(es:Array MapEntry)(c:Nat)(hm:w.heap[m]?=some (.map es c))(n:List Int)(hn:n.length=6)(Q:List (List Int))(h:NKeys es Q) :
  (Instr.lookup 153 (.map (some m)) (zb5 n) true).run Tryz.prog w=.ok (.tuple #[.int .i64 (if fnd Q n=-1 then 0 else fnd Q n),.bool (decide (fnd Q n≠-1))]) w:=by
 have h1:=zlc w n hn es Q h;have hc':∀e,(Instr.checkKey e 10000 222 (zb5 n)).run Tryz.prog w=.ok () w:=fun e=>zo8 w e n hn;have hg:(getObj m).run Tryz.prog w=.ok (.map es c) w:=by simp[getObj,Sem.run,hm]
 have hz:(Tryz.prog.info? 3).map (·.zero)=some (some (.int .i64 0)):=by kernel_rfl
 cases hq:Tryz.prog.info? 3 with
 | none=>rw[hq] at hz;simp at hz
 | some i =>
  rw[hq] at hz;have hz:i.zero=some (.int .i64 0):=by simpa using hz
  by_cases hin:n ∈ Q
  ·rw[if_pos hin] at h1;have hf:fnd Q n=(Q.idxOf n:Int):=by unfold fnd;rw[if_pos hin]
   have hn1:¬((Q.idxOf n:Nat):Int)=-1:=by omega
   simp[Instr.lookup,run_underlying Tryz.underlying153,hg,hc',h1,hf,hn1]
  ·rw[if_neg hin] at h1;have hf:fnd Q n=-1:=by unfold fnd;rw[if_neg hin]
   simp[Instr.lookup,run_underlying Tryz.underlying153,hg,hc',h1,hf,zeroValue,typeInfo,hq,hz]
theorem zvb (w:World)(m:Nat)(es:Array MapEntry)(c:Nat)(hm:w.heap[m]?=some (.map es c))(n:List Int)(hn:n.length=6)(Q:List (List Int))(h:NKeys es Q)(hf:fnd Q n=-1)(v:Value) :
  (Instr.mapUpdate 153 (.map (some m)) (zb5 n) v).run Tryz.prog w=.ok () { w with heap:=w.heap.setIfInBounds m (.map (es.push { key:=zb5 n,val:=v,born:=c }) (c+1)) }:=by
 have h1:=zlc w n hn es Q h;rw[if_neg (zrl hf)] at h1;have hc':∀e,(Instr.checkKey e 10000 222 (zb5 n)).run Tryz.prog w=.ok () w:=fun e=>zo8 w e n hn;have hg:(getObj m).run Tryz.prog w=.ok (.map es c) w:=by simp[getObj,Sem.run,hm]
 have hs:∀o,(setObj m o).run Tryz.prog w=.ok () { w with heap:=w.heap.setIfInBounds m o }:=fun o=>by simp[setObj,Sem.run,hm]
 simp[Instr.mapUpdate,run_underlying Tryz.underlying153,hg,hc',h1,hs]
end
section
open Go Go.RowKit
structure Ftp (S:Nat→Prop)(w w':World):Prop where
 os:w'.os=w.os
 tape:w'.tape=w.tape
 output:w'.output=w.output
 size:w.heap.size≤w'.heap.size
 block:∀k,k<w.heap.size→¬S k→w'.heap[k]?=w.heap[k]?
theorem Ftp.next {S S':Nat→Prop}{a b c:World}(h:Ftp S a b)(k:Ftp S' b c)(hs:∀x,x<a.heap.size→S' x→S x):Ftp S a c :=
 ⟨k.os.trans h.os,k.tape.trans h.tape,k.output.trans h.output,Nat.le_trans h.size k.size,fun i hi hn=>(k.block i (Nat.lt_of_lt_of_le hi h.size) (fun x=>hn (hs i hi x))).trans (h.block i hi hn)⟩
theorem Ftp.of_below {S:Nat→Prop}{w w':World}(h:Below w.heap.size w w'):Ftp S w w':=⟨h.os,h.tape,h.output,h.size,fun k hk _=>h.block k hk⟩
theorem Ftp.blk {S:Nat→Prop}{w w':World}{B:Nat}{c:List Value}{t:TypeId}(h:Ftp S w w')(hb:Blk w B c t)(hn:¬S B):Blk w' B c t:=by unfold Blk;rw[h.block B hb.lt hn];exact hb
theorem zs6 {S:Nat→Prop}{w w':World}{B:Nat}{c:List Value}{t:TypeId}(W:WroteB w w' B c t)(hS:S B):Ftp S w w':=by
 have h:=W.below (B0:=0) (a:=w) (Nat.zero_le _) (Below.refl _ _);exact⟨h.os,h.tape,h.output,h.size,fun k _ hn=>W.other k (fun e=>hn (e ▸ hS))⟩
def zda (R:List Ty):List Value:=R.flatMap Ty.vs
theorem zk7 (R:List Ty):(zda R).length=R.length*5:=by
 induction R with
 | nil=>rfl
 | cons t R ih=>unfold zda at *;rw[List.flatMap_cons,List.length_append,ih,List.length_cons];show 5+_=_;omega
theorem zp1 (R:List Ty)(t:Ty):zda (R++[t])=zda R++t.vs:=by unfold zda;rw[List.flatMap_append];simp
structure Pw (w0:World)(n:Strs)(g:Grid)(p m:Nat)(v:Value)(es:Array MapEntry)(c:Nat)(Q:List (List Int))(R:List Ty)(w:World):Prop where
 bl:Below w0.heap.size w0 w
 blk:Blk w p [.slice n.ao n.len n.cap,.slice g.ao g.len g.cap,v,.map (some m)] 155
 mp:w.heap[m]?=some (.map es c)
 ks:NKeys es Q
 good:Good n.len R Q
 own:w.ownsRow w0.heap.size 38 5 v R.length (zda R)
 at_:∀t ∈ R,t.At w0
 lp:w0.heap.size≤p
 lm:w0.heap.size≤m
def PS (p m:Nat)(v:Value):Nat→Prop:=fun b=>b=p∨b=m∨v.ownBlock=some b
theorem Pw.ge {w0 w:World}{n:Strs}{g:Grid}{p m:Nat}{v:Value}{es:Array MapEntry}{c:Nat}{Q:List (List Int)}{R:List Ty}(h:Pw w0 n g p m v es c Q R w){x:Nat}(hx:PS p m v x):w0.heap.size≤x∧x<w.heap.size:=by
 rcases hx with rfl | rfl | hx
 ·exact⟨h.lp,h.blk.lt⟩
 ·exact⟨h.lm,(Array.getElem?_eq_some_iff.1 h.mp).1⟩
 ·exact owb h.own hx
theorem Pw.npm {w0 w:World}{n:Strs}{g:Grid}{p m:Nat}{v:Value}{es:Array MapEntry}{c:Nat}{Q:List (List Int)}{R:List Ty}(h:Pw w0 n g p m v es c Q R w):p≠m:=by
 intro e;have h1:=h.blk;have h2:=h.mp;unfold Blk at h1;rw[e,h2] at h1;cases h1
theorem zh3 {w:World}{base:Nat}{e:TypeId}{size:Nat}{v:Value}{k:Nat}{xs:List Value}(h:w.ownsRow base e size v k xs){b:Nat}(hb:v.ownBlock=some b):∃cur,w.heap[b]?=some (.cells cur e (0,0)):=by
 obtain⟨_,⟨rfl,_⟩ | ⟨gg,cap,cur,rfl,_,hh,_⟩⟩:=h
 ·cases hb
 ·have:gg=b:=by simpa [Value.ownBlock] using hb
  subst this;exact⟨cur,hh⟩
theorem Pw.nvm {w0 w:World}{n:Strs}{g:Grid}{p m:Nat}{v:Value}{es:Array MapEntry}{c:Nat}{Q:List (List Int)}{R:List Ty}(h:Pw w0 n g p m v es c Q R w):v.ownBlock≠some m:=by
 intro e;obtain⟨cur,h1⟩:=zh3 h.own e;rw[h.mp] at h1;cases h1
theorem ze8 {w w':World}{base:Nat}{e:TypeId}{size:Nat}{v:Value}{k:Nat}{xs:List Value}(h:w.ownsRow base e size v k xs)(ag:∀b,v.ownBlock=some b→w'.heap[b]?=w.heap[b]?):w'.ownsRow base e size v k xs:=by
 obtain⟨h1,h2⟩:=h;refine⟨h1,?_⟩;rcases h2 with h2 | ⟨gg,cap,cur,hv,hg,hh,r⟩
 ·exact Or.inl h2
 ·exact Or.inr ⟨gg,cap,cur,hv,hg,(ag gg (by rw[hv];rfl)).trans hh,r⟩
theorem Pw.agree {w0 w w':World}{n:Strs}{g:Grid}{p m:Nat}{v:Value}{es:Array MapEntry}{c:Nat}{Q:List (List Int)}{R:List Ty}(h:Pw w0 n g p m v es c Q R w)(hb:Below w0.heap.size w0 w')(ag:∀x,PS p m v x→w'.heap[x]?=w.heap[x]?):Pw w0 n g p m v es c Q R w' :=
 ⟨hb,by unfold Blk;rw[ag p (Or.inl rfl)];exact h.blk,(ag m (Or.inr (Or.inl rfl))).trans h.mp,h.ks,h.good,ze8 h.own (fun b hb=>ag b (Or.inr (Or.inr hb))),h.at_,h.lp,h.lm⟩
theorem Pw.kept {w0 w w':World}{n:Strs}{g:Grid}{p m:Nat}{v:Value}{es:Array MapEntry}{c:Nat}{Q:List (List Int)}{R:List Ty}(h:Pw w0 n g p m v es c Q R w)(hb:Below w.heap.size w w'):Pw w0 n g p m v es c Q R w' :=
 h.agree (Below.next h.bl hb) (fun x hx=>hb.block x (h.ge hx).2)
def Pl (w0:World)(n:Strs)(g:Grid)(p:Nat)(S:Nat→Prop)(R:List Ty)(w:World):Prop:=∃m v es c Q,Pw w0 n g p m v es c Q R w∧S=PS p m v
theorem Pl.kept {w0 w w':World}{n:Strs}{g:Grid}{p:Nat}{S:Nat→Prop}{R:List Ty}(h:Pl w0 n g p S R w)(hb:Below w.heap.size w w'):Pl w0 n g p S R w':=by
 obtain⟨m,v,es,c,Q,h1,h2⟩:=h;exact⟨m,v,es,c,Q,h1.kept hb,h2⟩
theorem Pl.ge {w0 w:World}{n:Strs}{g:Grid}{p:Nat}{S:Nat→Prop}{R:List Ty}(h:Pl w0 n g p S R w){x:Nat}(hx:S x):w0.heap.size≤x∧x<w.heap.size:=by
 obtain⟨m,v,es,c,Q,h1,rfl⟩:=h;exact h1.ge hx
theorem Pl.bl {w0 w:World}{n:Strs}{g:Grid}{p:Nat}{S:Nat→Prop}{R:List Ty}(h:Pl w0 n g p S R w):Below w0.heap.size w0 w:=by
 obtain⟨m,v,es,c,Q,h1,rfl⟩:=h;exact h1.bl
theorem Pl.agree {w0 w w':World}{n:Strs}{g:Grid}{p:Nat}{S:Nat→Prop}{R:List Ty}(h:Pl w0 n g p S R w)(hb:Below w0.heap.size w0 w')(ag:∀x,S x→w'.heap[x]?=w.heap[x]?):Pl w0 n g p S R w':=by
 obtain⟨m,v,es,c,Q,h1,rfl⟩:=h;exact⟨m,v,es,c,Q,h1.agree hb ag,rfl⟩
structure Pg (w0:World)(n:Strs)(g:Grid)(p:Nat)(S:Nat→Prop)(w:World)(S':Nat→Prop)(R':List Ty)(w':World):Prop where
 pl:Pl w0 n g p S' R' w'
 ft:Ftp S w w'
 ss:∀x,x<w.heap.size→S' x→S x
theorem Pg.of {w0 w w':World}{n:Strs}{g:Grid}{p:Nat}{S:Nat→Prop}{R:List Ty}(h:Pl w0 n g p S R w)(hb:Below w.heap.size w w'):Pg w0 n g p S w S R w':=⟨h.kept hb,Ftp.of_below hb,fun _ _ h=>h⟩
theorem Pg.ahead {w0 w w1 w2:World}{n:Strs}{g:Grid}{p:Nat}{S S':Nat→Prop}{R':List Ty}(hb:Below w.heap.size w w1)(h:Pg w0 n g p S w1 S' R' w2):Pg w0 n g p S w S' R' w2 :=
 ⟨h.pl,(Ftp.of_below (S:=S) hb).next h.ft (fun _ _ x=>x),fun x hx=>h.ss x (Nat.lt_of_lt_of_le hx hb.size)⟩
theorem Pg.trans {w0 w w1 w2:World}{n:Strs}{g:Grid}{p:Nat}{S S1 S2:Nat→Prop}{R1 R2:List Ty}(h:Pg w0 n g p S w S1 R1 w1)(k:Pg w0 n g p S1 w1 S2 R2 w2):Pg w0 n g p S w S2 R2 w2 :=
 ⟨k.pl,h.ft.next k.ft h.ss,fun x hx h2=>h.ss x hx (k.ss x (Nat.lt_of_lt_of_le hx h.ft.size) h2)⟩
theorem Pg.kept {w0 w w1 w2:World}{n:Strs}{g:Grid}{p:Nat}{S S':Nat→Prop}{R':List Ty}(h:Pg w0 n g p S w S' R' w1)(hb:Below w1.heap.size w1 w2):Pg w0 n g p S w S' R' w2:=h.trans (Pg.of h.pl hb)
theorem Pg.wrote {w0 w w1 w2:World}{n:Strs}{g:Grid}{p:Nat}{S S':Nat→Prop}{R':List Ty}{B:Nat}{c:List Value}{t:TypeId}(h:Pg w0 n g p S w S' R' w1)(W:WroteB w1 w2 B c t)(hn:¬S' B)(hB:w.heap.size≤B)(h0:w0.heap.size≤w.heap.size):Pg w0 n g p S w S' R' w2 :=
 ⟨h.pl.agree (W.below (Nat.le_trans h0 hB) h.pl.bl) (fun x hx=>W.other x (fun e=>hn (e ▸ hx))),h.ft.next (zs6 (S:=fun b=>b=B) W rfl) (fun x hx e=>absurd hx (by rw[e];omega)),h.ss⟩
theorem Pg.blk {w0 w w1:World}{n:Strs}{g:Grid}{p:Nat}{S S':Nat→Prop}{R':List Ty}(h:Pg w0 n g p S w S' R' w1){B:Nat}{c:List Value}{t:TypeId}(hb:Blk w B c t)(hn:¬S B):Blk w1 B c t∧¬S' B :=
 ⟨h.ft.blk hb hn,fun x=>hn (h.ss B hb.lt x)⟩
theorem zcv {w:World}{B:Nat}{c:List Value}{t:TypeId}(h:Blk w B c t){i:Nat}(v:Value):WroteB w (w.setCell ⟨B,i,none⟩ v) B (c.set i v) t:=by
 refine⟨?_,fun b hb=>Below.heap_setCell _ _ _ _ hb,by simp[World.setCell],fun hB hb=>hb.setCell hB v⟩;have e:(c.toArray.setIfInBounds i v)=(c.set i v).toArray:=by simp
 unfold Blk at h ⊢;rw[←e];simp[World.setCell,Array.getElem?_modify,h]
theorem zn9 {T:TypeId}{d:TypeDesc}{fn:Func}{tmps:Array Value}{k B:Nat}{vs:List Value}{w:World}(hu:Tryz.prog.underlying T=some d)(hd:d.isRow=true)(hi:(Tryz.prog.info? T).map (·.size)=some vs.length)(hf:fn.results=#[.cell k T])(ht:tmps.getD k undef=.pointer (some ⟨B,0,none⟩))(h:w.rangeAt B 0 vs):(results fn tmps).run Tryz.prog w=.ok (.agg vs.toArray) w:=by
 have h:(loadVar T ⟨B,0,none⟩).run Tryz.prog w=.ok (.agg vs.toArray) w:=run_loadAt_mid w B 0 T vs d h hu hd hi;have ha:(asAddr (tmps[k]?.getD undef)).run Tryz.prog w=.ok ⟨B,0,none⟩ w:=by rw[show tmps[k]?.getD undef=.pointer (some ⟨B,0,none⟩) by simpa using ht];rfl
 unfold results;rw[hf];simp[ha,h]
theorem Pw.wrote {w0 w w':World}{n:Strs}{g:Grid}{p m:Nat}{v:Value}{es:Array MapEntry}{c:Nat}{Q:List (List Int)}{R:List Ty}(h:Pw w0 n g p m v es c Q R w){B:Nat}{cs:List Value}{t:TypeId}(W:WroteB w w' B cs t)(hn:¬PS p m v B)(h0:w0.heap.size≤B):Pw w0 n g p m v es c Q R w' :=
 h.agree (W.below h0 h.bl) (fun x hx=>W.other x (fun e=>hn (e ▸ hx)))
theorem zjt (t:Ty)(w:World):Calls Tryz.prog 227 #[.agg #[.int .i64 t.k,.int .i64 t.l,.slice t.ao t.len t.cap,.int .i64 t.h,.int .i64 t.e]] w fun e w'=>e=.returned (.agg #[.int .i64 t.k,.int .i64 t.l,.int .i64 t.h,.int .i64 t.e,.int .i64 (-1),.int .i64 (-1)])∧Below w.heap.size w w':=by
 have X0:=Bx.new w t;have B0:=zac w (.cells #[.int .i64 t.k,.int .i64 t.l,.slice t.ao t.len t.cap,.int .i64 t.h,.int .i64 t.e] 38);have x0:=X0.c0;have x1:=X0.c1;have x3:=X0.c3;have x4:=X0.c4;clear X0;go_enter Tryz.func227,Tryz.ntmps227
 go_wp2;have bN:=Blk.new (w.alloc (.cells #[.int .i64 t.k,.int .i64 t.l,.slice t.ao t.len t.cap,.int .i64 t.h,.int .i64 t.e] 38)) [.int .i64 t.k,.int .i64 t.l,.int .i64 t.h,.int .i64 t.e,.int .i64 (-1),.int .i64 (-1)] 222;rw[alloc_size] at bN;exact bodyPost_ret (v:=.agg #[.int .i64 t.k,.int .i64 t.l,.int .i64 t.h,.int .i64 t.e,.int .i64 (-1),.int .i64 (-1)]) (zn9 Tryz.underlying222 rfl (by kernel_rfl) Tryz.results227 rfl bN.range) rfl ⟨rfl,Below.next B0 (zac _ _)⟩
theorem zn0 {w0:World}{n:Strs}{g:Grid}{p m:Nat}{v:Value}{es:Array MapEntry}{c:Nat}{Q:List (List Int)}{R:List Ty}:∀(t:Ty) (d:Nat) (w:World),d≤7→t.At w→Pw w0 n g p m v es c Q R w →
  Calls Tryz.prog 226 #[.pointer (some ⟨p,0,none⟩),.agg #[.int .i64 t.k,.int .i64 t.l,.slice t.ao t.len t.cap,.int .i64 t.h,.int .i64 t.e],.int .i64 d] w fun e w'=>e=.returned (.int .i64 (plc Q t d))∧Below w.heap.size w w':=by
 intro t
 induction t with
 | dm=>intro d w _ hAt;exact hAt.elim
 | mk k l h e ao b o len cap ps ih =>
  intro d w hd hAt hP;show Calls Tryz.prog 226 #[.pointer (some ⟨p,0,none⟩),.agg #[.int .i64 k,.int .i64 l,.slice ao len cap,.int .i64 h,.int .i64 e],.int .i64 d] w fun r w'=>r=.returned (.int .i64 (plc Q (.mk k l h e ao b o len cap ps) d))∧Below w.heap.size w w'
  have X0:=Bx.new w (.mk k l h e ao b o len cap ps);have B0:=zac w (.cells #[.int .i64 k,.int .i64 l,.slice ao len cap,.int .i64 h,.int .i64 e] 38);have hb:len≤9223372036854775807:=hAt.bound;have hnil:0<len→ao=some ⟨b,o,none⟩:=hAt.nil;have x0:=X0.c0;have x1:=X0.c1;have x2:=X0.c2;have x3:=X0.c3;have x4:=X0.c4;simp only[Ty.k,Ty.l,Ty.h,Ty.e,Ty.ao,Ty.len,Ty.cap] at x0 x1 x2 x3 x4;have HS:=hyd (show Ty.At (w.alloc (.cells #[.int .i64 k,.int .i64 l,.slice ao len cap,.int .i64 h,.int .i64 e] 38)) (.mk k l h e ao b o len cap ps)∧Below w.heap.size w (w.alloc (.cells #[.int .i64 k,.int .i64 l,.slice ao len cap,.int .i64 h,.int .i64 e] 38))∧Pw w0 n g p m v es c Q R (w.alloc (.cells #[.int .i64 k,.int .i64 l,.slice ao len cap,.int .i64 h,.int .i64 e] 38))∧Bx (w.alloc (.cells #[.int .i64 k,.int .i64 l,.slice ao len cap,.int .i64 h,.int .i64 e] 38)) w.heap.size (.mk k l h e ao b o len cap ps) from ⟨hAt.kept B0,B0,hP.kept B0,X0⟩);have HA0:=hyd hAt;clear X0 B0 hAt hP;by_cases h1:6<d
  ·have d1:decide ((6:Int)<d)=true:=by simp;omega
   have HE:Hid (plc Q (.mk k l h e ao b o len cap ps) d=-1):=by show _=_;rw[plc,if_pos (Or.inl h1)]
   go_enter Tryz.func226,Tryz.ntmps226
   go_wp2;go_ret;exact⟨zau HE.out.symm,HS.out.2.1⟩
  have d1:decide ((6:Int)<d)=false:=by simp;omega
  by_cases h2:2<len
  ·have d2:decide ((2:Int)<len)=true:=by simp;omega
   have HE:Hid (plc Q (.mk k l h e ao b o len cap ps) d=-1):=by show _=_;rw[plc,if_pos (Or.inr h2)]
   go_enter Tryz.func226,Tryz.ntmps226
   go_wp2;go_ret;exact⟨zau HE.out.symm,HS.out.2.1⟩
  have d2:decide ((2:Int)<len)=false:=by simp;omega
  have HPL:Hid (plc Q (.mk k l h e ao b o len cap ps) d=if 0<len∧plc Q (ps 0) (d+1)=-1 then -1 else if 1<len∧plc Q (ps 1) (d+1)=-1 then -1 else fnd Q [k,l,h,e,if 0<len then plc Q (ps 0) (d+1) else -1,if 1<len then plc Q (ps 1) (d+1) else -1]):=by show _=_;rw[plc,if_neg (by omega)]
  generalize plc Q (.mk k l h e ao b o len cap ps) d=ANS at HPL ⊢;have hN:=zjt (.mk k l h e ao b o len cap ps) (w.alloc (.cells #[.int .i64 k,.int .i64 l,.slice ao len cap,.int .i64 h,.int .i64 e] 38));simp only[Ty.k,Ty.l,Ty.h,Ty.e,Ty.ao,Ty.len,Ty.cap] at hN;go_enter Tryz.func226,Tryz.ntmps226
  go_wp2_with fail
  refine hN.mono ?_;rintro _ w2 ⟨rfl,hb2⟩;have bN:=Blk.new w2 [.int .i64 k,.int .i64 l,.int .i64 h,.int .i64 e,.int .i64 (-1),.int .i64 (-1)] 222;have B3:=Below.next hb2 (zac w2 (.cells #[.int .i64 k,.int .i64 l,.int .i64 h,.int .i64 e,.int .i64 (-1),.int .i64 (-1)] 222));have y2:=up B3 x2;have HS2:=hyd (show Ty.At (w2.alloc (.cells #[.int .i64 k,.int .i64 l,.int .i64 h,.int .i64 e,.int .i64 (-1),.int .i64 (-1)] 222)) (.mk k l h e ao b o len cap ps)∧Below w.heap.size w (w2.alloc (.cells #[.int .i64 k,.int .i64 l,.int .i64 h,.int .i64 e,.int .i64 (-1),.int .i64 (-1)] 222))∧Pw w0 n g p m v es c Q R (w2.alloc (.cells #[.int .i64 k,.int .i64 l,.int .i64 h,.int .i64 e,.int .i64 (-1),.int .i64 (-1)] 222))∧Blk (w2.alloc (.cells #[.int .i64 k,.int .i64 l,.int .i64 h,.int .i64 e,.int .i64 (-1),.int .i64 (-1)] 222)) w2.heap.size [.int .i64 k,.int .i64 l,.int .i64 h,.int .i64 e,.int .i64 (-1),.int .i64 (-1)] 222∧¬PS p m v w2.heap.size∧w0.heap.size≤w2.heap.size∧w.heap.size≤w2.heap.size from ⟨HS.out.1.kept B3,Below.next HS.out.2.1 B3,HS.out.2.2.1.kept B3,bN,fun hx=>absurd ((HS.out.2.2.1.kept hb2).ge hx).2 (Nat.lt_irrefl _),(HS.out.2.2.1.kept hb2).bl.size,(Below.next HS.out.2.1 hb2).size⟩);clear hN bN B3 x0 x1 x2 x3 x4 HS;go_wp2;clear y2 hb2;generalize w2.heap.size=B at *;go_loopw [25] (fun i wr=>∃(j:Nat),j≤len∧i=.int .i64 j∧Below w.heap.size w wr∧Pw w0 n g p m v es c Q R wr∧Blk wr B [.int .i64 k,.int .i64 l,.int .i64 h,.int .i64 e,.int .i64 (if 0<j then plc Q (ps 0) (d+1) else -1),.int .i64 (if 1<j then plc Q (ps 1) (d+1) else -1)] 222∧(∀i,i<j→plc Q (ps i) (d+1)≠-1)) (fun i _=>len - (intOf i).toNat)
  case atStart=>exact⟨0,Nat.zero_le _,rfl,HS2.out.2.1,HS2.out.2.2.1,HS2.out.2.2.2.1,fun i hi=>absurd hi (Nat.not_lt_zero _)⟩
  case round =>
   obtain⟨j,hj,rfl,hBl,hPw,hBk,hne⟩:=hrel;have hA:=HA0.out.kept hBl;have HB:=hyd (show ¬PS p m v B∧w0.heap.size≤B∧w.heap.size≤B from HS2.out.2.2.2.2);have HN:=hyd hne;clear HS2 hne;by_cases hlt:j<len
   ·have ij:(j:Int)<len:=by omega
    have a0:=hnil (by omega);subst a0;have C:C5 wr b (o+j*5) (ps j):=hA.cells hlt;have P:(ps j).At wr:=hA.part hlt;have X0:=Bx.new wr (ps j);have B0:=zac wr (.cells #[.int .i64 (ps j).k,.int .i64 (ps j).l,.slice (ps j).ao (ps j).len (ps j).cap,.int .i64 (ps j).h,.int .i64 (ps j).e] 38);have HI:=hyd (show Below w.heap.size w wr∧Pw w0 n g p m v es c Q R wr∧Blk wr B _ 222 from ⟨hBl,hPw,hBk⟩);have y0:=C.c0;have y1:=C.c1;have y2:=C.c2;have y3:=C.c3;have y4:=C.c4;have hC:=ih j (d+1) _ (by omega) (P.kept B0) (hPw.kept B0);have hcd:((d+1:Nat):Int)=(d:Int)+1:=by omega
    rw[hcd] at hC;clear hA C hBl hPw hBk hcd;go_wp2_with fail
    refine hC.mono ?_;rintro r w5 ⟨rfl,hb5⟩;have B5:=Below.next B0 hb5;have HJ:=hyd (show Below w.heap.size w w5∧Pw w0 n g p m v es c Q R w5∧Blk w5 B _ 222 from ⟨Below.next HI.out.1 B5,HI.out.2.1.kept B5,HI.out.2.2.kept B5⟩);clear hC HI X0 B0 y0 y1 y2 y3 y4 hb5 P B5;have hj2:j=0∨j=1:=by omega
    rcases hj2 with rfl | rfl
    ·have hJ:=HJ.out.2.2;rw[if_neg (by decide),if_neg (by decide)] at hJ;have z4:=hJ.cell 4 rfl;have f4:=hJ.frozen 4;have W6:=zcv (i:=4) hJ (.int .i64 (plc Q (ps 0) (d+1)));have z6:=W6.blk.cell 4 rfl;have HW:=hyd (show Below w.heap.size w (w5.setCell ⟨B,4,none⟩ (.int .i64 (plc Q (ps 0) (d+1))))∧Pw w0 n g p m v es c Q R (w5.setCell ⟨B,4,none⟩ (.int .i64 (plc Q (ps 0) (d+1))))∧Blk (w5.setCell ⟨B,4,none⟩ (.int .i64 (plc Q (ps 0) (d+1)))) B [.int .i64 k,.int .i64 l,.int .i64 h,.int .i64 e,.int .i64 (plc Q (ps 0) (d+1)),.int .i64 (-1)] 222 from ⟨W6.below HB.out.2.2 HJ.out.1,HJ.out.2.1.wrote W6 HB.out.1 HB.out.2.1,W6.blk⟩);clear HJ W6 hJ;generalize hq:plc Q (ps 0) (d+1)=q at *;have HQ:=hyd hq;clear hq;by_cases q1:q=-1
     ·subst q1;have HE:Hid (ANS=-1):=by show _=_;rw[HPL.out,if_pos ⟨by omega,rfl⟩]
      go_wp2;go_ret;exact⟨zau HE.out.symm,HW.out.1⟩
     ·have HE:Hid (∀i,i<1→plc Q (ps i) (d+1)≠-1):=fun i hi=>by
       rcases Nat.lt_or_ge i 0 with h2 | h2
       ·exact HN.out i h2
       ·have:i=0:=by omega
        subst this;rw[HQ.out];exact q1
      go_wp2;go_roundw
      case rel=>exact⟨1,by omega,rfl,HW.out.1,HW.out.2.1,by show Blk _ B [.int .i64 k,.int .i64 l,.int .i64 h,.int .i64 e,.int .i64 (if 0<1 then plc Q (ps 0) (d+1) else -1),.int .i64 (if 1<1 then plc Q (ps 1) (d+1) else -1)] _;rw[if_pos (by decide),if_neg (by decide),HQ.out];exact HW.out.2.2,HE.out⟩
      case measure=>simp[intOf];omega
    ·have hJ:=HJ.out.2.2;rw[if_pos (by decide),if_neg (by decide)] at hJ;have z4:=hJ.cell 5 rfl;have f4:=hJ.frozen 5;have W6:=zcv (i:=5) hJ (.int .i64 (plc Q (ps 1) (d+1)));have z6:=W6.blk.cell 5 rfl;have HW:=hyd (show Below w.heap.size w (w5.setCell ⟨B,5,none⟩ (.int .i64 (plc Q (ps 1) (d+1))))∧Pw w0 n g p m v es c Q R (w5.setCell ⟨B,5,none⟩ (.int .i64 (plc Q (ps 1) (d+1))))∧Blk (w5.setCell ⟨B,5,none⟩ (.int .i64 (plc Q (ps 1) (d+1)))) B [.int .i64 k,.int .i64 l,.int .i64 h,.int .i64 e,.int .i64 (plc Q (ps 0) (d+1)),.int .i64 (plc Q (ps 1) (d+1))] 222 from ⟨W6.below HB.out.2.2 HJ.out.1,HJ.out.2.1.wrote W6 HB.out.1 HB.out.2.1,W6.blk⟩);clear HJ W6 hJ;generalize hq:plc Q (ps 1) (d+1)=q at *;have HQ:=hyd hq;clear hq;by_cases q1:q=-1
     ·subst q1;have HE:Hid (ANS=-1):=by show _=_;rw[HPL.out,if_neg (fun z=>HN.out 0 (by omega) z.2),if_pos ⟨by omega,rfl⟩]
      go_wp2;go_ret;exact⟨zau HE.out.symm,HW.out.1⟩
     ·have HE:Hid (∀i,i<2→plc Q (ps i) (d+1)≠-1):=fun i hi=>by
       rcases Nat.lt_or_ge i 1 with h2 | h2
       ·exact HN.out i h2
       ·have:i=1:=by omega
        subst this;rw[HQ.out];exact q1
      go_wp2;go_roundw
      case rel=>exact⟨2,by omega,rfl,HW.out.1,HW.out.2.1,by show Blk _ B [.int .i64 k,.int .i64 l,.int .i64 h,.int .i64 e,.int .i64 (if 0<2 then plc Q (ps 0) (d+1) else -1),.int .i64 (if 1<2 then plc Q (ps 1) (d+1) else -1)] _;rw[if_pos (by decide),if_pos (by decide),HQ.out];exact HW.out.2.2,HE.out⟩
      case measure=>simp[intOf];omega
   ·have e2:j=len:=by omega
    subst e2;have dj:¬(j:Int)<j:=by omega
    have p3:=hPw.blk.cell 3 rfl;have k0:=hBk.cell 0 rfl;have k1:=hBk.cell 1 rfl;have k2:=hBk.cell 2 rfl;have k3:=hBk.cell 3 rfl;have k4:=hBk.cell 4 rfl;have k5:=hBk.cell 5 rfl;have HI:=hyd (show Below w.heap.size w wr∧Pw w0 n g p m v es c Q R wr from ⟨hBl,hPw⟩);generalize hx0:(if 0<j then plc Q (ps 0) (d+1) else -1)=x0 at *;generalize hx1:(if 1<j then plc Q (ps 1) (d+1) else -1)=x1 at *;have hL0:=fun q=>zlg (wr.drewN q) m es c hPw.mp [k,l,h,e,x0,x1] rfl Q hPw.ks;have HF:Hid (ANS=fnd Q [k,l,h,e,x0,x1]):=by
     show _=_
     rw[HPL.out,if_neg (fun z=>HN.out 0 z.1 z.2),if_neg (fun z=>HN.out 1 z.1 z.2)]
    generalize fnd Q [k,l,h,e,x0,x1]=F at *;have hL:∀q,(Instr.lookup 153 (.map (some m)) (.agg #[.int .i64 k,.int .i64 l,.int .i64 h,.int .i64 e,.int .i64 x0,.int .i64 x1]) true).run Tryz.prog (wr.drewN q)=.ok (.tuple #[.int .i64 (if F=-1 then 0 else F),.bool (decide (F≠-1))]) (wr.drewN q):=hL0;have HD:Hid (∀q,Below w.heap.size w (wr.drewN q)):=fun q=>zbv hBl q;clear hA hBl hPw hBk hL0 HI;by_cases hF:F=-1
    ·have hL2:∀q,(Instr.lookup 153 (.map (some m)) (.agg #[.int .i64 k,.int .i64 l,.int .i64 h,.int .i64 e,.int .i64 x0,.int .i64 x1]) true).run Tryz.prog (wr.drewN q)=.ok (.tuple #[.int .i64 0,.bool false]) (wr.drewN q):=fun q=>by rw[hL q,if_pos hF,decide_eq_false (fun z=>z hF)]
     have HF2:Hid (ANS=-1):=HF.out.trans hF;clear hL HF hF;go_upto_region 11 with fail
     go_quiet (fail)
     go_wp2;go_ret;exact⟨zau HF2.out.symm,HD.out _⟩
    ·have hL2:∀q,(Instr.lookup 153 (.map (some m)) (.agg #[.int .i64 k,.int .i64 l,.int .i64 h,.int .i64 e,.int .i64 x0,.int .i64 x1]) true).run Tryz.prog (wr.drewN q)=.ok (.tuple #[.int .i64 F,.bool true]) (wr.drewN q):=fun q=>by rw[hL q,if_neg hF,decide_eq_true hF]
     clear hL hF;go_upto_region 11 with fail
     go_quiet (fail)
     go_wp2;go_ret;exact⟨zau HF.out.symm,HD.out _⟩
theorem zqu {w0:World}{n:Strs}{g:Grid}{p m:Nat}{v:Value}{es:Array MapEntry}{c:Nat}{Q:List (List Int)}{R:List Ty}(t:Ty)(w:World)(ht:t.At w)(hP:Pw w0 n g p m v es c Q R w) :
  Calls Tryz.prog 204 #[.pointer (some ⟨p,0,none⟩),.agg #[.int .i64 t.k,.int .i64 t.l,.slice t.ao t.len t.cap,.int .i64 t.h,.int .i64 t.e]] w fun e w'=>e=.returned (.int .i64 (plc Q t 1))∧Below w.heap.size w w':=by
 have B0:=zac w (.cells #[.int .i64 t.k,.int .i64 t.l,.slice t.ao t.len t.cap,.int .i64 t.h,.int .i64 t.e] 38);have h:=zn0 t 1 _ (by omega) (ht.kept B0) (hP.kept B0);generalize plc Q t 1=F at *;go_enter Tryz.func204,Tryz.ntmps204
 go_wp2_with fail
 refine h.mono ?_;rintro r w1 ⟨rfl,hb1⟩;go_wp2;go_ret;exact⟨rfl,Below.next B0 hb1⟩
theorem zhd (t:TypeId):∀(vs pre mid rest:List Value) (w:World) (B:Nat),mid.length=vs.length→Blk w B (pre++(mid++rest)) t→Blk (w.setCells B pre.length vs) B (pre++(vs++rest)) t
 | [],pre,mid,rest,w,B,h,hb=>by
  have e:mid=[]:=List.eq_nil_of_length_eq_zero h;subst e;exact hb
 | v :: vs,pre,[],rest,w,B,h,hb=>by simp at h
 | v :: vs,pre,p :: mid,rest,w,B,h,hb=>by
  rw[World.setCells];have h1:Blk (w.setCell ⟨B,pre.length,none⟩ v) B ((pre++[v])++(mid++rest)) t:=by
   have hl:=hb.lt;unfold Blk at hb ⊢;have e:((pre++((p :: mid)++rest)).toArray.setIfInBounds pre.length v)=((pre++[v])++(mid++rest)).toArray:=by
    apply Array.toList_inj.1
    simp
   rw[←e];simp[World.setCell,Array.getElem?_modify,hb]
  have k:=zhd t vs (pre++[v]) mid rest _ B (by simpa using h) h1;rw[show (pre++[v]).length=pre.length+1 by simp] at k
  simpa using k
theorem znr {w:World}{base:Nat}{e:TypeId}{size:Nat}{v:Value}{n:Nat}{xs zs vs:List Value}(h:w.ownsRow base e size v (n+1) (xs++zs))(hx:xs.length=n*size)(hz:zs.length=size)(hv:vs.length=size) :
  ∃g cap,v=.slice (some ⟨g,0,none⟩) (n+1) cap∧base≤g∧(w.setCells g (n*size) vs).ownsRow base e size v (n+1) (xs++vs)∧w.there g (n*size) size:=by
 obtain⟨h0,⟨_,h1⟩ | ⟨g,cap,cur,hv1,hg,hh,hc,hm,hs,ht⟩⟩:=h
 ·omega
 have hd:cur.toList=xs++(zs++cur.toList.drop ((n+1)*size)):=by
  have:=List.take_append_drop ((n+1)*size) cur.toList;rw[ht,List.append_assoc] at this;exact this.symm
 have hb:Blk w g (xs++(zs++cur.toList.drop ((n+1)*size))) e:=by
  unfold Blk;rw[hh,←hd]
 have hk:=zhd e vs xs zs (cur.toList.drop ((n+1)*size)) w g (by omega) hb;rw[hx] at hk;have hcs:(n+1)*size≤cur.size:=by rw[hs];exact Nat.mul_le_mul_right _ hc
 refine⟨g,cap,hv1,hg,⟨by rw[List.length_append,hx,hv,Nat.add_mul,Nat.one_mul],Or.inr ⟨g,cap,_,hv1,hg,hk,hc,hm,?_,?_⟩⟩,fun j hj=>⟨?_,hb.frozen _⟩⟩
 ·simp only[List.size_toArray,List.length_append,List.length_drop,Array.length_toList,hx,hv];have:(n+1)*size=n*size+size:=by rw[Nat.add_mul,Nat.one_mul]
  omega
 ·have e1:(n+1)*size=(xs++vs).length:=by rw[List.length_append,hx,hv,Nat.add_mul,Nat.one_mul]
  show List.take ((n+1)*size) (xs++(vs++_))=xs++vs
  rw[←List.append_assoc,e1,List.take_left]
 ·have:(xs++(zs++cur.toList.drop ((n+1)*size)))[n*size+j]?=some zs[j]:=by
   rw[List.getElem?_append_right (by omega),hx,show n*size+j - n*size=j by omega,List.getElem?_append_left (by omega)];exact List.getElem?_eq_getElem (by omega)
  rw[hb.cell _ this];rfl
structure Pu (w0:World)(n:Strs)(g:Grid)(p:Nat)(S:Nat→Prop)(w:World)(m:Nat)(v:Value)(es:Array MapEntry)(c:Nat)(Q:List (List Int))(R:List Ty)(A:Nat)(tv:List Value)(B:Nat)(nd:List Value)(q:World):Prop where
 pw:Pw w0 n g p m v es c Q R q
 ft:Ftp S w q
 ss:∀x,x<w.heap.size→PS p m v x→S x
 bA:Blk q A tv 38
 bB:Blk q B nd 222
 nA:¬PS p m v A
 nB:¬PS p m v B
 gA:w.heap.size≤A
 gB:w.heap.size≤B
 g0:w0.heap.size≤w.heap.size
theorem Pu.kept {w0:World}{n:Strs}{g:Grid}{p:Nat}{S:Nat→Prop}{w:World}{m:Nat}{v:Value}{es:Array MapEntry}{c:Nat}{Q:List (List Int)}{R:List Ty}{A:Nat}{tv:List Value}{B:Nat}{nd:List Value}{q q':World}(h:Pu w0 n g p S w m v es c Q R A tv B nd q)(hb:Below q.heap.size q q'):Pu w0 n g p S w m v es c Q R A tv B nd q' :=
 ⟨h.pw.kept hb,h.ft.next (Ftp.of_below (S:=fun _=>False) hb) (fun _ _ x=>x.elim),h.ss,h.bA.kept hb,h.bB.kept hb,h.nA,h.nB,h.gA,h.gB,h.g0⟩
structure Pv (w0:World)(n:Strs)(g:Grid)(p:Nat)(S:Nat→Prop)(w:World)(m:Nat)(v:Value)(es:Array MapEntry)(c:Nat)(R:List Ty)(A:Nat)(tv:List Value)(q:World):Prop where
 bl:Below w0.heap.size w0 q
 blk:Blk q p [.slice n.ao n.len n.cap,.slice g.ao g.len g.cap,v,.map (some m)] 155
 mp:q.heap[m]?=some (.map es c)
 own:q.ownsRow w0.heap.size 38 5 v R.length (zda R)
 ft:Ftp S w q
 ss:∀x,x<w.heap.size→PS p m v x→S x
 bA:Blk q A tv 38
 nA:¬PS p m v A
 gA:w.heap.size≤A
 lp:w0.heap.size≤p
 lm:w0.heap.size≤m
 npm:p≠m
theorem Pv.kept {w0:World}{n:Strs}{g:Grid}{p:Nat}{S:Nat→Prop}{w:World}{m:Nat}{v:Value}{es:Array MapEntry}{c:Nat}{R:List Ty}{A:Nat}{tv:List Value}{q q':World}(h:Pv w0 n g p S w m v es c R A tv q)(hb:Below q.heap.size q q'):Pv w0 n g p S w m v es c R A tv q' :=
 ⟨Below.next h.bl hb,h.blk.kept hb,by rw[hb.block m (Array.getElem?_eq_some_iff.1 h.mp).1];exact h.mp,owk h.own hb,h.ft.next (Ftp.of_below (S:=fun _=>False) hb) (fun _ _ x=>x.elim),h.ss,h.bA.kept hb,h.nA,h.gA,h.lp,h.lm,h.npm⟩
theorem Pu.upd {w0:World}{n:Strs}{g:Grid}{p:Nat}{S:Nat→Prop}{w:World}{m:Nat}{v:Value}{es:Array MapEntry}{c:Nat}{Q:List (List Int)}{R:List Ty}{A:Nat}{tv:List Value}{B:Nat}{nd:List Value}{q:World}(h:Pu w0 n g p S w m v es c Q R A tv B nd q)(es':Array MapEntry)(c':Nat) :
  Pv w0 n g p S w m v es' c' R A tv { q with heap:=q.heap.setIfInBounds m (.map es' c') }:=by
 have hm:=(Array.getElem?_eq_some_iff.1 h.pw.mp).1;have oth:∀b,b≠m→({ q with heap:=q.heap.setIfInBounds m (.map es' c') }:World).heap[b]?=q.heap[b]?:=fun b hb=>by
  show (q.heap.setIfInBounds m (.map es' c'))[b]?=q.heap[b]?
  rw[Array.getElem?_setIfInBounds,if_neg (fun e=>hb e.symm)]
 refine⟨⟨h.pw.bl.os,h.pw.bl.tape,h.pw.bl.output,by simpa using h.pw.bl.size,fun k hk=>?_⟩,?_,?_,ze8 h.pw.own (fun b hb=>oth b (fun e=>h.pw.nvm (e ▸ hb))),⟨h.ft.os,h.ft.tape,h.ft.output,by simpa using h.ft.size,fun k hk hn=>?_⟩,h.ss,?_,h.nA,h.gA,h.pw.lp,h.pw.lm,h.pw.npm⟩
 ·rw[oth k (by have:=h.pw.lm;omega)];exact h.pw.bl.block k hk
 ·unfold Blk;rw[oth p h.pw.npm];exact h.pw.blk
 ·show (q.heap.setIfInBounds m (.map es' c'))[m]?=_
  simp[hm]
 ·rw[oth k (fun e=>hn (h.ss k hk (e ▸ Or.inr (Or.inl rfl))))];exact h.ft.block k hk hn
 ·unfold Blk;rw[oth A (fun e=>h.nA (Or.inr (Or.inl e)))];exact h.bA
def PutR (w0:World)(n:Strs)(g:Grid)(p:Nat)(S:Nat→Prop)(w:World)(t:Ty)(R:List Ty)(e:Ending)(w':World):Prop :=
 ∃(i:Nat) (S':Nat→Prop),e=.returned (.int .i64 i)∧(∃s,(putT t R)[i]?=some s∧s.same t=true)∧Pg w0 n g p S w S' (putT t R) w'
theorem Pv.done {w0:World}{n:Strs}{g:Grid}{p:Nat}{S:Nat→Prop}{w:World}{m:Nat}{v v':Value}{es:Array MapEntry}{c:Nat}{Q:List (List Int)}{R:List Ty}{t:Ty}{A:Nat}{tv:List Value}{q q':World}(h:Pv w0 n g p S w m v es c R A tv q)(hk:NKeys es Q)(hg:Good n.len (R++[t]) Q)(hat:∀s ∈ R++[t],s.At w0)
  (hbl:Below w0.heap.size w0 q') (hp:Blk q' p [.slice n.ao n.len n.cap,.slice g.ao g.len g.cap,v',.map (some m)] 155) (hm:q'.heap[m]?=q.heap[m]?) (ho:q'.ownsRow w0.heap.size 38 5 v' (R++[t]).length (zda (R++[t])))
  (hf:Ftp (PS p m v) q q') (hv:∀b,v'.ownBlock=some b→v.ownBlock=some b∨q.heap.size≤b):∃S',Pg w0 n g p S w S' (R++[t]) q':=by
 refine⟨PS p m v',⟨m,v',es,c,Q,⟨hbl,hp,hm.trans h.mp,hk,hg,ho,hat,h.lp,h.lm⟩,rfl⟩,h.ft.next hf h.ss,fun x hx hs=>h.ss x hx ?_⟩;rcases hs with e | e | e
 ·exact Or.inl e
 ·exact Or.inr (Or.inl e)
 ·rcases hv x e with e | e
  ·exact Or.inr (Or.inr e)
  ·have:=h.ft.size;omega
end
end Go.Proofs.YtfobijdkoeifjaaGreatDoor
