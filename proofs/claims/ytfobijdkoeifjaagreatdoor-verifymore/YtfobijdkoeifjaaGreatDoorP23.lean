import Derived.Test.YtfobijdkoeifjaaGreatDoorP8
import Derived.Test.YtfobijdkoeifjaaGreatDoorP21
set_option maxRecDepth 100000
set_option maxHeartbeats 32000000
namespace Go.Proofs.YtfobijdkoeifjaaGreatDoor
section
open Go Go.RowKit
def putO (a:Act)(d:Nat)(o:Option Value):Act:=match o with | none=>a | some v=>a.put (some d) v
theorem zt4 (a:Act){c d:Nat}(h:c≠d)(v v':Value):(a.put (some c) v).put (some d) v'=(a.put (some d) v').put (some c) v:=by
 show ({ a with tmps:=(a.tmps.setIfInBounds c v).setIfInBounds d v' }:Act)={ a with tmps:=(a.tmps.setIfInBounds d v').setIfInBounds c v }
 rw[Array.setIfInBounds_comm _ _ h]
theorem zjf (a:Act){c d:Nat}(h:c≠d)(o:Option Value)(v:Value):(putO a c o).put (some d) v=putO (a.put (some d) v) c o:=by
 cases o with
 | none=>rfl
 | some u=>exact zt4 a h u v
def ptA (B:Nat):Value:=.pointer (some ⟨B,0,none⟩)
section
variable {P:Program} {ops:Array Oper} {Q:Exit→Act→World→Prop} {S:World→Prop}
def putL:List Nat→List Value→Act→Act
 | d :: ds,v :: vs,a=>putL ds vs (a.put (some d) v)
 | _,_,a=>a
theorem zvb:∀(ds:List Nat) (a:Act),putL ds [] a=a
 | [],_=>rfl
 | _ :: _,_=>rfl
theorem zk2:∀(ds:List Nat) (vs:List Value) (a:Act) (d:Nat) (v:Value),ds[vs.length]?=some d→putL ds (vs++[v]) a=(putL ds vs a).put (some d) v
 | [],vs,_,_,_,h=>by simp at h
 | d0 :: ds,[],a,d,v,h=>by
  have e:d0=d:=by simpa using h
  subst e;show putL ds [] (a.put (some d0) v)=_
  rw[zvb];rfl
 | d0 :: ds,v0 :: vs,a,d,v,h=>zk2 ds vs (a.put (some d0) v0) d v (by simpa using h)
def Fr (ds:List Nat)(e1 e2:Nat)(a:Act)(vs:List Value)(q1 q2:Option Nat):Act:=putO (putO (putL ds vs a) e1 (q1.map ptA)) e2 (q2.map ptA)
def setB (b:Bool)(i:Nat)(l:Array Bool):Array Bool:=if b then l.setIfInBounds i true else l
def Lst (cis:List Nat)(i1 i2:Nat)(l:Array Bool)(k:Nat)(b1 b2:Bool):Array Bool:=setB b2 i2 (setB b1 i1 ((cis.take k).foldl (fun l i=>l.setIfInBounds i true) l))
theorem zhm {b:Bool}{i c:Nat}{l:Array Bool}(h:c≠i):(setB b i l).setIfInBounds c true=setB b i (l.setIfInBounds c true):=by
 cases b
 ·rfl
 ·exact Array.setIfInBounds_comm _ _ (fun e=>h e.symm)
theorem zu6 {cis:List Nat}{i1 i2 c:Nat}{l:Array Bool}{k:Nat}{b1 b2:Bool}(hc:cis[k]?=some c)(h1:c≠i1)(h2:c≠i2):(Lst cis i1 i2 l k b1 b2).setIfInBounds c true=Lst cis i1 i2 l (k+1) b1 b2:=by
 unfold Lst;rw[zhm h2,zhm h1];have e:cis.take (k+1)=cis.take k++[c]:=by
  rw[List.take_add_one,hc];rfl
 rw[e,List.foldl_append];rfl
theorem Lst_a1 {cis:List Nat}{i1 i2:Nat}{l:Array Bool}{k:Nat}{b2:Bool}(h:i1≠i2):(Lst cis i1 i2 l k false b2).setIfInBounds i1 true=Lst cis i1 i2 l k true b2:=by
 unfold Lst;rw[zhm h];rfl
def Rdy (cis:List Nat)(i1 i2:Nat)(k:Nat)(b1 b2:Bool):List Nat:=((cis.drop k).take 1++(if b1 then [] else [i1]))++(if b2 then [] else [i2])
def znv (ops:Array Oper)(cis:List Nat)(i1 i2:Nat)(l:Array Bool):Bool :=
 (List.range (cis.length+1)).all fun k=>[false,true].all fun b1=>[false,true].all fun b2=>(decide (k=cis.length)&&b1&&b2)||Region.ready .any ops (Lst cis i1 i2 l k b1 b2)==Rdy cis i1 i2 k b1 b2
theorem zs2 {cis:List Nat}{i1 i2:Nat}{l:Array Bool}(h:znv ops cis i1 i2 l=true){k:Nat}(hk:k≤cis.length)(b1 b2:Bool)(hn:¬(k=cis.length∧b1=true∧b2=true)):Region.ready .any ops (Lst cis i1 i2 l k b1 b2)=Rdy cis i1 i2 k b1 b2:=by
 unfold znv at h;rw[List.all_eq_true] at h;have h1:=h k (List.mem_range.2 (by omega));rw[List.all_eq_true] at h1;have h2:=h1 b1 (by cases b1 <;> simp)
 rw[List.all_eq_true] at h2;have h3:=h2 b2 (by cases b2 <;> simp)
 rw[Bool.or_eq_true] at h3;rcases h3 with h3 | h3
 ·simp only[Bool.and_eq_true,decide_eq_true_eq] at h3;exact absurd ⟨h3.1.1,h3.1.2,h3.2⟩ hn
 ·exact eq_of_beq h3
theorem zhh {fuel:Nat}{listed:Array Bool}{a:Act}{w:World}{i:Nat}{o:Oper}(ho:ops[i]?=some o)(hg:o.guard=none)
  (h:∀K':Act→World→Prop,(∀a w,S w→wpAnyH P .any ops Q S fuel (listed.setIfInBounds i true) a w→K' a w)→Oper.wp P o a w K' Q):wpOp P ops Q i (fun a' w'=>S w'∧wpAnyH P .any ops Q S fuel (listed.setIfInBounds i true) a' w') a w :=
 (AllReadyH.cons (rs:=[]) ho (fun K' hK=>by rw[if_pos (zs8 hg)];exact h K' (fun a w hS hW=>hK.out a w hS (fun _=>hW))) AllReadyH.nil) i (by simp)
def callB (ops:Array Oper)(i1 i2 e1 e2:Nat)(c d:Nat):Bool:=(match ops[c]? with | some oc=>oc.guard.isNone&&decide (oc.dst=some d) | none=>false)&&(decide (d≠e1)&&decide (d≠e2)&&decide (c≠i1)&&decide (c≠i2))
def zjr (ops:Array Oper)(i e:Nat)(ty:TypeId):Bool:=match ops[i]? with | some o=>o.guard.isNone&&decide (o.dst=some e)&&(match o.op with | .alloc t=>decide (t=ty) | _=>false) | none=>false
def zpa (ops:Array Oper)(cis ds:List Nat)(i1 i2 e1 e2:Nat)(ty:TypeId)(l:Array Bool):Bool :=
 (decide (ds.length=cis.length)&&(List.zip cis ds).all (fun p=>callB ops i1 i2 e1 e2 p.1 p.2))&&(zjr ops i1 e1 ty&&zjr ops i2 e2 ty)&&(decide (i1≠i2)&&decide (e1≠e2))&&znv ops cis i1 i2 l
theorem zjp {i e:Nat}{ty:TypeId}(h:zjr ops i e ty=true):∃o,ops[i]?=some o∧o.guard=none∧o.dst=some e∧o.op=.alloc ty:=by
 unfold zjr at h;split at h
 ·rename_i o ho
  simp only[Bool.and_eq_true,decide_eq_true_eq,Option.isNone_iff_eq_none] at h;refine⟨o,ho,h.1.1,h.1.2,?_⟩;have h2:=h.2;split at h2
  ·rename_i t ht
   rw[ht,of_decide_eq_true h2]
  ·cases h2
 ·cases h
theorem zq0 {cis ds:List Nat}{i1 i2 e1 e2:Nat}(hl:ds.length=cis.length)(h:(List.zip cis ds).all (fun p=>callB ops i1 i2 e1 e2 p.1 p.2)=true){k c:Nat}(hc:cis[k]?=some c):∃oc d,ops[c]?=some oc∧oc.guard=none∧ds[k]?=some d∧oc.dst=some d∧d≠e1∧d≠e2∧c≠i1∧c≠i2:=by
 have hk:k<cis.length:=(List.getElem?_eq_some_iff.1 hc).1;have hd:ds[k]?=some (ds[k]'(by omega)):=List.getElem?_eq_getElem _;generalize ds[k]'(by omega)=d at hd;have hz:(List.zip cis ds)[k]?=some (c,d):=by rw[List.getElem?_zip_eq_some];exact⟨hc,hd⟩
 have hm:=List.all_eq_true.1 h _ (List.mem_of_getElem? hz);unfold callB at hm;simp only[Bool.and_eq_true,decide_eq_true_eq] at hm;obtain⟨h1,⟨⟨h2,h3⟩,h4⟩,h5⟩:=hm;split at h1
 ·rename_i oc ho
  simp only[Bool.and_eq_true,decide_eq_true_eq,Option.isNone_iff_eq_none] at h1;exact⟨oc,d,ho,h1.1,hd,h1.2,h2,h3,h4,h5⟩
 ·cases h1
theorem ze9 (cis ds:List Nat)(i1 i2 e1 e2:Nat)(ty:TypeId)(zs:List Value)(l:Array Bool)(hok:zpa ops cis ds i1 i2 e1 e2 ty l=true)(hal:∀u:World,(Instr.alloc ty true (.tuple #[])).run P u=.ok (.pointer (some ⟨u.heap.size,0,none⟩)) (u.alloc (.cells zs.toArray ty)))(a:Act)(base fuel:Nat)(Inv:List Value→World→Prop)
  (hS:∀vs w,Inv vs w→S w) (hI:∀vs w,Inv vs w→Inv vs (w.alloc (.cells zs.toArray ty))∧base≤w.heap.size)
  (hC:∀vs (c:Nat) oc w q1 q2,cis[vs.length]?=some c→ops[c]?=some oc→Inv vs w→∃f args,(execOp (Fr ds e1 e2 a vs q1 q2).eval oc).run P w=.ok (.enter f args) w∧Calls P f args w fun e w'=>∃v,e=.returned v∧Inv (vs++[v]) w'∧w.heap.size≤w'.heap.size∧∀b,base≤b→b<w.heap.size→w'.heap[b]?=w.heap[b]?)
  (hF:∀vs B1 B2 w,vs.length=cis.length→Inv vs w→Blk w B1 zs ty→Blk w B2 zs ty→base≤B1→base≤B2→B1≠B2→wpAnyH P .any ops Q S fuel (Lst cis i1 i2 l cis.length true true) (Fr ds e1 e2 a vs (some B1) (some B2)) w) :
  ∀(n:Nat) (vs:List Value) (q1 q2:Option Nat) (w:World),n=(cis.length - vs.length)+(if q1.isSome then 0 else 1)+(if q2.isSome then 0 else 1)→vs.length≤cis.length→Inv vs w→(∀B,q1=some B→Blk w B zs ty∧base≤B)→(∀B,q2=some B→Blk w B zs ty∧base≤B)→(∀B,q1=some B→q2≠some B)→wpAnyH P .any ops Q S (n+fuel) (Lst cis i1 i2 l vs.length q1.isSome q2.isSome) (Fr ds e1 e2 a vs q1 q2) w:=by
 simp only[zpa,Bool.and_eq_true,decide_eq_true_eq] at hok;obtain⟨⟨⟨⟨hl0,hcb⟩,ha1,ha2⟩,hie,hee⟩,hfb⟩:=hok;obtain⟨o1,ho1,hg1,hd1',hp1⟩:=zjp ha1;obtain⟨o2,ho2,hg2,hd2',hp2⟩:=zjp ha2;intro n
 induction n with
 | zero =>
  intro vs q1 q2 w hn hl hi h1 h2 hne;cases q1 with
  | none=>simp only[Option.isSome_none,Bool.false_eq_true,if_false] at hn;omega
  | some B1 =>
   cases q2 with
   | none=>simp only[Option.isSome_none,Bool.false_eq_true,if_false] at hn;omega
   | some B2 =>
    have e:vs.length=cis.length:=by simp at hn;omega
    rw[Nat.zero_add,e];exact hF vs B1 B2 w e hi (h1 B1 rfl).1 (h2 B2 rfl).1 (h1 B1 rfl).2 (h2 B2 rfl).2 (fun e=>hne B1 rfl (by rw[e]))
 | succ n ih =>
  intro vs q1 q2 w hn hl hi h1 h2 hne;have hr:=zs2 hfb hl q1.isSome q2.isSome (fun ⟨x,y,z⟩=>by rw[y,z,x] at hn;simp at hn)
  rw[show n+1+fuel=n+fuel+1 by omega];have hne0:Rdy cis i1 i2 vs.length q1.isSome q2.isSome≠[]:=by
   unfold Rdy;intro e;simp only[List.append_eq_nil_iff] at e;obtain⟨⟨e1,e2⟩,e3⟩:=e;have y:q1.isSome=true:=by cases h:q1.isSome <;> simp[h] at e2 ⊢
   have z:q2.isSome=true:=by cases h:q2.isSome <;> simp[h] at e3 ⊢
   have x:cis.length≤vs.length:=by
    rcases Nat.lt_or_ge vs.length cis.length with hlt | hge
    ·exfalso
     have:=congrArg List.length e1;simp at this
     omega
    ·exact hge
   rw[y,z] at hn;simp at hn
   omega
  refine wpAnyH_ready hr hne0 ?_;intro i hi';unfold Rdy at hi';rcases List.mem_append.1 hi' with hi' | hi'
  ·rcases List.mem_append.1 hi' with hi' | hi'
   ·-- the call
    have hlt:vs.length<cis.length:=by
     rcases Nat.lt_or_ge vs.length cis.length with h | h
     ·exact h
     ·rw[List.drop_eq_nil_of_le h] at hi';simp at hi'
    have hc:cis[vs.length]?=some (cis[vs.length]):=List.getElem?_eq_getElem hlt;generalize cis[vs.length]=c at hc;obtain⟨oc,d,hoc2,hgd,hd,hdst,hd1,hd2,hc1,hc2⟩:=zq0 hl0 hcb hc;have ei:i=c:=by
     have h3:(cis.drop vs.length).take 1=[c]:=by
      rw[List.drop_eq_getElem_cons hlt];have:=List.getElem?_eq_getElem hlt;rw[hc] at this
      injection this with this
      rw[this];rfl
     rw[h3] at hi'
     simpa using hi'
    subst ei;refine zhh hoc2 hgd (fun K hK=>?_);obtain⟨f,args,hex,hcall⟩:=hC vs i oc w q1 q2 hc hoc2 hi;unfold Oper.wp;rw[hex,Oper.upon_enter];refine hcall.mono ?_;rintro e w' ⟨v,rfl,hi2,hsz,hkp⟩;have hk:∀B,Blk w B zs ty→base≤B→Blk w' B zs ty:=fun B hb hB=>by unfold Blk;rw[hkp B hB hb.lt];exact hb
    refine hK _ _ (hS _ _ hi2) ?_;rw[zu6 hc hc1 hc2,hdst];have ef:(Fr ds e1 e2 a vs q1 q2).put (some d) v=Fr ds e1 e2 a (vs++[v]) q1 q2:=by
     unfold Fr;rw[zjf _ (fun e=>hd2 e.symm),zjf _ (fun e=>hd1 e.symm),zk2 _ _ _ _ _ hd]
    rw[ef];have:=ih (vs++[v]) q1 q2 w' (by simp;omega) (by simp;omega) hi2 (fun B e=>⟨hk B (h1 B e).1 (h1 B e).2,(h1 B e).2⟩) (fun B e=>⟨hk B (h2 B e).1 (h2 B e).2,(h2 B e).2⟩) hne
    rw[List.length_append] at this;exact this
   ·-- the first variable
    cases q1 with
    | some B=>simp at hi'
    | none =>
     have ei:i=i1:=by simpa using hi'
     subst ei;refine zhh ho1 hg1 (fun K hK=>?_);unfold Oper.wp execOp;simp only[hp1,Sem.run_bind,hal,Result.andThen_ok,Sem.run_pure];have hb:=zac w (.cells zs.toArray ty);refine hK _ _ (hS _ _ (hI _ _ hi).1) ?_;rw[hd1'];have ef:(Fr ds e1 e2 a vs none q2).put (some e1) (.pointer (some ⟨w.heap.size,0,none⟩))=Fr ds e1 e2 a vs (some w.heap.size) q2:=by
      unfold Fr;rw[zjf _ (fun e=>hee e.symm)];rfl
     show wpAnyH P .any ops Q S (n+fuel) ((Lst cis i i2 l vs.length false q2.isSome).setIfInBounds i true) ((Fr ds e1 e2 a vs none q2).put (some e1) (.pointer (some ⟨w.heap.size,0,none⟩))) _
     rw[Lst_a1 hie,ef];exact ih vs (some w.heap.size) q2 _ (by simp at hn ⊢;omega) hl (hI _ _ hi).1 (fun B e=>by injection e with e;subst e;exact⟨Blk.new w zs ty,(hI _ _ hi).2⟩) (fun B e=>⟨(h2 B e).1.kept hb,(h2 B e).2⟩) (fun B e e'=>by injection e with e;have:=(h2 B e').1.lt;omega)
  ·-- the second
   cases q2 with
   | some B=>simp at hi'
   | none =>
    have ei:i=i2:=by simpa using hi'
    subst ei;refine zhh ho2 hg2 (fun K hK=>?_);unfold Oper.wp execOp;simp only[hp2,Sem.run_bind,hal,Result.andThen_ok,Sem.run_pure];have hb:=zac w (.cells zs.toArray ty);refine hK _ _ (hS _ _ (hI _ _ hi).1) ?_;rw[hd2'];exact ih vs q1 (some w.heap.size) _ (by simp at hn ⊢;omega) hl (hI _ _ hi).1 (fun B e=>⟨(h1 B e).1.kept hb,(h1 B e).2⟩) (fun B e=>by injection e with e;subst e;exact⟨Blk.new w zs ty,(hI _ _ hi).2⟩) (fun B e e'=>by injection e' with e';have:=(h1 B e).1.lt;omega)
end
structure Ln (f:Cf)(g:Rw Bool)(l:Cf):Prop where
 cd:l.cd=f.cd
 han:∀p:Nat,p<f.cd.len→f.rs g p=true→l.han p=f.han p
theorem Ln.rs {f l:Cf}{g:Rw Bool}(h:Ln f g l)(p:Nat):l.rs g p=f.rs g p:=by unfold Cf.rs;rw[h.cd]
theorem Ln.lv {f l:Cf}{g:Rw Bool}(h:Ln f g l){p:Nat}(hp:p<f.cd.len):l.lv g p=f.lv g p:=by
 unfold Cf.lv;rw[h.cd,h.rs];cases e:f.rs g p
 ·rfl
 ·rw[h.han p hp e]
theorem Ln.way {f l:Cf}{g:Rw Bool}(h:Ln f g l){p:Nat}(hp:p<f.cd.len):l.way g p=f.way g p:=by
 funext q;apply propext
 unfold Cf.way Cf.wayH;rw[h.cd,h.rs];cases e:f.rs g p
 ·simp
 ·rw[h.han p hp e]
theorem Ln.ws {f l:Cf}{g:Rw Bool}(h:Ln f g l){p:Nat}(hp:p<f.cd.len):l.ws g p=f.ws g p:=by
 have e:l.wayH g (l.han p) p=f.wayH g (f.han p) p:=h.way hp;unfold Cf.ws Cf.wsH;rw[e,h.cd]
def hitH (h:Hn)(p:Int):Bool:=decide (h.fr≤p)&&decide (p<h.tw_)
def fndH (F:Nat→Hn)(m:Nat)(p:Int):Option Int:=((List.range m).find? fun i=>hitH (F i) p).map fun i=>(F i).at_
theorem zrv (F:Nat→Hn)(p:Int):fndH F 0 p=none:=rfl
theorem fndH_succ (F:Nat→Hn)(m:Nat)(p:Int):fndH F (m+1) p=match fndH F m p with | some a=>some a | none=>if hitH (F m) p=true then some (F m).at_ else none:=by
 unfold fndH;rw[List.range_succ,List.find?_append];cases (List.range m).find? fun i=>hitH (F i) p with
 | some i=>rfl
 | none =>
  simp only[Option.none_or,Option.map_none];cases hh:hitH (F m) p <;> simp[hh]
theorem han_fnd (f:Cf)(p:Int):f.han p=(fndH f.hd.x f.hd.len p).getD (-1):=by
 unfold Cf.han fndH;show (match (List.range f.hd.len).find? (fun i=>hitH (f.hd.x i) p) with | some i=>(f.hd.x i).at_ | none=>-1)=_
 cases (List.range f.hd.len).find? (fun i=>hitH (f.hd.x i) p) <;> rfl
def updH (F:Nat→Hn)(m:Nat)(h:Hn):Nat→Hn:=fun i=>if i<m then F i else h
theorem zmq (F:Nat→Hn)(m:Nat)(h:Hn)(p:Int):∀k,k≤m→fndH (updH F m h) k p=fndH F k p
 | 0,_=>rfl
 | k+1,hk=>by
  rw[fndH_succ,fndH_succ,zmq F m h p k (by omega)];have:updH F m h k=F k:=by unfold updH;rw[if_pos (by omega)]
  rw[this]
def LnI (f:Cf)(g:Rw Bool)(i m:Nat)(F:Nat→Hn):Prop:=∀p:Nat,p<f.cd.len→f.rs g p=true→fndH F m p=fndH f.hd.x i p
theorem LnI.start (f:Cf)(g:Rw Bool)(F:Nat→Hn):LnI f g 0 0 F:=fun _ _ _=>rfl
theorem LnI.keep {f:Cf}{g:Rw Bool}{i m:Nat}{F:Nat→Hn}(h:LnI f g i m F):LnI f g (i+1) (m+1) (updH F m (f.hd.x i)):=fun p hp hr=>by
 rw[fndH_succ,fndH_succ,zmq F m _ _ m (Nat.le_refl _),h p hp hr];have:updH F m (f.hd.x i) m=f.hd.x i:=by unfold updH;rw[if_neg (by omega)]
 rw[this]
def Cf.opn (f:Cf)(g:Rw Bool)(i:Nat)(p:Nat):Bool:=f.rs g p&&(fndH f.hd.x i p).isNone
theorem zuu (f:Cf)(g:Rw Bool):f.opn g 0=f.rs g:=by funext p;unfold Cf.opn;rw[zrv];simp
theorem zmr (f:Cf)(g:Rw Bool)(i p:Nat):f.opn g (i+1) p=(f.opn g i p&&!hitH (f.hd.x i) p):=by
 unfold Cf.opn;rw[fndH_succ];cases fndH f.hd.x i p with
 | some a=>simp
 | none=>cases hitH (f.hd.x i) p <;> simp
theorem LnI.skip {f:Cf}{g:Rw Bool}{i m:Nat}{F:Nat→Hn}(h:LnI f g i m F)(hn:∀p:Nat,p<f.cd.len→f.opn g i p=true→hitH (f.hd.x i) p=false):LnI f g (i+1) m F:=fun p hp hr=>by
 rw[h p hp hr,fndH_succ];cases e:fndH f.hd.x i p with
 | some a=>rfl
 | none =>
  have:=hn p hp (by unfold Cf.opn;rw[hr,e];rfl)
  simp[this]
theorem LnI.done {f l:Cf}{g:Rw Bool}{m:Nat}{F:Nat→Hn}(h:LnI f g f.hd.len m F)(hcd:l.cd=f.cd)(hm:l.hd.len=m)(hx:l.hd.x=F):Ln f g l:=⟨hcd,fun p hp hr=>by rw[han_fnd,han_fnd,hm,hx,h p hp hr]⟩
theorem zms (x:Int):∀l:List Int,l.Pairwise (·<·)→l.take (l.countP fun a=>decide (a<x))=l.filter fun a=>decide (a<x)
 | [],_=>rfl
 | a :: l,h=>by
  rw[List.pairwise_cons] at h;by_cases c:a<x
  ·rw[List.countP_cons_of_pos (by simpa using c),List.take_succ_cons,zms x l h.2,List.filter_cons_of_pos (by simpa using c)]
  ·have h0:l.countP (fun a=>decide (a<x))=0:=by
    rw[List.countP_eq_zero];intro b hb;have:=h.1 b hb;simp;omega
   have h1:l.filter (fun a=>decide (a<x))=[]:=by
    rw[List.filter_eq_nil_iff];intro b hb;have:=h.1 b hb;simp;omega
   rw[List.countP_cons_of_neg (by simpa using c),h0,List.filter_cons_of_neg (by simpa using c),h1];rfl
theorem znx (x:Int):∀l:List Int,l.Pairwise (·<·)→l.drop (l.countP fun a=>decide (a<x))=l.filter fun a=>decide (x≤a)
 | [],_=>rfl
 | a :: l,h=>by
  rw[List.pairwise_cons] at h;by_cases c:a<x
  ·rw[List.countP_cons_of_pos (by simpa using c),List.drop_succ_cons,znx x l h.2,List.filter_cons_of_neg (by simp;omega)]
  ·have h0:l.countP (fun a=>decide (a<x))=0:=by
    rw[List.countP_eq_zero];intro b hb;have:=h.1 b hb;simp;omega
   have h1:(a :: l).filter (fun a=>decide (x≤a))=a :: l:=by
    rw[List.filter_eq_self];intro b hb;rcases List.mem_cons.1 hb with e | e
    ·simp;omega
    ·have:=h.1 b e;simp;omega
   rw[List.countP_cons_of_neg (by simpa using c),h0,h1];rfl
theorem zna {x y:Int}(hxy:x≤y):∀l:List Int,l.Pairwise (·<·)→(l.filter fun a=>decide (a<x))++(l.filter fun a=>decide (y≤a))=l.filter fun a=>!(decide (x≤a)&&decide (a<y))
 | [],_=>rfl
 | a :: l,h=>by
  rw[List.pairwise_cons] at h;have ih:=zna hxy l h.2;by_cases c:a<x
  ·rw[List.filter_cons_of_pos (by simpa using c),List.filter_cons_of_neg (by simp;omega),List.filter_cons_of_pos (by simp;omega),←ih]
   rfl
  ·have h1:l.filter (fun a=>decide (a<x))=[]:=by
    rw[List.filter_eq_nil_iff];intro b hb;have:=h.1 b hb;simp;omega
   rw[h1,List.nil_append] at ih;rw[List.filter_cons_of_neg (by simpa using c),h1,List.nil_append];by_cases d:a<y
   ·rw[List.filter_cons_of_neg (by simp;omega),List.filter_cons_of_neg (by simp;omega),ih]
   ·rw[List.filter_cons_of_pos (by simp;omega),List.filter_cons_of_pos (by simp;omega),ih]
theorem zm8 {x y:Int}(hxy:x≤y)(l:List Int):(l.countP fun a=>decide (a<x))≤l.countP fun a=>decide (a<y):=List.countP_mono_left (fun a _ h=>by simp at h ⊢;omega)
theorem zks {x y:Int}:∀l:List Int,¬(l.countP fun a=>decide (a<x))<(l.countP fun a=>decide (a<y))→∀a ∈ l,(decide (x≤a)&&decide (a<y))=false
 | [],_,_,h=>by cases h
 | b :: l,hn,a,ha=>by
  rcases Int.lt_or_le x y with hxy | hxy
  ·have hm:=zm8 (Int.le_of_lt hxy) l;by_cases c:b<x
   ·rw[List.countP_cons_of_pos (by simpa using c),List.countP_cons_of_pos (by simp;omega)] at hn
    rcases List.mem_cons.1 ha with e | e
    ·subst e;simp;omega
    ·exact zks l (by omega) a e
   ·rw[List.countP_cons_of_neg (by simpa using c)] at hn;by_cases d:b<y
    ·rw[List.countP_cons_of_pos (by simpa using d)] at hn;omega
    ·rw[List.countP_cons_of_neg (by simpa using d)] at hn;rcases List.mem_cons.1 ha with e | e
     ·subst e;simp;omega
     ·exact zks l hn a e
  ·simp;omega
theorem cnt_lt {x y:Int}{l:List Int}(h:(l.countP fun a=>decide (a<x))<(l.countP fun a=>decide (a<y))):x≤y:=by
 rcases Int.lt_or_le y x with e | e
 ·have:=zm8 (Int.le_of_lt e) l;omega
 ·exact e
theorem zdy (m:Nat→Bool)(n:Nat):(trM m n).Pairwise (·<·):=by
 unfold trM;rw[List.pairwise_map];exact (List.Pairwise.filter _ List.pairwise_lt_range).imp (by intro a b h;omega)
theorem zpn (m:Nat→Bool)(n:Nat)(q:Int→Bool):(trM m n).filter q=trM (fun p=>m p&&q p) n:=by
 unfold trM;rw[List.filter_map,List.filter_filter]
 congr 1
 apply List.filter_congr
 intro p _;simp[Bool.and_comm]
theorem zwl {m:Nat→Bool}{n:Nat}{a:Int}:a ∈ trM m n↔∃p:Nat,a=p∧p<n∧m p=true:=by
 unfold trM;rw[List.mem_map]
 constructor
 ·rintro ⟨p,hp,rfl⟩;rw[List.mem_filter,List.mem_range] at hp;exact⟨p,rfl,hp⟩
 ·rintro ⟨p,rfl,h1,h2⟩;exact⟨p,List.mem_filter.2 ⟨List.mem_range.2 h1,h2⟩,rfl⟩
theorem zws {f:Cf}{g:Rw Bool}{i:Nat}(h:((trM (f.opn g i) f.cd.len).countP fun a=>decide (a<(f.hd.x i).fr))<((trM (f.opn g i) f.cd.len).countP fun a=>decide (a<(f.hd.x i).tw_))) :
  (trM (f.opn g i) f.cd.len).take ((trM (f.opn g i) f.cd.len).countP fun a=>decide (a<(f.hd.x i).fr))++(trM (f.opn g i) f.cd.len).drop ((trM (f.opn g i) f.cd.len).countP fun a=>decide (a<(f.hd.x i).tw_))=trM (f.opn g (i+1)) f.cd.len:=by
 rw[zms _ _ (zdy _ _),znx _ _ (zdy _ _),zna (cnt_lt h) _ (zdy _ _),zpn]
 congr 1
 funext p
 rw[zmr];rfl
theorem ztw {f:Cf}{g:Rw Bool}{i:Nat}(h:¬((trM (f.opn g i) f.cd.len).countP fun a=>decide (a<(f.hd.x i).fr))<((trM (f.opn g i) f.cd.len).countP fun a=>decide (a<(f.hd.x i).tw_))) :
  (∀p:Nat,p<f.cd.len→f.opn g i p=true→hitH (f.hd.x i) p=false)∧trM (f.opn g (i+1)) f.cd.len=trM (f.opn g i) f.cd.len:=by
 have key:∀p:Nat,p<f.cd.len→f.opn g i p=true→hitH (f.hd.x i) p=false:=fun p hp ho=>zks _ h p (zwl.2 ⟨p,rfl,hp,ho⟩);refine⟨key,?_⟩;unfold trM
 congr 1
 apply List.filter_congr
 intro p hp;rw[zmr];cases e:f.opn g i p
 ·rfl
 ·rw[key p (List.mem_range.1 hp) e];rfl
end
end Go.Proofs.YtfobijdkoeifjaaGreatDoor
