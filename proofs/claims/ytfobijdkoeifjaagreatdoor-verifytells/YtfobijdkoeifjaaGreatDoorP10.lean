import Derived.Test.YtfobijdkoeifjaaGreatDoorP9
set_option maxRecDepth 100000
set_option maxHeartbeats 32000000
namespace Go.Proofs.YtfobijdkoeifjaaGreatDoor
section
open Go Go.RowKit
def putO (a:Act)(d:Nat)(o:Option Value):Act:=match o with | none=>a | some v=>a.put (some d) v
theorem zt4 (a:Act){c d:Nat}(h:c≠d)(v v':Value):(a.put (some c) v).put (some d) v'=(a.put (some d) v').put (some c) v:=by
 show ({ a with tmps:=(a.tmps.setIfInBounds c v).setIfInBounds d v' }:Act)={ a with tmps:=(a.tmps.setIfInBounds d v').setIfInBounds c v }
 rw[Array.setIfInBounds_comm _ _ h]
theorem zgq (a:Act){c d:Nat}(h:c≠d)(o:Option Value)(v:Value):(putO a c o).put (some d) v=putO (a.put (some d) v) c o:=by
 cases o with
 | none=>rfl
 | some u=>exact zt4 a h u v
def ptA (B:Nat):Value:=.pointer (some ⟨B,0,none⟩)
section
variable {P:Program} {ops:Array Oper} {Q:Exit→Act→World→Prop} {S:World→Prop}
def putL:List Nat→List Value→Act→Act
 | d :: ds,v :: vs,a=>putL ds vs (a.put (some d) v)
 | _,_,a=>a
theorem zvc:∀(ds:List Nat) (a:Act),putL ds [] a=a
 | [],_=>rfl
 | _ :: _,_=>rfl
theorem zks:∀(ds:List Nat) (vs:List Value) (a:Act) (d:Nat) (v:Value),ds[vs.length]?=some d→putL ds (vs++[v]) a=(putL ds vs a).put (some d) v
 | [],vs,_,_,_,h=>by simp at h
 | d0 :: ds,[],a,d,v,h=>by
  have e:d0=d:=by simpa using h
  subst e;show putL ds [] (a.put (some d0) v)=_
  rw[zvc];rfl
 | d0 :: ds,v0 :: vs,a,d,v,h=>zks ds vs (a.put (some d0) v0) d v (by simpa using h)
def Fr (ds:List Nat)(e1 e2:Nat)(a:Act)(vs:List Value)(q1 q2:Option Nat):Act:=putO (putO (putL ds vs a) e1 (q1.map ptA)) e2 (q2.map ptA)
def setB (b:Bool)(i:Nat)(l:Array Bool):Array Bool:=if b then l.setIfInBounds i true else l
def Lst (cis:List Nat)(i1 i2:Nat)(l:Array Bool)(k:Nat)(b1 b2:Bool):Array Bool:=setB b2 i2 (setB b1 i1 ((cis.take k).foldl (fun l i=>l.setIfInBounds i true) l))
theorem zfq {b:Bool}{i c:Nat}{l:Array Bool}(h:c≠i):(setB b i l).setIfInBounds c true=setB b i (l.setIfInBounds c true):=by
 cases b
 ·rfl
 ·exact Array.setIfInBounds_comm _ _ (fun e=>h e.symm)
theorem zu6 {cis:List Nat}{i1 i2 c:Nat}{l:Array Bool}{k:Nat}{b1 b2:Bool}(hc:cis[k]?=some c)(h1:c≠i1)(h2:c≠i2):(Lst cis i1 i2 l k b1 b2).setIfInBounds c true=Lst cis i1 i2 l (k+1) b1 b2:=by
 unfold Lst;rw[zfq h2,zfq h1];have e:cis.take (k+1)=cis.take k++[c]:=by
  rw[List.take_add_one,hc];rfl
 rw[e,List.foldl_append];rfl
theorem Lst_a1 {cis:List Nat}{i1 i2:Nat}{l:Array Bool}{k:Nat}{b2:Bool}(h:i1≠i2):(Lst cis i1 i2 l k false b2).setIfInBounds i1 true=Lst cis i1 i2 l k true b2:=by
 unfold Lst;rw[zfq h];rfl
def Rdy (cis:List Nat)(i1 i2:Nat)(k:Nat)(b1 b2:Bool):List Nat:=((cis.drop k).take 1++(if b1 then [] else [i1]))++(if b2 then [] else [i2])
def znk (ops:Array Oper)(cis:List Nat)(i1 i2:Nat)(l:Array Bool):Bool :=
 (List.range (cis.length+1)).all fun k=>[false,true].all fun b1=>[false,true].all fun b2=>(decide (k=cis.length)&&b1&&b2)||Region.ready .any ops (Lst cis i1 i2 l k b1 b2)==Rdy cis i1 i2 k b1 b2
theorem zs7 {cis:List Nat}{i1 i2:Nat}{l:Array Bool}(h:znk ops cis i1 i2 l=true){k:Nat}(hk:k≤cis.length)(b1 b2:Bool)(hn:¬(k=cis.length∧b1=true∧b2=true)):Region.ready .any ops (Lst cis i1 i2 l k b1 b2)=Rdy cis i1 i2 k b1 b2:=by
 unfold znk at h;rw[List.all_eq_true] at h;have h1:=h k (List.mem_range.2 (by omega));rw[List.all_eq_true] at h1;have h2:=h1 b1 (by cases b1 <;> simp)
 rw[List.all_eq_true] at h2;have h3:=h2 b2 (by cases b2 <;> simp)
 rw[Bool.or_eq_true] at h3;rcases h3 with h3 | h3
 ·simp only[Bool.and_eq_true,decide_eq_true_eq] at h3;exact absurd ⟨h3.1.1,h3.1.2,h3.2⟩ hn
 ·exact eq_of_beq h3
theorem zfn {fuel:Nat}{listed:Array Bool}{a:Act}{w:World}{i:Nat}{o:Oper}(ho:ops[i]?=some o)(hg:o.guard=none)
  (h:∀K':Act→World→Prop,(∀a w,S w→wpAnyH P .any ops Q S fuel (listed.setIfInBounds i true) a w→K' a w)→Oper.wp P o a w K' Q):wpOp P ops Q i (fun a' w'=>S w'∧wpAnyH P .any ops Q S fuel (listed.setIfInBounds i true) a' w') a w :=
 (AllReadyH.cons (rs:=[]) ho (fun K' hK=>by rw[if_pos (zls hg)];exact h K' (fun a w hS hW=>hK.out a w hS (fun _=>hW))) AllReadyH.nil) i (by simp)
def callB (ops:Array Oper)(i1 i2 e1 e2:Nat)(c d:Nat):Bool:=(match ops[c]? with | some oc=>oc.guard.isNone&&decide (oc.dst=some d) | none=>false)&&(decide (d≠e1)&&decide (d≠e2)&&decide (c≠i1)&&decide (c≠i2))
def zjo (ops:Array Oper)(i e:Nat)(ty:TypeId):Bool:=match ops[i]? with | some o=>o.guard.isNone&&decide (o.dst=some e)&&(match o.op with | .alloc t=>decide (t=ty) | _=>false) | none=>false
def zpa (ops:Array Oper)(cis ds:List Nat)(i1 i2 e1 e2:Nat)(ty:TypeId)(l:Array Bool):Bool :=
 (decide (ds.length=cis.length)&&(List.zip cis ds).all (fun p=>callB ops i1 i2 e1 e2 p.1 p.2))&&(zjo ops i1 e1 ty&&zjo ops i2 e2 ty)&&(decide (i1≠i2)&&decide (e1≠e2))&&znk ops cis i1 i2 l
theorem zjm {i e:Nat}{ty:TypeId}(h:zjo ops i e ty=true):∃o,ops[i]?=some o∧o.guard=none∧o.dst=some e∧o.op=.alloc ty:=by
 unfold zjo at h;split at h
 ·rename_i o ho
  simp only[Bool.and_eq_true,decide_eq_true_eq,Option.isNone_iff_eq_none] at h;refine⟨o,ho,h.1.1,h.1.2,?_⟩;have h2:=h.2;split at h2
  ·rename_i t ht
   rw[ht,of_decide_eq_true h2]
  ·cases h2
 ·cases h
theorem zq3 {cis ds:List Nat}{i1 i2 e1 e2:Nat}(hl:ds.length=cis.length)(h:(List.zip cis ds).all (fun p=>callB ops i1 i2 e1 e2 p.1 p.2)=true){k c:Nat}(hc:cis[k]?=some c):∃oc d,ops[c]?=some oc∧oc.guard=none∧ds[k]?=some d∧oc.dst=some d∧d≠e1∧d≠e2∧c≠i1∧c≠i2:=by
 have hk:k<cis.length:=(List.getElem?_eq_some_iff.1 hc).1;have hd:ds[k]?=some (ds[k]'(by omega)):=List.getElem?_eq_getElem _;generalize ds[k]'(by omega)=d at hd;have hz:(List.zip cis ds)[k]?=some (c,d):=by rw[List.getElem?_zip_eq_some];exact⟨hc,hd⟩
 have hm:=List.all_eq_true.1 h _ (List.mem_of_getElem? hz);unfold callB at hm;simp only[Bool.and_eq_true,decide_eq_true_eq] at hm;obtain⟨h1,⟨⟨h2,h3⟩,h4⟩,h5⟩:=hm;split at h1
 ·rename_i oc ho
  simp only[Bool.and_eq_true,decide_eq_true_eq,Option.isNone_iff_eq_none] at h1;exact⟨oc,d,ho,h1.1,hd,h1.2,h2,h3,h4,h5⟩
 ·cases h1
theorem ze7 (cis ds:List Nat)(i1 i2 e1 e2:Nat)(ty:TypeId)(zs:List Value)(l:Array Bool)(hok:zpa ops cis ds i1 i2 e1 e2 ty l=true)(hal:∀u:World,(Instr.alloc ty true (.tuple #[])).run P u=.ok (.pointer (some ⟨u.heap.size,0,none⟩)) (u.alloc (.cells zs.toArray ty)))(a:Act)(base fuel:Nat)(Inv:List Value→World→Prop)
  (hS:∀vs w,Inv vs w→S w) (hI:∀vs w,Inv vs w→Inv vs (w.alloc (.cells zs.toArray ty))∧base≤w.heap.size)
  (hC:∀vs (c:Nat) oc w q1 q2,cis[vs.length]?=some c→ops[c]?=some oc→Inv vs w→∃f args,(execOp (Fr ds e1 e2 a vs q1 q2).eval oc).run P w=.ok (.enter f args) w∧Calls P f args w fun e w'=>∃v,e=.returned v∧Inv (vs++[v]) w'∧w.heap.size≤w'.heap.size∧∀b,base≤b→b<w.heap.size→w'.heap[b]?=w.heap[b]?)
  (hF:∀vs B1 B2 w,vs.length=cis.length→Inv vs w→Blk w B1 zs ty→Blk w B2 zs ty→base≤B1→base≤B2→B1≠B2→wpAnyH P .any ops Q S fuel (Lst cis i1 i2 l cis.length true true) (Fr ds e1 e2 a vs (some B1) (some B2)) w) :
  ∀(n:Nat) (vs:List Value) (q1 q2:Option Nat) (w:World),n=(cis.length - vs.length)+(if q1.isSome then 0 else 1)+(if q2.isSome then 0 else 1)→vs.length≤cis.length→Inv vs w→(∀B,q1=some B→Blk w B zs ty∧base≤B)→(∀B,q2=some B→Blk w B zs ty∧base≤B)→(∀B,q1=some B→q2≠some B)→wpAnyH P .any ops Q S (n+fuel) (Lst cis i1 i2 l vs.length q1.isSome q2.isSome) (Fr ds e1 e2 a vs q1 q2) w:=by
 simp only[zpa,Bool.and_eq_true,decide_eq_true_eq] at hok;obtain⟨⟨⟨⟨hl0,hcb⟩,ha1,ha2⟩,hie,hee⟩,hfb⟩:=hok;obtain⟨o1,ho1,hg1,hd1',hp1⟩:=zjm ha1;obtain⟨o2,ho2,hg2,hd2',hp2⟩:=zjm ha2;intro n
 induction n with
 | zero =>
  intro vs q1 q2 w hn hl hi h1 h2 hne;cases q1 with
  | none=>simp only[Option.isSome_none,Bool.false_eq_true,if_false] at hn;omega
  | some B1 =>
   cases q2 with
   | none=>simp only[Option.isSome_none,Bool.false_eq_true,if_false] at hn;omega
   | some B2 =>
    have e:vs.length=cis.length:=by simp at hn;omega
    rw[Nat.zero_add,e];exact hF vs B1 B2 w e hi (h1 B1 rfl).1 (h2 B2 rfl).1 (h1 B1 rfl).2 (h2 B2 rfl).2 (fun e=>hne B1 rfl (by rw[e]))
 | succ n ih =>
  intro vs q1 q2 w hn hl hi h1 h2 hne;have hr:=zs7 hfb hl q1.isSome q2.isSome (fun ⟨x,y,z⟩=>by rw[y,z,x] at hn;simp at hn)
  rw[show n+1+fuel=n+fuel+1 by omega];have hne0:Rdy cis i1 i2 vs.length q1.isSome q2.isSome≠[]:=by
   unfold Rdy;intro e;simp only[List.append_eq_nil_iff] at e;obtain⟨⟨e1,e2⟩,e3⟩:=e;have y:q1.isSome=true:=by cases h:q1.isSome <;> simp[h] at e2 ⊢
   have z:q2.isSome=true:=by cases h:q2.isSome <;> simp[h] at e3 ⊢
   have x:cis.length≤vs.length:=by
    rcases Nat.lt_or_ge vs.length cis.length with hlt | hge
    ·exfalso
     have:=congrArg List.length e1;simp at this
     omega
    ·exact hge
   rw[y,z] at hn;simp at hn
   omega
  refine wpAnyH_ready hr hne0 ?_;intro i hi';unfold Rdy at hi';rcases List.mem_append.1 hi' with hi' | hi'
  ·rcases List.mem_append.1 hi' with hi' | hi'
   ·-- the call
    have hlt:vs.length<cis.length:=by
     rcases Nat.lt_or_ge vs.length cis.length with h | h
     ·exact h
     ·rw[List.drop_eq_nil_of_le h] at hi';simp at hi'
    have hc:cis[vs.length]?=some (cis[vs.length]):=List.getElem?_eq_getElem hlt;generalize cis[vs.length]=c at hc;obtain⟨oc,d,hoc2,hgd,hd,hdst,hd1,hd2,hc1,hc2⟩:=zq3 hl0 hcb hc;have ei:i=c:=by
     have h3:(cis.drop vs.length).take 1=[c]:=by
      rw[List.drop_eq_getElem_cons hlt];have:=List.getElem?_eq_getElem hlt;rw[hc] at this
      injection this with this
      rw[this];rfl
     rw[h3] at hi'
     simpa using hi'
    subst ei;refine zfn hoc2 hgd (fun K hK=>?_);obtain⟨f,args,hex,hcall⟩:=hC vs i oc w q1 q2 hc hoc2 hi;unfold Oper.wp;rw[hex,Oper.upon_enter];refine hcall.mono ?_;rintro e w' ⟨v,rfl,hi2,hsz,hkp⟩;have hk:∀B,Blk w B zs ty→base≤B→Blk w' B zs ty:=fun B hb hB=>by unfold Blk;rw[hkp B hB hb.lt];exact hb
    refine hK _ _ (hS _ _ hi2) ?_;rw[zu6 hc hc1 hc2,hdst];have ef:(Fr ds e1 e2 a vs q1 q2).put (some d) v=Fr ds e1 e2 a (vs++[v]) q1 q2:=by
     unfold Fr;rw[zgq _ (fun e=>hd2 e.symm),zgq _ (fun e=>hd1 e.symm),zks _ _ _ _ _ hd]
    rw[ef];have:=ih (vs++[v]) q1 q2 w' (by simp;omega) (by simp;omega) hi2 (fun B e=>⟨hk B (h1 B e).1 (h1 B e).2,(h1 B e).2⟩) (fun B e=>⟨hk B (h2 B e).1 (h2 B e).2,(h2 B e).2⟩) hne
    rw[List.length_append] at this;exact this
   ·-- the first variable
    cases q1 with
    | some B=>simp at hi'
    | none =>
     have ei:i=i1:=by simpa using hi'
     subst ei;refine zfn ho1 hg1 (fun K hK=>?_);unfold Oper.wp execOp;simp only[hp1,Sem.run_bind,hal,Result.andThen_ok,Sem.run_pure];have hb:=zac w (.cells zs.toArray ty);refine hK _ _ (hS _ _ (hI _ _ hi).1) ?_;rw[hd1'];have ef:(Fr ds e1 e2 a vs none q2).put (some e1) (.pointer (some ⟨w.heap.size,0,none⟩))=Fr ds e1 e2 a vs (some w.heap.size) q2:=by
      unfold Fr;rw[zgq _ (fun e=>hee e.symm)];rfl
     show wpAnyH P .any ops Q S (n+fuel) ((Lst cis i i2 l vs.length false q2.isSome).setIfInBounds i true) ((Fr ds e1 e2 a vs none q2).put (some e1) (.pointer (some ⟨w.heap.size,0,none⟩))) _
     rw[Lst_a1 hie,ef];exact ih vs (some w.heap.size) q2 _ (by simp at hn ⊢;omega) hl (hI _ _ hi).1 (fun B e=>by injection e with e;subst e;exact⟨Blk.new w zs ty,(hI _ _ hi).2⟩) (fun B e=>⟨(h2 B e).1.kept hb,(h2 B e).2⟩) (fun B e e'=>by injection e with e;have:=(h2 B e').1.lt;omega)
  ·-- the second
   cases q2 with
   | some B=>simp at hi'
   | none =>
    have ei:i=i2:=by simpa using hi'
    subst ei;refine zfn ho2 hg2 (fun K hK=>?_);unfold Oper.wp execOp;simp only[hp2,Sem.run_bind,hal,Result.andThen_ok,Sem.run_pure];have hb:=zac w (.cells zs.toArray ty);refine hK _ _ (hS _ _ (hI _ _ hi).1) ?_;rw[hd2'];exact ih vs q1 (some w.heap.size) _ (by simp at hn ⊢;omega) hl (hI _ _ hi).1 (fun B e=>⟨(h1 B e).1.kept hb,(h1 B e).2⟩) (fun B e=>by injection e with e;subst e;exact⟨Blk.new w zs ty,(hI _ _ hi).2⟩) (fun B e e'=>by injection e' with e';have:=(h1 B e).1.lt;omega)
end
end
section
section
variable {P:Program} {ops:Array Oper} {Q:Exit→Act→World→Prop} {S:World→Prop}
def ilA:List Nat→List (Option Value)→Act→Act
 | d :: ds,o :: vs,a=>ilA ds vs (putO a d o)
 | _,_,a=>a
def ilM:List Nat→List Bool→Array Bool→Array Bool
 | i :: is,b :: bs,l=>ilM is bs (setB b i l)
 | _,_,l=>l
theorem zmp:∀(ds:List Nat) (vs:List (Option Value)) (a:Act) (d:Nat) (v:Value),d ∉ ds→(ilA ds vs a).put (some d) v=ilA ds vs (a.put (some d) v)
 | [],_,_,_,_,_=>by simp[ilA]
 | e :: ds,[],_,_,_,_=>by simp[ilA]
 | e :: ds,o :: vs,a,d,v,h=>by
  have h1:d≠e:=fun q=>h (by rw[q];exact List.mem_cons_self)
  show (ilA ds vs (putO a e o)).put (some d) v=ilA ds vs (putO (a.put (some d) v) e o)
  rw[zmp ds vs _ d v (fun q=>h (List.mem_cons_of_mem _ q)),zgq a (fun q=>h1 q.symm)]
theorem zoo:∀(ds:List Nat) (vs:List (Option Value)) (a:Act) (k d:Nat) (v:Value),ds.Nodup→ds[k]?=some d→vs[k]?=some none→(ilA ds vs a).put (some d) v=ilA ds (vs.set k (some v)) a
 | [],_,_,_,_,_,_,h,_=>by simp at h
 | e :: ds,[],_,k,_,_,_,_,h=>by simp at h
 | e :: ds,o :: vs,a,0,d,v,hn,h,h2=>by
  have e1:e=d:=by simpa using h
  have e2:o=none:=by simpa using h2
  subst e1 e2;show (ilA ds vs a).put (some e) v=ilA ds vs (a.put (some e) v)
  exact zmp ds vs a e v (List.nodup_cons.1 hn).1
 | e :: ds,o :: vs,a,k+1,d,v,hn,h,h2=>by
  show (ilA ds vs (putO a e o)).put (some d) v=ilA ds (vs.set k (some v)) (putO a e o)
  exact zoo ds vs _ k d v (List.nodup_cons.1 hn).2 (by simpa using h) (by simpa using h2)
theorem zmi:∀(is:List Nat) (bs:List Bool) (l:Array Bool) (i:Nat),i ∉ is→(ilM is bs l).setIfInBounds i true=ilM is bs (l.setIfInBounds i true)
 | [],_,_,_,_=>by simp[ilM]
 | e :: is,[],_,_,_=>by simp[ilM]
 | e :: is,b :: bs,l,i,h=>by
  have h1:i≠e:=fun q=>h (by rw[q];exact List.mem_cons_self)
  show (ilM is bs (setB b e l)).setIfInBounds i true=ilM is bs (setB b e (l.setIfInBounds i true))
  rw[zmi is bs _ i (fun q=>h (List.mem_cons_of_mem _ q)),zfq h1]
theorem zo6:∀(is:List Nat) (bs:List Bool) (l:Array Bool) (k i:Nat),is.Nodup→is[k]?=some i→bs[k]?=some false→(ilM is bs l).setIfInBounds i true=ilM is (bs.set k true) l
 | [],_,_,_,_,_,h,_=>by simp at h
 | e :: is,[],_,k,_,_,_,h=>by simp at h
 | e :: is,b :: bs,l,0,i,hn,h,h2=>by
  have e1:e=i:=by simpa using h
  have e2:b=false:=by simpa using h2
  subst e1 e2;show (ilM is bs l).setIfInBounds e true=ilM is bs (l.setIfInBounds e true)
  exact zmi is bs l e (List.nodup_cons.1 hn).1
 | e :: is,b :: bs,l,k+1,i,hn,h,h2=>by
  show (ilM is bs (setB b e l)).setIfInBounds i true=ilM is (bs.set k true) (setB b e l)
  exact zo6 is bs _ k i (List.nodup_cons.1 hn).2 (by simpa using h) (by simpa using h2)
def zjr:Nat→List (List Bool)
 | 0=>[[]]
 | n+1=>(zjr n).flatMap fun b=>[false :: b,true :: b]
theorem zlt:∀(b:List Bool),b ∈ zjr b.length
 | []=>by simp[zjr]
 | x :: b=>by
  show x :: b ∈ (zjr b.length).flatMap fun b=>[false :: b,true :: b]
  rw[List.mem_flatMap];exact⟨b,zlt b,by cases x <;> simp⟩
def zsv (is:List Nat)(deps:List (List Nat))(b:List Bool)(i k:Nat):Bool:=is[k]?==some i&&(b[k]?==some false&&(deps.getD k []).all fun j=>b[j]?==some true)
def ilB (ops:Array Oper)(is:List Nat)(deps:List (List Nat))(l:Array Bool):Bool :=
 (zjr is.length).all fun b=>b.all id||((Region.ready .any ops (ilM is b l) != [])&&(Region.ready .any ops (ilM is b l)).all fun i=>(List.range is.length).any fun k=>zsv is deps b i k)
def ilOps (ops:Array Oper)(is ds:List Nat):Bool:=(List.range is.length).all fun k=>match is[k]?,ds[k]? with
 | some i,some d=>(match ops[i]? with | some o=>o.guard.isNone&&decide (o.dst=some d) | none=>false)
 | _,_=>false
def ilD (vs:List (Option Value)):List Bool:=vs.map Option.isSome
theorem zwm (vs:List (Option Value))(k:Nat)(v:Value):ilD (vs.set k (some v))=(ilD vs).set k true:=by
 unfold ilD;rw[List.map_set];rfl
def ilN (vs:List (Option Value)):Nat:=vs.countP Option.isNone
theorem zo9:∀(vs:List (Option Value)) (k:Nat) (v:Value),vs[k]?=some none→ilN vs=ilN (vs.set k (some v))+1
 | [],_,_,h=>by simp at h
 | o :: vs,0,v,h=>by
  have e:o=none:=by simpa using h
  subst e;simp[ilN]
 | o :: vs,k+1,v,h=>by
  have:=zo9 vs k v (by simpa using h);unfold ilN at this ⊢;rw[zB,List.countP_cons,List.countP_cons,this];omega
theorem zla (is ds:List Nat)(deps:List (List Nat))(l:Array Bool)(a:Act)(Inv:List (Option Value)→World→Prop)(fuel:Nat)(hnd:ds.Nodup)(hni:is.Nodup)(hck:ilB ops is deps l=true)(hop:ilOps ops is ds=true)
  (hS:∀vs w,Inv vs w→S w)
  (hstep:∀(k i d:Nat) (o:Oper) vs w,is[k]?=some i→ds[k]?=some d→ops[i]?=some o→vs.length=is.length→vs[k]?=some none→(∀j ∈ deps.getD k [],∃v,vs[j]?=some (some v))→Inv vs w→∀K:Act→World→Prop,(∀v w',Inv (vs.set k (some v)) w'→K ((ilA ds vs a).put (some d) v) w')→Oper.wp P o (ilA ds vs a) w K Q)
  (hend:∀vs w,vs.length=is.length→ilN vs=0→Inv vs w→wpAnyH P .any ops Q S fuel (ilM is (ilD vs) l) (ilA ds vs a) w) :
  ∀(n:Nat) (vs:List (Option Value)) (w:World),n=ilN vs→vs.length=is.length→Inv vs w→wpAnyH P .any ops Q S (n+fuel) (ilM is (ilD vs) l) (ilA ds vs a) w:=by
 intro n
 induction n with
 | zero=>intro vs w h0 hl hI;rw[Nat.zero_add];exact hend vs w hl h0.symm hI
 | succ n ih =>
  intro vs w h0 hl hI;have hb:(ilD vs).all id=false:=by
   cases hq:(ilD vs).all id
   ·rfl
   ·exfalso
    have:ilN vs=0:=by
     unfold ilN;rw[List.countP_eq_zero];intro o ho;have h1:=List.all_eq_true.1 hq o.isSome (by unfold ilD;exact List.mem_map_of_mem ho)
     cases o with
     | none=>cases h1
     | some v=>simp
    omega
  have hlD:(ilD vs).length=is.length:=by unfold ilD;rw[List.length_map,hl]
  have hm:=List.all_eq_true.1 hck (ilD vs) (by rw[←hlD];exact zlt _)
  rw[hb,Bool.false_or,Bool.and_eq_true] at hm;obtain⟨h1,h2⟩:=hm;rw[show n+1+fuel=(n+fuel)+1 by omega];refine wpAnyH_ready (rs:=Region.ready .any ops (ilM is (ilD vs) l)) rfl (by simpa using h1) ?_;intro i hi;have h3:=List.all_eq_true.1 h2 i hi;rw[List.any_eq_true] at h3;obtain⟨k,hk,h4⟩:=h3;rw[List.mem_range] at hk;unfold zsv at h4;simp only[Bool.and_eq_true,beq_iff_eq] at h4;obtain⟨g1,g2,g3⟩:=h4;have hk2:vs[k]?=some none:=by
   unfold ilD at g2;rw[List.getElem?_map] at g2;cases hv:vs[k]? with
   | none=>rw[hv] at g2;cases g2
   | some o =>
    rw[hv] at g2;cases o with
    | none=>rfl
    | some v=>cases g2
  have h5:=List.all_eq_true.1 hop k (List.mem_range.2 hk);rw[g1] at h5;cases hd:ds[k]? with
  | none=>rw[hd] at h5;cases h5
  | some d =>
   rw[hd] at h5;cases ho:ops[i]? with
   | none=>simp only[ho] at h5;cases h5
   | some o =>
    simp only[ho,Bool.and_eq_true,decide_eq_true_eq,Option.isNone_iff_eq_none] at h5;refine zfn ho h5.1 (fun K' hK=>?_);refine hstep k i d o vs w g1 hd ho hl hk2 (fun j hj=>?_) hI K' (fun v w' hI'=>?_)
    ·have h6:=List.all_eq_true.1 g3 j hj;simp only[beq_iff_eq] at h6;unfold ilD at h6;rw[List.getElem?_map] at h6;cases hv:vs[j]? with
     | none=>rw[hv] at h6;cases h6
     | some o' =>
      rw[hv] at h6;cases o' with
      | none=>cases h6
      | some v=>exact⟨v,rfl⟩
    ·refine hK _ _ (hS _ _ hI') ?_;rw[zoo ds vs a k d v hnd hd hk2,zo6 is (ilD vs) l k i hni g1 g2,←zwm];exact ih (vs.set k (some v)) w' (by have:=zo9 vs k v hk2;omega) (by rw[List.length_set,hl]) hI'
end
theorem zxc {a:Act}{d t:Nat}(h:d≠t)(v:Value):(a.put (some d) v).eval (.tmp t)=a.eval (.tmp t):=by
 show (a.tmps.setIfInBounds d v).getD t undef=a.tmps.getD t undef
 rw[Array.getD_eq_getD_getElem?,Array.getD_eq_getD_getElem?,Array.getElem?_setIfInBounds_ne h]
theorem put_in {a:Act}{d:Nat}(h:d<a.tmps.size)(v:Value):(a.put (some d) v).eval (.tmp d)=v:=by
 show (a.tmps.setIfInBounds d v).getD d undef=v
 rw[Array.getD_eq_getD_getElem?,Array.getElem?_setIfInBounds_self_of_lt h];rfl
theorem zs8 (a:Act)(d:Nat)(o:Option Value):(putO a d o).tmps.size=a.tmps.size:=by
 cases o with
 | none=>rfl
 | some v=>show (a.tmps.setIfInBounds d v).size=_;rw[Array.size_setIfInBounds]
theorem zb7:∀(ds:List Nat) (vs:List (Option Value)) (a:Act) (t:Nat),t ∉ ds→(ilA ds vs a).eval (.tmp t)=a.eval (.tmp t)
 | [],_,_,_,_=>by simp[ilA]
 | d :: ds,[],_,_,_=>by simp[ilA]
 | d :: ds,o :: vs,a,t,h=>by
  show (ilA ds vs (putO a d o)).eval (.tmp t)=_
  rw[zb7 ds vs _ t (fun q=>h (List.mem_cons_of_mem _ q))];have hd:d≠t:=fun q=>h (by rw[q];exact List.mem_cons_self)
  cases o with
  | none=>rfl
  | some v=>exact zxc hd v
theorem ze2:∀(ds:List Nat) (vs:List (Option Value)) (a:Act) (k d:Nat) (v:Value),ds.Nodup→ds[k]?=some d→vs[k]?=some (some v)→d<a.tmps.size→(ilA ds vs a).eval (.tmp d)=v
 | [],_,_,_,_,_,_,h,_,_=>by simp at h
 | e :: ds,[],_,k,_,_,_,_,h,_=>by simp at h
 | e :: ds,o :: vs,a,0,d,v,hn,h,h2,hs=>by
  have e1:e=d:=by simpa using h
  have e2:o=some v:=by simpa using h2
  subst e1 e2;show (ilA ds vs (a.put (some e) v)).eval (.tmp e)=v
  rw[zb7 ds vs _ e (List.nodup_cons.1 hn).1];exact put_in hs v
 | e :: ds,o :: vs,a,k+1,d,v,hn,h,h2,hs=>by
  show (ilA ds vs (putO a e o)).eval (.tmp d)=v
  exact ze2 ds vs _ k d v (List.nodup_cons.1 hn).2 (by simpa using h) (by simpa using h2) (by rw[zs8];exact hs)
section
variable {P:Program} {o:Oper} {a:Act} {w:World} {K:Act→World→Prop} {Q:Exit→Act→World→Prop}
theorem zfi (f:FuncId)(hcf:∀(args:Array Value) (w:World),(callFunc f args).run P w=.ok (.enter f args) w)(xs:Array Operand)(tys:Array TypeId)(ho:o.op=.call { callee:=.value (.func f),args:=xs,argTypes:=tys })(args:Array Value)(hx:xs.map a.eval=args)(h:Calls P f args w fun e w'=>∃v,e=.returned v∧K (a.put o.dst v) w'):Oper.wp P o a w K Q:=by
 have hr:(execOp a.eval o).run P w=.ok (.enter f args) w:=by
  subst hx;unfold execOp;simp[ho,resolve,invoke,Act.eval,Deferred.ofValue,hcf]
 unfold Oper.wp;rw[hr,Oper.upon_enter];refine h.mono ?_;rintro e u ⟨v,rfl,hK⟩;exact hK
theorem zlh (ty:TypeId)(zs:List Value)(ho:o.op=.alloc ty)(hal:(Instr.alloc ty true (.tuple #[])).run P w=.ok (.pointer (some ⟨w.heap.size,0,none⟩)) (w.alloc (.cells zs.toArray ty)))
  (h:K (a.put o.dst (.pointer (some ⟨w.heap.size,0,none⟩))) (w.alloc (.cells zs.toArray ty))):Oper.wp P o a w K Q:=by
 unfold Oper.wp execOp;simp only[ho,Sem.run_bind,hal,Result.andThen_ok,Sem.run_pure];exact h
end
end
end Go.Proofs.YtfobijdkoeifjaaGreatDoor
