import Derived.Test.YtgioppfoceddfaaGreatP17
import Derived.Test.YtgioppfoceddfaaGreatP10
import Derived.Test.YtgioppfoceddfaaGreatP30
import Derived.Test.YtgioppfoceddfaaGreatP22
import Derived.Test.YtgioppfoceddfaaGreatP32
import Derived.Test.YtgioppfoceddfaaGreatP24
set_option maxRecDepth 100000
set_option maxHeartbeats 32000000
namespace Go.Proofs.YtgioppfoceddfaaGreat
section
open Go Go.RowKit
section
variable {P:Program} {ops:Array Oper} {Q:Exit→Act→World→Prop} {S:World→Prop}
def putL:List Nat→List Value→Act→Act
 | d :: ds,v :: vs,a=>putL ds vs (a.put (some d) v)
 | _,_,a=>a
theorem zvr:∀(ds:List Nat) (a:Act),putL ds [] a=a
 | [],_=>rfl
 | _ :: _,_=>rfl
theorem zlw:∀(ds:List Nat) (vs:List Value) (a:Act) (d:Nat) (v:Value),ds[vs.length]?=some d→putL ds (vs++[v]) a=(putL ds vs a).put (some d) v
 | [],vs,_,_,_,h=>by simp at h
 | d0 :: ds,[],a,d,v,h=>by
  have e:d0=d:=by simpa using h
  subst e;show putL ds [] (a.put (some d0) v)=_
  rw[zvr];rfl
 | d0 :: ds,v0 :: vs,a,d,v,h=>zlw ds vs (a.put (some d0) v0) d v (by simpa using h)
def Fr (ds:List Nat)(e1 e2:Nat)(a:Act)(vs:List Value)(q1 q2:Option Nat):Act:=putO (putO (putL ds vs a) e1 (q1.map ptA)) e2 (q2.map ptA)
def setB (b:Bool)(i:Nat)(l:Array Bool):Array Bool:=if b then l.setIfInBounds i true else l
def Lst (cis:List Nat)(i1 i2:Nat)(l:Array Bool)(k:Nat)(b1 b2:Bool):Array Bool:=setB b2 i2 (setB b1 i1 ((cis.take k).foldl (fun l i=>l.setIfInBounds i true) l))
theorem zhu {b:Bool}{i c:Nat}{l:Array Bool}(h:c≠i):(setB b i l).setIfInBounds c true=setB b i (l.setIfInBounds c true):=by
 cases b
 ·rfl
 ·exact Array.setIfInBounds_comm _ _ (fun e=>h e.symm)
theorem zv6 {cis:List Nat}{i1 i2 c:Nat}{l:Array Bool}{k:Nat}{b1 b2:Bool}(hc:cis[k]?=some c)(h1:c≠i1)(h2:c≠i2):(Lst cis i1 i2 l k b1 b2).setIfInBounds c true=Lst cis i1 i2 l (k+1) b1 b2:=by
 unfold Lst;rw[zhu h2,zhu h1];have e:cis.take (k+1)=cis.take k++[c]:=by
  rw[List.take_add_one,hc];rfl
 rw[e,List.foldl_append];rfl
theorem Lst_a1 {cis:List Nat}{i1 i2:Nat}{l:Array Bool}{k:Nat}{b2:Bool}(h:i1≠i2):(Lst cis i1 i2 l k false b2).setIfInBounds i1 true=Lst cis i1 i2 l k true b2:=by
 unfold Lst;rw[zhu h];rfl
def Rdy (cis:List Nat)(i1 i2:Nat)(k:Nat)(b1 b2:Bool):List Nat:=((cis.drop k).take 1++(if b1 then [] else [i1]))++(if b2 then [] else [i2])
def zn3 (ops:Array Oper)(cis:List Nat)(i1 i2:Nat)(l:Array Bool):Bool :=
 (List.range (cis.length+1)).all fun k=>[false,true].all fun b1=>[false,true].all fun b2=>(decide (k=cis.length)&&b1&&b2)||Region.ready .any ops (Lst cis i1 i2 l k b1 b2)==Rdy cis i1 i2 k b1 b2
theorem zr6 {cis:List Nat}{i1 i2:Nat}{l:Array Bool}(h:zn3 ops cis i1 i2 l=true){k:Nat}(hk:k≤cis.length)(b1 b2:Bool)(hn:¬(k=cis.length∧b1=true∧b2=true)):Region.ready .any ops (Lst cis i1 i2 l k b1 b2)=Rdy cis i1 i2 k b1 b2:=by
 unfold zn3 at h;rw[List.all_eq_true] at h;have h1:=h k (List.mem_range.2 (by omega));rw[List.all_eq_true] at h1;have h2:=h1 b1 (by cases b1 <;> simp)
 rw[List.all_eq_true] at h2;have h3:=h2 b2 (by cases b2 <;> simp)
 rw[Bool.or_eq_true] at h3;rcases h3 with h3 | h3
 ·simp only[Bool.and_eq_true,decide_eq_true_eq] at h3;exact absurd ⟨h3.1.1,h3.1.2,h3.2⟩ hn
 ·exact eq_of_beq h3
theorem zik {fuel:Nat}{listed:Array Bool}{a:Act}{w:World}{i:Nat}{o:Oper}(ho:ops[i]?=some o)(hg:o.guard=none)
  (h:∀K':Act→World→Prop,(∀a w,S w→wpAnyH P .any ops Q S fuel (listed.setIfInBounds i true) a w→K' a w)→Oper.wp P o a w K' Q):wpOp P ops Q i (fun a' w'=>S w'∧wpAnyH P .any ops Q S fuel (listed.setIfInBounds i true) a' w') a w :=
 (AllReadyH.cons (rs:=[]) ho (fun K' hK=>by rw[if_pos (za2 hg)];exact h K' (fun a w hS hW=>hK.out a w hS (fun _=>hW))) AllReadyH.nil) i (by simp)
def zq6 (ops:Array Oper)(i1 i2 e1 e2:Nat)(c d:Nat):Bool:=(match ops[c]? with | some oc=>oc.guard.isNone&&decide (oc.dst=some d) | none=>false)&&(decide (d≠e1)&&decide (d≠e2)&&decide (c≠i1)&&decide (c≠i2))
def zkg (ops:Array Oper)(i e:Nat)(ty:TypeId):Bool:=match ops[i]? with | some o=>o.guard.isNone&&decide (o.dst=some e)&&(match o.op with | .alloc t=>decide (t=ty) | _=>false) | none=>false
def zpl (ops:Array Oper)(cis ds:List Nat)(i1 i2 e1 e2:Nat)(ty:TypeId)(l:Array Bool):Bool :=
 (decide (ds.length=cis.length)&&(List.zip cis ds).all (fun p=>zq6 ops i1 i2 e1 e2 p.1 p.2))&&(zkg ops i1 e1 ty&&zkg ops i2 e2 ty)&&(decide (i1≠i2)&&decide (e1≠e2))&&zn3 ops cis i1 i2 l
theorem zkl {i e:Nat}{ty:TypeId}(h:zkg ops i e ty=true):∃o,ops[i]?=some o∧o.guard=none∧o.dst=some e∧o.op=.alloc ty:=by
 unfold zkg at h;split at h
 ·rename_i o ho
  simp only[Bool.and_eq_true,decide_eq_true_eq,Option.isNone_iff_eq_none] at h;refine⟨o,ho,h.1.1,h.1.2,?_⟩;have h2:=h.2;split at h2
  ·rename_i t ht
   rw[ht,of_decide_eq_true h2]
  ·cases h2
 ·cases h
theorem zsv {cis ds:List Nat}{i1 i2 e1 e2:Nat}(hl:ds.length=cis.length)(h:(List.zip cis ds).all (fun p=>zq6 ops i1 i2 e1 e2 p.1 p.2)=true){k c:Nat}(hc:cis[k]?=some c):∃oc d,ops[c]?=some oc∧oc.guard=none∧ds[k]?=some d∧oc.dst=some d∧d≠e1∧d≠e2∧c≠i1∧c≠i2:=by
 have hk:k<cis.length:=(List.getElem?_eq_some_iff.1 hc).1;have hd:ds[k]?=some (ds[k]'(by omega)):=List.getElem?_eq_getElem _;generalize ds[k]'(by omega)=d at hd;have hz:(List.zip cis ds)[k]?=some (c,d):=by rw[List.getElem?_zip_eq_some];exact⟨hc,hd⟩
 have hm:=List.all_eq_true.1 h _ (List.mem_of_getElem? hz);unfold zq6 at hm;simp only[Bool.and_eq_true,decide_eq_true_eq] at hm;obtain⟨h1,⟨⟨h2,h3⟩,h4⟩,h5⟩:=hm;split at h1
 ·rename_i oc ho
  simp only[Bool.and_eq_true,decide_eq_true_eq,Option.isNone_iff_eq_none] at h1;exact⟨oc,d,ho,h1.1,hd,h1.2,h2,h3,h4,h5⟩
 ·cases h1
theorem zix (cis ds:List Nat)(i1 i2 e1 e2:Nat)(ty:TypeId)(zs:List Value)(l:Array Bool)(hok:zpl ops cis ds i1 i2 e1 e2 ty l=true)(hal:∀u:World,(Instr.alloc ty true (.tuple #[])).run P u=.ok (.pointer (some ⟨u.heap.size,0,none⟩)) (u.alloc (.cells zs.toArray ty)))(a:Act)(base fuel:Nat)(Inv:List Value→World→Prop)
  (hS:∀vs w,Inv vs w→S w) (hI:∀vs w,Inv vs w→Inv vs (w.alloc (.cells zs.toArray ty))∧base≤w.heap.size)
  (hC:∀vs (c:Nat) oc w q1 q2,cis[vs.length]?=some c→ops[c]?=some oc→Inv vs w→∃f args,(execOp (Fr ds e1 e2 a vs q1 q2).eval oc).run P w=.ok (.enter f args) w∧Calls P f args w fun e w'=>∃v,e=.returned v∧Inv (vs++[v]) w'∧w.heap.size≤w'.heap.size∧∀b,base≤b→b<w.heap.size→w'.heap[b]?=w.heap[b]?)
  (hF:∀vs B1 B2 w,vs.length=cis.length→Inv vs w→Blk w B1 zs ty→Blk w B2 zs ty→base≤B1→base≤B2→B1≠B2→wpAnyH P .any ops Q S fuel (Lst cis i1 i2 l cis.length true true) (Fr ds e1 e2 a vs (some B1) (some B2)) w) :
  ∀(n:Nat) (vs:List Value) (q1 q2:Option Nat) (w:World),n=(cis.length - vs.length)+(if q1.isSome then 0 else 1)+(if q2.isSome then 0 else 1)→vs.length≤cis.length→Inv vs w→(∀B,q1=some B→Blk w B zs ty∧base≤B)→(∀B,q2=some B→Blk w B zs ty∧base≤B)→(∀B,q1=some B→q2≠some B)→wpAnyH P .any ops Q S (n+fuel) (Lst cis i1 i2 l vs.length q1.isSome q2.isSome) (Fr ds e1 e2 a vs q1 q2) w:=by
 simp only[zpl,Bool.and_eq_true,decide_eq_true_eq] at hok;obtain⟨⟨⟨⟨hl0,hcb⟩,ha1,ha2⟩,hie,hee⟩,hfb⟩:=hok;obtain⟨o1,ho1,hg1,hd1',hp1⟩:=zkl ha1;obtain⟨o2,ho2,hg2,hd2',hp2⟩:=zkl ha2;intro n
 induction n with
 | zero =>
  intro vs q1 q2 w hn hl hi h1 h2 hne;cases q1 with
  | none=>simp only[Option.isSome_none,Bool.false_eq_true,if_false] at hn;omega
  | some B1 =>
   cases q2 with
   | none=>simp only[Option.isSome_none,Bool.false_eq_true,if_false] at hn;omega
   | some B2 =>
    have e:vs.length=cis.length:=by simp at hn;omega
    rw[Nat.zero_add,e];exact hF vs B1 B2 w e hi (h1 B1 rfl).1 (h2 B2 rfl).1 (h1 B1 rfl).2 (h2 B2 rfl).2 (fun e=>hne B1 rfl (by rw[e]))
 | succ n ih =>
  intro vs q1 q2 w hn hl hi h1 h2 hne;have hr:=zr6 hfb hl q1.isSome q2.isSome (fun ⟨x,y,z⟩=>by rw[y,z,x] at hn;simp at hn)
  rw[show n+1+fuel=n+fuel+1 by omega];have hne0:Rdy cis i1 i2 vs.length q1.isSome q2.isSome≠[]:=by
   unfold Rdy;intro e;simp only[List.append_eq_nil_iff] at e;obtain⟨⟨e1,e2⟩,e3⟩:=e;have y:q1.isSome=true:=by cases h:q1.isSome <;> simp[h] at e2 ⊢
   have z:q2.isSome=true:=by cases h:q2.isSome <;> simp[h] at e3 ⊢
   have x:cis.length≤vs.length:=by
    rcases Nat.lt_or_ge vs.length cis.length with hlt | hge
    ·exfalso
     have:=congrArg List.length e1;simp at this
     omega
    ·exact hge
   rw[y,z] at hn;simp at hn
   omega
  refine wpAnyH_ready hr hne0 ?_;intro i hi';unfold Rdy at hi';rcases List.mem_append.1 hi' with hi' | hi'
  ·rcases List.mem_append.1 hi' with hi' | hi'
   ·-- the call
    have hlt:vs.length<cis.length:=by
     rcases Nat.lt_or_ge vs.length cis.length with h | h
     ·exact h
     ·rw[List.drop_eq_nil_of_le h] at hi';simp at hi'
    have hc:cis[vs.length]?=some (cis[vs.length]):=List.getElem?_eq_getElem hlt;generalize cis[vs.length]=c at hc;obtain⟨oc,d,hoc2,hgd,hd,hdst,hd1,hd2,hc1,hc2⟩:=zsv hl0 hcb hc;have ei:i=c:=by
     have h3:(cis.drop vs.length).take 1=[c]:=by
      rw[List.drop_eq_getElem_cons hlt];have:=List.getElem?_eq_getElem hlt;rw[hc] at this
      injection this with this
      rw[this];rfl
     rw[h3] at hi'
     simpa using hi'
    subst ei;refine zik hoc2 hgd (fun K hK=>?_);obtain⟨f,args,hex,hcall⟩:=hC vs i oc w q1 q2 hc hoc2 hi;unfold Oper.wp;rw[hex,Oper.upon_enter];refine hcall.mono ?_;rintro e w' ⟨v,rfl,hi2,hsz,hkp⟩;have hk:∀B,Blk w B zs ty→base≤B→Blk w' B zs ty:=fun B hb hB=>by unfold Blk;rw[hkp B hB hb.lt];exact hb
    refine hK _ _ (hS _ _ hi2) ?_;rw[zv6 hc hc1 hc2,hdst];have ef:(Fr ds e1 e2 a vs q1 q2).put (some d) v=Fr ds e1 e2 a (vs++[v]) q1 q2:=by
     unfold Fr;rw[zdf _ (fun e=>hd2 e.symm),zdf _ (fun e=>hd1 e.symm),zlw _ _ _ _ _ hd]
    rw[ef];have:=ih (vs++[v]) q1 q2 w' (by simp;omega) (by simp;omega) hi2 (fun B e=>⟨hk B (h1 B e).1 (h1 B e).2,(h1 B e).2⟩) (fun B e=>⟨hk B (h2 B e).1 (h2 B e).2,(h2 B e).2⟩) hne
    rw[List.length_append] at this;exact this
   ·-- the first variable
    cases q1 with
    | some B=>simp at hi'
    | none =>
     have ei:i=i1:=by simpa using hi'
     subst ei;refine zik ho1 hg1 (fun K hK=>?_);unfold Oper.wp execOp;simp only[hp1,Sem.run_bind,hal,Result.andThen_ok,Sem.run_pure];have hb:=zac w (.cells zs.toArray ty);refine hK _ _ (hS _ _ (hI _ _ hi).1) ?_;rw[hd1'];have ef:(Fr ds e1 e2 a vs none q2).put (some e1) (.pointer (some ⟨w.heap.size,0,none⟩))=Fr ds e1 e2 a vs (some w.heap.size) q2:=by
      unfold Fr;rw[zdf _ (fun e=>hee e.symm)];rfl
     show wpAnyH P .any ops Q S (n+fuel) ((Lst cis i i2 l vs.length false q2.isSome).setIfInBounds i true) ((Fr ds e1 e2 a vs none q2).put (some e1) (.pointer (some ⟨w.heap.size,0,none⟩))) _
     rw[Lst_a1 hie,ef];exact ih vs (some w.heap.size) q2 _ (by simp at hn ⊢;omega) hl (hI _ _ hi).1 (fun B e=>by injection e with e;subst e;exact⟨Blk.new w zs ty,(hI _ _ hi).2⟩) (fun B e=>⟨(h2 B e).1.kept hb,(h2 B e).2⟩) (fun B e e'=>by injection e with e;have:=(h2 B e').1.lt;omega)
  ·-- the second
   cases q2 with
   | some B=>simp at hi'
   | none =>
    have ei:i=i2:=by simpa using hi'
    subst ei;refine zik ho2 hg2 (fun K hK=>?_);unfold Oper.wp execOp;simp only[hp2,Sem.run_bind,hal,Result.andThen_ok,Sem.run_pure];have hb:=zac w (.cells zs.toArray ty);refine hK _ _ (hS _ _ (hI _ _ hi).1) ?_;rw[hd2'];exact ih vs q1 (some w.heap.size) _ (by simp at hn ⊢;omega) hl (hI _ _ hi).1 (fun B e=>⟨(h1 B e).1.kept hb,(h1 B e).2⟩) (fun B e=>by injection e with e;subst e;exact⟨Blk.new w zs ty,(hI _ _ hi).2⟩) (fun B e e'=>by injection e' with e';have:=(h1 B e).1.lt;omega)
end
structure R1 (w0:World)(j:Jd)(v p:Nat)(ok:Bool)(r:Rst)(nd:Nd)(w u:World):Prop where
 g:Rg w0 j v p ok r w u
 N:Blk u w.heap.size nd.vs 86
 l:v<w.heap.size∧p<w.heap.size∧r.q<w.heap.size∧w0.heap.size≤w.heap.size
theorem R1.new {w0:World}{j:Jd}{v p:Nat}{ok:Bool}{r:Rst}{w:World}(nd:Nd)(h:Rx w0 j v p ok r w):R1 w0 j v p ok r nd w (w.alloc (.cells nd.vs.toArray 86)):=⟨Rg.of h (zac _ _),Blk.new w nd.vs _,h.lts⟩
theorem R1.kept {w0:World}{j:Jd}{v p:Nat}{ok:Bool}{r:Rst}{nd:Nd}{w u u':World}(h:R1 w0 j v p ok r nd w u)(hb:Below u.heap.size u u'):R1 w0 j v p ok r nd w u':=⟨h.g.kept hb,h.N.kept hb,h.l⟩
theorem R1.no {w0:World}{j:Jd}{v p:Nat}{ok:Bool}{r:Rst}{nd:Nd}{w u:World}(h:R1 w0 j v p ok r nd w u){b:Nat}(hb:w.heap.size≤b):¬Tri v p r.q b:=by
 have:=h.l;intro e;rcases e with e | e | e <;> omega
theorem R1.next {w0:World}{j:Jd}{v p:Nat}{ok ok':Bool}{r r':Rst}{nd:Nd}{w u u':World}(h:R1 w0 j v p ok r nd w u)(k:Rg w0 j v p ok' r' u u')(hq:r'.q=r.q):R1 w0 j v p ok' r' nd w u' :=
 ⟨h.g.trans k hq,k.f.blk h.N (by rw[hq];exact h.no (Nat.le_refl _)),by rw[hq];exact h.l⟩
theorem R1.keep {w0:World}{j:Jd}{v p:Nat}{ok ok':Bool}{r r':Rst}{nd:Nd}{w u u':World}(h:R1 w0 j v p ok r nd w u)(k:Rg w0 j v p ok' r' u u')(hq:r'.q=r.q):u.heap.size≤u'.heap.size∧∀b,w.heap.size+1≤b→b<u.heap.size→u'.heap[b]?=u.heap[b]? :=
 ⟨k.f.size,fun b hb hlt=>k.f.block b hlt (by rw[hq];exact h.no (by omega))⟩
theorem R1.base {w0:World}{j:Jd}{v p:Nat}{ok:Bool}{r:Rst}{nd:Nd}{w u:World}(h:R1 w0 j v p ok r nd w u):w.heap.size+1≤u.heap.size:=h.N.lt
theorem R1.other {w0:World}{j:Jd}{v p:Nat}{ok:Bool}{r:Rst}{nd:Nd}{w u u':World}{B:Nat}{c:List Value}{t:TypeId}(h:R1 w0 j v p ok r nd w u)(W:WroteB u u' B c t)(hB:w.heap.size+1≤B):R1 w0 j v p ok r nd w u' :=
 ⟨h.g.other W (by have:=h.l;omega) (by have:=h.l;omega) (by have:=h.l;omega) (by omega) (by have:=h.l;omega),W.keep h.N (by omega),h.l⟩
theorem zc9 {w0:World}{j:Jd}(nd:Nd){a:Nat}(h:Dt w0 j)(ha:a<j.f.slots.len):(j.read nd a).At w0:=zd0 (h.f.slots.part ha)
theorem zj7 {j:Jd}(nd:Nd){a:Nat}{k:Int}(hk:k≠0):(j.read nd a).k=k→((j.read nd a).len:Int)=zan k:=fun h=>zfd hk h
theorem R1.read {w0:World}{j:Jd}{v p:Nat}{ok:Bool}{r:Rst}{nd:Nd}{w u:World}(h:R1 w0 j v p ok r nd w u)(hd:Dt w0 j)(hm:r.m=j.f.slots.len){a:Nat}(ha:a<r.m):Calls Tryz.prog 96 #[.pointer (some ⟨v,0,none⟩),.pointer (some ⟨p,0,none⟩),.agg nd.vs.toArray,.int .i64 a] u fun e w'=>e=.returned (.agg (j.read nd a).vs.toArray)∧R1 w0 j v p (ok&&r.set a) r nd w w'∧u.heap.size≤w'.heap.size∧∀b,w.heap.size+1≤b→b<u.heap.size→w'.heap[b]?=u.heap[b]? :=
 (zkj w0 j nd v p ok r a u hd h.g.x hm ha).mono fun _ _ ⟨h1,_,h3⟩=>⟨h1,h.next h3 rfl,h.keep h3 rfl⟩
theorem R1.kind {w0:World}{j:Jd}{v p:Nat}{ok:Bool}{r:Rst}{nd:Nd}{w u:World}(h:R1 w0 j v p ok r nd w u)(hd:Dt w0 j)(hm:r.m=j.f.slots.len){a:Nat}(ha:a<r.m)(k:Int)(hk:k≠0)(hk2:zan k≤2):Calls Tryz.prog 98 #[.pointer (some ⟨v,0,none⟩),.agg (j.read nd a).vs.toArray,.int .i64 k] u fun e w'=>(∃x:Ty,e=.returned (.agg x.vs.toArray)∧KU k (j.read nd a) x w')∧R1 w0 j v p (ok&&((j.read nd a).k==k)) r nd w w'∧u.heap.size≤w'.heap.size∧∀b,w.heap.size+1≤b→b<u.heap.size→w'.heap[b]?=u.heap[b]? :=
 (zpz w0 j v p ok r (j.read nd a) k u h.g.x (zc9 nd hd (by omega)) (zj7 nd hk) hk2).mono fun _ _ ⟨x,h1,h2,h3⟩=>⟨⟨x,h1,h2⟩,h.next h3 rfl,h.keep h3 rfl⟩
structure R2 (w0:World)(j:Jd)(v p:Nat)(ok:Bool)(r:Rst)(nd:Nd)(x1 x2:Ty)(B1 B2:Nat)(w u:World):Prop where
 g:R1 w0 j v p ok r nd w u
 b1:Blk u B1 x1.vs 38
 b2:Blk u B2 x2.vs 38
 n1:w.heap.size+1≤B1
 n2:w.heap.size+1≤B2
theorem R2.kept {w0:World}{j:Jd}{v p:Nat}{ok:Bool}{r:Rst}{nd:Nd}{x1 x2:Ty}{B1 B2:Nat}{w u u':World}(h:R2 w0 j v p ok r nd x1 x2 B1 B2 w u)(hb:Below u.heap.size u u'):R2 w0 j v p ok r nd x1 x2 B1 B2 w u':=⟨h.g.kept hb,h.b1.kept hb,h.b2.kept hb,h.n1,h.n2⟩
def ze6 (j:Jd)(nd:Nd)(d:Nat)(r:Rst)(ok:Bool)(r':Rst):Prop :=
 ok=(nd.h.rds.all (fun i=>r.set i.toNat)&&belB j.n j.g (zai j.n j.g (j.makes nd).1 (zad j.n j.g nd.h.env (j.makes nd).2)) (j.f.slots.ps d))∧(ok=true→r'=r.wrt j (j.makes nd).2 d)
theorem zdy (n:Strs)(g:Grid)(a:Int)(t:Ty):belB n g (zai n g (leafT 0 0) a) t=false:=by
 have h2:(leafT 0 0).ok n.len=false:=by unfold Ty.ok;rfl
 have h0:okB n g (leafT 0 0)=false:=by unfold okB;rw[h2];cases zaf n g <;> rfl
 have h1:zai n g (leafT 0 0) a=leafT 0 0:=by unfold zai;rw[h0];rfl
 rw[h1];unfold belB;rw[h2];cases zaf n g <;> rfl
def Iv1 (w0:World)(j:Jd)(v p:Nat)(r:Rst)(nd:Nd)(a b:Nat)(w:World):List Value→World→Prop
 | [],u=>R1 w0 j v p true r nd w u
 | [v1],u=>v1=.agg (j.read nd a).vs.toArray∧R1 w0 j v p (true&&r.set a) r nd w u
 | [_,v2],u=>(∃x:Ty,v2=.agg x.vs.toArray∧((j.read nd a).k=1→x=j.read nd a))∧R1 w0 j v p ((true&&r.set a)&&((j.read nd a).k==1)) r nd w u
 | [_,v2,v3],u=>(∃x:Ty,v2=.agg x.vs.toArray∧((j.read nd a).k=1→x=j.read nd a))∧v3=.agg (j.read nd b).vs.toArray∧R1 w0 j v p (((true&&r.set a)&&((j.read nd a).k==1))&&r.set b) r nd w u
 | [_,v2,_,v4],u=>(∃x:Ty,v2=.agg x.vs.toArray∧((j.read nd a).k=1→x=j.read nd a))∧(∃x:Ty,v4=.agg x.vs.toArray∧((j.read nd b).k=1→x=j.read nd b))∧R1 w0 j v p ((((true&&r.set a)&&((j.read nd a).k==1))&&r.set b)&&((j.read nd b).k==1)) r nd w u
 | _,_=>False
def Iv4 (w0:World)(j:Jd)(v p:Nat)(r:Rst)(nd:Nd)(a b:Nat)(w:World):List Value→World→Prop
 | [],u=>R1 w0 j v p true r nd w u
 | [v1],u=>v1=.agg (j.read nd a).vs.toArray∧R1 w0 j v p (true&&r.set a) r nd w u
 | [_,v2],u=>(∃x:Ty,v2=.agg x.vs.toArray∧((j.read nd a).k=4→x=j.read nd a))∧R1 w0 j v p ((true&&r.set a)&&((j.read nd a).k==4)) r nd w u
 | [_,v2,v3],u=>(∃x:Ty,v2=.agg x.vs.toArray∧((j.read nd a).k=4→x=j.read nd a))∧v3=.agg (j.read nd b).vs.toArray∧R1 w0 j v p (((true&&r.set a)&&((j.read nd a).k==4))&&r.set b) r nd w u
 | _,_=>False
theorem Iv1.r1 {w0:World}{j:Jd}{v p:Nat}{r:Rst}{nd:Nd}{a b:Nat}{w:World}:∀{vs:List Value} {u:World},Iv1 w0 j v p r nd a b w vs u→∃ok,R1 w0 j v p ok r nd w u
 | [],_,h=>⟨_,h⟩
 | [_],_,h=>⟨_,h.2⟩
 | [_,_],_,h=>⟨_,h.2⟩
 | [_,_,_],_,h=>⟨_,h.2.2⟩
 | [_,_,_,_],_,h=>⟨_,h.2.2⟩
 | _ :: _ :: _ :: _ :: _ :: _,_,h=>h.elim
theorem Iv1.kept {w0:World}{j:Jd}{v p:Nat}{r:Rst}{nd:Nd}{a b:Nat}{w:World}{u':World}:∀{vs:List Value} {u:World},Iv1 w0 j v p r nd a b w vs u→Below u.heap.size u u'→Iv1 w0 j v p r nd a b w vs u'
 | [],_,h,hb=>R1.kept h hb
 | [_],_,h,hb=>⟨h.1,h.2.kept hb⟩
 | [_,_],_,h,hb=>⟨h.1,h.2.kept hb⟩
 | [_,_,_],_,h,hb=>⟨h.1,h.2.1,h.2.2.kept hb⟩
 | [_,_,_,_],_,h,hb=>⟨h.1,h.2.1,h.2.2.kept hb⟩
 | _ :: _ :: _ :: _ :: _ :: _,_,h,_=>h.elim
theorem Iv4.r1 {w0:World}{j:Jd}{v p:Nat}{r:Rst}{nd:Nd}{a b:Nat}{w:World}:∀{vs:List Value} {u:World},Iv4 w0 j v p r nd a b w vs u→∃ok,R1 w0 j v p ok r nd w u
 | [],_,h=>⟨_,h⟩
 | [_],_,h=>⟨_,h.2⟩
 | [_,_],_,h=>⟨_,h.2⟩
 | [_,_,_],_,h=>⟨_,h.2.2⟩
 | _ :: _ :: _ :: _ :: _,_,h=>h.elim
theorem Iv4.kept {w0:World}{j:Jd}{v p:Nat}{r:Rst}{nd:Nd}{a b:Nat}{w:World}{u':World}:∀{vs:List Value} {u:World},Iv4 w0 j v p r nd a b w vs u→Below u.heap.size u u'→Iv4 w0 j v p r nd a b w vs u'
 | [],_,h,hb=>R1.kept h hb
 | [_],_,h,hb=>⟨h.1,h.2.kept hb⟩
 | [_,_],_,h,hb=>⟨h.1,h.2.kept hb⟩
 | [_,_,_],_,h,hb=>⟨h.1,h.2.1,h.2.2.kept hb⟩
 | _ :: _ :: _ :: _ :: _,_,h,_=>h.elim
theorem zp3 {j:Jd}{nd:Nd}{a b:Nat}(hop:nd.h.op=4)(ha:nd.h.a=a)(hb:nd.h.b=b)(h1:(j.read nd a).k=1)(h2:(j.read nd b).k=1):j.makes nd=(leafT (if nd.h.n=11∨nd.h.n=12 then 2 else 1) (zad j.n j.g (j.read nd a).l (j.read nd b).l),if nd.h.n=9∨nd.h.n=10 then (j.read nd b).l else -1):=by
 unfold Jd.makes;rw[hop];show j.reck nd=_
 unfold Jd.reck;rw[ha,hb,h1,h2];rfl
theorem zcl {nd:Nd}{a b:Nat}(r:Rst)(hop:nd.h.op=4∨nd.h.op=6∨nd.h.op=11∨nd.h.op=14)(ha:nd.h.a=a)(hb:nd.h.b=b):nd.h.rds.all (fun i=>r.set i.toNat)=(r.set a&&r.set b):=by
 unfold Hd.rds;rw[if_neg (by omega),if_pos hop,ha,hb];simp
theorem zxj {j:Jd}{nd:Nd}{a b d:Nat}{r:Rst}(hop:nd.h.op=4)(ha:nd.h.a=a)(hb:nd.h.b=b)(h:((((true&&r.set a)&&((j.read nd a).k==1))&&r.set b)&&((j.read nd b).k==1))=false):ze6 j nd d r false r:=by
 refine⟨?_,fun h=>by cases h⟩;rw[zcl r (Or.inl hop) ha hb];by_cases hk:(j.read nd a).k=1∧(j.read nd b).k=1
 ·rw[hk.1,hk.2] at h;cases h1:r.set a <;> cases h2:r.set b <;> simp[h1,h2] at h ⊢
 ·have hz:j.makes nd=(leafT 0 0,-1):=by
   unfold Jd.makes;rw[hop];show j.reck nd=_
   unfold Jd.reck;rw[ha,hb,if_pos (by simp;omega)]
  rw[hz,zdy];simp
theorem zmg (w0:World)(j:Jd)(nd:Nd)(a b d v p:Nat)(r:Rst)(w:World)(hd:Dt w0 j)(hx:Rx w0 j v p true r w)(hm:r.m=j.f.slots.len)(ha:nd.h.a=a)(hb:nd.h.b=b)(hdst:nd.h.dst=d)(hia:a<r.m)(hib:b<r.m)(hi:d<r.m)(hop:nd.h.op=4)(hN:6≤nd.h.n∧nd.h.n≤12) :
  Calls Tryz.prog 97 #[.pointer (some ⟨v,0,none⟩),.pointer (some ⟨p,0,none⟩),.agg nd.vs.toArray] w fun e w'=>e=.returned (.tuple #[])∧∃ok' r',Rg w0 j v p ok' r' w w'∧r'.q=r.q∧r'.m=r.m∧ze6 j nd d r ok' r':=by
 have HO:=hid (show nd.h.op=4∧6≤nd.h.n∧nd.h.n≤12 from ⟨hop,hN⟩);have HD:=hid (show Dt w0 j∧r.m=j.f.slots.len∧(a<r.m∧b<r.m)∧nd.h.dst=d∧d<r.m from ⟨hd,hm,⟨hia,hib⟩,hdst,hi⟩);have HE:=hid (show nd.h.a=a∧nd.h.b=b from ⟨ha,hb⟩);have HR:=hid (R1.new nd hx);clear hx hm hd ha hb hdst hia hib hi hop hN;go_enter Tryz.func97,Tryz.ntmps97
 go_upto_region 1 with fail
 generalize (w.alloc (.cells nd.vs.toArray 86))=w1 at *;go_cut [6,7] (fun c6 c7 wx=>∃B0 B1:Nat,c6=.pointer (some ⟨B0,0,none⟩)∧c7=.pointer (some ⟨B1,0,none⟩)∧∃(x1 x2:Ty),Hid (R2 w0 j v p ((((true&&r.set a)&&((j.read nd a).k==1))&&r.set b)&&((j.read nd b).k==1)) r nd x1 x2 B0 B1 w wx)∧Hid ((j.read nd a).k=1→x1=j.read nd a)∧Hid ((j.read nd b).k=1→x2=j.read nd b))
 case first =>
  have D1:=(Below.refl w1.heap.size w1).drew;have hCN:∀q,(∃x:Wd (fun q=>Blk q w.heap.size nd.vs 86),q=x.w)→q.rangeAt w.heap.size 0 nd.vs:=by rintro _ ⟨x,rfl⟩;exact x.2.range
  have pa:∀x:Wd (fun q=>Blk q w.heap.size nd.vs 86),x.w.cell? ⟨w.heap.size,2,none⟩=some (.int .i64 a):=fun x=>x.2.cell 2 (by rw[←HE.out.1];rfl)
  have pb:∀x:Wd (fun q=>Blk q w.heap.size nd.vs 86),x.w.cell? ⟨w.heap.size,3,none⟩=some (.int .i64 b):=fun x=>x.2.cell 3 (by rw[←HE.out.2];rfl)
  have hNE:Nonempty (Wd (fun q=>Blk q w.heap.size nd.vs 86)):=⟨⟨_,HR.out.N⟩⟩;have HR2:=hid (HR.out.kept D1);refine zal (fun q=>Blk q w.heap.size nd.vs 86) [0,1,2,3,4,5,8,9,10,11,12,13] 8 (by kernel_rfl) rfl (by kernel_rfl) (zbt (by kernel_rfl)) HR2.out.N ?_;simp only[List.filterMap,zD,zE];iterate 3 go_big_quiet_step (fail)
  go_big_quiet_want;refine zaa 86 (.tmp 5) rfl w.heap.size 0 (by kernel_rfl) nd.vs _ hCN Tryz.underlying86 rfl (by kernel_rfl) ?_;simp only[Act.put,zA,zB,zC];go_big_quiet_on;iterate 5 go_big_quiet_step (fail)
  go_big_quiet_want;refine zaa 86 (.tmp 5) rfl w.heap.size 0 (by kernel_rfl) nd.vs _ hCN Tryz.underlying86 rfl (by kernel_rfl) ?_;simp only[Act.put,zA,zB,zC];go_big_quiet_on;iterate 2 go_big_quiet_step (fail)
  refine wpQuiet_nil ?_;clear pa pb hCN hNE D1 HR;generalize w1.drew=y0 at *;refine zix [6,7,14,15] [16,17,24,25] 16 17 6 7 38 zTv (zb0 [0,1,2,3,4,5,8,9,10,11,12,13] (Array.replicate 20 false)) (by kernel_rfl) alloc_ty _ (w.heap.size+1) 2 (Iv1 w0 j v p r nd a b w) (fun vs u h=>by obtain⟨_,h⟩:=h.r1;exact h.N) (fun vs u h=>⟨h.kept (zac _ _),by obtain⟨_,h⟩:=h.r1;exact h.base⟩) ?_ ?_ 6 [] none none y0 rfl (by simp) HR2.out (by intro B h;cases h) (by intro B h;cases h) (by intro B h;cases h)
  ·intro vs c oc u q1 q2 hc hoc hI
   match vs,hc,hI with
   | [],hc,hI =>
    have e:=(Option.some.inj hc).symm;subst e;have e:=(Option.some.inj hoc).symm;subst e;refine⟨96,#[.pointer (some ⟨v,0,none⟩),.pointer (some ⟨p,0,none⟩),.agg nd.vs.toArray,.int .i64 a],by cases q1 <;> cases q2 <;> kernel_rfl,?_⟩
    exact (R1.read hI HD.out.1 HD.out.2.1 HD.out.2.2.1.1).mono fun e w' ⟨h1,h2,h3⟩=>⟨_,h1,⟨rfl,h2⟩,h3⟩
   | [v1],hc,hI =>
    have e:=(Option.some.inj hc).symm;subst e;have e:=(Option.some.inj hoc).symm;subst e;obtain⟨rfl,hI⟩:=hI;refine⟨98,#[.pointer (some ⟨v,0,none⟩),.agg (j.read nd a).vs.toArray,.int .i64 1],by cases q1 <;> cases q2 <;> kernel_rfl,?_⟩
    exact (R1.kind hI HD.out.1 HD.out.2.1 HD.out.2.2.1.1 1 (by decide) (by decide)).mono fun e w' ⟨⟨x,h1,hk⟩,h2,h3⟩=>⟨_,h1,⟨⟨x,rfl,hk.2.1⟩,h2⟩,h3⟩
   | [v1,v2],hc,hI =>
    have e:=(Option.some.inj hc).symm;subst e;have e:=(Option.some.inj hoc).symm;subst e;obtain⟨hx,hI⟩:=hI;refine⟨96,#[.pointer (some ⟨v,0,none⟩),.pointer (some ⟨p,0,none⟩),.agg nd.vs.toArray,.int .i64 b],by cases q1 <;> cases q2 <;> kernel_rfl,?_⟩
    exact (R1.read hI HD.out.1 HD.out.2.1 HD.out.2.2.1.2).mono fun e w' ⟨h1,h2,h3⟩=>⟨_,h1,⟨hx,rfl,h2⟩,h3⟩
   | [v1,v2,v3],hc,hI =>
    have e:=(Option.some.inj hc).symm;subst e;have e:=(Option.some.inj hoc).symm;subst e;obtain⟨hx,rfl,hI⟩:=hI;refine⟨98,#[.pointer (some ⟨v,0,none⟩),.agg (j.read nd b).vs.toArray,.int .i64 1],by cases q1 <;> cases q2 <;> kernel_rfl,?_⟩
    exact (R1.kind hI HD.out.1 HD.out.2.1 HD.out.2.2.1.2 1 (by decide) (by decide)).mono fun e w' ⟨⟨x,h1,hk⟩,h2,h3⟩=>⟨_,h1,⟨hx,⟨x,rfl,hk.2.1⟩,h2⟩,h3⟩
   | _ :: _ :: _ :: _ :: _,hc,_=>simp at hc
  ·intro vs B1 B2 u hl hI hb1 hb2 hB1 hB2 hne
   match vs,hl,hI with
   | [v1,v2,v3,v4],_,hI =>
    obtain⟨⟨x1,rfl,hx1⟩,⟨x2,rfl,hx2⟩,hI⟩:=hI;have HX:=hid (show ((j.read nd a).k=1→x1=j.read nd a)∧((j.read nd b).k=1→x2=j.read nd b) from ⟨hx1,hx2⟩);have HI:=hid hI;have HB:=hid (show (Blk u B1 zTv 38∧Blk u B2 zTv 38)∧w.heap.size+1≤B1∧w.heap.size+1≤B2∧B1≠B2 from ⟨⟨hb1,hb2⟩,hB1,hB2,hne⟩);clear hx1 hx2 hI hb1 hb2 hB1 hB2 hne;simp only[Fr,putL,putO,Option.map,ptA,Act.put,zA,zB,zC];refine wpAnyH_ready (rs:=[18]) (by kernel_rfl) (by simp) ?_;refine AllReadyH.cons rfl (fun K hK=>?_) AllReadyH.nil;rw[if_pos (by rfl)];refine zak 38 (.tmp 6) (.tmp 17) rfl rfl B1 x1.vs zTv (by kernel_rfl) (by kernel_rfl) x1.vs_one HB.out.1.1 rfl (by kernel_rfl) ?_;intro u2 W2;have HI2:=hid (HI.out.other W2 HB.out.2.1);have HB2:=hid (show Blk u2 B1 x1.vs 38∧Blk u2 B2 zTv 38 from ⟨W2.blk,W2.keep HB.out.1.2 (by have:=HB.out.2;omega)⟩)
    refine hK.out _ _ HI2.out.N (fun _=>?_);clear hK K W2 HI;refine wpAnyH_ready (rs:=[19]) (by kernel_rfl) (by simp) ?_;refine AllReadyH.cons rfl (fun K hK=>?_) AllReadyH.nil;rw[if_pos (by rfl)];refine zak 38 (.tmp 7) (.tmp 25) rfl rfl B2 x2.vs zTv (by kernel_rfl) (by kernel_rfl) x2.vs_one HB2.out.2 rfl (by kernel_rfl) ?_;intro u3 W3;have HI3:=hid (HI2.out.other W3 HB.out.2.2.1);have HB3:=hid (show Blk u3 B1 x1.vs 38∧Blk u3 B2 x2.vs 38 from ⟨W3.keep HB2.out.1 (by have:=HB.out.2;omega),W3.blk⟩)
    refine hK.out _ _ HI3.out.N (fun _=>?_);clear hK K W3 HI2 HB2;refine wpAnyH_done (by kernel_rfl) ?_ _;refine⟨(fun c hc=>by cases hc),?_⟩;go_wp2;go_meet
    case rel=>exact⟨B1,B2,rfl,rfl,x1,x2,⟨HI3.out,HB3.out.1,HB3.out.2,HB.out.2.1,HB.out.2.2.1⟩,HX.out.1,HX.out.2⟩
 case rest =>
  obtain⟨B0,B1,rfl,rfl,x1,x2,hR,hx1,hx2⟩:=hcut;clear HR;generalize hok:((((true&&r.set a)&&((j.read nd a).k==1))&&r.set b)&&((j.read nd b).k==1))=ok at hR;have HK:=hid hok;clear hok;have HR:=hR;clear hR;have c19:=HR.out.g.g.x.cw 19 (x:=.bool ok) rfl;cases ok
  ·go_wp2;refine bodyPost_ret (v:=.tuple #[]) (by kernel_rfl) rfl ?_;exact⟨rfl,false,r,HR.out.g.g,rfl,rfl,zxj HO.out.1 HE.out.1 HE.out.2 HK.out⟩
  ·have HS:=hid (show (r.set a=true∧r.set b=true)∧(j.read nd a).k=1∧(j.read nd b).k=1 from by have h:=HK.out;simp only[Bool.and_eq_true,beq_iff_eq] at h;exact⟨⟨h.1.1.1.2,h.1.2⟩,h.1.1.2,h.2⟩)
   have e1:=hx1.out HS.out.2.1;have e2:=hx2.out HS.out.2.2;subst e1 e2;have y1:=HR.out.b1.cell 1 (v:=.int .i64 (j.read nd a).l) rfl;have y2:=HR.out.b2.cell 1 (v:=.int .i64 (j.read nd b).l) rfl;have HM:=hid (zp3 HO.out.1 HE.out.1 HE.out.2 HS.out.2.1 HS.out.2.2);clear hx1 hx2 HK;go_upto_region 3 with fail
   have hB:=zbu j.n j.g j.fns j.f true v (j.read nd a).l (j.read nd b).l wc HR.out.g.g.x.W (HD.out.1.n.kept HR.out.g.g.x.bl) (HD.out.1.g.kept HR.out.g.g.x.bl);go_wp2_with fail
   refine hB.mono ?_;rintro _ u1 ⟨rfl,hb1⟩;have HR1:=hid (HR.out.kept hb1);clear c19 y1 y2 hB hb1 HR;generalize hbv:zad j.n j.g (j.read nd a).l (j.read nd b).l=bv at *;clear hbv;have hN:=zac u1 (.cells #[.int .i64 1,.int .i64 bv,.slice none 0 0,.int .i64 0,.int .i64 0] 38);have HR2:=hid (show R2 w0 j v p true r nd (j.read nd a) (j.read nd b) B0 B1 w (u1.alloc (.cells #[.int .i64 1,.int .i64 bv,.slice none 0 0,.int .i64 0,.int .i64 0] 38))∧Blk (u1.alloc (.cells #[.int .i64 1,.int .i64 bv,.slice none 0 0,.int .i64 0,.int .i64 0] 38)) u1.heap.size (leafT 1 bv).vs 38∧w.heap.size+1≤u1.heap.size from ⟨HR1.out.kept hN,Blk.new u1 (leafT 1 bv).vs _,HR1.out.g.base⟩);clear hN HR1;go_upto_region 4 with fail
   generalize (u1.alloc (.cells #[.int .i64 1,.int .i64 bv,.slice none 0 0,.int .i64 0,.int .i64 0] 38))=u2 at *;generalize u1.heap.size=B8 at *;have c4:=HR2.out.1.g.N.cell 4 (v:=.int .i64 nd.h.n) rfl;have hnn:nd.h.n=6∨nd.h.n=7∨nd.h.n=8∨nd.h.n=9∨nd.h.n=10∨nd.h.n=11∨nd.h.n=12:=by have:=HO.out.2;omega
   have HN11:Hid (nd.h.n=11→nd.vs[4]?=some (.int .i64 11)):=by intro h;rw[←h];rfl
   have HN12:Hid (nd.h.n=12→nd.vs[4]?=some (.int .i64 12)):=by intro h;rw[←h];rfl
   generalize nd.h.n=nn at *;rcases hnn with rfl | rfl | rfl | rfl | rfl | rfl | rfl
   ·replace HM:Hid (j.makes nd=(leafT 1 bv,-1)):=HM.out;have HR3:=hid (show R1 w0 j v p true r nd w u2∧Blk u2 B8 (leafT 1 bv).vs 38 from ⟨HR2.out.1.g,HR2.out.2.1⟩);have bN:=HR3.out.1.N;have b8:=HR3.out.2;go_wp2_with (first | (refine wpList_load_mid rfl 86 (.tmp 5) rfl w.heap.size 0 (by kernel_rfl) nd.vs _ bN.range Tryz.underlying86 rfl (by kernel_rfl) ?_) | (refine wpList_load_mid rfl 38 (.tmp 8) rfl B8 0 (by kernel_rfl) (leafT 1 bv).vs _ b8.range Tryz.underlying38 rfl (by kernel_rfl) ?_))
    refine (zaz w0 j nd (leafT 1 bv) (-1) d v p true r u2 HD.out.1 HR3.out.1.g.x HD.out.2.1 HD.out.2.2.2.1 HD.out.2.2.2.2 (zay _ _ _)).mono ?_;rintro _ u5 ⟨rfl,hg5⟩;have HR5:=hid (HR3.out.1.next hg5 rfl);go_wp2;go_end0;exact⟨rfl,_,_,HR5.out.g,rfl,rfl,⟨by rw[HM.out,zcl r (Or.inl HO.out.1) HE.out.1 HE.out.2,HS.out.1.1,HS.out.1.2];rfl,fun _=>by rw[HM.out]⟩⟩
   ·replace HM:Hid (j.makes nd=(leafT 1 bv,-1)):=HM.out;have HR3:=hid (show R1 w0 j v p true r nd w u2∧Blk u2 B8 (leafT 1 bv).vs 38 from ⟨HR2.out.1.g,HR2.out.2.1⟩);have bN:=HR3.out.1.N;have b8:=HR3.out.2;go_wp2_with (first | (refine wpList_load_mid rfl 86 (.tmp 5) rfl w.heap.size 0 (by kernel_rfl) nd.vs _ bN.range Tryz.underlying86 rfl (by kernel_rfl) ?_) | (refine wpList_load_mid rfl 38 (.tmp 8) rfl B8 0 (by kernel_rfl) (leafT 1 bv).vs _ b8.range Tryz.underlying38 rfl (by kernel_rfl) ?_))
    refine (zaz w0 j nd (leafT 1 bv) (-1) d v p true r u2 HD.out.1 HR3.out.1.g.x HD.out.2.1 HD.out.2.2.2.1 HD.out.2.2.2.2 (zay _ _ _)).mono ?_;rintro _ u5 ⟨rfl,hg5⟩;have HR5:=hid (HR3.out.1.next hg5 rfl);go_wp2;go_end0;exact⟨rfl,_,_,HR5.out.g,rfl,rfl,⟨by rw[HM.out,zcl r (Or.inl HO.out.1) HE.out.1 HE.out.2,HS.out.1.1,HS.out.1.2];rfl,fun _=>by rw[HM.out]⟩⟩
   ·replace HM:Hid (j.makes nd=(leafT 1 bv,-1)):=HM.out;have HR3:=hid (show R1 w0 j v p true r nd w u2∧Blk u2 B8 (leafT 1 bv).vs 38 from ⟨HR2.out.1.g,HR2.out.2.1⟩);have bN:=HR3.out.1.N;have b8:=HR3.out.2;go_wp2_with (first | (refine wpList_load_mid rfl 86 (.tmp 5) rfl w.heap.size 0 (by kernel_rfl) nd.vs _ bN.range Tryz.underlying86 rfl (by kernel_rfl) ?_) | (refine wpList_load_mid rfl 38 (.tmp 8) rfl B8 0 (by kernel_rfl) (leafT 1 bv).vs _ b8.range Tryz.underlying38 rfl (by kernel_rfl) ?_))
    refine (zaz w0 j nd (leafT 1 bv) (-1) d v p true r u2 HD.out.1 HR3.out.1.g.x HD.out.2.1 HD.out.2.2.2.1 HD.out.2.2.2.2 (zay _ _ _)).mono ?_;rintro _ u5 ⟨rfl,hg5⟩;have HR5:=hid (HR3.out.1.next hg5 rfl);go_wp2;go_end0;exact⟨rfl,_,_,HR5.out.g,rfl,rfl,⟨by rw[HM.out,zcl r (Or.inl HO.out.1) HE.out.1 HE.out.2,HS.out.1.1,HS.out.1.2];rfl,fun _=>by rw[HM.out]⟩⟩
   ·replace HM:Hid (j.makes nd=(leafT 1 bv,(j.read nd b).l)):=HM.out;have y2:=HR2.out.1.b2.cell 1 (v:=.int .i64 (j.read nd b).l) rfl;have HR3:=hid (show R1 w0 j v p true r nd w u2∧Blk u2 B8 (leafT 1 bv).vs 38 from ⟨HR2.out.1.g,HR2.out.2.1⟩);have bN:=HR3.out.1.N;have b8:=HR3.out.2;go_wp2_with (first | (refine wpList_load_mid rfl 86 (.tmp 5) rfl w.heap.size 0 (by kernel_rfl) nd.vs _ bN.range Tryz.underlying86 rfl (by kernel_rfl) ?_) | (refine wpList_load_mid rfl 38 (.tmp 8) rfl B8 0 (by kernel_rfl) (leafT 1 bv).vs _ b8.range Tryz.underlying38 rfl (by kernel_rfl) ?_))
    refine (zaz w0 j nd (leafT 1 bv) (j.read nd b).l d v p true r u2 HD.out.1 HR3.out.1.g.x HD.out.2.1 HD.out.2.2.2.1 HD.out.2.2.2.2 (zay _ _ _)).mono ?_;rintro _ u5 ⟨rfl,hg5⟩;have HR5:=hid (HR3.out.1.next hg5 rfl);go_wp2;go_end0;exact⟨rfl,_,_,HR5.out.g,rfl,rfl,⟨by rw[HM.out,zcl r (Or.inl HO.out.1) HE.out.1 HE.out.2,HS.out.1.1,HS.out.1.2];rfl,fun _=>by rw[HM.out]⟩⟩
   ·replace HM:Hid (j.makes nd=(leafT 1 bv,(j.read nd b).l)):=HM.out;have y2:=HR2.out.1.b2.cell 1 (v:=.int .i64 (j.read nd b).l) rfl;have HR3:=hid (show R1 w0 j v p true r nd w u2∧Blk u2 B8 (leafT 1 bv).vs 38 from ⟨HR2.out.1.g,HR2.out.2.1⟩);have bN:=HR3.out.1.N;have b8:=HR3.out.2;go_wp2_with (first | (refine wpList_load_mid rfl 86 (.tmp 5) rfl w.heap.size 0 (by kernel_rfl) nd.vs _ bN.range Tryz.underlying86 rfl (by kernel_rfl) ?_) | (refine wpList_load_mid rfl 38 (.tmp 8) rfl B8 0 (by kernel_rfl) (leafT 1 bv).vs _ b8.range Tryz.underlying38 rfl (by kernel_rfl) ?_))
    refine (zaz w0 j nd (leafT 1 bv) (j.read nd b).l d v p true r u2 HD.out.1 HR3.out.1.g.x HD.out.2.1 HD.out.2.2.2.1 HD.out.2.2.2.2 (zay _ _ _)).mono ?_;rintro _ u5 ⟨rfl,hg5⟩;have HR5:=hid (HR3.out.1.next hg5 rfl);go_wp2;go_end0;exact⟨rfl,_,_,HR5.out.g,rfl,rfl,⟨by rw[HM.out,zcl r (Or.inl HO.out.1) HE.out.1 HE.out.2,HS.out.1.1,HS.out.1.2];rfl,fun _=>by rw[HM.out]⟩⟩
   ·replace HM:Hid (j.makes nd=(leafT 2 bv,-1)):=HM.out;have x8:=HR2.out.2.1.cell 0 (v:=.int .i64 1) rfl;have f8:=HR2.out.2.1.frozen 0;have HR3:=hid (show R1 w0 j v p true r nd w (u2.setCell ⟨B8,0,none⟩ (.int .i64 2))∧Blk (u2.setCell ⟨B8,0,none⟩ (.int .i64 2)) B8 (leafT 2 bv).vs 38 from ⟨HR2.out.1.g.other (WroteB.cellR HR2.out.2.1 0 (.int .i64 2)) HR2.out.2.2,(WroteB.cellR HR2.out.2.1 0 (.int .i64 2)).blk⟩);go_upto_region 6 with fail
    clear c4 x8 f8 HR2;generalize u2.setCell ⟨B8,0,none⟩ (.int .i64 2)=u3 at *;have c4:=HR3.out.1.N.cell 4 (v:=.int .i64 11) (HN11.out rfl);have bN:=HR3.out.1.N;have b8:=HR3.out.2;go_wp2_with (first | (refine wpList_load_mid rfl 86 (.tmp 5) rfl w.heap.size 0 (by kernel_rfl) nd.vs _ bN.range Tryz.underlying86 rfl (by kernel_rfl) ?_) | (refine wpList_load_mid rfl 38 (.tmp 8) rfl B8 0 (by kernel_rfl) (leafT 2 bv).vs _ b8.range Tryz.underlying38 rfl (by kernel_rfl) ?_))
    refine (zaz w0 j nd (leafT 2 bv) (-1) d v p true r u3 HD.out.1 HR3.out.1.g.x HD.out.2.1 HD.out.2.2.2.1 HD.out.2.2.2.2 (zay _ _ _)).mono ?_;rintro _ u5 ⟨rfl,hg5⟩;have HR5:=hid (HR3.out.1.next hg5 rfl);go_wp2;go_end0;exact⟨rfl,_,_,HR5.out.g,rfl,rfl,⟨by rw[HM.out,zcl r (Or.inl HO.out.1) HE.out.1 HE.out.2,HS.out.1.1,HS.out.1.2];rfl,fun _=>by rw[HM.out]⟩⟩
   ·replace HM:Hid (j.makes nd=(leafT 2 bv,-1)):=HM.out;have x8:=HR2.out.2.1.cell 0 (v:=.int .i64 1) rfl;have f8:=HR2.out.2.1.frozen 0;have HR3:=hid (show R1 w0 j v p true r nd w (u2.setCell ⟨B8,0,none⟩ (.int .i64 2))∧Blk (u2.setCell ⟨B8,0,none⟩ (.int .i64 2)) B8 (leafT 2 bv).vs 38 from ⟨HR2.out.1.g.other (WroteB.cellR HR2.out.2.1 0 (.int .i64 2)) HR2.out.2.2,(WroteB.cellR HR2.out.2.1 0 (.int .i64 2)).blk⟩);go_upto_region 6 with fail
    clear c4 x8 f8 HR2;generalize u2.setCell ⟨B8,0,none⟩ (.int .i64 2)=u3 at *;have c4:=HR3.out.1.N.cell 4 (v:=.int .i64 12) (HN12.out rfl);have bN:=HR3.out.1.N;have b8:=HR3.out.2;go_wp2_with (first | (refine wpList_load_mid rfl 86 (.tmp 5) rfl w.heap.size 0 (by kernel_rfl) nd.vs _ bN.range Tryz.underlying86 rfl (by kernel_rfl) ?_) | (refine wpList_load_mid rfl 38 (.tmp 8) rfl B8 0 (by kernel_rfl) (leafT 2 bv).vs _ b8.range Tryz.underlying38 rfl (by kernel_rfl) ?_))
    refine (zaz w0 j nd (leafT 2 bv) (-1) d v p true r u3 HD.out.1 HR3.out.1.g.x HD.out.2.1 HD.out.2.2.2.1 HD.out.2.2.2.2 (zay _ _ _)).mono ?_;rintro _ u5 ⟨rfl,hg5⟩;have HR5:=hid (HR3.out.1.next hg5 rfl);go_wp2;go_end0;exact⟨rfl,_,_,HR5.out.g,rfl,rfl,⟨by rw[HM.out,zcl r (Or.inl HO.out.1) HE.out.1 HE.out.2,HS.out.1.1,HS.out.1.2];rfl,fun _=>by rw[HM.out]⟩⟩
end
end Go.Proofs.YtgioppfoceddfaaGreat
