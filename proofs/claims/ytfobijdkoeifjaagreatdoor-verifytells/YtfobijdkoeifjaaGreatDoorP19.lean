import Derived.Test.YtfobijdkoeifjaaGreatDoorP12
import Derived.Test.YtfobijdkoeifjaaGreatDoorP9
import Derived.Test.YtfobijdkoeifjaaGreatDoorP8
import Derived.Lib.SlicesCompact
import Derived.Test.YtfobijdkoeifjaaGreatDoorP18
import Derived.BigQuiet
import Derived.Test.YtfobijdkoeifjaaGreatDoorShelf
import Derived.Sort.OwnSortedInts
import Derived.Lib.OwnBridge
set_option maxRecDepth 100000
set_option maxHeartbeats 32000000
namespace Go.Proofs.YtfobijdkoeifjaaGreatDoor
section
namespace Fl
inductive Rch (W:Nat→Nat→Prop) (F:Nat→Prop) (s:Int):Nat→Prop
 | base {p:Nat}:F p→(p:Int)≠s→Rch W F s p
 | step {p q:Nat}:Rch W F s p→W p q→(q:Int)≠s→Rch W F s q
theorem Rch.ne {W:Nat→Nat→Prop}{F:Nat→Prop}{s:Int}{p:Nat}(h:Rch W F s p):(p:Int)≠s:=by
 cases h <;> assumption
theorem Rch.mono {W:Nat→Nat→Prop}{F G:Nat→Prop}{s:Int}(hF:∀p,F p→G p){p:Nat}(h:Rch W F s p):Rch W G s p:=by
 induction h with
 | base h1 h2=>exact .base (hF _ h1) h2
 | step _ h2 h3 ih=>exact .step ih h2 h3
theorem Rch.free {W:Nat→Nat→Prop}{F:Nat→Prop}{s:Int}{p:Nat}(h:Rch W F s p):Rch W F (-1) p:=by
 induction h with
 | base h1 _=>exact .base h1 (by omega)
 | step _ h2 _ ih=>exact .step ih h2 (by omega)
theorem Rch.unfree {W:Nat→Nat→Prop}{F:Nat→Prop}{s:Int}(hs:∀p:Nat,(p:Int)=s→¬Rch W F (-1) p){p:Nat}(h:Rch W F (-1) p):Rch W F s p:=by
 induction h with
 | base h1 h2=>exact .base h1 (fun e=>hs _ e (.base h1 h2))
 | step h1 h2 h3 ih=>exact .step ih h2 (fun e=>hs _ e (.step h1 h2 h3))
theorem Rch.union {W:Nat→Nat→Prop}{F G:Nat→Prop}{s:Int}{p:Nat}:Rch W (fun p=>F p∨G p) s p↔Rch W F s p∨Rch W G s p:=by
 constructor
 ·intro h
  induction h with
  | base h1 h2=>exact h1.elim (fun h=>.inl (.base h h2)) (fun h=>.inr (.base h h2))
  | step _ h2 h3 ih=>exact ih.elim (fun h=>.inl (.step h h2 h3)) (fun h=>.inr (.step h h2 h3))
 ·exact fun h=>h.elim (Rch.mono fun _=>.inl) (Rch.mono fun _=>.inr)
theorem Rch.come {W:Nat→Nat→Prop}{F:Nat→Prop}{s:Int}{p:Nat}(h:Rch W F s p):F p∨∃q,Rch W F s q∧W q p:=by
 cases h with
 | base h1 _=>exact .inl h1
 | step h1 h2 _=>exact .inr ⟨_,h1,h2⟩
theorem Rch.lt {W:Nat→Nat→Prop}{F:Nat→Prop}{s:Int}{n:Nat}(hF:∀p,F p→p<n)(hW:∀p q,W p q→q<n){p:Nat}(h:Rch W F s p):p<n:=by
 cases h with
 | base h1 _=>exact hF _ h1
 | step _ h2 _=>exact hW _ _ h2
theorem Rch.all {W:Nat→Nat→Prop}{F:Nat→Prop}{s:Int}{R:Nat→Prop}(h1:∀p,F p→(p:Int)≠s→R p)(h2:∀p q,R p→W p q→(q:Int)≠s→R q){p:Nat}(h:Rch W F s p):R p:=by
 induction h with
 | base a b=>exact h1 _ a b
 | step _ a b ih=>exact h2 _ _ ih a b
theorem zxq {W:Nat→Nat→Prop}{F S:Nat→Prop}{s:Int}(h1:∀p,F p→(p:Int)≠s→S p)(h2:∀p q,S p→W p q→(q:Int)≠s→S q)(h3:∀p,S p→Rch W F s p)(p:Nat):S p↔Rch W F s p :=
 ⟨h3 p,fun h=>h.all h1 h2⟩
noncomputable def lst (n:Nat) (P:Nat→Prop):List Nat:=open Classical in (List.range n).filter (fun p=>decide (P p))
theorem mem_lst {n:Nat}{P:Nat→Prop}{p:Nat}:p ∈ lst n P↔p<n∧P p:=by simp[lst]
theorem zpi (n:Nat)(P:Nat→Prop):(lst n P).Pairwise (·<·):=List.Pairwise.filter _ List.pairwise_lt_range
theorem lst_congr {n:Nat}{P Q:Nat→Prop}(h:∀p,p<n→(P p↔Q p)):lst n P=lst n Q:=by
 unfold lst;apply List.filter_congr
 intro p hp;have:=h p (List.mem_range.1 hp);simp[this]
theorem zgw {α:Type}(a b c:α→Bool):∀l:List α,(∀x ∈ l,c x=true→a x=true∨b x=true)→(l.filter c).length≤(l.filter a).length+(l.filter b).length
 | [],_=>by simp
 | x :: l,h=>by
  have ih:=zgw a b c l (fun y hy=>h y (List.mem_cons_of_mem _ hy));have hx:=h x (List.mem_cons_self ..);cases hc:c x
  ·cases ha:a x <;> cases hb:b x <;> simp[hc,ha,hb] <;> omega
  ·rcases hx hc with ha | hb
   ·cases hb:b x <;> simp[hc,ha,hb] <;> omega
   ·cases ha:a x <;> simp[hc,ha,hb] <;> omega
theorem zxp {n:Nat}{P Q R:Nat→Prop}(h:∀p,R p→P p∨Q p):(lst n R).length≤(lst n P).length+(lst n Q).length:=by
 unfold lst;apply zgw
 intro x _ hx
 simpa using h x (by simpa using hx)
theorem zjq:∀{a b:List Nat},a.Pairwise (·<·)→b.Pairwise (·<·)→(∀p,p ∈ a↔p ∈ b)→a=b
 | [],[],_,_,_=>rfl
 | [],y :: b,_,_,h=>absurd ((h y).2 (List.mem_cons_self ..)) (by simp)
 | x :: a,[],_,_,h=>absurd ((h x).1 (List.mem_cons_self ..)) (by simp)
 | x :: a,y :: b,ha,hb,h=>by
  rw[List.pairwise_cons] at ha hb;have e:x=y:=by
   rcases List.mem_cons.1 ((h x).1 (List.mem_cons_self ..)) with e | e
   ·exact e
   ·rcases List.mem_cons.1 ((h y).2 (List.mem_cons_self ..)) with e' | e'
    ·exact e'.symm
    ·have:=hb.1 _ e;have:=ha.1 _ e';omega
  subst e;rw[zjq ha.2 hb.2 (fun p=>by
   have:=h p;simp only[List.mem_cons] at this
   constructor
   ·intro hp;rcases this.1 (.inr hp) with e | e
    ·have:=ha.1 _ hp;omega
    ·exact e
   ·intro hp;rcases this.2 (.inr hp) with e | e
    ·have:=hb.1 _ hp;omega
    ·exact e)]
theorem lst_of {n:Nat}{P:Nat→Prop}{l:List Nat}(hr:l.Pairwise (·<·))(hm:∀p,p ∈ l↔p<n∧P p):l=lst n P :=
 zjq hr (zpi n P) (fun p=>by rw[hm,mem_lst])
structure Ahd (n:Nat)(W:Nat→Nat→Prop):Prop where
 lt:∀{p q},W p q→q<n
 up:∀{p q},W p q→p<q
def zgj (W:Nat→Nat→Prop)(L:Nat→Prop)(p:Nat):Prop:=¬L p∧∃q,W p q
def Jn (W:Nat→Nat→Prop)(L:Nat→Prop)(a j:Nat):Prop:=zgj W L a∧∀p,Rch W (W a) j p→zgj W L p
inductive Meets (W:Nat→Nat→Prop) (L:Nat→Prop) (m:Nat):Nat→Prop
 | here:Meets W L m m
 | on {p:Nat}:zgj W L p→(∀q,W p q→Meets W L m q)→Meets W L m p
section
variable {n:Nat} {W:Nat→Nat→Prop} {L:Nat→Prop}
theorem Meets.le (A:Ahd n W){m p:Nat}(h:Meets W L m p):p≤m:=by
 induction h with
 | here=>exact Nat.le_refl _
 | on h1 _ ih =>
  obtain⟨q,hq⟩:=h1.2;have:=ih q hq;have:=A.up hq;omega
theorem Meets.out {m p:Nat}(h:Meets W L m p)(hne:p≠m):zgj W L p∧∀q,W p q→Meets W L m q:=by
 cases h with
 | here=>exact absurd rfl hne
 | on h1 h2=>exact⟨h1,h2⟩
theorem Meets.trans {m k p:Nat}(h:Meets W L m p)(h':Meets W L k m):Meets W L k p:=by
 induction h with
 | here=>exact h'
 | on h1 _ ih=>exact .on h1 (fun q hq=>ih q hq)
theorem Meets.split (A:Ahd n W){m k p:Nat}(h:Meets W L m p)(h':Meets W L k p)(hmk:m≤k):Meets W L k m:=by
 induction h with
 | here=>exact h'
 | @on p h1 h2 ih =>
  have hp:p≤m:=(Meets.on h1 h2).le A;by_cases e:p=k
  ·have:m=k:=by omega
   rw[this];exact .here
  ·obtain⟨q,hq⟩:=h1.2;exact ih q hq ((h'.out e).2 q hq)
theorem zfg (A:Ahd n W){a j:Nat}:Jn W L a j↔zgj W L a∧∀q,W a q→Meets W L j q:=by
 constructor
 ·intro h;refine⟨h.1,?_⟩;have key:∀d p,n - p=d→(p=j∨Rch W (W a) j p)→Meets W L j p:=by
   intro d
   induction d using Nat.strongRecOn with
   | ind d ih =>
    intro p hp h';by_cases e:p=j
    ·rw[e];exact .here
    have hr:Rch W (W a) j p:=h'.resolve_left e;refine .on (h.2 p hr) (fun q hq=>?_);have h1:=A.lt hq;have h2:=A.up hq;refine ih (n - q) (by omega) q rfl ?_;by_cases e':q=j
    ·exact .inl e'
    ·exact .inr (.step hr hq (by omega))
  intro q hq;refine key _ q rfl ?_;by_cases e:q=j
  ·exact .inl e
  ·exact .inr (.base hq (by omega))
 ·intro h;refine⟨h.1,fun p hp=>?_⟩;have key:Meets W L j p:=by
   refine hp.all (R:=fun p=>Meets W L j p∧(p:Int)≠j) (fun p h1 h2=>⟨h.2 p h1,h2⟩) (fun p q h1 h2 h3=>⟨(h1.1.out (by have:=h1.2;omega)).2 q h2,h3⟩) |>.1
  exact (key.out (by have:=hp.ne;omega)).1
theorem Jn.lt (A:Ahd n W){a j:Nat}(h:Jn W L a j):a<j:=by
 obtain⟨q,hq⟩:=h.1.2;have h1:=((zfg A).1 h).2 q hq |>.le A;have:=A.up hq;omega
theorem Jn.of_meets (A:Ahd n W){a j:Nat}(h:Meets W L j a)(hne:a≠j):Jn W L a j:=(zfg A).2 (h.out hne)
theorem Jn.meets (A:Ahd n W){a j:Nat}(h:Jn W L a j):Meets W L j a:=.on ((zfg A).1 h).1 ((zfg A).1 h).2
def IsJ (W:Nat→Nat→Prop)(L:Nat→Prop)(a j:Nat):Prop:=Jn W L a j∧∀i,Jn W L a i→j≤i
theorem IsJ.uniq {a i j:Nat}(h:IsJ W L a i)(h':IsJ W L a j):i=j:=by
 have:=h.2 _ h'.1;have:=h'.2 _ h.1;omega
theorem exists_isJ {a k:Nat}(h:Jn W L a k):∃j,IsJ W L a j∧j≤k:=by
 induction k using Nat.strongRecOn with
 | ind k ih =>
  by_cases hx:∃i,Jn W L a i∧i<k
  ·obtain⟨i,h1,h2⟩:=hx;obtain⟨j,h3,h4⟩:=ih i h2 h1;exact⟨j,h3,by omega⟩
  ·exact⟨k,⟨h,fun i hi=>Nat.le_of_not_lt fun hlt=>hx ⟨i,hi,hlt⟩⟩,Nat.le_refl _⟩
theorem meets_join (A:Ahd n W){p j k:Nat}(hj:IsJ W L p j):Meets W L k p↔k=p∨Meets W L k j:=by
 constructor
 ·intro h;by_cases e:p=k
  ·exact .inl e.symm
  ·have h1:=Jn.of_meets A h e;exact .inr ((hj.1.meets A).split A h (hj.2 _ h1))
 ·rintro (e | h)
  ·rw[e];exact .here
  ·exact (hj.1.meets A).trans h
theorem meets_none (A:Ahd n W){p k:Nat}(hj:∀j,¬Jn W L p j):Meets W L k p↔k=p:=by
 constructor
 ·intro h;by_cases e:p=k
  ·exact e.symm
  ·exact absurd (Jn.of_meets A h e) (hj k)
 ·intro e;rw[e];exact .here
theorem Jn.within (A:Ahd n W){a j p:Nat}(h:Jn W L a j)(hp:Rch W (W a) j p):a<p∧p<j:=by
 have hm:Meets W L j p∧a<p:=by
  have:=hp.all (R:=fun p=>(Meets W L j p∧a<p)∧(p:Int)≠j) (fun p h1 h2=>⟨⟨((zfg A).1 h).2 p h1,A.up h1⟩,h2⟩) (fun p q h1 h2 h3=>⟨⟨(h1.1.1.out (by have:=h1.2;omega)).2 q h2,by have:=A.up h2;have:=h1.1.2;omega⟩,h3⟩)
  exact this.1
 have:=hm.1.le A;have:=hp.ne;exact⟨hm.2,by omega⟩
theorem rch_above (A:Ahd n W){a:Nat}{s:Int}{p:Nat}(hp:Rch W (W a) s p):a<p :=
 hp.all (R:=fun p=>a<p) (fun _ h _=>A.up h) (fun _ _ h1 h2 _=>by have:=A.up h2;omega)
theorem Meets.come {F:Nat→Prop}{j p:Nat}(h:Meets W L j p)(hp:Rch W F (-1) p):Rch W F (-1) j:=by
 induction h with
 | here=>exact hp
 | on h1 _ ih =>
  obtain⟨q,hq⟩:=h1.2;exact ih q hq (.step hp hq (by omega))
theorem Jn.come (A:Ahd n W){a j:Nat}(h:Jn W L a j):Rch W (fun p=>p=a) (-1) j:=(h.meets A).come (.base rfl (by omega))
theorem Jn.place (A:Ahd n W){a j:Nat}(ha:a<n)(h:Jn W L a j):j<n :=
 (h.come A).lt (fun p e=>by omega) (fun _ _ h=>A.lt h)
theorem jn_of_holds {a k:Nat}{R:Nat→Prop}(h0:zgj W L a)(h1:∀q,W a q→R q∨q=k)(h2:∀p q,R p→W p q→R q∨q=k)(h3:∀p,R p→zgj W L p):Jn W L a k:=by
 refine⟨h0,fun p hp=>h3 p ?_⟩;exact hp.all (R:=R) (fun p h h'=>(h1 p h).resolve_right (by omega)) (fun p q h h' h''=>(h2 p q h h').resolve_right (by omega))
theorem places_of_holds (A:Ahd n W){a j k:Nat}{R:Nat→Prop}(hj:Jn W L a j)(hjk:j≤k)(h1:∀q,W a q→R q∨q=k)(h2:∀p q,R p→W p q→R q∨q=k){p:Nat}(hp:Rch W (W a) j p):R p:=by
 have key:∀p,Rch W (W a) j p→R p:=by
  intro p hp
  induction hp with
  | @base p h h'=>exact (h1 p h).resolve_right (by have:=(hj.within A (.base h h')).2;omega)
  | @step p q hp h h' ih=>exact (h2 p q ih h).resolve_right (by have:=(hj.within A (.step hp h h')).2;omega)
 exact key p hp
theorem isJ_one (A:Ahd n W){a b:Nat}(h0:¬L a)(hb:W a b)(h1:∀q,W a q→q=b):IsJ W L a b:=by
 refine⟨(zfg A).2 ⟨⟨h0,b,hb⟩,fun q hq=>by rw[h1 q hq];exact .here⟩,fun i hi=>?_⟩
 exact (((zfg A).1 hi).2 b hb).le A
theorem rch_one {a b:Nat}(h1:∀q,W a q→q=b){p:Nat}:¬Rch W (W a) b p:=by
 intro h;have:∀p,¬Rch W (W a) b p:=by
  intro p hp
  induction hp with
  | base h h'=>exact h' (by rw[h1 _ h])
  | step _ _ _ ih=>exact ih
 exact this p h
end
end Fl
end
section
open Go Go.RowKit
def blV (a:Bool):List Value:=[.bool a]
def BlAt (w:World)(r:Rw Bool):Prop:=Rw.At 1 blV (fun _ _=>True) w r
theorem BlAt.kept {w w':World}{r:Rw Bool}(h:BlAt w r)(hb:Below w.heap.size w w'):BlAt w' r:=Rw.At.kept h (fun _ k=>k) hb
def Rw.ls {α:Type}(r:Rw α):List α:=(List.range r.len).map r.x
theorem Rw.ls_len {α:Type}(r:Rw α):r.ls.length=r.len:=by simp[Rw.ls]
theorem Rw.ls_get {α:Type}(r:Rw α)(i:Nat)(hi:i<r.len):r.ls[i]?=some (r.x i):=by simp[Rw.ls,hi]
theorem Rw.mem_ls {α:Type}{r:Rw α}{a:α}:a ∈ r.ls↔∃i,i<r.len∧r.x i=a:=by simp[Rw.ls]
def Cf.pl (f:Cf)(a:Int):Bool:=decide (0≤a)&&decide (a<f.cd.len)
theorem Cf.pl_iff {f:Cf}{a:Int}:f.pl a=true↔0≤a∧a<f.cd.len:=by simp[Cf.pl]
def Cf.hit (f:Cf)(p:Int)(i:Nat):Bool:=decide ((f.hd.x i).fr≤p)&&decide (p<(f.hd.x i).tw_)
def Cf.han (f:Cf)(p:Int):Int:=match (List.range f.hd.len).find? (f.hit p) with | some i=>(f.hd.x i).at_ | none=>-1
theorem zed {p:Nat→Bool}{n j:Nat}(hj:j<n)(hp:p j=true)(hb:∀i,i<j→p i=false):(List.range n).find? p=some j:=by
 have e:List.range n=List.range j++(j :: (List.range' (j+1) (n - j - 1))):=by
  rw[List.range_eq_range',List.range_eq_range',←List.range'_succ,show n - j - 1+1=n - j by omega];have:=List.range'_append_1 (s:=0) (m:=j) (n:=n - j);rw[Nat.zero_add] at this;rw[this,show j+(n - j)=n by omega]
 rw[e,List.find?_append];have h0:(List.range j).find? p=none:=by
  rw[List.find?_eq_none];intro x hx;have:=hb x (List.mem_range.1 hx);simp[this]
 rw[h0];simp[hp]
theorem zfk {p:Nat→Bool}{n:Nat}(hb:∀i,i<n→p i=false):(List.range n).find? p=none:=by
 rw[List.find?_eq_none];intro x hx;have:=hb x (List.mem_range.1 hx);simp[this]
theorem Cf.han_hit {f:Cf}{p:Int}{j:Nat}(hj:j<f.hd.len)(hp:f.hit p j=true)(hb:∀i,i<j→f.hit p i=false):f.han p=(f.hd.x j).at_:=by
 unfold Cf.han;rw[zed hj hp hb]
theorem Cf.han_miss {f:Cf}{p:Int}(hb:∀i,i<f.hd.len→f.hit p i=false):f.han p=-1:=by
 unfold Cf.han;rw[zfk hb]
def rsG (g:Rw Bool)(p:Nat):Bool:=decide (p<g.len)&&g.x p
def rsO (op:Int):Bool:=(decide (op=9)||decide (op=10))||decide (op=26)
def Cf.rs (f:Cf)(g:Rw Bool)(p:Nat):Bool:=rsO (f.cd.x p).op||(decide ((f.cd.x p).op=19)&&rsG g p)
def nxO (op:Int):Bool:=((decide (op≠0)&&decide (op≠24))&&decide (op≠26))&&decide (op≠27)
def Cf.tg (f:Cf)(p:Nat):Int:=if ((f.cd.x p).op=24∨(f.cd.x p).op=25)∧(0≤(f.cd.x p).a∧(f.cd.x p).a<f.cd.len) then (f.cd.x p).a else -1
def Cf.lv (f:Cf)(g:Rw Bool)(p:Nat):Bool:=decide ((f.cd.x p).op=27)||(f.rs g p&&decide (f.han p=-1))
def Cf.wayH (f:Cf)(g:Rw Bool)(h:Int)(p q:Nat):Prop:=q<f.cd.len∧((q=p+1∧nxO (f.cd.x p).op=true)∨(((f.cd.x p).op=24∨(f.cd.x p).op=25)∧(f.cd.x p).a=q)∨(f.rs g p=true∧h=q))
def Cf.way (f:Cf)(g:Rw Bool)(p q:Nat):Prop:=f.wayH g (f.han p) p q
noncomputable def Cf.wsH (f:Cf) (g:Rw Bool) (h:Int) (p:Nat):List Int:=(Fl.lst f.cd.len (f.wayH g h p)).map fun q:Nat=>(q:Int)
noncomputable def Cf.ws (f:Cf) (g:Rw Bool) (p:Nat):List Int:=f.wsH g (f.han p) p
def Cf.w1 (f:Cf)(p:Nat):List Int:=if nxO (f.cd.x p).op=true∧p+1<f.cd.len then [(p:Int)+1] else []
def Cf.w2 (f:Cf)(p:Nat):List Int:=if f.tg p=-1 then [] else [f.tg p]
def Cf.w3 (f:Cf)(g:Rw Bool)(h:Int)(p:Nat):List Int:=if f.rs g p=true∧f.pl h=true then [h] else []
theorem Cf.mem_w (f:Cf)(g:Rw Bool)(h:Int)(p:Nat)(a:Int):a ∈ f.w1 p++f.w2 p++f.w3 g h p↔∃q:Nat,a=q∧f.wayH g h p q:=by
 unfold Cf.w1 Cf.w2 Cf.w3 Cf.wayH Cf.tg;simp only[List.mem_append,Cf.pl_iff]
 constructor
 ·rintro ((h1 | h1) | h1)
  ·split at h1
   ·rename_i h2
    refine⟨p+1,by simpa using h1,h2.2,Or.inl ⟨rfl,h2.1⟩⟩
   ·simp at h1
  ·by_cases h2:((f.cd.x p).op=24∨(f.cd.x p).op=25)∧(0≤(f.cd.x p).a∧(f.cd.x p).a<f.cd.len)
   ·rw[if_pos h2] at h1;rw[if_neg (by omega)] at h1;have h3:a=(f.cd.x p).a:=by simpa using h1
    refine⟨(f.cd.x p).a.toNat,by omega,by omega,Or.inr (Or.inl ⟨h2.1,by omega⟩)⟩
   ·rw[if_neg h2] at h1;simp at h1
  ·split at h1
   ·rename_i h2
    have h3:a=h:=by simpa using h1
    refine⟨h.toNat,by omega,by omega,Or.inr (Or.inr ⟨h2.1,by omega⟩)⟩
   ·simp at h1
 ·rintro ⟨q,rfl,hq,⟨rfl,h1⟩ | ⟨h1,h2⟩ | ⟨h1,h2⟩⟩
  ·left;left
   rw[if_pos ⟨h1,hq⟩];simp
  ·left;right
   rw[if_pos (show ((f.cd.x p).op=24∨(f.cd.x p).op=25)∧(0≤(f.cd.x p).a∧(f.cd.x p).a<f.cd.len) from ⟨h1,by omega,by omega⟩),if_neg (by omega),h2];simp
  ·right
   rw[if_pos ⟨h1,by omega⟩,h2];simp
theorem zke (d:Array Int)(hs:∀i j,i<j→j<d.size→d[i]! ≤ d[j]!):∀m,m≤d.size→(Lib.compactUpTo d m).Pairwise (·<·)∧(∀a,a ∈ Lib.compactUpTo d m↔∃i,i<m∧d[i]! = a)
 | 0,_=>by simp[Lib.compactUpTo]
 | m+1,hm=>by
  obtain⟨h1,h2⟩:=zke d hs m (by omega);rw[Lib.compactUpTo_succ];cases hk:Lib.keeps d m
  ·have hk':¬(m=0∨d[m]! ≠ d[m - 1]!):=by simpa [Lib.keeps] using hk
   have h3:0<m:=by omega
   have h4:d[m]! = d[m - 1]! := by
    by_cases e:d[m]! = d[m - 1]!
    ·exact e
    ·exact absurd (Or.inr e) hk'
   refine⟨by simpa using h1,fun a=>?_⟩;simp only[Bool.false_eq_true,if_false,List.append_nil];rw[h2]
   constructor
   ·rintro ⟨i,hi,rfl⟩;exact⟨i,by omega,rfl⟩
   ·rintro ⟨i,hi,rfl⟩;by_cases e:i=m
    ·subst e;exact⟨i - 1,by omega,h4.symm⟩
    ·exact⟨i,by omega,rfl⟩
  ·have hk':m=0∨d[m]! ≠ d[m - 1]! := by simpa [Lib.keeps] using hk
   refine⟨?_,fun a=>?_⟩
   ·rw[if_pos rfl,List.pairwise_append];refine⟨h1,by simp,fun x hx y hy=>?_⟩;obtain⟨i,hi,rfl⟩:=(h2 x).1 hx;have:y=d[m]! := by simpa using hy
    subst this;have h3:d[m]! ≠ d[m - 1]! := hk'.resolve_left (by omega);have h4:=hs (m - 1) m (by omega) (by omega);have h5:d[i]! ≤ d[m - 1]! := by
     by_cases e:i=m - 1
     ·rw[e];exact Int.le_refl _
     ·exact hs i (m - 1) (by omega) (by omega)
    omega
   ·rw[if_pos rfl,List.mem_append,h2]
    constructor
    ·rintro (⟨i,hi,rfl⟩ | h)
     ·exact⟨i,by omega,rfl⟩
     ·exact⟨m,by omega,(by simpa using h:a=d[m]!).symm⟩
    ·rintro ⟨i,hi,rfl⟩;by_cases e:i=m
     ·subst e;right;simp
     ·left;exact⟨i,by omega,rfl⟩
theorem zng (zs:List Int):(Lib.compact (zs.mergeSort fun x y=>decide (x≤y))).Pairwise (·<·)∧∀a,a ∈ Lib.compact (zs.mergeSort fun x y=>decide (x≤y))↔a ∈ zs:=by
 have hp:(zs.mergeSort fun x y=>decide (x≤y)).Pairwise (fun a b=>a≤b):=by
  have:=List.pairwise_mergeSort (le:=fun x y:Int=>decide (x≤y)) (fun a b c h1 h2=>by simp at h1 h2 ⊢;omega) (fun a b=>by simp;omega) zs
  exact this.imp (by simp)
 have hm:∀a,a ∈ (zs.mergeSort fun x y=>decide (x≤y))↔a ∈ zs:=fun a=>List.mem_mergeSort;generalize (zs.mergeSort fun x y=>decide (x≤y))=l at *;have key:=zke l.toArray (fun i j hij hj=>by
  have hj':j<l.length:=by simpa using hj
  have:=List.pairwise_iff_getElem.1 hp i j (by omega) hj' hij
  simpa [getElem!_pos,hj',show i<l.length by omega] using this) l.length (by simp)
 refine⟨key.1,fun a=>?_⟩;show a ∈ Lib.compactUpTo l.toArray l.length↔_
 rw[key.2,←hm,List.mem_iff_getElem]
 constructor
 ·rintro ⟨i,hi,rfl⟩;exact⟨i,hi,by simp[getElem!_pos,hi]⟩
 ·rintro ⟨i,hi,rfl⟩;exact⟨i,hi,by simp[getElem!_pos,hi]⟩
theorem zql {n:Nat}{P:Nat→Prop}{l:List Int}(hr:l.Pairwise (·<·))(hm:∀a,a ∈ l↔∃q:Nat,a=q∧(q<n∧P q)):l=(Fl.lst n P).map fun q:Nat=>(q:Int):=by
 have e:l=(l.map Int.toNat).map fun q:Nat=>(q:Int):=by
  rw[List.map_map]
  conv=>lhs;rw[←List.map_id l]
  apply List.map_congr_left
  intro a ha;obtain⟨q,rfl,_⟩:=(hm a).1 ha;simp
 rw[e]
 congr 1
 apply Fl.lst_of
 ·rw[List.pairwise_map];refine hr.imp_of_mem fun {a b} ha hb hlt=>?_;obtain⟨q,rfl,_⟩:=(hm a).1 ha;obtain⟨q',rfl,_⟩:=(hm b).1 hb
  simpa using hlt
 ·intro p;rw[List.mem_map]
  constructor
  ·rintro ⟨a,ha,rfl⟩;obtain⟨q,rfl,h⟩:=(hm a).1 ha
   simpa using h
  ·intro h;exact⟨p,(hm p).2 ⟨p,rfl,h⟩,by simp⟩
theorem Cf.wsH_eq (f:Cf)(g:Rw Bool)(h:Int)(p:Nat):Lib.compact ((f.w1 p++f.w2 p++f.w3 g h p).mergeSort fun x y=>decide (x≤y))=f.wsH g h p:=by
 obtain⟨h1,h2⟩:=zng (f.w1 p++f.w2 p++f.w3 g h p);refine zql h1 fun a=>?_;rw[h2,Cf.mem_w]
 constructor
 ·rintro ⟨q,e,hq⟩;exact⟨q,e,hq.1,hq⟩
 ·rintro ⟨q,e,_,hq⟩;exact⟨q,e,hq⟩
theorem ziz {n:Nat}{P:Nat→Prop}{a:Int}:a ∈ (Fl.lst n P).map (fun q:Nat=>(q:Int))↔∃q:Nat,a=q∧(q<n∧P q):=by
 rw[List.mem_map]
 constructor
 ·rintro ⟨q,hq,rfl⟩;exact⟨q,rfl,Fl.mem_lst.1 hq⟩
 ·rintro ⟨q,rfl,hq⟩;exact⟨q,Fl.mem_lst.2 hq,rfl⟩
def ivL (l:List Int):List Value:=l.map fun a=>.int .i64 a
def Oi (w:World)(base:Nat)(v:Value)(l:List Int):Prop:=w.ownsRow base 3 1 v l.length (ivL l)
theorem Oi.nil (w:World)(base:Nat):Oi w base (.slice none 0 0) []:=World.ownsRow_nil _ _ _ _
theorem Oi.kept {w w':World}{base:Nat}{v:Value}{l:List Int}(h:Oi w base v l)(hb:Below w.heap.size w w'):Oi w' base v l:=owk h hb
theorem Oi.rw {w:World}{base:Nat}{v:Value}{l:List Int}(h:Oi w base v l)(hl:∀a ∈ l,I64 a)(hn:l.length≤9223372036854775807):∃r:Rw Int,v=.slice r.ao r.len r.cap∧NmAt w r∧r.ls=l∧(r.ao=none→r.len=0∧r.cap=0)∧base≤r.b:=by
 have h':=h;obtain⟨_,⟨rfl,h0⟩ | ⟨g,cap,cur,rfl,hb,hg,hn',hc,hs,ht⟩⟩:=h
 ·have:l=[]:=List.eq_nil_of_length_eq_zero h0;subst this;exact⟨⟨none,base,0,0,0,fun _=>0⟩,rfl,⟨fun h=>absurd h (Nat.lt_irrefl _),Nat.zero_le _,fun _ h=>absurd h (Nat.not_lt_zero _),fun _ h=>absurd h (Nat.not_lt_zero _)⟩,rfl,fun _=>⟨rfl,rfl⟩,Nat.le_refl _⟩
 ·have hget:∀i,i<l.length→l.getD i 0 ∈ l:=fun i hi=>by
   rw[List.getD_eq_getElem?_getD,List.getElem?_eq_getElem hi];exact List.getElem_mem _
  refine⟨⟨some ⟨g,0,none⟩,g,0,l.length,cap,fun i=>l.getD i 0⟩,rfl,⟨fun _=>rfl,hn,fun i hi=>?_,fun i hi=>hl _ (hget i hi)⟩,?_,(fun h=>by cases h),hb⟩
  ·intro j v hv
   match j with
   | 0 =>
    have e:v=.int .i64 (l.getD i 0):=by simpa [numV] using hv.symm
    subst e;show w.cell? ⟨g,0+i*1+0,none⟩=_
    have hi':i<l.length:=hi;have:=World.ownsRow.cells h' (g:=g) rfl i (.int .i64 (l.getD i 0)) (by simp[ivL,hi']);rw[adp] at this
    simpa using this
   | j+1=>simp[numV] at hv
  ·unfold Rw.ls;apply List.ext_getElem?
   intro i;by_cases hi:i<l.length
   ·simp[hi]
   ·rw[List.getElem?_eq_none (by simp;omega),List.getElem?_eq_none (by omega)]
theorem zc9 (f:Cf)(a:Int)(w:World):Calls Tryz.prog 84 #[.agg f.vs.toArray,.int .i64 a] w fun e w'=>e=.returned (.bool (f.pl a))∧Below w.heap.size w w':=by
 have B0:=hyd (zac w (.cells f.vs.toArray 44));have b:=Blk.new w f.vs 44;have c14:=b.cell 14 rfl;have HF:Hid (f.pl a=(decide (0≤a)&&decide (a<f.cd.len))):=rfl;generalize f.pl a=F at *;generalize f.vs.toArray=V at *;clear b;by_cases h1:0≤a
 ·by_cases h2:a<f.cd.len
  ·have HG:Hid (F=true):=by show _=_;rw[HF.out,decide_eq_true h1,decide_eq_true h2];rfl
   go_enter Tryz.func84,Tryz.ntmps84
   go_wp2;go_ret;exact⟨zab HG.out.symm,B0.out⟩
  ·have HG:Hid (F=false):=by show _=_;rw[HF.out,decide_eq_true h1,decide_eq_false h2];rfl
   go_enter Tryz.func84,Tryz.ntmps84
   go_wp2;go_ret;exact⟨zab HG.out.symm,B0.out⟩
 ·have HG:Hid (F=false):=by show _=_;rw[HF.out,decide_eq_false h1];rfl
  go_enter Tryz.func84,Tryz.ntmps84
  go_wp2;go_ret;exact⟨zab HG.out.symm,B0.out⟩
theorem zpk (op:Int)(w:World):Calls Tryz.prog 124 #[.int .i64 op] w fun e w'=>e=.returned (.bool (nxO op))∧Below w.heap.size w w':=by
 have HF:Hid (nxO op=(((decide (op≠0)&&decide (op≠24))&&decide (op≠26))&&decide (op≠27))):=rfl;generalize nxO op=F at *;by_cases h1:op=0
 ·subst h1;go_enter Tryz.func124,Tryz.ntmps124
  go_wp2;go_ret;exact⟨zab HF.out.symm,Below.refl _ _⟩
 by_cases h2:op=24
 ·subst h2;clear h1;go_enter Tryz.func124,Tryz.ntmps124
  go_wp2;go_ret;exact⟨zab HF.out.symm,Below.refl _ _⟩
 by_cases h3:op=26
 ·subst h3;clear h1 h2;go_enter Tryz.func124,Tryz.ntmps124
  go_wp2;go_ret;exact⟨zab HF.out.symm,Below.refl _ _⟩
 by_cases h4:op=27
 ·subst h4;clear h1 h2 h3;go_enter Tryz.func124,Tryz.ntmps124
  go_wp2;go_ret;exact⟨zab HF.out.symm,Below.refl _ _⟩
 have HG:Hid (F=true):=by show _=_;rw[HF.out,decide_eq_true h1,decide_eq_true h2,decide_eq_true h3,decide_eq_true h4];rfl
 have e1:(op != 0)=true:=by simpa using h1
 have e2:(op != 24)=true:=by simpa using h2
 have e3:(op != 26)=true:=by simpa using h3
 have e4:(op != 27)=true:=by simpa using h4
 clear h1 h2 h3 h4;go_enter Tryz.func124,Tryz.ntmps124
 go_wp2;go_ret;exact⟨zab HG.out.symm,Below.refl _ _⟩
theorem zbo {a b:Int}(h:a=b):Ending.returned (.int .i64 a)=.returned (.int .i64 b):=by rw[h]
structure Fx (w0:World)(f:Cf)(B:Nat)(w:World):Prop where
 bl:Below w0.heap.size w0 w
 b:Blk w B f.vs 44
 f:f.At w
theorem Fx.kept {w0:World}{f:Cf}{B:Nat}{w w':World}(h:Fx w0 f B w)(hb:Below w.heap.size w w'):Fx w0 f B w':=⟨Below.next h.bl hb,h.b.kept hb,Cf.At.kept hb h.f⟩
theorem Fx.new (w:World)(f:Cf)(hf:f.At w):Fx w f w.heap.size (w.alloc (.cells f.vs.toArray 44)) :=
 ⟨zac w _,Blk.new w f.vs 44,Cf.At.kept (zac w _) hf⟩
theorem zfx (f:Cf)(p:Nat)(w:World)(hf:f.At w)(hp:p<f.cd.len):Calls Tryz.prog 86 #[.agg f.vs.toArray,.int .i64 p] w fun e w'=>e=.returned (.int .i64 (f.han p))∧Below w.heap.size w w':=by
 have H1:=hyd (Fx.new w f hf);have hpl:f.pl p=true:=Cf.pl_iff.2 ⟨by omega,by omega⟩;have HM:=hyd (fun h=>Cf.han_miss (f:=f) (p:=p) h);have HH:=hyd (fun j h1 h2 h3=>Cf.han_hit (f:=f) (p:=p) (j:=j) h1 h2 h3);have HHI:Hid (∀i,f.hit p i=(decide ((f.hd.x i).fr≤p)&&decide ((p:Int)<(f.hd.x i).tw_))):=fun _=>rfl;have hbd:=hf.hd.bound;have HNIL:=hyd hf.hd.nil;clear hp hf;generalize f.han p=R at *;have h0:=zc9 f p (w.alloc (.cells f.vs.toArray 44));rw[hpl] at h0;have rF:=H1.out.b.range;generalize hw:w.alloc (.cells f.vs.toArray 44)=u1 at *;go_enter Tryz.func86,Tryz.ntmps86
 go_wp2_with (refine wpList_load_mid rfl 44 (.tmp 2) rfl w.heap.size 0 (by kernel_rfl) f.vs _ rF Tryz.underlying44 rfl (by kernel_rfl) ?_)
 refine h0.mono ?_;rintro _ u2 ⟨rfl,hb⟩;have H2:=hyd (H1.out.kept hb);clear h0 hb H1 rF hpl hw;have c15:=H2.out.b.cell 15 rfl;by_cases hz:0<f.hd.len
 ·rw[HNIL.out hz] at c15;go_wp2;go_loopw [14] (fun i wr=>∃(j:Nat),j≤f.hd.len∧i=.int .i64 j∧Fx w f w.heap.size wr∧(∀i,i<j→f.hit p i=false)) (fun i _=>f.hd.len - (intOf i).toNat)
  case atStart=>exact⟨0,Nat.zero_le _,rfl,H2.out,fun i hi=>absurd hi (Nat.not_lt_zero _)⟩
  case round =>
   clear H2 c15;obtain⟨j,hj,rfl,hBl,hall⟩:=hrel;have HB:=hyd hBl;have HL:=hyd hall;clear hBl hall;by_cases hlt:j<f.hd.len
   ·have ij:(j:Int)<f.hd.len:=by omega
    have r0:=HB.out.f.hd.row j hlt;have HH2:=hyd (HH.out j hlt);have HHJ:=hyd (HHI.out j);generalize f.hd.x j=x at *;go_upto_region 6 with (first | (refine wpList_load_mid rfl 123 (.tmp 16) rfl f.hd.b (f.hd.o+j*3) (by kernel_rfl) x.vs _ r0 Tryz.underlying123 rfl (by kernel_rfl) ?_) | (refine zao rfl rfl 123 rfl (.tmp 6) (.tmp 17) rfl z_hn (ze6 _) rfl x.vs.toArray (by kernel_rfl) (by kernel_rfl) rfl (by kernel_rfl) (by simpa using x.vs_one) ?_))
    have B1:=zac wr (.cells x.vs.toArray 123);have HU:=hyd (show Fx w f w.heap.size (wr.alloc (.cells x.vs.toArray 123))∧Blk _ wr.heap.size x.vs 123 from ⟨HB.out.kept B1,Blk.new wr _ _⟩);clear r0 HB B1;generalize wr.alloc (.cells x.vs.toArray 123)=U at *;generalize wr.heap.size=BX at *;have d0:=HU.out.2.cell 0 rfl;have d1:=HU.out.2.cell 1 rfl;have d2:=HU.out.2.cell 2 rfl;by_cases k1:x.fr≤(p:Int)
    ·by_cases k2:(p:Int)<x.tw_
     ·have HE:Hid (R=x.at_):=HH2.out (by rw[HHJ.out,decide_eq_true k1,decide_eq_true k2];rfl) HL.out
      go_wp2;go_ret;exact⟨zbo HE.out.symm,HU.out.1.bl⟩
     ·have HE:Hid (f.hit p j=false):=by show _=_;rw[HHJ.out,decide_eq_true k1,decide_eq_false k2];rfl
      go_wp2;go_roundw
      case rel=>exact⟨j+1,by omega,by go_num,HU.out.1,fun i hi=>by
       by_cases e:i=j
       ·rw[e];exact HE.out
       ·exact HL.out i (by omega)⟩
      case measure=>simp[intOf];omega
    ·have HE:Hid (f.hit p j=false):=by show _=_;rw[HHJ.out,decide_eq_false k1];rfl
     go_wp2;go_roundw
     case rel=>exact⟨j+1,by omega,by go_num,HU.out.1,fun i hi=>by
      by_cases e:i=j
      ·rw[e];exact HE.out
      ·exact HL.out i (by omega)⟩
     case measure=>simp[intOf];omega
   ·have e2:¬(j:Int)<f.hd.len:=by omega
    have HE:Hid (R=-1):=HM.out (fun i hi=>HL.out i (by omega));go_wp2;go_ret;exact⟨zbo HE.out.symm,HB.out.bl⟩
 ·have i0:¬(0:Int)<f.hd.len:=by omega
  have HE:Hid (R=-1):=HM.out (fun i hi=>by omega);clear hz;go_wp2;go_loopw [14] (fun i wr=>i=.int .i64 0∧Below w.heap.size w wr) (fun _ _=>0)
  case atStart=>exact⟨rfl,H2.out.bl⟩
  case round =>
   obtain⟨rfl,hb⟩:=hrel;have HB:=hyd hb;clear hb;go_wp2;go_ret;exact⟨zbo HE.out.symm,HB.out⟩
theorem zgp (f:Cf)(g:Rw Bool)(p:Nat)(w:World)(hf:f.At w)(hg:BlAt w g)(hp:p<f.cd.len):Calls Tryz.prog 87 #[.agg f.vs.toArray,.slice g.ao g.len g.cap,.int .i64 p] w fun e w'=>e=.returned (.bool (f.rs g p))∧Below w.heap.size w w':=by
 have H1:=hyd (Fx.new w f hf);have hpl:f.pl p=true:=Cf.pl_iff.2 ⟨by omega,by omega⟩;have HF:Hid (f.rs g p=(rsO (f.cd.x p).op||(decide ((f.cd.x p).op=19)&&rsG g p))):=rfl;have hbd:=hf.cd.bound;have ip:(p:Int)<f.cd.len:=by omega
 have HN14:=hyd (hf.cd.nil (by omega));have HGR:=hyd hg;clear hf hg;generalize f.rs g p=F at *;have h0:=zc9 f p (w.alloc (.cells f.vs.toArray 44));rw[hpl] at h0;have rF:=H1.out.b.range;generalize hw:w.alloc (.cells f.vs.toArray 44)=u1 at *;go_enter Tryz.func87,Tryz.ntmps87
 go_wp2_with (refine wpList_load_mid rfl 44 (.tmp 3) rfl w.heap.size 0 (by kernel_rfl) f.vs _ rF Tryz.underlying44 rfl (by kernel_rfl) ?_)
 refine h0.mono ?_;rintro _ u2 ⟨rfl,hb⟩;have H2:=hyd (H1.out.kept hb);have HG:=hyd (BlAt.kept HGR.out H2.out.bl);clear h0 hb H1 rF hpl hw HGR;have c14:=H2.out.b.cell 14 rfl;rw[HN14.out] at c14;have r0:=H2.out.f.cd.row p hp 0 _ rfl;simp only[Nat.add_zero] at r0;generalize (f.cd.x p).op=op at *;have HNG:=hyd HG.out.nil;by_cases o9:op=9
 ·subst o9;have HE:Hid (F=true):=HF.out;go_wp2;go_ret;exact⟨zab HE.out.symm,H2.out.bl⟩
 have n9:(op==9)=false:=by simpa using o9
 by_cases o10:op=10
 ·subst o10;have HE:Hid (F=true):=HF.out;go_wp2;go_ret;exact⟨zab HE.out.symm,H2.out.bl⟩
 have n10:(op==10)=false:=by simpa using o10
 by_cases o26:op=26
 ·subst o26;have HE:Hid (F=true):=HF.out;go_wp2;go_ret;exact⟨zab HE.out.symm,H2.out.bl⟩
 have n26:(op==26)=false:=by simpa using o26
 have HF2:Hid (F=(decide (op=19)&&rsG g p)):=by show _=_;rw[HF.out];unfold rsO;rw[decide_eq_false o9,decide_eq_false o10,decide_eq_false o26];rfl
 clear o9 o10 o26 HF;by_cases o19:op=19
 ·subst o19;have HF3:Hid (F=(decide (p<g.len)&&g.x p)):=HF2.out;clear n9 n10 n26;by_cases gl:p<g.len
  ·have il:(p:Int)<g.len:=by omega
   have HE:Hid (F=g.x p):=by show _=_;rw[HF3.out,decide_eq_true gl];rfl
   rw[HNG.out (by omega)];have q0:=HG.out.row p gl 0 _ rfl;simp only[Nat.add_zero,Nat.mul_one] at q0;clear gl;go_wp2;go_ret;exact⟨zab HE.out.symm,H2.out.bl⟩
  ·have il:¬(p:Int)<g.len:=by omega
   have HE:Hid (F=false):=by show _=_;rw[HF3.out,decide_eq_false gl];rfl
   clear gl;go_wp2;go_ret;exact⟨zab HE.out.symm,H2.out.bl⟩
 have n19:(op==19)=false:=by simpa using o19
 have HE:Hid (F=false):=by show _=_;rw[HF2.out,decide_eq_false o19];rfl
 clear o19 HF2;go_wp2;go_ret;exact⟨zab HE.out.symm,H2.out.bl⟩
theorem zp9 (f:Cf)(p:Nat)(w:World)(hf:f.At w)(hp:p<f.cd.len):Calls Tryz.prog 125 #[.agg f.vs.toArray,.int .i64 p] w fun e w'=>e=.returned (.int .i64 (f.tg p))∧Below w.heap.size w w':=by
 have H2:=hyd (Fx.new w f hf);have HF:Hid (f.tg p=if ((f.cd.x p).op=24∨(f.cd.x p).op=25)∧(0≤(f.cd.x p).a∧(f.cd.x p).a<f.cd.len) then (f.cd.x p).a else -1):=rfl;have hbd:=hf.cd.bound;have ip:(p:Int)<f.cd.len:=by omega
 have HN14:=hyd (hf.cd.nil (by omega));clear hf;generalize f.tg p=F at *;have c14:=H2.out.b.cell 14 rfl;rw[HN14.out] at c14;have r0:=H2.out.f.cd.row p hp;generalize f.cd.x p=x at *;generalize hw:w.alloc (.cells f.vs.toArray 44)=u2 at *;go_enter Tryz.func125,Tryz.ntmps125
 go_upto_region 2 with (first | (refine wpList_load_mid rfl 50 (.tmp 10) rfl f.cd.b (f.cd.o+p*7) (by kernel_rfl) x.vs _ r0 Tryz.underlying50 rfl (by kernel_rfl) ?_) | (refine zao rfl rfl 50 rfl (.tmp 5) (.tmp 11) rfl zfm (zem _) rfl x.vs.toArray (by kernel_rfl) (by kernel_rfl) rfl (by kernel_rfl) (by simpa using x.vs_one) ?_))
 have B1:=zac u2 (.cells x.vs.toArray 50);have HS:=hyd (show Fx w f w.heap.size _∧Blk _ u2.heap.size x.vs 50 from ⟨H2.out.kept B1,Blk.new u2 _ _⟩);clear H2 hw r0 c14 B1;generalize u2.alloc (.cells x.vs.toArray 50)=u3 at *;generalize u2.heap.size=BI at *;have d0:=HS.out.2.cell 0 rfl;have d1:=HS.out.2.cell 1 rfl;have c14:=HS.out.1.b.cell 14 rfl;rw[HN14.out] at c14;generalize x.op=op at *;generalize x.a=a at *;by_cases o1:op=24∨op=25
 ·have HF2:Hid (F=if 0≤a∧a<f.cd.len then a else -1):=by
   show _=_
   rw[HF.out];by_cases h:0≤a∧a<f.cd.len
   ·rw[if_pos ⟨o1,h⟩,if_pos h]
   ·rw[if_neg (fun k=>h k.2),if_neg h]
  clear HF;have key:∀q,(0≤a∧a<f.cd.len∧q=a)∨(0≤a∧¬a<f.cd.len∧q=-1)∨(¬0≤a∧q=-1)↔q=if 0≤a∧a<f.cd.len then a else -1:=by
   intro q;by_cases h1:0≤a <;> by_cases h2:a<f.cd.len <;> simp[h1,h2]
  have HK:=hyd ((key F).2 HF2.out);clear key HF2;by_cases a1:a<0
  ·have HE:Hid (F=-1):=by rcases HK.out with h | h | h;exact absurd h.1 (by omega);exact absurd h.1 (by omega);exact h.2
   clear HK;rcases o1 with o1 | o1
   ·subst o1;go_wp2;go_ret;exact⟨zbo HE.out.symm,HS.out.1.bl⟩
   ·subst o1;go_wp2;go_ret;exact⟨zbo HE.out.symm,HS.out.1.bl⟩
  ·by_cases a2:(f.cd.len:Int)≤a
   ·have HE:Hid (F=-1):=by rcases HK.out with h | h | h;exact absurd h.2.1 (by omega);exact h.2.2;exact h.2
    clear HK;rcases o1 with o1 | o1
    ·subst o1;go_wp2;go_ret;exact⟨zbo HE.out.symm,HS.out.1.bl⟩
    ·subst o1;go_wp2;go_ret;exact⟨zbo HE.out.symm,HS.out.1.bl⟩
   ·have HE:Hid (F=a):=by rcases HK.out with h | h | h;exact h.2.2;exact absurd h.2.1 (by omega);exact absurd h.1 (by omega)
    clear HK;rcases o1 with o1 | o1
    ·subst o1;go_wp2;go_ret;exact⟨zbo HE.out.symm,HS.out.1.bl⟩
    ·subst o1;go_wp2;go_ret;exact⟨zbo HE.out.symm,HS.out.1.bl⟩
 ·have HE:Hid (F=-1):=by show _=_;rw[HF.out,if_neg (fun h=>o1 h.1)]
  have n1:(op==24)=false:=by simp;omega
  have n2:(op==25)=false:=by simp;omega
  clear o1 HF;go_wp2;go_ret;exact⟨zbo HE.out.symm,HS.out.1.bl⟩
theorem znd {P:Program}{ops:Array Oper}{rest:List Oper}{o:Oper}{a:Act}{w:World}{Q:Exit→Act→World→Prop}(hw:Region.wanted o (yielded ops a.tmps)=true)(h:o.wp P a w (wpList P ops Q rest) Q):wpList P ops Q (o :: rest) a w:=by
 unfold wpList;rw[if_pos hw];exact .inl h
theorem zcp {P:Program}{ops:Array Oper}{rest:List Oper}{op:Oper}{a:Act}{w:World}{Q:Exit→Act→World→Prop}(hw:Region.wanted op (yielded ops a.tmps)=true)(ty:TypeId)(x:Operand)(ho:op.op=.load ty x)
  (b o:Nat) (hx:a.eval x=.pointer (some ⟨b,o,none⟩)) (cs:List Value) (d:TypeDesc) (hc:w.rangeAt b o cs)
  (hu:P.underlying ty=some d) (hd:d.isRow=true) (hi:(P.info? ty).map (·.size)=some cs.length)
  (h:wpList P ops Q rest (a.put op.dst (.agg cs.toArray)) w):wpList P ops Q (op :: rest) a w :=
 znd hw (wp_load_mid ty x ho b o hx cs d hc hu hd hi h)
theorem zw5 (l:List Int):∀u ∈ ivL l,u.oneCell'=true:=by
 intro u hu;obtain⟨a,_,rfl⟩:=List.mem_map.1 hu;rfl
theorem Tryz.infoI:(Tryz.prog.info? 3).map (fun i=>(i.zero,i.size,i.bytes))=some (some (.int .i64 0),1,8):=by kernel_rfl
theorem zom {w:World}{cs:List Value}{t:TypeId}:∀a:Addr,some (⟨w.heap.size,0,none⟩:Addr)=some a→∀j u,cs[j]?=some u→(w.alloc (.cells cs.toArray t)).cell? (a.add j)=some u:=by
 intro a ha j u hj;cases ha
 rw[adp];simp only[Nat.zero_add];exact (Blk.new w cs t).cell j hj
theorem zef {w:World}{ops:Array Oper}{rest:List Oper}{o:Oper}{a:Act}{Q:Exit→Act→World→Prop}(hgd:o.guard=none)(s x:Operand)
  (hop:o.op=.call { callee:=.builtin .append,args:=#[s,x],argTypes:=#[51,51] }) (base:Nat) (v:Value) (l:List Int) (z:Int) (hs:a.eval s=v) (ho:Oi w base v l) (hx:a.eval x=.slice (some ⟨w.heap.size,0,none⟩) 1 1) (hl:l.length≤1000000) (hb:base≤w.heap.size)
  (h:∀v' w',Oi w' base v' (l++[z])→w.grownBy w' v.ownBlock→wpList Tryz.prog ops Q rest (a.put o.dst v') w'):wpList Tryz.prog ops Q (o :: rest) a (w.alloc (.cells #[.int .i64 z] 3)):=by
 have hE:(w.alloc (.cells #[.int .i64 z] 3)).ownsRow base 3 1 v l.length (ivL l):=ho.alloc _;refine zeq Tryz.underlying51 Tryz.infoI rfl (by decide) hgd s x hop base v l.length (ivL l) hs hE (some ⟨w.heap.size,0,none⟩) 1 1 [.int .i64 z] hx (fun h=>by cases h) rfl (zom (cs:=[.int .i64 z])) (zw5 [z]) (by unfold maxLen;omega) (by omega) (by rw[alloc_size];omega) ?_
 intro v' w' h1 h2;refine h v' w' ?_ ?_
 ·unfold Oi;rw[List.length_append,ivL,List.map_append];exact h1
 ·have g0:=World.grownBy_alloc w (.cells #[.int .i64 z] 3) v.ownBlock;refine⟨h2.os.trans g0.os,h2.tape.trans g0.tape,h2.output.trans g0.output,Nat.le_trans g0.size h2.size,fun k hk hne=>?_⟩;rw[h2.block k (by rw[alloc_size];omega) hne]
  exact g0.block k hk hne
theorem zv5 (w:World)(base:Nat)(v:Value)(l:List Int)(h:Oi w base v l)(hl:l.length≤1000000):Calls Tryz.prog 126 #[v] w fun e w'=>e=.returned (.tuple #[])∧Oi w' base v (l.mergeSort fun x y=>decide (x≤y))∧w.grownBy w' v.ownBlock:=by
 have hlen:(l.mergeSort fun x y=>decide (x≤y)).length=l.length:=List.length_mergeSort l;have h':=h;obtain⟨_,⟨rfl,h0⟩ | ⟨g,cap,cur,rfl,hb,hg,hn,hc,hs,ht⟩⟩:=h
 ·have e:l=[]:=List.eq_nil_of_length_eq_zero h0;subst e;refine (Tryz.slices_Sort_int_none none 0 w).mono ?_;rintro e w' ⟨rfl,rfl⟩;exact⟨rfl,by rw[List.mergeSort_nil];exact h',gbr _ _⟩
 ·have hH:=holds_of_blockI (ss:=l) hg (by rw[Nat.mul_one] at ht;exact ht)
  refine (Tryz.slices_Sort_int g 0 cap l w hH (Array.getElem?_eq_some_iff.1 hg).1 (by omega)).mono ?_;rintro e w' ⟨rfl,n,os,rfl⟩;refine⟨rfl,?_,grownBy_sortedI _⟩;have:=ownsRow_sortedI (n:=n) (os:=os) (ts:=l.mergeSort fun x y=>decide (x≤y)) hlen hb hg hn hc hs;unfold Oi;rw[hlen];exact this
theorem zpn (l:List Int):(Lib.compact l).length≤l.length:=by
 show (List.map _ (List.filter _ _)).length≤_
 rw[List.length_map];exact Nat.le_trans (List.length_filter_le _ _) (by simp)
theorem zqe (w:World)(base:Nat)(v:Value)(l:List Int)(h:Oi w base v l)(hl:l.length≤1000000):Calls Tryz.prog 127 #[v] w fun e w'=>∃v',e=.returned v'∧Oi w' base v' (Lib.compact l)∧w.grownBy w' v.ownBlock:=by
 have h':=h;obtain⟨_,⟨rfl,h0⟩ | ⟨g,cap,cur,rfl,hb,hg,hn,hc,hs,ht⟩⟩:=h
 ·have e:l=[]:=List.eq_nil_of_length_eq_zero h0;subst e;refine (Tryz.slices_Compact_int_empty none 0 w).mono ?_;rintro e w' ⟨rfl,rfl⟩;exact⟨_,rfl,h',gbr _ _⟩
 ·have hH:=holds_of_blockI (ss:=l) hg (by rw[Nat.mul_one] at ht;exact ht)
  have hcl:=zpn l;refine (Tryz.slices_Compact_int g 0 cap l w hH (by omega) hn).mono ?_;rintro e w' ⟨rfl,q,rfl⟩;refine⟨_,rfl,?_,?_⟩
  ·have:=Lib.ownsRow_putRow (enc:=Value.int .i64) (q:=q) (k:=(Lib.compact l).length) (ys:=Lib.compact l++List.replicate (l.length - (Lib.compact l).length) 0) (zs:=l) (cap:=cap) (g:=g) (w:=w) (base:=base) (e:=3) (n:=l.length) h' (by simp;omega) hcl
   rw[List.take_left] at this;exact this
  ·have:=grownBy_sortedI (w:=w) (g:=g) (n:=q) (os:=#[]) (Lib.compact l++List.replicate (l.length - (Lib.compact l).length) 0).toArray;rw[Sort.grow_empty] at this;exact this
end
end Go.Proofs.YtfobijdkoeifjaaGreatDoor
