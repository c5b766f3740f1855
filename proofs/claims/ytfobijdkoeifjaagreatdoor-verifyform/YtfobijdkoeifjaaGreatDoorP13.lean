import Derived.LoopN
import Derived.Laws.AppendOwn
import Derived.Laws.EntriesVeiled
import Derived.Deep.QuietTactic
import Derived.BigQuiet
import Derived.Carry
import Derived.Test.YtfobijdkoeifjaaGreatDoorP8
import Derived.Test.YtfobijdkoeifjaaGreatDoorP12
import Derived.Deep.MidRow
import Derived.Test.YtfobijdkoeifjaaGreatDoorP2
import Derived.Test.YtfobijdkoeifjaaGreatDoorP9
set_option maxRecDepth 100000
set_option maxHeartbeats 32000000
namespace Go.Proofs.YtfobijdkoeifjaaGreatDoor
section
namespace Fl
inductive Rch (W:Nat→Nat→Prop) (F:Nat→Prop) (s:Int):Nat→Prop
 | base {p:Nat}:F p→(p:Int)≠s→Rch W F s p
 | step {p q:Nat}:Rch W F s p→W p q→(q:Int)≠s→Rch W F s q
theorem Rch.ne {W:Nat→Nat→Prop}{F:Nat→Prop}{s:Int}{p:Nat}(h:Rch W F s p):(p:Int)≠s:=by
 cases h <;> assumption
theorem Rch.mono {W:Nat→Nat→Prop}{F G:Nat→Prop}{s:Int}(hF:∀p,F p→G p){p:Nat}(h:Rch W F s p):Rch W G s p:=by
 induction h with
 | base h1 h2=>exact .base (hF _ h1) h2
 | step _ h2 h3 ih=>exact .step ih h2 h3
theorem Rch.free {W:Nat→Nat→Prop}{F:Nat→Prop}{s:Int}{p:Nat}(h:Rch W F s p):Rch W F (-1) p:=by
 induction h with
 | base h1 _=>exact .base h1 (by omega)
 | step _ h2 _ ih=>exact .step ih h2 (by omega)
theorem Rch.unfree {W:Nat→Nat→Prop}{F:Nat→Prop}{s:Int}(hs:∀p:Nat,(p:Int)=s→¬Rch W F (-1) p){p:Nat}(h:Rch W F (-1) p):Rch W F s p:=by
 induction h with
 | base h1 h2=>exact .base h1 (fun e=>hs _ e (.base h1 h2))
 | step h1 h2 h3 ih=>exact .step ih h2 (fun e=>hs _ e (.step h1 h2 h3))
theorem Rch.union {W:Nat→Nat→Prop}{F G:Nat→Prop}{s:Int}{p:Nat}:Rch W (fun p=>F p∨G p) s p↔Rch W F s p∨Rch W G s p:=by
 constructor
 ·intro h
  induction h with
  | base h1 h2=>exact h1.elim (fun h=>.inl (.base h h2)) (fun h=>.inr (.base h h2))
  | step _ h2 h3 ih=>exact ih.elim (fun h=>.inl (.step h h2 h3)) (fun h=>.inr (.step h h2 h3))
 ·exact fun h=>h.elim (Rch.mono fun _=>.inl) (Rch.mono fun _=>.inr)
theorem Rch.come {W:Nat→Nat→Prop}{F:Nat→Prop}{s:Int}{p:Nat}(h:Rch W F s p):F p∨∃q,Rch W F s q∧W q p:=by
 cases h with
 | base h1 _=>exact .inl h1
 | step h1 h2 _=>exact .inr ⟨_,h1,h2⟩
theorem Rch.lt {W:Nat→Nat→Prop}{F:Nat→Prop}{s:Int}{n:Nat}(hF:∀p,F p→p<n)(hW:∀p q,W p q→q<n){p:Nat}(h:Rch W F s p):p<n:=by
 cases h with
 | base h1 _=>exact hF _ h1
 | step _ h2 _=>exact hW _ _ h2
theorem Rch.all {W:Nat→Nat→Prop}{F:Nat→Prop}{s:Int}{R:Nat→Prop}(h1:∀p,F p→(p:Int)≠s→R p)(h2:∀p q,R p→W p q→(q:Int)≠s→R q){p:Nat}(h:Rch W F s p):R p:=by
 induction h with
 | base a b=>exact h1 _ a b
 | step _ a b ih=>exact h2 _ _ ih a b
theorem zxn {W:Nat→Nat→Prop}{F S:Nat→Prop}{s:Int}(h1:∀p,F p→(p:Int)≠s→S p)(h2:∀p q,S p→W p q→(q:Int)≠s→S q)(h3:∀p,S p→Rch W F s p)(p:Nat):S p↔Rch W F s p :=
 ⟨h3 p,fun h=>h.all h1 h2⟩
noncomputable def lst (n:Nat) (P:Nat→Prop):List Nat:=open Classical in (List.range n).filter (fun p=>decide (P p))
theorem mem_lst {n:Nat}{P:Nat→Prop}{p:Nat}:p ∈ lst n P↔p<n∧P p:=by simp[lst]
theorem zph (n:Nat)(P:Nat→Prop):(lst n P).Pairwise (·<·):=List.Pairwise.filter _ List.pairwise_lt_range
theorem lst_congr {n:Nat}{P Q:Nat→Prop}(h:∀p,p<n→(P p↔Q p)):lst n P=lst n Q:=by
 unfold lst;apply List.filter_congr
 intro p hp;have:=h p (List.mem_range.1 hp);simp[this]
theorem zgw {α:Type}(a b c:α→Bool):∀l:List α,(∀x ∈ l,c x=true→a x=true∨b x=true)→(l.filter c).length≤(l.filter a).length+(l.filter b).length
 | [],_=>by simp
 | x :: l,h=>by
  have ih:=zgw a b c l (fun y hy=>h y (List.mem_cons_of_mem _ hy));have hx:=h x (List.mem_cons_self ..);cases hc:c x
  ·cases ha:a x <;> cases hb:b x <;> simp[hc,ha,hb] <;> omega
  ·rcases hx hc with ha | hb
   ·cases hb:b x <;> simp[hc,ha,hb] <;> omega
   ·cases ha:a x <;> simp[hc,ha,hb] <;> omega
theorem zxm {n:Nat}{P Q R:Nat→Prop}(h:∀p,R p→P p∨Q p):(lst n R).length≤(lst n P).length+(lst n Q).length:=by
 unfold lst;apply zgw
 intro x _ hx
 simpa using h x (by simpa using hx)
theorem zjt:∀{a b:List Nat},a.Pairwise (·<·)→b.Pairwise (·<·)→(∀p,p ∈ a↔p ∈ b)→a=b
 | [],[],_,_,_=>rfl
 | [],y :: b,_,_,h=>absurd ((h y).2 (List.mem_cons_self ..)) (by simp)
 | x :: a,[],_,_,h=>absurd ((h x).1 (List.mem_cons_self ..)) (by simp)
 | x :: a,y :: b,ha,hb,h=>by
  rw[List.pairwise_cons] at ha hb;have e:x=y:=by
   rcases List.mem_cons.1 ((h x).1 (List.mem_cons_self ..)) with e | e
   ·exact e
   ·rcases List.mem_cons.1 ((h y).2 (List.mem_cons_self ..)) with e' | e'
    ·exact e'.symm
    ·have:=hb.1 _ e;have:=ha.1 _ e';omega
  subst e;rw[zjt ha.2 hb.2 (fun p=>by
   have:=h p;simp only[List.mem_cons] at this
   constructor
   ·intro hp;rcases this.1 (.inr hp) with e | e
    ·have:=ha.1 _ hp;omega
    ·exact e
   ·intro hp;rcases this.2 (.inr hp) with e | e
    ·have:=hb.1 _ hp;omega
    ·exact e)]
theorem lst_of {n:Nat}{P:Nat→Prop}{l:List Nat}(hr:l.Pairwise (·<·))(hm:∀p,p ∈ l↔p<n∧P p):l=lst n P :=
 zjt hr (zph n P) (fun p=>by rw[hm,mem_lst])
structure Ahd (n:Nat)(W:Nat→Nat→Prop):Prop where
 lt:∀{p q},W p q→q<n
 up:∀{p q},W p q→p<q
def zgj (W:Nat→Nat→Prop)(L:Nat→Prop)(p:Nat):Prop:=¬L p∧∃q,W p q
def Jn (W:Nat→Nat→Prop)(L:Nat→Prop)(a j:Nat):Prop:=zgj W L a∧∀p,Rch W (W a) j p→zgj W L p
inductive Meets (W:Nat→Nat→Prop) (L:Nat→Prop) (m:Nat):Nat→Prop
 | here:Meets W L m m
 | on {p:Nat}:zgj W L p→(∀q,W p q→Meets W L m q)→Meets W L m p
section
variable {n:Nat} {W:Nat→Nat→Prop} {L:Nat→Prop}
theorem Meets.le (A:Ahd n W){m p:Nat}(h:Meets W L m p):p≤m:=by
 induction h with
 | here=>exact Nat.le_refl _
 | on h1 _ ih =>
  obtain⟨q,hq⟩:=h1.2;have:=ih q hq;have:=A.up hq;omega
theorem Meets.out {m p:Nat}(h:Meets W L m p)(hne:p≠m):zgj W L p∧∀q,W p q→Meets W L m q:=by
 cases h with
 | here=>exact absurd rfl hne
 | on h1 h2=>exact⟨h1,h2⟩
theorem Meets.trans {m k p:Nat}(h:Meets W L m p)(h':Meets W L k m):Meets W L k p:=by
 induction h with
 | here=>exact h'
 | on h1 _ ih=>exact .on h1 (fun q hq=>ih q hq)
theorem Meets.split (A:Ahd n W){m k p:Nat}(h:Meets W L m p)(h':Meets W L k p)(hmk:m≤k):Meets W L k m:=by
 induction h with
 | here=>exact h'
 | @on p h1 h2 ih =>
  have hp:p≤m:=(Meets.on h1 h2).le A;by_cases e:p=k
  ·have:m=k:=by omega
   rw[this];exact .here
  ·obtain⟨q,hq⟩:=h1.2;exact ih q hq ((h'.out e).2 q hq)
theorem zfg (A:Ahd n W){a j:Nat}:Jn W L a j↔zgj W L a∧∀q,W a q→Meets W L j q:=by
 constructor
 ·intro h;refine⟨h.1,?_⟩;have key:∀d p,n - p=d→(p=j∨Rch W (W a) j p)→Meets W L j p:=by
   intro d
   induction d using Nat.strongRecOn with
   | ind d ih =>
    intro p hp h';by_cases e:p=j
    ·rw[e];exact .here
    have hr:Rch W (W a) j p:=h'.resolve_left e;refine .on (h.2 p hr) (fun q hq=>?_);have h1:=A.lt hq;have h2:=A.up hq;refine ih (n - q) (by omega) q rfl ?_;by_cases e':q=j
    ·exact .inl e'
    ·exact .inr (.step hr hq (by omega))
  intro q hq;refine key _ q rfl ?_;by_cases e:q=j
  ·exact .inl e
  ·exact .inr (.base hq (by omega))
 ·intro h;refine⟨h.1,fun p hp=>?_⟩;have key:Meets W L j p:=by
   refine hp.all (R:=fun p=>Meets W L j p∧(p:Int)≠j) (fun p h1 h2=>⟨h.2 p h1,h2⟩) (fun p q h1 h2 h3=>⟨(h1.1.out (by have:=h1.2;omega)).2 q h2,h3⟩) |>.1
  exact (key.out (by have:=hp.ne;omega)).1
theorem Jn.lt (A:Ahd n W){a j:Nat}(h:Jn W L a j):a<j:=by
 obtain⟨q,hq⟩:=h.1.2;have h1:=((zfg A).1 h).2 q hq |>.le A;have:=A.up hq;omega
theorem Jn.of_meets (A:Ahd n W){a j:Nat}(h:Meets W L j a)(hne:a≠j):Jn W L a j:=(zfg A).2 (h.out hne)
theorem Jn.meets (A:Ahd n W){a j:Nat}(h:Jn W L a j):Meets W L j a:=.on ((zfg A).1 h).1 ((zfg A).1 h).2
def IsJ (W:Nat→Nat→Prop)(L:Nat→Prop)(a j:Nat):Prop:=Jn W L a j∧∀i,Jn W L a i→j≤i
theorem IsJ.uniq {a i j:Nat}(h:IsJ W L a i)(h':IsJ W L a j):i=j:=by
 have:=h.2 _ h'.1;have:=h'.2 _ h.1;omega
theorem exists_isJ {a k:Nat}(h:Jn W L a k):∃j,IsJ W L a j∧j≤k:=by
 induction k using Nat.strongRecOn with
 | ind k ih =>
  by_cases hx:∃i,Jn W L a i∧i<k
  ·obtain⟨i,h1,h2⟩:=hx;obtain⟨j,h3,h4⟩:=ih i h2 h1;exact⟨j,h3,by omega⟩
  ·exact⟨k,⟨h,fun i hi=>Nat.le_of_not_lt fun hlt=>hx ⟨i,hi,hlt⟩⟩,Nat.le_refl _⟩
theorem meets_join (A:Ahd n W){p j k:Nat}(hj:IsJ W L p j):Meets W L k p↔k=p∨Meets W L k j:=by
 constructor
 ·intro h;by_cases e:p=k
  ·exact .inl e.symm
  ·have h1:=Jn.of_meets A h e;exact .inr ((hj.1.meets A).split A h (hj.2 _ h1))
 ·rintro (e | h)
  ·rw[e];exact .here
  ·exact (hj.1.meets A).trans h
theorem meets_none (A:Ahd n W){p k:Nat}(hj:∀j,¬Jn W L p j):Meets W L k p↔k=p:=by
 constructor
 ·intro h;by_cases e:p=k
  ·exact e.symm
  ·exact absurd (Jn.of_meets A h e) (hj k)
 ·intro e;rw[e];exact .here
theorem Jn.within (A:Ahd n W){a j p:Nat}(h:Jn W L a j)(hp:Rch W (W a) j p):a<p∧p<j:=by
 have hm:Meets W L j p∧a<p:=by
  have:=hp.all (R:=fun p=>(Meets W L j p∧a<p)∧(p:Int)≠j) (fun p h1 h2=>⟨⟨((zfg A).1 h).2 p h1,A.up h1⟩,h2⟩) (fun p q h1 h2 h3=>⟨⟨(h1.1.1.out (by have:=h1.2;omega)).2 q h2,by have:=A.up h2;have:=h1.1.2;omega⟩,h3⟩)
  exact this.1
 have:=hm.1.le A;have:=hp.ne;exact⟨hm.2,by omega⟩
theorem rch_above (A:Ahd n W){a:Nat}{s:Int}{p:Nat}(hp:Rch W (W a) s p):a<p :=
 hp.all (R:=fun p=>a<p) (fun _ h _=>A.up h) (fun _ _ h1 h2 _=>by have:=A.up h2;omega)
theorem Meets.come {F:Nat→Prop}{j p:Nat}(h:Meets W L j p)(hp:Rch W F (-1) p):Rch W F (-1) j:=by
 induction h with
 | here=>exact hp
 | on h1 _ ih =>
  obtain⟨q,hq⟩:=h1.2;exact ih q hq (.step hp hq (by omega))
theorem Jn.come (A:Ahd n W){a j:Nat}(h:Jn W L a j):Rch W (fun p=>p=a) (-1) j:=(h.meets A).come (.base rfl (by omega))
theorem Jn.place (A:Ahd n W){a j:Nat}(ha:a<n)(h:Jn W L a j):j<n :=
 (h.come A).lt (fun p e=>by omega) (fun _ _ h=>A.lt h)
theorem jn_of_holds {a k:Nat}{R:Nat→Prop}(h0:zgj W L a)(h1:∀q,W a q→R q∨q=k)(h2:∀p q,R p→W p q→R q∨q=k)(h3:∀p,R p→zgj W L p):Jn W L a k:=by
 refine⟨h0,fun p hp=>h3 p ?_⟩;exact hp.all (R:=R) (fun p h h'=>(h1 p h).resolve_right (by omega)) (fun p q h h' h''=>(h2 p q h h').resolve_right (by omega))
theorem places_of_holds (A:Ahd n W){a j k:Nat}{R:Nat→Prop}(hj:Jn W L a j)(hjk:j≤k)(h1:∀q,W a q→R q∨q=k)(h2:∀p q,R p→W p q→R q∨q=k){p:Nat}(hp:Rch W (W a) j p):R p:=by
 have key:∀p,Rch W (W a) j p→R p:=by
  intro p hp
  induction hp with
  | @base p h h'=>exact (h1 p h).resolve_right (by have:=(hj.within A (.base h h')).2;omega)
  | @step p q hp h h' ih=>exact (h2 p q ih h).resolve_right (by have:=(hj.within A (.step hp h h')).2;omega)
 exact key p hp
theorem isJ_one (A:Ahd n W){a b:Nat}(h0:¬L a)(hb:W a b)(h1:∀q,W a q→q=b):IsJ W L a b:=by
 refine⟨(zfg A).2 ⟨⟨h0,b,hb⟩,fun q hq=>by rw[h1 q hq];exact .here⟩,fun i hi=>?_⟩
 exact (((zfg A).1 hi).2 b hb).le A
theorem rch_one {a b:Nat}(h1:∀q,W a q→q=b){p:Nat}:¬Rch W (W a) b p:=by
 intro h;have:∀p,¬Rch W (W a) b p:=by
  intro p hp
  induction hp with
  | base h h'=>exact h' (by rw[h1 _ h])
  | step _ _ _ ih=>exact ih
 exact this p h
end
end Fl
end
section
open Go Go.RowKit
theorem Blk.setE {w:World}{B:Nat}{c:List Value}{t:TypeId}(h:Blk w B c t)(i:Nat)(v:Value):Blk (w.setCell ⟨B,i,none⟩ v) B (c.set i v) t:=by
 unfold Blk at h ⊢;simp[World.setCell,Array.getElem?_modify,h]
theorem WroteB.cell1 {w:World}{B:Nat}{c:List Value}{t:TypeId}(h:Blk w B c t)(i:Nat)(v:Value):WroteB w (w.setCell ⟨B,i,none⟩ v) B (c.set i v) t :=
 ⟨h.setE i v,fun b hb=>Below.heap_setCell _ _ _ _ hb,by simp[World.setCell],fun hB hb=>hb.setCell hB v⟩
theorem zbj {o:Oper}{a:Act}{w:World}{K:Act→World→Prop}{Q:Exit→Act→World→Prop}(ty:TypeId)(p x:Operand)(ho:o.op=.store ty p x)(hdst:o.dst=none)(B i:Nat)(v:Value)(c:List Value)(t:TypeId)(hp:a.eval p=.pointer (some ⟨B,i,none⟩))(hx:a.eval x=v)
  (hs:∀w:World,w.there B i 1→(storeVar ty ⟨B,i,none⟩ v).run Tryz.prog w=.ok () (w.setCell ⟨B,i,none⟩ v))
  (hb:Blk w B c t) (hi:i<c.length) (h:∀w',WroteB w w' B (c.set i v) t→K a w'):o.wp Tryz.prog a w K Q:=by
 have ht:w.there B i 1:=fun j hj=>by
  have e:j=0:=by omega
  subst e;refine⟨?_,hb.frozen _⟩;rw[hb.cell (i+0) (v:=c[i]) (by simp[hi])];rfl
 unfold Oper.wp execOp;simp only[ho,hp,hx,Instr.storeAt,Instr.sureAddr,Sem.run_bind,Sem.run_pure,Result.andThen_ok,hs w ht];have e:a.put o.dst undef=a:=by rw[hdst];rfl
 show K (a.put o.dst undef) _
 rw[e];exact h _ (WroteB.cell1 hb i v)
theorem zbd {w:World}{ops:Array Oper}{rest:List Oper}{o:Oper}{a:Act}{Q:Exit→Act→World→Prop}(hgd:o.guard=none)(ty:TypeId)(p x:Operand)(ho:o.op=.store ty p x)(hdst:o.dst=none)(B i:Nat)(v:Value)(c:List Value)(t:TypeId)(hp:a.eval p=.pointer (some ⟨B,i,none⟩))(hx:a.eval x=v)
  (hs:∀w:World,w.there B i 1→(storeVar ty ⟨B,i,none⟩ v).run Tryz.prog w=.ok () (w.setCell ⟨B,i,none⟩ v))
  (hb:Blk w B c t) (hi:i<c.length) (h:∀w',WroteB w w' B (c.set i v) t→wpList Tryz.prog ops Q rest a w'):wpList Tryz.prog ops Q (o :: rest) a w :=
 wpList_plain hgd fun _ hK=>zbj ty p x ho hdst B i v c t hp hx hs hb hi (fun w' W=>hK _ _ (h w' W))
theorem Tryz.infoIntT:(Tryz.prog.info? 3).map (fun i=>(i.zero,i.size,i.bytes))=some (some (.int .i64 0),1,8):=by kernel_rfl
theorem run_slice_int (k:Int)(w:World):(Instr.buildSlice 51 1 #[(0,.int .i64 k)]).run Tryz.prog w=.ok (.slice (some ⟨w.heap.size,0,none⟩) 1 1) (w.alloc (.cells #[.int .i64 k] 3)):=by
 obtain⟨i0,hi,hz0,hz1,hz2⟩:=info_parts Tryz.infoIntT;have hf:Instr.fill (fun i=>some (i,1)) (Array.map (fun x=>[Value.int IntKind.i64 0][x % 1]?.getD default) (Array.range 1)) [(0,.int .i64 k)]=some #[.int .i64 k]:=by kernel_rfl
 simp[Instr.buildSlice,run_underlying Tryz.underlying51,sizeOf,typeInfo,hi,hz0,hz1,zeroValue,newRow,Value.cells,hf]
theorem zax (ty:TypeId)(v:Value)(h1:(Tryz.prog.info? ty).map (·.size)=some 1)(hv:v.oneCell'=true)(hc:v.cells=#[v])(B i:Nat)(w:World)(h:w.there B i 1):(storeVar ty ⟨B,i,none⟩ v).run Tryz.prog w=.ok () (w.setCell ⟨B,i,none⟩ v):=by
 cases hq:Tryz.prog.info? ty with
 | none=>simp[hq] at h1
 | some j =>
  have hs:j.size=1:=by simpa [hq] using h1
  have:=run_storeCells_cells (P:=Tryz.prog) B i [v] 0 w (fun j hj=>by simpa using (h j (by simpa using hj)).1) (fun j hj=>by simpa using (h j (by simpa using hj)).2) (fun u hu=>by simp at hu;subst hu;exact hv)
  simp only[Nat.add_zero,World.setCells] at this;simp[storeVar,sizeOf,typeInfo,hq,hc,hs,this]
structure Is where
 ao:Option Addr
 b:Nat
 o:Nat
 len:Nat
 cap:Nat
 f:Nat→Int
structure Hd where
 op:Int
 dst:Int
 a:Int
 b:Int
 n:Int
 env:Int
 t:Ty
 ar:Is
inductive Nd where
 | dm:Nd
 | mk (h:Hd) (bao:Option Addr) (bb bo bl bc:Nat) (bp:Nat→Nd) (eao:Option Addr) (eb eo el ec:Nat) (ep:Nat→Nd):Nd
structure Ns where
 ao:Option Addr
 b:Nat
 o:Nat
 len:Nat
 cap:Nat
 ps:Nat→Nd
structure Fc where
 param:Ty
 result:Ty
 caps:Ty
 heap:Int
 exc:Int
 slots:Ty
 body:Ns
 out:Int
structure Fl where
 ao:Option Addr
 b:Nat
 o:Nat
 len:Nat
 cap:Nat
 ps:Nat→Fc
def mk2 (k l h e:Int)(p q:Ty):Ty:=.mk k l h e none 0 0 2 2 (fun i=>if i=0 then p else q)
def mk1 (k l:Int)(p:Ty):Ty:=.mk k l 0 0 none 0 0 1 1 (fun _=>p)
def zby (k:Int)(t:Ty):Ty:=if (t.k != k)=true then zab 0 0 else t
end
section
open Go.RowKit
structure Sl where
 ao:Option Addr
 len:Nat
 cap:Nat
structure Fn where
 p:Ty
 r:Ty
 c:Ty
 h:Int
 e:Int
 sl:Int
 cd:Sl
 hd:Sl
 pt:Sl
 rg:Sl
structure Bf (w:World)(B:Nat)(f:Fn):Prop where
 c0:w.cell? ⟨B,0,none⟩=some (.int .i64 f.p.k)
 c1:w.cell? ⟨B,1,none⟩=some (.int .i64 f.p.l)
 c2:w.cell? ⟨B,2,none⟩=some (.slice f.p.ao f.p.len f.p.cap)
 c3:w.cell? ⟨B,3,none⟩=some (.int .i64 f.p.h)
 c4:w.cell? ⟨B,4,none⟩=some (.int .i64 f.p.e)
 c5:w.cell? ⟨B,5,none⟩=some (.int .i64 f.r.k)
 c6:w.cell? ⟨B,6,none⟩=some (.int .i64 f.r.l)
 c7:w.cell? ⟨B,7,none⟩=some (.slice f.r.ao f.r.len f.r.cap)
 c8:w.cell? ⟨B,8,none⟩=some (.int .i64 f.r.h)
 c9:w.cell? ⟨B,9,none⟩=some (.int .i64 f.r.e)
 c10:w.cell? ⟨B,10,none⟩=some (.slice f.c.ao f.c.len f.c.cap)
 c11:w.cell? ⟨B,11,none⟩=some (.int .i64 f.h)
 c12:w.cell? ⟨B,12,none⟩=some (.int .i64 f.e)
 c13:w.cell? ⟨B,13,none⟩=some (.int .i64 f.sl)
 c14:w.cell? ⟨B,14,none⟩=some (.slice f.cd.ao f.cd.len f.cd.cap)
 c15:w.cell? ⟨B,15,none⟩=some (.slice f.hd.ao f.hd.len f.hd.cap)
 c16:w.cell? ⟨B,16,none⟩=some (.slice f.pt.ao f.pt.len f.pt.cap)
 c17:w.cell? ⟨B,17,none⟩=some (.slice f.rg.ao f.rg.len f.rg.cap)
theorem Bf.kept {w w':World}{B:Nat}{f:Fn}(h:Bf w B f)(hb:Below w.heap.size w w'):Bf w' B f:=⟨up hb h.c0,up hb h.c1,up hb h.c2,up hb h.c3,up hb h.c4,up hb h.c5,up hb h.c6,up hb h.c7,up hb h.c8,up hb h.c9,up hb h.c10,up hb h.c11,up hb h.c12,up hb h.c13,up hb h.c14,up hb h.c15,up hb h.c16,up hb h.c17⟩
def fnO (f:Fn):Obj:=.cells #[.int .i64 f.p.k,.int .i64 f.p.l,.slice f.p.ao f.p.len f.p.cap,.int .i64 f.p.h,.int .i64 f.p.e,.int .i64 f.r.k,.int .i64 f.r.l,.slice f.r.ao f.r.len f.r.cap,.int .i64 f.r.h,.int .i64 f.r.e,.slice f.c.ao f.c.len f.c.cap,.int .i64 f.h,.int .i64 f.e,.int .i64 f.sl,.slice f.cd.ao f.cd.len f.cd.cap,.slice f.hd.ao f.hd.len f.hd.cap,.slice f.pt.ao f.pt.len f.pt.cap,.slice f.rg.ao f.rg.len f.rg.cap] 44
theorem Bf.new (w:World)(f:Fn):Bf (w.alloc (fnO f)) w.heap.size f:=by
 constructor <;> simp[fnO]
structure Fn.At (w:World)(f:Fn):Prop where
 p:f.p.At w
 r:f.r.At w
 c:f.c.At w
theorem Fn.At.kept {w w':World}{f:Fn}(h:f.At w)(hb:Below w.heap.size w w'):f.At w':=⟨h.p.kept hb,h.r.kept hb,h.c.kept hb⟩
def funT (n:Strs)(g:Grid)(f:Fn):Ty:=.mk 4 (botI n g) f.h f.e none 0 0 2 2 (fun i=>if i=0 then f.p else f.r)
def zei (n:Strs)(g:Grid)(f:Fn):Ty:=zal n g (funT n g f) (botI n g)
theorem zt6 (u:Ty)(k l h e:Int)(ao ao':Option Addr)(b b' o o' len cap cap':Nat)(ps:Nat→Ty):u.same (.mk k l h e ao b o len cap ps)=u.same (.mk k l h e ao' b' o' len cap' ps):=by
 cases u <;> rfl
theorem ztx {n:Strs}{g:Grid}{f:Fn}{u:Ty}(ao:Option Addr)(b o cap:Nat)(h:u.same (zal n g (.mk 4 (botI n g) f.h f.e ao b o 2 cap (fun i=>if i=0 then f.p else f.r)) (botI n g))=true):u.same (zei n g f)=true:=by
 have e:okB n g (.mk 4 (botI n g) f.h f.e ao b o 2 cap (fun i=>if i=0 then f.p else f.r))=okB n g (funT n g f):=rfl;unfold zei;unfold zal at h ⊢;rw[←e];split
 ·rename_i hh
  rw[if_pos hh] at h;unfold funT;rw[show (Ty.mk 4 (botI n g) f.h f.e none 0 0 2 2 (fun i=>if i=0 then f.p else f.r)).setL (zb1 n g (Ty.mk 4 (botI n g) f.h f.e none 0 0 2 2 (fun i=>if i=0 then f.p else f.r)).l (botI n g))=Ty.mk 4 (zb1 n g (botI n g) (botI n g)) f.h f.e none 0 0 2 2 (fun i=>if i=0 then f.p else f.r) from rfl];rw[zt6 u _ _ _ _ none ao 0 b 0 o 2 2 cap];exact h
 ·rename_i hh
  rw[if_neg hh] at h;exact h
end
end Go.Proofs.YtfobijdkoeifjaaGreatDoor
