import Derived.Test.YtfobijdkoeifjaaGreatDoorP7
import Derived.Deep.AppendLies
import Derived.Laws.AppendOwnNone
import Derived.Test.YtfobijdkoeifjaaGreatDoorP12
import Derived.Test.YtfobijdkoeifjaaGreatDoorP10
import Derived.Test.YtfobijdkoeifjaaGreatDoorP8
import Derived.Test.YtfobijdkoeifjaaGreatDoorP13
import Derived.Lib.SlicesCompact
import Derived.Test.YtfobijdkoeifjaaGreatDoorP11
import Derived.Laws.OwnMore
set_option maxRecDepth 100000
set_option maxHeartbeats 32000000
namespace Go.Proofs.YtfobijdkoeifjaaGreatDoor
section
open Go.RowKit
theorem gbr (w:World)(r:Option Nat):w.grownBy w r:=⟨rfl,rfl,rfl,Nat.le_refl _,fun _ _ _=>rfl⟩
theorem zb4 {w0 a b:World}{r:Option Nat}(h:Below w0.heap.size w0 a)(hg:a.grownBy b r)(hr:∀k,r=some k→w0.heap.size≤k):Below w0.heap.size w0 b:=by
 have hs:=h.size;refine⟨hg.os.trans h.os,hg.tape.trans h.tape,hg.output.trans h.output,Nat.le_trans h.size hg.size,fun k hk=>?_⟩;rw[hg.block k (by omega) (fun e=>by have:=hr k e.symm;omega)]
 exact h.block k hk
theorem owb {w:World}{base:Nat}{e:TypeId}{size:Nat}{v:Value}{n:Nat}{xs:List Value}(h:w.ownsRow base e size v n xs){k:Nat}(hb:v.ownBlock=some k):base≤k∧k<w.heap.size:=by
 obtain⟨_,⟨rfl,_⟩ | ⟨g,cap,cur,rfl,hg,hh,_⟩⟩:=h
 ·cases hb
 ·have:g=k:=by simpa [Value.ownBlock] using hb
  subst this;exact⟨hg,(Array.getElem?_eq_some_iff.1 hh).1⟩
theorem owk {w w':World}{base:Nat}{e:TypeId}{size:Nat}{v:Value}{n:Nat}{xs:List Value}(h:w.ownsRow base e size v n xs)(hb:Below w.heap.size w w'):w'.ownsRow base e size v n xs:=by
 have hl:=fun k hk=>(owb h (k:=k) hk).2;obtain⟨h0,h⟩:=h;refine⟨h0,?_⟩;rcases h with ⟨rfl,hn⟩ | ⟨g,cap,cur,rfl,hg,hh,hr⟩
 ·exact Or.inl ⟨rfl,hn⟩
 ·exact Or.inr ⟨g,cap,cur,rfl,hg,(hb.block g (hl g rfl)).trans hh,hr⟩
theorem zf5 {w:World}{base:Nat}{e:TypeId}{size:Nat}{v:Value}{n:Nat}{xs:List Value}(h:w.ownsRow base e size v n xs):∃ao cap,v=.slice ao n cap:=by
 obtain⟨_,⟨rfl,rfl⟩ | ⟨g,cap,cur,rfl,_⟩⟩:=h
 ·exact⟨none,0,rfl⟩
 ·exact⟨_,cap,rfl⟩
theorem zfx {S E:TypeId}{size bytes:Nat}{z:Value}(hu:Tryz.prog.underlying S=some (.slice E))(hinf:(Tryz.prog.info? E).map (fun i=>(i.zero,i.size,i.bytes))=some (some z,size,bytes))(hzc:z.cells.size=size)(hpos:0<size)(w:World)(ty:TypeId)(base:Nat)(v:Value)(n:Nat)(xs:List Value)(ho:w.ownsRow base E size v n xs)(ao:Option Addr)(m c:Nat)(news:List Value)(hnone:ao=none→m=0∧c=0)(hl:news.length=m*size)(hn:∀a,ao=some a→∀j u,news[j]?=some u→w.cell? (a.add j)=some u)(h1:∀u ∈ news,u.oneCell'=true)(h63:n+m≤maxLen)(hbytes:(n+m)*bytes≤140737488355328)(hb:base≤w.heap.size) :
  ∃v' w',(Builtin.append_ #[S,S] ty #[v,.slice ao m c]).run Tryz.prog w=.ok v' w'∧w'.ownsRow base E size v' (n+m) (xs++news)∧w.grownBy w' v.ownBlock:=by
 obtain⟨i0,hi,hz0,hz1,hz2⟩:=info_parts hinf;cases ao with
 | none =>
  obtain⟨rfl,rfl⟩:=hnone rfl;have hl0:news=[]:=List.eq_nil_of_length_eq_zero (by rw[hl];omega)
  subst hl0;refine⟨v,w,?_,?_,gbr _ _⟩
  ·exact run_append_owned_none (P:=Tryz.prog) w base S ty E i0 size hu hi v n xs ho
  ·rw[List.append_nil];exact ho
 | some a =>
  obtain⟨v',w',hr,h2,h3,_⟩:=run_append_own (P:=Tryz.prog) w base S ty E i0 z size bytes hu hi hz0 hz1 hz2 hzc hpos v n xs ho a m c news hl (hn a rfl) h1 h63 hbytes hb;exact⟨v',w',hr,h2,h3⟩
theorem zcl {S E:TypeId}{size bytes:Nat}{z:Value}(hu:Tryz.prog.underlying S=some (.slice E))(hinf:(Tryz.prog.info? E).map (fun i=>(i.zero,i.size,i.bytes))=some (some z,size,bytes))(hzc:z.cells.size=size)(hpos:0<size){w:World}{ops:Array Oper}{rest:List Oper}{o:Oper}{a:Act}{Q:Exit→Act→World→Prop}(hgd:o.guard=none)(s x:Operand)
  (hop:o.op=.call { callee:=.builtin .append,args:=#[s,x],argTypes:=#[S,S] }) (base:Nat) (v:Value) (n:Nat) (xs:List Value) (hs:a.eval s=v) (ho:w.ownsRow base E size v n xs) (ao:Option Addr) (m c:Nat) (news:List Value) (hx:a.eval x=.slice ao m c) (hnone:ao=none→m=0∧c=0) (hl:news.length=m*size) (hn:∀a,ao=some a→∀j u,news[j]?=some u→w.cell? (a.add j)=some u) (h1:∀u ∈ news,u.oneCell'=true) (h63:n+m≤maxLen) (hbytes:(n+m)*bytes≤140737488355328) (hb:base≤w.heap.size)
  (h:∀v' w',w'.ownsRow base E size v' (n+m) (xs++news)→w.grownBy w' v.ownBlock→wpList Tryz.prog ops Q rest (a.put o.dst v') w'):wpList Tryz.prog ops Q (o :: rest) a w:=by
 refine wpList_plain hgd fun K hK=>?_;obtain⟨v',w',hr,h2,h3⟩:=zfx hu hinf hzc hpos w o.type base v n xs ho ao m c news hnone hl hn h1 h63 hbytes hb;unfold Oper.wp execOp;simp only[hop,resolve,invoke,builtin,Sem.run_bind,Sem.run_pure,Result.andThen_ok,List.map_toArray,List.map_cons,List.map_nil,hs,hx,hr];exact hK _ _ (h v' w' h2 h3)
def zau (f:Nat→List Value):Nat→List Value
 | 0=>[]
 | k+1=>zau f k++f k
theorem zfm {f:Nat→List Value}{c:Nat}(h:∀i,(f i).length=c):∀k,(zau f k).length=k*c
 | 0=>by simp[zau]
 | k+1=>by
  show (zau f k++f k).length=_
  rw[List.length_append,zfm h k,h,Nat.add_mul,Nat.one_mul]
theorem zfj {f:Nat→List Value}{c:Nat}(h:∀i,(f i).length=c):∀k i j,i<k→j<c→(zau f k)[i*c+j]?=(f i)[j]?
 | 0,i,_,hi,_=>absurd hi (Nat.not_lt_zero _)
 | k+1,i,j,hi,hj=>by
  show (zau f k++f k)[i*c+j]?=_
  have hl:=zfm h k;by_cases e:i=k
  ·subst e;rw[List.getElem?_append_right (by rw[hl];omega),hl]
   congr 1;omega
  ·have h2:i*c+j<k*c:=by
    have:(i+1)*c≤k*c:=Nat.mul_le_mul_right c (by omega);rw[Nat.add_mul,Nat.one_mul] at this;omega
   rw[List.getElem?_append_left (by rw[hl];exact h2)]
   exact zfj h k i j (by omega) hj
theorem zk9 (f h:Nat→List Value)(a:Nat):∀b,zau (fun i=>if i<a then f i else h (i - a)) (a+b)=zau f a++zau h b
 | 0=>by
  rw[Nat.add_zero];show _=zau f a++[]
  rw[List.append_nil];have key:∀k,k≤a→zau (fun i=>if i<a then f i else h (i - a)) k=zau f k:=fun k=>by
   induction k with
   | zero=>intro _;rfl
   | succ k ih =>
    intro hk;show zau _ k++_=zau f k++f k
    rw[ih (by omega)];simp only[if_pos (show k<a by omega)]
  exact key a (Nat.le_refl _)
 | b+1=>by
  show zau _ (a+b)++(if a+b<a then f (a+b) else h (a+b - a))=zau f a++(zau h b++h b)
  rw[zk9 f h a b,List.append_assoc,if_neg (show ¬a+b<a by omega),show a+b - a=b by omega]
theorem zlr {f:Nat→List Value}{u:Value}:∀k,u ∈ zau f k→∃i,i<k∧u ∈ f i
 | 0,h=>by cases h
 | k+1,h=>by
  rcases List.mem_append.1 h with h | h
  ·obtain⟨i,hi,hu⟩:=zlr k h;exact⟨i,by omega,hu⟩
  ·exact⟨k,by omega,h⟩
theorem adp (b off i:Nat):(⟨b,off,none⟩:Addr).add i=⟨b,off+i,none⟩:=by unfold Addr.add;split <;> simp_all
theorem zp4 {f:Nat→List Value}{c:Nat}(h:∀i,(f i).length=c)(hc:0<c){w:World}{b o:Nat}{k:Nat}(hr:∀i,i<k→w.rangeAt b (o+i*c) (f i)):∀j u,(zau f k)[j]?=some u→w.cell? ((⟨b,o,none⟩:Addr).add j)=some u:=by
 intro j u hj;have hlt:j<k*c:=by rw[←zfm h k];exact (List.getElem?_eq_some_iff.1 hj).1
 have hi:j / c<k:=Nat.div_lt_of_lt_mul (by rw[Nat.mul_comm];exact hlt)
 have hm:j % c<c:=Nat.mod_lt _ hc;have e:j=j / c*c+j % c:=by rw[Nat.mul_comm];exact (Nat.div_add_mod j c).symm
 rw[e,zfj h k _ _ hi hm] at hj;have:=hr (j / c) hi (j % c) u hj;rw[adp,show o+j=o+j / c*c+j % c by omega];exact this
theorem zoy {f:Nat→List Ty→List Ty}(hf:∀i R (a:Nat) (s:Ty),R[a]?=some s→(f i R)[a]?=some s):∀(j:Nat) (R:List Ty) (a:Nat) (s:Ty),R[a]?=some s→(itr f j R)[a]?=some s
 | 0,_,_,_,h=>h
 | j+1,R,a,s,h=>hf j _ a s (zoy hf j R a s h)
theorem zjh:∀(t:Ty) (R:List Ty) (a:Nat) (s:Ty),R[a]?=some s→(putT t R)[a]?=some s
 | .dm,_,_,_,h=>h
 | .mk k l hh e ao b o len cap ps,R,a,s,h=>by
  have h1:=zoy (f:=fun i=>putT (ps i)) (fun i R a s=>zjh (ps i) R a s) len R a s h;rw[putT];split
  ·exact h1
  ·exact zf1 h1
theorem zic {f:Nat→List Ty→List Ty}{c:Nat→Nat}(hf:∀i R,(f i R).length≤R.length+c i):∀(j:Nat) (R:List Ty),(itr f j R).length≤R.length+zaw c j
 | 0,R=>by simp[itr,zaw]
 | j+1,R=>by
  have h1:=hf j (itr f j R);have h2:=zic hf j R;show (f j (itr f j R)).length≤R.length+(zaw c j+c j)
  omega
theorem zf7:∀(t:Ty) (R:List Ty),(putT t R).length≤R.length+t.nodes
 | .dm,R=>by simp[putT]
 | .mk k l hh e ao b o len cap ps,R=>by
  have h1:=zic (f:=fun i=>putT (ps i)) (c:=fun i=>(ps i).nodes) (fun i R=>zf7 (ps i) R) len R;have h2:(Ty.mk k l hh e ao b o len cap ps).nodes=1+zaw (fun i=>(ps i).nodes) len:=rfl;rw[putT];split
  ·omega
  ·rw[List.length_append];have:[Ty.mk k l hh e ao b o len cap ps].length=1:=rfl;omega
def PrtAt (R:List Ty)(t:Ty)(x:Int):Prop:=∃(a:Nat) (s:Ty),x=a∧R[a]?=some s∧s.same t=true
theorem PrtAt.pre {R R':List Ty}{t:Ty}{x:Int}(h:PrtAt R t x)(hR:∀(a:Nat) (s:Ty),R[a]?=some s→R'[a]?=some s):PrtAt R' t x:=by
 obtain⟨a,s,h1,h2,h3⟩:=h;exact⟨a,s,h1,hR a s h2,h3⟩
theorem PrtAt.prt {R:List Ty}{t:Ty}{j:Nat}{x:Int}(h1:j<t.len→PrtAt R (t.ps j) x)(h2:¬j<t.len→x=-1):Prt R R.length t j x :=
 ⟨fun hj=>by obtain⟨a,s,e,hs,hss⟩:=h1 hj;exact⟨a,s,e,(List.getElem?_eq_some_iff.1 hs).1,hs,hss⟩,h2⟩
theorem zdo (R:List Ty)(t:Ty):(za6 R t).length≤R.length+t.nodes:=by
 unfold za6;split
 ·omega
 ·exact zf7 t R
end
section
open Go Go.RowKit
def blV (a:Bool):List Value:=[.bool a]
def BlAt (w:World)(r:Rw Bool):Prop:=Rw.At 1 blV (fun _ _=>True) w r
theorem BlAt.kept {w w':World}{r:Rw Bool}(h:BlAt w r)(hb:Below w.heap.size w w'):BlAt w' r:=Rw.At.kept h (fun _ k=>k) hb
def Rw.ls {α:Type}(r:Rw α):List α:=(List.range r.len).map r.x
theorem Rw.ls_len {α:Type}(r:Rw α):r.ls.length=r.len:=by simp[Rw.ls]
theorem Rw.ls_get {α:Type}(r:Rw α)(i:Nat)(hi:i<r.len):r.ls[i]?=some (r.x i):=by simp[Rw.ls,hi]
theorem Rw.mem_ls {α:Type}{r:Rw α}{a:α}:a ∈ r.ls↔∃i,i<r.len∧r.x i=a:=by simp[Rw.ls]
def Cf.pl (f:Cf)(a:Int):Bool:=decide (0≤a)&&decide (a<f.cd.len)
theorem Cf.pl_iff {f:Cf}{a:Int}:f.pl a=true↔0≤a∧a<f.cd.len:=by simp[Cf.pl]
def Cf.hit (f:Cf)(p:Int)(i:Nat):Bool:=decide ((f.hd.x i).fr≤p)&&decide (p<(f.hd.x i).tw_)
def Cf.han (f:Cf)(p:Int):Int:=match (List.range f.hd.len).find? (f.hit p) with | some i=>(f.hd.x i).at_ | none=>-1
theorem zdm {p:Nat→Bool}{n j:Nat}(hj:j<n)(hp:p j=true)(hb:∀i,i<j→p i=false):(List.range n).find? p=some j:=by
 have e:List.range n=List.range j++(j :: (List.range' (j+1) (n - j - 1))):=by
  rw[List.range_eq_range',List.range_eq_range',←List.range'_succ,show n - j - 1+1=n - j by omega];have:=List.range'_append_1 (s:=0) (m:=j) (n:=n - j);rw[Nat.zero_add] at this;rw[this,show j+(n - j)=n by omega]
 rw[e,List.find?_append];have h0:(List.range j).find? p=none:=by
  rw[List.find?_eq_none];intro x hx;have:=hb x (List.mem_range.1 hx);simp[this]
 rw[h0];simp[hp]
theorem zep {p:Nat→Bool}{n:Nat}(hb:∀i,i<n→p i=false):(List.range n).find? p=none:=by
 rw[List.find?_eq_none];intro x hx;have:=hb x (List.mem_range.1 hx);simp[this]
theorem Cf.han_hit {f:Cf}{p:Int}{j:Nat}(hj:j<f.hd.len)(hp:f.hit p j=true)(hb:∀i,i<j→f.hit p i=false):f.han p=(f.hd.x j).at_:=by
 unfold Cf.han;rw[zdm hj hp hb]
theorem Cf.han_miss {f:Cf}{p:Int}(hb:∀i,i<f.hd.len→f.hit p i=false):f.han p=-1:=by
 unfold Cf.han;rw[zep hb]
theorem zhd (q:Nat→Bool):∀n,(∀i,i<n→q i=false)∨∃j,j<n∧q j=true∧∀i,i<j→q i=false
 | 0=>Or.inl fun _ h=>absurd h (Nat.not_lt_zero _)
 | n+1=>by
  rcases zhd q n with h | ⟨j,h1,h2,h3⟩
  ·cases e:q n
   ·exact Or.inl fun i hi=>by
     by_cases e2:i=n
     ·rw[e2];exact e
     ·exact h i (by omega)
   ·exact Or.inr ⟨n,by omega,e,h⟩
  ·exact Or.inr ⟨j,by omega,h2,h3⟩
def rsG (g:Rw Bool)(p:Nat):Bool:=decide (p<g.len)&&g.x p
def rsO (op:Int):Bool:=(decide (op=9)||decide (op=10))||decide (op=26)
def Cf.rs (f:Cf)(g:Rw Bool)(p:Nat):Bool:=rsO (f.cd.x p).op||(decide ((f.cd.x p).op=19)&&rsG g p)
def nxO (op:Int):Bool:=((decide (op≠0)&&decide (op≠24))&&decide (op≠26))&&decide (op≠27)
def Cf.tg (f:Cf)(p:Nat):Int:=if ((f.cd.x p).op=24∨(f.cd.x p).op=25)∧(0≤(f.cd.x p).a∧(f.cd.x p).a<f.cd.len) then (f.cd.x p).a else -1
def Cf.lv (f:Cf)(g:Rw Bool)(p:Nat):Bool:=decide ((f.cd.x p).op=27)||(f.rs g p&&decide (f.han p=-1))
def Cf.wayH (f:Cf)(g:Rw Bool)(h:Int)(p q:Nat):Prop:=q<f.cd.len∧((q=p+1∧nxO (f.cd.x p).op=true)∨(((f.cd.x p).op=24∨(f.cd.x p).op=25)∧(f.cd.x p).a=q)∨(f.rs g p=true∧h=q))
def Cf.way (f:Cf)(g:Rw Bool)(p q:Nat):Prop:=f.wayH g (f.han p) p q
noncomputable def Cf.wsH (f:Cf) (g:Rw Bool) (h:Int) (p:Nat):List Int:=(Fl.lst f.cd.len (f.wayH g h p)).map fun q:Nat=>(q:Int)
noncomputable def Cf.ws (f:Cf) (g:Rw Bool) (p:Nat):List Int:=f.wsH g (f.han p) p
def Cf.w1 (f:Cf)(p:Nat):List Int:=if nxO (f.cd.x p).op=true∧p+1<f.cd.len then [(p:Int)+1] else []
def Cf.w2 (f:Cf)(p:Nat):List Int:=if f.tg p=-1 then [] else [f.tg p]
def Cf.w3 (f:Cf)(g:Rw Bool)(h:Int)(p:Nat):List Int:=if f.rs g p=true∧f.pl h=true then [h] else []
theorem Cf.mem_w (f:Cf)(g:Rw Bool)(h:Int)(p:Nat)(a:Int):a ∈ f.w1 p++f.w2 p++f.w3 g h p↔∃q:Nat,a=q∧f.wayH g h p q:=by
 unfold Cf.w1 Cf.w2 Cf.w3 Cf.wayH Cf.tg;simp only[List.mem_append,Cf.pl_iff]
 constructor
 ·rintro ((h1 | h1) | h1)
  ·split at h1
   ·rename_i h2
    refine⟨p+1,by simpa using h1,h2.2,Or.inl ⟨rfl,h2.1⟩⟩
   ·simp at h1
  ·by_cases h2:((f.cd.x p).op=24∨(f.cd.x p).op=25)∧(0≤(f.cd.x p).a∧(f.cd.x p).a<f.cd.len)
   ·rw[if_pos h2] at h1;rw[if_neg (by omega)] at h1;have h3:a=(f.cd.x p).a:=by simpa using h1
    refine⟨(f.cd.x p).a.toNat,by omega,by omega,Or.inr (Or.inl ⟨h2.1,by omega⟩)⟩
   ·rw[if_neg h2] at h1;simp at h1
  ·split at h1
   ·rename_i h2
    have h3:a=h:=by simpa using h1
    refine⟨h.toNat,by omega,by omega,Or.inr (Or.inr ⟨h2.1,by omega⟩)⟩
   ·simp at h1
 ·rintro ⟨q,rfl,hq,⟨rfl,h1⟩ | ⟨h1,h2⟩ | ⟨h1,h2⟩⟩
  ·left;left
   rw[if_pos ⟨h1,hq⟩];simp
  ·left;right
   rw[if_pos (show ((f.cd.x p).op=24∨(f.cd.x p).op=25)∧(0≤(f.cd.x p).a∧(f.cd.x p).a<f.cd.len) from ⟨h1,by omega,by omega⟩),if_neg (by omega),h2];simp
  ·right
   rw[if_pos ⟨h1,by omega⟩,h2];simp
theorem zkg (d:Array Int)(hs:∀i j,i<j→j<d.size→d[i]! ≤ d[j]!):∀m,m≤d.size→(Lib.compactUpTo d m).Pairwise (·<·)∧(∀a,a ∈ Lib.compactUpTo d m↔∃i,i<m∧d[i]! = a)
 | 0,_=>by simp[Lib.compactUpTo]
 | m+1,hm=>by
  obtain⟨h1,h2⟩:=zkg d hs m (by omega);rw[Lib.compactUpTo_succ];cases hk:Lib.keeps d m
  ·have hk':¬(m=0∨d[m]! ≠ d[m - 1]!):=by simpa [Lib.keeps] using hk
   have h3:0<m:=by omega
   have h4:d[m]! = d[m - 1]! := by
    by_cases e:d[m]! = d[m - 1]!
    ·exact e
    ·exact absurd (Or.inr e) hk'
   refine⟨by simpa using h1,fun a=>?_⟩;simp only[Bool.false_eq_true,if_false,List.append_nil];rw[h2]
   constructor
   ·rintro ⟨i,hi,rfl⟩;exact⟨i,by omega,rfl⟩
   ·rintro ⟨i,hi,rfl⟩;by_cases e:i=m
    ·subst e;exact⟨i - 1,by omega,h4.symm⟩
    ·exact⟨i,by omega,rfl⟩
  ·have hk':m=0∨d[m]! ≠ d[m - 1]! := by simpa [Lib.keeps] using hk
   refine⟨?_,fun a=>?_⟩
   ·rw[if_pos rfl,List.pairwise_append];refine⟨h1,by simp,fun x hx y hy=>?_⟩;obtain⟨i,hi,rfl⟩:=(h2 x).1 hx;have:y=d[m]! := by simpa using hy
    subst this;have h3:d[m]! ≠ d[m - 1]! := hk'.resolve_left (by omega);have h4:=hs (m - 1) m (by omega) (by omega);have h5:d[i]! ≤ d[m - 1]! := by
     by_cases e:i=m - 1
     ·rw[e];exact Int.le_refl _
     ·exact hs i (m - 1) (by omega) (by omega)
    omega
   ·rw[if_pos rfl,List.mem_append,h2]
    constructor
    ·rintro (⟨i,hi,rfl⟩ | h)
     ·exact⟨i,by omega,rfl⟩
     ·exact⟨m,by omega,(by simpa using h:a=d[m]!).symm⟩
    ·rintro ⟨i,hi,rfl⟩;by_cases e:i=m
     ·subst e;right;simp
     ·left;exact⟨i,by omega,rfl⟩
theorem znq (zs:List Int):(Lib.compact (zs.mergeSort fun x y=>decide (x≤y))).Pairwise (·<·)∧∀a,a ∈ Lib.compact (zs.mergeSort fun x y=>decide (x≤y))↔a ∈ zs:=by
 have hp:(zs.mergeSort fun x y=>decide (x≤y)).Pairwise (fun a b=>a≤b):=by
  have:=List.pairwise_mergeSort (le:=fun x y:Int=>decide (x≤y)) (fun a b c h1 h2=>by simp at h1 h2 ⊢;omega) (fun a b=>by simp;omega) zs
  exact this.imp (by simp)
 have hm:∀a,a ∈ (zs.mergeSort fun x y=>decide (x≤y))↔a ∈ zs:=fun a=>List.mem_mergeSort;generalize (zs.mergeSort fun x y=>decide (x≤y))=l at *;have key:=zkg l.toArray (fun i j hij hj=>by
  have hj':j<l.length:=by simpa using hj
  have:=List.pairwise_iff_getElem.1 hp i j (by omega) hj' hij
  simpa [getElem!_pos,hj',show i<l.length by omega] using this) l.length (by simp)
 refine⟨key.1,fun a=>?_⟩;show a ∈ Lib.compactUpTo l.toArray l.length↔_
 rw[key.2,←hm,List.mem_iff_getElem]
 constructor
 ·rintro ⟨i,hi,rfl⟩;exact⟨i,hi,by simp[getElem!_pos,hi]⟩
 ·rintro ⟨i,hi,rfl⟩;exact⟨i,hi,by simp[getElem!_pos,hi]⟩
theorem zqj {n:Nat}{P:Nat→Prop}{l:List Int}(hr:l.Pairwise (·<·))(hm:∀a,a ∈ l↔∃q:Nat,a=q∧(q<n∧P q)):l=(Fl.lst n P).map fun q:Nat=>(q:Int):=by
 have e:l=(l.map Int.toNat).map fun q:Nat=>(q:Int):=by
  rw[List.map_map]
  conv=>lhs;rw[←List.map_id l]
  apply List.map_congr_left
  intro a ha;obtain⟨q,rfl,_⟩:=(hm a).1 ha;simp
 rw[e]
 congr 1
 apply Fl.lst_of
 ·rw[List.pairwise_map];refine hr.imp_of_mem fun {a b} ha hb hlt=>?_;obtain⟨q,rfl,_⟩:=(hm a).1 ha;obtain⟨q',rfl,_⟩:=(hm b).1 hb
  simpa using hlt
 ·intro p;rw[List.mem_map]
  constructor
  ·rintro ⟨a,ha,rfl⟩;obtain⟨q,rfl,h⟩:=(hm a).1 ha
   simpa using h
  ·intro h;exact⟨p,(hm p).2 ⟨p,rfl,h⟩,by simp⟩
theorem Cf.wsH_eq (f:Cf)(g:Rw Bool)(h:Int)(p:Nat):Lib.compact ((f.w1 p++f.w2 p++f.w3 g h p).mergeSort fun x y=>decide (x≤y))=f.wsH g h p:=by
 obtain⟨h1,h2⟩:=znq (f.w1 p++f.w2 p++f.w3 g h p);refine zqj h1 fun a=>?_;rw[h2,Cf.mem_w]
 constructor
 ·rintro ⟨q,e,hq⟩;exact⟨q,e,hq.1,hq⟩
 ·rintro ⟨q,e,_,hq⟩;exact⟨q,e,hq⟩
theorem zi2 {n:Nat}{P:Nat→Prop}{a:Int}:a ∈ (Fl.lst n P).map (fun q:Nat=>(q:Int))↔∃q:Nat,a=q∧(q<n∧P q):=by
 rw[List.mem_map]
 constructor
 ·rintro ⟨q,hq,rfl⟩;exact⟨q,rfl,Fl.mem_lst.1 hq⟩
 ·rintro ⟨q,rfl,hq⟩;exact⟨q,Fl.mem_lst.2 hq,rfl⟩
def ivL (l:List Int):List Value:=l.map fun a=>.int .i64 a
def Oi (w:World)(base:Nat)(v:Value)(l:List Int):Prop:=w.ownsRow base 3 1 v l.length (ivL l)
theorem Oi.nil (w:World)(base:Nat):Oi w base (.slice none 0 0) []:=World.ownsRow_nil _ _ _ _
theorem Oi.kept {w w':World}{base:Nat}{v:Value}{l:List Int}(h:Oi w base v l)(hb:Below w.heap.size w w'):Oi w' base v l:=owk h hb
theorem Oi.rw {w:World}{base:Nat}{v:Value}{l:List Int}(h:Oi w base v l)(hl:∀a ∈ l,I64 a)(hn:l.length≤9223372036854775807):∃r:Rw Int,v=.slice r.ao r.len r.cap∧NmAt w r∧r.ls=l∧(r.ao=none→r.len=0∧r.cap=0)∧base≤r.b:=by
 have h':=h;obtain⟨_,⟨rfl,h0⟩ | ⟨g,cap,cur,rfl,hb,hg,hn',hc,hs,ht⟩⟩:=h
 ·have:l=[]:=List.eq_nil_of_length_eq_zero h0;subst this;exact⟨⟨none,base,0,0,0,fun _=>0⟩,rfl,⟨fun h=>absurd h (Nat.lt_irrefl _),Nat.zero_le _,fun _ h=>absurd h (Nat.not_lt_zero _),fun _ h=>absurd h (Nat.not_lt_zero _)⟩,rfl,fun _=>⟨rfl,rfl⟩,Nat.le_refl _⟩
 ·have hget:∀i,i<l.length→l.getD i 0 ∈ l:=fun i hi=>by
   rw[List.getD_eq_getElem?_getD,List.getElem?_eq_getElem hi];exact List.getElem_mem _
  refine⟨⟨some ⟨g,0,none⟩,g,0,l.length,cap,fun i=>l.getD i 0⟩,rfl,⟨fun _=>rfl,hn,fun i hi=>?_,fun i hi=>hl _ (hget i hi)⟩,?_,(fun h=>by cases h),hb⟩
  ·intro j v hv
   match j with
   | 0 =>
    have e:v=.int .i64 (l.getD i 0):=by simpa [numV] using hv.symm
    subst e;show w.cell? ⟨g,0+i*1+0,none⟩=_
    have hi':i<l.length:=hi;have:=World.ownsRow.cells h' (g:=g) rfl i (.int .i64 (l.getD i 0)) (by simp[ivL,hi']);rw[adp] at this
    simpa using this
   | j+1=>simp[numV] at hv
  ·unfold Rw.ls;apply List.ext_getElem?
   intro i;by_cases hi:i<l.length
   ·simp[hi]
   ·rw[List.getElem?_eq_none (by simp;omega),List.getElem?_eq_none (by omega)]
end
section
open Go.ChangeShapes Go.WideShapes Go.ChangeAt Go.RowKit Go.Deep Go.Joins
def rowR {α:Type}(vs:α→List Value)(r:Rw α):List Value:=zau (fun i=>vs (r.x i)) r.len
theorem zjc {α:Type}{vs:α→List Value}{z:Nat}(hz:∀x,(vs x).length=z)(r:Rw α):(rowR vs r).length=r.len*z:=zfm (fun i=>hz (r.x i)) r.len
theorem zk1 {α:Type}{vs:α→List Value}{z:Nat}(hz:∀x,(vs x).length=z)(hp:0<z){A:World→α→Prop}{w:World}{r:Rw α}(h:Rw.At z vs A w r):∀a,r.ao=some a→∀j u,(rowR vs r)[j]?=some u→w.cell? (a.add j)=some u:=fun a ha j u hj=>by
 have hlt:j<r.len*z:=by rw[←zjc hz r];exact (List.getElem?_eq_some_iff.1 hj).1
 have h0:0<r.len:=by
  rcases Nat.eq_zero_or_pos r.len with e | e
  ·rw[e,Nat.zero_mul] at hlt;omega
  ·exact e
 rw[h.nil h0] at ha
 injection ha with ha
 subst ha;exact zp4 (fun i=>hz (r.x i)) hp h.row j u hj
theorem zm2 {α:Type}{vs:α→List Value}(h1:∀x,(vs x).all (·.oneCell')=true)(r:Rw α):∀u ∈ rowR vs r,u.oneCell'=true:=fun u hu=>by
 obtain⟨i,_,h⟩:=zlr r.len hu;exact List.all_eq_true.1 (h1 (r.x i)) u h
theorem Rw.of_own {α:Type}{vs:α→List Value}{z:Nat}(hz:∀x,(vs x).length=z){A:World→α→Prop}{w:World}{base:Nat}{e:TypeId}{v:Value}{n:Nat}{F:Nat→α}(h:w.ownsRow base e z v n (zau (fun i=>vs (F i)) n))(hb:n≤9223372036854775807)(hA:∀i,i<n→A w (F i)):∃r:Rw α,v=.slice r.ao r.len r.cap∧Rw.At z vs A w r∧r.len=n∧r.x=F:=by
 obtain⟨hl,⟨rfl,rfl⟩ | ⟨g,cap,cur,rfl,hg,hh,hr⟩⟩:=h
 ·exact⟨⟨none,0,0,0,0,F⟩,rfl,⟨fun h=>absurd h (Nat.lt_irrefl _),Nat.zero_le _,fun _ h=>absurd h (Nat.not_lt_zero _),fun _ h=>absurd h (Nat.not_lt_zero _)⟩,rfl,rfl⟩
 ·have ho:w.ownsRow base e z (.slice (some ⟨g,0,none⟩) n cap) n (zau (fun i=>vs (F i)) n):=⟨hl,Or.inr ⟨g,cap,cur,rfl,hg,hh,hr⟩⟩;refine⟨⟨some ⟨g,0,none⟩,g,0,n,cap,F⟩,rfl,⟨fun _=>rfl,hb,fun i hi=>?_,hA⟩,rfl,rfl⟩;have hi':i<n:=hi;intro j u hu;have hj:j<z:=by rw[←hz (F i)];exact (List.getElem?_eq_some_iff.1 hu).1
  show w.cell? ⟨g,0+i*z+j,none⟩=some u
  have hlt:i*z+j<n*z:=by
   have:(i+1)*z≤n*z:=Nat.mul_le_mul_right z (by omega);rw[Nat.add_mul,Nat.one_mul] at this;omega
  rw[Nat.zero_add,ho.cellAt (i*z+j) hlt];rw[zfj (fun i=>hz (F i)) n i j hi' hj];exact hu
def Rw.cat {α:Type}(r s:Rw α):Nat→α:=fun i=>if i<r.len then r.x i else s.x (i - r.len)
theorem zth {α:Type}(vs:α→List Value)(r s:Rw α):zau (fun i=>vs (Rw.cat r s i)) (r.len+s.len)=rowR vs r++rowR vs s:=by
 have e:(fun i=>vs (Rw.cat r s i))=fun i=>if i<r.len then vs (r.x i) else vs (s.x (i - r.len)):=by
  funext i
  show vs (if i<r.len then r.x i else s.x (i - r.len))=_
  split <;> rfl
 rw[e,zk9 (fun i=>vs (r.x i)) (fun i=>vs (s.x i)) r.len s.len];rfl
theorem Tryz.infoFn14:(Tryz.prog.info? 44).map (fun i=>(i.zero,i.size,i.bytes))=some (some (.agg #[.int .i64 0,.int .i64 0,.slice none 0 0,.int .i64 0,.int .i64 0,.int .i64 0,.int .i64 0,.slice none 0 0,.int .i64 0,.int .i64 0,.slice none 0 0,.int .i64 0,.int .i64 0,.int .i64 0,.slice none 0 0,.slice none 0 0,.slice none 0 0,.slice none 0 0]),18,256):=by kernel_rfl
section
variable {H:Type} {enc:TypeId × Value→H} {W:World} {base:Nat}
theorem zkp {x y:Value}{ao:Option Addr}{len cap:Nat}{d:DataW H}{p:List MemPlace}(h:DataW.Trod enc Tryz.prog W base (fun _=>true) true 28 (.agg #[x,y,.slice ao len cap]) d p):ao=none→len=0∧cap=0:=by
 obtain⟨fuel,hf⟩:=h;have hf':DataW.trod enc Tryz.prog W base (fun _=>true) true fuel 28 [x,y,.slice ao len cap]=some (d,p):=by simpa [Value.cells] using hf
 obtain⟨n,_,hg⟩:=zdq Tryz.underlying28 hf';obtain⟨z1,g1⟩:=hg 1 _ rfl;have f1:DataW.trod enc Tryz.prog W base (fun _=>true) true n 26 [.slice ao len cap]=some z1:=by simpa [Tryz.kFns] using g1
 rcases zns Tryz.underlying26 Tryz.kFn f1 with e | ⟨a,len',cap',e,_,_⟩
 ·injection e with e1 e2 e3
  exact fun _=>⟨e2,e3⟩
 ·injection e with e1 _ _
  intro h;rw[h] at e1;cases e1
end
section
variable {H:Type} {enc:TypeId × Value→H} {W:World} {base:Nat}
theorem zod {v:Value}{d:DataW H}{p:List MemPlace}{b0:Nat}(hv:Value.okWide Tryz.prog W .any b0 26 v)(h:DataW.Trod enc Tryz.prog W base (fun _=>true) true 26 v d p) :
  ∃r:Rw Cf,v=.slice r.ao r.len r.cap∧(CfsAt W r∧(r.ao=none→r.len=0∧r.cap=0))∧∀i,i<r.len→(r.x i).Cap:=by
 obtain⟨fuel,hf⟩:=h;obtain⟨ao,len,cap,rfl,_⟩:=okWide_slice Tryz.underlying26 hv;have hf':DataW.trod enc Tryz.prog W base (fun _=>true) true fuel 26 [.slice ao len cap]=some (d,p):=by simpa [Value.cells] using hf
 have hn:ao=none→len=0∧cap=0:=by
  rcases zns Tryz.underlying26 Tryz.kFn hf' with e | ⟨a,len',cap',e,_,_⟩
  ·injection e with e1 e2 e3
   exact fun _=>⟨e2,e3⟩
  ·injection e with e1 _ _
   intro h;rw[h] at e1;cases e1
 obtain⟨r,hr,hA⟩:=zfq Tryz.underlying26 Tryz.kFn (by decide) Cf.vs CfC noCf (fun _=>rfl) zly hf'
 injection hr with e1 e2 e3
 subst e1 e2 e3;exact⟨r,rfl,⟨⟨hA.nil,hA.bound,hA.row,fun i hi=>(hA.each i hi).1⟩,hn⟩,fun i hi=>(hA.each i hi).2⟩
end
end
end Go.Proofs.YtfobijdkoeifjaaGreatDoor
