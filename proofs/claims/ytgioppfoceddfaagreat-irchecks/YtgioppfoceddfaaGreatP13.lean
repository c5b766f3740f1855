import Derived.Test.YtgioppfoceddfaaGreatP12
import Derived.Deep.AppendLies
import Derived.Laws.AppendOwnNone
import Derived.Deep.MidRow
set_option maxRecDepth 100000
set_option maxHeartbeats 32000000
namespace Go.Proofs.YtgioppfoceddfaaGreat
section
structure Po (N:Nat)(le:Nat→Nat→Bool):Prop where
 refl:∀a,a<N→le a a=true
 anti:∀a b,a<N→b<N→le a b=true→le b a=true→a=b
 trans:∀a b c,a<N→b<N→c<N→le a b=true→le b c=true→le a c=true
theorem po_of {n:Strs}{g:Grid}(hF:zaf n g=true):Po n.len g.B :=
 ⟨fun _ ha=>zdv hF ha,fun _ _ ha hb h1 h2=>zi9 hF ha hb h1 h2,fun _ _ _ ha hb hc h1 h2=>zes hF ha hb hc h1 h2⟩
structure Fd (N:Nat)(t:Ty):Prop where
 gd:Gd N t
 part:∀i,i<t.len→∃d,(t.ps i).fm N d=true
theorem fd_of {N d:Nat}{t:Ty}(h:t.fm N d=true):Fd N t:=⟨(zi0 h).1,fun i hi=>⟨_,(zi0 h).2.2 i hi⟩⟩
theorem Fd.sub {N:Nat}{t:Ty}(h:Fd N t){i:Nat}(hi:i<t.len):Fd N (t.ps i):=by
 obtain⟨d,hd⟩:=h.part i hi;exact fd_of hd
theorem Fd.two {N:Nat}{t:Ty}(h:Fd N t)(hk:t.k=3∨t.k=4):t.len=2:=by
 have:=h.gd.ar;rw[zhv hk] at this;omega
theorem Fd.one {N:Nat}{t:Ty}(h:Fd N t)(hk:t.k=5):t.len=1:=by
 have:=h.gd.ar;rw[hk] at this;have h5:zan 5=1:=rfl;omega
theorem Fd.lab {N:Nat}{t:Ty}(h:Fd N t):∃x:Nat,t.l=x∧x<N:=zbv h.gd.lab
theorem Fd.heap {N:Nat}{t:Ty}(h:Fd N t)(hk:t.k=4):∃x:Nat,t.h=x∧x<N:=by
 have:=h.gd.bnd;rw[hk] at this;exact zbv (bnd4 this).1
theorem Fd.exc {N:Nat}{t:Ty}(h:Fd N t)(hk:t.k=4):t.e=-1∨∃x:Nat,t.e=x∧x<N:=by
 have:=h.gd.bnd;rw[hk] at this;exact (bnd4 this).2.imp (fun h=>h) zbv
theorem Fd.ne {N:Nat}{t:Ty}(h:Fd N t):t≠.dm:=fun e=>by
 subst e;have:=h.gd.ar;have h0:zan (Ty.k .dm)=-1:=rfl;rw[h0] at this;have h1:Ty.len .dm=0:=rfl;rw[h1] at this;omega
theorem same_refl:∀s:Ty,s.same s=true:=by
 intro s
 induction s with
 | dm=>rfl
 | mk k l h e ao b o len cap ps ih =>
  rw[zfb];unfold hdEq;simp only[beq_self_eq_true,Bool.and_self,Bool.true_and,decide_eq_true_eq];exact fun i _=>ih i
theorem zbb (s t:Ty):s.same t=true↔(s.k=t.k∧s.l=t.l∧s.h=t.h∧s.e=t.e∧s.len=t.len)∧∀i,i<s.len→(s.ps i).same (t.ps i)=true:=by
 rw[zfb,Bool.and_eq_true,decide_eq_true_eq];unfold hdEq;simp only[Bool.and_eq_true,beq_iff_eq]
 constructor
 ·rintro ⟨⟨⟨⟨⟨h1,h2⟩,h3⟩,h4⟩,h5⟩,h6⟩;exact⟨⟨h1,h2,h3,h4,h5⟩,h6⟩
 ·rintro ⟨⟨h1,h2,h3,h4,h5⟩,h6⟩;exact⟨⟨⟨⟨⟨h1,h2⟩,h3⟩,h4⟩,h5⟩,h6⟩
theorem zb4:∀s t u:Ty,s.same t=true→t.same u=true→s.same u=true:=by
 intro s
 induction s with
 | dm =>
  intro t u h1 h2;rw[zbb] at h1 h2 ⊢;exact⟨⟨h1.1.1.trans h2.1.1,h1.1.2.1.trans h2.1.2.1,h1.1.2.2.1.trans h2.1.2.2.1,h1.1.2.2.2.1.trans h2.1.2.2.2.1,h1.1.2.2.2.2.trans h2.1.2.2.2.2⟩,fun i hi=>absurd hi (Nat.not_lt_zero _)⟩
 | mk k l h e ao b o len cap ps ih =>
  intro t u h1 h2;rw[zbb] at h1 h2 ⊢;exact⟨⟨h1.1.1.trans h2.1.1,h1.1.2.1.trans h2.1.2.1,h1.1.2.2.1.trans h2.1.2.2.1,h1.1.2.2.2.1.trans h2.1.2.2.2.1,h1.1.2.2.2.2.trans h2.1.2.2.2.2⟩,fun i hi=>ih i (t.ps i) (u.ps i) (h1.2 i hi) (h2.2 i (by rw[←h1.1.2.2.2.2];exact hi))⟩
theorem zj3 {le:Nat→Nat→Bool}{s t:Ty}{p0 p1 q0 q1:Bool}(h:s.k=t.k→(s.k=3∨s.k=4)→p0=q0∧p1=q1):zem le s t p0 p1=zem le s t q0 q1:=by
 unfold zem;by_cases hk:s.k=t.k
 ·by_cases h3:s.k=3
  ·obtain⟨rfl,rfl⟩:=h hk (Or.inl h3);rfl
  ·by_cases h4:s.k=4
   ·obtain⟨rfl,rfl⟩:=h hk (Or.inr h4);rfl
   ·simp only[if_neg h3,if_neg h4]
 ·rw[beq_eq_false_iff_ne.2 hk];rfl
theorem zm0 {N:Nat}{le:Nat→Nat→Bool}:∀s t:Ty,Fd N s→Fd N t→s.bel le false t=t.bel le true s∧s.bel le true t=t.bel le false s:=by
 intro s
 induction s with
 | dm=>intro t hs;exact absurd rfl hs.ne
 | mk k l h e ao b o len cap ps ih =>
  intro t hs ht;have key:∀i,(Ty.mk k l h e ao b o len cap ps).k=t.k→((Ty.mk k l h e ao b o len cap ps).k=3∨(Ty.mk k l h e ao b o len cap ps).k=4)→i<2→(ps i).bel le false (t.ps i)=(t.ps i).bel le true (ps i)∧(ps i).bel le true (t.ps i)=(t.ps i).bel le false (ps i):=fun i hk h34 hi=>by
   have h1:=hs.two h34;have h2:=ht.two (by rw[←hk];exact h34)
   exact ih i (t.ps i) (hs.sub (i:=i) (by omega)) (ht.sub (i:=i) (by omega))
  rw[zk2 _ _ _ hs.ne,zh8 _ _ _ ht.ne,zh8 _ _ _ hs.ne,zk2 _ _ _ ht.ne];refine⟨zj3 (fun hk h34=>?_),zj3 (fun hk h34=>?_)⟩
  ·have k0:=key 0 hk.symm (by rw[←hk];exact h34) (by omega)
   have k1:=key 1 hk.symm (by rw[←hk];exact h34) (by omega)
   exact⟨by show (if t.k=4 then (ps 0).bel le true (t.ps 0) else (ps 0).bel le false (t.ps 0))=(if t.k=4 then (t.ps 0).bel le false (ps 0) else (t.ps 0).bel le true (ps 0));rw[k0.1,k0.2],k1.1⟩
  ·have k0:=key 0 hk h34 (by omega);have k1:=key 1 hk h34 (by omega);exact⟨by show (if k=4 then (ps 0).bel le false (t.ps 0) else (ps 0).bel le true (t.ps 0))=(if k=4 then (t.ps 0).bel le true (ps 0) else (t.ps 0).bel le false (ps 0));rw[k0.1,k0.2],k1.2⟩
structure BelS (le:Nat→Nat→Bool)(s t:Ty):Prop where
 k:s.k=t.k
 l:le s.l.toNat t.l.toNat=true
 pair:s.k=3→(s.ps 0).bel le true (t.ps 0)=true∧(s.ps 1).bel le true (t.ps 1)=true
 func:s.k=4→((t.ps 0).bel le true (s.ps 0)=true∧(s.ps 1).bel le true (t.ps 1)=true)∧le t.h.toNat s.h.toNat=true∧excB le s.e t.e=true
 ref:s.k=5→(s.ps 0).same (t.ps 0)=true
theorem ze1 {N:Nat}{le:Nat→Nat→Bool}{s t:Ty}(hs:Fd N s)(ht:Fd N t):s.bel le true t=true↔BelS le s t:=by
 rw[zh8 _ _ _ hs.ne];unfold zem;rw[Bool.and_eq_true,Bool.and_eq_true,beq_iff_eq]
 constructor
 ·rintro ⟨⟨hk,hl⟩,h⟩;refine⟨hk,hl,fun h3=>?_,fun h4=>?_,fun h5=>?_⟩
  ·rw[if_pos h3,if_neg (by omega),Bool.and_eq_true] at h;exact h
  ·rw[if_neg (by omega),if_pos h4,if_pos h4,Bool.and_eq_true,Bool.and_eq_true,Bool.and_eq_true] at h;have h1:=hs.two (Or.inr h4);have h2:=ht.two (by rw[←hk];exact Or.inr h4)
   have hf:=(zm0 (le:=le) (s.ps 0) (t.ps 0) (hs.sub (by omega)) (ht.sub (by omega))).1;rw[hf] at h;exact⟨h.1.1,h.1.2,h.2⟩
  ·rw[if_neg (by omega),if_neg (by omega),if_pos h5] at h;exact h
 ·intro h;refine⟨⟨h.k,h.l⟩,?_⟩;by_cases h3:s.k=3
  ·rw[if_pos h3,if_neg (by omega),Bool.and_eq_true];exact h.pair h3
  ·rw[if_neg h3];by_cases h4:s.k=4
   ·rw[if_pos h4,if_pos h4,Bool.and_eq_true,Bool.and_eq_true,Bool.and_eq_true];have h1:=hs.two (Or.inr h4);have h2:=ht.two (by rw[←h.k];exact Or.inr h4)
    have hf:=(zm0 (le:=le) (s.ps 0) (t.ps 0) (hs.sub (by omega)) (ht.sub (by omega))).1;rw[hf];exact⟨⟨(h.func h4).1,(h.func h4).2.1⟩,(h.func h4).2.2⟩
   ·rw[if_neg h4];by_cases h5:s.k=5
    ·rw[if_pos h5];exact h.ref h5
    ·rw[if_neg h5]
theorem zny {N:Nat}{le:Nat→Nat→Bool}(P:Po N le){a:Int}(ha:a=-1∨∃x:Nat,a=x∧x<N):excB le a a=true:=by
 unfold excB;rcases ha with rfl | ⟨x,rfl,hx⟩
 ·rfl
 ·rw[show ((x:Int) != -1)=true from by simp,Int.toNat_natCast,P.refl x hx];simp
theorem zw5 {le:Nat→Nat→Bool}{a b:Int}:excB le a b=true↔a=-1∨(b≠-1∧le a.toNat b.toNat=true):=by
 unfold excB;rw[Bool.or_eq_true,Bool.and_eq_true,beq_iff_eq,bne_iff_ne]
theorem zl3 {N:Nat}{le:Nat→Nat→Bool}(P:Po N le){a b c:Int}(ha:a=-1∨∃x:Nat,a=x∧x<N)(hb:b=-1∨∃x:Nat,b=x∧x<N)(hc:c=-1∨∃x:Nat,c=x∧x<N)(h1:excB le a b=true)(h2:excB le b c=true):excB le a c=true:=by
 rw[zw5] at h1 h2 ⊢;rcases h1 with h1 | ⟨h1,h1'⟩
 ·exact Or.inl h1
 rcases h2 with h2 | ⟨h2,h2'⟩
 ·exact absurd h2 h1
 rcases ha with ha | ⟨x,rfl,hx⟩
 ·exact Or.inl ha
 rcases hb with hb | ⟨y,rfl,hy⟩
 ·exact absurd hb h1
 rcases hc with hc | ⟨z,rfl,hz⟩
 ·exact absurd hc h2
 exact Or.inr ⟨h2,P.trans _ _ _ hx hy hz h1' h2'⟩
theorem zgl {N:Nat}{le:Nat→Nat→Bool}(P:Po N le):∀s t u:Ty,Fd N s→Fd N t→Fd N u→(s.bel le true t=true→t.bel le true u=true→s.bel le true u=true)∧(u.bel le true t=true→t.bel le true s=true→u.bel le true s=true):=by
 intro s
 induction s with
 | dm=>intro t u hs;exact absurd rfl hs.ne
 | mk k l h e ao b o len cap ps ih =>
  intro t u hs ht hu;obtain⟨x,hx,hx1⟩:=hs.lab;obtain⟨y,hy,hy1⟩:=ht.lab;obtain⟨z,hz,hz1⟩:=hu.lab;rw[ze1 hs ht,ze1 ht hu,ze1 hs hu,ze1 hu ht,ze1 ht hs,ze1 hu hs];have sub:∀i,i<2→(Ty.mk k l h e ao b o len cap ps).k=3∨(Ty.mk k l h e ao b o len cap ps).k=4→(Ty.mk k l h e ao b o len cap ps).k=t.k→(Ty.mk k l h e ao b o len cap ps).k=u.k→((ps i).bel le true (t.ps i)=true→(t.ps i).bel le true (u.ps i)=true→(ps i).bel le true (u.ps i)=true)∧((u.ps i).bel le true (t.ps i)=true→(t.ps i).bel le true (ps i)=true→(u.ps i).bel le true (ps i)=true):=fun i hi h34 ht' hu'=>by
   have h1:=hs.two h34;have h2:=ht.two (by rw[←ht'];exact h34)
   have h3:=hu.two (by rw[←hu'];exact h34)
   exact ih i (t.ps i) (u.ps i) (hs.sub (i:=i) (by omega)) (ht.sub (by omega)) (hu.sub (by omega))
  constructor
  ·intro a b';have ku:=a.k.trans b'.k;refine⟨ku,?_,fun h3=>?_,fun h4=>?_,fun h5=>?_⟩
   ·have q1:=a.l;have q2:=b'.l;rw[hx,hy,Int.toNat_natCast,Int.toNat_natCast] at q1;rw[hy,hz,Int.toNat_natCast,Int.toNat_natCast] at q2;rw[hx,hz,Int.toNat_natCast,Int.toNat_natCast];exact P.trans x y z hx1 hy1 hz1 q1 q2
   ·have p1:=a.pair h3;have p2:=b'.pair (by rw[←a.k];exact h3)
    exact⟨(sub 0 (by omega) (Or.inl h3) a.k ku).1 p1.1 p2.1,(sub 1 (by omega) (Or.inl h3) a.k ku).1 p1.2 p2.2⟩
   ·have p1:=a.func h4;have p2:=b'.func (by rw[←a.k];exact h4)
    obtain⟨xh,hxh,hxh1⟩:=hs.heap h4;obtain⟨yh,hyh,hyh1⟩:=ht.heap (by rw[←a.k];exact h4)
    obtain⟨zh,hzh,hzh1⟩:=hu.heap (by rw[←ku];exact h4)
    refine⟨⟨(sub 0 (by omega) (Or.inr h4) a.k ku).2 p2.1.1 p1.1.1,(sub 1 (by omega) (Or.inr h4) a.k ku).1 p1.1.2 p2.1.2⟩,?_,zl3 P (hs.exc h4) (ht.exc (by rw[←a.k];exact h4)) (hu.exc (by rw[←ku];exact h4)) p1.2.2 p2.2.2⟩
    have q1:=p1.2.1;have q2:=p2.2.1;rw[hxh,hyh,Int.toNat_natCast,Int.toNat_natCast] at q1;rw[hyh,hzh,Int.toNat_natCast,Int.toNat_natCast] at q2;rw[hxh,hzh,Int.toNat_natCast,Int.toNat_natCast];exact P.trans zh yh xh hzh1 hyh1 hxh1 q2 q1
   ·exact zb4 _ _ _ (a.ref h5) (b'.ref (by rw[←a.k];exact h5))
  ·intro a b';have ku:=a.k.trans b'.k;refine⟨ku,?_,fun h3=>?_,fun h4=>?_,fun h5=>?_⟩
   ·have q1:=a.l;have q2:=b'.l;rw[hz,hy,Int.toNat_natCast,Int.toNat_natCast] at q1;rw[hy,hx,Int.toNat_natCast,Int.toNat_natCast] at q2;rw[hz,hx,Int.toNat_natCast,Int.toNat_natCast];exact P.trans z y x hz1 hy1 hx1 q1 q2
   ·have p1:=a.pair h3;have p2:=b'.pair (by rw[←a.k];exact h3)
    have hk3:(Ty.mk k l h e ao b o len cap ps).k=3:=by rw[←ku];exact h3
    exact⟨(sub 0 (by omega) (Or.inl hk3) b'.k.symm ku.symm).2 p1.1 p2.1,(sub 1 (by omega) (Or.inl hk3) b'.k.symm ku.symm).2 p1.2 p2.2⟩
   ·have p1:=a.func h4;have p2:=b'.func (by rw[←a.k];exact h4)
    have hk4:(Ty.mk k l h e ao b o len cap ps).k=4:=by rw[←ku];exact h4
    obtain⟨xh,hxh,hxh1⟩:=hs.heap hk4;obtain⟨yh,hyh,hyh1⟩:=ht.heap (by rw[←a.k];exact h4)
    obtain⟨zh,hzh,hzh1⟩:=hu.heap h4;refine⟨⟨(sub 0 (by omega) (Or.inr hk4) b'.k.symm ku.symm).1 p2.1.1 p1.1.1,(sub 1 (by omega) (Or.inr hk4) b'.k.symm ku.symm).2 p1.1.2 p2.1.2⟩,?_,zl3 P (hu.exc h4) (ht.exc (by rw[←a.k];exact h4)) (hs.exc hk4) p1.2.2 p2.2.2⟩
    have q1:=p1.2.1;have q2:=p2.2.1;rw[hzh,hyh,Int.toNat_natCast,Int.toNat_natCast] at q1;rw[hyh,hxh,Int.toNat_natCast,Int.toNat_natCast] at q2;rw[hzh,hxh,Int.toNat_natCast,Int.toNat_natCast];exact P.trans xh yh zh hxh1 hyh1 hzh1 q2 q1
   ·exact zb4 _ _ _ (a.ref h5) (b'.ref (by rw[←a.k];exact h5))
theorem zfx {N:Nat}{t:Ty}(h:t.ok N=true):Fd N t:=fd_of (zeq h).1
end
section
open Go.RowKit
def Ty.Blk (Q:Nat→Prop):Ty→Prop
 | .dm=>True
 | .mk _ _ _ _ _ b _ len _ ps=>(0<len→Q b)∧∀i,i<len→Ty.Blk Q (ps i)
theorem Ty.Blk.mono {Q R:Nat→Prop}(hQR:∀b,Q b→R b):∀{t:Ty},t.Blk Q→t.Blk R
 | .dm,_=>True.intro
 | .mk _ _ _ _ _ _ _ _ _ _,h=>⟨fun hl=>hQR _ (h.1 hl),fun i hi=>Ty.Blk.mono hQR (h.2 i hi)⟩
theorem Ty.Blk.and {Q R:Nat→Prop}:∀{t:Ty},t.Blk Q→t.Blk R→t.Blk (fun b=>Q b∧R b)
 | .dm,_,_=>True.intro
 | .mk _ _ _ _ _ _ _ _ _ _,h,k=>⟨fun hl=>⟨h.1 hl,k.1 hl⟩,fun i hi=>Ty.Blk.and (h.2 i hi) (k.2 i hi)⟩
theorem Ty.At.lt {w:World}:∀{t:Ty},t.At w→t.Blk (fun b=>b<w.heap.size)
 | .dm,h=>h.elim
 | .mk _ _ _ _ _ _ _ _ _ _,h=>⟨fun hl=>zd6 (h.2.2 0 hl).1.c0,fun i hi=>Ty.At.lt (h.2.2 i hi).2⟩
theorem Ty.At.agree {w w':World}{Q:Nat→Prop}(hag:∀b,Q b→w'.heap[b]?=w.heap[b]?):∀{t:Ty},t.At w→t.Blk Q→t.At w'
 | .dm,h,_=>h.elim
 | .mk _ _ _ _ _ b o len _ ps,h,k=>⟨h.1,h.2.1,fun i hi=>by
   have e:=hag b (k.1 (by omega));have C:=(h.2.2 i hi).1;exact⟨⟨(World.cell?_of_block (w:=w) e).trans C.c0,(World.cell?_of_block (w:=w) e).trans C.c1,(World.cell?_of_block (w:=w) e).trans C.c2,(World.cell?_of_block (w:=w) e).trans C.c3,(World.cell?_of_block (w:=w) e).trans C.c4⟩,Ty.At.agree hag (h.2.2 i hi).2 (k.2 i hi)⟩⟩
def Ty.vs (t:Ty):List Value:=[.int .i64 t.k,.int .i64 t.l,.slice t.ao t.len t.cap,.int .i64 t.h,.int .i64 t.e]
def zc7 (ts:Nat→Ty):Nat→List Value
 | 0=>[]
 | j+1=>zc7 ts j++(ts j).vs
theorem znc (ts:Nat→Ty):∀j,(zc7 ts j).length=j*5
 | 0=>rfl
 | j+1=>by
  show (zc7 ts j++(ts j).vs).length=_
  rw[List.length_append,znc ts j];show j*5+5=_
  omega
theorem zmy (ts:Nat→Ty):∀j i q,i<j→q<5→(zc7 ts j)[i*5+q]?=(ts i).vs[q]?
 | 0,_,_,h,_=>absurd h (Nat.not_lt_zero _)
 | j+1,i,q,hi,hq=>by
  show (zc7 ts j++(ts j).vs)[i*5+q]?=_
  have hl:=znc ts j;by_cases e:i=j
  ·subst e;rw[List.getElem?_append_right (by omega),hl]
   congr 1
   omega
  ·rw[List.getElem?_append_left (by omega)];exact zmy ts j i q (by omega) hq
theorem zkq {ts us:Nat→Ty}:∀j,(∀i,i<j→ts i=us i)→zc7 ts j=zc7 us j
 | 0,_=>rfl
 | j+1,h=>by
  show zc7 ts j++(ts j).vs=zc7 us j++(us j).vs
  rw[zkq j (fun i hi=>h i (by omega)),h j (by omega)]
structure GRow (w0 wr:World)(v:Value)(j:Nat)(ts:Nat→Ty):Prop where
 bl:Below w0.heap.size w0 wr
 own:wr.ownsRow w0.heap.size 38 5 v j (zc7 ts j)
 at':∀i,i<j→(ts i).At wr
 blk:∀i,i<j→(ts i).Blk (fun b=>w0.heap.size≤b∧some b≠v.ownBlock)
theorem GRow.start (w:World)(ts:Nat→Ty):GRow w w (.slice none 0 0) 0 ts :=
 ⟨Below.refl _ _,World.ownsRow_nil _ _ _ _,fun _ h=>absurd h (Nat.not_lt_zero _),fun _ h=>absurd h (Nat.not_lt_zero _)⟩
theorem own_lt {w:World}{base:Nat}{e:TypeId}{size:Nat}{v:Value}{n:Nat}{xs:List Value}(h:w.ownsRow base e size v n xs){b:Nat}(hb:v.ownBlock=some b):b<w.heap.size:=by
 obtain⟨cur,hc⟩:=zjq h hb;exact (Array.getElem?_eq_some_iff.1 hc).1
theorem GRow.push {w0 wr w1 w3:World}{v:Value}{j:Nat}{ts:Nat→Ty}{t:Ty}{gg cap:Nat}(h:GRow w0 wr v j ts)(hb:Below wr.heap.size wr w1)(ht:t.At w1)(hk:t.Blk (fun b=>wr.heap.size≤b))
  (hown:w3.ownsRow w0.heap.size 38 5 (.slice (some ⟨gg,0,none⟩) (j+1) cap) (j+1) (zc7 ts j++t.vs)) (hgrow:(w1.alloc (tyO t)).grownBy w3 v.ownBlock) (hat:v.ownBlock=some gg∨gg=w1.heap.size+1) :
  GRow w0 w3 (.slice (some ⟨gg,0,none⟩) (j+1) cap) (j+1) (fun i=>if i<j then ts i else t):=by
 have s1:=h.bl.size;have s2:=hb.size;have ba:=zac w1 (tyO t);have sz:(w1.alloc (tyO t)).heap.size=w1.heap.size+1:=alloc_size _ _;have old1:∀b,b<w1.heap.size→some b≠v.ownBlock→w3.heap[b]?=w1.heap[b]?:=fun b hb1 hne=>(hgrow.block b (by rw[sz];omega) hne).trans (ba.block b hb1)
 have old:∀b,b<wr.heap.size→some b≠v.ownBlock→w3.heap[b]?=wr.heap[b]?:=fun b hb1 hne=>(old1 b (by omega) hne).trans (hb.block b hb1);have lt:∀b,v.ownBlock=some b→b<wr.heap.size:=fun b hb'=>own_lt h.own hb';have nat:t.At w3:=Ty.At.agree (Q:=fun b=>wr.heap.size≤b∧b<w1.heap.size) (fun b hq=>old1 b hq.2 (fun e=>by have:=lt b e.symm;omega)) ht (hk.and ht.lt)
 refine⟨?_,?_,fun i hi=>?_,fun i hi=>?_⟩
 ·refine⟨hgrow.os.trans (ba.os.trans (hb.os.trans h.bl.os)),hgrow.tape.trans (ba.tape.trans (hb.tape.trans h.bl.tape)),hgrow.output.trans (ba.output.trans (hb.output.trans h.bl.output)),?_,fun b hb1=>?_⟩
  ·have:=hgrow.size;omega
  ·rw[old b (by omega) (fun e=>by have:=zii h.own e.symm;omega)]
   exact h.bl.block b hb1
 ·have e:zc7 (fun i=>if i<j then ts i else t) (j+1)=zc7 ts j++t.vs:=by
   show zc7 (fun i=>if i<j then ts i else t) j++(if j<j then ts j else t).vs=_
   rw[zkq j (us:=ts) (fun i hi=>by simp[hi]),if_neg (Nat.lt_irrefl _)]
  rw[e];exact hown
 ·by_cases hij:i<j
  ·simp only[hij,if_true];exact Ty.At.agree (Q:=fun b=>(w0.heap.size≤b∧some b≠v.ownBlock)∧b<wr.heap.size) (fun b hq=>old b hq.2 hq.1.2) (h.at' i hij) ((h.blk i hij).and (h.at' i hij).lt)
  ·simp only[hij,if_false];exact nat
 ·have key:∀b,(b<wr.heap.size∧some b≠v.ownBlock)∨(wr.heap.size≤b∧b<w1.heap.size)→some b≠(Value.slice (some ⟨gg,0,none⟩) (j+1) cap).ownBlock:=fun b hq e=>by
   have e':b=gg:=by simpa [Value.ownBlock] using e
   subst e';rcases hat with hat | hat
   ·rcases hq with hq | hq
    ·exact hq.2 hat.symm
    ·have:=lt b hat;omega
   ·rcases hq with hq | hq <;> omega
  by_cases hij:i<j
  ·simp only[hij,if_true];exact ((h.blk i hij).and (h.at' i hij).lt).mono (fun b hq=>⟨hq.1.1,key b (Or.inl ⟨hq.2,hq.1.2⟩)⟩)
  ·simp only[hij,if_false];exact (hk.and ht.lt).mono (fun b hq=>⟨by omega,key b (Or.inr hq)⟩)
theorem GRow.ty {w0 wr:World}{v:Value}{j:Nat}{ts:Nat→Ty}(h:GRow w0 wr v j ts)(hj:j≤9223372036854775807):∃(ao:Option Addr) (gg cap:Nat),v=.slice ao j cap∧∀k l hh e,Ty.At wr (.mk k l hh e ao gg 0 j cap ts)∧Ty.Blk (fun b=>w0.heap.size≤b) (.mk k l hh e ao gg 0 j cap ts):=by
 by_cases h0:0<j
 ·obtain⟨gg,cap,rfl,hge,_⟩:=h.own.form h0;refine⟨_,gg,cap,rfl,fun k l hh e=>⟨⟨fun _=>rfl,hj,fun i hi=>⟨?_,h.at' i hi⟩⟩,fun _=>hge,fun i hi=>(h.blk i hi).mono (fun b hq=>hq.1)⟩⟩;have get:∀q,q<5→wr.cell? ⟨gg,0+i*5+q,none⟩=(ts i).vs[q]?:=fun q hq=>by
   rw[Nat.zero_add,h.own.cellAt (i*5+q) (by omega),zmy ts j i q hi hq]
  exact⟨get 0 (by omega),get 1 (by omega),get 2 (by omega),get 3 (by omega),get 4 (by omega)⟩
 ·have e:j=0:=by omega
  subst e;obtain⟨_,⟨rfl,_⟩ | ⟨gb,cap,cur,rfl,hg,_⟩⟩:=h.own
  ·exact⟨none,0,0,rfl,fun k l hh e=>⟨⟨fun h=>absurd h (Nat.lt_irrefl _),hj,fun _ h=>absurd h (Nat.not_lt_zero _)⟩,fun h=>absurd h (Nat.lt_irrefl _),fun _ h=>absurd h (Nat.not_lt_zero _)⟩⟩
  ·exact⟨_,gb,cap,rfl,fun k l hh e=>⟨⟨fun _=>rfl,hj,fun _ h=>absurd h (Nat.not_lt_zero _)⟩,fun h=>absurd h (Nat.lt_irrefl _),fun _ h=>absurd h (Nat.not_lt_zero _)⟩⟩
theorem Tryz.infoTy:(Tryz.prog.info? 38).map (fun i=>(i.zero,i.size,i.bytes))=some (some (.agg #[.int .i64 0,.int .i64 0,.slice none 0 0,.int .i64 0,.int .i64 0]),5,56):=by kernel_rfl
theorem zvj {w w':World}{base:Nat}{e:TypeId}{size:Nat}{v:Value}{n:Nat}{xs:List Value}(h:w.ownsRow base e size v n xs)(hb:Below w.heap.size w w'):w'.ownsRow base e size v n xs:=by
 obtain⟨h1,h2⟩:=h;refine⟨h1,?_⟩;rcases h2 with h2 | ⟨g,cap,cur,hv,hg,hh,r⟩
 ·exact Or.inl h2
 ·exact Or.inr ⟨g,cap,cur,hv,hg,(hb.block g (Array.getElem?_eq_some_iff.1 hh).1).trans hh,r⟩
structure CBox (w w0:World)(t:Ty):Prop where
 bl:Below w.heap.size w w0
 sz:w0.heap.size=w.heap.size+2
 x:Bx w0 w.heap.size t
 fx:∀i,i<5→w0.frozen? ⟨w.heap.size,i,none⟩=false
 r:∀i,i<5→(w0.cell? ⟨w.heap.size+1,i,none⟩).isSome=true
 fr:∀i,i<5→w0.frozen? ⟨w.heap.size+1,i,none⟩=false
theorem zv2 (w:World)(t:Ty):CBox w ((w.alloc (tyO t)).alloc (.cells #[.int .i64 0,.int .i64 0,.slice none 0 0,.int .i64 0,.int .i64 0] 38)) t where
 bl:=Below.next (zac _ _) (zac _ _)
 sz:=by rw[alloc_size,alloc_size]
 x:=(Bx.new w t).kept (zac _ _)
 fx:=fun i hi=>by
  rw[(zac (w.alloc (tyO t)) _).frozen (p:=⟨w.heap.size,i,none⟩) (by rw[alloc_size];exact Nat.lt_succ_self _)]
  simp[tyO]
 r:=fun i hi=>by
  have e:(w.alloc (tyO t)).heap.size=w.heap.size+1:=alloc_size _ _;rw[←e]
  match i,hi with
  | 0,_=>simp
  | 1,_=>simp
  | 2,_=>simp
  | 3,_=>simp
  | 4,_=>simp
 fr:=fun i hi=>by
  have e:(w.alloc (tyO t)).heap.size=w.heap.size+1:=alloc_size _ _;rw[←e];simp
def CP (w:World)(t:Ty)(e:Ending)(w':World):Prop :=
 ∃u:Ty,e=.returned (.agg #[.int .i64 u.k,.int .i64 u.l,.slice u.ao u.len u.cap,.int .i64 u.h,.int .i64 u.e])∧u.At w'∧u.Blk (fun b=>w.heap.size≤b)∧u.same t=true∧Below w.heap.size w w'
theorem CP.intro {w:World}{t:Ty}{e:Ending}{w':World}(u:Ty)(h1:e=.returned (.agg #[.int .i64 u.k,.int .i64 u.l,.slice u.ao u.len u.cap,.int .i64 u.h,.int .i64 u.e]))(h2:u.At w')(h3:u.Blk (fun b=>w.heap.size≤b))(h4:u.same t=true)(h5:Below w.heap.size w w'):CP w t e w':=⟨u,h1,h2,h3,h4,h5⟩
theorem zpx:∀(t:Ty) (w:World),t.nodes≤1000→t.At w→Calls Tryz.prog 127 #[.agg #[.int .i64 t.k,.int .i64 t.l,.slice t.ao t.len t.cap,.int .i64 t.h,.int .i64 t.e]] w fun e w'=>CP w t e w':=by
 intro t
 induction t with
 | dm=>intro w _ hAt;exact hAt.elim
 | mk k l h e ao b o len cap ps ih =>
  intro w hN hAt;show Calls Tryz.prog 127 #[.agg #[.int .i64 k,.int .i64 l,.slice ao len cap,.int .i64 h,.int .i64 e]] w fun r w'=>CP w (.mk k l h e ao b o len cap ps) r w'
  have K0:=zv2 w (.mk k l h e ao b o len cap ps);have hb:len≤9223372036854775807:=hAt.bound;have hnil:0<len→ao=some ⟨b,o,none⟩:=hAt.nil;have HP:Hid (∀j,j<len→(ps j).nodes≤1000∧j<1000):=fun j hj=>by
   have h1:(ps j).nodes<_:=zdg (t:=.mk k l h e ao b o len cap ps) hj;have h2:1+za6 (fun i=>(ps i).nodes) len≤1000:=hN;have h3:∀m,m≤za6 (fun i=>(ps i).nodes) m:=fun m=>by
    induction m with
    | zero=>exact Nat.le_refl _
    | succ m ihm =>
     have:1≤(ps m).nodes:=by rw[zeu];omega
     show m+1≤za6 (fun i=>(ps i).nodes) m+(ps m).nodes
     omega
   have h4:=h3 len;exact⟨by omega,by omega⟩
  have hA0:=hAt.kept K0.bl;unfold tyO at K0 hA0;simp only[Ty.k,Ty.l,Ty.h,Ty.e,Ty.ao,Ty.len,Ty.cap] at K0 hA0;have x2:((w.alloc (.cells #[.int .i64 k,.int .i64 l,.slice ao len cap,.int .i64 h,.int .i64 e] 38)).alloc (.cells #[.int .i64 0,.int .i64 0,.slice none 0 0,.int .i64 0,.int .i64 0] 38)).cell? ⟨w.heap.size,2,none⟩=some (.slice ao len cap):=K0.x.c2;clear hAt hN;go_enter Tryz.func127,Tryz.ntmps127
  go_wp2;clear x2;generalize ((w.alloc (.cells #[.int .i64 k,.int .i64 l,.slice ao len cap,.int .i64 h,.int .i64 e] 38)).alloc (.cells #[.int .i64 0,.int .i64 0,.slice none 0 0,.int .i64 0,.int .i64 0] 38))=w0 at K0 hA0 ⊢;obtain⟨i0,hi,hz0,hz1,hz2⟩:=info_parts Tryz.infoTy;go_loopw [3,9] (fun sv i wr=>∃(j:Nat) (v:Value) (ts:Nat→Ty),j≤len∧v=sv∧i=.int .i64 j∧GRow w0 wr v j ts∧∀i,i<j→(ts i).same (ps i)=true) (fun _ i _=>len - (intOf i).toNat)
  case atStart=>exact⟨0,_,fun _=>.dm,Nat.zero_le _,rfl,rfl,GRow.start _ _,fun _ h=>absurd h (Nat.not_lt_zero _)⟩
  case round =>
   obtain⟨j,v,ts,hj,hv,rfl,hR,hsame⟩:=hrel;subst hv;have HS:Hid (∀i,i<j→(ts i).same (ps i)=true):=hsame;clear hsame;by_cases hlt:j<len
   ·have ij:(j:Int)<len:=by omega
    have a0:=hnil (by omega);subst a0;have hA:=hA0.kept hR.bl;have C:C5 wr b (o+j*5) (ps j):=hA.cells hlt;have P:(ps j).At wr:=hA.part hlt;have Ba:=zac wr (.cells #[.int .i64 (ps j).k,.int .i64 (ps j).l,.slice (ps j).ao (ps j).len (ps j).cap,.int .i64 (ps j).h,.int .i64 (ps j).e] 38);have y0:=C.c0;have y1:=C.c1;have y2:=C.c2;have y3:=C.c3;have y4:=C.c4;have hI:=ih j _ (HP.out j hlt).1 (P.kept Ba);have HR:Hid (GRow w0 wr v j ts):=hR;clear C hA hR P;go_wp2_with fail
    refine hI.mono ?_;intro r w1 hCP;obtain⟨u,rfl,uA,uB,uS,hb1⟩:=hCP;have HU:Hid (u.At w1∧u.Blk (fun b=>wr.heap.size≤b)∧u.same (ps j)=true∧Below wr.heap.size wr w1):=⟨uA,uB.mono (fun b hq=>Nat.le_trans Ba.size hq),uS,Below.next Ba hb1⟩;clear uA uB uS hb1 y0 y1 y2 y3 y4 hI Ba;have hownA:=zvj HR.out.own (Below.next HU.out.2.2.2 (zac w1 (.cells #[.int .i64 u.k,.int .i64 u.l,.slice u.ao u.len u.cap,.int .i64 u.h,.int .i64 u.e] 38)));have j1000:=(HP.out j hlt).2;have hs0:w0.heap.size≤w1.heap.size:=Nat.le_trans HR.out.bl.size HU.out.2.2.2.size;go_wp2_with ((at_builtin;refine wpList_append_lies _ rfl _ _ 36 rfl w0.heap.size 38 i0 _ 5 56 Tryz.underlying36 hi hz0 hz1 hz2 rfl (by decide) v j (zc7 ts j) rfl hownA ⟨w1.heap.size,0,none⟩ 1 1 u.vs rfl rfl (World.news_of_block (cs:=#[.int .i64 u.k,.int .i64 u.l,.slice u.ao u.len u.cap,.int .i64 u.h,.int .i64 u.e]) (t:=38) (fr:=(0,0)) (heap_alloc_new w1 _)) (by intro x hx;simp[Ty.vs] at hx;rcases hx with rfl | rfl | rfl | rfl | rfl <;> rfl) (by omega) (by unfold maxLen;omega) (by omega) (by rw[alloc_size];omega) (w1.heap.size+1) (alloc_size _ _) ?_;intro gg cap3 w3 hown3 hgrow hat hltg;have HG:Hid (GRow w0 w3 (.slice (some ⟨gg,0,none⟩) (j+1) cap3) (j+1) (fun i=>if i<j then ts i else u)):=HR.out.push HU.out.2.2.2 HU.out.1 HU.out.2.1 hown3 hgrow hat;clear hown3 hgrow hat hltg));go_roundw
    case rel=>exact⟨j+1,_,_,by omega,rfl,by go_num,HG.out,fun i hi=>by
      by_cases hij:i<j
      ·simp only[hij,if_true];exact HS.out i hij
      ·have e:i=j:=by omega
       subst e;simp only[Nat.lt_irrefl,if_false];exact HU.out.2.2.1⟩
    case measure=>simp[intOf];omega
   ·have e:len=j:=by omega
    subst e;have dl:¬(len:Int)<len:=by omega
    obtain⟨gao,gg,gcap,rfl,hTy⟩:=hR.ty hb;have x0:wr.cell? ⟨w.heap.size,0,none⟩=some (.int .i64 k):=up hR.bl K0.x.c0;have x1:wr.cell? ⟨w.heap.size,1,none⟩=some (.int .i64 l):=up hR.bl K0.x.c1;have x2:wr.cell? ⟨w.heap.size,2,none⟩=some (.slice ao len cap):=up hR.bl K0.x.c2;have x3:wr.cell? ⟨w.heap.size,3,none⟩=some (.int .i64 h):=up hR.bl K0.x.c3;have x4:wr.cell? ⟨w.heap.size,4,none⟩=some (.int .i64 e):=up hR.bl K0.x.c4;have f2:=(hR.bl.frozen (p:=⟨w.heap.size,2,none⟩) (by have:=K0.sz;show w.heap.size<_;omega)).trans (K0.fx 2 (by omega))
    obtain⟨r0,hr0⟩:=Option.isSome_iff_exists.1 (K0.r 0 (by omega));have s0:=up hR.bl hr0;have t0:=(hR.bl.frozen (p:=⟨w.heap.size+1,0,none⟩) (by have:=K0.sz;show w.heap.size+1<_;omega)).trans (K0.fr 0 (by omega))
    obtain⟨r1,hr1⟩:=Option.isSome_iff_exists.1 (K0.r 1 (by omega));have s1:=up hR.bl hr1;have t1:=(hR.bl.frozen (p:=⟨w.heap.size+1,1,none⟩) (by have:=K0.sz;show w.heap.size+1<_;omega)).trans (K0.fr 1 (by omega))
    obtain⟨r2,hr2⟩:=Option.isSome_iff_exists.1 (K0.r 2 (by omega));have s2:=up hR.bl hr2;have t2:=(hR.bl.frozen (p:=⟨w.heap.size+1,2,none⟩) (by have:=K0.sz;show w.heap.size+1<_;omega)).trans (K0.fr 2 (by omega))
    obtain⟨r3,hr3⟩:=Option.isSome_iff_exists.1 (K0.r 3 (by omega));have s3:=up hR.bl hr3;have t3:=(hR.bl.frozen (p:=⟨w.heap.size+1,3,none⟩) (by have:=K0.sz;show w.heap.size+1<_;omega)).trans (K0.fr 3 (by omega))
    obtain⟨r4,hr4⟩:=Option.isSome_iff_exists.1 (K0.r 4 (by omega));have s4:=up hR.bl hr4;have t4:=(hR.bl.frozen (p:=⟨w.heap.size+1,4,none⟩) (by have:=K0.sz;show w.heap.size+1<_;omega)).trans (K0.fr 4 (by omega))
    have HT:Hid (Ty.At wr (.mk k l h e gao gg 0 len gcap ts)∧Ty.Blk (fun b=>w0.heap.size≤b) (.mk k l h e gao gg 0 len gcap ts)):=hTy k l h e;have HB:Hid (Below w.heap.size w wr∧w0.heap.size=w.heap.size+2):=⟨K0.bl.trans (hR.bl.mono (by have:=K0.bl.size;omega)),K0.sz⟩
    clear hR hTy K0 hA0 hr0 hr1 hr2 hr3 hr4;go_wp2;refine bodyPost_ret (v:=.agg #[.int .i64 k,.int .i64 l,.slice gao len gcap,.int .i64 h,.int .i64 e]) (by simp[results,Tryz.results127,go_sem,s0,s1,s2,s3,s4]) rfl (CP.intro (.mk k l h e gao gg 0 len gcap ts) rfl ?_ (HT.out.2.mono (fun b hq=>by have:=HB.out.2;omega)) ((zbb _ _).2 ⟨⟨rfl,rfl,rfl,rfl,rfl⟩,HS.out⟩) ?_)
    ·refine Ty.At.agree (fun b hq=>?_) HT.out.1 HT.out.2;have:=HB.out.2;rw[Below.heap_setCell _ _ _ _ (by show b≠w.heap.size+1;omega),Below.heap_setCell _ _ _ _ (by show b≠w.heap.size+1;omega),Below.heap_setCell _ _ _ _ (by show b≠w.heap.size+1;omega),Below.heap_setCell _ _ _ _ (by show b≠w.heap.size+1;omega),Below.heap_setCell _ _ _ _ (by show b≠w.heap.size+1;omega),Below.heap_setCell _ _ _ _ (by show b≠w.heap.size;omega)]
    ·exact (((((HB.out.1.setCell (Nat.le_refl _) _).setCell (Nat.le_succ _) _).setCell (Nat.le_succ _) _).setCell (Nat.le_succ _) _).setCell (Nat.le_succ _) _).setCell (Nat.le_succ _) _
def World.put5 (w:World)(B:Nat)(v0 v1 v2 v3 v4:Value):World:=((((w.setCell ⟨B,0,none⟩ v0).setCell ⟨B,1,none⟩ v1).setCell ⟨B,2,none⟩ v2).setCell ⟨B,3,none⟩ v3).setCell ⟨B,4,none⟩ v4
theorem zli (w:World)(B:Nat)(v0 v1 v2 v3 v4:Value){b:Nat}(h:b≠B):(World.put5 w B v0 v1 v2 v3 v4).heap[b]?=w.heap[b]?:=by
 unfold World.put5;rw[Below.heap_setCell _ _ _ _ h,Below.heap_setCell _ _ _ _ h,Below.heap_setCell _ _ _ _ h,Below.heap_setCell _ _ _ _ h,Below.heap_setCell _ _ _ _ h]
theorem zdj {w w1:World}{B:Nat}(hB:w.heap.size≤B)(h:Below w.heap.size w w1)(v0 v1 v2 v3 v4:Value):Below w.heap.size w (World.put5 w1 B v0 v1 v2 v3 v4) :=
 ((((h.setCell hB _).setCell hB _).setCell hB _).setCell hB _).setCell hB _
theorem zoi (w:World)(B:Nat)(v0 v1 v2 v3 v4:Value)(a:Addr):(World.put5 w B v0 v1 v2 v3 v4).frozen? a=w.frozen? a:=by
 unfold World.put5;rw[World.frozen?_setCell,World.frozen?_setCell,World.frozen?_setCell,World.frozen?_setCell,World.frozen?_setCell]
theorem zdb {w:World}{B:Nat}(v0 v1 v2 v3 v4:Value){t:Ty}(h:Bx w B t)(hf:∀i,i<5→w.frozen? ⟨B,i,none⟩=false):(World.put5 w B v0 v1 v2 v3 v4).cell? ⟨B,0,none⟩=some v0∧(World.put5 w B v0 v1 v2 v3 v4).cell? ⟨B,1,none⟩=some v1∧(World.put5 w B v0 v1 v2 v3 v4).cell? ⟨B,2,none⟩=some v2∧(World.put5 w B v0 v1 v2 v3 v4).cell? ⟨B,3,none⟩=some v3∧(World.put5 w B v0 v1 v2 v3 v4).cell? ⟨B,4,none⟩=some v4:=by
 have key:=World.rangeAt_setCells_same w B 0 [v0,v1,v2,v3,v4] (fun j hj=>?_)
 ·exact⟨key 0 v0 rfl,key 1 v1 rfl,key 2 v2 rfl,key 3 v3 rfl,key 4 v4 rfl⟩
 ·have hj':j<5:=hj;rw[Nat.zero_add];refine⟨?_,hf j hj'⟩
  match j,hj' with
  | 0,_=>rw[h.c0];rfl
  | 1,_=>rw[h.c1];rfl
  | 2,_=>rw[h.c2];rfl
  | 3,_=>rw[h.c3];rfl
  | 4,_=>rw[h.c4];rfl
theorem zcb {w:World}{ops:Array Oper}{rest:List Oper}{o:Oper}{a:Act}{Q:Exit→Act→World→Prop}(hgd:o.guard=none)(hdst:o.dst=none)(p x:Operand)(ho:o.op=.store 38 p x)(B:Nat)(v0 v1 v2 v3 v4:Value)
  (hp:a.eval p=.pointer (some ⟨B,0,none⟩)) (hx:a.eval x=.agg #[v0,v1,v2,v3,v4]) (h0:v0.oneCell'=true) (h1:v1.oneCell'=true) (h2:v2.oneCell'=true) (h3:v3.oneCell'=true) (h4:v4.oneCell'=true) {t:Ty} (hb:Bx w B t) (hf:∀i,i<5→w.frozen? ⟨B,i,none⟩=false)
  (h:wpList Tryz.prog ops Q rest a (World.put5 w B v0 v1 v2 v3 v4)):wpList Tryz.prog ops Q (o :: rest) a w:=by
 refine wpList_store_mid hgd 38 p x ho B 0 #[v0,v1,v2,v3,v4] hp hx (fun j hj=>?_) (by kernel_rfl) (by simp[h0,h1,h2,h3,h4]) ?_
 ·have hj':j<5:=hj;rw[Nat.zero_add];refine⟨?_,hf j hj'⟩
  match j,hj' with
  | 0,_=>rw[hb.c0];rfl
  | 1,_=>rw[hb.c1];rfl
  | 2,_=>rw[hb.c2];rfl
  | 3,_=>rw[hb.c3];rfl
  | 4,_=>rw[hb.c4];rfl
 ·rw[hdst];exact h
end
end Go.Proofs.YtgioppfoceddfaaGreat
