import Derived.Test.YtfobijdkoeifjaaGreatDoorP3
import Derived.Test.YtfobijdkoeifjaaGreatDoorP4
set_option maxRecDepth 100000
set_option maxHeartbeats 32000000
namespace Go.Proofs.YtfobijdkoeifjaaGreatDoor
section
theorem zfe (R:Nat→Nat)(x:Nat):∀k a,nearFrom R x k a=-1∨∃j,a≤j∧j<a+k∧nearFrom R x k a=(j:Int)∧x.testBit j=true∧x &&& R j=x
 | 0,_=>Or.inl rfl
 | k+1,a=>by
  unfold nearFrom;by_cases h:(x.testBit a&&(x &&& R a==x))=true
  ·rw[if_pos h];rw[Bool.and_eq_true,beq_iff_eq] at h;exact Or.inr ⟨a,Nat.le_refl _,by omega,rfl,h.1,h.2⟩
  ·rw[if_neg h];rcases zfe R x k (a+1) with h0 | ⟨j,h1,h2,h3⟩
   ·exact Or.inl h0
   ·exact Or.inr ⟨j,by omega,by omega,h3⟩
theorem zc3 (R:Nat→Nat)(x j:Nat)(h1:x.testBit j=true)(h2:x &&& R j=x):∀k a,a≤j→j<a+k→nearFrom R x k a≠-1
 | 0,_,_,_=>by omega
 | k+1,a,ha,hj=>by
  unfold nearFrom;by_cases h:(x.testBit a&&(x &&& R a==x))=true
  ·rw[if_pos h];omega
  ·rw[if_neg h];refine zc3 R x j h1 h2 k (a+1) ?_ (by omega);by_cases e:a=j
   ·subst e;exact absurd (by rw[h1,h2];simp) h
   ·omega
theorem zb8 {x y:Nat}:x &&& y=x↔∀i,x.testBit i=true→y.testBit i=true:=by
 constructor
 ·intro h i hi;rw[←h,Nat.testBit_and,Bool.and_eq_true] at hi;exact hi.2
 ·intro h;apply Nat.eq_of_testBit_eq
  intro i;rw[Nat.testBit_and];cases hx:x.testBit i
  ·rfl
  ·rw[h i hx];rfl
section
variable {n:Strs} {g:Grid}
theorem U_bit (g:Grid){a:Nat}(ha:a<g.len)(b:Nat):(g.U a).testBit b=(decide (b<8)&&g.le a b):=by
 unfold Grid.U upTo;rw[mask_bit];simp[seen,ha]
theorem D_bit (g:Grid)(a b:Nat):(g.D b).testBit a=(decide (a<8)&&g.le a b):=by
 unfold Grid.D dnTo;rw[mask_bit];by_cases ha:a<g.len
 ·simp[seen,ha]
 ·simp[Grid.le,ha]
def Lq (g:Grid)(a b:Nat):Prop:=g.B a b=true
theorem zjx (hF:zae n g=true){a b:Nat}(ha:a<n.len)(hb:b<n.len):g.le a b=true↔Lq g a b:=by
 obtain⟨p1,_,_,p4⟩:=zas hF;unfold Grid.le Lq;rw[p4 a (by omega)];simp[show a<g.len by omega,hb]
theorem le_lt (hF:zae n g=true){a b:Nat}(h:g.le a b=true):a<n.len∧b<n.len:=by
 obtain⟨p1,_,_,p4⟩:=zas hF;unfold Grid.le at h;simp only[Bool.and_eq_true,decide_eq_true_eq] at h;have:=p4 a h.1;omega
theorem zd0 (hF:zae n g=true){a b:Nat}(ha:a<n.len):(g.U a).testBit b=true↔b<n.len∧Lq g a b:=by
 obtain⟨p1,_,p3,p4⟩:=zas hF;rw[U_bit g (by omega),Bool.and_eq_true,decide_eq_true_eq]
 constructor
 ·rintro ⟨_,h⟩;have:=le_lt hF h;exact⟨this.2,(zjx hF ha this.2).1 h⟩
 ·rintro ⟨h1,h2⟩;exact⟨by omega,(zjx hF ha h1).2 h2⟩
theorem zgi (hF:zae n g=true){a b:Nat}(hb:b<n.len):(g.D b).testBit a=true↔a<n.len∧Lq g a b:=by
 obtain⟨p1,_,p3,p4⟩:=zas hF;rw[D_bit g,Bool.and_eq_true,decide_eq_true_eq]
 constructor
 ·rintro ⟨_,h⟩;have:=le_lt hF h;exact⟨this.1,(zjx hF this.1 hb).1 h⟩
 ·rintro ⟨h1,h2⟩;exact⟨by omega,(zjx hF h1 hb).2 h2⟩
theorem zkq (hF:zae n g=true){a:Nat}(ha:a<n.len):g.U a &&& g.D a=2 ^ a∧∀b,b<n.len→(g.U a).testBit b=true→g.U b &&& g.U a=g.U b:=by
 obtain⟨p1,_,_,_⟩:=zas hF;unfold zae at hF;rw[Bool.and_eq_true,Bool.and_eq_true] at hF;have h:=hF.2;rw[Bool.and_eq_true] at h;have h1:=h.1;unfold zek at h1;rw[decide_eq_true_eq] at h1;have h2:=h1 a (by omega);unfold zc1 at h2;rw[Bool.and_eq_true,beq_iff_eq,decide_eq_true_eq,p1] at h2;exact h2
theorem zbs (hF:zae n g=true){a:Nat}(ha:a<n.len):Lq g a a:=by
 have h:=(zkq hF ha).1;have hb:=congrArg (fun x=>x.testBit a) h;simp only[Nat.testBit_and,Nat.testBit_two_pow_self,Bool.and_eq_true] at hb;exact ((zd0 hF ha).1 hb.1).2
theorem zic (hF:zae n g=true){a b:Nat}(ha:a<n.len)(hb:b<n.len)(h1:Lq g a b)(h2:Lq g b a):a=b:=by
 have h:=(zkq hF ha).1;have hbit:=congrArg (fun x=>x.testBit b) h;simp only[Nat.testBit_and] at hbit;rw[(zd0 hF ha).2 ⟨hb,h1⟩,(zgi hF ha).2 ⟨hb,h2⟩,Nat.testBit_two_pow] at hbit
 simpa using hbit
theorem zfc (hF:zae n g=true){a b c:Nat}(ha:a<n.len)(hb:b<n.len)(hc:c<n.len)(h1:Lq g a b)(h2:Lq g b c):Lq g a c:=by
 have h:=(zkq hF ha).2 b hb ((zd0 hF ha).2 ⟨hb,h1⟩);have:=zb8.1 h c ((zd0 hF hb).2 ⟨hc,h2⟩);exact ((zd0 hF ha).1 this).2
def zf4 (n:Strs)(g:Grid)(a b j:Nat):Prop:=j<n.len∧Lq g a j∧Lq g b j∧∀c,c<n.len→Lq g a c→Lq g b c→Lq g j c
def znp (n:Strs)(g:Grid)(a b j:Nat):Prop:=j<n.len∧Lq g j a∧Lq g j b∧∀c,c<n.len→Lq g c a→Lq g c b→Lq g c j
theorem zoe (hF:zae n g=true){a b j k:Nat}(h1:zf4 n g a b j)(h2:zf4 n g a b k):j=k :=
 zic hF h1.1 h2.1 (h1.2.2.2 k h2.1 h2.2.1 h2.2.2.1) (h2.2.2.2 j h1.1 h1.2.1 h1.2.2.1)
theorem all_bit (N i:Nat):(2 ^ N - 1).testBit i=decide (i<N):=Nat.testBit_two_pow_sub_one N i
theorem zj3 (hF:zae n g=true){a b:Nat}(ha:a<n.len)(hb:b<n.len)(i:Nat):(((2 ^ g.len - 1) &&& g.U a) &&& g.U b).testBit i=true↔i<n.len∧Lq g a i∧Lq g b i:=by
 obtain⟨p1,_,_,_⟩:=zas hF;rw[Nat.testBit_and,Nat.testBit_and,Bool.and_eq_true,Bool.and_eq_true,all_bit,decide_eq_true_eq,zd0 hF ha,zd0 hF hb]
 constructor
 ·rintro ⟨⟨h1,h2⟩,h3⟩;exact⟨h2.1,h2.2,h3.2⟩
 ·rintro ⟨h1,h2,h3⟩;exact⟨⟨by omega,h1,h2⟩,h1,h3⟩
theorem zjj (hF:zae n g=true){a b:Nat}(ha:a<n.len)(hb:b<n.len)(i:Nat):(((2 ^ g.len - 1) &&& g.D a) &&& g.D b).testBit i=true↔i<n.len∧Lq g i a∧Lq g i b:=by
 obtain⟨p1,_,_,_⟩:=zas hF;rw[Nat.testBit_and,Nat.testBit_and,Bool.and_eq_true,Bool.and_eq_true,all_bit,decide_eq_true_eq,zgi hF ha,zgi hF hb]
 constructor
 ·rintro ⟨⟨h1,h2⟩,h3⟩;exact⟨h2.1,h2.2,h3.2⟩
 ·rintro ⟨h1,h2,h3⟩;exact⟨⟨by omega,h1,h2⟩,h1,h3⟩
theorem zqq (hF:zae n g=true){a b:Nat}(ha:a<n.len)(hb:b<n.len)(hne:zbh g.len g.U a b≠-1):∃j:Nat,zbh g.len g.U a b=(j:Int)∧zf4 n g a b j:=by
 unfold zbh near at *;rcases zfe g.U (((2 ^ g.len - 1) &&& g.U a) &&& g.U b) 8 0 with h | ⟨j,_,_,h1,h2,h3⟩
 ·exact absurd h hne
 ·obtain⟨q1,q2,q3⟩:=(zj3 hF ha hb j).1 h2;exact⟨j,h1,q1,q2,q3,fun c hc h4 h5=>((zd0 hF q1).1 (zb8.1 h3 c ((zj3 hF ha hb c).2 ⟨hc,h4,h5⟩))).2⟩
theorem zpp (hF:zae n g=true){a b:Nat}(ha:a<n.len)(hb:b<n.len)(hne:zbh g.len g.D a b≠-1):∃j:Nat,zbh g.len g.D a b=(j:Int)∧znp n g a b j:=by
 unfold zbh near at *;rcases zfe g.D (((2 ^ g.len - 1) &&& g.D a) &&& g.D b) 8 0 with h | ⟨j,_,_,h1,h2,h3⟩
 ·exact absurd h hne
 ·obtain⟨q1,q2,q3⟩:=(zjj hF ha hb j).1 h2;exact⟨j,h1,q1,q2,q3,fun c hc h4 h5=>((zgi hF q1).1 (zb8.1 h3 c ((zjj hF ha hb c).2 ⟨hc,h4,h5⟩))).2⟩
theorem zjv (N:Nat)(R:Nat→Nat)(a b:Nat):zbh N R a b=zbh N R b a:=by
 unfold zbh;rw[Nat.and_assoc,Nat.and_comm (R a) (R b),←Nat.and_assoc]
theorem zma (hF:zae n g=true){a b:Nat}(ha:a<n.len)(hb:b<a):zbh g.len g.U a b≠-1∧zbh g.len g.D a b≠-1:=by
 obtain⟨p1,_,_,_⟩:=zas hF;unfold zae at hF;rw[Bool.and_eq_true,Bool.and_eq_true] at hF;have h:=hF.2;rw[Bool.and_eq_true] at h;have h1:=h.2;unfold bddB at h1;rw[decide_eq_true_eq] at h1;have h2:=h1 a (by omega) b hb;unfold zcz at h2;rw[Bool.and_eq_true,bne_iff_ne,bne_iff_ne] at h2;exact h2
theorem zxd (hF:zae n g=true){a b:Nat}(ha:a<n.len)(hb:b<n.len):∃j:Nat,zbh g.len g.U a b=(j:Int)∧zf4 n g a b j:=by
 obtain⟨p1,_,p3,_⟩:=zas hF;refine zqq hF ha hb ?_;rcases Nat.lt_trichotomy a b with h | h | h
 ·rw[zjv];exact (zma hF hb h).1
 ·subst h;refine zc3 g.U _ a ?_ ?_ 8 0 (Nat.zero_le _) (by omega)
  ·exact (zj3 hF ha ha a).2 ⟨ha,zbs hF ha,zbs hF ha⟩
  ·exact zb8.2 fun i hi=>(zd0 hF ha).2 ⟨((zj3 hF ha ha i).1 hi).1,((zj3 hF ha ha i).1 hi).2.1⟩
 ·exact (zma hF ha h).1
theorem zv7 (hF:zae n g=true){a b:Nat}(ha:a<n.len)(hb:b<n.len):∃j:Nat,zbh g.len g.D a b=(j:Int)∧znp n g a b j:=by
 obtain⟨p1,_,p3,_⟩:=zas hF;refine zpp hF ha hb ?_;rcases Nat.lt_trichotomy a b with h | h | h
 ·rw[zjv];exact (zma hF hb h).2
 ·subst h;refine zc3 g.D _ a ?_ ?_ 8 0 (Nat.zero_le _) (by omega)
  ·exact (zjj hF ha ha a).2 ⟨ha,zbs hF ha,zbs hF ha⟩
  ·exact zb8.2 fun i hi=>(zgi hF ha).2 ⟨((zjj hF ha ha i).1 hi).1,((zjj hF ha ha i).1 hi).2.1⟩
 ·exact (zma hF ha h).2
def Jn (g:Grid)(a b:Nat):Nat:=(zbh g.len g.U a b).toNat
def Mt (g:Grid)(a b:Nat):Nat:=(zbh g.len g.D a b).toNat
theorem zh4 (hF:zae n g=true){a b:Nat}(ha:a<n.len)(hb:b<n.len):zbh g.len g.U a b=(Jn g a b:Int)∧zf4 n g a b (Jn g a b):=by
 obtain⟨j,h1,h2⟩:=zxd hF ha hb;have e:Jn g a b=j:=by unfold Jn;rw[h1];rfl
 rw[e];exact⟨h1,h2⟩
theorem mt_is (hF:zae n g=true){a b:Nat}(ha:a<n.len)(hb:b<n.len):zbh g.len g.D a b=(Mt g a b:Int)∧znp n g a b (Mt g a b):=by
 obtain⟨j,h1,h2⟩:=zv7 hF ha hb;have e:Mt g a b=j:=by unfold Mt;rw[h1];rfl
 rw[e];exact⟨h1,h2⟩
theorem zh7 {a:Nat}(ha:a<n.len):labB n (a:Int)=true:=by
 unfold labB;rw[Bool.and_eq_true,decide_eq_true_eq,decide_eq_true_eq];omega
theorem zfr (hF:zae n g=true){a b:Nat}(ha:a<n.len)(hb:b<n.len):zb3 n g a b=(Jn g a b:Int):=by
 unfold zb3;rw[if_pos (by rw[zh7 ha,zh7 hb,hF];rfl)]
 exact (zh4 hF ha hb).1
theorem zjc (hF:zae n g=true){a b:Nat}(ha:a<n.len)(hb:b<n.len):leqB n g a b=g.B a b:=by
 unfold leqB;rw[zh7 ha,zh7 hb,hF];rfl
theorem zmb (hF:zae n g=true){a b:Nat}(ha:a<n.len)(hb:b<n.len):Jn g a b<n.len:=(zh4 hF ha hb).2.1
theorem jn_eq (hF:zae n g=true){a b j:Nat}(ha:a<n.len)(hb:b<n.len)(h:zf4 n g a b j):Jn g a b=j:=zoe hF (zh4 hF ha hb).2 h
theorem zot (hF:zae n g=true):∀k,k≤n.len→∃m,m<n.len∧∀c,c<k→Lq g m c
 | 0,_=>⟨0,(zas hF).2.1,fun _ h=>absurd h (Nat.not_lt_zero _)⟩
 | k+1,hk=>by
  obtain⟨m,hm,h⟩:=zot hF k (by omega);obtain⟨x1,x2,x3,_⟩:=(mt_is hF hm (show k<n.len by omega)).2;refine⟨_,x1,fun c hc=>?_⟩;rcases Nat.lt_succ_iff_lt_or_eq.1 hc with h1 | h1
  ·exact zfc hF x1 hm (by omega) x2 (h c h1)
  ·rw[h1];exact x3
theorem zm6 (hF:zae n g=true):∀k,k≤n.len→∃m,m<n.len∧∀c,c<k→Lq g c m
 | 0,_=>⟨0,(zas hF).2.1,fun _ h=>absurd h (Nat.not_lt_zero _)⟩
 | k+1,hk=>by
  obtain⟨m,hm,h⟩:=zm6 hF k (by omega);obtain⟨x1,x2,x3,_⟩:=(zh4 hF hm (show k<n.len by omega)).2;refine⟨_,x1,fun c hc=>?_⟩;rcases Nat.lt_succ_iff_lt_or_eq.1 hc with h1 | h1
  ·exact zfc hF (by omega) hm x1 (h c h1) x2
  ·rw[h1];exact x3
theorem znl (hF:zae n g=true):∃m:Nat,botI n g=(m:Int)∧m<n.len∧∀c,c<n.len→Lq g m c:=by
 obtain⟨p1,_,p3,_⟩:=zas hF;obtain⟨m,hm,h⟩:=zot hF n.len (Nat.le_refl _);unfold botI;rw[if_pos hF];have hne:near g.U (2 ^ g.len - 1)≠-1:=by
  refine zc3 g.U _ m ?_ ?_ 8 0 (Nat.zero_le _) (by omega)
  ·rw[all_bit,decide_eq_true_eq];omega
  ·exact zb8.2 fun i hi=>by
    rw[all_bit,decide_eq_true_eq] at hi;exact (zd0 hF hm).2 ⟨by omega,h i (by omega)⟩
 unfold near at *;rcases zfe g.U (2 ^ g.len - 1) 8 0 with h0 | ⟨j,_,_,h1,h2,h3⟩
 ·exact absurd h0 hne
 ·rw[all_bit,decide_eq_true_eq] at h2;exact⟨j,h1,by omega,fun c hc=>((zd0 hF (by omega)).1 (zb8.1 h3 c (by rw[all_bit,decide_eq_true_eq];omega))).2⟩
theorem zre (hF:zae n g=true):∃m:Nat,topI n g=(m:Int)∧m<n.len∧∀c,c<n.len→Lq g c m:=by
 obtain⟨p1,_,p3,_⟩:=zas hF;obtain⟨m,hm,h⟩:=zm6 hF n.len (Nat.le_refl _);unfold topI;rw[if_pos hF];have hne:near g.D (2 ^ g.len - 1)≠-1:=by
  refine zc3 g.D _ m ?_ ?_ 8 0 (Nat.zero_le _) (by omega)
  ·rw[all_bit,decide_eq_true_eq];omega
  ·exact zb8.2 fun i hi=>by
    rw[all_bit,decide_eq_true_eq] at hi;exact (zgi hF hm).2 ⟨by omega,h i (by omega)⟩
 unfold near at *;rcases zfe g.D (2 ^ g.len - 1) 8 0 with h0 | ⟨j,_,_,h1,h2,h3⟩
 ·exact absurd h0 hne
 ·rw[all_bit,decide_eq_true_eq] at h2;exact⟨j,h1,by omega,fun c hc=>((zgi hF (by omega)).1 (zb8.1 h3 c (by rw[all_bit,decide_eq_true_eq];omega))).2⟩
end
end
section
open Go.RowKit
def Cls (w:World)(u v:Value):Type:={ w':World // Box2 w w' u v }
def Cls.w {w:World}{u v:Value}(x:Cls w u v):World:=x.1
theorem Cls.box {w:World}{u v:Value}(x:Cls w u v):Box2 w x.w u v:=x.2
theorem zg0 {P:Program}{w0:World}{u v:Value}{id:Nat}{Q:Exit→Act→World→Prop}{a:Act}{w:World}{l:List Oper}(hb:Box2 w0 w u v)(hm:P.follows .mixedOrders=true)(hB:Region.lexB .any l.toArray=true)
  (h:wpQuiet P l.toArray (fun w'=>∃x:Cls w0 u v,w'=x.w) (fun a'=>∀w',(∃x:Cls w0 u v,w'=x.w)→Q .normal a' w') l a):(Code.region id l.toArray true).wp P Q a w :=
 wp_region_quiet (C:=fun w'=>∃x:Cls w0 u v,w'=x.w) hm hB ⟨⟨_,hb.step ((Below.refl _ _).drew)⟩,rfl⟩ (by simpa using h)
end
section
theorem zk9 (M:Nat→Nat→Bool):∀k b,b<k→∀r c,war M k r b=true→war M k b c=true→war M k r c=true
 | 0,_,h,_,_,_,_=>absurd h (Nat.not_lt_zero _)
 | k+1,b,hb,r,c,h1,h2=>by
  have ih:=zk9 M k;have key:∀x y,war M (k+1) x y=(war M k x y||(war M k x k&&war M k k y)):=fun _ _=>rfl;rw[key] at h1 h2 ⊢;simp only[Bool.or_eq_true,Bool.and_eq_true] at h1 h2 ⊢;by_cases e:b=k
  ·subst e;have g1:war M b r b=true:=by rcases h1 with h | h <;> simp_all
   have g2:war M b b c=true:=by rcases h2 with h | h <;> simp_all
   exact Or.inr ⟨g1,g2⟩
  ·have hb':b<k:=by omega
   rcases h1 with h1 | ⟨h1,h1'⟩
   ·rcases h2 with h2 | ⟨h2,h2'⟩
    ·exact Or.inl (ih b hb' r c h1 h2)
    ·exact Or.inr ⟨ih b hb' r k h1 h2,h2'⟩
   ·rcases h2 with h2 | ⟨h2,h2'⟩
    ·exact Or.inr ⟨h1,ih b hb' k c h1' h2⟩
    ·exact Or.inr ⟨h1,h2'⟩
def zcy (n:Nat)(M N:Nat→Nat→Bool):Prop:=∀r c,r<n→c<n→M r c=true→N r c=true
theorem zli (n:Nat)(M N:Nat→Nat→Bool)(hM:zcy n M N)(ht:∀a b c,a<n→b<n→c<n→N a b=true→N b c=true→N a c=true):∀k,k≤n→zcy n (war M k) N
 | 0,_=>hM
 | k+1,hk=>fun r c hr hc h=>by
  have ih:=zli n M N hM ht k (by omega);unfold war zo4 at h;rw[Bool.or_eq_true,Bool.and_eq_true] at h;rcases h with h | ⟨h1,h2⟩
  ·exact ih r c hr hc h
  ·exact ht r k c hr (by omega) hc (ih r k hr (by omega) h1) (ih k c (by omega) hc h2)
theorem zmm (n:Nat)(P M:Nat→Nat→Bool)(h1:zcy n P M)(h2:zcy n M (war P n))(hc:∀a b c,a<n→b<n→c<n→(M a b&&M b c&&!M a c)=false):∀r c,r<n→c<n→M r c=war P n r c:=by
 intro r c hr hcc;have ht:∀a b c,a<n→b<n→c<n→M a b=true→M b c=true→M a c=true:=fun a b c ha hb hc' q1 q2=>by
  have:=hc a b c ha hb hc';rw[q1,q2] at this
  simpa using this
 rw[Bool.eq_iff_iff];exact⟨h2 r c hr hcc,zli n P M h1 ht n (Nat.le_refl _) r c hr hcc⟩
def cnt1 (f:Nat→Bool):Nat→Nat
 | 0=>0
 | k+1=>cnt1 f k+if f k then 0 else 1
def cnt2 (M:Nat→Nat→Bool)(n:Nat):Nat→Nat
 | 0=>0
 | k+1=>cnt2 M n k+cnt1 (M k) n
def setM (M:Nat→Nat→Bool)(a c:Nat):Nat→Nat→Bool:=fun x y=>if x=a∧y=c then true else M x y
theorem zer {f g:Nat→Bool}:∀k,(∀i,i<k→f i=g i)→cnt1 f k=cnt1 g k
 | 0,_=>rfl
 | k+1,h=>by unfold cnt1;rw[zer k (fun i hi=>h i (by omega)),h k (by omega)]
theorem zmg {f:Nat→Bool}{c:Nat}(hf:f c=false):∀k,c<k→cnt1 (fun y=>if y=c then true else f y) k+1=cnt1 f k
 | 0,h=>absurd h (Nat.not_lt_zero _)
 | k+1,h=>by
  unfold cnt1;by_cases e:c=k
  ·subst e;rw[zer c (g:=f) (fun i hi=>by rw[if_neg (by omega)]),if_pos rfl,hf];rfl
  ·have:=zmg hf k (by omega);rw[if_neg (Ne.symm e)];omega
theorem znh {M:Nat→Nat→Bool}{n a c:Nat}(hM:M a c=false)(hc:c<n):∀k,cnt2 (setM M a c) n k+(if a<k then 1 else 0)=cnt2 M n k
 | 0=>rfl
 | k+1=>by
  have ih:=znh hM hc (n:=n) k;unfold cnt2;by_cases e:a=k
  ·subst e;have h1:cnt1 (setM M a c a) n+1=cnt1 (M a) n:=by
    rw[←zmg hM n hc];rw[zer n (f:=setM M a c a) (g:=fun y=>if y=c then true else M a y) (fun i _=>by simp[setM])]
   rw[if_neg (Nat.lt_irrefl _)] at ih;rw[if_pos (by omega)];omega
  ·have h1:cnt1 (setM M a c k) n=cnt1 (M k) n:=zer n (fun i _=>by simp[setM,Ne.symm e]);rw[h1];by_cases h:a<k
   ·rw[if_pos h] at ih;rw[if_pos (by omega)];omega
   ·rw[if_neg h] at ih;rw[if_neg (by omega)];omega
theorem zsp {M:Nat→Nat→Bool}{n a c:Nat}(hM:M a c=false)(ha:a<n)(hc:c<n):cnt2 (setM M a c) n n<cnt2 M n n:=by
 have:=znh hM hc n (n:=n);rw[if_pos ha] at this;omega
def zil (a b c x y z:Nat):Prop:=x<a∨(x=a∧(y<b∨(y=b∧z<c)))
structure Pass (n:Nat)(P M M':Nat→Nat→Bool)(more:Bool)(a b c:Nat):Prop where
 up:zcy n M M'
 inn:zcy n M' (war P n)
 no:more=false→M'=M∧∀x y z,x<n→y<n→z<n→zil a b c x y z→(M x y&&M y z&&!M x z)=false
 yes:more=true→cnt2 M' n n<cnt2 M n n
theorem Pass.start {n:Nat}{P M:Nat→Nat→Bool}(h:zcy n M (war P n)):Pass n P M M false 0 0 0 :=
 ⟨fun _ _ _ _ h=>h,h,fun _=>⟨rfl,fun x y z _ _ _ ha=>by unfold zil at ha;omega⟩,fun h=>Bool.noConfusion h⟩
theorem Pass.skip {n:Nat}{P M M':Nat→Nat→Bool}{more:Bool}{a b c:Nat}(h:Pass n P M M' more a b c)(ht:(M' a b&&M' b c&&!M' a c)=false):Pass n P M M' more a b (c+1) :=
 ⟨h.up,h.inn,fun hm=>by
  obtain⟨e,h2⟩:=h.no hm;refine⟨e,fun x y z hx hy hz ha=>?_⟩;by_cases h3:zil a b c x y z
  ·exact h2 x y z hx hy hz h3
  ·unfold zil at ha h3;obtain⟨rfl,rfl,rfl⟩:x=a∧y=b∧z=c:=by omega
   rw[←e];exact ht,h.yes⟩
theorem Pass.add {n:Nat}{P M M':Nat→Nat→Bool}{more:Bool}{a b c:Nat}(h:Pass n P M M' more a b c)(ha:a<n)(hb:b<n)(hc:c<n)(h1:M' a b=true)(h2:M' b c=true)(h3:M' a c=false):Pass n P M (setM M' a c) true a b (c+1):=by
 have hless:=zsp h3 ha hc;refine⟨fun r c' hr hc' q=>?_,fun r c' hr hc' q=>?_,fun hm=>Bool.noConfusion hm,fun _=>?_⟩
 ·unfold setM;split
  ·rfl
  ·exact h.up r c' hr hc' q
 ·unfold setM at q;split at q
  ·rename_i e
   rw[e.1,e.2];exact zk9 P n b hb a c (h.inn a b ha hb h1) (h.inn b c hb hc h2)
  ·exact h.inn r c' hr hc' q
 ·cases hm:more
  ·have:=(h.no hm).1;rw[this] at hless ⊢;exact hless
  ·have:=h.yes hm;omega
theorem Pass.nextB {n:Nat}{P M M':Nat→Nat→Bool}{more:Bool}{a b:Nat}(h:Pass n P M M' more a b n):Pass n P M M' more a (b+1) 0 :=
 ⟨h.up,h.inn,fun hm=>⟨(h.no hm).1,fun x y z hx hy hz ha=>(h.no hm).2 x y z hx hy hz (by unfold zil at ha ⊢;omega)⟩,h.yes⟩
theorem Pass.nextA {n:Nat}{P M M':Nat→Nat→Bool}{more:Bool}{a:Nat}(h:Pass n P M M' more a n 0):Pass n P M M' more (a+1) 0 0 :=
 ⟨h.up,h.inn,fun hm=>⟨(h.no hm).1,fun x y z hx hy hz ha=>(h.no hm).2 x y z hx hy hz (by unfold zil at ha ⊢;omega)⟩,h.yes⟩
end
section
open Go.RowKit
structure SqAt (n:Strs)(g:Grid)(w:World):Prop where
 nat:n.At w
 gat:g.At w
 pos:0<n.len
 le8:n.len≤8
 len:g.len=n.len
 L:∀r,r<n.len→g.L r=n.len
theorem SqAt.kept {n:Strs}{g:Grid}{w w':World}(h:SqAt n g w)(hb:Below w.heap.size w w'):SqAt n g w':=⟨h.nat.kept hb,h.gat.kept hb,h.pos,h.le8,h.len,h.L⟩
theorem SqAt.ao {n:Strs}{g:Grid}{w:World}(h:SqAt n g w):g.ao=some ⟨g.gb,g.go,none⟩:=h.gat.nil (by have:=h.len;have:=h.pos;omega)
theorem SqAt.row {n:Strs}{g:Grid}{w:World}(h:SqAt n g w){r:Nat}(hr:r<n.len):w.cell? ⟨g.gb,g.go+r,none⟩=some (.slice (some ⟨g.AB r,g.AO r,none⟩) n.len (g.C r)):=by
 have h1:=h.gat.row r (by have:=h.len;omega)
 have h2:=h.gat.adr r (by have:=h.len;omega) (by rw[h.L r hr];exact h.pos)
 rw[h1,h2,h.L r hr]
theorem SqAt.cell {n:Strs}{g:Grid}{w:World}(h:SqAt n g w){r c:Nat}(hr:r<n.len)(hc:c<n.len):w.cell? ⟨g.AB r,g.AO r+c,none⟩=some (.bool (g.B r c)) :=
 h.gat.cell r (by have:=h.len;omega) c (by rw[h.L r hr];exact hc)
def abvB (n:Strs)(g:Grid)(a b c:Nat):Bool:=(g.B a c&&g.B b c)&&decide (∀d,d<n.len→(g.B a d&&g.B b d&&!g.B c d)=false)
def blwB (n:Strs)(g:Grid)(a b c:Nat):Bool:=(g.B c a&&g.B c b)&&decide (∀d,d<n.len→(g.B d a&&g.B d b&&!g.B d c)=false)
theorem zss (n:Strs)(g:Grid)(w:World)(a b c:Nat)(h:SqAt n g w)(ha:a<n.len)(hb:b<n.len)(hc:c<n.len) :
  Calls Tryz.prog 134 #[.agg #[.slice n.ao n.len n.cap,.slice g.ao g.len g.cap],.int .i64 a,.int .i64 b,.int .i64 c] w fun e w'=>e=.returned (.bool (abvB n g a b c))∧Below w.heap.size w w':=by
 rw[h.ao,h.len];have B0:=Box2.start w (.slice n.ao n.len n.cap) (.slice (some ⟨g.gb,g.go,none⟩) n.len g.cap) 25;have h1:=h.kept B0.bl;have l8:=h.le8;have ia:(a:Int)<n.len:=by omega
 have ib:(b:Int)<n.len:=by omega
 have ic:(c:Int)<n.len:=by omega
 have ra:=h1.row ha;have rb:=h1.row hb;have rc:=h1.row hc;have cac:=h1.cell ha hc;have cbc:=h1.cell hb hc;cases v1:g.B a c
 ·rw[v1] at cac;go_enter Tryz.func134,Tryz.ntmps134
  go_wp2;go_ret;exact⟨zab (by simp[abvB,v1]),B0.bl⟩
 cases v2:g.B b c
 ·rw[v1] at cac;rw[v2] at cbc;go_enter Tryz.func134,Tryz.ntmps134
  go_wp2;go_ret;exact⟨zab (by simp[abvB,v2]),B0.bl⟩
 rw[v1] at cac;rw[v2] at cbc;go_enter Tryz.func134,Tryz.ntmps134
 go_wp2;generalize w.alloc (.cells #[.slice n.ao n.len n.cap,.slice (some ⟨g.gb,g.go,none⟩) n.len g.cap] 25)=W0 at *;have x0:=B0.c0;have x1:=B0.c1;clear cac cbc
 go_loop [9] (fun i=>∃d:Nat,d≤n.len∧i=.int .i64 d∧∀x,x<d→(g.B a x&&g.B b x&&!g.B c x)=false) (fun i=>n.len - (intOf i).toNat)
 case atStart=>exact⟨0,Nat.zero_le _,rfl,fun _ h=>absurd h (Nat.not_lt_zero _)⟩
 case round =>
  obtain⟨d,hd,rfl,hdone⟩:=hrel;have HD:Hid (∀x,x<d→(g.B a x&&g.B b x&&!g.B c x)=false):=hdone;clear hdone;by_cases hlt:d<n.len
  ·have fa:=h1.cell ha hlt;have fb:=h1.cell hb hlt;have fc:=h1.cell hc hlt;have id:(d:Int)<n.len:=by omega
   have next:(g.B a d&&g.B b d&&!g.B c d)=false→∀x,x<d+1→(g.B a x&&g.B b x&&!g.B c x)=false:=fun hh x hx=>by
    rcases Nat.lt_succ_iff_lt_or_eq.1 hx with h | h
    ·exact HD.out x h
    ·subst h;exact hh
   have HN:Hid ((g.B a d&&g.B b d&&!g.B c d)=false→∀x,x<d+1→(g.B a x&&g.B b x&&!g.B c x)=false):=next;clear next;cases u1:g.B a d
   ·rw[u1] at fa;go_wp2
    go_round
    case rel=>exact⟨d+1,by omega,by go_num,HN.out (by simp[u1])⟩
    case measure=>simp[intOf];omega
   cases u2:g.B b d
   ·rw[u1] at fa;rw[u2] at fb;go_wp2
    go_round
    case rel=>exact⟨d+1,by omega,by go_num,HN.out (by simp[u2])⟩
    case measure=>simp[intOf];omega
   cases u3:g.B c d
   ·rw[u1] at fa;rw[u2] at fb;rw[u3] at fc;go_wp2;go_ret;refine⟨zab (Eq.symm ?_),B0.bl⟩;unfold abvB;rw[Bool.and_eq_false_iff,decide_eq_false_iff_not]
    right
    intro hh;have:=hh d hlt;simp[u1,u2,u3] at this
   ·rw[u1] at fa;rw[u2] at fb;rw[u3] at fc;go_wp2
    go_round
    case rel=>exact⟨d+1,by omega,by go_num,HN.out (by simp[u3])⟩
    case measure=>simp[intOf];omega
  ·have HE:Hid (abvB n g a b c=true):=by
    show abvB n g a b c=true
    unfold abvB;rw[v1,v2,decide_eq_true (fun x hx=>HD.out x (by omega))];rfl
   go_wp2;go_ret;exact⟨zab HE.out.symm,B0.bl⟩
theorem zqy (n:Strs)(g:Grid)(w:World)(a b c:Nat)(h:SqAt n g w)(ha:a<n.len)(hb:b<n.len)(hc:c<n.len) :
  Calls Tryz.prog 135 #[.agg #[.slice n.ao n.len n.cap,.slice g.ao g.len g.cap],.int .i64 a,.int .i64 b,.int .i64 c] w fun e w'=>e=.returned (.bool (blwB n g a b c))∧Below w.heap.size w w':=by
 rw[h.ao,h.len];have B0:=Box2.start w (.slice n.ao n.len n.cap) (.slice (some ⟨g.gb,g.go,none⟩) n.len g.cap) 25;have h1:=h.kept B0.bl;have l8:=h.le8;have ia:(a:Int)<n.len:=by omega
 have ib:(b:Int)<n.len:=by omega
 have ic:(c:Int)<n.len:=by omega
 have rc:=h1.row hc;have cac:=h1.cell hc ha;have cbc:=h1.cell hc hb;cases v1:g.B c a
 ·rw[v1] at cac;go_enter Tryz.func135,Tryz.ntmps135
  go_wp2;go_ret;exact⟨zab (by simp[blwB,v1]),B0.bl⟩
 cases v2:g.B c b
 ·rw[v1] at cac;rw[v2] at cbc;go_enter Tryz.func135,Tryz.ntmps135
  go_wp2;go_ret;exact⟨zab (by simp[blwB,v2]),B0.bl⟩
 rw[v1] at cac;rw[v2] at cbc;go_enter Tryz.func135,Tryz.ntmps135
 go_wp2;generalize w.alloc (.cells #[.slice n.ao n.len n.cap,.slice (some ⟨g.gb,g.go,none⟩) n.len g.cap] 25)=W0 at *;have x0:=B0.c0;have x1:=B0.c1;clear cac cbc
 go_loop [9] (fun i=>∃d:Nat,d≤n.len∧i=.int .i64 d∧∀x,x<d→(g.B x a&&g.B x b&&!g.B x c)=false) (fun i=>n.len - (intOf i).toNat)
 case atStart=>exact⟨0,Nat.zero_le _,rfl,fun _ h=>absurd h (Nat.not_lt_zero _)⟩
 case round =>
  obtain⟨d,hd,rfl,hdone⟩:=hrel;have HD:Hid (∀x,x<d→(g.B x a&&g.B x b&&!g.B x c)=false):=hdone;clear hdone;by_cases hlt:d<n.len
  ·have fa:=h1.cell hlt ha;have fb:=h1.cell hlt hb;have fc:=h1.cell hlt hc;have id:(d:Int)<n.len:=by omega
   have rd:=h1.row hlt;have next:(g.B d a&&g.B d b&&!g.B d c)=false→∀x,x<d+1→(g.B x a&&g.B x b&&!g.B x c)=false:=fun hh x hx=>by
    rcases Nat.lt_succ_iff_lt_or_eq.1 hx with h | h
    ·exact HD.out x h
    ·subst h;exact hh
   have HN:Hid ((g.B d a&&g.B d b&&!g.B d c)=false→∀x,x<d+1→(g.B x a&&g.B x b&&!g.B x c)=false):=next;clear next;cases u1:g.B d a
   ·rw[u1] at fa;go_wp2
    go_round
    case rel=>exact⟨d+1,by omega,by go_num,HN.out (by simp[u1])⟩
    case measure=>simp[intOf];omega
   cases u2:g.B d b
   ·rw[u1] at fa;rw[u2] at fb;go_wp2
    go_round
    case rel=>exact⟨d+1,by omega,by go_num,HN.out (by simp[u2])⟩
    case measure=>simp[intOf];omega
   cases u3:g.B d c
   ·rw[u1] at fa;rw[u2] at fb;rw[u3] at fc;go_wp2;go_ret;refine⟨zab (Eq.symm ?_),B0.bl⟩;unfold blwB;rw[Bool.and_eq_false_iff,decide_eq_false_iff_not]
    right
    intro hh;have:=hh d hlt;simp[u1,u2,u3] at this
   ·rw[u1] at fa;rw[u2] at fb;rw[u3] at fc;go_wp2
    go_round
    case rel=>exact⟨d+1,by omega,by go_num,HN.out (by simp[u3])⟩
    case measure=>simp[intOf];omega
  ·have HE:Hid (blwB n g a b c=true):=by
    show blwB n g a b c=true
    unfold blwB;rw[v1,v2,decide_eq_true (fun x hx=>HD.out x (by omega))];rfl
   go_wp2;go_ret;exact⟨zab HE.out.symm,B0.bl⟩
def findI (p:Nat→Bool):Nat→Nat→Int
 | 0,_=>-1
 | f+1,k=>if p k then k else findI p f (k+1)
theorem zkx {p:Nat→Bool}{N k:Nat}(hk:k<N)(h:p k=true):findI p (N - k) k=k:=by
 obtain⟨m,hm⟩:∃m,N - k=m+1:=⟨N - k - 1,by omega⟩;rw[hm,findI,if_pos h]
theorem zkf {p:Nat→Bool}{N k:Nat}(hk:k<N)(h:p k=false):findI p (N - k) k=findI p (N - (k+1)) (k+1):=by
 obtain⟨m,hm⟩:∃m,N - k=m+1:=⟨N - k - 1,by omega⟩;rw[hm,findI,if_neg (by rw[h];simp),show N - (k+1)=m by omega]
theorem zkw {p:Nat→Bool}{N k:Nat}(hk:¬k<N):findI p (N - k) k=-1:=by
 rw[show N - k=0 by omega];rfl
theorem ztg (n:Strs)(g:Grid)(w:World)(a b:Nat)(h:SqAt n g w)(ha:a<n.len)(hb:b<n.len) :
  Calls Tryz.prog 95 #[.agg #[.slice n.ao n.len n.cap,.slice g.ao g.len g.cap],.int .i64 a,.int .i64 b] w fun e w'=>e=.returned (.int .i64 (findI (abvB n g a b) n.len 0))∧Below w.heap.size w w':=by
 have B0:=Box2.start w (.slice n.ao n.len n.cap) (.slice g.ao g.len g.cap) 25;have l8:=h.le8;go_enter Tryz.func95,Tryz.ntmps95
 go_wp2;go_loopw [7] (fun i wr=>∃c:Nat,c≤n.len∧i=.int .i64 c∧findI (abvB n g a b) n.len 0=findI (abvB n g a b) (n.len - c) c∧Box2 w wr (.slice n.ao n.len n.cap) (.slice g.ao g.len g.cap)) (fun i _=>n.len - (intOf i).toNat)
 case atStart=>exact⟨0,Nat.zero_le _,rfl,rfl,B0⟩
 case round =>
  obtain⟨c,hc,rfl,hdone,hB⟩:=hrel;clear B0;have HD:Hid (findI (abvB n g a b) n.len 0=findI (abvB n g a b) (n.len - c) c):=hdone;clear hdone;have x0:=hB.c0;have x1:=hB.c1;by_cases hlt:c<n.len
  ·go_wp2_with fail
   refine (zss n g _ a b c (h.kept hB.bl) ha hb hlt).mono ?_;rintro e w1 ⟨rfl,hb1⟩;have B1:=hB.step hb1;clear hb1 x0 x1;cases hv:abvB n g a b c
   ·go_wp2;go_roundw
    case rel=>exact⟨c+1,by omega,by go_num,HD.out.trans (zkf hlt hv),B1⟩
    case measure=>simp[intOf];omega
   ·go_wp2;go_ret;exact⟨zau (HD.out.trans (zkx hlt hv)).symm,B1.bl⟩
  ·go_wp2;go_ret;exact⟨zau (HD.out.trans (zkw hlt)).symm,hB.bl⟩
theorem zr3 (n:Strs)(g:Grid)(w:World)(a b:Nat)(h:SqAt n g w)(ha:a<n.len)(hb:b<n.len) :
  Calls Tryz.prog 96 #[.agg #[.slice n.ao n.len n.cap,.slice g.ao g.len g.cap],.int .i64 a,.int .i64 b] w fun e w'=>e=.returned (.int .i64 (findI (blwB n g a b) n.len 0))∧Below w.heap.size w w':=by
 have B0:=Box2.start w (.slice n.ao n.len n.cap) (.slice g.ao g.len g.cap) 25;have l8:=h.le8;go_enter Tryz.func96,Tryz.ntmps96
 go_wp2;go_loopw [7] (fun i wr=>∃c:Nat,c≤n.len∧i=.int .i64 c∧findI (blwB n g a b) n.len 0=findI (blwB n g a b) (n.len - c) c∧Box2 w wr (.slice n.ao n.len n.cap) (.slice g.ao g.len g.cap)) (fun i _=>n.len - (intOf i).toNat)
 case atStart=>exact⟨0,Nat.zero_le _,rfl,rfl,B0⟩
 case round =>
  obtain⟨c,hc,rfl,hdone,hB⟩:=hrel;clear B0;have HD:Hid (findI (blwB n g a b) n.len 0=findI (blwB n g a b) (n.len - c) c):=hdone;clear hdone;have x0:=hB.c0;have x1:=hB.c1;by_cases hlt:c<n.len
  ·go_wp2_with fail
   refine (zqy n g _ a b c (h.kept hB.bl) ha hb hlt).mono ?_;rintro e w1 ⟨rfl,hb1⟩;have B1:=hB.step hb1;clear hb1 x0 x1;cases hv:blwB n g a b c
   ·go_wp2;go_roundw
    case rel=>exact⟨c+1,by omega,by go_num,HD.out.trans (zkf hlt hv),B1⟩
    case measure=>simp[intOf];omega
   ·go_wp2;go_ret;exact⟨zau (HD.out.trans (zkx hlt hv)).symm,B1.bl⟩
  ·go_wp2;go_ret;exact⟨zau (HD.out.trans (zkw hlt)).symm,hB.bl⟩
def zb1 (n:Strs)(g:Grid)(i:Nat):Bool:=(zbz (n.s i)&&(g.L i==n.len))&&!zco n.s i (n.s i)
theorem shp_no {n:Strs}{g:Grid}{k:Nat}(hk:k<n.len)(hg:g.len=n.len)(h:zb1 n g k=false):(zay n&&za1 g n.len)=false:=by
 cases h1:(zay n&&za1 g n.len)
 ·rfl
 ·exfalso
  rw[Bool.and_eq_true] at h1;have h2:=(zdg h1.2).2 k (by omega);have h3:=h1.1;unfold zay at h3;rw[Bool.and_eq_true,decide_eq_true_eq,decide_eq_true_eq] at h3;have h4:=h3.2 k hk;rw[Bool.and_eq_true] at h4;unfold zb1 at h;rw[h4.1,h4.2,h2] at h;simp at h
theorem zw9 {n:Strs}{g:Grid}(h0:0<n.len)(h8:n.len≤8)(hg:g.len=n.len)(h:∀k,k<n.len→zb1 n g k=true):(zay n&&za1 g n.len)=true:=by
 rw[Bool.and_eq_true]
 constructor
 ·unfold zay;rw[Bool.and_eq_true,decide_eq_true_eq,decide_eq_true_eq];refine⟨⟨h0,h8⟩,fun i hi=>?_⟩;have:=h i hi;unfold zb1 at this;rw[Bool.and_eq_true,Bool.and_eq_true] at this;rw[this.1.1,this.2];rfl
 ·unfold za1;rw[Bool.and_eq_true,decide_eq_true_eq,beq_iff_eq];refine⟨hg,fun r hr=>?_⟩;have:=h r (by omega);unfold zb1 at this;rw[Bool.and_eq_true,Bool.and_eq_true,beq_iff_eq] at this;exact this.1.2
theorem zua {s:Nat→ByteArray}{k:Nat}(h:∀x,x<k→((s x).toList==(s k).toList)=false):zco s k (s k)=false:=by
 unfold zco;rw[decide_eq_false_iff_not];rintro ⟨i,hi,h1⟩;have:=h i hi;rw[beq_eq_false_iff_ne] at this;exact this (by simpa using (beq_iff_eq.1 h1).symm)
theorem zrx {s:Nat→ByteArray}{k x:Nat}(hx:x<k)(h:((s x).toList==(s k).toList)=true):zco s k (s k)=true:=by
 unfold zco;rw[decide_eq_true_eq];exact⟨x,hx,by rw[beq_iff_eq] at h ⊢;exact h.symm⟩
theorem zj9 (n:Strs)(g:Grid)(w:World)(hn:n.At w)(hg:g.At w) :
  Calls Tryz.prog 94 #[.agg #[.slice n.ao n.len n.cap,.slice g.ao g.len g.cap]] w fun e w'=>e=.returned (.bool (zay n&&za1 g n.len))∧Below w.heap.size w w':=by
 have hnb:=hn.bound;have hgb:=hg.bound;by_cases h0:n.len<1
 ·have B0:=Box2.start w (.slice n.ao n.len n.cap) (.slice g.ao g.len g.cap) 25;have HF:Hid ((zay n&&za1 g n.len)=false):=by show (zay n&&za1 g n.len)=false;simp[zay,show ¬0<n.len by omega]
  go_enter Tryz.func94,Tryz.ntmps94
  go_wp2;go_ret;exact⟨zab HF.out.symm,B0.bl⟩
 by_cases h8:8<n.len
 ·have B0:=Box2.start w (.slice n.ao n.len n.cap) (.slice g.ao g.len g.cap) 25;have HF:Hid ((zay n&&za1 g n.len)=false):=by show (zay n&&za1 g n.len)=false;simp[zay,show ¬n.len≤8 by omega]
  go_enter Tryz.func94,Tryz.ntmps94
  go_wp2;go_ret;exact⟨zab HF.out.symm,B0.bl⟩
 by_cases hl:g.len=n.len
 ·have bl:((n.len:Int) != n.len)=false:=by simp
  rw[hg.nil (by omega),hn.nil (by omega),hl];have B0:=Box2.start w (.slice (some ⟨n.b,n.o,none⟩) n.len n.cap) (.slice (some ⟨g.gb,g.go,none⟩) n.len g.cap) 25;have HL:Hid (g.len=n.len):=hl;clear hl;go_enter Tryz.func94,Tryz.ntmps94
  go_wp2;go_loopw [4] (fun i wr=>∃k:Nat,k≤n.len∧i=.int .i64 k∧(∀x,x<k→zb1 n g x=true)∧Box2 w wr (.slice (some ⟨n.b,n.o,none⟩) n.len n.cap) (.slice (some ⟨g.gb,g.go,none⟩) n.len g.cap)) (fun i _=>n.len - (intOf i).toNat)
  case atStart=>exact⟨0,Nat.zero_le _,rfl,fun _ h=>absurd h (Nat.not_lt_zero _),B0⟩
  case round =>
   obtain⟨k,hk,rfl,hdone,hB⟩:=hrel;clear B0;have HD:Hid (∀x,x<k→zb1 n g x=true):=hdone;clear hdone;have c0:=hB.c0;have c1:=hB.c1;by_cases hlt:k<n.len
   ·have r1:=(hn.kept hB.bl).cell k hlt;have ik:(k:Int)<n.len:=by omega
    have HNO:Hid (zb1 n g k=false→(zay n&&za1 g n.len)=false):=fun h=>shp_no hlt HL.out h;go_wp2_with fail
    refine (ztd (n.s k) _ (hn.sz k hlt)).mono ?_;rintro e w1 ⟨rfl,rfl⟩;cases hnm:zbz (n.s k)
    ·go_wp2;go_ret;exact⟨zab (HNO.out (by simp[zb1,hnm])).symm,hB.bl⟩
    ·have r2:=(hg.kept hB.bl).row k (by have:=HL.out;omega)
     have lb:=hg.lbound k (by have:=HL.out;omega)
     by_cases hL:g.L k=n.len
     ·have bL:((g.L k:Int) != n.len)=false:=by simp[hL]
      have HLk:Hid (g.L k=n.len):=hL;clear hL;go_wp2;clear c0 c1 r1 r2 bL;go_loopw [5] (fun i wr=>∃j:Nat,j≤k∧i=.int .i64 j∧(∀x,x<j→((n.s x).toList==(n.s k).toList)=false)∧Box2 w wr (.slice (some ⟨n.b,n.o,none⟩) n.len n.cap) (.slice (some ⟨g.gb,g.go,none⟩) n.len g.cap)) (fun i _=>k - (intOf i).toNat)
      case atStart=>exact⟨0,Nat.zero_le _,rfl,fun _ h=>absurd h (Nat.not_lt_zero _),hB⟩
      case round =>
       obtain⟨j,hj,rfl,hdone2,hB2⟩:=hrel;clear hB;have HD2:Hid (∀x,x<j→((n.s x).toList==(n.s k).toList)=false):=hdone2;clear hdone2;by_cases hjk:j<k
       ·have ne:Nonempty (Cls w (.slice (some ⟨n.b,n.o,none⟩) n.len n.cap) (.slice (some ⟨g.gb,g.go,none⟩) n.len g.cap)):=⟨⟨_,hB2⟩⟩;have d0:=fun x:Cls w (.slice (some ⟨n.b,n.o,none⟩) n.len n.cap) (.slice (some ⟨g.gb,g.go,none⟩) n.len g.cap)=>x.box.c0;have d1:=fun x:Cls w (.slice (some ⟨n.b,n.o,none⟩) n.len n.cap) (.slice (some ⟨g.gb,g.go,none⟩) n.len g.cap)=>x.box.c1;have d2:=fun x:Cls w (.slice (some ⟨n.b,n.o,none⟩) n.len n.cap) (.slice (some ⟨g.gb,g.go,none⟩) n.len g.cap)=>(hn.kept x.box.bl).cell j (by omega);have d3:=fun x:Cls w (.slice (some ⟨n.b,n.o,none⟩) n.len n.cap) (.slice (some ⟨g.gb,g.go,none⟩) n.len g.cap)=>(hn.kept x.box.bl).cell k hlt;have ij:(j:Int)<n.len:=by omega
        cases hv:((n.s j).toList==(n.s k).toList)
        ·go_wp2;refine zg0 hB2 (by kernel_rfl) (by kernel_rfl) ?_;repeat (first | go_big_quiet_step (fail))
         refine wpQuiet_nil ?_;rintro w4 ⟨x4,rfl⟩;have B4:=x4.box;generalize x4.w=w4 at B4 ⊢;clear x4 d0 d1 d2 d3;go_wp2;go_roundw
         case rel =>
          refine⟨j+1,by omega,by go_num,fun x hx=>?_,B4⟩;rcases Nat.lt_succ_iff_lt_or_eq.1 hx with h | h
          ·exact HD2.out x h
          ·subst h;exact hv
         case measure=>simp[intOf];omega
        ·have HY:=zrx hjk hv;have HH:Hid (zb1 n g k=false):=by show zb1 n g k=false;simp[zb1,HY]
         clear HY;go_wp2;refine zg0 hB2 (by kernel_rfl) (by kernel_rfl) ?_;repeat (first | go_big_quiet_step (fail))
         refine wpQuiet_nil ?_;rintro w4 ⟨x4,rfl⟩;have B4:=x4.box;generalize x4.w=w4 at B4 ⊢;clear x4 d0 d1 d2 d3;go_wp2;go_ret;exact⟨zab (HNO.out HH.out).symm,B4.bl⟩
       ·have e:j=k:=by omega
        subst e;have HH:Hid (zb1 n g j=true):=by
         show zb1 n g j=true
         unfold zb1;rw[hnm,zua HD2.out,HLk.out];simp
        go_wp2;go_roundw
        case rel =>
         refine⟨j+1,by omega,by go_num,fun x hx=>?_,hB2⟩;rcases Nat.lt_succ_iff_lt_or_eq.1 hx with h | h
         ·exact HD.out x h
         ·subst h;exact HH.out
        case measure=>simp[intOf];omega
     ·have bL:((g.L k:Int) != n.len)=true:=by rw[bne_iff_ne];omega
      go_wp2;go_ret;exact⟨zab (HNO.out (by simp[zb1,beq_eq_false_iff_ne.2 hL])).symm,hB.bl⟩
   ·have HY:Hid ((zay n&&za1 g n.len)=true):=zw9 (by omega) (by omega) HL.out (fun x hx=>HD.out x (by omega));go_wp2;go_ret;exact⟨zab HY.out.symm,hB.bl⟩
 ·have B0:=Box2.start w (.slice n.ao n.len n.cap) (.slice g.ao g.len g.cap) 25;have bl:((g.len:Int) != n.len)=true:=by rw[bne_iff_ne];omega
  have HF:Hid ((zay n&&za1 g n.len)=false):=by show (zay n&&za1 g n.len)=false;simp[za1,beq_eq_false_iff_ne.2 hl]
  go_enter Tryz.func94,Tryz.ntmps94
  go_wp2;go_ret;exact⟨zab HF.out.symm,B0.bl⟩
structure Two (w w1:World)(u v u2 v2:Value):Prop where
 bl:Below w.heap.size w w1
 lt:w.heap.size+1<w1.heap.size
 c0:w1.cell? ⟨w.heap.size,0,none⟩=some u
 c1:w1.cell? ⟨w.heap.size,1,none⟩=some v
 c2:w1.cell? ⟨w.heap.size+1,0,none⟩=some u2
 c3:w1.cell? ⟨w.heap.size+1,1,none⟩=some v2
theorem Two.start (w:World)(u v u2 v2:Value)(t t2:TypeId):Two w ((w.alloc (.cells #[u,v] t)).alloc (.cells #[u2,v2] t2)) u v u2 v2 :=
 ⟨((Below.refl _ _).alloc (Nat.le_refl _) _).alloc (by simp) _,by simp,by simp,by simp,(zh1 w _ u2 v2 t2).1,(zh1 w _ u2 v2 t2).2⟩
theorem Two.step {w w1 w2:World}{u v u2 v2:Value}(h:Two w w1 u v u2 v2)(k:Below w1.heap.size w1 w2):Two w w2 u v u2 v2 :=
 ⟨h.bl.trans (k.mono h.bl.size),Nat.lt_of_lt_of_le h.lt k.size,(k.cell (p:=⟨w.heap.size,0,none⟩) (by have:=h.lt;show w.heap.size<_;omega)).trans h.c0,(k.cell (p:=⟨w.heap.size,1,none⟩) (by have:=h.lt;show w.heap.size<_;omega)).trans h.c1,
  (k.cell (p:=⟨w.heap.size+1,0,none⟩) h.lt).trans h.c2,(k.cell (p:=⟨w.heap.size+1,1,none⟩) h.lt).trans h.c3⟩
theorem zhw {w:World}{base:Nat}{e:TypeId}{size:Nat}{v:Value}{n:Nat}{xs:List Value}(h:w.ownsRow base e size v n xs){b:Nat}(hb:v.ownBlock=some b):base≤b:=by
 obtain⟨_,⟨rfl,_⟩ | ⟨gb,cap,cur,rfl,hg,_⟩⟩:=h
 ·simp[Value.ownBlock] at hb
 ·have:gb=b:=by simpa [Value.ownBlock] using hb
  omega
end
end Go.Proofs.YtfobijdkoeifjaaGreatDoor
