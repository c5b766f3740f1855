import Derived.WalkKit
import Derived.Test.YtfobijdkoeifjaaGreatDoorRows
import Derived.WalkSpells
import Derived.WalkLawsBesides
import Derived.Deep.QuietTactic
import Derived.BigQuiet
set_option maxRecDepth 100000
set_option maxHeartbeats 32000000
namespace Go.Proofs.YtfobijdkoeifjaaGreatDoor
section
theorem zA {α:Type _}{l:List α}{i:Nat}{a:α}:l.toArray.setIfInBounds i a=(l.set i a).toArray:=by simp
theorem zB {α:Type _}{x:α}{l:List α}{i:Nat}{a:α}:(x::l).set (i+1) a=x::l.set i a:=rfl
theorem zC {α:Type _}{x:α}{l:List α}{a:α}:(x::l).set 0 a=a::l:=rfl
theorem zD {α:Type _}{x:α}{l:List α}:(x::l)[0]?=some x:=rfl
theorem zE {α:Type _}{x:α}{l:List α}{i:Nat}:(x::l)[i+1]?=l[i]?:=by simp
theorem zau {k:IntKind}{a b:Int}(h:a=b):Ending.returned (.int k a)=.returned (.int k b):=by rw[h]
theorem zab {a b:Bool}(h:a=b):Ending.returned (.bool a)=.returned (.bool b):=by rw[h]
def za0 (r:Int):Bool:=(decide (97≤r)&&decide (r≤122))||(decide (65≤r)&&decide (r≤90))||(decide (945≤r)&&decide (r≤969))
def zb2 (r:Int):Bool:=decide (48≤r)&&decide (r≤57)
theorem ziq (a b:Nat)(ha:a<256)(hb:b<256):(bits .andNot .u64 (a:Int) (b:Int)==0)=(a &&& b==a):=by
 have h1:(BitVec.ofInt 64 (a:Int)).toNat=a:=by rw[BitVec.ofInt_natCast,BitVec.toNat_ofNat];exact Nat.mod_eq_of_lt (by omega)
 have h2:(BitVec.ofInt 64 (b:Int)).toNat=b:=by rw[BitVec.ofInt_natCast,BitVec.toNat_ofNat];exact Nat.mod_eq_of_lt (by omega)
 have e:bits .andNot .u64 (a:Int) (b:Int)=((a &&& (2 ^ 64 - 1 - b):Nat):Int):=by
  show IntKind.u64.wrap ((BitVec.ofInt 64 (a:Int) &&& ~~~ BitVec.ofInt 64 (b:Int)).toNat:Int)=_
  have hx:a &&& (2 ^ 64 - 1 - b)<2 ^ 64:=Nat.and_lt_two_pow _ (by omega);rw[BitVec.toNat_and,BitVec.toNat_not,h1,h2,IntKind.wrap_u64];omega
 rw[e,Bool.eq_iff_iff,beq_iff_eq,beq_iff_eq]
 constructor
 ·intro h;have h0:a &&& (2 ^ 64 - 1 - b)=0:=by omega
  apply Nat.eq_of_testBit_eq
  intro i;have hi:=congrArg (fun n=>n.testBit i) h0;simp only[Nat.testBit_and,Nat.zero_testBit] at hi ⊢;by_cases h64:i<64
  ·rw[show 2 ^ 64 - 1 - b=2 ^ 64 - (b+1) by omega,Nat.testBit_two_pow_sub_succ (by omega)] at hi;simp[h64] at hi
   cases h3:a.testBit i <;> simp_all
  ·have:a.testBit i=false:=Nat.testBit_lt_two_pow (Nat.lt_of_lt_of_le (show a<2 ^ 64 by omega) (Nat.pow_le_pow_right (by omega) (by omega)));simp[this]
 ·intro h;have h0:a &&& (2 ^ 64 - 1 - b)=0:=by
   apply Nat.eq_of_testBit_eq
   intro i;have hi:=congrArg (fun n=>n.testBit i) h;simp only[Nat.testBit_and,Nat.zero_testBit] at hi ⊢;by_cases h64:i<64
   ·rw[show 2 ^ 64 - 1 - b=2 ^ 64 - (b+1) by omega,Nat.testBit_two_pow_sub_succ (by omega)];simp[h64]
    cases h3:a.testBit i <;> simp_all
   ·have:a.testBit i=false:=Nat.testBit_lt_two_pow (Nat.lt_of_lt_of_le (show a<2 ^ 64 by omega) (Nat.pow_le_pow_right (by omega) (by omega)));simp[this]
  rw[h0];rfl
theorem zmy (a b:Nat)(ha:a<256)(hb:b<256):bits .and .u64 (a:Int) (b:Int)=((a &&& b:Nat):Int):=bits_and_u64_nat a b (by omega) (by omega)
theorem or_u8 (a b:Nat)(ha:a<256)(hb:b<256):bits .or .u64 (a:Int) (b:Int)=((a ||| b:Nat):Int):=bits_or_u64_nat a b (by omega) (by omega)
theorem zxl (a b:Nat)(ha:a<256):a &&& b<256:=Nat.lt_of_le_of_lt Nat.and_le_left ha
theorem zxk (x a:Nat):(bits .and .u64 ((x:Int) / 2 ^ a) 1==1)=x.testBit a∨¬x<256:=by
 by_cases hx:x<256
 ·left
  have e:((x:Int) / 2 ^ a)=((x / 2 ^ a:Nat):Int):=by simp
  have hl:x / 2 ^ a<256:=Nat.lt_of_le_of_lt (Nat.div_le_self _ _) hx;rw[e,show (1:Int)=((1:Nat):Int) from rfl,zmy _ _ hl (by omega),Nat.testBit_eq_decide_div_mod_eq,Nat.and_one_is_mod,Bool.eq_iff_iff];simp
  omega
 ·right;exact hx
def mask:Nat→(Nat→Bool)→Nat
 | 0,_=>0
 | n+1,p=>mask n p+if p n then 2 ^ n else 0
theorem zor (n:Nat)(p:Nat→Bool):mask n p<2 ^ n:=by
 induction n with
 | zero=>simp[mask]
 | succ n ih=>simp only[mask];rw[Nat.pow_succ];split <;> omega
theorem mask_bit (n:Nat)(p:Nat→Bool)(i:Nat):(mask n p).testBit i=(decide (i<n)&&p i):=by
 induction n with
 | zero=>simp[mask]
 | succ n ih =>
  have hl:=zor n p;simp only[mask];by_cases hp:p n=true
  ·rw[if_pos hp,Nat.add_comm];by_cases hi:i=n
   ·subst hi;rw[Nat.testBit_two_pow_add_eq,Nat.testBit_lt_two_pow hl];simp[hp]
   ·by_cases hlt:i<n
    ·rw[Nat.testBit_two_pow_add_gt hlt,ih];simp[hlt,show i<n+1 by omega]
    ·have:(2 ^ n+mask n p).testBit i=false:=Nat.testBit_lt_two_pow (Nat.lt_of_lt_of_le (show 2 ^ n+mask n p<2 ^ (n+1) by rw[Nat.pow_succ];omega) (Nat.pow_le_pow_right (by omega) (by omega)))
     rw[this];simp[show ¬i<n+1 by omega]
  ·rw[if_neg hp,Nat.add_zero,ih];by_cases hi:i=n
   ·subst hi;simp[hp]
   ·simp[show (i<n+1)=(i<n) by simp;omega]
theorem zns (p:Nat→Bool):mask 8 p<256:=zor 8 p
theorem zbw (n:Nat)(p q:Nat→Bool)(h:∀i,i<n→p i=q i):mask n p=mask n q:=by
 induction n with
 | zero=>rfl
 | succ n ih=>simp only[mask];rw[ih (fun i hi=>h i (by omega)),h n (by omega)]
theorem zo3 (p:Nat→Bool)(i:Nat)(hi:i<8):mask 8 p ||| 2 ^ i=mask 8 (fun j=>p j||j==i):=by
 apply Nat.eq_of_testBit_eq
 intro j;rw[Nat.testBit_or,mask_bit,mask_bit,Nat.testBit_two_pow];by_cases h8:j<8
 ·by_cases hji:j=i
  ·subst hji;simp[h8]
  ·simp[h8,hji,Ne.symm hji]
 ·simp[h8];omega
def zel (R:Nat→Nat)(ls:Nat→Nat):Nat→Nat→Nat
 | 0,x=>x
 | k+1,x=>zel R ls k x &&& R (ls k)
theorem zlr (R ls:Nat→Nat)(k x:Nat)(h:x<256):zel R ls k x<256:=by
 induction k with
 | zero=>exact h
 | succ k ih=>exact zxl _ _ ih
def nearFrom (R:Nat→Nat)(x:Nat):Nat→Nat→Int
 | 0,_=>-1
 | k+1,a=>if x.testBit a&&(x &&& R a==x) then a else nearFrom R x k (a+1)
def near (R:Nat→Nat)(x:Nat):Int:=nearFrom R x 8 0
theorem zu1 {R:Nat→Nat}{x j:Nat}(hj:j<8)(h1:x.testBit j=true)(h2:(x &&& R j==x)=true):nearFrom R x (8 - j) j=j:=by
 obtain⟨m,hm⟩:∃m,8 - j=m+1:=⟨8 - j - 1,by omega⟩;rw[hm,nearFrom,h1,h2];rfl
theorem zkz {R:Nat→Nat}{x j:Nat}(hj:j<8)(h:(x.testBit j&&(x &&& R j==x))=false):nearFrom R x (8 - j) j=nearFrom R x (8 - (j+1)) (j+1):=by
 obtain⟨m,hm⟩:∃m,8 - j=m+1:=⟨8 - j - 1,by omega⟩;rw[hm,nearFrom,h,show 8 - (j+1)=m by omega];rfl
def zbh (n:Nat)(R:Nat→Nat)(a b:Nat):Int:=near R (((2 ^ n - 1) &&& R a) &&& R b)
def zl9 (a b:Nat):Nat→Nat:=fun j=>if j=0 then a else b
def zcz (n:Nat)(U D:Nat→Nat)(a b:Nat):Bool:=zbh n U a b != -1&&zbh n D a b != -1
def bddB (n:Nat)(U D:Nat→Nat):Bool:=decide (∀a,a<n→∀b,b<a→zcz n U D a b=true)
def zc1 (n:Nat)(U D:Nat→Nat)(a:Nat):Bool:=(U a &&& D a==2 ^ a)&&decide (∀b,b<n→(U a).testBit b=true→U b &&& U a=U b)
def zek (n:Nat)(U D:Nat→Nat):Bool:=decide (∀a,a<n→zc1 n U D a=true)
theorem zpe (n:Nat)(hn:n≤8):2 ^ n - 1<256:=by
 have hp:(2:Nat) ^ n≤256:=Nat.pow_le_pow_right (n:=2) (by omega) hn;omega
theorem shl8 (a:Nat)(ha:a<8):IntKind.u64.wrap (2 ^ a)=((2 ^ a:Nat):Int):=by
 have hp:(2:Nat) ^ a≤2 ^ 8:=Nat.pow_le_pow_right (by omega) (by omega);have hc:((2:Int) ^ a)=((2 ^ a:Nat):Int):=by simp
 rw[hc,IntKind.wrap_u64];generalize (2:Nat) ^ a=p at *;omega
theorem zuh {n:Nat}{U D:Nat→Nat}{k:Nat}(hk:k<n)(h:(((U k &&& D k:Nat):Int) != 2 ^ k)=true):zek n U D=false:=by
 unfold zek;rw[decide_eq_false_iff_not];intro hh;have:=hh k hk;simp[zc1] at this
 rw[bne_iff_ne] at h;apply h
 rw[this.1];simp
theorem zuy {n:Nat}{U D:Nat→Nat}{k b:Nat}(hk:k<n)(hb:b<n)(h1:(U k).testBit b=true)(h2:(U b &&& U k==U b)=false):zek n U D=false:=by
 unfold zek;rw[decide_eq_false_iff_not];intro hh;have:=hh k hk;simp[zc1] at this
 have:=this.2 b hb h1;simp[this] at h2
theorem ztm {n:Nat}{U D:Nat→Nat}{k:Nat}(h:(((U k &&& D k:Nat):Int) != 2 ^ k)=false)(h2:∀b,b<n→(U k).testBit b=true→U b &&& U k=U b):zc1 n U D k=true:=by
 have e:((U k &&& D k:Nat):Int)=2 ^ k:=by simpa using h
 have e2:U k &&& D k=2 ^ k:=by
  have:((2:Int) ^ k)=((2 ^ k:Nat):Int):=by simp
  rw[this] at e;exact Int.ofNat_inj.1 e
 simp only[zc1,e2,beq_self_eq_true,Bool.true_and,decide_eq_true_eq];exact h2
theorem znq {n:Nat}{U D:Nat→Nat}(h:∀a,a<n→zc1 n U D a=true):zek n U D=true:=by
 unfold zek;exact decide_eq_true h
theorem zpg {n:Nat}{U D:Nat→Nat}(h:∀a,a<n→∀b,b<a→zcz n U D a b=true):bddB n U D=true:=by
 unfold bddB;exact decide_eq_true h
theorem zq2 {n:Nat}{U D:Nat→Nat}{a b:Nat}(ha:a<n)(hb:b<a)(h:zcz n U D a b=false):bddB n U D=false:=by
 unfold bddB;rw[decide_eq_false_iff_not];intro hh;rw[hh a ha b hb] at h;exact Bool.noConfusion h
theorem zr0 (a b:Nat)(ha:a<256)(hb:b<256):(bits .andNot .u64 (a:Int) (b:Int) != 0)=!(a &&& b==a):=by
 rw[bne,ziq a b ha hb]
end
section
open Go.RowKit
theorem zqh (r:Int)(w:World) :
  Calls Tryz.prog 128 #[.int .i32 r] w fun e w'=>e=.returned (.bool (za0 r))∧w'=w:=by
 go_enter Tryz.func128,Tryz.ntmps128
 go_wp2
 all_goals (go_ret;exact⟨zab (by unfold za0;rw[Bool.eq_iff_iff];simp;omega),rfl⟩)
theorem zsq (r:Int)(w:World) :
  Calls Tryz.prog 129 #[.int .i32 r] w fun e w'=>e=.returned (.bool (zb2 r))∧w'=w:=by
 go_enter Tryz.func129,Tryz.ntmps129
 go_wp2
 all_goals (go_ret;exact⟨zab (by unfold zb2;rw[Bool.eq_iff_iff];simp;try omega),rfl⟩)
theorem zo0 (x a:Nat)(hx:x<256)(ha:a<8)(w:World) :
  Calls Tryz.prog 90 #[.int .u64 x,.int .i64 a] w fun e w'=>e=.returned (.bool (x.testBit a))∧w'=w:=by
 go_enter Tryz.func90,Tryz.ntmps90
 go_wp2;go_ret;exact⟨zab ((zxk x a).resolve_right (by omega)),rfl⟩
theorem zo7 (B n:Nat)(hn:n≤8)(w:World)(hc:w.cell? ⟨B,0,none⟩=some (.int .i64 n)) :
  Calls Tryz.prog 93 #[.pointer (some ⟨B,0,none⟩)] w fun e w'=>e=.returned (.int .u64 ((2 ^ n - 1:Nat):Int))∧w'=w:=by
 go_enter Tryz.func93,Tryz.ntmps93
 have e1:IntKind.u64.wrap (IntKind.u64.wrap (2 ^ n) - 1)=((2 ^ n - 1:Nat):Int):=by
  have hp:(2:Nat) ^ n≤256:=Nat.pow_le_pow_right (n:=2) (by omega) hn;have hp1:1≤(2:Nat) ^ n:=Nat.one_le_two_pow;have hc:((2:Int) ^ n)=((2 ^ n:Nat):Int):=by simp
  rw[hc,IntKind.wrap_u64,IntKind.wrap_u64];omega
 have H:Hid (IntKind.u64.wrap (IntKind.u64.wrap (2 ^ n) - 1)=((2 ^ n - 1:Nat):Int)):=e1;clear e1;go_wp2;go_ret;exact⟨zau H.out,rfl⟩
theorem ziu (x:Nat)(B o:Nat)(R:Nat→Nat)(la:Option Addr)(lb lo ll lc:Nat)(ls:Nat→Nat)(w:World)
  (hx:x<256) (hR:∀i,i<8→R i<256) (hcR:∀i,i<8→w.cell? ⟨B,o+i,none⟩=some (.int .u64 (R i)))
  (hla:0<ll→la=some ⟨lb,lo,none⟩) (hll:ll≤8) (hls:∀j,j<ll→ls j<8) (hcl:∀j,j<ll→w.cell? ⟨lb,lo+j,none⟩=some (.int .i64 (ls j))) :
  Calls Tryz.prog 92 #[.int .u64 x,.pointer (some ⟨B,o,none⟩),.slice la ll lc] w fun e w'=>e=.returned (.int .i64 (near R (zel R ls ll x)))∧∃n,w'=w.drewN n:=by
 go_enter Tryz.func92,Tryz.ntmps92
 go_wp2
 go_loop [0,13] (fun b i=>∃k:Nat,k≤ll∧i=.int .i64 k∧b=.int .u64 (zel R ls k x)) (fun _ i=>ll - (intOf i).toNat)
 case atStart=>exact⟨0,Nat.zero_le _,rfl,rfl⟩
 case round =>
  obtain⟨k,hk,rfl,rfl⟩:=hrel;by_cases hlt:k<ll
  ·have h1:=hls k hlt;have h2:=hcl k hlt;have h3:=hla (by omega);have h4:=hcR _ h1;have h5:=zmy _ _ (zlr R ls k x hx) (hR _ h1);subst h3;go_wp2
   go_round
   case rel=>exact⟨k+1,by omega,by go_num,rfl⟩
   case measure=>simp[intOf];omega
  ·have e:k=ll:=by omega
   subst e;clear hlt;have hlt:¬k<k:=by omega
   have hb:=zlr R ls k x hx;generalize hy:zel R ls k x=y at *;have HY:Hid (zel R ls k x=y):=hy;clear hy;go_wp2;go_loopw [26] (fun i wr=>∃j:Nat,j≤8∧i=.int .i64 j∧near R y=nearFrom R y (8 - j) j∧∃n,wr=w.drewN n) (fun i _=>8 - (intOf i).toNat)
   case atStart=>exact⟨0,by omega,rfl,rfl,0,rfl⟩
   case round =>
    obtain⟨j,hj,rfl,hnear,nw,rfl⟩:=hrel;have HN:Hid (near R y=nearFrom R y (8 - j) j):=hnear;clear hnear;by_cases hj8:j<8
    ·have g1:=hcR j hj8;have g2:=hR j hj8;have g3:=ziq y (R j) hb g2;go_wp2
     go_quiet (fail)
     go_wp2_with (go_at_call 90;refine (zo0 y j hb hj8 _).mono ?_;rintro e w' ⟨rfl,rfl⟩)
     ·go_ret;have t1:y.testBit j=true:=by assumption
      have t2:(y &&& R j==y)=true:=by assumption
      exact⟨zau (by rw[HY.out,HN.out,zu1 hj8 t1 t2]),_,rfl⟩
     ·go_roundw
      case rel =>
       have t2:(y &&& R j==y)=false:=by assumption
       exact⟨j+1,by omega,by go_num,by rw[HN.out];exact zkz hj8 (by rw[t2];simp),_,rfl⟩
      case measure=>simp[intOf];omega
     ·go_roundw
      case rel =>
       have t2:¬y.testBit j=true:=by assumption
       exact⟨j+1,by omega,by go_num,by rw[HN.out];exact zkz hj8 (by simp[t2]),_,rfl⟩
      case measure=>simp[intOf];omega
    ·have e:j=8:=by omega
     subst e;go_wp2;go_ret;exact⟨zau (by rw[HY.out,HN.out];rfl),_,rfl⟩
structure OrdAt (w:World)(B n:Nat)(U D:Nat→Nat):Prop where
 size:w.cell? ⟨B,0,none⟩=some (.int .i64 n)
 up:∀i,i<8→w.cell? ⟨B,1+i,none⟩=some (.int .u64 (U i))
 dn:∀i,i<8→w.cell? ⟨B,9+i,none⟩=some (.int .u64 (D i))
theorem zde {w:World}{b o:Nat}{v:Value}(h:w.cell? ⟨b,o,none⟩=some v):b<w.heap.size:=by
 unfold World.cell? at h;cases hb:w.heap[b]? with
 | none=>simp[hb] at h
 | some x=>exact (Array.getElem?_eq_some_iff.1 hb).1
theorem OrdAt.kept {w w':World}{B n:Nat}{U D:Nat→Nat}(h:OrdAt w B n U D)(hb:Below w.heap.size w w'):OrdAt w' B n U D:=by
 have hl:=zde h.size;exact⟨(hb.cell (p:=⟨B,0,none⟩) hl).trans h.size,fun i hi=>(hb.cell (p:=⟨B,1+i,none⟩) hl).trans (h.up i hi),fun i hi=>(hb.cell (p:=⟨B,9+i,none⟩) hl).trans (h.dn i hi)⟩
theorem zbv {B:Nat}{a w:World}(h:Below B a w)(n:Nat):Below B a (w.drewN n):=⟨h.os,h.tape,h.output,h.size,h.block⟩
def Dr (w w':World):Prop:=∃n,w'=w.drewN n
theorem Dr.refl (w:World):Dr w w:=⟨0,rfl⟩
theorem Dr.step {a w:World}(h:Dr a w)(n:Nat):Dr a (w.drewN n):=by
 obtain⟨m,rfl⟩:=h;exact⟨_,World.drewN_drewN _ _ _⟩
theorem Dr.below {w w':World}(h:Dr w w')(B:Nat):Below B w w':=by
 obtain⟨m,rfl⟩:=h;exact zbv (Below.refl _ _) m
theorem OrdAt.dr {w w':World}{B n:Nat}{U D:Nat→Nat}(h:OrdAt w B n U D)(k:Dr w w'):OrdAt w' B n U D:=h.kept (k.below _)
theorem zqz (x a:Nat)(hx:x<256)(ha:a<8)(r:Bool)(h:x.testBit a=r)(w:World) :
  Calls Tryz.prog 90 #[.int .u64 x,.int .i64 a] w fun e w'=>e=.returned (.bool r)∧w'=w:=by
 subst h;exact zo0 x a hx ha w
theorem zm0 (B n:Nat)(U D:Nat→Nat)(la:Option Addr)(lb lo ll lc:Nat)(ls:Nat→Nat)(w:World)
  (hn:n≤8) (ho:OrdAt w B n U D) (hU:∀i,i<8→U i<256)
  (hla:0<ll→la=some ⟨lb,lo,none⟩) (hll:ll≤8) (hls:∀j,j<ll→ls j<8) (hcl:∀j,j<ll→w.cell? ⟨lb,lo+j,none⟩=some (.int .i64 (ls j))) :
  Calls Tryz.prog 58 #[.pointer (some ⟨B,0,none⟩),.slice la ll lc] w fun e w'=>e=.returned (.int .i64 (near U (zel U ls ll (2 ^ n - 1))))∧Dr w w':=by
 have h8:=zpe n hn;go_enter Tryz.func58,Tryz.ntmps58
 go_wp2
 go_quiet ((first
  | (go_at_call 93;exact Calls.quiet_of_same (zo7 B n hn _ ho.size))
  | (go_at_call 92;exact Calls.quiet_of (ziu _ B 1 U la lb lo ll lc ls _ h8 hU ho.up hla hll hls hcl))))
 go_wp2;go_ret;exact⟨rfl,_,rfl⟩
theorem znj (B n:Nat)(U D:Nat→Nat)(la:Option Addr)(lb lo ll lc:Nat)(ls:Nat→Nat)(w:World)
  (hn:n≤8) (ho:OrdAt w B n U D) (hU:∀i,i<8→D i<256)
  (hla:0<ll→la=some ⟨lb,lo,none⟩) (hll:ll≤8) (hls:∀j,j<ll→ls j<8) (hcl:∀j,j<ll→w.cell? ⟨lb,lo+j,none⟩=some (.int .i64 (ls j))) :
  Calls Tryz.prog 55 #[.pointer (some ⟨B,0,none⟩),.slice la ll lc] w fun e w'=>e=.returned (.int .i64 (near D (zel D ls ll (2 ^ n - 1))))∧Dr w w':=by
 have h8:=zpe n hn;go_enter Tryz.func55,Tryz.ntmps55
 go_wp2
 go_quiet ((first
  | (go_at_call 93;exact Calls.quiet_of_same (zo7 B n hn _ ho.size))
  | (go_at_call 92;exact Calls.quiet_of (ziu _ B 9 D la lb lo ll lc ls _ h8 hU ho.dn hla hll hls hcl))))
 go_wp2;go_ret;exact⟨rfl,_,rfl⟩
theorem zn5 (B n:Nat)(U D:Nat→Nat)(w:World)(hn:n≤8)(ho:OrdAt w B n U D)(hU:∀i,i<8→U i<256)(hD:∀i,i<8→D i<256) :
  Calls Tryz.prog 50 #[.pointer (some ⟨B,0,none⟩)] w fun e w'=>e=.returned (.bool (zek n U D))∧Dr w w':=by
 have c0:=ho.size;go_enter Tryz.func50,Tryz.ntmps50
 go_wp2;go_loopw [9] (fun i wr=>∃k:Nat,k≤n∧i=.int .i64 k∧(∀a,a<k→zc1 n U D a=true)∧Dr w wr) (fun i _=>n - (intOf i).toNat)
 case atStart=>exact⟨0,Nat.zero_le _,rfl,fun _ h=>absurd h (Nat.not_lt_zero _),Dr.refl _⟩
 case round =>
  obtain⟨k,hk,rfl,hdone,hdr⟩:=hrel;have HD:Hid (∀a,a<k→zc1 n U D a=true):=hdone;clear hdone c0;have ho1:=ho.dr hdr;have c1:=ho1.size;by_cases hlt:k<n
  ·have g1:=ho1.up k (by omega);have g2:=ho1.dn k (by omega);have g3:=zmy _ _ (hU k (by omega)) (hD k (by omega));have g4:=shl8 k (by omega);have k8:(k:Int)<8:=by omega
   go_wp2
   go_quiet (fail)
   go_wp2
   ·have t:(((U k &&& D k:Nat):Int) != 2 ^ k)=true:=by assumption
    go_ret;exact⟨zab (zuh hlt t).symm,hdr.step _⟩
   ·have t:(((U k &&& D k:Nat):Int) != 2 ^ k)=false:=by assumption
    have T:Hid ((((U k &&& D k:Nat):Int) != 2 ^ k)=false):=t;clear t g3 g4 g1 g2 c1;go_loopw [32] (fun i w2=>∃j:Nat,j≤n∧i=.int .i64 j∧(∀b,b<j→(U k).testBit b=true→U b &&& U k=U b)∧Dr w w2) (fun i _=>n - (intOf i).toNat)
    case atStart=>exact⟨0,Nat.zero_le _,rfl,fun _ h=>absurd h (Nat.not_lt_zero _),hdr.step _⟩
    case round =>
     obtain⟨j,hj,rfl,hdone2,hdr2⟩:=hrel;have HD2:Hid (∀b,b<j→(U k).testBit b=true→U b &&& U k=U b):=hdone2;clear hdone2;have ho2:=ho.dr hdr2;have c2:=ho2.size;by_cases hj8:j<n
     ·have f1:=ho2.up j (by omega);have f2:=ho2.up k (by omega);have f3:=zr0 (U j) (U k) (hU j (by omega)) (hU k (by omega));have f4:=hU k (by omega);have j8:(j:Int)<8:=by omega
      cases hbit:(U k).testBit j
      ·go_wp2
       go_quiet ((go_at_call 90;exact Calls.quiet_of_same (zqz (U k) j f4 (by omega) _ hbit _)))
       go_wp2;go_roundw
       case rel =>
        refine⟨j+1,by omega,by go_num,fun b hb hbb=>?_,hdr2.step _⟩;rcases Nat.lt_succ_iff_lt_or_eq.1 hb with h | h
        ·exact HD2.out b h hbb
        ·subst h;rw[hbit] at hbb;exact Bool.noConfusion hbb
       case measure=>simp[intOf];omega
      ·go_wp2
       go_quiet ((go_at_call 90;exact Calls.quiet_of_same (zqz (U k) j f4 (by omega) _ hbit _)))
       go_wp2
       ·have t:(!U j &&& U k==U j)=true:=by assumption
        go_ret;exact⟨zab (zuy hlt hj8 hbit (by simpa using t)).symm,hdr2.step _⟩
       ·have t:(!U j &&& U k==U j)=false:=by assumption
        go_roundw
        case rel =>
         refine⟨j+1,by omega,by go_num,fun b hb hbb=>?_,hdr2.step _⟩;rcases Nat.lt_succ_iff_lt_or_eq.1 hb with h | h
         ·exact HD2.out b h hbb
         ·subst h;simpa using t
        case measure=>simp[intOf];omega
     ·have e:j=n:=by omega
      subst e;go_wp2;go_roundw
      case rel =>
       refine⟨k+1,by omega,by go_num,fun a ha=>?_,hdr2⟩;rcases Nat.lt_succ_iff_lt_or_eq.1 ha with h | h
       ·exact HD.out a h
       ·subst h;exact ztm T.out HD2.out
      case measure=>simp[intOf];omega
  ·have e:k=n:=by omega
   subst e;go_wp2;go_ret;exact⟨zab (znq HD.out).symm,hdr⟩
theorem zhq (B n:Nat)(U D:Nat→Nat)(lb a b:Nat)(w:World)(hn:n≤8)(ho:OrdAt w B n U D)(hU:∀i,i<8→U i<256)(ha:a<8)(hb:b<8)
  (h0:w.cell? ⟨lb,0,none⟩=some (.int .i64 a)) (h1:w.cell? ⟨lb,1,none⟩=some (.int .i64 b)) :
  Calls Tryz.prog 58 #[.pointer (some ⟨B,0,none⟩),.slice (some ⟨lb,0,none⟩) 2 2] w fun e w'=>e=.returned (.int .i64 (zbh n U a b))∧Dr w w':=by
 refine zm0 B n U D _ lb 0 2 2 (zl9 a b) w hn ho hU (fun _=>rfl) (by omega) ?_ ?_
 ·intro j _;unfold zl9;split <;> assumption
 ·intro j hj
  match j,hj with
  | 0,_=>exact h0
  | 1,_=>exact h1
theorem zs5 (B n:Nat)(U D:Nat→Nat)(lb a b:Nat)(w:World)(hn:n≤8)(ho:OrdAt w B n U D)(hU:∀i,i<8→D i<256)(ha:a<8)(hb:b<8)
  (h0:w.cell? ⟨lb,0,none⟩=some (.int .i64 a)) (h1:w.cell? ⟨lb,1,none⟩=some (.int .i64 b)) :
  Calls Tryz.prog 55 #[.pointer (some ⟨B,0,none⟩),.slice (some ⟨lb,0,none⟩) 2 2] w fun e w'=>e=.returned (.int .i64 (zbh n D a b))∧Dr w w':=by
 refine znj B n U D _ lb 0 2 2 (zl9 a b) w hn ho hU (fun _=>rfl) (by omega) ?_ ?_
 ·intro j _;unfold zl9;split <;> assumption
 ·intro j hj
  match j,hj with
  | 0,_=>exact h0
  | 1,_=>exact h1
theorem zs2 (B n:Nat)(U D:Nat→Nat)(lc:Nat)(w:World)(hn:n≤8)(ho:OrdAt w B n U D)(hU:∀i,i<8→U i<256) :
  Calls Tryz.prog 58 #[.pointer (some ⟨B,0,none⟩),.slice none 0 lc] w fun e w'=>e=.returned (.int .i64 (near U (2 ^ n - 1)))∧Dr w w' :=
 zm0 B n U D _ 0 0 0 lc (fun _=>0) w hn ho hU (fun h=>absurd h (Nat.lt_irrefl _)) (by omega) (fun _ h=>absurd h (Nat.not_lt_zero _)) (fun _ h=>absurd h (Nat.not_lt_zero _))
theorem ztf (B n:Nat)(U D:Nat→Nat)(lc:Nat)(w:World)(hn:n≤8)(ho:OrdAt w B n U D)(hU:∀i,i<8→D i<256) :
  Calls Tryz.prog 55 #[.pointer (some ⟨B,0,none⟩),.slice none 0 lc] w fun e w'=>e=.returned (.int .i64 (near D (2 ^ n - 1)))∧Dr w w' :=
 znj B n U D _ 0 0 0 lc (fun _=>0) w hn ho hU (fun h=>absurd h (Nat.lt_irrefl _)) (by omega) (fun _ h=>absurd h (Nat.not_lt_zero _)) (fun _ h=>absurd h (Nat.not_lt_zero _))
theorem zhb (w:World)(u v:Value)(t:TypeId):(w.alloc (.cells #[u,v] t)).cell? ⟨w.heap.size,0,none⟩=some u∧(w.alloc (.cells #[u,v] t)).cell? ⟨w.heap.size,1,none⟩=some v:=by
 constructor <;> simp
structure Strs where
 ao:Option Addr
 b:Nat
 o:Nat
 len:Nat
 cap:Nat
 s:Nat→ByteArray
structure Strs.At (g:Strs)(w:World):Prop where
 lc:g.len≤g.cap
 nil:0<g.len→g.ao=some ⟨g.b,g.o,none⟩
 bound:g.len≤9223372036854775807
 cell:∀i,i<g.len→w.cell? ⟨g.b,g.o+i,none⟩=some (.string (g.s i))
 sz:∀i,i<g.len→(g.s i).size≤9223372036854775807
structure Grid where
 ao:Option Addr
 gb:Nat
 go:Nat
 len:Nat
 cap:Nat
 A:Nat→Option Addr
 L:Nat→Nat
 C:Nat→Nat
 AB:Nat→Nat
 AO:Nat→Nat
 B:Nat→Nat→Bool
structure Grid.At (g:Grid)(w:World):Prop where
 lc:g.len≤g.cap
 nil:0<g.len→g.ao=some ⟨g.gb,g.go,none⟩
 bound:g.len≤9223372036854775807
 lbound:∀r,r<g.len→g.L r≤9223372036854775807
 row:∀r,r<g.len→w.cell? ⟨g.gb,g.go+r,none⟩=some (.slice (g.A r) (g.L r) (g.C r))
 adr:∀r,r<g.len→0<g.L r→g.A r=some ⟨g.AB r,g.AO r,none⟩
 cell:∀r,r<g.len→∀c,c<g.L r→w.cell? ⟨g.AB r,g.AO r+c,none⟩=some (.bool (g.B r c))
theorem Strs.At.kept {g:Strs}{w w':World}(h:g.At w)(hb:Below w.heap.size w w'):g.At w' :=
 ⟨h.lc,h.nil,h.bound,fun i hi=>(hb.cell (p:=⟨g.b,g.o+i,none⟩) (zde (h.cell i hi))).trans (h.cell i hi),h.sz⟩
theorem Grid.At.kept {g:Grid}{w w':World}(h:g.At w)(hb:Below w.heap.size w w'):g.At w' :=
 ⟨h.lc,h.nil,h.bound,h.lbound,fun i hi=>(hb.cell (p:=⟨g.gb,g.go+i,none⟩) (zde (h.row i hi))).trans (h.row i hi),h.adr,
  fun r hr c hc=>(hb.cell (p:=⟨g.AB r,g.AO r+c,none⟩) (zde (h.cell r hr c hc))).trans (h.cell r hr c hc)⟩
def Grid.le (g:Grid)(a b:Nat):Bool:=decide (a<g.len)&&(decide (b<g.L a)&&g.B a b)
structure OrdOwn (w:World)(B n:Nat)(U D:Nat→Nat):Prop where
 at':OrdAt w B n U D
 free:∀i,i<17→w.frozen? ⟨B,i,none⟩=false
def zbt (n:Nat)(r:Int):Bool:=n==16||(!za0 r&&(n==0||!zb2 r))
def nameFrom (s:ByteArray):Nat→Nat→Nat→Bool
 | 0,_,_=>false
 | f+1,pos,n=>if pos<s.size then (if zbt n (Utf8.decode s pos).1 then false else nameFrom s f (pos+(Utf8.decode s pos).2) (n+1)) else decide (0<n)
def zbz (s:ByteArray):Bool:=nameFrom s 17 0 0
theorem zhu {s:ByteArray}{pos n:Nat}(hn:n≤16)(hp:pos<s.size)(h:zbt n (Utf8.decode s pos).1=true):nameFrom s (17 - n) pos n=false:=by
 obtain⟨m,hm⟩:∃m,17 - n=m+1:=⟨16 - n,by omega⟩;rw[hm,nameFrom,if_pos hp,h];rfl
theorem zg3 {s:ByteArray}{pos n:Nat}(hn:n≤16)(hp:pos<s.size)(h:zbt n (Utf8.decode s pos).1=false):nameFrom s (17 - n) pos n=nameFrom s (17 - (n+1)) (pos+(Utf8.decode s pos).2) (n+1):=by
 obtain⟨m,hm⟩:∃m,17 - n=m+1:=⟨16 - n,by omega⟩;rw[hm,nameFrom,if_pos hp,h,show 17 - (n+1)=m by omega];rfl
theorem zg9 {s:ByteArray}{pos n:Nat}(hn:n≤16)(hp:¬pos<s.size):nameFrom s (17 - n) pos n=decide (0<n):=by
 obtain⟨m,hm⟩:∃m,17 - n=m+1:=⟨16 - n,by omega⟩;rw[hm,nameFrom,if_neg hp]
theorem zuc (s:ByteArray)(w:World) :
  Calls Tryz.prog 88 #[.string s] w fun e w'=>e=.returned (.bool (zbz s))∧Below w.heap.size w w':=by
 go_enter Tryz.func88,Tryz.ntmps88
 go_wp2;go_loopw [3] (fun t wr=>∃n pos:Nat,n≤16∧t=.int .i64 n∧zbz s=nameFrom s (17 - n) pos n∧wr=w.iter s pos) (fun t _=>17 - (intOf t).toNat)
 case atStart=>exact⟨0,0,by omega,rfl,rfl,rfl⟩
 case round =>
  obtain⟨n,pos,hn,rfl,hname,rfl⟩:=hrel;have HN:Hid (zbz s=nameFrom s (17 - n) pos n):=hname;clear hname;have hbl:Below w.heap.size w (w.iter s pos):=(Below.refl _ _).alloc (Nat.le_refl _) _;by_cases hlt:pos<s.size
  ·have hnx:=fun ty=>run_next_any (P:=Tryz.prog) w s pos ty hlt;have hbl2:Below w.heap.size w (w.iter s (pos+(Utf8.decode s pos).2)):=(Below.refl _ _).alloc (Nat.le_refl _) _;have FB:Hid (zbt n (Utf8.decode s pos).1=true→zbz s=false):=fun h=>HN.out.trans (zhu hn hlt h);have FG:Hid (zbt n (Utf8.decode s pos).1=false→zbz s=nameFrom s (17 - (n+1)) (pos+(Utf8.decode s pos).2) (n+1)):=fun h=>HN.out.trans (zg3 hn hlt h);clear HN;by_cases h16:n=16
   ·subst h16;go_wp2;go_ret;exact⟨zab (FB.out rfl).symm,hbl2⟩
   ·have hb16:((n:Int)==16)=false:=beq_eq_false_iff_ne.2 (by omega);have hb16':(n==16)=false:=beq_eq_false_iff_ne.2 h16;have HB:Hid ((n==16)=false):=hb16';clear hb16';go_wp2_with (first
     | (go_at_call 128;refine (zqh _ _).mono ?_;rintro e w' ⟨rfl,rfl⟩)
     | (go_at_call 129;refine (zsq _ _).mono ?_;rintro e w' ⟨rfl,rfl⟩))
    ·have t1:za0 (Utf8.decode s pos).1=true:=by assumption
     go_roundw
     case rel=>exact⟨n+1,_,by omega,by go_num,FG.out (by simp[zbt,HB.out,t1]),rfl⟩
     case measure=>simp[intOf];omega
    ·have t1:¬za0 (Utf8.decode s pos).1=true:=by assumption
     have t2:n=0:=by assumption
     go_ret;exact⟨zab (FB.out (by simp[zbt,t1,t2])).symm,hbl2⟩
    ·have t1:¬za0 (Utf8.decode s pos).1=true:=by assumption
     have t2:¬n=0:=by assumption
     have t3:((n:Int)==0)=true∨(!zb2 (Utf8.decode s pos).1)=true:=by assumption
     go_ret;refine⟨zab (FB.out ?_).symm,hbl2⟩;rcases t3 with t3 | t3
     ·exact absurd (by simpa using t3) t2
     ·simp[zbt,t1,t3]
    ·have t1:¬za0 (Utf8.decode s pos).1=true:=by assumption
     have t2:¬n=0:=by assumption
     have t3:((n:Int)==0)=false∧(!zb2 (Utf8.decode s pos).1)=false:=by assumption
     have t4:zb2 (Utf8.decode s pos).1=true:=by simpa using t3.2
     go_roundw
     case rel=>exact⟨n+1,_,by omega,by go_num,FG.out (by simp[zbt,HB.out,t4,beq_eq_false_iff_ne.2 t2]),rfl⟩
     case measure=>simp[intOf];omega
  ·have hnx:=fun ty=>run_next_end (P:=Tryz.prog) w s pos ty hlt;go_wp2;go_ret;exact⟨zab (HN.out.trans (zg9 hn hlt)).symm,hbl⟩
def seen (k j a b:Nat):Bool:=decide (a<k)||(a==k&&decide (b<j))
def upTo (g:Grid)(k j a:Nat):Nat:=mask 8 (fun b=>g.le a b&&seen k j a b)
def dnTo (g:Grid)(k j b:Nat):Nat:=mask 8 (fun a=>g.le a b&&seen k j a b)
theorem zov (g:Grid)(k j a:Nat):upTo g k j a<256:=zns _
theorem zou (g:Grid)(k j b:Nat):dnTo g k j b<256:=zns _
theorem zwh (g:Grid)(k j a:Nat)(h:g.le k j=false):upTo g k (j+1) a=upTo g k j a:=by
 refine zbw 8 _ _ fun b _=>?_;by_cases ha:a=k
 ·subst ha;by_cases hb:b=j
  ·subst hb;simp[h]
  ·simp[seen,show (b<j+1)=(b<j) by simp;omega]
 ·simp[seen,beq_eq_false_iff_ne.2 ha]
theorem zws (g:Grid)(k j b:Nat)(h:g.le k j=false):dnTo g k (j+1) b=dnTo g k j b:=by
 refine zbw 8 _ _ fun a _=>?_;by_cases ha:a=k
 ·subst ha;by_cases hb:b=j
  ·subst hb;simp[h]
  ·simp[seen,show (b<j+1)=(b<j) by simp;omega]
 ·simp[seen,beq_eq_false_iff_ne.2 ha]
theorem zuq (g:Grid)(k j a:Nat)(hj:j<8)(h:g.le k j=true):upTo g k (j+1) a=if a=k then upTo g k j k ||| 2 ^ j else upTo g k j a:=by
 by_cases ha:a=k
 ·subst ha;rw[if_pos rfl];unfold upTo;rw[zo3 _ _ hj];refine zbw 8 _ _ fun b _=>?_;by_cases hb:b=j
  ·subst hb;simp[h,seen]
  ·simp[seen,beq_eq_false_iff_ne.2 hb,show (b<j+1)=(b<j) by simp;omega]
 ·rw[if_neg ha];exact zbw 8 _ _ fun b _=>by simp[seen,beq_eq_false_iff_ne.2 ha]
theorem zuv (g:Grid)(k j b:Nat)(hk:k<8)(h:g.le k j=true):dnTo g k (j+1) b=if b=j then dnTo g k j j ||| 2 ^ k else dnTo g k j b:=by
 by_cases hb:b=j
 ·subst hb;rw[if_pos rfl];unfold dnTo;rw[zo3 _ _ hk];refine zbw 8 _ _ fun a _=>?_;by_cases ha:a=k
  ·subst ha;simp[h,seen]
  ·simp[seen,beq_eq_false_iff_ne.2 ha]
 ·rw[if_neg hb];exact zbw 8 _ _ fun a _=>by simp[seen,show (b<j+1)=(b<j) by simp;omega]
theorem ztt (g:Grid)(k a:Nat):upTo g k (g.L k) a=upTo g (k+1) 0 a:=by
 refine zbw 8 _ _ fun b _=>?_;by_cases ha:a=k
 ·subst ha;by_cases hb:b<g.L a
  ·simp[seen,hb]
  ·simp[Grid.le,hb]
 ·simp[seen,beq_eq_false_iff_ne.2 ha,show (a<k+1)=(a<k) by simp;omega]
theorem zt6 (g:Grid)(k b:Nat):dnTo g k (g.L k) b=dnTo g (k+1) 0 b:=by
 refine zbw 8 _ _ fun a _=>?_;by_cases ha:a=k
 ·subst ha;by_cases hb:b<g.L a
  ·simp[seen,hb]
  ·simp[Grid.le,hb]
 ·simp[seen,beq_eq_false_iff_ne.2 ha,show (a<k+1)=(a<k) by simp;omega]
theorem zkt (n:Nat):mask n (fun _=>false)=0:=by
 induction n with
 | zero=>rfl
 | succ n ih=>simp[mask,ih]
theorem zp6 (g:Grid)(a:Nat):upTo g 0 0 a=0:=by
 unfold upTo;rw[zbw 8 _ (fun _=>false) (fun b _=>by simp[seen]),zkt]
theorem zpy (g:Grid)(b:Nat):dnTo g 0 0 b=0:=by
 unfold dnTo;rw[zbw 8 _ (fun _=>false) (fun b _=>by simp[seen]),zkt]
theorem OrdOwn.congr {w:World}{B n:Nat}{U D U' D':Nat→Nat}(h:OrdOwn w B n U D)(hU:∀i,U' i=U i)(hD:∀i,D' i=D i):OrdOwn w B n U' D' :=
 ⟨⟨h.at'.size,fun i hi=>by rw[hU];exact h.at'.up i hi,fun i hi=>by rw[hD];exact h.at'.dn i hi⟩,h.free⟩
theorem OrdOwn.set {w:World}{B n:Nat}{U D U' D':Nat→Nat}(h:OrdOwn w B n U D){k j x y:Nat}{p q:Int}(hk:k<8)(hj:j<8)(hp:p=x)(hq:q=y)
  (hU:∀i,U' i=if i=k then x else U i) (hD:∀i,D' i=if i=j then y else D i) :
  OrdOwn ((w.setCell ⟨B,1+k,none⟩ (.int .u64 p)).setCell ⟨B,9+j,none⟩ (.int .u64 q)).drew.drew B n U' D':=by
 subst hp hq;refine⟨⟨?_,fun i hi=>?_,fun i hi=>?_⟩,fun i hi=>?_⟩
 ·show ((w.setCell ⟨B,1+k,none⟩ _).setCell ⟨B,9+j,none⟩ _).cell? _=_
  rw[World.cell?_setCell_other _ _ _ _ (by simp <;> omega),World.cell?_setCell_other _ _ _ _ (by simp <;> omega)]
  exact h.at'.size
 ·show ((w.setCell ⟨B,1+k,none⟩ _).setCell ⟨B,9+j,none⟩ _).cell? _=_
  rw[World.cell?_setCell_other _ _ _ _ (by simp <;> omega),hU]
  by_cases e:i=k
  ·subst e;rw[if_pos rfl];exact World.cell?_setCell_same _ _ _ (h.at'.up i hi)
  ·rw[if_neg e,World.cell?_setCell_other _ _ _ _ (by simp <;> omega)];exact h.at'.up i hi
 ·show ((w.setCell ⟨B,1+k,none⟩ _).setCell ⟨B,9+j,none⟩ _).cell? _=_
  rw[hD];have hh:(w.setCell ⟨B,1+k,none⟩ (.int .u64 x)).cell? ⟨B,9+i,none⟩=some (.int .u64 (D i)):=by
   rw[World.cell?_setCell_other _ _ _ _ (by simp <;> omega)];exact h.at'.dn i hi
  by_cases e:i=j
  ·subst e;rw[if_pos rfl];exact World.cell?_setCell_same _ _ _ hh
  ·rw[if_neg e,World.cell?_setCell_other _ _ _ _ (by simp <;> omega)];exact hh
 ·show ((w.setCell ⟨B,1+k,none⟩ _).setCell ⟨B,9+j,none⟩ _).frozen? _=_
  rw[World.frozen?_setCell,World.frozen?_setCell];exact h.free i hi
theorem OrdOwn.start (w:World)(n:Nat)(t:TypeId):OrdOwn (w.alloc (.cells #[.int .i64 n,.int .u64 0,.int .u64 0,.int .u64 0,.int .u64 0,.int .u64 0,.int .u64 0,.int .u64 0,.int .u64 0,.int .u64 0,.int .u64 0,.int .u64 0,.int .u64 0,.int .u64 0,.int .u64 0,.int .u64 0,.int .u64 0] t)) w.heap.size n (fun _=>0) (fun _=>0):=by
 refine⟨⟨by simp,fun i hi=>?_,fun i hi=>?_⟩,fun i hi=>by simp⟩
 ·match i,hi with
  | 0,_ | 1,_ | 2,_ | 3,_ | 4,_ | 5,_ | 6,_ | 7,_=>simp
 ·match i,hi with
  | 0,_ | 1,_ | 2,_ | 3,_ | 4,_ | 5,_ | 6,_ | 7,_=>simp
theorem zsi (x j:Nat)(hx:x<256)(hj:j<8):bits .or .u64 (x:Int) (2 ^ j)=((x ||| 2 ^ j:Nat):Int):=by
 have hp:(2:Nat) ^ j≤2 ^ 7:=Nat.pow_le_pow_right (by omega) (by omega);have hc:((2:Int) ^ j)=((2 ^ j:Nat):Int):=by simp
 rw[hc,or_u8 _ _ hx (by omega)]
theorem zl8 (g:Grid){k j:Nat}(hk:k<g.len)(hj:j<g.L k){r:Bool}(h:g.B k j=r):g.le k j=r:=by simp[Grid.le,hk,hj,h]
theorem zob (g:Grid)(w:World)(hg:g.At w)(h8:g.len≤8)(hL:∀r,r<g.len→g.L r≤8) :
  Calls Tryz.prog 49 #[.slice g.ao g.len g.cap] w fun e w'=>e=.returned (.pointer (some ⟨w.heap.size,0,none⟩))∧OrdAt w' w.heap.size g.len (upTo g g.len 0) (dnTo g g.len 0)∧Below w.heap.size w w':=by
 go_enter Tryz.func49,Tryz.ntmps49
 go_wp2;go_loopw [14] (fun i wr=>∃k:Nat,k≤g.len∧i=.int .i64 k∧OrdOwn wr w.heap.size g.len (upTo g k 0) (dnTo g k 0)∧Below w.heap.size w wr) (fun i _=>g.len - (intOf i).toNat)
 case atStart =>
  exact⟨0,Nat.zero_le _,rfl,(OrdOwn.start w g.len _).congr (zp6 g) (zpy g),(Below.refl _ _).alloc (Nat.le_refl _) _⟩
 case round =>
  obtain⟨k,hk,rfl,hown,hbl⟩:=hrel;have HO:Hid (OrdOwn wr w.heap.size g.len (upTo g k 0) (dnTo g k 0)):=hown;clear hown;have hg1:=(hg.kept hbl);by_cases hlt:k<g.len
  ·have r1:=hg1.row k hlt;have r2:=hg1.nil (by omega);have L8:=hL k hlt;go_wp2;go_loopw [21] (fun i wr=>∃j:Nat,j≤g.L k∧i=.int .i64 j∧OrdOwn wr w.heap.size g.len (upTo g k j) (dnTo g k j)∧Below w.heap.size w wr) (fun i _=>g.L k - (intOf i).toNat)
   case atStart=>exact⟨0,Nat.zero_le _,rfl,HO.out,hbl⟩
   case round =>
    obtain⟨j,hj,rfl,hown2,hbl2⟩:=hrel;clear HO r1 hg1;have hg2:=(hg.kept hbl2);by_cases hjl:j<g.L k
    ·have a1:=hg2.adr k hlt (by omega);have a2:=hg2.cell k hlt j hjl;have u1:=hown2.at'.up k (by omega);have d1:=hown2.at'.dn j (by omega);have f1:=hown2.free (1+k) (by omega);have f2:=hown2.free (9+j) (by omega);have HO2:Hid (OrdOwn wr w.heap.size g.len (upTo g k j) (dnTo g k j)):=hown2;have k8:(k:Int)<8:=by omega
     have j8:(j:Int)<8:=by omega
     have s1:=shl8 k (by omega);have s2:=shl8 j (by omega);clear hown2 hg2 r2;cases hbit:g.B k j
     ·go_wp2;go_roundw
      case rel=>exact⟨j+1,by omega,by go_num,HO2.out.congr (fun a=>zwh g k j a (zl8 g hlt hjl hbit)) (fun a=>zws g k j a (zl8 g hlt hjl hbit)),hbl2⟩
      case measure=>simp[intOf];omega
     ·go_wp2
      go_region
      go_wp2
      go_region
      go_wp2;go_roundw
      case rel =>
       exact⟨j+1,by omega,by go_num,HO2.out.set (by omega) (by omega) (zsi _ _ (zov _ _ _ _) (by omega)) (zsi _ _ (zou _ _ _ _) (by omega)) (fun a=>zuq g k j a (by omega) (zl8 g hlt hjl hbit)) (fun a=>zuv g k j a (by omega) (zl8 g hlt hjl hbit)),
        (((hbl2.setCell (Nat.le_refl _) _).setCell (Nat.le_refl _) _).drew).drew⟩
      case measure=>simp[intOf];omega
    ·have e:j=g.L k:=by omega
     subst e;have HO2:Hid (OrdOwn wr w.heap.size g.len (upTo g k (g.L k)) (dnTo g k (g.L k))):=hown2;clear hown2;go_wp2;go_roundw
     case rel=>exact⟨k+1,by omega,by go_num,HO2.out.congr (fun a=>(ztt g k a).symm) (fun a=>(zt6 g k a).symm),hbl2⟩
     case measure=>simp[intOf];omega
  ·have e:k=g.len:=by omega
   have HO3:Hid (OrdAt wr w.heap.size g.len (upTo g g.len 0) (dnTo g g.len 0)):=by rw[←e];exact e ▸ HO.out.at'
   clear HO;go_wp2;go_ret;exact⟨rfl,HO3.out,hbl⟩
theorem zn4 (B n:Nat)(U D:Nat→Nat)(w:World)(hn:n≤8)(ho:OrdAt w B n U D)(hU:∀i,i<8→U i<256)(hD:∀i,i<8→D i<256) :
  Calls Tryz.prog 51 #[.pointer (some ⟨B,0,none⟩)] w fun e w'=>e=.returned (.bool (bddB n U D))∧Below w.heap.size w w':=by
 have c0:=ho.size;go_enter Tryz.func51,Tryz.ntmps51
 go_wp2;go_loopw [9] (fun i wr=>∃k:Nat,k≤n∧i=.int .i64 k∧(∀a,a<k→∀b,b<a→zcz n U D a b=true)∧Below w.heap.size w wr) (fun i _=>n - (intOf i).toNat)
 case atStart=>exact⟨0,Nat.zero_le _,rfl,fun _ h=>absurd h (Nat.not_lt_zero _),Below.refl _ _⟩
 case round =>
  obtain⟨k,hk,rfl,hdone,hbl⟩:=hrel;have HD:Hid (∀a,a<k→∀b,b<a→zcz n U D a b=true):=hdone;clear hdone c0;by_cases hlt:k<n
  ·go_wp2;go_loopw [13] (fun i w2=>∃j:Nat,j≤k∧i=.int .i64 j∧(∀b,b<j→zcz n U D k b=true)∧Below w.heap.size w w2) (fun i _=>k - (intOf i).toNat)
   case atStart=>exact⟨0,Nat.zero_le _,rfl,fun _ h=>absurd h (Nat.not_lt_zero _),hbl⟩
   case round =>
    obtain⟨j,hj,rfl,hdone2,hbl2⟩:=hrel;have HD2:Hid (∀b,b<j→zcz n U D k b=true):=hdone2;clear hdone2;have ho2:=ho.kept hbl2;by_cases hjk:j<k
    ·have A1:OrdAt (wr.alloc (.cells #[.int .i64 k,.int .i64 j] 3)) B n U D:=ho2.kept ((Below.refl _ _).alloc (Nat.le_refl _) _);have C1:=zhb wr (.int .i64 k) (.int .i64 j) 3;cases h1:(zbh n U k j==-1)
     ·go_wp2_with fail
      refine (zhq B n U D _ k j _ hn A1 hU (by omega) (by omega) C1.1 C1.2).mono ?_;rintro e w3 ⟨rfl,hdr3⟩;have hbl3:Below w.heap.size w w3:=(hbl2.alloc hbl2.size _).trans (hdr3.below _);have ho3:=ho.kept hbl3;clear hdr3 A1 C1;have A2:OrdAt (w3.alloc (.cells #[.int .i64 k,.int .i64 j] 3)) B n U D:=ho3.kept ((Below.refl _ _).alloc (Nat.le_refl _) _);have C2:=zhb w3 (.int .i64 k) (.int .i64 j) 3;go_wp2_with fail
      refine (zs5 B n U D _ k j _ hn A2 hD (by omega) (by omega) C2.1 C2.2).mono ?_;rintro e w4 ⟨rfl,hdr4⟩;have hbl4:Below w.heap.size w w4:=(hbl3.alloc hbl3.size _).trans (hdr4.below _);clear hdr4 A2 C2;cases h2:(zbh n D k j==-1)
      ·go_wp2;go_roundw
       case rel =>
        refine⟨j+1,by omega,by go_num,fun b hb=>?_,hbl4⟩;rcases Nat.lt_succ_iff_lt_or_eq.1 hb with h | h
        ·exact HD2.out b h
        ·subst h;simp[zcz,bne,h1,h2]
       case measure=>simp[intOf];omega
      ·go_wp2;go_ret;exact⟨zab (zq2 hlt hjk (by simp[zcz,bne,h2])).symm,hbl4⟩
     ·go_wp2_with fail
      refine (zhq B n U D _ k j _ hn A1 hU (by omega) (by omega) C1.1 C1.2).mono ?_;rintro e w3 ⟨rfl,hdr3⟩;have hbl3:Below w.heap.size w w3:=(hbl2.alloc hbl2.size _).trans (hdr3.below _);clear hdr3 A1 C1;go_wp2;go_ret;exact⟨zab (zq2 hlt hjk (by simp[zcz,bne,h1])).symm,hbl3⟩
    ·have e:j=k:=by omega
     subst e;go_wp2;go_roundw
     case rel =>
      refine⟨j+1,by omega,by go_num,fun a ha b hb=>?_,hbl2⟩;rcases Nat.lt_succ_iff_lt_or_eq.1 ha with h | h
      ·exact HD.out a h b hb
      ·subst h;exact HD2.out b hb
     case measure=>simp[intOf];omega
  ·have e:k=n:=by omega
   subst e;go_wp2;go_ret;exact⟨zab (zpg HD.out).symm,hbl⟩
end
end Go.Proofs.YtfobijdkoeifjaaGreatDoor
