import Derived.Test.YtfobijdkoeifjaaGreatDoorP1
import Derived.Deep.OwnRows
import Derived.Deep.RegionWith
set_option maxRecDepth 100000
set_option maxHeartbeats 32000000
namespace Go.Proofs.YtfobijdkoeifjaaGreatDoor
section
open Go.RowKit
def za1 (g:Grid)(n:Nat):Bool:=(g.len==n)&&decide (∀r,r<g.len→g.L r=n)
def idxFrom (s:Nat→ByteArray)(v:ByteArray):Nat→Nat→Int
 | 0,_=>-1
 | k+1,i=>if v.toList==(s i).toList then i else idxFrom s v k (i+1)
def zco (s:Nat→ByteArray)(n:Nat)(v:ByteArray):Bool:=decide (∃i,i<n∧(v.toList==(s i).toList)=true)
def zay (g:Strs):Bool:=decide (0<g.len∧g.len≤8)&&decide (∀i,i<g.len→(zbz (g.s i)&&!zco g.s i (g.s i))=true)
theorem zqr (g:Grid)(n:Nat)(w:World)(hg:g.At w) :
  Calls Tryz.prog 48 #[.slice g.ao g.len g.cap,.int .i64 n] w fun e w'=>e=.returned (.bool (za1 g n))∧w'=w:=by
 have hb:=hg.bound;go_enter Tryz.func48,Tryz.ntmps48
 by_cases hl:g.len=n
 ·have hbne:((g.len:Int) != n)=false:=by simp[hl]
  have HL:Hid (g.len=n):=hl;clear hl;go_wp2
  go_loop [13] (fun i=>∃k:Nat,k≤g.len∧i=.int .i64 k∧∀r,r<k→g.L r=n) (fun i=>g.len - (intOf i).toNat)
  case atStart=>exact⟨0,Nat.zero_le _,rfl,fun _ h=>absurd h (Nat.not_lt_zero _)⟩
  case round =>
   obtain⟨k,hk,rfl,hdone⟩:=hrel;have HD:Hid (∀r,r<k→g.L r=n):=hdone;clear hdone;by_cases hlt:k<g.len
   ·have r1:=hg.row k hlt;have r2:=hg.nil (by omega);have r3:=hg.lbound k hlt;go_wp2
    ·have t:((g.L k:Int) != n)=true:=by assumption
     go_ret;refine⟨zab (Eq.symm ?_),rfl⟩;unfold za1;rw[Bool.and_eq_false_iff]
     right
     rw[decide_eq_false_iff_not];intro hh;rw[hh k hlt] at t;simp at t
    ·have t:((g.L k:Int) != n)=false:=by assumption
     go_round
     case rel =>
      refine⟨k+1,by omega,by go_num,fun r hr=>?_⟩;rcases Nat.lt_succ_iff_lt_or_eq.1 hr with h | h
      ·exact HD.out r h
      ·subst h;have t':((g.L r:Int))=n:=by simpa using t
       omega
     case measure=>simp[intOf];omega
   ·have e:k=g.len:=by omega
    have HE:Hid (k=g.len):=e;clear e;go_wp2;go_ret;refine⟨zab (Eq.symm ?_),rfl⟩;unfold za1;rw[HL.out];simp
    intro r hr;exact HD.out r (by have:=HE.out;have:=HL.out;omega)
 ·have hbne:((g.len:Int) != n)=true:=by rw[bne_iff_ne];omega
  go_wp2;go_ret;exact⟨zab (by simp[za1,beq_eq_false_iff_ne.2 hl]),rfl⟩
theorem zsd (g:Strs)(n cap:Nat)(v:ByteArray)(w:World)(hg:g.At w)(hn:n≤g.len)(ao:Option Addr)(hao:0<n→ao=some ⟨g.b,g.o,none⟩) :
  Calls Tryz.prog 130 #[.slice ao n cap,.string v] w fun e w'=>e=.returned (.int .i64 (idxFrom g.s v n 0))∧w'=w:=by
 have hb:=hg.bound;go_enter Tryz.func130,Tryz.ntmps130
 go_wp2
 go_loop [8] (fun i=>∃k:Nat,k≤n∧i=.int .i64 k∧idxFrom g.s v n 0=idxFrom g.s v (n - k) k) (fun i=>n - (intOf i).toNat)
 case atStart=>exact⟨0,Nat.zero_le _,rfl,rfl⟩
 case round =>
  obtain⟨k,hk,rfl,hdone⟩:=hrel;have HD:Hid (idxFrom g.s v n 0=idxFrom g.s v (n - k) k):=hdone;clear hdone;by_cases hlt:k<n
  ·have r1:=hg.cell k (by omega);have r2:=hao (by omega);go_wp2
   ·have t:(v.toList==(g.s k).toList)=true:=by assumption
    go_ret;refine⟨zau ?_,rfl⟩;rw[HD.out];obtain⟨m,hm⟩:∃m,n - k=m+1:=⟨n - k - 1,by omega⟩;rw[hm,idxFrom,t];rfl
   ·have t:(v.toList==(g.s k).toList)=false:=by assumption
    go_round
    case rel =>
     refine⟨k+1,by omega,by go_num,?_⟩;rw[HD.out];obtain⟨m,hm⟩:∃m,n - k=m+1:=⟨n - k - 1,by omega⟩;rw[hm,idxFrom,t,show n - (k+1)=m by omega];rfl
    case measure=>simp[intOf];omega
  ·have e:n - k=0:=by omega
   have HE:Hid (n - k=0):=e;clear e;go_wp2;go_ret;exact⟨zau (by rw[HD.out,HE.out];rfl),rfl⟩
theorem zj5 (s:Nat→ByteArray)(v:ByteArray):∀(k i:Nat),0≤idxFrom s v k i↔∃j,i≤j∧j<i+k∧(v.toList==(s j).toList)=true
 | 0,i=>by
  simp only[idxFrom]
  constructor
  ·intro h;omega
  ·rintro ⟨j,h1,h2,_⟩;omega
 | k+1,i=>by
  simp only[idxFrom];by_cases h:(v.toList==(s i).toList)=true
  ·rw[if_pos h]
   constructor
   ·intro _;exact⟨i,by omega,by omega,h⟩
   ·intro _;omega
  ·rw[if_neg h,zj5 s v k (i+1)]
   constructor
   ·rintro ⟨j,h1,h2,h3⟩;exact⟨j,by omega,by omega,h3⟩
   ·rintro ⟨j,h1,h2,h3⟩;by_cases e:j=i
    ·subst e;exact absurd h3 h
    ·exact⟨j,by omega,by omega,h3⟩
theorem zrh (s:Nat→ByteArray)(n:Nat)(v:ByteArray):decide (0≤idxFrom s v n 0)=zco s n v:=by
 unfold zco;rw[decide_eq_decide,zj5]
 constructor
 ·rintro ⟨j,_,h2,h3⟩;exact⟨j,by omega,h3⟩
 ·rintro ⟨j,h2,h3⟩;exact⟨j,by omega,by omega,h3⟩
theorem zni (g:Strs)(n cap:Nat)(v:ByteArray)(w:World)(hg:g.At w)(hn:n≤g.len)(ao:Option Addr)(hao:0<n→ao=some ⟨g.b,g.o,none⟩) :
  Calls Tryz.prog 89 #[.slice ao n cap,.string v] w fun e w'=>e=.returned (.bool (zco g.s n v))∧w'=w:=by
 have H:Hid (decide (0≤idxFrom g.s v n 0)=zco g.s n v):=zrh g.s n v;go_enter Tryz.func89,Tryz.ntmps89
 go_wp2_with (go_at_call 130;refine (zsd g n cap v _ hg hn ao hao).mono ?_;rintro e w' ⟨rfl,rfl⟩);go_ret;exact⟨zab H.out,rfl⟩
theorem zjs (g:Strs)(w:World)(hg:g.At w) :
  Calls Tryz.prog 47 #[.slice g.ao g.len g.cap] w fun e w'=>e=.returned (.bool (zay g))∧Below w.heap.size w w':=by
 have hb:=hg.bound;by_cases h0:g.len=0
 ·have e1:((g.len:Int)==0)=true:=by simp[h0]
  have HF:Hid (zay g=false):=by show zay g=false;simp[zay,h0]
  clear h0;go_enter Tryz.func47,Tryz.ntmps47
  go_wp2;go_ret;exact⟨zab HF.out.symm,Below.refl _ _⟩
 have e1:((g.len:Int)==0)=false:=beq_eq_false_iff_ne.2 (by omega);by_cases h8:g.len≤8
 ·rw[hg.nil (by omega)];go_enter Tryz.func47,Tryz.ntmps47
  go_wp2;go_loopw [15] (fun i wr=>∃k:Nat,k≤g.len∧i=.int .i64 k∧(∀i,i<k→(zbz (g.s i)&&!zco g.s i (g.s i))=true)∧Below w.heap.size w wr) (fun i _=>g.len - (intOf i).toNat)
  case atStart=>exact⟨0,Nat.zero_le _,rfl,fun _ h=>absurd h (Nat.not_lt_zero _),Below.refl _ _⟩
  case round =>
   obtain⟨k,hk,rfl,hdone,hbl⟩:=hrel;have HD:Hid (∀i,i<k→(zbz (g.s i)&&!zco g.s i (g.s i))=true):=hdone;clear hdone;have hg1:=hg.kept hbl;by_cases hlt:k<g.len
   ·have r1:=hg1.cell k hlt;go_wp2_with fail
    refine (zuc _ _).mono ?_;rintro e w1 ⟨rfl,hb1⟩;have hbl1:Below w.heap.size w w1:=hbl.trans (hb1.mono hbl.size);have hg2:=hg.kept hbl1;clear hb1 r1;cases hnm:zbz (g.s k)
    ·go_wp2;go_ret;refine⟨zab (Eq.symm ?_),hbl1⟩;unfold zay;rw[Bool.and_eq_false_iff]
     right
     rw[decide_eq_false_iff_not];intro hh;have:=hh k hlt;simp[hnm] at this
    ·have hkc:k≤g.cap:=by have:=hg.lc;omega
     go_wp2_with fail
     refine (zni g k g.cap (g.s k) _ hg2 (by omega) _ (fun _=>rfl)).mono ?_;rintro e w2 ⟨rfl,rfl⟩;cases hh:zco g.s k (g.s k)
     ·go_wp2;go_roundw
      case rel =>
       refine⟨k+1,by omega,by go_num,fun i hi=>?_,hbl1⟩;rcases Nat.lt_succ_iff_lt_or_eq.1 hi with h | h
       ·exact HD.out i h
       ·subst h;rw[hnm,hh];rfl
      case measure=>simp[intOf];omega
     ·go_wp2;go_ret;refine⟨zab (Eq.symm ?_),hbl1⟩;unfold zay;rw[Bool.and_eq_false_iff]
      right
      rw[decide_eq_false_iff_not];intro hq;have:=hq k hlt;simp[hnm,hh] at this
   ·have e:k=g.len:=by omega
    have HE:Hid (k=g.len):=e;clear e;go_wp2;go_ret;refine⟨zab (Eq.symm ?_),hbl⟩;unfold zay;rw[Bool.and_eq_true,decide_eq_true_eq,decide_eq_true_eq];exact⟨⟨by omega,h8⟩,fun i hi=>HD.out i (by have:=HE.out;omega)⟩
 ·have e2:decide (8<(g.len:Int))=true:=by simp;omega
  go_enter Tryz.func47,Tryz.ntmps47
  go_wp2;go_ret;exact⟨zab (by simp[zay,h8]),Below.refl _ _⟩
def Grid.U (g:Grid):Nat→Nat:=upTo g g.len 0
def Grid.D (g:Grid):Nat→Nat:=dnTo g g.len 0
theorem Grid.U_lt (g:Grid)(i:Nat):g.U i<256:=zov _ _ _ _
theorem Grid.D_lt (g:Grid)(i:Nat):g.D i<256:=zou _ _ _ _
def zae (n:Strs)(g:Grid):Bool:=(zay n&&za1 g n.len)&&(zek g.len g.U g.D&&bddB g.len g.U g.D)
theorem zgh {n:Strs}(h:zay n=true):0<n.len∧n.len≤8:=by
 unfold zay at h;rw[Bool.and_eq_true,decide_eq_true_eq] at h;exact h.1
theorem zdg {g:Grid}{n:Nat}(h:za1 g n=true):g.len=n∧∀r,r<g.len→g.L r=n:=by
 unfold za1 at h;rw[Bool.and_eq_true,decide_eq_true_eq,beq_iff_eq] at h;exact h
theorem zdt (g:Grid)(w:World)(hg:g.At w)(h8:g.len≤8)(hL:∀r,r<g.len→g.L r≤8) :
  Calls Tryz.prog 49 #[.slice g.ao g.len g.cap] w fun e w'=>e=.returned (.pointer (some ⟨w.heap.size,0,none⟩))∧OrdAt w' w.heap.size g.len g.U g.D∧Below w.heap.size w w':=zob g w hg h8 hL
structure Box2 (w w1:World)(u v:Value):Prop where
 bl:Below w.heap.size w w1
 lt:w.heap.size<w1.heap.size
 c0:w1.cell? ⟨w.heap.size,0,none⟩=some u
 c1:w1.cell? ⟨w.heap.size,1,none⟩=some v
 f0:w1.frozen? ⟨w.heap.size,0,none⟩=false
 f1:w1.frozen? ⟨w.heap.size,1,none⟩=false
theorem Box2.start (w:World)(u v:Value)(t:TypeId):Box2 w (w.alloc (.cells #[u,v] t)) u v :=
 ⟨(Below.refl _ _).alloc (Nat.le_refl _) _,by simp,(zhb w u v t).1,(zhb w u v t).2,by simp,by simp⟩
theorem Box2.step {w w1 w2:World}{u v:Value}(h:Box2 w w1 u v)(k:Below w1.heap.size w1 w2):Box2 w w2 u v :=
 ⟨h.bl.trans (k.mono h.bl.size),Nat.lt_of_lt_of_le h.lt k.size,(k.cell (p:=⟨w.heap.size,0,none⟩) h.lt).trans h.c0,(k.cell (p:=⟨w.heap.size,1,none⟩) h.lt).trans h.c1,
  (k.frozen (p:=⟨w.heap.size,0,none⟩) h.lt).trans h.f0,(k.frozen (p:=⟨w.heap.size,1,none⟩) h.lt).trans h.f1⟩
theorem zdc (n:Strs)(g:Grid)(w:World)(hn:n.At w)(hg:g.At w) :
  Calls Tryz.prog 19 #[.agg #[.slice n.ao n.len n.cap,.slice g.ao g.len g.cap]] w fun e w'=>e=.returned (.bool (zae n g))∧Below w.heap.size w w':=by
 have hnb:=hn.bound;have B0:=Box2.start w (.slice n.ao n.len n.cap) (.slice g.ao g.len g.cap) 25;go_enter Tryz.func19,Tryz.ntmps19
 go_wp2_with fail
 refine (zjs n _ (hn.kept B0.bl)).mono ?_;rintro e w1 ⟨rfl,hb1⟩;have B1:=B0.step hb1;clear hb1 B0;have c0:=B1.c0;have c1:=B1.c1;cases h1:zay n
 ·go_wp2;go_ret;exact⟨zab (by simp[zae,h1]),B1.bl⟩
 go_wp2_with fail
 refine (zqr g n.len _ (hg.kept B1.bl)).mono ?_;rintro e w2 ⟨rfl,rfl⟩;cases h2:za1 g n.len
 ·go_wp2;go_ret;exact⟨zab (by simp[zae,h2]),B1.bl⟩
 have l1:=zgh h1;have l2:=zdg h2;have L2:Hid (g.len=n.len∧∀r,r<g.len→g.L r=n.len):=l2;clear l2;go_wp2_with fail
 refine (zdt g _ (hg.kept B1.bl) (by have:=L2.out.1;omega) (fun r hr=>by rw[L2.out.2 r hr];exact l1.2)).mono ?_
 rintro e w3 ⟨rfl,ho,hb3⟩;have B2:=B1.step hb3;clear hb3 c0 c1;go_wp2_with fail
 refine (zn5 _ g.len g.U g.D _ (by have:=L2.out.1;omega) ho (fun i _=>g.U_lt i) (fun i _=>g.D_lt i)).mono ?_
 rintro e w4 ⟨rfl,hdr⟩;have B3:=B2.step (hdr.below _);have ho4:=ho.dr hdr;clear hdr;cases h3:zek g.len g.U g.D
 ·go_wp2;go_ret;exact⟨zab (by simp[zae,h3]),B3.bl⟩
 go_wp2_with fail
 refine (zn4 _ g.len g.U g.D _ (by have:=L2.out.1;omega) ho4 (fun i _=>g.U_lt i) (fun i _=>g.D_lt i)).mono ?_
 rintro e w5 ⟨rfl,hb5⟩;have B4:=B3.step hb5;go_wp2;go_ret;exact⟨zab (by simp[zae,h1,h2,h3]),B4.bl⟩
def labB (n:Strs)(a:Int):Bool:=decide (0≤a)&&decide (a<n.len)
def zh9 (n:Strs)(ls:Nat→Int)(ll:Nat):Bool:=decide (∀j,j<ll→labB n (ls j)=true)
theorem zon {n:Strs}{ls:Nat→Int}{ll j:Nat}(hj:j<ll)(h:labB n (ls j)=false):zh9 n ls ll=false:=by
 unfold zh9;rw[decide_eq_false_iff_not];intro hh;rw[hh j hj] at h;exact Bool.noConfusion h
theorem zl4 (n:Strs)(g:Grid)(lb lo ll lc:Nat)(ls:Nat→Int)(w:World)(hn:n.At w)(hg:g.At w)
  (hll:ll≤8) (hcl:∀j,j<ll→w.cell? ⟨lb,lo+j,none⟩=some (.int .i64 (ls j))) :
  Calls Tryz.prog 46 #[.agg #[.slice n.ao n.len n.cap,.slice g.ao g.len g.cap],.slice (some ⟨lb,lo,none⟩) ll lc] w fun e w'=>e=.returned (.bool (zh9 n ls ll&&zae n g))∧Below w.heap.size w w':=by
 have hnb:=hn.bound;have B0:=Box2.start w (.slice n.ao n.len n.cap) (.slice g.ao g.len g.cap) 25;have hcl1:∀j,j<ll→(w.alloc (.cells #[.slice n.ao n.len n.cap,.slice g.ao g.len g.cap] 25)).cell? ⟨lb,lo+j,none⟩=some (.int .i64 (ls j)):=fun j hj=>(B0.bl.cell (p:=⟨lb,lo+j,none⟩) (zde (hcl j hj))).trans (hcl j hj);go_enter Tryz.func46,Tryz.ntmps46
 go_wp2
 go_loop [9] (fun i=>∃k:Nat,k≤ll∧i=.int .i64 k∧∀j,j<k→labB n (ls j)=true) (fun i=>ll - (intOf i).toNat)
 case atStart=>exact⟨0,Nat.zero_le _,rfl,fun _ h=>absurd h (Nat.not_lt_zero _)⟩
 case round =>
  obtain⟨k,hk,rfl,hdone⟩:=hrel;have HD:Hid (∀j,j<k→labB n (ls j)=true):=hdone;clear hdone;by_cases hlt:k<ll
  ·have r1:=hcl1 k hlt;go_wp2
   ·have t:ls k<0∨(n.len:Int)≤ls k:=by assumption
    go_ret;exact⟨zab (by rw[zon hlt (by unfold labB;rw[Bool.and_eq_false_iff,decide_eq_false_iff_not,decide_eq_false_iff_not];omega)];rfl),B0.bl⟩
   ·have t:0≤ls k∧ls k<(n.len:Int):=by assumption
    go_round
    case rel =>
     refine⟨k+1,by omega,by go_num,fun j hj=>?_⟩;rcases Nat.lt_succ_iff_lt_or_eq.1 hj with h | h
     ·exact HD.out j h
     ·subst h;simp[labB,t]
    case measure=>simp[intOf];omega
   ·have t:ls k<0:=by assumption
    go_ret;exact⟨zab (by rw[zon hlt (by unfold labB;rw[Bool.and_eq_false_iff,decide_eq_false_iff_not];omega)];rfl),B0.bl⟩
  ·have e:k=ll:=by omega
   have HL:Hid (zh9 n ls ll=true):=by subst e;exact decide_eq_true HD.out
   clear e HD;go_wp2_with fail
   refine (zdc n g _ (hn.kept B0.bl) (hg.kept B0.bl)).mono ?_;rintro e w1 ⟨rfl,hb1⟩;have B1:=B0.step hb1;go_wp2;go_ret;exact⟨zab (by rw[HL.out];rfl),B1.bl⟩
def two (a b:Int):Nat→Int:=fun j=>if j=0 then a else b
theorem ztk (n:Strs)(a b:Int):zh9 n (two a b) 2=(labB n a&&labB n b):=by
 unfold zh9;rw[Bool.eq_iff_iff,decide_eq_true_eq,Bool.and_eq_true]
 constructor
 ·intro h;exact⟨h 0 (by omega),h 1 (by omega)⟩
 ·rintro ⟨h1,h2⟩ j hj
  match j,hj with
  | 0,_=>exact h1
  | 1,_=>exact h2
theorem zms (n:Strs)(g:Grid)(lb:Nat)(a b:Int)(w:World)(hn:n.At w)(hg:g.At w)(h0:w.cell? ⟨lb,0,none⟩=some (.int .i64 a))(h1:w.cell? ⟨lb,1,none⟩=some (.int .i64 b)) :
  Calls Tryz.prog 46 #[.agg #[.slice n.ao n.len n.cap,.slice g.ao g.len g.cap],.slice (some ⟨lb,0,none⟩) 2 2] w fun e w'=>e=.returned (.bool ((labB n a&&labB n b)&&zae n g))∧Below w.heap.size w w':=by
 rw[←ztk];refine zl4 n g lb 0 2 2 (two a b) w hn hg (by omega) (fun j hj=>?_)
 match j,hj with
 | 0,_=>exact h0
 | 1,_=>exact h1
def leqB (n:Strs)(g:Grid)(a b:Int):Bool:=((labB n a&&labB n b)&&zae n g)&&g.B a.toNat b.toNat
def zb3 (n:Strs)(g:Grid)(a b:Int):Int:=if ((labB n a&&labB n b)&&zae n g)=true then zbh g.len g.U a.toNat b.toNat else -1
def botI (n:Strs)(g:Grid):Int:=if zae n g=true then near g.U (2 ^ g.len - 1) else -1
def topI (n:Strs)(g:Grid):Int:=if zae n g=true then near g.D (2 ^ g.len - 1) else -1
theorem zas {n:Strs}{g:Grid}(h:zae n g=true):g.len=n.len∧0<n.len∧n.len≤8∧∀r,r<g.len→g.L r=n.len:=by
 unfold zae at h;rw[Bool.and_eq_true,Bool.and_eq_true] at h;have h1:=zgh h.1.1;have h2:=zdg h.1.2;exact⟨h2.1,h1.1,h1.2,h2.2⟩
theorem zii {n:Strs}{a:Int}(h:labB n a=true):∃k:Nat,a=k∧k<n.len:=by
 unfold labB at h;rw[Bool.and_eq_true,decide_eq_true_eq,decide_eq_true_eq] at h;exact⟨a.toNat,by omega,by omega⟩
theorem zh1 (w:World)(o:Obj)(u v:Value)(t:TypeId):((w.alloc o).alloc (.cells #[u,v] t)).cell? ⟨w.heap.size+1,0,none⟩=some u∧((w.alloc o).alloc (.cells #[u,v] t)).cell? ⟨w.heap.size+1,1,none⟩=some v:=by
 simp
theorem zkp (n:Strs)(g:Grid)(a b:Int)(w:World)(hn:n.At w)(hg:g.At w) :
  Calls Tryz.prog 17 #[.agg #[.slice n.ao n.len n.cap,.slice g.ao g.len g.cap],.int .i64 a,.int .i64 b] w fun e w'=>e=.returned (.bool (leqB n g a b))∧Below w.heap.size w w':=by
 have B0:=(Box2.start w (.slice n.ao n.len n.cap) (.slice g.ao g.len g.cap) 25).step ((Below.refl _ _).alloc (Nat.le_refl _) (.cells #[.int .i64 a,.int .i64 b] 3));have C0:=zh1 w (.cells #[.slice n.ao n.len n.cap,.slice g.ao g.len g.cap] 25) (.int .i64 a) (.int .i64 b) 3;go_enter Tryz.func17,Tryz.ntmps17
 go_wp2_with fail
 refine (zms n g _ a b _ (hn.kept B0.bl) (hg.kept B0.bl) C0.1 C0.2).mono ?_;rintro e w1 ⟨rfl,hb1⟩;have B1:=B0.step hb1;clear hb1 B0 C0;have c1:=B1.c1;cases h1:((labB n a&&labB n b)&&zae n g)
 ·go_wp2;go_ret;exact⟨zab (by simp[leqB,h1]),B1.bl⟩
 ·have HL:Hid (leqB n g a b=g.B a.toNat b.toNat):=by show leqB n g a b=_;simp[leqB,h1]
  rw[Bool.and_eq_true,Bool.and_eq_true] at h1;obtain⟨p1,p2,p3,p4⟩:=zas h1.2;obtain⟨x,rfl,hx⟩:=zii h1.1.1;obtain⟨y,rfl,hy⟩:=zii h1.1.2;have hg1:=hg.kept B1.bl;have r1:=hg1.row x (by omega);have r2:=hg1.nil (by omega);have r3:=p4 x (by omega);have r4:=hg1.adr x (by omega) (by omega);have r5:=hg1.cell x (by omega) y (by omega);have P1:Hid (g.len=n.len∧∀r,r<g.len→g.L r=n.len):=⟨p1,p4⟩;have i1:(x:Int)<g.len:=by omega
  have i2:(y:Int)<g.L x:=by omega
  clear p1 p4 h1 r3;go_wp2;go_ret;exact⟨zab (by rw[HL.out];simp),B1.bl⟩
theorem ze5 (n:Strs)(g:Grid)(a b:Int)(w:World)(hn:n.At w)(hg:g.At w) :
  Calls Tryz.prog 52 #[.agg #[.slice n.ao n.len n.cap,.slice g.ao g.len g.cap],.int .i64 a,.int .i64 b] w fun e w'=>e=.returned (.int .i64 (zb3 n g a b))∧Below w.heap.size w w':=by
 have B0:=(Box2.start w (.slice n.ao n.len n.cap) (.slice g.ao g.len g.cap) 25).step ((Below.refl _ _).alloc (Nat.le_refl _) (.cells #[.int .i64 a,.int .i64 b] 3));have C0:=zh1 w (.cells #[.slice n.ao n.len n.cap,.slice g.ao g.len g.cap] 25) (.int .i64 a) (.int .i64 b) 3;go_enter Tryz.func52,Tryz.ntmps52
 go_wp2_with fail
 refine (zms n g _ a b _ (hn.kept B0.bl) (hg.kept B0.bl) C0.1 C0.2).mono ?_;rintro e w1 ⟨rfl,hb1⟩;have B1:=B0.step hb1;clear hb1 B0 C0;have c1:=B1.c1;cases h1:((labB n a&&labB n b)&&zae n g)
 ·go_wp2;go_ret;exact⟨zau (by simp[zb3,h1]),B1.bl⟩
 ·have HL:Hid (zb3 n g a b=zbh g.len g.U a.toNat b.toNat):=by show zb3 n g a b=_;unfold zb3;rw[if_pos h1]
  rw[Bool.and_eq_true,Bool.and_eq_true] at h1;obtain⟨p1,p2,p3,p4⟩:=zas h1.2;obtain⟨x,rfl,hx⟩:=zii h1.1.1;obtain⟨y,rfl,hy⟩:=zii h1.1.2;have P1:Hid (g.len=n.len∧∀r,r<g.len→g.L r=n.len):=⟨p1,p4⟩;clear p1 p4 h1;go_wp2_with fail
  refine (zdt g _ (hg.kept B1.bl) (by have:=P1.out.1;omega) (fun r hr=>by rw[P1.out.2 r hr];exact p3)).mono ?_
  rintro e w2 ⟨rfl,ho,hb2⟩;have B2:=B1.step hb2;clear hb2 c1;have A1:OrdAt (w2.alloc (.cells #[.int .i64 x,.int .i64 y] 3)) w1.heap.size g.len g.U g.D:=ho.kept ((Below.refl _ _).alloc (Nat.le_refl _) _);have C1:=zhb w2 (.int .i64 x) (.int .i64 y) 3;have B3:=B2.step ((Below.refl _ _).alloc (Nat.le_refl _) (.cells #[.int .i64 x,.int .i64 y] 3));go_wp2_with fail
  refine (zhq _ g.len g.U g.D _ x y _ (by have:=P1.out.1;omega) A1 (fun i _=>g.U_lt i) (by omega) (by omega) C1.1 C1.2).mono ?_
  rintro e w3 ⟨rfl,hdr⟩;have B4:=B3.step (hdr.below _);go_wp2;go_ret;exact⟨zau (by rw[HL.out];simp),B4.bl⟩
theorem zev (n:Strs)(g:Grid)(w:World)(hn:n.At w)(hg:g.At w) :
  Calls Tryz.prog 29 #[.agg #[.slice n.ao n.len n.cap,.slice g.ao g.len g.cap]] w fun e w'=>e=.returned (.int .i64 (botI n g))∧Below w.heap.size w w':=by
 have B0:=Box2.start w (.slice n.ao n.len n.cap) (.slice g.ao g.len g.cap) 25;go_enter Tryz.func29,Tryz.ntmps29
 go_wp2_with fail
 refine (zdc n g _ (hn.kept B0.bl) (hg.kept B0.bl)).mono ?_;rintro e w1 ⟨rfl,hb1⟩;have B1:=B0.step hb1;clear hb1 B0;have c1:=B1.c1;cases h1:zae n g
 ·go_wp2;go_ret;exact⟨zau (by simp[botI,h1]),B1.bl⟩
 ·have HL:Hid (botI n g=near g.U (2 ^ g.len - 1)):=by show botI n g=_;unfold botI;rw[if_pos h1]
  obtain⟨p1,p2,p3,p4⟩:=zas h1;have P1:Hid (g.len=n.len∧∀r,r<g.len→g.L r=n.len):=⟨p1,p4⟩;clear p1 p4 h1;go_wp2_with fail
  refine (zdt g _ (hg.kept B1.bl) (by have:=P1.out.1;omega) (fun r hr=>by rw[P1.out.2 r hr];exact p3)).mono ?_
  rintro e w2 ⟨rfl,ho,hb2⟩;have B2:=B1.step hb2;clear hb2 c1;go_wp2_with fail
  refine (zs2 _ g.len g.U g.D _ _ (by have:=P1.out.1;omega) ho (fun i _=>g.U_lt i)).mono ?_
  rintro e w3 ⟨rfl,hdr⟩;have B4:=B2.step (hdr.below _);go_wp2;go_ret;exact⟨zau HL.out.symm,B4.bl⟩
theorem zkh (n:Strs)(g:Grid)(w:World)(hn:n.At w)(hg:g.At w) :
  Calls Tryz.prog 24 #[.agg #[.slice n.ao n.len n.cap,.slice g.ao g.len g.cap]] w fun e w'=>e=.returned (.int .i64 (topI n g))∧Below w.heap.size w w':=by
 have B0:=Box2.start w (.slice n.ao n.len n.cap) (.slice g.ao g.len g.cap) 25;go_enter Tryz.func24,Tryz.ntmps24
 go_wp2_with fail
 refine (zdc n g _ (hn.kept B0.bl) (hg.kept B0.bl)).mono ?_;rintro e w1 ⟨rfl,hb1⟩;have B1:=B0.step hb1;clear hb1 B0;have c1:=B1.c1;cases h1:zae n g
 ·go_wp2;go_ret;exact⟨zau (by simp[topI,h1]),B1.bl⟩
 ·have HL:Hid (topI n g=near g.D (2 ^ g.len - 1)):=by show topI n g=_;unfold topI;rw[if_pos h1]
  obtain⟨p1,p2,p3,p4⟩:=zas h1;have P1:Hid (g.len=n.len∧∀r,r<g.len→g.L r=n.len):=⟨p1,p4⟩;clear p1 p4 h1;go_wp2_with fail
  refine (zdt g _ (hg.kept B1.bl) (by have:=P1.out.1;omega) (fun r hr=>by rw[P1.out.2 r hr];exact p3)).mono ?_
  rintro e w2 ⟨rfl,ho,hb2⟩;have B2:=B1.step hb2;clear hb2 c1;go_wp2_with fail
  refine (ztf _ g.len g.U g.D _ _ (by have:=P1.out.1;omega) ho (fun i _=>g.D_lt i)).mono ?_
  rintro e w3 ⟨rfl,hdr⟩;have B4:=B2.step (hdr.below _);go_wp2;go_ret;exact⟨zau HL.out.symm,B4.bl⟩
def zan (n:Strs)(g:Grid)(a b:Int):Int:=zb3 n g (if a=-1 then b else a) (if b=-1 then a else b)
theorem zup (n:Strs)(g:Grid)(a b:Int)(w:World)(hn:n.At w)(hg:g.At w) :
  Calls Tryz.prog 185 #[.agg #[.slice n.ao n.len n.cap,.slice g.ao g.len g.cap],.int .i64 a,.int .i64 b] w fun e w'=>e=.returned (.int .i64 (zan n g a b))∧Below w.heap.size w w':=by
 have B0:=Box2.start w (.slice n.ao n.len n.cap) (.slice g.ao g.len g.cap) 25;by_cases ha:a=-1
 ·subst ha;by_cases hb:b=-1
  ·subst hb;go_enter Tryz.func185,Tryz.ntmps185
   go_wp2_with (go_at_call 52;refine (ze5 n g _ _ _ (hn.kept B0.bl) (hg.kept B0.bl)).mono ?_;rintro e w1 ⟨rfl,hb1⟩);go_ret;exact⟨zau (by simp[zan]),(B0.step hb1).bl⟩
  ·have e1:(b==-1)=false:=beq_eq_false_iff_ne.2 hb;go_enter Tryz.func185,Tryz.ntmps185
   go_wp2_with (go_at_call 52;refine (ze5 n g _ _ _ (hn.kept B0.bl) (hg.kept B0.bl)).mono ?_;rintro e w1 ⟨rfl,hb1⟩);go_ret;exact⟨zau (by simp[zan,hb]),(B0.step hb1).bl⟩
 ·have e0:(a==-1)=false:=beq_eq_false_iff_ne.2 ha;by_cases hb:b=-1
  ·subst hb;go_enter Tryz.func185,Tryz.ntmps185
   go_wp2_with (go_at_call 52;refine (ze5 n g _ _ _ (hn.kept B0.bl) (hg.kept B0.bl)).mono ?_;rintro e w1 ⟨rfl,hb1⟩);go_ret;exact⟨zau (by simp[zan,ha]),(B0.step hb1).bl⟩
  ·have e1:(b==-1)=false:=beq_eq_false_iff_ne.2 hb;go_enter Tryz.func185,Tryz.ntmps185
   go_wp2_with (go_at_call 52;refine (ze5 n g _ _ _ (hn.kept B0.bl) (hg.kept B0.bl)).mono ?_;rintro e w1 ⟨rfl,hb1⟩);go_ret;exact⟨zau (by simp[zan,ha,hb]),(B0.step hb1).bl⟩
structure Prs where
 ao:Option Addr
 b:Nat
 o:Nat
 len:Nat
 cap:Nat
 x:Nat→Int
 y:Nat→Int
structure Prs.At (g:Prs)(w:World):Prop where
 lc:g.len≤g.cap
 nil:0<g.len→g.ao=some ⟨g.b,g.o,none⟩
 bound:g.len≤9223372036854775807
 fst:∀i,i<g.len→w.cell? ⟨g.b,g.o+i*2,none⟩=some (.int .i64 (g.x i))
 snd:∀i,i<g.len→w.cell? ⟨g.b,g.o+i*2+1,none⟩=some (.int .i64 (g.y i))
theorem Prs.At.kept {g:Prs}{w w':World}(h:g.At w)(hb:Below w.heap.size w w'):g.At w' :=
 ⟨h.lc,h.nil,h.bound,fun i hi=>(hb.cell (p:=⟨g.b,g.o+i*2,none⟩) (zde (h.fst i hi))).trans (h.fst i hi),fun i hi=>(hb.cell (p:=⟨g.b,g.o+i*2+1,none⟩) (zde (h.snd i hi))).trans (h.snd i hi)⟩
def inR (n:Nat)(a:Int):Bool:=decide (0≤a)&&decide (a<n)
def prsB (g:Prs)(n:Nat):Bool:=decide (∀i,i<g.len→(inR n (g.x i)&&inR n (g.y i))=true)
theorem prs_no {g:Prs}{n k:Nat}(hk:k<g.len)(h:(inR n (g.x k)&&inR n (g.y k))=false):prsB g n=false:=by
 unfold prsB;rw[decide_eq_false_iff_not];intro hh;rw[hh k hk] at h;exact Bool.noConfusion h
theorem Tryz.infoString:(Tryz.prog.info? 9).map (fun i=>(i.zero,i.size,i.bytes))=some (some (.string ⟨#[]⟩),1,16):=by kernel_rfl
def zch (g:Strs):List Value:=(List.range g.len).map fun i=>.string (g.s i)
theorem zir (g:Strs)(i:Nat)(hi:i<g.len):(zch g)[i]?=some (.string (g.s i)):=by simp[zch,hi]
theorem zu7 (b o i:Nat):(⟨b,o,none⟩:Addr).add i=⟨b,o+i,none⟩:=by unfold Addr.add;split <;> simp_all
theorem Tryz.infoBool:(Tryz.prog.info? 4).map (fun i=>(i.zero,i.size,i.bytes))=some (some (.bool false),1,1):=by kernel_rfl
theorem Tryz.infoRow:(Tryz.prog.info? 34).map (fun i=>(i.zero,i.size,i.bytes))=some (some (.slice none 0 0),1,24):=by kernel_rfl
theorem zb6 {n:Nat}{a:Int}(h:inR n a=true):∃k:Nat,a=k∧k<n:=by
 unfold inR at h;rw[Bool.and_eq_true,decide_eq_true_eq,decide_eq_true_eq] at h;exact⟨a.toNat,by omega,by omega⟩
def zo4 (M:Nat→Nat→Bool)(b:Nat):Nat→Nat→Bool:=fun r c=>M r c||(M r b&&M b c)
def war (M:Nat→Nat→Bool):Nat→Nat→Nat→Bool
 | 0=>M
 | k+1=>zo4 (war M k) k
def prsM (g:Prs)(k:Nat):Nat→Nat→Bool:=fun r c=>(c==r)||decide (∃i,i<k∧g.x i=r∧g.y i=c)
def zcw (g:Prs)(n:Nat):Nat→Nat→Bool:=war (prsM g g.len) n
def gridOf (T n:Nat)(M:Nat→Nat→Bool):Grid:=⟨some ⟨T,0,none⟩,T,0,n,n,fun j=>some ⟨T+1+j,0,none⟩,fun _=>n,fun _=>n,fun j=>T+1+j,fun _=>0,M⟩
def zez (len:Nat)(s:Nat→ByteArray)(M:Nat→Nat→Bool):Bool:=zae ⟨none,0,0,len,len,s⟩ (gridOf 0 len M)
def zcd (n:Strs)(p:Prs):Int:=if 8<n.len∨64<p.len then 1 else if prsB p n.len=false then 10 else if zez n.len n.s (zcw p n.len)=false then 4 else 0
def noStrs:Strs:=⟨none,0,0,0,0,fun _=>ByteArray.empty⟩
def noGrid:Grid:=⟨none,0,0,0,0,fun _=>none,fun _=>0,fun _=>0,fun _=>0,fun _=>0,fun _ _=>false⟩
theorem zsx (w:World):noStrs.At w:=⟨Nat.le_refl _,fun h=>absurd h (Nat.lt_irrefl _),Nat.zero_le _,fun _ h=>absurd h (Nat.not_lt_zero _),fun _ h=>absurd h (Nat.not_lt_zero _)⟩
theorem zs3 (w:World):noGrid.At w:=⟨Nat.le_refl _,fun h=>absurd h (Nat.lt_irrefl _),Nat.zero_le _,fun _ h=>absurd h (Nat.not_lt_zero _),fun _ h=>absurd h (Nat.not_lt_zero _),fun _ h=>absurd h (Nat.not_lt_zero _),fun _ h=>absurd h (Nat.not_lt_zero _)⟩
theorem zos {n:Strs}{p:Prs}(h:8<n.len∨64<p.len):zcd n p=1:=by unfold zcd;rw[if_pos h]
theorem zu3 {n:Strs}{p:Prs}(h:¬(8<n.len∨64<p.len))(h2:prsB p n.len=false):zcd n p=10:=by unfold zcd;rw[if_neg h,if_pos h2]
theorem zwe {n:Strs}{p:Prs}(h:¬(8<n.len∨64<p.len))(h2:prsB p n.len=true)(h3:zez n.len n.s (zcw p n.len)=false):zcd n p=4:=by unfold zcd;rw[if_neg h,if_neg (by rw[h2];simp),if_pos h3]
theorem zwo {n:Strs}{p:Prs}(h:¬(8<n.len∨64<p.len))(h2:prsB p n.len=true)(h3:zez n.len n.s (zcw p n.len)=true):zcd n p=0:=by unfold zcd;rw[if_neg h,if_neg (by rw[h2];simp),if_neg (by rw[h3];simp)]
theorem Strs.At.set {g:Strs}{w:World}(h:g.At w){a:Addr}{p:Option Addr}{l c:Nat}(ha:w.cell? a=some (.slice p l c))(v:Value):g.At (w.setCell a v) :=
 ⟨h.lc,h.nil,h.bound,fun i hi=>by
  have hc:=h.cell i hi;rw[World.cell?_setCell_other _ _ _ _ (fun e=>by rw[←e,ha] at hc;cases hc)]
  exact hc,h.sz⟩
theorem zdb {w w1:World}(h:Below w.heap.size w w1)(u v:Value):Below w.heap.size w ((w1.setCell ⟨w.heap.size,0,none⟩ u).setCell ⟨w.heap.size,1,none⟩ v) :=
 (h.setCell (Nat.le_refl _) _).setCell (Nat.le_refl _) _
def awkS:Nat→ByteArray:=fun i=>if i=0 then ⟨#[108,111,119]⟩ else ⟨#[104,105,103,104]⟩
def awkN (b:Nat):Strs:=⟨some ⟨b,0,none⟩,b,0,2,2,awkS⟩
def awkP (b:Nat):Prs:=⟨some ⟨b,0,none⟩,b,0,1,1,fun _=>0,fun _=>1⟩
theorem awk_e (b c:Nat):zcd (awkN b) (awkP c)=0:=by kernel_rfl
def awkW (w:World):World:=(w.alloc (.cells #[.string ⟨#[108,111,119]⟩,.string ⟨#[104,105,103,104]⟩] 9)).alloc (.cells #[.int .i64 0,.int .i64 1] 73)
theorem zj6 (w:World):Below w.heap.size w (awkW w):=((Below.refl _ _).alloc (Nat.le_refl _) _).alloc (by simp) _
theorem zwx (w:World):(awkN w.heap.size).At (awkW w):=by
 refine⟨Nat.le_refl _,fun _=>rfl,by show (2:Nat)≤_;omega,fun i hi=>?_,fun i hi=>?_⟩
 ·match i,hi with
  | 0,_=>simp[awkW,awkN,awkS]
  | 1,_=>simp[awkW,awkN,awkS]
 ·match i,hi with
  | 0,_=>show (3:Nat)≤_;omega
  | 1,_=>show (4:Nat)≤_;omega
theorem zwu (w:World):(awkP (w.heap.size+1)).At (awkW w):=by
 refine⟨Nat.le_refl _,fun _=>rfl,by show (1:Nat)≤_;omega,fun i hi=>?_,fun i hi=>?_⟩
 ·match i,hi with
  | 0,_=>simp[awkW,awkP]
 ·match i,hi with
  | 0,_=>simp[awkW,awkP]
def zdi (n:Strs)(g:Grid):Bool:=decide (g.len≤100∧∀r,r<g.len→g.L r≤100)&&decide (n.len≤100)
theorem zlf {n:Strs}{g:Grid}{k:Nat}(hk:k<g.len)(h:100≤k∨100<g.L k):zdi n g=false:=by
 unfold zdi;rw[Bool.and_eq_false_iff,decide_eq_false_iff_not]
 left
 rintro ⟨h1,h2⟩;have:=h2 k hk;omega
theorem zro (n:Strs)(g:Grid)(w:World)(hn:n.At w)(hg:g.At w) :
  Calls Tryz.prog 18 #[.agg #[.slice n.ao n.len n.cap,.slice g.ao g.len g.cap]] w fun e w'=>e=.returned (.bool (zdi n g))∧Below w.heap.size w w':=by
 have hnb:=hn.bound;have hgb:=hg.bound;by_cases hz:g.len=0
 ·have B0:=Box2.start w (.slice n.ao n.len n.cap) (.slice g.ao 0 g.cap) 25;have HF:Hid (zdi n g=decide (n.len≤100)):=by show zdi n g=_;simp[zdi,hz]
  rw[hz];go_enter Tryz.func18,Tryz.ntmps18
  go_wp2
  go_loop [3] (fun i=>i=.int .i64 0) (fun _=>0)
  case atStart=>rfl
  case round =>
   subst hrel;go_wp2;go_ret;exact⟨zab (by rw[HF.out];exact decide_eq_decide.2 (by omega)),B0.bl⟩
 rw[hg.nil (by omega)];have B0:=Box2.start w (.slice n.ao n.len n.cap) (.slice (some ⟨g.gb,g.go,none⟩) g.len g.cap) 25;have hg1:=hg.kept B0.bl;go_enter Tryz.func18,Tryz.ntmps18
 go_wp2;generalize w.alloc (.cells #[.slice n.ao n.len n.cap,.slice (some ⟨g.gb,g.go,none⟩) g.len g.cap] 25)=W0 at *;have c0:=B0.c0;have c1:=B0.c1
 go_loop [3] (fun i=>∃k:Nat,k≤g.len∧k≤100∧i=.int .i64 k∧∀r,r<k→g.L r≤100) (fun i=>g.len - (intOf i).toNat)
 case atStart=>exact⟨0,Nat.zero_le _,by omega,rfl,fun _ h=>absurd h (Nat.not_lt_zero _)⟩
 case round =>
  obtain⟨k,hk,hk1,rfl,hdone⟩:=hrel;have HD:Hid (∀r,r<k→g.L r≤100):=hdone;clear hdone;by_cases hlt:k<g.len
  ·have r1:=hg1.row k hlt;by_cases h100:k<100
   ·go_wp2
    ·have t:(100:Int)≤k∨(100:Int)<g.L k:=by assumption
     go_ret;exact⟨zab (zlf hlt (by omega)).symm,B0.bl⟩
    ·have t:(k:Int)<100∧(g.L k:Int)≤100:=by assumption
     go_round
     case rel =>
      refine⟨k+1,by omega,by omega,by go_num,fun r hr=>?_⟩;rcases Nat.lt_succ_iff_lt_or_eq.1 hr with h | h
      ·exact HD.out r h
      ·subst h;omega
     case measure=>simp[intOf];omega
   ·go_wp2;go_ret;exact⟨zab (zlf hlt (Or.inl (by omega))).symm,B0.bl⟩
  ·have HE:Hid (zdi n g=decide (n.len≤100)):=by
    show zdi n g=_
    unfold zdi;rw[decide_eq_true (show g.len≤100∧∀r,r<g.len→g.L r≤100 from ⟨by omega,fun r hr=>HD.out r (by omega)⟩)];rfl
   go_wp2;go_ret;exact⟨zab (by rw[HE.out];exact decide_eq_decide.2 (by omega)),B0.bl⟩
end
end Go.Proofs.YtfobijdkoeifjaaGreatDoor
