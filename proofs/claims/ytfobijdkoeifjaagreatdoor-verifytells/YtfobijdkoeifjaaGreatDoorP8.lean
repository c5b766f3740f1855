import Derived.Test.YtfobijdkoeifjaaGreatDoorP7
import Derived.Test.YtfobijdkoeifjaaGreatDoorP6
import Derived.Test.YtfobijdkoeifjaaGreatDoorP5
import Derived.Deep.AppendLies
import Derived.Laws.AppendOwnNone
import Derived.Test.YtfobijdkoeifjaaGreatDoorP2
set_option maxRecDepth 100000
set_option maxHeartbeats 32000000
namespace Go.Proofs.YtfobijdkoeifjaaGreatDoor
section
open Go.RowKit
def Gr (w0:World):Type:={ w':World // Below w0.heap.size w0 w' }
def Gr.w {w0:World}(x:Gr w0):World:=x.1
theorem Gr.bl {w0:World}(x:Gr w0):Below w0.heap.size w0 x.w:=x.2
theorem up {w w':World}(hb:Below w.heap.size w w'){a:Addr}{v:Value}(h:w.cell? a=some v):w'.cell? a=some v:=(hb.cell (p:=a) (World.block_lt_of_cell? w a h)).trans h
theorem Gr.cell {w0:World}(x:Gr w0){a:Addr}{v:Value}(h:w0.cell? a=some v):x.w.cell? a=some v:=up x.bl h
theorem zah {P:Program}{id:Nat}{Q:Exit→Act→World→Prop}{a:Act}{w:World}{l:List Oper}(hm:P.follows .mixedOrders=true)(hB:Region.lexB .any l.toArray=true)
  (h:wpQuiet P l.toArray (fun w'=>∃x:Gr w,w'=x.w) (fun a'=>∀w',(∃x:Gr w,w'=x.w)→Q .normal a' w') l a):(Code.region id l.toArray true).wp P Q a w :=
 wp_region_quiet (C:=fun w'=>∃x:Gr w,w'=x.w) hm hB ⟨⟨_,(Below.refl _ _).drew⟩,rfl⟩ (by simpa using h)
theorem Below.next {w0 w1 w2:World}(h:Below w0.heap.size w0 w1)(k:Below w1.heap.size w1 w2):Below w0.heap.size w0 w2:=h.trans (k.mono h.size)
theorem Calls.gr {P:Program}{f:FuncId}{args:Array Value}{w0:World}{r:Value}(x:Gr w0)
  (h:Calls P f args x.w fun e w'=>e=.returned r∧Below x.w.heap.size x.w w'):Calls P f args x.w fun e w''=>e=.returned r∧∃y:Gr w0,w''=y.w :=
 h.mono fun _ _ ⟨he,hb⟩=>⟨he,⟨_,Below.next x.bl hb⟩,rfl⟩
inductive Ty where
 | dm:Ty
 | mk (k l h e:Int) (ao:Option Addr) (b o len cap:Nat) (ps:Nat→Ty):Ty
def Ty.k:Ty→Int | .dm=>0 | .mk k _ _ _ _ _ _ _ _ _=>k
def Ty.l:Ty→Int | .dm=>0 | .mk _ l _ _ _ _ _ _ _ _=>l
def Ty.h:Ty→Int | .dm=>0 | .mk _ _ h _ _ _ _ _ _ _=>h
def Ty.e:Ty→Int | .dm=>0 | .mk _ _ _ e _ _ _ _ _ _=>e
def Ty.ao:Ty→Option Addr | .dm=>none | .mk _ _ _ _ ao _ _ _ _ _=>ao
def Ty.b:Ty→Nat | .dm=>0 | .mk _ _ _ _ _ b _ _ _ _=>b
def Ty.o:Ty→Nat | .dm=>0 | .mk _ _ _ _ _ _ o _ _ _=>o
def Ty.len:Ty→Nat | .dm=>0 | .mk _ _ _ _ _ _ _ len _ _=>len
def Ty.cap:Ty→Nat | .dm=>0 | .mk _ _ _ _ _ _ _ _ cap _=>cap
def Ty.ps:Ty→Nat→Ty | .dm=>fun _=>.dm | .mk _ _ _ _ _ _ _ _ _ ps=>ps
structure C5 (w:World)(b o:Nat)(t:Ty):Prop where
 c0:w.cell? ⟨b,o,none⟩=some (.int .i64 t.k)
 c1:w.cell? ⟨b,o+1,none⟩=some (.int .i64 t.l)
 c2:w.cell? ⟨b,o+2,none⟩=some (.slice t.ao t.len t.cap)
 c3:w.cell? ⟨b,o+3,none⟩=some (.int .i64 t.h)
 c4:w.cell? ⟨b,o+4,none⟩=some (.int .i64 t.e)
theorem C5.kept {w w':World}{b o:Nat}{t:Ty}(h:C5 w b o t)(hb:Below w.heap.size w w'):C5 w' b o t:=⟨up hb h.c0,up hb h.c1,up hb h.c2,up hb h.c3,up hb h.c4⟩
def Ty.At (w:World):Ty→Prop
 | .dm=>False
 | .mk _ _ _ _ ao b o len _ ps=>(0<len→ao=some ⟨b,o,none⟩)∧len≤9223372036854775807∧∀i,i<len→C5 w b (o+i*5) (ps i)∧Ty.At w (ps i)
theorem Ty.At.kept {w w':World}(hb:Below w.heap.size w w'):∀{t:Ty},t.At w→t.At w'
 | .dm,h=>h.elim
 | .mk _ _ _ _ _ _ _ _ _ _,h=>⟨h.1,h.2.1,fun i hi=>⟨(h.2.2 i hi).1.kept hb,Ty.At.kept hb (h.2.2 i hi).2⟩⟩
theorem Ty.At.nil {w:World}:∀{t:Ty},t.At w→0<t.len→t.ao=some ⟨t.b,t.o,none⟩
 | .dm,h=>h.elim
 | .mk _ _ _ _ _ _ _ _ _ _,h=>h.1
theorem Ty.At.bound {w:World}:∀{t:Ty},t.At w→t.len≤9223372036854775807
 | .dm,h=>h.elim
 | .mk _ _ _ _ _ _ _ _ _ _,h=>h.2.1
theorem Ty.At.cells {w:World}:∀{t:Ty},t.At w→∀{i},i<t.len→C5 w t.b (t.o+i*5) (t.ps i)
 | .dm,h,_,_=>h.elim
 | .mk _ _ _ _ _ _ _ _ _ _,h,i,hi=>(h.2.2 i hi).1
theorem Ty.At.part {w:World}:∀{t:Ty},t.At w→∀{i},i<t.len→(t.ps i).At w
 | .dm,h,_,_=>h.elim
 | .mk _ _ _ _ _ _ _ _ _ _,h,i,hi=>(h.2.2 i hi).2
structure Bx (w:World)(B:Nat)(t:Ty):Prop where
 c0:w.cell? ⟨B,0,none⟩=some (.int .i64 t.k)
 c1:w.cell? ⟨B,1,none⟩=some (.int .i64 t.l)
 c2:w.cell? ⟨B,2,none⟩=some (.slice t.ao t.len t.cap)
 c3:w.cell? ⟨B,3,none⟩=some (.int .i64 t.h)
 c4:w.cell? ⟨B,4,none⟩=some (.int .i64 t.e)
theorem Bx.kept {w w':World}{B:Nat}{t:Ty}(h:Bx w B t)(hb:Below w.heap.size w w'):Bx w' B t:=⟨up hb h.c0,up hb h.c1,up hb h.c2,up hb h.c3,up hb h.c4⟩
theorem Bx.new (w:World)(t:Ty):Bx (w.alloc (.cells #[.int .i64 t.k,.int .i64 t.l,.slice t.ao t.len t.cap,.int .i64 t.h,.int .i64 t.e] 38)) w.heap.size t:=by
 constructor <;> simp
structure Bl (w:World)(B:Nat)(n:Strs)(g:Grid):Prop where
 c0:w.cell? ⟨B,0,none⟩=some (.slice n.ao n.len n.cap)
 c1:w.cell? ⟨B,1,none⟩=some (.slice g.ao g.len g.cap)
theorem Bl.kept {w w':World}{B:Nat}{n:Strs}{g:Grid}(h:Bl w B n g)(hb:Below w.heap.size w w'):Bl w' B n g:=⟨up hb h.c0,up hb h.c1⟩
theorem Bl.new (w:World)(n:Strs)(g:Grid):Bl (w.alloc (.cells #[.slice n.ao n.len n.cap,.slice g.ao g.len g.cap] 25)) w.heap.size n g:=by
 constructor <;> simp
theorem zac (w:World)(o:Obj):Below w.heap.size w (w.alloc o):=(Below.refl _ _).alloc (Nat.le_refl _) _
def latO (n:Strs)(g:Grid):Obj:=.cells #[.slice n.ao n.len n.cap,.slice g.ao g.len g.cap] 25
def tyO (t:Ty):Obj:=.cells #[.int .i64 t.k,.int .i64 t.l,.slice t.ao t.len t.cap,.int .i64 t.h,.int .i64 t.e] 38
theorem alloc_size (w:World)(o:Obj):(w.alloc o).heap.size=w.heap.size+1:=by simp
theorem zfj (w:World)(n:Strs)(g:Grid)(t:Ty):Bl ((w.alloc (latO n g)).alloc (tyO t)) w.heap.size n g∧Bx ((w.alloc (latO n g)).alloc (tyO t)) (w.heap.size+1) t∧Below w.heap.size w ((w.alloc (latO n g)).alloc (tyO t)) :=
 ⟨(Bl.new w n g).kept (zac _ _),(alloc_size w (latO n g)) ▸ Bx.new (w.alloc (latO n g)) t,Below.next (zac _ _) (zac _ _)⟩
theorem zku (w:World)(n:Strs)(g:Grid)(s t:Ty):Bl (((w.alloc (latO n g)).alloc (tyO s)).alloc (tyO t)) w.heap.size n g∧Bx (((w.alloc (latO n g)).alloc (tyO s)).alloc (tyO t)) (w.heap.size+1) s∧Bx (((w.alloc (latO n g)).alloc (tyO s)).alloc (tyO t)) (w.heap.size+2) t∧Below w.heap.size w (((w.alloc (latO n g)).alloc (tyO s)).alloc (tyO t)):=by
 obtain⟨h1,h2,h3⟩:=zfj w n g s;have h4:=Bx.new ((w.alloc (latO n g)).alloc (tyO s)) t;rw[alloc_size,alloc_size] at h4;exact⟨h1.kept (zac _ _),h2.kept (zac _ _),h4,Below.next h3 (zac _ _)⟩
theorem zi5 (w:World)(s t:Ty):Bx ((w.alloc (tyO s)).alloc (tyO t)) w.heap.size s∧Bx ((w.alloc (tyO s)).alloc (tyO t)) (w.heap.size+1) t∧Below w.heap.size w ((w.alloc (tyO s)).alloc (tyO t)):=by
 have h4:=Bx.new (w.alloc (tyO s)) t;rw[alloc_size] at h4;exact⟨(Bx.new w s).kept (zac _ _),h4,Below.next (zac _ _) (zac _ _)⟩
def za3 (f:Nat→Nat):Nat→Nat
 | 0=>0
 | k+1=>za3 f k+f k
theorem zjh (f:Nat→Nat){a b:Nat}(h:a≤b):za3 f a≤za3 f b:=by
 induction h with
 | refl=>exact Nat.le_refl _
 | step _ ih=>exact Nat.le_trans ih (Nat.le_add_right _ _)
theorem zge (f:Nat→Nat){i n:Nat}(h:i<n):za3 f i+f i≤za3 f n:=zjh f (show i+1≤n from h)
def Ty.nodes:Ty→Nat
 | .dm=>1
 | .mk _ _ _ _ _ _ _ len _ ps=>1+za3 (fun i=>Ty.nodes (ps i)) len
def zaz (k:Int):Int:=if k=1 then 0 else if k=2 then 0 else if k=5 then 1 else if k=3 then 2 else if k=4 then 2 else -1
def bndI (N:Nat)(k h e:Int):Bool:=if k=4 then inR N h&&((e==-1)||inR N e) else (h==0)&&(e==0)
def Ty.fm (N:Nat):Ty→Nat→Bool
 | .dm,_=>false
 | .mk k l h e _ _ _ len _ ps,d=>(((decide (d≤6)&&((len:Int)==zaz k))&&inR N l)&&bndI N k h e)&&decide (∀i,i<len→Ty.fm N (ps i) (d+1)=true)
def Ty.same:Ty→Ty→Bool
 | .dm,t=>((((0==t.k)&&(0==t.l))&&((0==t.h)&&(0==t.e)))&&(0==t.len))
 | .mk k l h e _ _ _ len _ ps,t=>((((k==t.k)&&(l==t.l))&&((h==t.h)&&(e==t.e)))&&(len==t.len))&&decide (∀i,i<len→Ty.same (ps i) (t.ps i)=true)
def excB (le:Nat→Nat→Bool)(a b:Int):Bool:=(a==-1)||((b != -1)&&le a.toNat b.toNat)
def Ty.bel (le:Nat→Nat→Bool):Ty→Bool→Ty→Bool
 | .dm,_,_=>false
 | .mk k l h e _ _ _ _ _ ps,true,t=>((k==t.k)&&le l.toNat t.l.toNat)&&(if k=3 then Ty.bel le (ps 0) true (t.ps 0)&&Ty.bel le (ps 1) true (t.ps 1) else if k=4 then ((Ty.bel le (ps 0) false (t.ps 0)&&Ty.bel le (ps 1) true (t.ps 1))&&le t.h.toNat h.toNat)&&excB le e t.e else if k=5 then Ty.same (ps 0) (t.ps 0) else true)
 | .mk k l h e _ _ _ _ _ ps,false,t=>((t.k==k)&&le t.l.toNat l.toNat)&&(if t.k=3 then Ty.bel le (ps 0) false (t.ps 0)&&Ty.bel le (ps 1) false (t.ps 1) else if t.k=4 then ((Ty.bel le (ps 0) true (t.ps 0)&&Ty.bel le (ps 1) false (t.ps 1))&&le h.toNat t.h.toNat)&&excB le t.e e else if t.k=5 then Ty.same (t.ps 0) (ps 0) else true)
theorem zen (k:Int)(w:World):Calls Tryz.prog 176 #[.int .i64 k] w fun e w'=>e=.returned (.int .i64 (zaz k))∧Below w.heap.size w w':=by
 unfold zaz;by_cases h1:k=1
 ·subst h1;go_enter Tryz.func176,Tryz.ntmps176
  go_wp2;go_ret;exact⟨rfl,Below.refl _ _⟩
 by_cases h2:k=2
 ·subst h2;go_enter Tryz.func176,Tryz.ntmps176
  go_wp2;go_ret;exact⟨rfl,Below.refl _ _⟩
 by_cases h5:k=5
 ·subst h5;go_enter Tryz.func176,Tryz.ntmps176
  go_wp2;go_ret;exact⟨rfl,Below.refl _ _⟩
 by_cases h3:k=3
 ·subst h3;go_enter Tryz.func176,Tryz.ntmps176
  go_wp2;go_ret;exact⟨rfl,Below.refl _ _⟩
 by_cases h4:k=4
 ·subst h4;go_enter Tryz.func176,Tryz.ntmps176
  go_wp2;go_ret;exact⟨rfl,Below.refl _ _⟩
 rw[if_neg h1,if_neg h2,if_neg h5,if_neg h3,if_neg h4];have b1:(k==1)=false:=beq_eq_false_iff_ne.2 h1;have b2:(k==2)=false:=beq_eq_false_iff_ne.2 h2;have b3:(k==3)=false:=beq_eq_false_iff_ne.2 h3;have b4:(k==4)=false:=beq_eq_false_iff_ne.2 h4;have b5:(k==5)=false:=beq_eq_false_iff_ne.2 h5;clear h1 h2 h3 h4 h5;go_enter Tryz.func176,Tryz.ntmps176
 go_wp2;go_ret;exact⟨rfl,Below.refl _ _⟩
theorem zci (n:Strs)(g:Grid)(a:Int)(w:World)(hn:n.At w):Calls Tryz.prog 177 #[.agg #[.slice n.ao n.len n.cap,.slice g.ao g.len g.cap],.int .i64 a] w fun e w'=>e=.returned (.bool (inR n.len a))∧Below w.heap.size w w':=by
 have hnb:=hn.bound;unfold inR;cases h0:decide (0≤a)
 ·go_enter Tryz.func177,Tryz.ntmps177
  go_wp2;go_ret;exact⟨rfl,zac _ _⟩
 ·go_enter Tryz.func177,Tryz.ntmps177
  go_wp2;go_ret;exact⟨rfl,zac _ _⟩
theorem zix (n:Strs)(g:Grid)(t:Ty)(w:World)(hn:n.At w):Calls Tryz.prog 178 #[.agg #[.slice n.ao n.len n.cap,.slice g.ao g.len g.cap],.agg #[.int .i64 t.k,.int .i64 t.l,.slice t.ao t.len t.cap,.int .i64 t.h,.int .i64 t.e]] w fun e w'=>e=.returned (.bool (bndI n.len t.k t.h t.e))∧Below w.heap.size w w':=by
 obtain⟨L0,X0,B0⟩:=zfj w n g t;have hn2:=hn.kept B0;unfold latO tyO at *;have HE:Hid (bndI n.len t.k t.h t.e=if t.k=4 then inR n.len t.h&&((t.e==-1)||inR n.len t.e) else (t.h==0)&&(t.e==0)):=rfl;by_cases h4:t.k=4
 ·have b4:(t.k != 4)=false:=by simp[h4]
  have HE2:Hid (bndI n.len t.k t.h t.e=(inR n.len t.h&&((t.e==-1)||inR n.len t.e))):=by show bndI n.len t.k t.h t.e=_;rw[HE.out,if_pos h4]
  clear h4 HE;go_enter Tryz.func178,Tryz.ntmps178
  go_wp2_with fail
  refine (zci n g t.h _ hn2).mono ?_;rintro e w1 ⟨rfl,hb1⟩;have L1:=L0.kept hb1;have X1:=X0.kept hb1;have B1:=Below.next B0 hb1;have hn3:=hn2.kept hb1;have c0:=L1.c0;have c1:=L1.c1;have x4:=X1.c4;clear L0 X0 hb1 hn2 B0;cases h1:inR n.len t.h
  ·go_wp2;go_ret;exact⟨by rw[HE2.out,h1];rfl,B1⟩
  ·cases h2:(t.e==-1)
   ·go_wp2_with fail
    refine (zci n g t.e _ hn3).mono ?_;rintro e w2 ⟨rfl,hb2⟩;go_wp2;go_ret;exact⟨by rw[HE2.out,h1,h2];rfl,Below.next B1 hb2⟩
   ·go_wp2;go_ret;exact⟨by rw[HE2.out,h1,h2];rfl,B1⟩
 ·have b4:(t.k != 4)=true:=by simp[h4]
  have HE2:Hid (bndI n.len t.k t.h t.e=((t.h==0)&&(t.e==0))):=by show bndI n.len t.k t.h t.e=_;rw[HE.out,if_neg h4]
  clear h4 HE;cases h1:(t.h==0)
  ·go_enter Tryz.func178,Tryz.ntmps178
   go_wp2;go_ret;exact⟨by rw[HE2.out,h1];rfl,B0⟩
  ·go_enter Tryz.func178,Tryz.ntmps178
   go_wp2;go_ret;exact⟨by rw[HE2.out,h1];rfl,B0⟩
theorem zdh (t:Ty)(w:World) :
  Calls Tryz.prog 180 #[.agg #[.int .i64 t.k,.int .i64 t.l,.slice t.ao t.len t.cap,.int .i64 t.h,.int .i64 t.e]] w fun e w'=>e=.returned (.slice t.ao t.len t.cap)∧Below w.heap.size w w':=by
 have X0:=Bx.new w t;have B0:=zac w (.cells #[.int .i64 t.k,.int .i64 t.l,.slice t.ao t.len t.cap,.int .i64 t.h,.int .i64 t.e] 38);have x2:=X0.c2;clear X0;go_enter Tryz.func180,Tryz.ntmps180
 go_wp2;go_ret;exact⟨rfl,B0⟩
theorem zq0:∀(t:Ty) (a:Nat) (w:World),a≤40→t.At w→Calls Tryz.prog 222 #[.agg #[.int .i64 t.k,.int .i64 t.l,.slice t.ao t.len t.cap,.int .i64 t.h,.int .i64 t.e],.func (.func 180) #[] #[],.int .i64 40,.int .i64 a] w fun e w'=>e=.returned (.int .i64 (min (a+t.nodes) 41:Nat))∧Below w.heap.size w w':=by
 intro t
 induction t with
 | dm=>intro a w _ hAt;exact hAt.elim
 | mk k l h e ao b o len cap ps ih =>
  intro a w ha hAt;show Calls Tryz.prog 222 #[.agg #[.int .i64 k,.int .i64 l,.slice ao len cap,.int .i64 h,.int .i64 e],.func (.func 180) #[] #[],.int .i64 40,.int .i64 a] w fun r w'=>r=.returned (.int .i64 (min (a+(1+za3 (fun i=>(ps i).nodes) len)) 41:Nat))∧Below w.heap.size w w'
  have B0:=zac w (.cells #[.int .i64 k,.int .i64 l,.slice ao len cap,.int .i64 h,.int .i64 e] 38);have hb:len≤9223372036854775807:=hAt.bound;have hnil:0<len→ao=some ⟨b,o,none⟩:=hAt.nil;have HS:Hid (Ty.At (w.alloc (.cells #[.int .i64 k,.int .i64 l,.slice ao len cap,.int .i64 h,.int .i64 e] 38)) (.mk k l h e ao b o len cap ps)∧Below w.heap.size w (w.alloc (.cells #[.int .i64 k,.int .i64 l,.slice ao len cap,.int .i64 h,.int .i64 e] 38))):=⟨hAt.kept B0,B0⟩;have hP:Calls Tryz.prog 180 #[.agg #[.int .i64 k,.int .i64 l,.slice ao len cap,.int .i64 h,.int .i64 e]] (w.alloc (.cells #[.int .i64 k,.int .i64 l,.slice ao len cap,.int .i64 h,.int .i64 e] 38)) fun r w'=>r=.returned (.slice ao len cap)∧Below (w.alloc (.cells #[.int .i64 k,.int .i64 l,.slice ao len cap,.int .i64 h,.int .i64 e] 38)).heap.size (w.alloc (.cells #[.int .i64 k,.int .i64 l,.slice ao len cap,.int .i64 h,.int .i64 e] 38)) w':=zdh (.mk k l h e ao b o len cap ps) _;clear B0 hAt;go_enter Tryz.func222,Tryz.ntmps222
  go_wp2_with fail
  refine hP.mono ?_;rintro _ w5 ⟨rfl,hb5⟩;have HS:Hid (Ty.At w5 (.mk k l h e ao b o len cap ps)∧Below w.heap.size w w5):=⟨HS.out.1.kept hb5,Below.next HS.out.2 hb5⟩;clear hb5 hP;go_wp2;go_loopw [9,18] (fun m i wr=>∃(q j:Nat),j≤len∧m=.int .i64 q∧i=.int .i64 j∧q=min (a+(1+za3 (fun i=>(ps i).nodes) j)) 41∧Ty.At wr (.mk k l h e ao b o len cap ps)∧Below w.heap.size w wr) (fun _ i _=>len - (intOf i).toNat)
  case atStart=>exact⟨a+1,0,Nat.zero_le _,by rw[Int.natCast_add];rfl,rfl,by simp only[za3];omega,HS.out⟩
  case round =>
   obtain⟨q,j,hj,rfl,rfl,hm,hA,hB⟩:=hrel;clear HS;have HQ:Hid (q=min (a+(1+za3 (fun i=>(ps i).nodes) j)) 41):=hm;clear hm;by_cases hlt:j<len
   ·have ij:(j:Int)<len:=by omega
    have a0:=hnil (by omega);subst a0;have C:C5 wr b (o+j*5) (ps j):=hA.cells hlt;have P:(ps j).At wr:=hA.part hlt;have X0:=Bx.new wr (ps j);have B0:=zac wr (.cells #[.int .i64 (ps j).k,.int .i64 (ps j).l,.slice (ps j).ao (ps j).len (ps j).cap,.int .i64 (ps j).h,.int .i64 (ps j).e] 38);have HS:Hid (Ty.At wr (.mk k l h e (some ⟨b,o,none⟩) b o len cap ps)∧Below w.heap.size w wr):=⟨hA,hB⟩;have y0:=C.c0;have y1:=C.c1;have y2:=C.c2;have y3:=C.c3;have y4:=C.c4;clear hA C hB;by_cases h40:40<q
    ·have d40:decide ((40:Int)<q)=true:=by simp;omega
     have HE:Hid (min (a+(1+za3 (fun i=>(ps i).nodes) len)) 41=q):=by
      show min (a+(1+za3 (fun i=>(ps i).nodes) len)) 41=q
      have:=HQ.out;have h2:=zjh (fun i=>(ps i).nodes) hj;omega
     go_wp2
     all_goals go_ret
     all_goals exact⟨zau (by have h2:=HE.out;omega),Below.next HS.out.2 B0⟩
    ·have d40:decide ((40:Int)<q)=false:=by simp;omega
     go_wp2_with fail
     refine (ih j q _ (by omega) (P.kept B0)).mono ?_;rintro r w1 ⟨rfl,hb1⟩;have B1:=Below.next B0 hb1;go_wp2;go_roundw
     case rel=>exact⟨min (q+(ps j).nodes) 41,j+1,by omega,rfl,by go_num,by have:=HQ.out;simp only[za3];omega,HS.out.1.kept B1,Below.next HS.out.2 B1⟩
     case measure=>simp[intOf];omega
   ·have e:len=j:=by omega
    subst e;have d:¬(len:Int)<len:=by omega
    go_wp2;go_ret;exact⟨zau (by have h1:=HQ.out;omega),hB⟩
theorem zte (t:Ty)(w:World)(ht:t.At w):Calls Tryz.prog 179 #[.agg #[.int .i64 t.k,.int .i64 t.l,.slice t.ao t.len t.cap,.int .i64 t.h,.int .i64 t.e],.func (.func 180) #[] #[],.int .i64 40] w fun e w'=>e=.returned (.int .i64 (min t.nodes 41:Nat))∧Below w.heap.size w w':=by
 have B0:=zac w (.cells #[.int .i64 t.k,.int .i64 t.l,.slice t.ao t.len t.cap,.int .i64 t.h,.int .i64 t.e] 38);have h:=zq0 t 0 _ (by omega) (ht.kept B0);rw[Nat.zero_add] at h;go_enter Tryz.func179,Tryz.ntmps179
 go_wp2_with fail
 refine h.mono ?_;rintro r w1 ⟨rfl,hb1⟩;go_wp2;go_ret;exact⟨rfl,Below.next B0 hb1⟩
theorem ztc (t:Ty)(w:World)(ht:t.At w):Calls Tryz.prog 132 #[.agg #[.int .i64 t.k,.int .i64 t.l,.slice t.ao t.len t.cap,.int .i64 t.h,.int .i64 t.e]] w fun e w'=>e=.returned (.int .i64 (min t.nodes 41:Nat))∧Below w.heap.size w w':=by
 have B0:=zac w (.cells #[.int .i64 t.k,.int .i64 t.l,.slice t.ao t.len t.cap,.int .i64 t.h,.int .i64 t.e] 38);have h:=zte t _ (ht.kept B0);go_enter Tryz.func132,Tryz.ntmps132
 go_wp2_with fail
 refine h.mono ?_;rintro r w1 ⟨rfl,hb1⟩;go_wp2;go_ret;exact⟨rfl,Below.next B0 hb1⟩
theorem zcb (n:Strs)(g:Grid)(k l h e:Int)(ao:Option Addr)(b o len cap:Nat)(ps:Nat→Ty)(w:World)(hn:n.At w):Calls Tryz.prog 178 #[.agg #[.slice n.ao n.len n.cap,.slice g.ao g.len g.cap],.agg #[.int .i64 k,.int .i64 l,.slice ao len cap,.int .i64 h,.int .i64 e]] w fun r w'=>r=.returned (.bool (bndI n.len k h e))∧Below w.heap.size w w' :=
 zix n g (.mk k l h e ao b o len cap ps) w hn
theorem zeg (N:Nat)(k l h e:Int)(ao:Option Addr)(b o len cap:Nat)(ps:Nat→Ty)(d:Nat):Ty.fm N (.mk k l h e ao b o len cap ps) d=((((decide (d≤6)&&((len:Int)==zaz k))&&inR N l)&&bndI N k h e)&&decide (∀i,i<len→Ty.fm N (ps i) (d+1)=true)):=rfl
theorem zt0 (N:Nat)(k l h e:Int)(ao:Option Addr)(b o len cap:Nat)(ps:Nat→Ty)(d:Nat) :
  (6<d∧Ty.fm N (.mk k l h e ao b o len cap ps) d=false)∨(d≤6∧((len:Int) != zaz k)=true∧Ty.fm N (.mk k l h e ao b o len cap ps) d=false)∨(d≤6∧((len:Int) != zaz k)=false∧inR N l=false∧Ty.fm N (.mk k l h e ao b o len cap ps) d=false) ∨
  (d≤6∧((len:Int) != zaz k)=false∧inR N l=true∧bndI N k h e=false∧Ty.fm N (.mk k l h e ao b o len cap ps) d=false)∨(d≤6∧((len:Int) != zaz k)=false∧inR N l=true∧bndI N k h e=true∧Ty.fm N (.mk k l h e ao b o len cap ps) d=decide (∀i,i<len→Ty.fm N (ps i) (d+1)=true)):=by
 rw[zeg];by_cases h1:6<d
 ·left;exact⟨h1,by rw[show decide (d≤6)=false from decide_eq_false (by omega)];rfl⟩
 have h1':decide (d≤6)=true:=decide_eq_true (by omega)
 right
 rw[h1'];cases h2:((len:Int)==zaz k)
 ·left;exact⟨by omega,by simp[bne,h2],rfl⟩
 right
 cases h3:inR N l
 ·left;exact⟨by omega,by simp[bne,h2],rfl,rfl⟩
 right
 cases h4:bndI N k h e
 ·left;exact⟨by omega,by simp[bne,h2],rfl,rfl,rfl⟩
 right
 exact⟨by omega,by simp[bne,h2],rfl,rfl,by simp⟩
theorem zoj (n:Strs)(g:Grid):∀(t:Ty) (d:Nat) (w:World),d≤7→n.At w→t.At w→Calls Tryz.prog 131 #[.agg #[.slice n.ao n.len n.cap,.slice g.ao g.len g.cap],.agg #[.int .i64 t.k,.int .i64 t.l,.slice t.ao t.len t.cap,.int .i64 t.h,.int .i64 t.e],.int .i64 d] w fun e w'=>e=.returned (.bool (t.fm n.len d))∧Below w.heap.size w w':=by
 intro t
 induction t with
 | dm=>intro d w _ _ hAt;exact hAt.elim
 | mk k l h e ao b o len cap ps ih =>
  intro d w hd hn hAt;show Calls Tryz.prog 131 #[.agg #[.slice n.ao n.len n.cap,.slice g.ao g.len g.cap],.agg #[.int .i64 k,.int .i64 l,.slice ao len cap,.int .i64 h,.int .i64 e],.int .i64 d] w fun r w'=>r=.returned (.bool (Ty.fm n.len (.mk k l h e ao b o len cap ps) d))∧Below w.heap.size w w'
  obtain⟨L0,X0,B0⟩:=zfj w n g (.mk k l h e ao b o len cap ps);have hn2:=hn.kept B0;have hA2:=hAt.kept B0;have hb:len≤9223372036854775807:=hAt.bound;have hnil:0<len→ao=some ⟨b,o,none⟩:=hAt.nil;unfold latO tyO at *;have l0:=fun x=>Gr.cell x L0.c0;have l1:=fun x=>Gr.cell x L0.c1;have x0:=fun x=>Gr.cell x X0.c0;have x1:=fun x=>Gr.cell x X0.c1;have x2:=fun x=>Gr.cell x X0.c2;have x3:=fun x=>Gr.cell x X0.c3;have x4c:=fun x=>Gr.cell x X0.c4;have hNE:Nonempty (Gr ((w.alloc (.cells #[.slice n.ao n.len n.cap,.slice g.ao g.len g.cap] 25)).alloc (.cells #[.int .i64 k,.int .i64 l,.slice ao len cap,.int .i64 h,.int .i64 e] 38))):=⟨⟨_,Below.refl _ _⟩⟩;simp only[Ty.k,Ty.l,Ty.h,Ty.e,Ty.ao,Ty.len,Ty.cap] at B0 L0 X0 hn2 hA2 l0 l1 x0 x1 x2 x3 x4c;clear hn hAt;rcases zt0 n.len k l h e ao b o len cap ps d with ⟨h1,hE⟩ | ⟨h1,h2,hE⟩ | ⟨h1,h2,h3,hE⟩ | ⟨h1,h2,h3,h4,hE⟩ | ⟨h1,h2,h3,h4,hE⟩
  ·have d1:decide ((6:Int)<d)=true:=by simp;omega
   have HE:Hid (Ty.fm n.len (.mk k l h e ao b o len cap ps) d=false):=hE;clear hE;go_enter Tryz.func131,Tryz.ntmps131
   go_wp2;refine zah (by kernel_rfl) (by kernel_rfl) ?_;repeat (first | go_big_quiet_step ((first | (go_at_call 176;exact Calls.gr _ (zen k _)) | (go_at_call 177;exact Calls.gr _ (zci n g l _ (hn2.kept (Gr.bl _)))) | (go_at_call 178;exact Calls.gr _ (zcb n g k l h e ao b o len cap ps _ (hn2.kept (Gr.bl _)))))))
   refine wpQuiet_nil ?_;rintro w4 ⟨x4,rfl⟩;have B4:=x4.bl;generalize x4.w=w4 at B4 ⊢;clear x4 l0 l1 x0 x1 x2 x3 x4c hNE;go_wp2;go_ret;exact⟨zab HE.out.symm,Below.next B0 B4⟩
  ·have d1:decide ((6:Int)<d)=false:=by simp;omega
   have HE:Hid (Ty.fm n.len (.mk k l h e ao b o len cap ps) d=false):=hE;clear hE;go_enter Tryz.func131,Tryz.ntmps131
   go_wp2;refine zah (by kernel_rfl) (by kernel_rfl) ?_;repeat (first | go_big_quiet_step ((first | (go_at_call 176;exact Calls.gr _ (zen k _)) | (go_at_call 177;exact Calls.gr _ (zci n g l _ (hn2.kept (Gr.bl _)))) | (go_at_call 178;exact Calls.gr _ (zcb n g k l h e ao b o len cap ps _ (hn2.kept (Gr.bl _)))))))
   refine wpQuiet_nil ?_;rintro w4 ⟨x4,rfl⟩;have B4:=x4.bl;generalize x4.w=w4 at B4 ⊢;clear x4 l0 l1 x0 x1 x2 x3 x4c hNE;go_wp2;go_ret;exact⟨zab HE.out.symm,Below.next B0 B4⟩
  ·have d1:decide ((6:Int)<d)=false:=by simp;omega
   have HE:Hid (Ty.fm n.len (.mk k l h e ao b o len cap ps) d=false):=hE;clear hE;go_enter Tryz.func131,Tryz.ntmps131
   go_wp2;refine zah (by kernel_rfl) (by kernel_rfl) ?_;repeat (first | go_big_quiet_step ((first | (go_at_call 176;exact Calls.gr _ (zen k _)) | (go_at_call 177;exact Calls.gr _ (zci n g l _ (hn2.kept (Gr.bl _)))) | (go_at_call 178;exact Calls.gr _ (zcb n g k l h e ao b o len cap ps _ (hn2.kept (Gr.bl _)))))))
   refine wpQuiet_nil ?_;rintro w4 ⟨x4,rfl⟩;have B4:=x4.bl;generalize x4.w=w4 at B4 ⊢;clear x4 l0 l1 x0 x1 x2 x3 x4c hNE;go_wp2;go_ret;exact⟨zab HE.out.symm,Below.next B0 B4⟩
  ·have d1:decide ((6:Int)<d)=false:=by simp;omega
   have HE:Hid (Ty.fm n.len (.mk k l h e ao b o len cap ps) d=false):=hE;clear hE;go_enter Tryz.func131,Tryz.ntmps131
   go_wp2;refine zah (by kernel_rfl) (by kernel_rfl) ?_;repeat (first | go_big_quiet_step ((first | (go_at_call 176;exact Calls.gr _ (zen k _)) | (go_at_call 177;exact Calls.gr _ (zci n g l _ (hn2.kept (Gr.bl _)))) | (go_at_call 178;exact Calls.gr _ (zcb n g k l h e ao b o len cap ps _ (hn2.kept (Gr.bl _)))))))
   refine wpQuiet_nil ?_;rintro w4 ⟨x4,rfl⟩;have B4:=x4.bl;generalize x4.w=w4 at B4 ⊢;clear x4 l0 l1 x0 x1 x2 x3 x4c hNE;go_wp2;go_ret;exact⟨zab HE.out.symm,Below.next B0 B4⟩
  ·have d1:decide ((6:Int)<d)=false:=by simp;omega
   have HE:Hid (Ty.fm n.len (.mk k l h e ao b o len cap ps) d=decide (∀i,i<len→Ty.fm n.len (ps i) (d+1)=true)):=hE;clear hE;go_enter Tryz.func131,Tryz.ntmps131
   go_wp2;refine zah (by kernel_rfl) (by kernel_rfl) ?_;repeat (first | go_big_quiet_step ((first | (go_at_call 176;exact Calls.gr _ (zen k _)) | (go_at_call 177;exact Calls.gr _ (zci n g l _ (hn2.kept (Gr.bl _)))) | (go_at_call 178;exact Calls.gr _ (zcb n g k l h e ao b o len cap ps _ (hn2.kept (Gr.bl _)))))))
   refine wpQuiet_nil ?_;rintro w4 ⟨x4,rfl⟩;have B4:=x4.bl;generalize x4.w=w4 at B4 ⊢;clear x4 l0 l1 x0 x1 x2 x3 x4c hNE;have L4:=L0.kept B4;have X4:=X0.kept B4;have B5:=Below.next B0 B4;have hn4:=hn2.kept B4;have hA4:=hA2.kept B4;have x2:w4.cell? ⟨w.heap.size+1,2,none⟩=some (.slice ao len cap):=X4.c2;clear L0 X0 B4 hn2 hA2 B0;go_wp2;clear h2 h3 h4 d1;go_loopw [36] (fun i wr=>∃j:Nat,j≤len∧i=.int .i64 j∧(∀i,i<j→Ty.fm n.len (ps i) (d+1)=true)∧Below w4.heap.size w4 wr) (fun i _=>len - (intOf i).toNat)
   case atStart=>exact⟨0,Nat.zero_le _,rfl,fun _ h=>absurd h (Nat.not_lt_zero _),Below.refl _ _⟩
   case round =>
    obtain⟨j,hj,rfl,hdone,hB⟩:=hrel;have HD:Hid (∀i,i<j→Ty.fm n.len (ps i) (d+1)=true):=hdone;clear hdone;by_cases hlt:j<len
    ·have ij:(j:Int)<len:=by omega
     have a0:=hnil (by omega);subst a0;have hA5:=hA4.kept hB;have C:C5 wr b (o+j*5) (ps j):=hA5.cells hlt;have P:(ps j).At wr:=hA5.part hlt;have N0:=Bx.new wr (ps j);have B6:=zac wr (.cells #[.int .i64 (ps j).k,.int .i64 (ps j).l,.slice (ps j).ao (ps j).len (ps j).cap,.int .i64 (ps j).h,.int .i64 (ps j).e] 38);have L5:=(L4.kept hB).kept B6;have y0:=C.c0;have y1:=C.c1;have y2:=C.c2;have y3:=C.c3;have y4:=C.c4;have l0:=L5.c0;have l1:=L5.c1;clear C hA5;have e1:((d+1:Nat):Int)=d+1:=by omega
     have hi:=ih j (d+1) _ (by omega) ((hn4.kept hB).kept B6) (P.kept B6);rw[e1] at hi;go_wp2_with fail
     refine hi.mono ?_;rintro r w6 ⟨rfl,hb6⟩;have B7:=Below.next hB (Below.next B6 hb6);clear y0 y1 y2 y3 y4 l0 l1 L5 hi P;cases hf:Ty.fm n.len (ps j) (d+1)
     ·go_wp2;go_ret;exact⟨zab (by rw[HE.out];exact (decide_eq_false (fun hh=>by rw[hh j hlt] at hf;cases hf)).symm),Below.next B5 B7⟩
     ·go_wp2;go_roundw
      case rel=>exact⟨j+1,by omega,by go_num,fun i hi=>(by
        by_cases e:i=j
        ·subst e;exact hf
        ·exact HD.out i (by omega)),B7⟩
      case measure=>simp[intOf];omega
    ·have e:len=j:=by omega
     subst e;have dl:¬(len:Int)<len:=by omega
     go_wp2;go_ret;exact⟨zab (by rw[HE.out];exact (decide_eq_true HD.out).symm),Below.next B5 hB⟩
def Ty.ok (N:Nat)(t:Ty):Bool:=t.fm N 1&&decide (t.nodes≤40)
theorem zg4 (n:Strs)(g:Grid)(ao:Option Addr)(b o len cap:Nat)(ps:Nat→Ty)(w:World)(hn:n.At w)(hg:g.At w)(hr:Ty.At w (.mk 0 0 0 0 ao b o len cap ps)) :
  Calls Tryz.prog 91 #[.agg #[.slice n.ao n.len n.cap,.slice g.ao g.len g.cap],.slice ao len cap] w fun e w'=>e=.returned (.bool (zae n g&&decide (∀i,i<len→(ps i).ok n.len=true)))∧Below w.heap.size w w':=by
 have L0:=Bl.new w n g;have B0:=zac w (.cells #[.slice n.ao n.len n.cap,.slice g.ao g.len g.cap] 25);have hb:len≤9223372036854775807:=hr.bound;have hnil:0<len→ao=some ⟨b,o,none⟩:=hr.nil;have hn2:=hn.kept B0;have hg2:=hg.kept B0;have hr2:=hr.kept B0;clear hn hg hr;go_enter Tryz.func91,Tryz.ntmps91
 go_wp2_with fail
 refine (zdc n g _ hn2 hg2).mono ?_;rintro r w1 ⟨rfl,hb1⟩;have L1:=L0.kept hb1;have hn3:=hn2.kept hb1;have hr3:=hr2.kept hb1;have B1:=Below.next B0 hb1;clear L0 hb1 hn2 hg2 hr2 B0;cases hF:zae n g
 ·go_wp2;go_ret;exact⟨zab (by rw[hF];rfl),B1⟩
 go_wp2;have HT:Hid (zae n g=true):=hF;clear hF;go_loopw [12] (fun i wr=>∃j:Nat,j≤len∧i=.int .i64 j∧(∀i,i<j→(ps i).ok n.len=true)∧Below w1.heap.size w1 wr) (fun i _=>len - (intOf i).toNat)
 case atStart=>exact⟨0,Nat.zero_le _,rfl,fun _ h=>absurd h (Nat.not_lt_zero _),Below.refl _ _⟩
 case round =>
  obtain⟨j,hj,rfl,hdone,hB⟩:=hrel;have HD:Hid (∀i,i<j→(ps i).ok n.len=true):=hdone;clear hdone;by_cases hlt:j<len
  ·have ij:(j:Int)<len:=by omega
   have a0:=hnil (by omega);subst a0;have hA5:=hr3.kept hB;have C:C5 wr b (o+j*5) (ps j):=hA5.cells hlt;have P:(ps j).At wr:=hA5.part hlt;have N0:=Bx.new wr (ps j);have B6:=zac wr (.cells #[.int .i64 (ps j).k,.int .i64 (ps j).l,.slice (ps j).ao (ps j).len (ps j).cap,.int .i64 (ps j).h,.int .i64 (ps j).e] 38);have L5:=(L1.kept hB).kept B6;have P6:=P.kept B6;have y0:=C.c0;have y1:=C.c1;have y2:=C.c2;have y3:=C.c3;have y4:=C.c4;have l0:=L5.c0;have l1:=L5.c1;clear C hA5 P;have hi:=zoj n g (ps j) 1 _ (by omega) ((hn3.kept hB).kept B6) P6;go_wp2_with fail
   refine hi.mono ?_;rintro r w6 ⟨rfl,hb6⟩;have N1:=N0.kept hb6;have P7:=P6.kept hb6;have B7:=Below.next hB (Below.next B6 hb6);clear y0 y1 y2 y3 y4 l0 l1 L5 hi N0 P6;cases hf:Ty.fm n.len (ps j) 1
   ·have HN:Hid ((ps j).ok n.len=false):=by show (ps j).ok n.len=false;unfold Ty.ok;rw[hf];rfl
    clear hf;go_wp2;go_ret;exact⟨zab (by rw[HT.out,Bool.true_and];exact (decide_eq_false (fun hh=>by have:=HN.out;rw[hh j hlt] at this;cases this)).symm),Below.next B1 B7⟩
   ·have HF:Hid (Ty.fm n.len (ps j) 1=true):=hf;have n0:=N1.c0;have n1:=N1.c1;have n2:=N1.c2;have n3:=N1.c3;have n4:=N1.c4;clear hf N1;go_wp2_with fail
    refine (ztc (ps j) _ P7).mono ?_;rintro r w7 ⟨rfl,hb7⟩;have B8:=Below.next B7 hb7;clear n0 n1 n2 n3 n4;by_cases h40:(ps j).nodes≤40
    ·have HY:Hid ((ps j).ok n.len=true):=by show (ps j).ok n.len=true;unfold Ty.ok;rw[HF.out,decide_eq_true h40];rfl
     have d:decide ((40:Int)<(min (ps j).nodes 41:Nat))=false:=by simp only[decide_eq_false_iff_not];omega
     generalize min (ps j).nodes 41=q at d ⊢;go_wp2;go_roundw
     case rel=>exact⟨j+1,by omega,by go_num,fun i hi=>(by
       by_cases e:i=j
       ·subst e;exact HY.out
       ·exact HD.out i (by omega)),B8⟩
     case measure=>simp[intOf];omega
    ·have HN:Hid ((ps j).ok n.len=false):=by show (ps j).ok n.len=false;unfold Ty.ok;rw[HF.out,decide_eq_false h40];rfl
     have d:decide ((40:Int)<(min (ps j).nodes 41:Nat))=true:=by simp only[decide_eq_true_eq];omega
     generalize min (ps j).nodes 41=q at d ⊢;go_wp2;go_ret;exact⟨zab (by rw[HT.out,Bool.true_and];exact (decide_eq_false (fun hh=>by have:=HN.out;rw[hh j hlt] at this;cases this)).symm),Below.next B1 B8⟩
  ·have e:len=j:=by omega
   subst e;have dl:¬(len:Int)<len:=by omega
   go_wp2;go_ret;exact⟨zab (by rw[HT.out,Bool.true_and];exact (decide_eq_true HD.out).symm),Below.next B1 hB⟩
def row2 (s t:Ty):Obj:=.cells #[.int .i64 s.k,.int .i64 s.l,.slice s.ao s.len s.cap,.int .i64 s.h,.int .i64 s.e,.int .i64 t.k,.int .i64 t.l,.slice t.ao t.len t.cap,.int .i64 t.h,.int .i64 t.e] 38
theorem zxm (w:World)(t:Ty)(h:t.At w):Ty.At (w.alloc (tyO t)) (.mk 0 0 0 0 (some ⟨w.heap.size,0,none⟩) w.heap.size 0 1 1 (fun _=>t)) :=
 ⟨fun _=>rfl,by omega,fun i hi=>⟨by
  have e:i=0:=by omega
  subst e;have X:=Bx.new w t;exact⟨X.c0,X.c1,X.c2,X.c3,X.c4⟩,h.kept (zac _ _)⟩⟩
theorem zpf (w:World)(s t:Ty)(hs:s.At w)(ht:t.At w):Ty.At (w.alloc (row2 s t)) (.mk 0 0 0 0 (some ⟨w.heap.size,0,none⟩) w.heap.size 0 2 2 (fun i=>if i=0 then s else t)) :=
 ⟨fun _=>rfl,by omega,fun i hi=>by
  by_cases e:i=0
  ·subst e;refine⟨⟨?_,?_,?_,?_,?_⟩,hs.kept (zac _ _)⟩
   all_goals simp[row2]
  ·have e1:i=1:=by omega
   subst e1;refine⟨⟨?_,?_,?_,?_,?_⟩,ht.kept (zac _ _)⟩
   all_goals simp[row2]⟩
def okB (n:Strs)(g:Grid)(t:Ty):Bool:=zae n g&&t.ok n.len
theorem ziv (n:Strs)(g:Grid)(t:Ty)(w:World)(hn:n.At w)(hg:g.At w)(ht:t.At w) :
  Calls Tryz.prog 53 #[.agg #[.slice n.ao n.len n.cap,.slice g.ao g.len g.cap],.agg #[.int .i64 t.k,.int .i64 t.l,.slice t.ao t.len t.cap,.int .i64 t.h,.int .i64 t.e]] w fun e w'=>e=.returned (.bool (okB n g t))∧Below w.heap.size w w':=by
 obtain⟨L0,X0,B0⟩:=zfj w n g t;have R1:=zxm _ t (ht.kept B0);have B1:=zac ((w.alloc (latO n g)).alloc (tyO t)) (tyO t);have hA:=zg4 n g _ _ _ _ _ _ _ ((hn.kept B0).kept B1) ((hg.kept B0).kept B1) R1;rw[alloc_size,alloc_size] at hA;have HE:Hid ((zae n g&&decide (∀i,i<1→Ty.ok n.len ((fun _=>t) i)=true))=okB n g t):=by
  show (zae n g&&decide (∀i,i<1→Ty.ok n.len ((fun _=>t) i)=true))=okB n g t
  unfold okB
  congr 1
  cases hk:t.ok n.len
  ·exact decide_eq_false (fun h=>by have:=h 0 (by omega);simp only[hk] at this;cases this)
  ·exact decide_eq_true (fun _ _=>hk)
 unfold latO tyO at *;have B2:=Below.next B0 B1;go_enter Tryz.func53,Tryz.ntmps53
 go_wp2_with fail
 refine hA.mono ?_;rintro r w1 ⟨rfl,hb1⟩;rw[HE.out];go_wp2;go_ret;exact⟨rfl,Below.next B2 hb1⟩
def hdEq (s t:Ty):Bool:=((((s.k==t.k)&&(s.l==t.l))&&(s.h==t.h))&&(s.e==t.e))&&(s.len==t.len)
theorem ze0 (s t:Ty):s.same t=(hdEq s t&&decide (∀i,i<s.len→(s.ps i).same (t.ps i)=true)):=by
 rcases s with _ | ⟨k,l,h,e,ao,b,o,len,cap,ps⟩
 ·show ((((0==t.k)&&(0==t.l))&&((0==t.h)&&(0==t.e)))&&(0==t.len))=((((((0:Int)==t.k)&&((0:Int)==t.l))&&((0:Int)==t.h))&&((0:Int)==t.e))&&(0==t.len)&&decide (∀i:Nat,i<0→Ty.same (Ty.dm.ps i) (t.ps i)=true))
  have e:decide (∀i:Nat,i<0→Ty.same (Ty.dm.ps i) (t.ps i)=true)=true:=decide_eq_true (fun _ h=>absurd h (Nat.not_lt_zero _));rw[e];cases ((0:Int)==t.k) <;> cases ((0:Int)==t.l) <;> cases ((0:Int)==t.h) <;> cases ((0:Int)==t.e) <;> simp
 show (((((k==t.k)&&(l==t.l))&&((h==t.h)&&(e==t.e)))&&(len==t.len))&&decide (∀i,i<len→Ty.same (ps i) (t.ps i)=true))=(((((k==t.k)&&(l==t.l))&&(h==t.h))&&(e==t.e))&&(len==t.len)&&decide (∀i,i<len→Ty.same (ps i) (t.ps i)=true))
 cases (k==t.k) <;> cases (l==t.l) <;> cases (h==t.h) <;> cases (e==t.e) <;> rfl
theorem zuf (s t:Ty):((s.k==t.k)=false∧hdEq s t=false)∨((s.k==t.k)=true∧(s.l==t.l)=false∧hdEq s t=false)∨((s.k==t.k)=true∧(s.l==t.l)=true∧(s.h==t.h)=false∧hdEq s t=false)∨((s.k==t.k)=true∧(s.l==t.l)=true∧(s.h==t.h)=true∧(s.e==t.e)=false∧hdEq s t=false)∨((s.k==t.k)=true∧(s.l==t.l)=true∧(s.h==t.h)=true∧(s.e==t.e)=true∧hdEq s t=((s.len:Int)==t.len)):=by
 unfold hdEq;have:((s.len:Int)==t.len)=(s.len==t.len):=by
  by_cases h:s.len=t.len
  ·rw[h];simp
  ·rw[beq_eq_false_iff_ne.2 h,beq_eq_false_iff_ne.2 (by omega)]
 rw[this];cases (s.k==t.k) <;> cases (s.l==t.l) <;> cases (s.h==t.h) <;> cases (s.e==t.e) <;> simp
theorem zhg (s t:Ty)(w:World)(hs:s.At w)(ht:t.At w) :
  Calls Tryz.prog 183 #[.agg #[.int .i64 s.k,.int .i64 s.l,.slice s.ao s.len s.cap,.int .i64 s.h,.int .i64 s.e],.agg #[.int .i64 t.k,.int .i64 t.l,.slice t.ao t.len t.cap,.int .i64 t.h,.int .i64 t.e]] w fun e w'=>e=.returned (.bool (hdEq s t))∧Below w.heap.size w w':=by
 obtain⟨X0,Y0,B0⟩:=zi5 w s t;have b1:=hs.bound;have b2:=ht.bound;unfold tyO at *;rcases zuf s t with ⟨h1,hE⟩ | ⟨h1,h2,hE⟩ | ⟨h1,h2,h3,hE⟩ | ⟨h1,h2,h3,h4,hE⟩ | ⟨h1,h2,h3,h4,hE⟩
 all_goals rw[hE]
 all_goals clear hE
 all_goals
  go_enter Tryz.func183,Tryz.ntmps183
  go_wp2;go_ret;exact⟨rfl,B0⟩
theorem gbr (w:World)(r:Option Nat):w.grownBy w r:=⟨rfl,rfl,rfl,Nat.le_refl _,fun _ _ _=>rfl⟩
theorem zce {w0 a b:World}{r:Option Nat}(h:Below w0.heap.size w0 a)(hg:a.grownBy b r)(hr:∀k,r=some k→w0.heap.size≤k):Below w0.heap.size w0 b:=by
 have hs:=h.size;refine⟨hg.os.trans h.os,hg.tape.trans h.tape,hg.output.trans h.output,Nat.le_trans h.size hg.size,fun k hk=>?_⟩;rw[hg.block k (by omega) (fun e=>by have:=hr k e.symm;omega)]
 exact h.block k hk
theorem owb {w:World}{base:Nat}{e:TypeId}{size:Nat}{v:Value}{n:Nat}{xs:List Value}(h:w.ownsRow base e size v n xs){k:Nat}(hb:v.ownBlock=some k):base≤k∧k<w.heap.size:=by
 obtain⟨_,⟨rfl,_⟩ | ⟨g,cap,cur,rfl,hg,hh,_⟩⟩:=h
 ·cases hb
 ·have:g=k:=by simpa [Value.ownBlock] using hb
  subst this;exact⟨hg,(Array.getElem?_eq_some_iff.1 hh).1⟩
theorem owk {w w':World}{base:Nat}{e:TypeId}{size:Nat}{v:Value}{n:Nat}{xs:List Value}(h:w.ownsRow base e size v n xs)(hb:Below w.heap.size w w'):w'.ownsRow base e size v n xs:=by
 have hl:=fun k hk=>(owb h (k:=k) hk).2;obtain⟨h0,h⟩:=h;refine⟨h0,?_⟩;rcases h with ⟨rfl,hn⟩ | ⟨g,cap,cur,rfl,hg,hh,hr⟩
 ·exact Or.inl ⟨rfl,hn⟩
 ·exact Or.inr ⟨g,cap,cur,rfl,hg,(hb.block g (hl g rfl)).trans hh,hr⟩
theorem zkb {w:World}{base:Nat}{e:TypeId}{size:Nat}{v:Value}{n:Nat}{xs:List Value}(h:w.ownsRow base e size v n xs):∃ao cap,v=.slice ao n cap:=by
 obtain⟨_,⟨rfl,rfl⟩ | ⟨g,cap,cur,rfl,_⟩⟩:=h
 ·exact⟨none,0,rfl⟩
 ·exact⟨_,cap,rfl⟩
theorem zf1 {S E:TypeId}{size bytes:Nat}{z:Value}(hu:Tryz.prog.underlying S=some (.slice E))(hinf:(Tryz.prog.info? E).map (fun i=>(i.zero,i.size,i.bytes))=some (some z,size,bytes))(hzc:z.cells.size=size)(hpos:0<size)(w:World)(ty:TypeId)(base:Nat)(v:Value)(n:Nat)(xs:List Value)(ho:w.ownsRow base E size v n xs)(ao:Option Addr)(m c:Nat)(news:List Value)(hnone:ao=none→m=0∧c=0)(hl:news.length=m*size)(hn:∀a,ao=some a→∀j u,news[j]?=some u→w.cell? (a.add j)=some u)(h1:∀u ∈ news,u.oneCell'=true)(h63:n+m≤maxLen)(hbytes:(n+m)*bytes≤140737488355328)(hb:base≤w.heap.size) :
  ∃v' w',(Builtin.append_ #[S,S] ty #[v,.slice ao m c]).run Tryz.prog w=.ok v' w'∧w'.ownsRow base E size v' (n+m) (xs++news)∧w.grownBy w' v.ownBlock:=by
 obtain⟨i0,hi,hz0,hz1,hz2⟩:=info_parts hinf;cases ao with
 | none =>
  obtain⟨rfl,rfl⟩:=hnone rfl;have hl0:news=[]:=List.eq_nil_of_length_eq_zero (by rw[hl];omega)
  subst hl0;refine⟨v,w,?_,?_,gbr _ _⟩
  ·exact run_append_owned_none (P:=Tryz.prog) w base S ty E i0 size hu hi v n xs ho
  ·rw[List.append_nil];exact ho
 | some a =>
  obtain⟨v',w',hr,h2,h3,_⟩:=run_append_own (P:=Tryz.prog) w base S ty E i0 z size bytes hu hi hz0 hz1 hz2 hzc hpos v n xs ho a m c news hl (hn a rfl) h1 h63 hbytes hb;exact⟨v',w',hr,h2,h3⟩
theorem zeq {S E:TypeId}{size bytes:Nat}{z:Value}(hu:Tryz.prog.underlying S=some (.slice E))(hinf:(Tryz.prog.info? E).map (fun i=>(i.zero,i.size,i.bytes))=some (some z,size,bytes))(hzc:z.cells.size=size)(hpos:0<size){w:World}{ops:Array Oper}{rest:List Oper}{o:Oper}{a:Act}{Q:Exit→Act→World→Prop}(hgd:o.guard=none)(s x:Operand)
  (hop:o.op=.call { callee:=.builtin .append,args:=#[s,x],argTypes:=#[S,S] }) (base:Nat) (v:Value) (n:Nat) (xs:List Value) (hs:a.eval s=v) (ho:w.ownsRow base E size v n xs) (ao:Option Addr) (m c:Nat) (news:List Value) (hx:a.eval x=.slice ao m c) (hnone:ao=none→m=0∧c=0) (hl:news.length=m*size) (hn:∀a,ao=some a→∀j u,news[j]?=some u→w.cell? (a.add j)=some u) (h1:∀u ∈ news,u.oneCell'=true) (h63:n+m≤maxLen) (hbytes:(n+m)*bytes≤140737488355328) (hb:base≤w.heap.size)
  (h:∀v' w',w'.ownsRow base E size v' (n+m) (xs++news)→w.grownBy w' v.ownBlock→wpList Tryz.prog ops Q rest (a.put o.dst v') w'):wpList Tryz.prog ops Q (o :: rest) a w:=by
 refine wpList_plain hgd fun K hK=>?_;obtain⟨v',w',hr,h2,h3⟩:=zf1 hu hinf hzc hpos w o.type base v n xs ho ao m c news hnone hl hn h1 h63 hbytes hb;unfold Oper.wp execOp;simp only[hop,resolve,invoke,builtin,Sem.run_bind,Sem.run_pure,Result.andThen_ok,List.map_toArray,List.map_cons,List.map_nil,hs,hx,hr];exact hK _ _ (h v' w' h2 h3)
def za2 (f:Nat→List Value):Nat→List Value
 | 0=>[]
 | k+1=>za2 f k++f k
theorem zk8 {f:Nat→List Value}{c:Nat}(h:∀i,(f i).length=c):∀k,(za2 f k).length=k*c
 | 0=>by simp[za2]
 | k+1=>by
  show (za2 f k++f k).length=_
  rw[List.length_append,zk8 h k,h,Nat.add_mul,Nat.one_mul]
theorem zhc {f:Nat→List Value}{c:Nat}(h:∀i,(f i).length=c):∀k i j,i<k→j<c→(za2 f k)[i*c+j]?=(f i)[j]?
 | 0,i,_,hi,_=>absurd hi (Nat.not_lt_zero _)
 | k+1,i,j,hi,hj=>by
  show (za2 f k++f k)[i*c+j]?=_
  have hl:=zk8 h k;by_cases e:i=k
  ·subst e;rw[List.getElem?_append_right (by rw[hl];omega),hl]
   congr 1;omega
  ·have h2:i*c+j<k*c:=by
    have:(i+1)*c≤k*c:=Nat.mul_le_mul_right c (by omega);rw[Nat.add_mul,Nat.one_mul] at this;omega
   rw[List.getElem?_append_left (by rw[hl];exact h2)]
   exact zhc h k i j (by omega) hj
theorem adp (b off i:Nat):(⟨b,off,none⟩:Addr).add i=⟨b,off+i,none⟩:=by unfold Addr.add;split <;> simp_all
end
section
open Go.ChangeShapes Go.WideShapes Go.ChangeAt Go.RowKit Go.Deep Go.Joins
section
variable {H:Type} {enc:TypeId × Value→H} {W:World} {base:Nat}
end
end
end Go.Proofs.YtfobijdkoeifjaaGreatDoor
