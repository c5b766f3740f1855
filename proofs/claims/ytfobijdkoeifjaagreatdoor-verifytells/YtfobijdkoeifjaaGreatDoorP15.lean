import Derived.Test.YtfobijdkoeifjaaGreatDoorP13
import Derived.Test.YtfobijdkoeifjaaGreatDoorP9
import Derived.Deep.MidRow
import Derived.Test.YtfobijdkoeifjaaGreatDoorP3
import Derived.Test.YtfobijdkoeifjaaGreatDoorP14
set_option maxRecDepth 100000
set_option maxHeartbeats 32000000
namespace Go.Proofs.YtfobijdkoeifjaaGreatDoor
section
open Go.RowKit
theorem zow {f:Nat→List Ty→List Ty}(hf:∀i R (a:Nat) (s:Ty),R[a]?=some s→(f i R)[a]?=some s):∀(j:Nat) (R:List Ty) (a:Nat) (s:Ty),R[a]?=some s→(itr f j R)[a]?=some s
 | 0,_,_,_,h=>h
 | j+1,R,a,s,h=>hf j _ a s (zow hf j R a s h)
theorem zjd:∀(t:Ty) (R:List Ty) (a:Nat) (s:Ty),R[a]?=some s→(putT t R)[a]?=some s
 | .dm,_,_,_,h=>h
 | .mk k l hh e ao b o len cap ps,R,a,s,h=>by
  have h1:=zow (f:=fun i=>putT (ps i)) (fun i R a s=>zjd (ps i) R a s) len R a s h;rw[putT];split
  ·exact h1
  ·exact zf5 h1
theorem zib {f:Nat→List Ty→List Ty}{c:Nat→Nat}(hf:∀i R,(f i R).length≤R.length+c i):∀(j:Nat) (R:List Ty),(itr f j R).length≤R.length+za3 c j
 | 0,R=>by simp[itr,za3]
 | j+1,R=>by
  have h1:=hf j (itr f j R);have h2:=zib hf j R;show (f j (itr f j R)).length≤R.length+(za3 c j+c j)
  omega
theorem zga:∀(t:Ty) (R:List Ty),(putT t R).length≤R.length+t.nodes
 | .dm,R=>by simp[putT]
 | .mk k l hh e ao b o len cap ps,R=>by
  have h1:=zib (f:=fun i=>putT (ps i)) (c:=fun i=>(ps i).nodes) (fun i R=>zga (ps i) R) len R;have h2:(Ty.mk k l hh e ao b o len cap ps).nodes=1+za3 (fun i=>(ps i).nodes) len:=rfl;rw[putT];split
  ·omega
  ·rw[List.length_append];have:[Ty.mk k l hh e ao b o len cap ps].length=1:=rfl;omega
def PrtAt (R:List Ty)(t:Ty)(x:Int):Prop:=∃(a:Nat) (s:Ty),x=a∧R[a]?=some s∧s.same t=true
theorem PrtAt.pre {R R':List Ty}{t:Ty}{x:Int}(h:PrtAt R t x)(hR:∀(a:Nat) (s:Ty),R[a]?=some s→R'[a]?=some s):PrtAt R' t x:=by
 obtain⟨a,s,h1,h2,h3⟩:=h;exact⟨a,s,h1,hR a s h2,h3⟩
theorem PrtAt.prt {R:List Ty}{t:Ty}{j:Nat}{x:Int}(h1:j<t.len→PrtAt R (t.ps j) x)(h2:¬j<t.len→x=-1):Prt R R.length t j x :=
 ⟨fun hj=>by obtain⟨a,s,e,hs,hss⟩:=h1 hj;exact⟨a,s,e,(List.getElem?_eq_some_iff.1 hs).1,hs,hss⟩,h2⟩
theorem zdo (R:List Ty)(t:Ty):(za8 R t).length≤R.length+t.nodes:=by
 unfold za8;split
 ·omega
 ·exact zga t R
end
section
open Go Go.RowKit
structure Is where
 ao:Option Addr
 b:Nat
 o:Nat
 len:Nat
 cap:Nat
 f:Nat→Int
structure Hd where
 op:Int
 dst:Int
 a:Int
 b:Int
 n:Int
 env:Int
 t:Ty
 ar:Is
inductive Nd where
 | dm:Nd
 | mk (h:Hd) (bao:Option Addr) (bb bo bl bc:Nat) (bp:Nat→Nd) (eao:Option Addr) (eb eo el ec:Nat) (ep:Nat→Nd):Nd
structure Ns where
 ao:Option Addr
 b:Nat
 o:Nat
 len:Nat
 cap:Nat
 ps:Nat→Nd
structure Fc where
 param:Ty
 result:Ty
 caps:Ty
 heap:Int
 exc:Int
 slots:Ty
 body:Ns
 out:Int
structure Fl where
 ao:Option Addr
 b:Nat
 o:Nat
 len:Nat
 cap:Nat
 ps:Nat→Fc
def mk2 (k l h e:Int)(p q:Ty):Ty:=.mk k l h e none 0 0 2 2 (fun i=>if i=0 then p else q)
def mk1 (k l:Int)(p:Ty):Ty:=.mk k l 0 0 none 0 0 1 1 (fun _=>p)
def zb0 (k:Int)(t:Ty):Ty:=if (t.k != k)=true then zaa 0 0 else t
theorem zqt {n:Strs}{g:Grid}{u r t:Ty}(hu:u.Nd)(hr:r.Nd)(h:u.same r=true):belB n g u t=belB n g r t:=by
 have e:=zdz (N:=n.len) u r hu hr h;have eo:u.ok n.len=r.ok n.len:=by unfold Ty.ok;rw[e.1,e.2]
 unfold belB;rw[eo];cases hF:zae n g
 ·rfl
 cases hr':r.ok n.len
 ·rfl
 cases ht:t.ok n.len
 ·rfl
 have P:=po_of hF;have fu:Fd n.len u:=zgm (eo.trans hr');have fr:Fd n.len r:=zgm hr';have ft:Fd n.len t:=zgm ht;have sb:=zmn P u r fu fr h;have key:u.bel g.B true t=true↔r.bel g.B true t=true:=⟨fun x=>(zft P r u t fr fu ft).1 sb.2 x,fun x=>(zft P u r t fu fr ft).1 sb.1 x⟩;rw[Bool.true_and,Bool.true_and];exact Bool.eq_iff_iff.2 key
theorem zq7 {n:Strs}{g:Grid}{u r t:Ty}(hu:u.Nd)(hr:r.Nd)(h:u.same r=true):belB n g t u=belB n g t r:=by
 have e:=zdz (N:=n.len) u r hu hr h;have eo:u.ok n.len=r.ok n.len:=by unfold Ty.ok;rw[e.1,e.2]
 unfold belB;rw[eo];cases hF:zae n g
 ·rfl
 cases ht:t.ok n.len
 ·rfl
 cases hr':r.ok n.len
 ·rfl
 have P:=po_of hF;have fu:Fd n.len u:=zgm (eo.trans hr');have fr:Fd n.len r:=zgm hr';have ft:Fd n.len t:=zgm ht;have sb:=zmn P u r fu fr h;have key:t.bel g.B true u=true↔t.bel g.B true r=true:=⟨fun x=>(zft P t u r ft fu fr).1 x sb.1,fun x=>(zft P t r u ft fr fu).1 x sb.2⟩;rw[Bool.true_and,Bool.true_and];exact Bool.eq_iff_iff.2 key
theorem zwb {j:Int}:∀{t:Ty},t.Nd→(t.setL j).Nd
 | .dm,h=>h.elim
 | .mk _ _ _ _ _ _ _ _ _ _,h=>h
theorem zv3 (k l:Int):(zaa k l).Nd:=(zav k l default).nd
theorem zcu {n:Strs}{g:Grid}{t:Ty}{a:Int}(h:t.Nd):(zak n g t a).Nd:=by
 unfold zak;split
 ·exact zwb h
 ·exact zv3 _ _
theorem zpz {j:Int}:∀{s t:Ty},s.Nd→t.Nd→s.same t=true→(s.setL j).same (t.setL j)=true
 | .dm,_,h,_,_=>h.elim
 | _,.dm,_,h,_=>h.elim
 | .mk _ _ _ _ _ _ _ _ _ _,.mk _ _ _ _ _ _ _ _ _ _,_,_,h=>by
  rw[za4] at h ⊢;exact⟨⟨h.1.1,rfl,h.1.2.2⟩,h.2⟩
theorem zbi {n:Strs}{g:Grid}{u r:Ty}{a:Int}(hu:u.Nd)(hr:r.Nd)(h:u.same r=true):(zak n g u a).same (zak n g r a)=true:=by
 have e:=zdz (N:=n.len) u r hu hr h;have eo:okB n g u=okB n g r:=by unfold okB Ty.ok;rw[e.1,e.2]
 have el:u.l=r.l:=((za4 u r).1 h).1.2.1;unfold zak;rw[eo,el];split
 ·exact zpz hu hr h
 ·exact zaj _
def zei (D:Nat)(r:Ty)(w:World)(e:Ending)(w':World):Prop:=∃u:Ty,e=.returned (.agg u.vs.toArray)∧u.At w'∧u.Blk (fun b=>b<D∨w.heap.size≤b)∧u.same r=true∧Below w.heap.size w w'
theorem Ty.vs_one (t:Ty):t.vs.all (·.oneCell')=true:=by simp[Ty.vs,Value.oneCell']
def zTv:List Value:=[.int .i64 0,.int .i64 0,.slice none 0 0,.int .i64 0,.int .i64 0]
theorem zq6 (D:Nat)(n:Strs)(g:Grid)(t:Ty)(a:Int)(w:World)(hn:n.At w)(hg:g.At w)(ht:t.At w) :
  Calls Tryz.prog 21 #[.agg #[.slice n.ao n.len n.cap,.slice g.ao g.len g.cap],.agg t.vs.toArray,.int .i64 a] w (zei D (zak n g t a) w) :=
 (zhf n g t a w hn hg ht).mono fun _ _ ⟨u,h1,h2,h3,h4,h5⟩=>⟨u,h1,h2,h3.mono (fun _ h=>Or.inr h),h4,h5⟩
theorem Ty.At.wrote {w w':World}{B D m:Nat}{c:List Value}{t:TypeId}{u:Ty}(h:u.At w)(hk:u.Blk (fun b=>b<D∨m≤b))(W:WroteB w w' B c t)(h1:D≤B)(h2:B<m):u.At w' :=
 Ty.At.agree (Q:=fun b=>b<D∨m≤b) (fun b hb=>W.other b (by omega)) h hk
end
end Go.Proofs.YtfobijdkoeifjaaGreatDoor
