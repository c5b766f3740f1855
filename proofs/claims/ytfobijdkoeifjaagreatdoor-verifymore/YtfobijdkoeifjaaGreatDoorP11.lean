import Derived.Test.YtfobijdkoeifjaaGreatDoorP1
import Derived.ProofKit
import Derived.Deep.Grids
import Derived.Lib.SmallJoins
import Derived.Test.YtfobijdkoeifjaaGreatDoorP7
import Derived.Test.YtfobijdkoeifjaaGreatDoorP10
set_option maxRecDepth 100000
set_option maxHeartbeats 32000000
namespace Go.Proofs.YtfobijdkoeifjaaGreatDoor
section
open Go.ChangeShapes Go.WideShapes Go.ChangeAt Go.RowKit Go.Deep Go.Joins
theorem Tryz.cellsString:Tryz.prog.cellsOf 9=1:=by kernel_rfl
theorem Tryz.cellsBool:Tryz.prog.cellsOf 4=1:=by kernel_rfl
theorem Tryz.cellsRow:Tryz.prog.cellsOf 34=1:=by kernel_rfl
theorem Tryz.cellsLat:Tryz.prog.cellsOf 25=2:=by kernel_rfl
theorem addr_plain (b off i:Nat):(⟨b,off,none⟩:Addr).add i=⟨b,off+i,none⟩:=by unfold Addr.add;split <;> simp_all
section
variable {H:Type} {enc:TypeId × Value→H} {W:World} {base:Nat}
theorem zrg {fuel:Nat}{v:Value}{x:DataW H × List MemPlace}(h:DataW.trod enc Tryz.prog W base (fun _=>true) true fuel 22 [v]=some x) :
  ∃n:Strs,v=.slice n.ao n.len n.cap∧n.At W:=by
 rcases open_strings Tryz.underlying22 Tryz.underlying9 Tryz.cellsString h with ⟨hcs,_⟩ | ⟨a,len,cap,ss,hcs,_,hl,hm,hz,_,hcell,hws⟩
 ·exact⟨⟨none,0,0,0,0,fun _=>ByteArray.empty⟩,by simpa using hcs,⟨Nat.le_refl _,fun h=>absurd h (Nat.lt_irrefl _),Nat.zero_le _,fun _ h=>absurd h (Nat.not_lt_zero _),fun _ h=>absurd h (Nat.not_lt_zero _)⟩⟩
 ·have hv:v=.slice (some a) len cap:=by simpa using hcs
  simp only[if_true] at hz;unfold maxLen at hm hws;refine⟨⟨some a,a.block,a.off,len,cap,fun i=>ss.getD i ByteArray.empty⟩,hv,⟨hl,fun hp=>?_,Nat.le_trans hl hm,fun i hi=>?_,fun i hi=>?_⟩⟩
  ·have hp':0<len:=hp;have hs:=World.cell?_spot (hcell 0 (by omega));obtain⟨ab,ao,asp⟩:=a;have:asp=none:=by simpa [Addr.add] using hs
   subst this;rfl
  ·have hi':i<len:=hi;have hs:=World.cell?_spot (hcell 0 (by omega));obtain⟨ab,ao,asp⟩:=a;have:asp=none:=by simpa [Addr.add] using hs
   subst this;have:=hcell i (by omega);rw[addr_plain] at this;exact this
  ·have hi':i<len:=hi;have hmem:ss.getD i ByteArray.empty ∈ ss:=by
    rw[List.getD_eq_getElem?_getD,List.getElem?_eq_getElem (by omega)];exact List.getElem_mem _
   exact hws _ hmem
theorem zs5 {fuel:Nat}{v:Value}{x:DataW H × List MemPlace}(h:DataW.trod enc Tryz.prog W base (fun _=>true) true fuel 23 [v]=some x) :
  ∃g:Grid,v=.slice g.ao g.len g.cap∧g.At W:=by
 rcases open_bool_rows Tryz.underlying23 Tryz.underlying34 Tryz.underlying4 Tryz.cellsRow Tryz.cellsBool h with ⟨hcs,_⟩ | ⟨a,len,cap,A,L,C,B,hcs,_,hl,hm,_,hrows⟩
 ·exact⟨⟨none,0,0,0,0,fun _=>none,fun _=>0,fun _=>0,fun _=>0,fun _=>0,fun _ _=>false⟩,by simpa using hcs,
   ⟨Nat.le_refl _,fun h=>absurd h (Nat.lt_irrefl _),Nat.zero_le _,fun _ h=>absurd h (Nat.not_lt_zero _),fun _ h=>absurd h (Nat.not_lt_zero _),fun _ h=>absurd h (Nat.not_lt_zero _),fun _ h=>absurd h (Nat.not_lt_zero _)⟩⟩
 ·have hv:v=.slice (some a) len cap:=by simpa using hcs
  unfold maxLen at hm;have hadr:∀r,r<len→0<L r→A r=some ⟨((A r).getD default).block,((A r).getD default).off,none⟩∧∀c,c<L r→W.cell? ⟨((A r).getD default).block,((A r).getD default).off+c,none⟩=some (.bool (B r c)):=fun r hr hp=>by
   obtain⟨_,h1,_,h3,h4⟩:=hrows r (by omega);cases hA:A r with
   | none=>have:=h3 hA;omega
   | some a' =>
    obtain⟨ab,ao,asp⟩:=a';obtain⟨_,hcell⟩:=h4 _ hA;have has:asp=none:=by simpa [Addr.add] using World.cell?_spot (hcell 0 (by omega))
    subst has;exact⟨rfl,fun c hc=>by have:=hcell c (by omega);rwa [addr_plain] at this⟩
  have hspot:0<len→a=⟨a.block,a.off,none⟩:=fun hp=>by
   have hs:=World.cell?_spot (hrows 0 (by omega)).1;obtain⟨ab,ao,asp⟩:=a;have:asp=none:=by simpa [Addr.add] using hs
   subst this;rfl
  refine⟨⟨some a,a.block,a.off,len,cap,A,L,C,fun r=>((A r).getD default).block,fun r=>((A r).getD default).off,B⟩,hv,⟨hl,fun hp=>congrArg some (hspot hp),Nat.le_trans hl hm,fun r hr=>?_,fun r hr=>?_,fun r hr hp=>(hadr r hr hp).1,fun r hr c hc=>(hadr r hr (Nat.lt_of_le_of_lt (Nat.zero_le _) hc)).2 c hc⟩⟩
  ·have hr':r<len:=hr;obtain⟨_,h1,h2,_⟩:=hrows r (by omega);unfold maxLen at h2;exact Nat.le_trans h1 h2
  ·have hr':r<len:=hr;have:=(hrows r (by omega)).1;rw[hspot (by omega),addr_plain] at this;exact this
end
theorem Tryz.cellsInt':Tryz.prog.cellsOf 3=1:=by kernel_rfl
theorem Tryz.cellsTys:Tryz.prog.cellsOf 36=1:=by kernel_rfl
theorem Tryz.cellsTy:Tryz.prog.cellsOf 38=5:=by kernel_rfl
section
variable {H:Type} {enc:TypeId × Value→H} {W:World} {base:Nat}
def Ty.cs (t:Ty):List Value:=[.int .i64 t.k,.int .i64 t.l,.slice t.ao t.len t.cap,.int .i64 t.h,.int .i64 t.e]
theorem zh9:∀(fuel:Nat) (cs:List Value) (x:DataW H × List MemPlace),DataW.trod enc Tryz.prog W base (fun _=>true) true fuel 38 cs=some x→∃t:Ty,cs=t.cs∧t.At W:=by
 intro fuel
 induction fuel using Nat.strongRecOn with
 | _ fuel ih =>
  intro cs x h;obtain⟨xs,n,rfl,_,hl,hlen,hf⟩:=DataW.trod_struct Tryz.underlying38 h;rw[Tryz.cellsTy] at hl
  match cs,hl with
  | [c0,c1,c2,c3,c4],_ =>
   have hlen5:xs.length=5:=hlen
   match xs,hlen5 with
   | [y0,y1,y2,y3,y4],_ =>
    have f0:DataW.trod enc Tryz.prog W base (fun _=>true) true n 3 [c0]=some y0:=by simpa [Tryz.cellsInt'] using hf 0 _ rfl
    have f1:DataW.trod enc Tryz.prog W base (fun _=>true) true n 3 [c1]=some y1:=by simpa [Tryz.cellsInt'] using hf 1 _ rfl
    have f2:DataW.trod enc Tryz.prog W base (fun _=>true) true n 36 [c2]=some y2:=by simpa [Tryz.cellsTys] using hf 2 _ rfl
    have f3:DataW.trod enc Tryz.prog W base (fun _=>true) true n 3 [c3]=some y3:=by simpa [Tryz.cellsInt'] using hf 3 _ rfl
    have f4:DataW.trod enc Tryz.prog W base (fun _=>true) true n 3 [c4]=some y4:=by simpa [Tryz.cellsInt'] using hf 4 _ rfl
    obtain⟨k,q0,_⟩:=DataW.trod_int Tryz.underlying3 f0;obtain⟨l,q1,_⟩:=DataW.trod_int Tryz.underlying3 f1;obtain⟨hh,q3,_⟩:=DataW.trod_int Tryz.underlying3 f3;obtain⟨e,q4,_⟩:=DataW.trod_int Tryz.underlying3 f4;simp only[List.cons.injEq,and_true] at q0 q1 q3 q4;subst q0 q1 q3 q4;rcases DataW.trod_slice Tryz.underlying36 f2 with ⟨hcs,_⟩ | ⟨a,len,cap,elems,rest,m,hm,hcs,_,_,hlc,hmx,hel,hx,_,_⟩
    ·simp only[List.cons.injEq,and_true] at hcs;subst hcs;exact⟨.mk k l hh e none 0 0 0 0 (fun _=>.dm),rfl,⟨fun h=>absurd h (Nat.lt_irrefl _),Nat.zero_le _,fun _ h=>absurd h (Nat.not_lt_zero _)⟩⟩
    ·simp only[List.cons.injEq,and_true] at hcs;subst hcs hm;unfold maxLen at hmx;have each:∀i,i<len→∃t:Ty,(∀j,j<5→W.cell? (a.add (i*5+j))=t.cs[j]?)∧t.At W:=by
      intro i hi;have h1:=hx i hi;rw[Tryz.cellsTy] at h1;cases hc:W.cells? base (a.add (i*5)) 5 with
      | none=>rw[hc] at h1;simp at h1;omega
      | some cs' =>
       rw[hc] at h1;have h2:DataW.trod enc Tryz.prog W base (fun _=>true) true m 38 cs'=some elems[i]:=by
        rw[List.getElem?_eq_getElem (by omega)] at h1
        simpa using h1
       obtain⟨t,rfl,hA⟩:=ih m (by omega) cs' _ h2;obtain⟨_,_,hcell⟩:=World.cells?_some hc;exact⟨t,fun j hj=>by rw[←hcell j hj,add_add],hA⟩
     have hspot:0<len→a=⟨a.block,a.off,none⟩:=fun hp=>by
      obtain⟨t,ht,_⟩:=each 0 hp;have hs:=World.cell?_spot (a:=a.add (0*5+0)) (v:=.int .i64 t.k) (by rw[ht 0 (by omega)];rfl)
      obtain⟨ab,ao,asp⟩:=a;have:asp=none:=by simpa [Addr.add] using hs
      subst this;rfl
     refine⟨.mk k l hh e (some a) a.block a.off len cap (fun i=>if h:i<len then Classical.choose (each i h) else .dm),rfl,⟨fun hp=>congrArg some (hspot hp),by omega,fun i hi=>?_⟩⟩;simp only[dif_pos hi];obtain⟨ht,hA⟩:=Classical.choose_spec (each i hi);generalize Classical.choose (each i hi)=t at ht hA;have ea:=hspot (by omega);have get:∀j,j<5→W.cell? ⟨a.block,a.off+i*5+j,none⟩=t.cs[j]?:=fun j hj=>by
      have:=ht j hj;rw[ea,addr_plain,←Nat.add_assoc] at this;exact this
     exact⟨⟨get 0 (by omega),get 1 (by omega),get 2 (by omega),get 3 (by omega),get 4 (by omega)⟩,hA⟩
end
theorem Tryz.kFn:Tryz.prog.cellsOf 44=18:=by kernel_rfl
theorem Tryz.kIn:Tryz.prog.cellsOf 50=7:=by kernel_rfl
theorem Tryz.kHn:Tryz.prog.cellsOf 123=3:=by kernel_rfl
theorem Tryz.kPt:Tryz.prog.cellsOf 48=3:=by kernel_rfl
theorem Tryz.kRn:Tryz.prog.cellsOf 53=3:=by kernel_rfl
theorem Tryz.kKl:Tryz.prog.cellsOf 28=3:=by kernel_rfl
theorem Tryz.kFns:Tryz.prog.cellsOf 26=1:=by kernel_rfl
theorem Tryz.kIns:Tryz.prog.cellsOf 39=1:=by kernel_rfl
theorem Tryz.kHan:Tryz.prog.cellsOf 40=1:=by kernel_rfl
theorem Tryz.kPts:Tryz.prog.cellsOf 41=1:=by kernel_rfl
theorem Tryz.kRgs:Tryz.prog.cellsOf 42=1:=by kernel_rfl
theorem Tryz.kInts:Tryz.prog.cellsOf 51=1:=by kernel_rfl
theorem Tryz.kI64:Tryz.prog.cellsOf 2=1:=by kernel_rfl
theorem Tryz.kStrs:Tryz.prog.cellsOf 22=1:=by kernel_rfl
theorem Tryz.kRows:Tryz.prog.cellsOf 23=1:=by kernel_rfl
theorem zcv {n:Int}(h:(Lit.int .i64 n).wf=true):I64 n:=by
 have h':IntKind.i64.min≤n∧n≤IntKind.i64.max:=by simpa [Lit.wf] using h
 have e1:IntKind.i64.min=-9223372036854775808:=by decide
 have e2:IntKind.i64.max=9223372036854775807:=by decide
 rw[e1,e2] at h';exact h'
section
variable {H:Type} {enc:TypeId × Value→H} {W:World} {base:Nat}
theorem zdq {t:TypeId}{fuel:Nat}{cs:List Value}{x:DataW H × List MemPlace}{fs:Array Field}(ht:Tryz.prog.underlying t=some (.struct fs))(h:DataW.trod enc Tryz.prog W base (fun _=>true) true fuel t cs=some x) :
  ∃n,cs.length=Tryz.prog.cellsOf t∧∀(i:Nat) (f:Field),fs[i]?=some f→∃y,DataW.trod enc Tryz.prog W base (fun _=>true) true n f.type ((cs.drop f.offset).take (Tryz.prog.cellsOf f.type))=some y:=by
 obtain⟨xs,n,_,_,hl,hlen,hf⟩:=DataW.trod_struct ht h;refine⟨n,hl,fun i f hi=>?_⟩;have hlt:i<xs.length:=by rw[hlen];exact (Array.getElem?_eq_some_iff.1 hi).1
 exact⟨xs[i],by rw[hf i f hi,List.getElem?_eq_getElem hlt]⟩
theorem zns {S E:TypeId}{c:Nat}(hu:Tryz.prog.underlying S=some (.slice E))(hc:Tryz.prog.cellsOf E=c){fuel:Nat}{v:Value}{x:DataW H × List MemPlace}(h:DataW.trod enc Tryz.prog W base (fun _=>true) true fuel S [v]=some x) :
  v=.slice none 0 0∨∃(a:Addr) (len cap:Nat),v=.slice (some a) len cap∧len≤9223372036854775807∧∀i,i<len→∃m cs y,DataW.trod enc Tryz.prog W base (fun _=>true) true m E cs=some y∧∀j,j<c→W.cell? (a.add (i*c+j))=cs[j]?:=by
 rcases DataW.trod_slice hu h with ⟨hcs,_⟩ | ⟨a,len,cap,elems,rest,m,hm,hcs,_,_,hlc,hmx,hel,hx,_,_⟩
 ·exact Or.inl (by simpa using hcs)
 ·refine Or.inr ⟨a,len,cap,by simpa using hcs,by unfold maxLen at hmx;omega,fun i hi=>?_⟩
  have h1:=hx i hi;rw[hc] at h1;cases hcc:W.cells? base (a.add (i*c)) c with
  | none=>rw[hcc] at h1;simp at h1;omega
  | some cs' =>
   rw[hcc] at h1;have h2:DataW.trod enc Tryz.prog W base (fun _=>true) true m E cs'=some elems[i]:=by
    rw[List.getElem?_eq_getElem (by omega)] at h1
    simpa using h1
   obtain⟨_,_,hcell⟩:=World.cells?_some hcc;exact⟨m,cs',_,h2,fun j hj=>by rw[←hcell j hj,add_add]⟩
theorem kplain {a:Addr}{v:Value}(h:W.cell? (a.add 0)=some v):a=⟨a.block,a.off,none⟩:=by
 have hs:=World.cell?_spot h;obtain⟨ab,ao,asp⟩:=a;have:asp=none:=by simpa [Addr.add] using hs
 subst this;rfl
theorem zfq {α:Type}{S E:TypeId}{c:Nat}(hu:Tryz.prog.underlying S=some (.slice E))(hc:Tryz.prog.cellsOf E=c)(hpos:0<c)(vs:α→List Value)(A:World→α→Prop)(d0:α)(hl:∀x,(vs x).length=c)
  (ho:∀(fuel:Nat) (cs:List Value) (x:DataW H × List MemPlace),DataW.trod enc Tryz.prog W base (fun _=>true) true fuel E cs=some x→∃a,cs=vs a∧A W a) {fuel:Nat} {v:Value} {x:DataW H × List MemPlace} (h:DataW.trod enc Tryz.prog W base (fun _=>true) true fuel S [v]=some x) :
  ∃r:Rw α,v=.slice r.ao r.len r.cap∧Rw.At c vs A W r:=by
 rcases zns hu hc h with rfl | ⟨a,len,cap,rfl,hb,hx⟩
 ·exact⟨⟨none,0,0,0,0,fun _=>d0⟩,rfl,⟨fun h=>absurd h (Nat.lt_irrefl _),Nat.zero_le _,fun _ h=>absurd h (Nat.not_lt_zero _),fun _ h=>absurd h (Nat.not_lt_zero _)⟩⟩
 ·have each:∀i,i<len→∃t:α,(∀j,j<c→W.cell? (a.add (i*c+j))=(vs t)[j]?)∧A W t:=fun i hi=>by
   obtain⟨m,cs,y,h1,h2⟩:=hx i hi;obtain⟨t,rfl,hA⟩:=ho m cs y h1;exact⟨t,h2,hA⟩
  have hspot:0<len→a=⟨a.block,a.off,none⟩:=fun hp=>by
   obtain⟨t,ht,_⟩:=each 0 hp;have e:=ht 0 hpos;rw[Nat.zero_mul,Nat.zero_add,List.getElem?_eq_getElem (by rw[hl];exact hpos)] at e
   exact kplain e
  refine⟨⟨some a,a.block,a.off,len,cap,fun i=>if h:i<len then Classical.choose (each i h) else d0⟩,rfl,⟨fun hp=>congrArg some (hspot hp),hb,fun i hi=>?_,fun i hi=>?_⟩⟩
  ·have hi':i<len:=hi;simp only[dif_pos hi'];obtain⟨ht,hA⟩:=Classical.choose_spec (each i hi');generalize Classical.choose (each i hi')=t at ht hA;have ea:=hspot (by omega);intro j v hv;have hj:j<c:=by rw[←hl t];exact (List.getElem?_eq_some_iff.1 hv).1
   have:=ht j hj;rw[ea,addr_plain,←Nat.add_assoc,hv] at this;exact this
  ·have hi':i<len:=hi;simp only[dif_pos hi'];exact (Classical.choose_spec (each i hi')).2
theorem zhv {fuel:Nat}{v:Value}{x:DataW H × List MemPlace}(h:DataW.trod enc Tryz.prog W base (fun _=>true) true fuel 36 [v]=some x):∃t:Ty,v=.slice t.ao t.len t.cap∧t.At W:=by
 obtain⟨r,rfl,hr⟩:=zfq Tryz.underlying36 Tryz.cellsTy (by decide) Ty.vs (fun w t=>t.At w) .dm (fun _=>rfl) (fun fuel cs x h=>zh9 fuel cs x h) h;refine⟨.mk 0 0 0 0 r.ao r.b r.o r.len r.cap r.x,rfl,⟨hr.nil,hr.bound,fun i hi=>⟨?_,hr.each i hi⟩⟩⟩;have g:=hr.row i hi;exact⟨by have:=g 0 _ rfl;simpa using this,g 1 _ rfl,g 2 _ rfl,g 3 _ rfl,g 4 _ rfl⟩
theorem ztk (fuel:Nat)(cs:List Value)(x:DataW H × List MemPlace)(h:DataW.trod enc Tryz.prog W base (fun _=>true) true fuel 50 cs=some x):∃i:In,cs=i.vs∧i.At W:=by
 obtain⟨n,hl,hf⟩:=zdq Tryz.underlying50 h;rw[Tryz.kIn] at hl
 match cs,hl with
 | [c0,c1,c2,c3,c4,c5,c6],_ =>
  obtain⟨z0,g0⟩:=hf 0 _ rfl;obtain⟨z1,g1⟩:=hf 1 _ rfl;obtain⟨z2,g2⟩:=hf 2 _ rfl;have f0:DataW.trod enc Tryz.prog W base (fun _=>true) true n 3 [c0]=some z0:=by simpa [Tryz.cellsInt'] using g0
  have f1:DataW.trod enc Tryz.prog W base (fun _=>true) true n 2 [c1]=some z1:=by simpa [Tryz.kI64] using g1
  have f2:DataW.trod enc Tryz.prog W base (fun _=>true) true n 38 [c2,c3,c4,c5,c6]=some z2:=by simpa [Tryz.cellsTy] using g2
  obtain⟨op,q0,_,w0⟩:=DataW.trod_int Tryz.underlying3 f0;obtain⟨a,q1,_,w1⟩:=DataW.trod_int Tryz.underlying2 f1;obtain⟨t,hp,hpA⟩:=zh9 _ _ _ f2;simp only[List.cons.injEq,and_true] at q0 q1;subst q0 q1;simp only[Ty.cs,List.cons.injEq,and_true] at hp;obtain⟨rfl,rfl,rfl,rfl,rfl⟩:=hp;exact⟨⟨op,a,t⟩,rfl,⟨zcv w0,zcv w1,hpA⟩⟩
theorem zuw (fuel:Nat)(cs:List Value)(x:DataW H × List MemPlace)(h:DataW.trod enc Tryz.prog W base (fun _=>true) true fuel 123 cs=some x):∃i:Hn,cs=i.vs∧i.At:=by
 obtain⟨n,hl,hf⟩:=zdq Tryz.underlying123 h;rw[Tryz.kHn] at hl
 match cs,hl with
 | [c0,c1,c2],_ =>
  obtain⟨z0,g0⟩:=hf 0 _ rfl;obtain⟨z1,g1⟩:=hf 1 _ rfl;obtain⟨z2,g2⟩:=hf 2 _ rfl;have f0:DataW.trod enc Tryz.prog W base (fun _=>true) true n 3 [c0]=some z0:=by simpa [Tryz.cellsInt'] using g0
  have f1:DataW.trod enc Tryz.prog W base (fun _=>true) true n 3 [c1]=some z1:=by simpa [Tryz.cellsInt'] using g1
  have f2:DataW.trod enc Tryz.prog W base (fun _=>true) true n 3 [c2]=some z2:=by simpa [Tryz.cellsInt'] using g2
  obtain⟨a,q0,_,w0⟩:=DataW.trod_int Tryz.underlying3 f0;obtain⟨b,q1,_,w1⟩:=DataW.trod_int Tryz.underlying3 f1;obtain⟨c,q2,_,w2⟩:=DataW.trod_int Tryz.underlying3 f2;simp only[List.cons.injEq,and_true] at q0 q1 q2;subst q0 q1 q2;exact⟨⟨a,b,c⟩,rfl,⟨zcv w0,zcv w1,zcv w2⟩⟩
theorem zsk (fuel:Nat)(cs:List Value)(x:DataW H × List MemPlace)(h:DataW.trod enc Tryz.prog W base (fun _=>true) true fuel 3 cs=some x):∃a:Int,cs=numV a∧I64 a:=by
 obtain⟨a,q0,_,w0⟩:=DataW.trod_int Tryz.underlying3 h;exact⟨a,q0,zcv w0⟩
theorem zua (fuel:Nat)(cs:List Value)(x:DataW H × List MemPlace)(h:DataW.trod enc Tryz.prog W base (fun _=>true) true fuel 53 cs=some x):∃i:Rn,cs=i.vs∧i.At W:=by
 obtain⟨n,hl,hf⟩:=zdq Tryz.underlying53 h;rw[Tryz.kRn] at hl
 match cs,hl with
 | [c0,c1,c2],_ =>
  obtain⟨z0,g0⟩:=hf 0 _ rfl;obtain⟨z1,g1⟩:=hf 1 _ rfl;obtain⟨z2,g2⟩:=hf 2 _ rfl;have f0:DataW.trod enc Tryz.prog W base (fun _=>true) true n 3 [c0]=some z0:=by simpa [Tryz.cellsInt'] using g0
  have f1:DataW.trod enc Tryz.prog W base (fun _=>true) true n 3 [c1]=some z1:=by simpa [Tryz.cellsInt'] using g1
  have f2:DataW.trod enc Tryz.prog W base (fun _=>true) true n 51 [c2]=some z2:=by simpa [Tryz.kInts] using g2
  obtain⟨a,q0,_,w0⟩:=DataW.trod_int Tryz.underlying3 f0;obtain⟨b,q1,_,w1⟩:=DataW.trod_int Tryz.underlying3 f1;obtain⟨r,rfl,hr⟩:=zfq Tryz.underlying51 Tryz.cellsInt' (by decide) numV (fun _ a=>I64 a) 0 (fun _=>rfl) zsk f2;simp only[List.cons.injEq,and_true] at q0 q1;subst q0 q1;exact⟨⟨a,b,r⟩,rfl,⟨zcv w0,zcv w1,hr⟩⟩
def noCf:Cf:=⟨.dm,.dm,.dm,0,0,0,⟨none,0,0,0,0,fun _=>⟨0,0,.dm⟩⟩,⟨none,0,0,0,0,fun _=>⟨0,0,0⟩⟩,⟨none,0,0,0,0,fun _=>⟨.dm,.dm,0⟩⟩,⟨none,0,0,0,0,fun _=>⟨0,0,⟨none,0,0,0,0,fun _=>0⟩⟩⟩⟩
end
def PtC (w:World)(p:Pt):Prop:=p.At w∧p.st.len≤p.st.cap
def Cf.Cap (f:Cf):Prop:=∀p,p<f.pt.len→(f.pt.x p).st.len≤(f.pt.x p).st.cap
def CfC (w:World)(f:Cf):Prop:=f.At w∧f.Cap
def Kl.Cap (c:Kl):Prop:=∀i,i<c.fs.len→(c.fs.x i).Cap
section
variable {H:Type} {enc:TypeId × Value→H} {W:World} {base:Nat}
theorem kcap {S E:TypeId}(hu:Tryz.prog.underlying S=some (.slice E)){fuel:Nat}{ao:Option Addr}{len cap:Nat}{x:DataW H × List MemPlace}(h:DataW.trod enc Tryz.prog W base (fun _=>true) true fuel S [.slice ao len cap]=some x):len≤cap:=by
 rcases DataW.trod_slice hu h with ⟨hcs,_⟩ | ⟨a,l,k,elems,rest,m,hm,hcs,_,_,hlc,_⟩
 ·simp at hcs;omega
 ·simp at hcs;omega
theorem zs3 (fuel:Nat)(cs:List Value)(x:DataW H × List MemPlace)(h:DataW.trod enc Tryz.prog W base (fun _=>true) true fuel 48 cs=some x):∃i:Pt,cs=i.vs∧PtC W i:=by
 obtain⟨n,hl,hf⟩:=zdq Tryz.underlying48 h;rw[Tryz.kPt] at hl
 match cs,hl with
 | [c0,c1,c2],_ =>
  obtain⟨z0,g0⟩:=hf 0 _ rfl;obtain⟨z1,g1⟩:=hf 1 _ rfl;obtain⟨z2,g2⟩:=hf 2 _ rfl;have f0:DataW.trod enc Tryz.prog W base (fun _=>true) true n 36 [c0]=some z0:=by simpa [Tryz.cellsTys] using g0
  have f1:DataW.trod enc Tryz.prog W base (fun _=>true) true n 36 [c1]=some z1:=by simpa [Tryz.cellsTys] using g1
  have f2:DataW.trod enc Tryz.prog W base (fun _=>true) true n 3 [c2]=some z2:=by simpa [Tryz.cellsInt'] using g2
  obtain⟨a,rfl,hA⟩:=zhv f0;obtain⟨b,rfl,hB⟩:=zhv f1;obtain⟨c,q2,_,w2⟩:=DataW.trod_int Tryz.underlying3 f2;simp only[List.cons.injEq,and_true] at q2;subst q2;exact⟨⟨a,b,c⟩,rfl,⟨hA,hB,zcv w2⟩,kcap Tryz.underlying36 f0⟩
theorem zly (fuel:Nat)(cs:List Value)(x:DataW H × List MemPlace)(h:DataW.trod enc Tryz.prog W base (fun _=>true) true fuel 44 cs=some x):∃f:Cf,cs=f.vs∧CfC W f:=by
 obtain⟨n,hl,hf⟩:=zdq Tryz.underlying44 h;rw[Tryz.kFn] at hl
 match cs,hl with
 | [c0,c1,c2,c3,c4,c5,c6,c7,c8,c9,c10,c11,c12,c13,c14,c15,c16,c17],_ =>
  obtain⟨z0,g0⟩:=hf 0 _ rfl;obtain⟨z1,g1⟩:=hf 1 _ rfl;obtain⟨z2,g2⟩:=hf 2 _ rfl;obtain⟨z3,g3⟩:=hf 3 _ rfl;obtain⟨z4,g4⟩:=hf 4 _ rfl;obtain⟨z5,g5⟩:=hf 5 _ rfl;obtain⟨z6,g6⟩:=hf 6 _ rfl;obtain⟨z7,g7⟩:=hf 7 _ rfl;obtain⟨z8,g8⟩:=hf 8 _ rfl;obtain⟨z9,g9⟩:=hf 9 _ rfl;have f0:DataW.trod enc Tryz.prog W base (fun _=>true) true n 38 [c0,c1,c2,c3,c4]=some z0:=by simpa [Tryz.cellsTy] using g0
  have f1:DataW.trod enc Tryz.prog W base (fun _=>true) true n 38 [c5,c6,c7,c8,c9]=some z1:=by simpa [Tryz.cellsTy] using g1
  have f2:DataW.trod enc Tryz.prog W base (fun _=>true) true n 36 [c10]=some z2:=by simpa [Tryz.cellsTys] using g2
  have f3:DataW.trod enc Tryz.prog W base (fun _=>true) true n 3 [c11]=some z3:=by simpa [Tryz.cellsInt'] using g3
  have f4:DataW.trod enc Tryz.prog W base (fun _=>true) true n 3 [c12]=some z4:=by simpa [Tryz.cellsInt'] using g4
  have f5:DataW.trod enc Tryz.prog W base (fun _=>true) true n 3 [c13]=some z5:=by simpa [Tryz.cellsInt'] using g5
  have f6:DataW.trod enc Tryz.prog W base (fun _=>true) true n 39 [c14]=some z6:=by simpa [Tryz.kIns] using g6
  have f7:DataW.trod enc Tryz.prog W base (fun _=>true) true n 40 [c15]=some z7:=by simpa [Tryz.kHan] using g7
  have f8:DataW.trod enc Tryz.prog W base (fun _=>true) true n 41 [c16]=some z8:=by simpa [Tryz.kPts] using g8
  have f9:DataW.trod enc Tryz.prog W base (fun _=>true) true n 42 [c17]=some z9:=by simpa [Tryz.kRgs] using g9
  obtain⟨p,hp,hpA⟩:=zh9 _ _ _ f0;obtain⟨r,hr,hrA⟩:=zh9 _ _ _ f1;obtain⟨c,rfl,hcA⟩:=zhv f2;obtain⟨hh,q3,_,w3⟩:=DataW.trod_int Tryz.underlying3 f3;obtain⟨ee,q4,_,w4⟩:=DataW.trod_int Tryz.underlying3 f4;obtain⟨sl,q5,_,w5⟩:=DataW.trod_int Tryz.underlying3 f5;obtain⟨s6,rfl,k6⟩:=zfq Tryz.underlying39 Tryz.kIn (by decide) In.vs In.At ⟨0,0,.dm⟩ (fun _=>rfl) ztk f6;obtain⟨s7,rfl,k7⟩:=zfq Tryz.underlying40 Tryz.kHn (by decide) Hn.vs (fun _ h=>h.At) ⟨0,0,0⟩ (fun _=>rfl) zuw f7;obtain⟨s8,rfl,k8⟩:=zfq Tryz.underlying41 Tryz.kPt (by decide) Pt.vs PtC ⟨.dm,.dm,0⟩ (fun _=>rfl) zs3 f8;obtain⟨s9,rfl,k9⟩:=zfq Tryz.underlying42 Tryz.kRn (by decide) Rn.vs Rn.At ⟨0,0,⟨none,0,0,0,0,fun _=>0⟩⟩ (fun _=>rfl) zua f9;simp only[List.cons.injEq,and_true] at q3 q4 q5;subst q3 q4 q5;simp only[Ty.cs,List.cons.injEq,and_true] at hp hr;obtain⟨rfl,rfl,rfl,rfl,rfl⟩:=hp;obtain⟨rfl,rfl,rfl,rfl,rfl⟩:=hr;exact⟨⟨p,r,c,hh,ee,sl,s6,s7,s8,s9⟩,rfl,⟨hpA,hrA,hcA,zcv w3,zcv w4,zcv w5,k6,k7,⟨k8.nil,k8.bound,k8.row,fun i hi=>(k8.each i hi).1⟩,k9⟩,fun i hi=>(k8.each i hi).2⟩
theorem zr5 (fuel:Nat)(cs:List Value)(x:DataW H × List MemPlace)(h:DataW.trod enc Tryz.prog W base (fun _=>true) true fuel 28 cs=some x):∃c:Kl,cs=c.vs∧c.At W∧Kl.Cap c:=by
 obtain⟨n,hl,hf⟩:=zdq Tryz.underlying28 h;rw[Tryz.kKl] at hl
 match cs,hl with
 | [c0,c1,c2],_ =>
  obtain⟨z0,g0⟩:=hf 0 _ rfl;obtain⟨z1,g1⟩:=hf 1 _ rfl;have f0:DataW.trod enc Tryz.prog W base (fun _=>true) true n 25 [c0,c1]=some z0:=by simpa [Tryz.cellsLat] using g0
  have f1:DataW.trod enc Tryz.prog W base (fun _=>true) true n 26 [c2]=some z1:=by simpa [Tryz.kFns] using g1
  obtain⟨m,_,hg⟩:=zdq Tryz.underlying25 f0;obtain⟨y0,k0⟩:=hg 0 _ rfl;obtain⟨y1,k1⟩:=hg 1 _ rfl;have e0:DataW.trod enc Tryz.prog W base (fun _=>true) true m 22 [c0]=some y0:=by simpa [Tryz.kStrs] using k0
  have e1:DataW.trod enc Tryz.prog W base (fun _=>true) true m 23 [c1]=some y1:=by simpa [Tryz.kRows] using k1
  obtain⟨ns,rfl,hn⟩:=zrg e0;obtain⟨g,rfl,hgg⟩:=zs5 e1;obtain⟨r,rfl,hr⟩:=zfq Tryz.underlying26 Tryz.kFn (by decide) Cf.vs CfC noCf (fun _=>rfl) zly f1;exact⟨⟨ns,g,r⟩,rfl,⟨hn,hgg,⟨hr.nil,hr.bound,hr.row,fun i hi=>(hr.each i hi).1⟩⟩,fun i hi=>(hr.each i hi).2⟩
theorem ziu {v:Value}{d:DataW H}{p:List MemPlace}{b0:Nat}(hv:Value.okWide Tryz.prog W .any b0 28 v)(h:DataW.Trod enc Tryz.prog W base (fun _=>true) true 28 v d p) :
  ∃c:Kl,v=.agg #[.slice c.n.ao c.n.len c.n.cap,.slice c.g.ao c.g.len c.g.cap,.slice c.fs.ao c.fs.len c.fs.cap]∧c.At W∧Kl.Cap c:=by
 obtain⟨cs,rfl,_⟩:=okWide_struct Tryz.underlying28 hv;obtain⟨fuel,hf⟩:=h;obtain⟨c,hc,hA⟩:=zr5 fuel _ _ hf;refine⟨c,?_,hA⟩;have:cs.toList=c.vs:=by simpa [Value.cells] using hc
 obtain⟨l⟩:=cs;have e:l=c.vs:=this;rw[e];rfl
end
end
end Go.Proofs.YtfobijdkoeifjaaGreatDoor
