import Derived.Test.YtfobijdkoeifjaaGreatDoorP1
import Derived.ProofKit
import Derived.Deep.Grids
import Derived.Lib.SmallJoins
import Derived.OpenShut
set_option maxRecDepth 100000
set_option maxHeartbeats 32000000
namespace Go.Proofs.YtfobijdkoeifjaaGreatDoor
section
open Go.ChangeShapes Go.WideShapes Go.ChangeAt Go.RowKit Go.Deep Go.Joins
theorem Tryz.cellsString:Tryz.prog.cellsOf 9=1:=by kernel_rfl
theorem Tryz.cellsBool:Tryz.prog.cellsOf 4=1:=by kernel_rfl
theorem Tryz.cellsRow:Tryz.prog.cellsOf 34=1:=by kernel_rfl
theorem Tryz.cellsLat:Tryz.prog.cellsOf 25=2:=by kernel_rfl
theorem zgf (b off i:Nat):(⟨b,off,none⟩:Addr).add i=⟨b,off+i,none⟩:=by unfold Addr.add;split <;> simp_all
section
variable {H:Type} {enc:TypeId × Value→H} {W:World} {base:Nat}
theorem zri {fuel:Nat}{v:Value}{x:DataW H × List MemPlace}(h:DataW.trod enc Tryz.prog W base (fun _=>true) true fuel 22 [v]=some x) :
  ∃n:Strs,v=.slice n.ao n.len n.cap∧n.At W:=by
 rcases open_strings Tryz.underlying22 Tryz.underlying9 Tryz.cellsString h with ⟨hcs,_⟩ | ⟨a,len,cap,ss,hcs,_,hl,hm,hz,_,hcell,hws⟩
 ·exact⟨⟨none,0,0,0,0,fun _=>ByteArray.empty⟩,by simpa using hcs,⟨Nat.le_refl _,fun h=>absurd h (Nat.lt_irrefl _),Nat.zero_le _,fun _ h=>absurd h (Nat.not_lt_zero _),fun _ h=>absurd h (Nat.not_lt_zero _)⟩⟩
 ·have hv:v=.slice (some a) len cap:=by simpa using hcs
  simp only[if_true] at hz;unfold maxLen at hm hws;refine⟨⟨some a,a.block,a.off,len,cap,fun i=>ss.getD i ByteArray.empty⟩,hv,⟨hl,fun hp=>?_,Nat.le_trans hl hm,fun i hi=>?_,fun i hi=>?_⟩⟩
  ·have hp':0<len:=hp;have hs:=World.cell?_spot (hcell 0 (by omega));obtain⟨ab,ao,asp⟩:=a;have:asp=none:=by simpa [Addr.add] using hs
   subst this;rfl
  ·have hi':i<len:=hi;have hs:=World.cell?_spot (hcell 0 (by omega));obtain⟨ab,ao,asp⟩:=a;have:asp=none:=by simpa [Addr.add] using hs
   subst this;have:=hcell i (by omega);rw[zgf] at this;exact this
  ·have hi':i<len:=hi;have hmem:ss.getD i ByteArray.empty ∈ ss:=by
    rw[List.getD_eq_getElem?_getD,List.getElem?_eq_getElem (by omega)];exact List.getElem_mem _
   exact hws _ hmem
theorem ztb {fuel:Nat}{v:Value}{x:DataW H × List MemPlace}(h:DataW.trod enc Tryz.prog W base (fun _=>true) true fuel 23 [v]=some x) :
  ∃g:Grid,v=.slice g.ao g.len g.cap∧g.At W:=by
 rcases open_bool_rows Tryz.underlying23 Tryz.underlying34 Tryz.underlying4 Tryz.cellsRow Tryz.cellsBool h with ⟨hcs,_⟩ | ⟨a,len,cap,A,L,C,B,hcs,_,hl,hm,_,hrows⟩
 ·exact⟨⟨none,0,0,0,0,fun _=>none,fun _=>0,fun _=>0,fun _=>0,fun _=>0,fun _ _=>false⟩,by simpa using hcs,
   ⟨Nat.le_refl _,fun h=>absurd h (Nat.lt_irrefl _),Nat.zero_le _,fun _ h=>absurd h (Nat.not_lt_zero _),fun _ h=>absurd h (Nat.not_lt_zero _),fun _ h=>absurd h (Nat.not_lt_zero _),fun _ h=>absurd h (Nat.not_lt_zero _)⟩⟩
 ·have hv:v=.slice (some a) len cap:=by simpa using hcs
  unfold maxLen at hm;have hadr:∀r,r<len→0<L r→A r=some ⟨((A r).getD default).block,((A r).getD default).off,none⟩∧∀c,c<L r→W.cell? ⟨((A r).getD default).block,((A r).getD default).off+c,none⟩=some (.bool (B r c)):=fun r hr hp=>by
   obtain⟨_,h1,_,h3,h4⟩:=hrows r (by omega);cases hA:A r with
   | none=>have:=h3 hA;omega
   | some a' =>
    obtain⟨ab,ao,asp⟩:=a';obtain⟨_,hcell⟩:=h4 _ hA;have has:asp=none:=by simpa [Addr.add] using World.cell?_spot (hcell 0 (by omega))
    subst has;exact⟨rfl,fun c hc=>by have:=hcell c (by omega);rwa [zgf] at this⟩
  have hspot:0<len→a=⟨a.block,a.off,none⟩:=fun hp=>by
   have hs:=World.cell?_spot (hrows 0 (by omega)).1;obtain⟨ab,ao,asp⟩:=a;have:asp=none:=by simpa [Addr.add] using hs
   subst this;rfl
  refine⟨⟨some a,a.block,a.off,len,cap,A,L,C,fun r=>((A r).getD default).block,fun r=>((A r).getD default).off,B⟩,hv,⟨hl,fun hp=>congrArg some (hspot hp),Nat.le_trans hl hm,fun r hr=>?_,fun r hr=>?_,fun r hr hp=>(hadr r hr hp).1,fun r hr c hc=>(hadr r hr (Nat.lt_of_le_of_lt (Nat.zero_le _) hc)).2 c hc⟩⟩
  ·have hr':r<len:=hr;obtain⟨_,h1,h2,_⟩:=hrows r (by omega);unfold maxLen at h2;exact Nat.le_trans h1 h2
  ·have hr':r<len:=hr;have:=(hrows r (by omega)).1;rw[hspot (by omega),zgf] at this;exact this
theorem zu4 {v:Value}{d:DataW H}{p:List MemPlace}{b0:Nat}(hv:Value.okWide Tryz.prog W .any b0 25 v)(h:DataW.Trod enc Tryz.prog W base (fun _=>true) true 25 v d p) :
  ∃(n:Strs) (g:Grid),v=.agg #[.slice n.ao n.len n.cap,.slice g.ao g.len g.cap]∧n.At W∧g.At W:=by
 obtain⟨c0,c1,y0,y1,m,rfl,_,_,hy0,hy1⟩:=open_agg2 Tryz.underlying25 (by kernel_rfl) Tryz.cellsLat hv h;obtain⟨n,rfl,hn⟩:=zri hy0;obtain⟨g,rfl,hg⟩:=ztb hy1;exact⟨n,g,rfl,hn,hg⟩
end
section
variable {H:Type} {enc:TypeId × Value→H} {W:World} {base:Nat}
theorem zn8 {P:Program}{spare:Nat→Bool}{held:Bool}{t e:TypeId}{fuel:Nat}{c0 c1 c2 c3:Value}{x:DataW H × List MemPlace}(ht:P.underlying t=some (.array 4 e))(hce:P.cellsOf e=1)
  (h:DataW.trod enc P W base spare held fuel t [c0,c1,c2,c3]=some x) :
  ∃y0 y1 y2 y3 n,DataW.trod enc P W base spare held n e [c0]=some y0∧DataW.trod enc P W base spare held n e [c1]=some y1∧DataW.trod enc P W base spare held n e [c2]=some y2∧DataW.trod enc P W base spare held n e [c3]=some y3:=by
 cases fuel with
 | zero=>simp[DataW.trod] at h
 | succ n =>
  unfold DataW.trod at h;rw[ht] at h;have r3:List.range 4=[0,1,2,3]:=rfl;simp[r3,hce] at h
  obtain⟨_,h⟩:=h;cases h0:DataW.trod enc P W base spare held n e [c0] with
  | none=>simp[h0] at h
  | some y0 =>
   cases h1:DataW.trod enc P W base spare held n e [c1] with
   | none=>simp[h0,h1] at h
   | some y1 =>
    cases h2:DataW.trod enc P W base spare held n e [c2] with
    | none=>simp[h0,h1,h2] at h
    | some y2 =>
     cases h3:DataW.trod enc P W base spare held n e [c3] with
     | none=>simp[h0,h1,h2,h3] at h
     | some y3=>exact⟨y0,y1,y2,y3,n,h0,h1,h2,h3⟩
theorem Tryz.cellsInt4:Tryz.prog.cellsOf 3=1:=by kernel_rfl
theorem Tryz.cellsFour:Tryz.prog.cellsOf 56=4:=by kernel_rfl
theorem zr7 {v:Value}{d:DataW H}{p:List MemPlace}{b0:Nat}(hv:Value.okWide Tryz.prog W .any b0 56 v)(h:DataW.Trod enc Tryz.prog W base (fun _=>true) true 56 v d p) :
  ∃a b c d:Int,v=.agg #[.int .i64 a,.int .i64 b,.int .i64 c,.int .i64 d]:=by
 simp only[Value.okWide,Tryz.underlying56] at hv;obtain⟨⟨cs⟩,rfl,hsz,_⟩:=hv;rw[Tryz.cellsFour] at hsz;have hl:cs.length=4:=hsz
 match cs,hl with
 | [c0,c1,c2,c3],_ =>
  obtain⟨fuel,hf⟩:=h;have hf':DataW.trod enc Tryz.prog W base (fun _=>true) true fuel 56 [c0,c1,c2,c3]=some (d,p):=by simpa [Value.cells] using hf
  obtain⟨y0,y1,y2,y3,k,g0,g1,g2,g3⟩:=zn8 Tryz.underlying56 Tryz.cellsInt4 hf';obtain⟨x,q0,_⟩:=DataW.trod_int Tryz.underlying3 g0;obtain⟨y,q1,_⟩:=DataW.trod_int Tryz.underlying3 g1;obtain⟨z,q2,_⟩:=DataW.trod_int Tryz.underlying3 g2;obtain⟨u,q3,_⟩:=DataW.trod_int Tryz.underlying3 g3;simp at q0 q1 q2 q3
  subst q0 q1 q2 q3;exact⟨x,y,z,u,rfl⟩
end
end
end Go.Proofs.YtfobijdkoeifjaaGreatDoor
