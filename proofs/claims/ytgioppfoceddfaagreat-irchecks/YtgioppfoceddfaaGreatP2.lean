import Derived.Deep.Quiet
import Derived.OrdersHeld
import Derived.Test.YtgioppfoceddfaaGreatP1
import Derived.ProofKit
import Derived.Deep.Grids
import Derived.Lib.SmallJoins
set_option maxRecDepth 100000
set_option maxHeartbeats 32000000
namespace Go.Proofs.YtgioppfoceddfaaGreat
section
open Go
section
variable {P:Program} {ops:Array Oper} {md:Region.Mode} {C:World→Prop} {m:Nat} {R:Array Bool→Act→Prop}
def zim (P:Program)(md:Region.Mode)(ops:Array Oper)(C:World→Prop)(m:Nat)(R:Array Bool→Act→Prop):Nat→Array Bool→Act→Prop
 | 0,listed,a=>(∀i ∈ Region.ready md ops listed,¬i<m)∧R listed a
 | fuel+1,listed,a=>((∀i ∈ Region.ready md ops listed,¬i<m)→R listed a) ∧
  ∀i ∈ Region.ready md ops listed,i<m→qOp P ops C i (zim P md ops C m R fuel (listed.setIfInBounds i true)) a
theorem zm7 {i:Nat}{oi:Oper}{v:Value}(hi:ops[i]?=some oi)(him:i<m)(hsel:∀(j:Nat) (o:Oper) cs b,ops[j]?=some o→o.op≠.select cs b) :
  ∀(fuel:Nat) (listed:Array Bool) (a:Act),
   (∀j oj,ops[j]?=some oj→j≠i→listed.getD j true=false→(∀e ∈ oj.after,Region.binds md e=true→e.on≠i)→oi.apart ops oj=true) →
   i ∈ Region.ready md ops listed→YieldsIn P ops C oi v a →
   zim P md ops C m R fuel (listed.setIfInBounds i true) (a.put oi.dst v)→zim P md ops C m R (fuel+1) listed a:=by
 intro fuel
 induction fuel with
 | zero =>
  intro listed a _ hr hy H;refine⟨fun h=>absurd him (h i hr),fun j hj hjm=>?_⟩;by_cases hji:j=i
  ·subst hji;exact hy.qOp hi H
  ·exact absurd hjm (H.1 j (ready_mono hj hji))
 | succ fuel ih =>
  intro listed a hfree hr hy H;refine⟨fun h=>absurd him (h i hr),fun j hj hjm=>?_⟩;by_cases hji:j=i
  ·subst hji;exact hy.qOp hi H
  ·have h1:=H.2 j (ready_mono hj hji) hjm;obtain⟨hjun,oj,hoj,hall⟩:=mem_ready.1 hj;have hnot:∀e ∈ oj.after,Region.binds md e=true→e.on≠i:=fun e he hb heq=>by
    have h1:=hall e he hb;have h0:=(mem_ready.1 hr).1;rw[heq] at h1;rcases Nat.lt_or_ge i listed.size with h' | h'
    ·simp[h'] at h0 h1;rw[h0] at h1;cases h1
    ·simp[Array.getElem?_eq_none h'] at h1
   have h2:=qOp_put hoj (hfree j oj hoj hji hjun hnot) (fun cs b=>hsel i oi cs b hi) (fun cs b=>hsel j oj cs b hoj) hy h1;have hfree':∀k ok,ops[k]?=some ok→k≠i→(listed.setIfInBounds j true).getD k true=false →
     (∀e ∈ ok.after,Region.binds md e=true→e.on≠i)→oi.apart ops ok=true:=fun k ok hk hki hun hno=>by
    refine hfree k ok hk hki ?_ hno;by_cases hjk:j=k
    ·subst hjk;exact hjun
    ·rw[getD_set_ne true hjk] at hun;exact hun
   refine qOp_mono (fun a' h3=>ih (listed.setIfInBounds j true) a' hfree' (ready_mono hr (Ne.symm hji)) h3.1 ?_) h2;rw[Array.setIfInBounds_comm _ _ hji];exact h3.2
def lexTo (md:Region.Mode)(ops:Array Oper)(m:Nat):Nat→Nat→Array Bool→Bool
 | 0,_,listed=>(Region.ready md ops listed).all fun i=>decide (m≤i)
 | fuel+1,k,listed=>(Region.ready md ops listed).contains k&&decide (k<m)&&Region.free md ops listed k&&lexTo md ops m fuel (k+1) (listed.setIfInBounds k true)
def zgh:Nat→Nat→Array Bool→Array Bool
 | 0,_,l=>l
 | fuel+1,k,l=>zgh fuel (k+1) (l.setIfInBounds k true)
theorem zkn (hs:Region.noSelect ops=true):∀(l:List Oper) (k:Nat) (listed:Array Bool) (a:Act),(∀j,j<l.length→l[j]?=ops[k+j]?) →
  lexTo md ops m l.length k listed=true→wpQuiet P ops C (R (zgh l.length k listed)) l a→zim P md ops C m R l.length listed a
 | [],_,_,_,_,hB,h=>⟨fun i hi hm=>by simp only[List.length_nil,lexTo,List.all_eq_true,decide_eq_true_eq] at hB;have:=hB i hi;omega,h⟩
 | o :: l,k,listed,a,hl,hB,h=>by
  have h0:ops[k]?=some o:=by simpa using (hl 0 (by simp)).symm
  simp only[List.length_cons,lexTo,Bool.and_eq_true,decide_eq_true_eq] at hB;obtain⟨⟨⟨hr,hk⟩,hf⟩,hB'⟩:=hB;have hst:qOp P ops C k (wpQuiet P ops C (R (zgh (o :: l).length k listed)) l) a:=by unfold qOp;simp only[h0];exact h
  obtain⟨v,hy,hK⟩:=yieldsIn_of_qOp h0 hst;exact zm7 h0 hk (Region.noSelect_spec hs) l.length listed a (Region.free_spec h0 hf) (by simpa using hr) hy
   (zkn hs l (k+1) _ _ (fun j hj=>by have:=hl (j+1) (by simp;omega);simpa [Nat.add_assoc,Nat.add_comm 1 j] using this) hB' hK)
def Shut (md:Region.Mode)(ops:Array Oper)(listed:Array Bool):Prop:=∀(k:Nat) (o:Oper),listed.getD k false=true→ops[k]?=some o→∀e ∈ o.after,Region.binds md e=true→listed.getD e.on false=true
theorem Shut.put {listed:Array Bool}{i:Nat}(h:Shut md ops listed)(hi:i ∈ Region.ready md ops listed):Shut md ops (listed.setIfInBounds i true):=by
 intro k o hk ho e he hb;by_cases hki:i=k
 ·subst hki;obtain⟨_,o',ho',hall⟩:=mem_ready.1 hi;rw[ho] at ho';cases ho'
  exact getD_set_true (hall e he hb)
 ·rw[getD_set_ne false hki] at hk;exact getD_set_true (h k o hk ho e he hb)
theorem zko {Q:Exit→Act→World→Prop}:∀(fuel:Nat) (listed:Array Bool) (a:Act) (w:World),wpAny P md ops Q fuel listed a w→wpAny P md ops Q (fuel+1) listed a w
 | 0,_,_,_,h=>wpAny_done h.1 h.2 _
 | fuel+1,_,_,_,h=>⟨h.1,fun i hi=>wpOp_mono (fun a' w' h'=>zko fuel _ a' w' h') (h.2 i hi)⟩
theorem zku {Q:Exit→Act→World→Prop}{rest:Nat}{listed:Array Bool}{a:Act}{w:World}(h:wpAny P md ops Q rest listed a w):∀d,wpAny P md ops Q (d+rest) listed a w
 | 0=>by simpa using h
 | d+1=>by have:=zko _ _ _ _ (zku h d);rwa [show d+1+rest=d+rest+1 by omega]
theorem zna {Q:Exit→Act→World→Prop}{rest:Nat}{listed:Array Bool}{a:Act}{w:World}(h:wpAny P md ops Q rest listed a w)(h0:Region.ready md ops listed=[]):Q .normal a w:=by
 cases rest with
 | zero=>exact h.2
 | succ r=>exact h.1 h0
end
end
section
open Go.ChangeShapes Go.WideShapes Go.ChangeAt Go.RowKit Go.Deep Go.Joins
theorem Tryz.own:ownKnob Tryz.prog.godebug=none:=by kernel_rfl
theorem Tryz.laidOut:laidOutB Tryz.prog=true:=by kernel_rfl
theorem Tryz.cellsString:Tryz.prog.cellsOf 9=1:=by kernel_rfl
theorem Tryz.cellsBool:Tryz.prog.cellsOf 4=1:=by kernel_rfl
theorem Tryz.cellsRow:Tryz.prog.cellsOf 61=1:=by kernel_rfl
theorem Tryz.cellsLat:Tryz.prog.cellsOf 25=2:=by kernel_rfl
theorem addr_plain (b off i:Nat):(⟨b,off,none⟩:Addr).add i=⟨b,off+i,none⟩:=by unfold Addr.add;split <;> simp_all
section
variable {H:Type} {enc:TypeId × Value→H} {W:World} {base:Nat}
theorem zrt {fuel:Nat}{v:Value}{x:DataW H × List MemPlace}(h:DataW.trod enc Tryz.prog W base (fun _=>true) true fuel 22 [v]=some x) :
  ∃n:Strs,v=.slice n.ao n.len n.cap∧n.At W:=by
 rcases open_strings Tryz.underlying22 Tryz.underlying9 Tryz.cellsString h with ⟨hcs,_⟩ | ⟨a,len,cap,ss,hcs,_,hl,hm,hz,_,hcell,hws⟩
 ·exact⟨⟨none,0,0,0,0,fun _=>ByteArray.empty⟩,by simpa using hcs,⟨Nat.le_refl _,fun h=>absurd h (Nat.lt_irrefl _),Nat.zero_le _,fun _ h=>absurd h (Nat.not_lt_zero _),fun _ h=>absurd h (Nat.not_lt_zero _)⟩⟩
 ·have hv:v=.slice (some a) len cap:=by simpa using hcs
  simp only[if_true] at hz;unfold maxLen at hm hws;refine⟨⟨some a,a.block,a.off,len,cap,fun i=>ss.getD i ByteArray.empty⟩,hv,⟨hl,fun hp=>?_,Nat.le_trans hl hm,fun i hi=>?_,fun i hi=>?_⟩⟩
  ·have hp':0<len:=hp;have hs:=World.cell?_spot (hcell 0 (by omega));obtain⟨ab,ao,asp⟩:=a;have:asp=none:=by simpa [Addr.add] using hs
   subst this;rfl
  ·have hi':i<len:=hi;have hs:=World.cell?_spot (hcell 0 (by omega));obtain⟨ab,ao,asp⟩:=a;have:asp=none:=by simpa [Addr.add] using hs
   subst this;have:=hcell i (by omega);rw[addr_plain] at this;exact this
  ·have hi':i<len:=hi;have hmem:ss.getD i ByteArray.empty ∈ ss:=by
    rw[List.getD_eq_getElem?_getD,List.getElem?_eq_getElem (by omega)];exact List.getElem_mem _
   exact hws _ hmem
theorem zsl {fuel:Nat}{v:Value}{x:DataW H × List MemPlace}(h:DataW.trod enc Tryz.prog W base (fun _=>true) true fuel 23 [v]=some x) :
  ∃g:Grid,v=.slice g.ao g.len g.cap∧g.At W:=by
 rcases open_bool_rows Tryz.underlying23 Tryz.underlying61 Tryz.underlying4 Tryz.cellsRow Tryz.cellsBool h with ⟨hcs,_⟩ | ⟨a,len,cap,A,L,C,B,hcs,_,hl,hm,_,hrows⟩
 ·exact⟨⟨none,0,0,0,0,fun _=>none,fun _=>0,fun _=>0,fun _=>0,fun _=>0,fun _ _=>false⟩,by simpa using hcs,
   ⟨Nat.le_refl _,fun h=>absurd h (Nat.lt_irrefl _),Nat.zero_le _,fun _ h=>absurd h (Nat.not_lt_zero _),fun _ h=>absurd h (Nat.not_lt_zero _),fun _ h=>absurd h (Nat.not_lt_zero _),fun _ h=>absurd h (Nat.not_lt_zero _)⟩⟩
 ·have hv:v=.slice (some a) len cap:=by simpa using hcs
  unfold maxLen at hm;have hadr:∀r,r<len→0<L r→A r=some ⟨((A r).getD default).block,((A r).getD default).off,none⟩∧∀c,c<L r→W.cell? ⟨((A r).getD default).block,((A r).getD default).off+c,none⟩=some (.bool (B r c)):=fun r hr hp=>by
   obtain⟨_,h1,_,h3,h4⟩:=hrows r (by omega);cases hA:A r with
   | none=>have:=h3 hA;omega
   | some a' =>
    obtain⟨ab,ao,asp⟩:=a';obtain⟨_,hcell⟩:=h4 _ hA;have has:asp=none:=by simpa [Addr.add] using World.cell?_spot (hcell 0 (by omega))
    subst has;exact⟨rfl,fun c hc=>by have:=hcell c (by omega);rwa [addr_plain] at this⟩
  have hspot:0<len→a=⟨a.block,a.off,none⟩:=fun hp=>by
   have hs:=World.cell?_spot (hrows 0 (by omega)).1;obtain⟨ab,ao,asp⟩:=a;have:asp=none:=by simpa [Addr.add] using hs
   subst this;rfl
  refine⟨⟨some a,a.block,a.off,len,cap,A,L,C,fun r=>((A r).getD default).block,fun r=>((A r).getD default).off,B⟩,hv,⟨hl,fun hp=>congrArg some (hspot hp),Nat.le_trans hl hm,fun r hr=>?_,fun r hr=>?_,fun r hr hp=>(hadr r hr hp).1,fun r hr c hc=>(hadr r hr (Nat.lt_of_le_of_lt (Nat.zero_le _) hc)).2 c hc⟩⟩
  ·have hr':r<len:=hr;obtain⟨_,h1,h2,_⟩:=hrows r (by omega);unfold maxLen at h2;exact Nat.le_trans h1 h2
  ·have hr':r<len:=hr;have:=(hrows r (by omega)).1;rw[hspot (by omega),addr_plain] at this;exact this
theorem zvk {v:Value}{d:DataW H}{p:List MemPlace}{b0:Nat}(hv:Value.okWide Tryz.prog W .any b0 25 v)(h:DataW.Trod enc Tryz.prog W base (fun _=>true) true 25 v d p) :
  ∃(n:Strs) (g:Grid),v=.agg #[.slice n.ao n.len n.cap,.slice g.ao g.len g.cap]∧n.At W∧g.At W:=by
 obtain⟨c0,c1,y0,y1,m,rfl,_,_,hy0,hy1⟩:=open_agg2 Tryz.underlying25 (by kernel_rfl) Tryz.cellsLat hv h;obtain⟨n,rfl,hn⟩:=zrt hy0;obtain⟨g,rfl,hg⟩:=zsl hy1;exact⟨n,g,rfl,hn,hg⟩
end
end
end Go.Proofs.YtgioppfoceddfaaGreat
