import Derived.Test.YtfobijdkoeifjaaGreatDoorP9
import Derived.LoopN
import Derived.Laws.AppendOwn
import Derived.Laws.EntriesVeiled
import Derived.Deep.QuietTactic
import Derived.BigQuiet
import Derived.Carry
import Derived.Test.YtfobijdkoeifjaaGreatDoorP13
import Derived.Test.YtfobijdkoeifjaaGreatDoorP11
set_option maxRecDepth 100000
set_option maxHeartbeats 32000000
namespace Go.Proofs.YtfobijdkoeifjaaGreatDoor
section
open Go Go.RowKit
section
variable {P:Program} {ops:Array Oper} {Q:Exit→Act→World→Prop}
theorem zi2 {A:Type}{s:Sem A}{k:A→Sem Next}{w w':World}{n:Next}(hk:∀a u u',(k a).run P u=.ok n u'→∃v,n=.value v)(hr:(do k (←s):Sem Next).run P w=.ok n w'):∃u,n=.value u:=by
 simp only[Sem.run_bind] at hr;cases hq:s.run P w with
 | ok a w2=>rw[hq] at hr;simp only[Result.andThen_ok] at hr;exact hk _ _ _ hr
 | halt x w2=>rw[hq] at hr;simp[Result.andThen] at hr
def zey (o:Oper):Bool:=match o.op with
 | .load .. | .fieldAddr .. | .indexAddr .. | .extract .. | .move .. | .binOp .. | .convert .. | .build .. | .slice .. | .nilCheck .. | .unOp .. | .pick .. | .field ..=>true
 | _=>false
theorem zfy {o:Oper}(h:zey o=true)(ρ:Operand→Value)(w w':World)(n:Next)(hr:(execOp ρ o).run P w=.ok n w'):∃u,n=.value u:=by
 cases ho:o.op
 case load=>unfold execOp at hr;rw[ho] at hr;exact zc0 hr
 case fieldAddr=>unfold execOp at hr;rw[ho] at hr;exact zc0 hr
 case indexAddr=>unfold execOp at hr;rw[ho] at hr;exact zc0 hr
 case extract=>unfold execOp at hr;rw[ho] at hr;exact zc0 hr
 case move=>unfold execOp at hr;rw[ho] at hr;exact⟨_,(Result.ok.inj hr).1.symm⟩
 case binOp=>unfold execOp at hr;rw[ho] at hr;exact zc0 hr
 case convert=>unfold execOp at hr;rw[ho] at hr;exact zc0 hr
 case build=>unfold execOp at hr;rw[ho] at hr;exact zc0 hr
 case slice=>unfold execOp at hr;rw[ho] at hr;exact zc0 hr
 case unOp=>unfold execOp at hr;rw[ho] at hr;exact zc0 hr
 case field=>unfold execOp at hr;rw[ho] at hr;exact zc0 hr
 case pick c x y =>
  unfold execOp at hr;rw[ho] at hr;simp only[Sem.run_bind] at hr;cases hq:(asBool (ρ c)).run P w with
  | ok v w2=>rw[hq] at hr;simp only[Result.andThen_ok,Sem.run_pure] at hr;exact⟨_,(Result.ok.inj hr).1.symm⟩
  | halt x w2=>rw[hq] at hr;simp[Result.andThen] at hr
 case nilCheck x =>
  unfold execOp at hr;rw[ho] at hr;simp only at hr;split at hr
  ·cases hr
  ·cases hr
  ·cases hr
  ·split at hr
   ·cases hr
   ·refine zi2 (fun a u u' h1=>?_) hr;refine zi2 (fun b v v' h2=>?_) h1;split at h2
    ·refine zi2 (fun c x x' h3=>?_) h2;exact⟨_,(Result.ok.inj h3).1.symm⟩
    ·exact⟨_,(Result.ok.inj h2).1.symm⟩
   ·exact⟨_,(Result.ok.inj hr).1.symm⟩
  ·exact⟨_,(Result.ok.inj hr).1.symm⟩
 all_goals (unfold zey at h;rw[ho] at h;cases h)
theorem zhn {S:World→Prop}{o:Oper}{a:Act}{K:Act→Prop}(hr:zey o=true)(h:if Region.wanted o (yielded ops a.tmps) then o.quiet P a S K else K (a.put o.dst undef)):∃v,YieldsIf P ops S o v a∧K (a.put o.dst v):=by
 by_cases hw:Region.wanted o (yielded ops a.tmps)=true
 ·rw[if_pos hw] at h;obtain⟨v,h1,h2⟩:=h;refine⟨v,Or.inl ⟨hw,fun w hS=>?_⟩,h2⟩;have h3:=h1 w hS;unfold Oper.quietAt at h3;cases hq:(execOp a.eval o).run P w with
  | ok n w' =>
   obtain⟨u,rfl⟩:=zfy hr _ _ _ _ hq;rw[hq] at h3;simp only[Oper.quietUpon] at h3;rw[h3.1,h3.2]
  | halt x w'=>rw[hq] at h3;simp only[Oper.quietUpon] at h3
 ·rw[if_neg hw] at h;exact⟨undef,Or.inr ⟨by simpa using hw,rfl⟩,h⟩
def lexQ (ops:Array Oper):List Nat→List Oper→Array Bool→Bool
 | [],[],_=>true
 | i :: js,o :: l,listed=>zey o&&(Region.ready .any ops listed).contains i&&Region.free .any ops listed i&&lexQ ops js l (listed.setIfInBounds i true)
 | _,_,_=>false
theorem zeo {S:World→Prop}{K:Act→Prop}{rest:Nat}{w:World}(hs:Region.noSelect ops=true)(hQ:∀c a d v w,Q (.panic c) (Act.put a d v) w→Q (.panic c) a w)(hS:S w):∀(js:List Nat) (l:List Oper) (listed:Array Bool) (a:Act),(∀j,j<l.length→∃i,js[j]?=some i∧ops[i]?=l[j]?) →
  lexQ ops js l listed=true→wpQuiet P ops S K l a→(∀a',K a'→wpAnyH P .any ops Q S rest (zbn js listed) a' w)→wpAnyH P .any ops Q S (js.length+rest) listed a w
 | [],[],_,_,_,_,h,hK=>by simpa [zbn] using hK _ h
 | [],_ :: _,_,_,_,hB,_,_=>by simp[lexQ] at hB
 | _ :: _,[],_,_,_,hB,_,_=>by simp[lexQ] at hB
 | i :: js,o :: l,listed,a,hl,hB,h,hK=>by
  have h0:ops[i]?=some o:=by
   obtain⟨i',h1,h2⟩:=hl 0 (by simp);have:i=i':=by simpa using h1
   subst this
   simpa using h2
  simp only[lexQ,Bool.and_eq_true] at hB;obtain⟨⟨⟨hr,hc⟩,hf⟩,hB'⟩:=hB;have h':if Region.wanted o (yielded ops a.tmps) then o.quiet P a S (wpQuiet P ops S K l) else wpQuiet P ops S K l (a.put o.dst undef):=h
  obtain⟨v,hy,hk⟩:=zhn (ops:=ops) hr h';rw[show (i :: js).length+rest=(js.length+rest)+1 by simp;omega]
  exact wpAnyH_take h0 hs hf hc (fun c a w=>hQ c a _ _ w) hy hS (zeo hs hQ hS js l _ _ (fun j hj=>by
   obtain⟨i',h1,h2⟩:=hl (j+1) (by simp;omega)
   exact⟨i',by simpa using h1,by simpa using h2⟩) hB' hk hK)
theorem zja {id:Nat}{a:Act}{w:World}{l:List Oper}(S:World→Prop)(js:List Nat)(rest:Nat)(hm:P.follows .mixedOrders=true)(hlen:l.length=js.length+rest)(hB:(Region.noSelect l.toArray&&lexQ l.toArray js (js.filterMap (l[·]?)) (Array.replicate l.length false))=true)(hj:∀j,j<(js.filterMap (l[·]?)).length→∃i,js[j]?=some i∧l.toArray[i]?=(js.filterMap (l[·]?))[j]?)
  (hQ:∀c a d v w,Q (.panic c) (Act.put a d v) w→Q (.panic c) a w) (hS:S w.drew)
  (h:wpQuiet P l.toArray (fun u=>∃x:Wd S,u=x.w) (fun a'=>wpAnyH P .any l.toArray Q S rest (zbn js (Array.replicate l.length false)) a' w.drew) (js.filterMap (l[·]?)) a):(Code.region id l.toArray true).wp P Q a w:=by
 simp only[Bool.and_eq_true] at hB;refine wp_region_held_drew (S:=S) hm hS fun hS=>?_;have e3:Array.replicate l.toArray.size false=Array.replicate l.length false:=by simp
 have e2:l.toArray.size=js.length+rest:=by simpa using hlen
 have eS:(fun u:World=>∃x:Wd S,u=x.w)=S:=by
  funext u;apply propext
  exact⟨fun ⟨x,hx⟩=>hx ▸ x.2,fun h=>⟨⟨u,h⟩,rfl⟩⟩
 rw[eS] at h;rw[e3,e2];exact zeo hB.1 hQ hS js _ _ a hj hB.2 h (fun a' h=>h)
end
theorem zal {P:Program}{Q:Exit→Act→World→Prop}{id:Nat}{a:Act}{w:World}{l:List Oper}(S:World→Prop)(js:List Nat)(rest:Nat)(hm:P.follows .mixedOrders=true)(hlen:l.length=js.length+rest)(hB:(Region.noSelect l.toArray&&lexQ l.toArray js (js.filterMap (l[·]?)) (Array.replicate l.length false))=true)(hj:∀j,j<(js.filterMap (l[·]?)).length→∃i,js[j]?=some i∧l.toArray[i]?=(js.filterMap (l[·]?))[j]?)
  (hS:S w.drew)
  (h:wpQuiet P l.toArray (fun u=>∃x:Wd S,u=x.w) (fun a'=>wpAnyH P .any l.toArray (zf2 Q) S rest (zbn js (Array.replicate l.length false)) a' w.drew) (js.filterMap (l[·]?)) a):(Code.region id l.toArray true).wp P Q a w :=
 Code.wp_mono (fun _ _ _ h=>h.2) (zja S js rest hm hlen hB hj (fun c _ _ _ _ h=>absurd rfl (h.1 c)) hS h)
theorem za7 {l:List Oper}{js:List Nat}(h:(js.all fun i=>decide (i<l.length))=true):∀j,j<(js.filterMap (l[·]?)).length→∃i,js[j]?=some i∧l.toArray[i]?=(js.filterMap (l[·]?))[j]?:=by
 induction js with
 | nil=>intro j hj;simp at hj
 | cons i js ih =>
  simp only[List.all_cons,Bool.and_eq_true,decide_eq_true_eq] at h;have e:l[i]?=some l[i]:=List.getElem?_eq_getElem h.1;intro j hj;cases j with
  | zero=>exact⟨i,rfl,by simp[e]⟩
  | succ j =>
   rw[List.filterMap_cons,e] at hj;obtain⟨i',h1,h2⟩:=ih h.2 j (by simpa using hj);refine⟨i',by simpa using h1,?_⟩;rw[h2,List.filterMap_cons,e];simp
theorem zba {P:Program}{l:List Oper}{Q:Exit→Act→World→Prop}{S:World→Prop}(js:List Nat){rest fuel:Nat}{listed:Array Bool}{a:Act}{w:World}(hf:fuel=js.length+rest)(hj:(js.all fun i=>decide (i<l.length))=true)(hB:(Region.noSelect l.toArray&&lexQ l.toArray js (js.filterMap (l[·]?)) listed)=true)(hS:S w)
  (h:wpQuiet P l.toArray (fun u=>∃x:Wd S,u=x.w) (fun a'=>wpAnyH P .any l.toArray (zf2 Q) S rest (zbn js listed) a' w) (js.filterMap (l[·]?)) a):wpAnyH P .any l.toArray (zf2 Q) S fuel listed a w:=by
 simp only[Bool.and_eq_true] at hB;have eS:(fun u:World=>∃x:Wd S,u=x.w)=S:=by
  funext u;apply propext
  exact⟨fun ⟨x,hx⟩=>hx ▸ x.2,fun h=>⟨⟨u,h⟩,rfl⟩⟩
 rw[eS] at h;rw[hf];exact zeo hB.1 (fun c _ _ _ _ h=>absurd rfl (h.1 c)) hS js _ _ a (za7 hj) hB.2 h (fun a' h=>h)
section
variable {P:Program} {ops:Array Oper} {Q:Exit→Act→World→Prop} {md:Region.Mode} {S:World→Prop} {m:Nat}
def isLen (o:Oper):Bool:=match o.op with
 | .call c=>(match c.callee with | .builtin .len=>true | _=>false)
 | _=>false
def zig (o:Oper):Bool:=zey o||isLen o
theorem znz {o:Oper}(h:zig o=true)(ρ:Operand→Value)(w w':World)(n:Next)(hr:(execOp ρ o).run P w=.ok n w'):∃u,n=.value u:=by
 unfold zig at h;rw[Bool.or_eq_true] at h;rcases h with h | h
 ·exact zfy h ρ w w' n hr
 ·unfold isLen at h;split at h
  ·rename_i c ho
   split at h
   ·rename_i hc
    unfold execOp at hr;simp only[ho,resolve,hc,invoke,builtin,Sem.run_bind,Sem.run_pure,Result.andThen_ok] at hr;cases hq:(Builtin.len_ c.argTypes o.type (c.args.map ρ)).run P w with
    | ok v w2=>rw[hq] at hr;simp only[Result.andThen_ok] at hr;exact⟨v,(Result.ok.inj hr).1.symm⟩
    | halt x w2=>rw[hq] at hr;simp[Result.andThen] at hr
   ·cases h
  ·cases h
theorem zhi {S:World→Prop}{o:Oper}{a:Act}{K:Act→Prop}(hr:zig o=true)(h:if Region.wanted o (yielded ops a.tmps) then o.quiet P a S K else K (a.put o.dst undef)):∃v,YieldsIf P ops S o v a∧K (a.put o.dst v):=by
 by_cases hw:Region.wanted o (yielded ops a.tmps)=true
 ·rw[if_pos hw] at h;obtain⟨v,h1,h2⟩:=h;refine⟨v,Or.inl ⟨hw,fun w hS=>?_⟩,h2⟩;have h3:=h1 w hS;unfold Oper.quietAt at h3;cases hq:(execOp a.eval o).run P w with
  | ok n w' =>
   obtain⟨u,rfl⟩:=znz hr _ _ _ _ hq;rw[hq] at h3;simp only[Oper.quietUpon] at h3;rw[h3.1,h3.2]
  | halt x w'=>rw[hq] at h3;simp only[Oper.quietUpon] at h3
 ·rw[if_neg hw] at h;exact⟨undef,Or.inr ⟨by simpa using hw,rfl⟩,h⟩
def lexG (ops:Array Oper):List Nat→List Oper→Array Bool→Bool
 | [],[],_=>true
 | i :: js,o :: l,listed=>zig o&&(Region.ready .any ops listed).contains i&&Region.free .any ops listed i&&lexG ops js l (listed.setIfInBounds i true)
 | _,_,_=>false
def behB (md:Region.Mode)(ops:Array Oper)(m:Nat):Bool:=(List.range ops.size).all fun t=>decide (t≤m)||(List.range t).any fun s=>decide (m≤s)&&Region.waitsFor md ops t s
theorem zvd (hg:behB md ops m=true){listed:Array Bool}(hS:Shut md ops listed):∀s,m≤s→s<ops.size→listed.getD s false=true→listed.getD m false=true:=by
 simp only[behB,List.all_eq_true,List.mem_range,Bool.or_eq_true,decide_eq_true_eq,List.any_eq_true,Bool.and_eq_true] at hg;intro s
 induction s using Nat.strongRecOn with
 | ind s ih =>
  intro h1 h2 h3;by_cases e:s=m
  ·rw[←e];exact h3
  ·rcases hg s h2 with h | ⟨x,hx,h4,h5⟩
   ·omega
   ·obtain⟨oj,hj,e,he,hb,hon⟩:=Region.waitsFor_spec h5;have:=hS s oj h3 hj e he hb;rw[hon] at this;exact ih x hx h4 (by omega) this
theorem zur (hs:Region.sinkB md ops m=true)(hg:behB md ops m=true){listed:Array Bool}(hS:Shut md ops listed){j:Nat}{oj:Oper}(hoj:ops[j]?=some oj)(hall:∀e ∈ oj.after,Region.binds md e=true→listed.getD e.on false=true)(hj:¬j<m):∀i,i<m→listed.getD i false=true:=by
 intro i hi;have hlt:=(Array.getElem?_eq_some_iff.1 hoj).1;have hmlt:m<ops.size:=by omega
 have hom:ops[m]?=some ops[m]:=Array.getElem?_eq_getElem hmlt;have key:∀e ∈ ops[m].after,Region.binds md e=true→listed.getD e.on false=true:=by
  by_cases e:j=m
  ·subst e;rw[hom] at hoj;cases hoj
   exact hall
  ·have hg':=hg;simp only[behB,List.all_eq_true,List.mem_range,Bool.or_eq_true,decide_eq_true_eq,List.any_eq_true,Bool.and_eq_true] at hg';rcases hg' j hlt with h | ⟨x,hx,h4,h5⟩
   ·omega
   ·obtain⟨oj',hj',e,he,hb,hon⟩:=Region.waitsFor_spec h5;rw[hoj] at hj';cases hj'
    have h1:=hall e he hb;rw[hon] at h1;exact hS m ops[m] (zvd hg hS x h4 (by omega) h1) hom
 exact zna hs hS hom key (m - 1 - i) i (by omega)
def zcn (P:Program)(md:Region.Mode)(ops:Array Oper)(Q:Exit→Act→World→Prop)(S:World→Prop)(m:Nat):Nat→Array Bool→Act→World→Prop
 | 0,listed,a,w=>Region.ready md ops listed=[]∧Q .normal a w
 | fuel+1,listed,a,w =>
  (Region.ready md ops listed=[]→Q .normal a w) ∧
  ∀i ∈ Region.ready md ops listed,wpOp P ops Q i (fun a' w'=>(i<m→S w')∧zcn P md ops Q S m fuel (listed.setIfInBounds i true) a' w') a w
theorem zg1:∀(fuel:Nat) (listed:Array Bool) (a:Act) (w:World),(∀i,i<m→listed.getD i true=true)→wpAny P md ops Q fuel listed a w→zcn P md ops Q S m fuel listed a w
 | 0,_,_,_,_,h=>h
 | fuel+1,listed,_,_,hl,h=>by
  refine⟨h.1,fun i hi=>?_⟩;have hn:¬i<m:=fun him=>by
   have h1:=(mem_ready.1 hi).1;rw[hl i him] at h1;cases h1
  refine wpOp_mono (fun a' w' h'=>⟨fun him=>absurd him hn,zg1 fuel _ a' w' (fun k hk=>?_) h'⟩) (h.2 i hi);rw[getD_set_ne true (by omega)];exact hl k hk
theorem zjw:∀(fuel:Nat) (listed:Array Bool) (a:Act) (w:World),zcn P md ops Q S m fuel listed a w→wpAny P md ops Q fuel listed a w
 | 0,_,_,_,h=>h
 | fuel+1,_,_,_,h=>⟨h.1,fun i hi=>wpOp_mono (fun a' w' h'=>zjw fuel _ a' w' h'.2) (h.2 i hi)⟩
theorem zmc {i:Nat}{oi:Oper}{v:Value}(hi:ops[i]?=some oi)(hsel:∀(j:Nat) (o:Oper) cs b,ops[j]?=some o→o.op≠.select cs b)
  (hQ:∀c a w,Q (.panic c) (a.put oi.dst v) w→Q (.panic c) a w) (hsk:Region.sinkB md ops m=true) (hgt:behB md ops m=true) (him:i<m) :
  ∀(fuel:Nat) (listed:Array Bool) (a:Act) (w:World),Shut md ops listed →
   (∀j oj,ops[j]?=some oj→j≠i→listed.getD j true=false→(∀e ∈ oj.after,Region.binds md e=true→e.on≠i)→oi.apart ops oj=true) →
   i ∈ Region.ready md ops listed→YieldsIf P ops S oi v a→S w →
   zcn P md ops Q S m fuel (listed.setIfInBounds i true) (a.put oi.dst v) w→zcn P md ops Q S m (fuel+1) listed a w:=by
 intro fuel
 induction fuel with
 | zero =>
  intro listed a w _ _ hr hy hS H;refine⟨fun h=>(by rw[h] at hr;cases hr),fun j hj=>?_⟩
  by_cases hji:j=i
  ·subst hji;exact hy.wpOp hi hS ⟨fun _=>hS,H⟩
  ·have:=ready_mono hj hji;rw[H.1] at this;cases this
 | succ fuel ih =>
  intro listed a w hShut hfree hr hy hS H;refine⟨fun h=>(by rw[h] at hr;cases hr),fun j hj=>?_⟩
  by_cases hji:j=i
  ·subst hji;exact hy.wpOp hi hS ⟨fun _=>hS,H⟩
  ·have h1:=H.2 j (ready_mono hj hji);obtain⟨hjun,oj,hoj,hall⟩:=mem_ready.1 hj;have hjm:j<m:=by
    apply Classical.byContradiction
    intro hge;have hun:=(mem_ready.1 hr).1;have hin:listed.getD i false=true:=zur hsk hgt hShut hoj hall hge i him;rcases Nat.lt_or_ge i listed.size with h' | h'
    ·simp[h'] at hin hun;rw[hin] at hun;cases hun
    ·simp[Array.getElem?_eq_none h'] at hin
   have hnot:∀e ∈ oj.after,Region.binds md e=true→e.on≠i:=fun e he hb heq=>by
    have h1:=hall e he hb;have h0:=(mem_ready.1 hr).1;rw[heq] at h1;rcases Nat.lt_or_ge i listed.size with h' | h'
    ·simp[h'] at h0 h1;rw[h0] at h1;cases h1
    ·simp[Array.getElem?_eq_none h'] at h1
   have h2:=wpOp_putIf hoj (hfree j oj hoj hji hjun hnot) (fun cs b=>hsel i oi cs b hi) (fun cs b=>hsel j oj cs b hoj) hQ hy h1;have hfree':∀k ok,ops[k]?=some ok→k≠i→(listed.setIfInBounds j true).getD k true=false →
     (∀e ∈ ok.after,Region.binds md e=true→e.on≠i)→oi.apart ops ok=true:=fun k ok hk hki hun hno=>by
    refine hfree k ok hk hki ?_ hno;by_cases hjk:j=k
    ·subst hjk;exact hjun
    ·rw[getD_set_ne true hjk] at hun;exact hun
   refine wpOp_mono (fun a' w' h3=>⟨fun _=>h3.2.1 hjm,ih (listed.setIfInBounds j true) a' w' (hShut.put hj) hfree' (ready_mono hr (Ne.symm hji)) h3.1 (h3.2.1 hjm) ?_⟩) h2;rw[Array.setIfInBounds_comm _ _ hji];exact h3.2.2
def AllReadyG (P:Program)(md:Region.Mode)(ops:Array Oper)(Q:Exit→Act→World→Prop)(S:World→Prop)(m:Nat)(fuel:Nat)(listed:Array Bool)(a:Act)(w:World)(rs:List Nat):Prop :=
 ∀i ∈ rs,wpOp P ops Q i (fun a' w'=>(i<m→S w')∧zcn P md ops Q S m fuel (listed.setIfInBounds i true) a' w') a w
theorem AllReadyG.nil {fuel:Nat}{listed:Array Bool}{a:Act}{w:World}:AllReadyG P md ops Q S m fuel listed a w []:=fun _ h=>by cases h
theorem AllReadyG.cons {fuel:Nat}{listed:Array Bool}{a:Act}{w:World}{i:Nat}{o:Oper}{rs:List Nat}(ho:ops[i]?=some o)
  (h:∀K':Act→World→Prop,Hid (∀a w,(i<m→S w)→zcn P md ops Q S m fuel (listed.setIfInBounds i true) a w→K' a w)→if Region.wanted o (yielded ops a.tmps)=true then Oper.wp P o a w K' Q else K' (a.put o.dst undef) w)
  (hs:AllReadyG P md ops Q S m fuel listed a w rs):AllReadyG P md ops Q S m fuel listed a w (i :: rs):=fun j hj=>by
 rcases List.mem_cons.1 hj with rfl | hj
 ·exact wpOp_step ho (fun K' hK=>h K' (fun a w hS hW=>hK a w ⟨hS,hW⟩))
 ·exact hs j hj
theorem zaq {rs:List Nat}{fuel:Nat}{listed:Array Bool}{a:Act}{w:World}(hr:Region.ready md ops listed=rs)(hne:rs≠[])
  (h:AllReadyG P md ops Q S m fuel listed a w rs):zcn P md ops Q S m (fuel+1) listed a w:=⟨fun h0=>absurd (hr.symm.trans h0) hne,fun i hi=>h i (by rw[←hr];exact hi)⟩
theorem zeh {listed:Array Bool}{a:Act}{w:World}(hr:Region.ready md ops listed=[])(h:Q .normal a w):∀fuel,zcn P md ops Q S m fuel listed a w
 | 0=>⟨hr,h⟩
 | _+1=>⟨fun _=>h,fun i hi=>by rw[hr] at hi;cases hi⟩
theorem zgx {K:Act→Prop}{rest:Nat}{w:World}(hs:Region.noSelect ops=true)(hQ:∀c a d v w,Q (.panic c) (Act.put a d v) w→Q (.panic c) a w)(hsk:Region.sinkB .any ops m=true)(hgt:behB .any ops m=true)(hS:S w):∀(js:List Nat) (l:List Oper) (listed:Array Bool) (a:Act),Shut .any ops listed→(js.all fun i=>decide (i<m))=true→(∀j,j<l.length→∃i,js[j]?=some i∧ops[i]?=l[j]?) →
  lexG ops js l listed=true→wpQuiet P ops S K l a→(∀a',K a'→zcn P .any ops Q S m rest (zbn js listed) a' w)→zcn P .any ops Q S m (js.length+rest) listed a w
 | [],[],_,_,_,_,_,_,h,hK=>by simpa [zbn] using hK _ h
 | [],_ :: _,_,_,_,_,_,hB,_,_=>by simp[lexG] at hB
 | _ :: _,[],_,_,_,_,_,hB,_,_=>by simp[lexG] at hB
 | i :: js,o :: l,listed,a,hSh,hjm,hl,hB,h,hK=>by
  have h0:ops[i]?=some o:=by
   obtain⟨i',h1,h2⟩:=hl 0 (by simp);have:i=i':=by simpa using h1
   subst this
   simpa using h2
  simp only[lexG,Bool.and_eq_true] at hB;obtain⟨⟨⟨hr,hc⟩,hf⟩,hB'⟩:=hB;simp only[List.all_cons,Bool.and_eq_true,decide_eq_true_eq] at hjm;have h':if Region.wanted o (yielded ops a.tmps) then o.quiet P a S (wpQuiet P ops S K l) else wpQuiet P ops S K l (a.put o.dst undef):=h
  obtain⟨v,hy,hk⟩:=zhi (ops:=ops) hr h';rw[show (i :: js).length+rest=(js.length+rest)+1 by simp;omega]
  have hmem:i ∈ Region.ready .any ops listed:=by simpa using hc
  exact zmc h0 (Region.noSelect_spec hs) (fun c a w=>hQ c a _ _ w) hsk hgt hjm.1 _ listed a w hSh (Region.free_spec h0 hf) hmem hy hS (zgx hs hQ hsk hgt hS js l _ _ (hSh.put hmem) hjm.2 (fun j hj=>by
   obtain⟨i',h1,h2⟩:=hl (j+1) (by simp;omega)
   exact⟨i',by simpa using h1,by simpa using h2⟩) hB' hk hK)
end
theorem zbu {P:Program}{Q:Exit→Act→World→Prop}{id:Nat}{a:Act}{w:World}{l:List Oper}(S:World→Prop)(m:Nat)(js:List Nat)(rest:Nat)(hm:P.follows .mixedOrders=true)(hlen:l.length=js.length+rest)(hB:(Region.noSelect l.toArray&&lexG l.toArray js (js.filterMap (l[·]?)) (Array.replicate l.length false)&&(Region.sinkB .any l.toArray m&&behB .any l.toArray m)&&(js.all fun i=>decide (i<m))&&(js.all fun i=>decide (i<l.length)))=true)
  (hS:S w.drew)
  (h:wpQuiet P l.toArray (fun u=>∃x:Wd S,u=x.w) (fun a'=>zcn P .any l.toArray (zf2 Q) S m rest (zbn js (Array.replicate l.length false)) a' w.drew) (js.filterMap (l[·]?)) a):(Code.region id l.toArray true).wp P Q a w:=by
 refine Code.wp_mono (fun _ _ _ h=>h.2) (Q:=zf2 Q) ?_;simp only[Bool.and_eq_true] at hB;obtain⟨⟨⟨⟨h1,h2⟩,h3⟩,h4⟩,h5⟩:=hB;have h3:=Bool.and_eq_true_iff.2 h3;have e3:Array.replicate l.toArray.size false=Array.replicate l.length false:=by simp
 have e2:l.toArray.size=js.length+rest:=by simpa using hlen
 have eS:(fun u:World=>∃x:Wd S,u=x.w)=S:=by
  funext u;apply propext
  exact⟨fun ⟨x,hx⟩=>hx ▸ x.2,fun h=>⟨⟨u,h⟩,rfl⟩⟩
 rw[eS] at h;refine wp_region_any hm (zjw _ _ _ _ (S:=S) (m:=m) ?_);rw[e3,e2];exact zgx h1 (fun c _ _ _ _ h=>absurd rfl (h.1 c)) (Bool.and_eq_true_iff.1 h3).1 (Bool.and_eq_true_iff.1 h3).2 hS js _ _ a (by intro k o hk;simp[Array.getElem?_replicate] at hk;split at hk <;> simp_all) h4 (za7 h5) h2 h (fun a' h=>h)
theorem zcj {P:Program}{md:Region.Mode}{ops:Array Oper}{Q:Exit→Act→World→Prop}{S:World→Prop}{m fuel:Nat}{listed:Array Bool}{a:Act}{w:World}(hl:((List.range m).all fun i=>listed.getD i true)=true)(h:wpAnyH P md ops Q (fun _=>True) fuel listed a w):zcn P md ops Q S m fuel listed a w :=
 zg1 _ _ _ _ (fun i hi=>List.all_eq_true.1 hl i (List.mem_range.2 hi)) (wpAny_of_held _ _ _ _ h)
theorem Blk.setE {w:World}{B:Nat}{c:List Value}{t:TypeId}(h:Blk w B c t)(i:Nat)(v:Value):Blk (w.setCell ⟨B,i,none⟩ v) B (c.set i v) t:=by
 unfold Blk at h ⊢;simp[World.setCell,Array.getElem?_modify,h]
theorem WroteB.cell1 {w:World}{B:Nat}{c:List Value}{t:TypeId}(h:Blk w B c t)(i:Nat)(v:Value):WroteB w (w.setCell ⟨B,i,none⟩ v) B (c.set i v) t :=
 ⟨h.setE i v,fun b hb=>Below.heap_setCell _ _ _ _ hb,by simp[World.setCell],fun hB hb=>hb.setCell hB v⟩
theorem zbk {o:Oper}{a:Act}{w:World}{K:Act→World→Prop}{Q:Exit→Act→World→Prop}(ty:TypeId)(p x:Operand)(ho:o.op=.store ty p x)(hdst:o.dst=none)(B i:Nat)(v:Value)(c:List Value)(t:TypeId)(hp:a.eval p=.pointer (some ⟨B,i,none⟩))(hx:a.eval x=v)
  (hs:∀w:World,w.there B i 1→(storeVar ty ⟨B,i,none⟩ v).run Tryz.prog w=.ok () (w.setCell ⟨B,i,none⟩ v))
  (hb:Blk w B c t) (hi:i<c.length) (h:∀w',WroteB w w' B (c.set i v) t→K a w'):o.wp Tryz.prog a w K Q:=by
 have ht:w.there B i 1:=fun j hj=>by
  have e:j=0:=by omega
  subst e;refine⟨?_,hb.frozen _⟩;rw[hb.cell (i+0) (v:=c[i]) (by simp[hi])];rfl
 unfold Oper.wp execOp;simp only[ho,hp,hx,Instr.storeAt,Instr.sureAddr,Sem.run_bind,Sem.run_pure,Result.andThen_ok,hs w ht];have e:a.put o.dst undef=a:=by rw[hdst];rfl
 show K (a.put o.dst undef) _
 rw[e];exact h _ (WroteB.cell1 hb i v)
theorem zbf {w:World}{ops:Array Oper}{rest:List Oper}{o:Oper}{a:Act}{Q:Exit→Act→World→Prop}(hgd:o.guard=none)(ty:TypeId)(p x:Operand)(ho:o.op=.store ty p x)(hdst:o.dst=none)(B i:Nat)(v:Value)(c:List Value)(t:TypeId)(hp:a.eval p=.pointer (some ⟨B,i,none⟩))(hx:a.eval x=v)
  (hs:∀w:World,w.there B i 1→(storeVar ty ⟨B,i,none⟩ v).run Tryz.prog w=.ok () (w.setCell ⟨B,i,none⟩ v))
  (hb:Blk w B c t) (hi:i<c.length) (h:∀w',WroteB w w' B (c.set i v) t→wpList Tryz.prog ops Q rest a w'):wpList Tryz.prog ops Q (o :: rest) a w :=
 wpList_plain hgd fun _ hK=>zbk ty p x ho hdst B i v c t hp hx hs hb hi (fun w' W=>hK _ _ (h w' W))
theorem Tryz.infoIntT:(Tryz.prog.info? 3).map (fun i=>(i.zero,i.size,i.bytes))=some (some (.int .i64 0),1,8):=by kernel_rfl
theorem run_slice_int (k:Int)(w:World):(Instr.buildSlice 51 1 #[(0,.int .i64 k)]).run Tryz.prog w=.ok (.slice (some ⟨w.heap.size,0,none⟩) 1 1) (w.alloc (.cells #[.int .i64 k] 3)):=by
 obtain⟨i0,hi,hz0,hz1,hz2⟩:=info_parts Tryz.infoIntT;have hf:Instr.fill (fun i=>some (i,1)) (Array.map (fun x=>[Value.int IntKind.i64 0][x % 1]?.getD default) (Array.range 1)) [(0,.int .i64 k)]=some #[.int .i64 k]:=by kernel_rfl
 simp[Instr.buildSlice,run_underlying Tryz.underlying51,sizeOf,typeInfo,hi,hz0,hz1,zeroValue,newRow,Value.cells,hf]
theorem zaw (ty:TypeId)(v:Value)(h1:(Tryz.prog.info? ty).map (·.size)=some 1)(hv:v.oneCell'=true)(hc:v.cells=#[v])(B i:Nat)(w:World)(h:w.there B i 1):(storeVar ty ⟨B,i,none⟩ v).run Tryz.prog w=.ok () (w.setCell ⟨B,i,none⟩ v):=by
 cases hq:Tryz.prog.info? ty with
 | none=>simp[hq] at h1
 | some j =>
  have hs:j.size=1:=by simpa [hq] using h1
  have:=run_storeCells_cells (P:=Tryz.prog) B i [v] 0 w (fun j hj=>by simpa using (h j (by simpa using hj)).1) (fun j hj=>by simpa using (h j (by simpa using hj)).2) (fun u hu=>by simp at hu;subst hu;exact hv)
  simp only[Nat.add_zero,World.setCells] at this;simp[storeVar,sizeOf,typeInfo,hq,hc,hs,this]
end
section
def Ty.Nd:Ty→Prop
 | .dm=>False
 | .mk _ _ _ _ _ _ _ len _ ps=>∀i,i<len→Ty.Nd (ps i)
theorem Ty.At.nd {w:World}:∀{t:Ty},t.At w→t.Nd
 | .dm,h=>h
 | .mk _ _ _ _ _ _ _ _ _ _,h=>fun i hi=>Ty.At.nd (h.2.2 i hi).2
theorem zdz {N:Nat}:∀s t:Ty,s.Nd→t.Nd→s.same t=true→(∀d,s.fm N d=t.fm N d)∧s.nodes=t.nodes:=by
 intro s
 induction s with
 | dm=>intro t h;exact h.elim
 | mk k l hh e ao b o len cap ps ih =>
  intro t hs ht h;rcases t with _ | ⟨tk,tl,th,te,tao,tb,to',tlen,tcap,tps⟩
  ·exact ht.elim
  rw[za4] at h;obtain⟨⟨h1,h2,h3,h4,h5⟩,h6⟩:=h;have h1':k=tk:=h1;have h2':l=tl:=h2;have h3':hh=th:=h3;have h4':e=te:=h4;have h5':len=tlen:=h5;subst h1' h2' h3' h4' h5';have sub:∀i,i<len→(∀d,(ps i).fm N d=(tps i).fm N d)∧(ps i).nodes=(tps i).nodes:=fun i hi=>ih i (tps i) (hs i hi) (ht i hi) (h6 i hi);refine⟨fun d=>?_,?_⟩
  ·rw[zeg,zeg]
   congr 1
   rw[decide_eq_decide];exact⟨fun hh i hi=>by rw[← (sub i hi).1];exact hh i hi,fun hh i hi=>by rw[(sub i hi).1];exact hh i hi⟩
  ·show 1+za3 (fun i=>(ps i).nodes) len=1+za3 (fun i=>(tps i).nodes) len
   rw[zhv len (fun i hi=>(sub i hi).2)]
end
section
open Go.RowKit
structure Sl where
 ao:Option Addr
 len:Nat
 cap:Nat
structure Fn where
 p:Ty
 r:Ty
 c:Ty
 h:Int
 e:Int
 sl:Int
 cd:Sl
 hd:Sl
 pt:Sl
 rg:Sl
structure Bf (w:World)(B:Nat)(f:Fn):Prop where
 c0:w.cell? ⟨B,0,none⟩=some (.int .i64 f.p.k)
 c1:w.cell? ⟨B,1,none⟩=some (.int .i64 f.p.l)
 c2:w.cell? ⟨B,2,none⟩=some (.slice f.p.ao f.p.len f.p.cap)
 c3:w.cell? ⟨B,3,none⟩=some (.int .i64 f.p.h)
 c4:w.cell? ⟨B,4,none⟩=some (.int .i64 f.p.e)
 c5:w.cell? ⟨B,5,none⟩=some (.int .i64 f.r.k)
 c6:w.cell? ⟨B,6,none⟩=some (.int .i64 f.r.l)
 c7:w.cell? ⟨B,7,none⟩=some (.slice f.r.ao f.r.len f.r.cap)
 c8:w.cell? ⟨B,8,none⟩=some (.int .i64 f.r.h)
 c9:w.cell? ⟨B,9,none⟩=some (.int .i64 f.r.e)
 c10:w.cell? ⟨B,10,none⟩=some (.slice f.c.ao f.c.len f.c.cap)
 c11:w.cell? ⟨B,11,none⟩=some (.int .i64 f.h)
 c12:w.cell? ⟨B,12,none⟩=some (.int .i64 f.e)
 c13:w.cell? ⟨B,13,none⟩=some (.int .i64 f.sl)
 c14:w.cell? ⟨B,14,none⟩=some (.slice f.cd.ao f.cd.len f.cd.cap)
 c15:w.cell? ⟨B,15,none⟩=some (.slice f.hd.ao f.hd.len f.hd.cap)
 c16:w.cell? ⟨B,16,none⟩=some (.slice f.pt.ao f.pt.len f.pt.cap)
 c17:w.cell? ⟨B,17,none⟩=some (.slice f.rg.ao f.rg.len f.rg.cap)
theorem Bf.kept {w w':World}{B:Nat}{f:Fn}(h:Bf w B f)(hb:Below w.heap.size w w'):Bf w' B f:=⟨up hb h.c0,up hb h.c1,up hb h.c2,up hb h.c3,up hb h.c4,up hb h.c5,up hb h.c6,up hb h.c7,up hb h.c8,up hb h.c9,up hb h.c10,up hb h.c11,up hb h.c12,up hb h.c13,up hb h.c14,up hb h.c15,up hb h.c16,up hb h.c17⟩
def fnO (f:Fn):Obj:=.cells #[.int .i64 f.p.k,.int .i64 f.p.l,.slice f.p.ao f.p.len f.p.cap,.int .i64 f.p.h,.int .i64 f.p.e,.int .i64 f.r.k,.int .i64 f.r.l,.slice f.r.ao f.r.len f.r.cap,.int .i64 f.r.h,.int .i64 f.r.e,.slice f.c.ao f.c.len f.c.cap,.int .i64 f.h,.int .i64 f.e,.int .i64 f.sl,.slice f.cd.ao f.cd.len f.cd.cap,.slice f.hd.ao f.hd.len f.hd.cap,.slice f.pt.ao f.pt.len f.pt.cap,.slice f.rg.ao f.rg.len f.rg.cap] 44
theorem Bf.new (w:World)(f:Fn):Bf (w.alloc (fnO f)) w.heap.size f:=by
 constructor <;> simp[fnO]
structure Fn.At (w:World)(f:Fn):Prop where
 p:f.p.At w
 r:f.r.At w
 c:f.c.At w
theorem Fn.At.kept {w w':World}{f:Fn}(h:f.At w)(hb:Below w.heap.size w w'):f.At w':=⟨h.p.kept hb,h.r.kept hb,h.c.kept hb⟩
def funT (n:Strs)(g:Grid)(f:Fn):Ty:=.mk 4 (botI n g) f.h f.e none 0 0 2 2 (fun i=>if i=0 then f.p else f.r)
def zee (n:Strs)(g:Grid)(f:Fn):Ty:=zak n g (funT n g f) (botI n g)
theorem zt7 (u:Ty)(k l h e:Int)(ao ao':Option Addr)(b b' o o' len cap cap':Nat)(ps:Nat→Ty):u.same (.mk k l h e ao b o len cap ps)=u.same (.mk k l h e ao' b' o' len cap' ps):=by
 cases u <;> rfl
theorem ztx {n:Strs}{g:Grid}{f:Fn}{u:Ty}(ao:Option Addr)(b o cap:Nat)(h:u.same (zak n g (.mk 4 (botI n g) f.h f.e ao b o 2 cap (fun i=>if i=0 then f.p else f.r)) (botI n g))=true):u.same (zee n g f)=true:=by
 have e:okB n g (.mk 4 (botI n g) f.h f.e ao b o 2 cap (fun i=>if i=0 then f.p else f.r))=okB n g (funT n g f):=rfl;unfold zee;unfold zak at h ⊢;rw[←e];split
 ·rename_i hh
  rw[if_pos hh] at h;unfold funT;rw[show (Ty.mk 4 (botI n g) f.h f.e none 0 0 2 2 (fun i=>if i=0 then f.p else f.r)).setL (zb3 n g (Ty.mk 4 (botI n g) f.h f.e none 0 0 2 2 (fun i=>if i=0 then f.p else f.r)).l (botI n g))=Ty.mk 4 (zb3 n g (botI n g) (botI n g)) f.h f.e none 0 0 2 2 (fun i=>if i=0 then f.p else f.r) from rfl];rw[zt7 u _ _ _ _ none ao 0 b 0 o 2 2 cap];exact h
 ·rename_i hh
  rw[if_neg hh] at h;exact h
end
section
open Go Go.RowKit
section
variable {P:Program} {ops:Array Oper} {Q:Exit→Act→World→Prop} {md:Region.Mode} {S:World→Prop} {m:Nat}
end
section
variable {P:Program} {ops:Array Oper} {Q:Exit→Act→World→Prop}
def zsf (o:Oper):Bool:=match o.op with
 | .call c=>(match c.callee with | .builtin .len=>true | _=>false)
 | _=>false
def zie (o:Oper):Bool:=zey o||zsf o
theorem zn6 {o:Oper}(h:zie o=true)(ρ:Operand→Value)(w w':World)(n:Next)(hr:(execOp ρ o).run P w=.ok n w'):∃u,n=.value u:=by
 unfold zie at h;rw[Bool.or_eq_true] at h;rcases h with h | h
 ·exact zfy h ρ w w' n hr
 ·unfold zsf at h;cases ho:o.op
  case call c =>
   rw[ho] at h;simp only at h;cases hc:c.callee
   case builtin b =>
    rw[hc] at h;cases b
    case len =>
     unfold execOp at hr;rw[ho] at hr;simp only[hc,resolve,invoke,builtin,Sem.run_bind,Sem.run_pure,Result.andThen_ok] at hr;cases hq:Sem.run P (Builtin.len_ c.argTypes o.type (Array.map ρ c.args)) w with
     | ok a w2=>rw[hq] at hr;simp only[Result.andThen_ok] at hr;exact⟨_,(Result.ok.inj hr).1.symm⟩
     | halt x w2=>rw[hq] at hr;simp[Result.andThen] at hr
    all_goals (cases h)
   all_goals (rw[hc] at h;cases h)
  all_goals (rw[ho] at h;cases h)
theorem zg6 {S:World→Prop}{o:Oper}{a:Act}{K:Act→Prop}(hr:zie o=true)(h:if Region.wanted o (yielded ops a.tmps) then o.quiet P a S K else K (a.put o.dst undef)):∃v,YieldsIf P ops S o v a∧K (a.put o.dst v):=by
 by_cases hw:Region.wanted o (yielded ops a.tmps)=true
 ·rw[if_pos hw] at h;obtain⟨v,h1,h2⟩:=h;refine⟨v,Or.inl ⟨hw,fun w hS=>?_⟩,h2⟩;have h3:=h1 w hS;unfold Oper.quietAt at h3;cases hq:(execOp a.eval o).run P w with
  | ok n w' =>
   obtain⟨u,rfl⟩:=zn6 hr _ _ _ _ hq;rw[hq] at h3;simp only[Oper.quietUpon] at h3;rw[h3.1,h3.2]
  | halt x w'=>rw[hq] at h3;simp only[Oper.quietUpon] at h3
 ·rw[if_neg hw] at h;exact⟨undef,Or.inr ⟨by simpa using hw,rfl⟩,h⟩
def lexV (ops:Array Oper):List Nat→List Oper→Array Bool→Bool
 | [],[],_=>true
 | i :: js,o :: l,listed=>zie o&&(Region.ready .any ops listed).contains i&&Region.free .any ops listed i&&lexV ops js l (listed.setIfInBounds i true)
 | _,_,_=>false
theorem zgz {S:World→Prop}{K:Act→Prop}{rest:Nat}{w:World}(hs:Region.noSelect ops=true)(hQ:∀c a d v w,Q (.panic c) (Act.put a d v) w→Q (.panic c) a w)(hS:S w):∀(js:List Nat) (l:List Oper) (listed:Array Bool) (a:Act),(∀j,j<l.length→∃i,js[j]?=some i∧ops[i]?=l[j]?) →
  lexV ops js l listed=true→wpQuiet P ops S K l a→(∀a',K a'→wpAnyH P .any ops Q S rest (zbn js listed) a' w)→wpAnyH P .any ops Q S (js.length+rest) listed a w
 | [],[],_,_,_,_,h,hK=>by simpa [zbn] using hK _ h
 | [],_ :: _,_,_,_,hB,_,_=>by simp[lexV] at hB
 | _ :: _,[],_,_,_,hB,_,_=>by simp[lexV] at hB
 | i :: js,o :: l,listed,a,hl,hB,h,hK=>by
  have h0:ops[i]?=some o:=by
   obtain⟨i',h1,h2⟩:=hl 0 (by simp);have:i=i':=by simpa using h1
   subst this
   simpa using h2
  simp only[lexV,Bool.and_eq_true] at hB;obtain⟨⟨⟨hr,hc⟩,hf⟩,hB'⟩:=hB;have h':if Region.wanted o (yielded ops a.tmps) then o.quiet P a S (wpQuiet P ops S K l) else wpQuiet P ops S K l (a.put o.dst undef):=h
  obtain⟨v,hy,hk⟩:=zg6 (ops:=ops) hr h';rw[show (i :: js).length+rest=(js.length+rest)+1 by simp;omega]
  exact wpAnyH_take h0 hs hf hc (fun c a w=>hQ c a _ _ w) hy hS (zgz hs hQ hS js l _ _ (fun j hj=>by
   obtain⟨i',h1,h2⟩:=hl (j+1) (by simp;omega)
   exact⟨i',by simpa using h1,by simpa using h2⟩) hB' hk hK)
theorem zje {id:Nat}{a:Act}{w:World}{l:List Oper}(S:World→Prop)(js:List Nat)(rest:Nat)(hm:P.follows .mixedOrders=true)(hlen:l.length=js.length+rest)(hB:(Region.noSelect l.toArray&&lexV l.toArray js (js.filterMap (l[·]?)) (Array.replicate l.length false))=true)(hj:∀j,j<(js.filterMap (l[·]?)).length→∃i,js[j]?=some i∧l.toArray[i]?=(js.filterMap (l[·]?))[j]?)
  (hQ:∀c a d v w,Q (.panic c) (Act.put a d v) w→Q (.panic c) a w) (hS:S w.drew)
  (h:wpQuiet P l.toArray (fun u=>∃x:Wd S,u=x.w) (fun a'=>wpAnyH P .any l.toArray Q S rest (zbn js (Array.replicate l.length false)) a' w.drew) (js.filterMap (l[·]?)) a):(Code.region id l.toArray true).wp P Q a w:=by
 simp only[Bool.and_eq_true] at hB;refine wp_region_held_drew (S:=S) hm hS fun hS=>?_;have e3:Array.replicate l.toArray.size false=Array.replicate l.length false:=by simp
 have e2:l.toArray.size=js.length+rest:=by simpa using hlen
 have eS:(fun u:World=>∃x:Wd S,u=x.w)=S:=by
  funext u;apply propext
  exact⟨fun ⟨x,hx⟩=>hx ▸ x.2,fun h=>⟨⟨u,h⟩,rfl⟩⟩
 rw[eS] at h;rw[e3,e2];exact zgz hB.1 hQ hS js _ _ a hj hB.2 h (fun a' h=>h)
end
theorem zin {P:Program}{Q:Exit→Act→World→Prop}{id:Nat}{a:Act}{w:World}{l:List Oper}(S:World→Prop)(js:List Nat)(rest:Nat)(hm:P.follows .mixedOrders=true)(hlen:l.length=js.length+rest)(hB:(Region.noSelect l.toArray&&lexV l.toArray js (js.filterMap (l[·]?)) (Array.replicate l.length false))=true)(hj:∀j,j<(js.filterMap (l[·]?)).length→∃i,js[j]?=some i∧l.toArray[i]?=(js.filterMap (l[·]?))[j]?)
  (hS:S w.drew)
  (h:wpQuiet P l.toArray (fun u=>∃x:Wd S,u=x.w) (fun a'=>wpAnyH P .any l.toArray (zf2 Q) S rest (zbn js (Array.replicate l.length false)) a' w.drew) (js.filterMap (l[·]?)) a):(Code.region id l.toArray true).wp P Q a w :=
 Code.wp_mono (fun _ _ _ h=>h.2) (zje S js rest hm hlen hB hj (fun c _ _ _ _ h=>absurd rfl (h.1 c)) hS h)
theorem hj_ofV {l:List Oper}{js:List Nat}(h:(js.all fun i=>decide (i<l.length))=true):∀j,j<(js.filterMap (l[·]?)).length→∃i,js[j]?=some i∧l.toArray[i]?=(js.filterMap (l[·]?))[j]?:=by
 induction js with
 | nil=>intro j hj;simp at hj
 | cons i js ih =>
  simp only[List.all_cons,Bool.and_eq_true,decide_eq_true_eq] at h;have e:l[i]?=some l[i]:=List.getElem?_eq_getElem h.1;intro j hj;cases j with
  | zero=>exact⟨i,rfl,by simp[e]⟩
  | succ j =>
   rw[List.filterMap_cons,e] at hj;obtain⟨i',h1,h2⟩:=ih h.2 j (by simpa using hj);refine⟨i',by simpa using h1,?_⟩;rw[h2,List.filterMap_cons,e];simp
end
end Go.Proofs.YtfobijdkoeifjaaGreatDoor
